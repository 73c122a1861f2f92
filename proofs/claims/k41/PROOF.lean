import PyProof.Rows.All
import Wide.All
import OpenK.AllK
import Wide.FinOn
import HandS.ForMost
import HandS.Wide
import HandS.StrMore
import HandS.Style
import HandS.Flow
import HandS.Walk
import PyProof.Draws
import PyProof.StrOps2
import HandS.IntHex
import HandS.Dict
import HandS.More
import KE.KIntText
import HandS.ReplaceLit
import PyProof.ToksMono
import HandS.CallLocal
import HandS.RevRange
import HandS.Conv
import HandS.Zip
import HandS.TupAny
import HandS.ReplaceDef
import HandS.ReplaceList
import KE.GoesMore
import KE.GoesZip
import OpenK.KMore
import PyProof.Rows.StrSplitMax
import HandS.StrSplit
import HandS.Style
import PyProof.ReprRoads
import HandS.IsInst
import HandS.Defaults
import HandS.SetKeys
import HandS.DictComp
import HandS.WordsDict
import KE.KDictZip
import PyProof.ListStr
import HandS.DictTup
import HandS.Iter
import KE.KDictCopyH
import KE.KItemsList
import PyProof.DictMoreH
import PyProof.DictItems
import HandS.Small
import HandS.TupMul
import KE.KStateDown
import HandS.Head0
import HandS.Head1
import HandS.Head2
import HandS.HeadEnd
import HandS.HeadHook1
import HandS.HeadHook2
import HandS.HeadHook3
import HandS.HeadHook4
import PySem.Challenge.RW_plainmark_k41_whole_emphasis_of_soups
set_option Elab.async false
set_option linter.all false
set_option maxRecDepth 100000
namespace My
open PySem PySem.Spec PyProof.Rows L2
/-- a text by its signs -/
def S (l : List Nat) : Str := ⟨l.toArray⟩
theorem S_tl (l : List Nat) : (S l).cps.toList = l := by simp [S]
theorem S_of (z : Str) : z = S z.cps.toList := by
  cases z
  simp [S]
theorem S_len (l : List Nat) : (S l).length = l.length := by simp [S, Str.length]
theorem S_size (l : List Nat) : (S l).cps.size = l.length := by simp [S]
theorem S_app (a b : List Nat) : S a ++ S b = S (a ++ b) := by
  show (⟨a.toArray ++ b.toArray⟩ : Str) = ⟨(a ++ b).toArray⟩
  simp
theorem S_inj {a b : List Nat} (h : S a = S b) : a = b := by
  have := congrArg (fun z : Str => z.cps.toList) h
  simpa [S] using this
theorem S_dec (a b : List Nat) : decide (V.str (S a) = V.str (S b)) = decide (a = b) := by
  by_cases h : a = b
  · subst h
    simp
  · have h2 : ¬ V.str (S a) = V.str (S b) := fun e => h (S_inj (V.str.inj e))
    simp [h, h2]
theorem S_cut (l : List Nat) (k : Nat) : cutS (S l) (some (k : Int)) none = S (l.drop k) := by
  unfold cutS
  rw [HT.sIx_nat, HT.sIx_none, S_len, S_tl]
  show S _ = S _
  congr 1
  by_cases h : k ≤ l.length
  · rw [Nat.min_eq_left h]
    exact List.take_of_length_le (by rw [List.length_drop]; omega)
  · rw [Nat.min_eq_right (by omega), Nat.sub_self, List.take_zero, List.drop_of_length_le (by omega)]
theorem S_cut2 (l : List Nat) (j k : Nat) (h : j ≤ k) : cutS (S l) (some (j : Int)) (some (k : Int)) = S ((l.drop j).take (k - j)) := by
  unfold cutS
  rw [HT.sIx_nat, HT.sIx_nat, S_len, S_tl]
  show S _ = S _
  congr 1
  by_cases h1 : j ≤ l.length
  · rw [Nat.min_eq_left h1]
    by_cases h2 : k ≤ l.length
    · rw [Nat.min_eq_left h2]
    · rw [Nat.min_eq_right (by omega), List.take_of_length_le (by rw [List.length_drop]; omega), List.take_of_length_le (by rw [List.length_drop]; omega)]
  · rw [List.drop_of_length_le (by omega), List.drop_of_length_le (by omega), List.take_nil, List.take_nil]
/-- all that is tracked but L stays -/
def Keeps (L : Addr) (H H' : Hp) : Prop := ∀ b o, b ≠ L → H b = some o → H' b = some o
theorem Keeps.refl {L : Addr} (H : Hp) : Keeps L H H := fun _ _ _ h => h
theorem Keeps.trans {L : Addr} {H H1 H2 : Hp} (a : Keeps L H H1) (b : Keeps L H1 H2) : Keeps L H H2 := fun c o n h => b c o n (a c o n h)
theorem Keeps.new {L p : Addr} {H : Hp} {o : HO} (h : H p = none) : Keeps L H (upd H p o) := fun b u _ e => by
  rw [upd_ne (ne_of_none e h)]
  exact e
theorem Keeps.at {L : Addr} {H : Hp} {o : HO} : Keeps L H (upd H L o) := fun b u n e => by
  rw [upd_ne n]
  exact e
theorem Keeps.of {L : Addr} {H H' : Hp} (h : Same H H') : Keeps L H H' := fun b o _ e => h b o e
theorem same_new {p : Addr} {H : Hp} {o : HO} (h : H p = none) : Same H (upd H p o) := fun b u e => by
  rw [upd_ne (ne_of_none e h)]
  exact e
/-- a well of draws -/
def Well (H : Hp) (L : Addr) : Prop := ∃ x y : Int, H L = some (.lst [.int x, .int y])
theorem Well.same {H H' : Hp} {L : Addr} (h : Well H L) (s : Same H H') : Well H' L := by
  obtain ⟨x, y, e⟩ := h
  exact ⟨x, y, s _ _ e⟩
theorem Well.new {H : Hp} {L p : Addr} {o : HO} (h : Well H L) (n : H p = none) : Well (upd H p o) L := h.same (same_new n)
theorem Well.ne {H : Hp} {L p : Addr} (h : Well H L) (n : H p = none) : p ≠ L := by
  obtain ⟨x, y, e⟩ := h
  exact (ne_of_none e n).symm
theorem Well.kept {H H' : Hp} {L p : Addr} (h : Well H L) (k : Keeps L H H') (w : Well H' L) (n : H' p = none) : H p = none := by
  cases q : H p with
  | none => rfl
  | some o =>
    have z := k p o (w.ne n) q
    rw [n] at z
    cases z
theorem Keeps.free {L p : Addr} {H H' : Hp} (k : Keeps L H H') (n : H' p = none) (h : p ≠ L) : H p = none := by
  cases q : H p with
  | none => rfl
  | some o =>
    have z := k p o h q
    rw [n] at z
    cases z
theorem Keeps.seq {K : PySem.W.Frag} {L a : Addr} {H H' : Hp} {xs : List V} (k : Keeps L H H') (n : a ≠ L) (h : SqL K H a xs) : SqL K H' a xs := by
  rcases h with (h | ⟨o, h⟩) | h
  · exact .inl (.inl (k _ _ n h))
  · exact .inl (.inr ⟨o, k _ _ n h⟩)
  · exact .inr h
theorem Keeps.tup {K : PySem.W.Frag} {L a : Addr} {H H' : Hp} {xs : List V} (k : Keeps L H H') (n : a ≠ L) (h : SqT K H a xs) : SqT K H' a xs := by
  rcases h with (h | ⟨o, h⟩) | h
  · exact .inl (.inl (k _ _ n h))
  · exact .inl (.inr ⟨o, k _ _ n h⟩)
  · exact .inr h
def Sm (l : List Nat) : Prop := ∀ c ∈ l, c < 1114112
theorem Sm.ok {l : List Nat} (h : Sm l) : PyData.strOk (S l) = true := by
  unfold PyData.strOk S
  rw [Array.all_eq_true']
  intro c hc
  exact decide_eq_true (h c (by simpa using hc))
theorem Sm.drop {l : List Nat} (h : Sm l) (n : Nat) : Sm (l.drop n) := fun c hc => h c (List.mem_of_mem_drop hc)
/-- a text and two ints -/
def D3 (l : List Nat) (b c : Int) : PyData := .tuple [.str (S l), .int b, .int c]
theorem dp3 {K : PySem.W.Frag} {H : Hp} {a : Addr} {l : List Nat} {b c : Int} (h : SqT K H a [.str (S l), .int b, .int c]) : Dp K H (.ref a) (D3 l b c) :=
  .tup h (.cons (.str _) (.cons (.int _) (.cons (.int _) .nil)))
def AnsB (t : TT) (σ : L2.St) (H : Hp) (b : Bool) : Prop := ∀ Q : Bool → Hp → Prop, Q b H → t σ H Q
def ValB (te : TE) (σ : L2.St) (H : Hp) (P : V → Hp → Prop) : Prop := ∀ Q : VK, (∀ v H', P v H' → Q v H') → te σ H Q
theorem tif_val {t : TT} {ta tb : TE} {σ : L2.St} {H : Hp} {P : V → Hp → Prop} (b : Bool) (ht : AnsB t σ H b) (ha : b = true → ValB ta σ H P) (hb : b = false → ValB tb σ H P) : ValB (tIf t ta tb) σ H P := by
  intro Q q
  refine ht _ ?_
  cases b with
  | true =>
    rw [if_pos rfl]
    exact ha rfl Q q
  | false =>
    rw [if_neg Bool.false_ne_true]
    exact hb rfl Q q
theorem asg_if {t : TT} {ta tb : TE} {g : TG} {u : TS} {D : Ends} {σ : L2.St} {H : Hp} (P : V → Hp → Prop) (b : Bool) (ht : AnsB t σ H b) (ha : b = true → ValB ta σ H P) (hb : b = false → ValB tb σ H P)
    (hq : ∀ v H', P v H' → g v σ H' (u D)) : tSeq (tAsg (tIf t ta tb) g) u D σ H :=
  tif_val b ht ha hb (fun v H' => g v σ H' (u D)) hq
theorem go_nx {D : Ends} {σ : L2.St} {H : Hp} (q : D.nx σ H) : tNext D σ H := q
end My
namespace My
open PySem PySem.Spec PyProof.Rows L2 PySem.StrLaws PySem.Builtin.Str
theorem from_nat (n p : Nat) : fromIndex n (p : Int) = p := by
  unfold fromIndex
  have : ¬ (p : Int) < 0 := by omega
  rw [if_neg this]
  omega
theorem to_nat (n p : Nat) : toIndexW n (p : Int) = min n p := by
  unfold toIndexW
  have : ¬ (p : Int) < 0 := by omega
  rw [if_neg this]
  omega
theorem sub_S (t w : List Nat) (i : Nat) : subAt (S t) (S w) i = ((t.drop i).take w.length == w) := by
  rw [subAt_eq, S_tl, S_tl, S_len]
theorem take_pre : ∀ (w r : List Nat), (r.take w.length == w) = w.isPrefixOf r
  | [], r => by simp [List.isPrefixOf]
  | a :: w, [] => by simp [List.isPrefixOf]
  | a :: w, b :: r => by
    show (b :: r.take w.length == a :: w) = (a == b && w.isPrefixOf r)
    rw [← take_pre w r]
    show (b == a && (r.take w.length == w)) = _
    have e : (b == a) = (a == b) := by
      by_cases h : a = b
      · rw [h]
      · rw [beq_eq_false_iff_ne.mpr h, beq_eq_false_iff_ne.mpr fun e => h e.symm]
    rw [e]
theorem pre_len : ∀ (w r : List Nat), w.isPrefixOf r = true → w.length ≤ r.length
  | [], r, _ => Nat.zero_le _
  | a :: w, [], h => by cases h
  | a :: w, b :: r, h => by
    have h2 : w.isPrefixOf r = true := (Bool.and_eq_true_iff.mp (show (a == b && w.isPrefixOf r) = true from h)).2
    have := pre_len w r h2
    simp
    omega
theorem at_S (t w : List Nat) (hw : w ≠ []) (i : Nat) : At (S t) (S w) (S t).length i ↔ w.isPrefixOf (t.drop i) = true := by
  unfold At
  rw [sub_S, take_pre, S_len, S_len]
  constructor
  · exact fun h => h.2
  · intro h
    refine ⟨?_, h⟩
    have := pre_len _ _ h
    rw [List.length_drop] at this
    have h0 : 0 < w.length := List.length_pos_iff.mpr hw
    omega
theorem starts3 (t w : List Nat) (hw : w ≠ []) (p : Nat) : Txt.startswith3 (S t) (S w) (p : Int) = w.isPrefixOf (t.drop p) := by
  unfold Txt.startswith3
  rw [from_nat, sub_S, take_pre]
  cases h : w.isPrefixOf (t.drop p) with
  | false => simp
  | true =>
    have := (at_S t w hw p).mpr h
    have h1 : p + (S w).length ≤ (S t).length := this.1
    simp [h1]
theorem starts1 (t w : List Nat) (hw : w ≠ []) : Txt.startswith (S t) (S w) = w.isPrefixOf t := by
  have := starts3 t w hw 0
  unfold Txt.startswith3 at this
  rw [from_nat, List.drop_zero] at this
  exact this
/-- the first place of w -/
def findL (w : List Nat) : List Nat → Option Nat
  | [] => if w = [] then some 0 else none
  | c :: r => if w.isPrefixOf (c :: r) = true then some 0 else (findL w r).map (· + 1)
theorem findL_some {w : List Nat} : ∀ {r : List Nat} {k : Nat}, w ≠ [] → findL w r = some k → w.isPrefixOf (r.drop k) = true ∧ ∀ j, j < k → w.isPrefixOf (r.drop j) = false
  | [], k, hw, h => by
    unfold findL at h
    rw [if_neg hw] at h
    cases h
  | c :: r, k, hw, h => by
    unfold findL at h
    split at h
    · rename_i hp
      cases h
      exact ⟨hp, fun j hj => absurd hj (Nat.not_lt_zero _)⟩
    · rename_i hp
      cases hf : findL w r with
      | none => rw [hf] at h; cases h
      | some k' =>
        rw [hf] at h
        have e : k' + 1 = k := Option.some.inj h
        subst e
        obtain ⟨h1, h2⟩ := findL_some hw hf
        refine ⟨h1, fun j hj => ?_⟩
        cases j with
        | zero => exact eq_false_of_ne_true hp
        | succ j => exact h2 j (by omega)
theorem findL_none {w : List Nat} : ∀ {r : List Nat}, w ≠ [] → findL w r = none → ∀ j, w.isPrefixOf (r.drop j) = false
  | [], hw, _, j => by
    rw [List.drop_nil]
    cases w with
    | nil => exact absurd rfl hw
    | cons a w => rfl
  | c :: r, hw, h, j => by
    unfold findL at h
    split at h
    · cases h
    · rename_i hp
      cases hf : findL w r with
      | some k => rw [hf] at h; cases h
      | none =>
        cases j with
        | zero => exact eq_false_of_ne_true hp
        | succ j => exact findL_none hw hf j
theorem find3_S (t w : List Nat) (hw : w ≠ []) (p : Nat) : Txt.find3 (S t) (S w) (p : Int) = match findL w (t.drop p) with | some k => ((p + k : Nat) : Int) | none => -1 := by
  unfold Txt.find3
  rw [from_nat]
  rcases occ_head_from (S t) (S w) p 1 (Nat.le_refl _) with ⟨h0, hn⟩ | ⟨i, r, h0, hp, ha, hn⟩
  · rw [h0]
    cases hf : findL w (t.drop p) with
    | none => rfl
    | some k =>
      have h1 := (findL_some hw hf).1
      rw [List.drop_drop] at h1
      exact absurd ((at_S t w hw (p + k)).mpr h1) (hn (p + k) (by omega))
  · rw [h0]
    have ha' := (at_S t w hw i).mp ha
    cases hf : findL w (t.drop p) with
    | none =>
      have h1 := findL_none hw hf (i - p)
      rw [List.drop_drop, show p + (i - p) = i by omega, ha'] at h1
      cases h1
    | some k =>
      obtain ⟨h1, h2⟩ := findL_some hw hf
      rw [List.drop_drop] at h1
      have e : i = p + k := by
        rcases Nat.lt_trichotomy i (p + k) with h | h | h
        · have h3 := h2 (i - p) (by omega)
          rw [List.drop_drop, show p + (i - p) = i by omega, ha'] at h3
          cases h3
        · exact h
        · exact absurd ((at_S t w hw (p + k)).mpr h1) (hn (p + k) (by omega) h)
      show ((i : Nat) : Int) = _
      rw [e]
/-- small letters, great letters -/
theorem lower_S (t : List Nat) (h : ∀ c ∈ t, c < 128) : Txt.lower (S t) = S (t.map lo1) := by
  rw [lower_ascii (by rw [S_tl]; exact h)]
  show (⟨t.toArray.map lo1⟩ : Str) = ⟨(t.map lo1).toArray⟩
  simp
end My
namespace PySem
open Sem (wp)
open Builtin Builtin.Str
end PySem
namespace My
open PySem PySem.Spec PyProof.Rows L2
end My
namespace My
open PySem PySem.Spec PyProof.Rows L2 PySem.StrLaws PySem.Builtin.Str
def EntS : List DictEntry → List (Str × V) → Prop
  | [], [] => True
  | e :: es, p :: ps => (∃ t, e.key = .str p.1 t) ∧ RelV p.2 e.val ∧ EntS es ps
  | _, _ => False
structure KDictS (K : PySem.W.Frag) (w : World) (d : Addr) (ps : List (Str × V)) : Prop where
  here : ∃ es n, KDict K w d es n ∧ EntS es.toList ps
theorem entS_find (k : Str) : ∀ {es : List DictEntry} {ps : List (Str × V)}, EntS es ps →
    match ps.lookup k with
    | none => (es.find? fun e => Value.isStrOf k e.key).map (·.val) = none
    | some v => ∃ u, (es.find? fun e => Value.isStrOf k e.key).map (·.val) = some u ∧ RelV v u
  | [], [], _ => rfl
  | [], _ :: _, h => h.elim
  | _ :: _, [], h => h.elim
  | e :: es, p :: ps, ⟨⟨t, h1⟩, h2, r⟩ => by
    have ih := entS_find k r
    rw [List.find?_cons, List.lookup_cons, h1]
    by_cases h : k = p.1
    · subst h
      have e1 : Value.isStrOf p.1 (.str p.1 t) = true := by simp [Value.isStrOf]
      rw [e1, beq_self_eq_true]
      exact ⟨_, rfl, h2⟩
    · have e1 : Value.isStrOf k (.str p.1 t) = false := by
        cases q : Value.isStrOf k (.str p.1 t) with
        | false => rfl
        | true =>
          obtain ⟨t', e⟩ := Value.isStrOf_shape q
          cases e
          exact absurd rfl h
      rw [e1, beq_eq_false_iff_ne.mpr h]
      exact ih
section
variable {X : Cx} {d : Addr} {ps : List (Str × V)}
theorem kds_map {prog : Program} {w : World} {h : Heap} {K : PySem.W.Frag} (D : KDictS K w d ps) (I : K.In h) (k : Str) : (d == sysModules) = false ∧ ∃ f : Str → Option Value, h.MapOf (strKind prog w) d f ∧
    match ps.lookup k with
    | none => f k = none
    | some v => ∃ u, f k = some u ∧ RelV v u := by
  obtain ⟨es, n, D, he⟩ := D.here
  refine ⟨D.low, _, PySem.W.mapOf_K (prog := prog) I D.at_ D.lit, ?_⟩
  have := entS_find k he
  obtain ⟨l⟩ := es
  simpa only [findBy, List.find?_toArray] using this
theorem op_in_ks (D : KDictS X.K X.w d ps) : OpR X (compareOp .In) (fun x y H Q => ∃ z : Str, x = .str z ∧ y = .ref d ∧ Q (.bl (ps.lookup z).isSome) H) := by
  intro pins s σ H x y v u Q I rx ry h
  obtain ⟨z, rfl, rfl, q⟩ := h
  obtain ⟨t, rfl⟩ := rx
  cases ry
  obtain ⟨low, f, hm, hf⟩ := kds_map (prog := X.prog) D I.kIn z
  refine wpAny_in_of (PySem.strKind_is X.prog X.w z t) low hm ?_
  refine ⟨.bl (ps.lookup z).isSome, H, I.tok _, ?_, q⟩
  show Value.bool _ = Value.bool _
  cases e : ps.lookup z with
  | none => rw [e] at hf; rw [show f z = none from hf]; rfl
  | some v => rw [e] at hf; obtain ⟨u, h1, _⟩ := hf; rw [h1]; rfl
theorem op_notIn_ks (D : KDictS X.K X.w d ps) : OpR X (compareOp .NotIn) (fun x y H Q => ∃ z : Str, x = .str z ∧ y = .ref d ∧ Q (.bl (!(ps.lookup z).isSome)) H) := by
  intro pins s σ H x y v u Q I rx ry h
  obtain ⟨z, rfl, rfl, q⟩ := h
  obtain ⟨t, rfl⟩ := rx
  cases ry
  obtain ⟨low, f, hm, hf⟩ := kds_map (prog := X.prog) D I.kIn z
  refine wpAny_notIn_of (PySem.strKind_is X.prog X.w z t) low hm ?_
  refine ⟨.bl (!(ps.lookup z).isSome), H, I.tok _, ?_, q⟩
  show Value.bool _ = Value.bool _
  cases e : ps.lookup z with
  | none => rw [e] at hf; rw [show f z = none from hf]; rfl
  | some v => rw [e] at hf; obtain ⟨u, h1, _⟩ := hf; rw [h1]; rfl
theorem ix_ks (D : KDictS X.K X.w d ps) : IxR X (fun x y H Q => ∃ (z : Str) (v : V), x = .ref d ∧ y = .str z ∧ ps.lookup z = some v ∧ Q v H) := by
  intro value slice pins s σ H x y v u Q I rx ry h hs
  obtain ⟨z, a, rfl, rfl, e, q⟩ := h
  obtain rfl : v = Value.ref d := rx
  obtain ⟨t, rfl⟩ := ry
  obtain ⟨low, f, hm, hf⟩ := kds_map (prog := X.prog) D I.kIn z
  rw [e] at hf
  obtain ⟨u, h1, ru⟩ := hf
  exact tail_any hm.typeIs slot_dict_getitem.lookup (wpAny_getItem_of (strKind_is X.prog X.w z t) hm h1 ⟨a, H, I.tok _, ru, q⟩) hs
/-- NAMES.get(key) -/
theorem pe_kget {o e : Expr} {to te : TE} {apos cpos : Pos} (D : KDictS X.K X.w d ps) (ho : PE X o to) (he : PE X e te) (m : M1 X o "get" apos e cpos) :
    PE X (.Call (.Attribute o "get" apos) [e] [] cpos) (fun σ H Q => to σ H fun x H1 => x = .ref d ∧ te σ H1 fun y H2 => ∃ z : Str, y = .str z ∧ Q ((ps.lookup z).getD .non) H2) := by
  refine ⟨fun pins s σ H Q I h => ?_⟩
  refine wpAny_Call_method m.base m.few m.line PySem.F.plainAttrs_dict PySem.F.slot_dict_get PySem.F.type_dict_get (thn (ho.run pins s σ H _ I h) fun u s1 ⟨x, H1, I1, rx, ex, q1⟩ => ?_)
  subst ex
  obtain rfl : u = Value.ref d := rx
  obtain ⟨low, f, hm, hf⟩ := kds_map (prog := X.prog) D I1.kIn ""
  refine ⟨hm.typeIs, hm.noDict, ?_⟩
  rw [m.trees]
  refine Calls.callWith_builtin rfl (Calls.evalArgs_plain (Calls.spliced_cons (thn (he.run pins s1 σ H1 _ I1 q1) fun iv s2 ⟨y, H2, I2, ry, z, ez, q2⟩ => Calls.spliced_nil ?_)))
  subst ez
  obtain ⟨t, rfl⟩ := ry
  obtain ⟨low, f, hm, hf⟩ := kds_map (prog := X.prog) D I2.kIn z
  refine call_meetsIn PySem.F.slot_dict_get hm.typeIs PySem.F.entry_dict_get (PySem.F.args_dict_get_2 _ _) (meets_dict_get (strKind X.prog X.w) d (strKind_is X.prog X.w z t) low) ⟨_, hm, ?_⟩
  refine ⟨(ps.lookup z).getD .non, H2, I2.tok _, ?_, q2⟩
  cases e : ps.lookup z with
  | none => rw [e] at hf; rw [show f z = none from hf]; rfl
  | some v => rw [e] at hf; obtain ⟨u, h1, r⟩ := hf; rw [h1]; exact r
end
theorem occ_take (t w : List Nat) (lo hi : Nat) (h : hi ≤ t.length) : occurrences (S t) (S w) lo hi 1 = occurrences (S (t.take hi)) (S w) lo hi 1 := by
  rw [occ_eq, occ_eq]
  have e : occBody (S t) (S w) hi 1 = occBody (S (t.take hi)) (S w) hi 1 := by
    funext i st
    unfold occBody
    by_cases hc : i + (S w).length ≤ hi
    · have e2 : subAt (S t) (S w) i = subAt (S (t.take hi)) (S w) i := by
        rw [S_len] at hc
        rw [sub_S, sub_S, List.drop_take, List.take_take, Nat.min_eq_left (by omega)]
      rw [e2]
    · rw [if_neg fun z => hc z.1.2, if_neg fun z => hc z.1.2]
  rw [e]
theorem findIn_S (t w : List Nat) (hw : w ≠ []) (p j : Nat) : Txt.findIn (S t) (S w) (p : Int) ((p + j : Nat) : Int) = match findL w ((t.drop p).take j) with | some k => ((p + k : Nat) : Int) | none => -1 := by
  unfold Txt.findIn
  rw [from_nat, to_nat, S_len]
  by_cases hp : p ≤ t.length
  · have h1 : min t.length (p + j) ≤ t.length := Nat.min_le_left _ _
    rw [occ_take t w p _ h1]
    have h2 := find3_S (t.take (min t.length (p + j))) w hw p
    unfold Txt.find3 at h2
    rw [from_nat, S_len, List.length_take, Nat.min_eq_left h1, List.drop_take] at h2
    have e : (t.drop p).take (min t.length (p + j) - p) = (t.drop p).take j := by
      by_cases hj : p + j ≤ t.length
      · rw [Nat.min_eq_right hj, Nat.add_sub_cancel_left]
      · rw [Nat.min_eq_left (by omega), List.take_of_length_le (by rw [List.length_drop]; omega), List.take_of_length_le (by rw [List.length_drop]; omega)]
    rw [e] at h2
    exact h2
  · rw [List.drop_of_length_le (by omega), List.take_nil]
    have hn : findL w [] = none := by
      unfold findL
      rw [if_neg hw]
    rw [hn, Nat.min_eq_left (by omega)]
    have : occurrences (S t) (S w) p t.length 1 = [] := by
      have h2 := find3_S t w hw p
      unfold Txt.find3 at h2
      rw [from_nat, List.drop_of_length_le (by omega), hn, S_len] at h2
      cases ho : occurrences (S t) (S w) p t.length 1 with
      | nil => rfl
      | cons a b =>
        rw [ho] at h2
        have h3 : ((a : Nat) : Int) = -1 := h2
        omega
    rw [this]
open PySem.NumText PySem.Calls
def IsDec (c : Nat) : Prop := 48 ≤ c ∧ c ≤ 57
def decNum (l : List Nat) : Nat := l.foldl (fun a c => a * 10 + (c - 48)) 0
theorem step_dec {ds : Array Nat} {b : Bool} {c : Nat} (h : IsDec c) : PySem.NumText.step 10 (ds, b) c = some (ds.push (c - 48), true) := by
  unfold IsDec at h
  unfold PySem.NumText.step
  rw [if_neg (by rw [beq_iff_eq]; omega)]
  have e : digit? c = some (c - 48) := by
    unfold digit?
    rw [if_pos (Hx.bb h.1 h.2)]
  rw [e]
  exact if_pos (by omega)
theorem foldl_dec : ∀ (cs : List Nat) (ds : Array Nat), (∀ c ∈ cs, IsDec c) → cs.foldlM (PySem.NumText.step 10) (ds, true) = some (cs.foldl (fun acc c => acc.push (c - 48)) ds, true)
  | [], _, _ => rfl
  | c :: cs, ds, h => by
    rw [List.foldlM_cons, step_dec (h c (List.mem_cons_self ..))]
    show cs.foldlM (PySem.NumText.step 10) (ds.push (c - 48), true) = _
    exact foldl_dec cs (ds.push (c - 48)) fun d hd => h d (List.mem_cons_of_mem _ hd)
theorem digits_dec {cs : List Nat} (h : ∀ c ∈ cs, IsDec c) (hne : cs ≠ []) : digits? 10 cs = some (cs.foldl (fun acc c => acc.push (c - 48)) #[]) := by
  cases cs with
  | nil => exact absurd rfl hne
  | cons c cs =>
    unfold digits?
    rw [List.foldlM_cons, step_dec (h c (List.mem_cons_self ..))]
    show (cs.foldlM (PySem.NumText.step 10) ((#[] : Array Nat).push (c - 48), true)).bind _ = _
    rw [foldl_dec cs _ fun d hd => h d (List.mem_cons_of_mem _ hd)]
    rfl
theorem push_dec : ∀ (cs : List Nat) (ds : Array Nat), (cs.foldl (fun acc c => acc.push (c - 48)) ds).foldl (fun acc d => acc * 10 + d) 0 = cs.foldl (fun a c => a * 10 + (c - 48)) (ds.foldl (fun acc d => acc * 10 + d) 0)
  | [], _ => rfl
  | c :: cs, ds => by
    rw [List.foldl_cons, push_dec cs (ds.push (c - 48)), List.foldl_cons]
    congr 1
    simp
theorem dec_hex {cs : List Nat} (h : ∀ c ∈ cs, IsDec c) : ∀ c ∈ cs, Hx.IsHex c := fun c hc => .inl (h c hc)
theorem size_dec : ∀ (cs : List Nat) (ds : Array Nat), (cs.foldl (fun acc c => acc.push (c - 48)) ds).size = ds.size + cs.length
  | [], ds => rfl
  | c :: cs, ds => by
    rw [List.foldl_cons, size_dec cs (ds.push (c - 48)), Array.size_push, List.length_cons]
    omega
theorem read_dec {cs : List Nat} (h : ∀ c ∈ cs, IsDec c) (hne : cs ≠ []) (hl : cs.length ≤ 640) : (int_private% "readNumeral") 0 10 cs = (int_private% "Numeral.value") ((decNum cs : Nat) : Int) := by
  have hr : ∀ c ∈ cs.reverse, IsDec c := fun c hc => h c (List.mem_reverse.mp hc)
  refine (readNumeral_eq 0 10 cs).trans ?_
  rw [Hx.dropB (dec_hex h), Hx.signH (dec_hex h)]
  show judge 0 false (based 10 cs).1 (based 10 cs).2.1 (digits? (based 10 cs).1 (((based 10 cs).2.2.reverse.dropWhile blank).reverse)) = _
  rw [based_ten]
  show judge 0 false 10 false (digits? 10 ((cs.reverse.dropWhile blank).reverse)) = _
  rw [Hx.dropB (dec_hex hr), List.reverse_reverse, digits_dec h hne]
  have hz : ¬ ((10 : Nat) == 10 && (cs.foldl (fun acc c => acc.push (c - 48)) (#[] : Array Nat)).size > 6000) = true := by
    rw [size_dec]
    simp
    omega
  have ej : judge 0 false 10 false (some (cs.foldl (fun acc c => acc.push (c - 48)) #[])) = (if ((10 : Nat) == 10 && (cs.foldl (fun acc c => acc.push (c - 48)) (#[] : Array Nat)).size > 6000) = true then (int_private% "Numeral.byTheLibrary") else (int_private% "Numeral.value") (((cs.foldl (fun acc c => acc.push (c - 48)) (#[] : Array Nat)).foldl (fun acc d => acc * 10 + d) 0 : Nat) : Int)) := rfl
  rw [ej, if_neg hz]
  show (int_private% "Numeral.value") (((cs.foldl (fun acc c => acc.push (c - 48)) (#[] : Array Nat)).foldl (fun acc d => acc * 10 + d) 0 : Nat) : Int) = _
  have z : (#[] : Array Nat).foldl (fun acc d => acc * 10 + d) 0 = 0 := by first | rfl | simp
  rw [push_dec, z] <;> rfl
structure Hid (p : Prop) : Prop where
  out : p
set_option maxHeartbeats 4000000 in
theorem gives_dec {x : PySem.Str} {u t : Tok} (hl : x.length ≤ 640) (h : ∀ c ∈ x.cps.toList, IsDec c) (hne : x.cps.toList ≠ []) :
    Gives (Builtin.«int.__new__» ⟨[.type "int", .str x u, .int 10 t], []⟩) (.int ((decNum x.cps.toList : Nat) : Int)) :=
  .of_wp fun M A E s Q hQ => by
    obtain ⟨hp, g, d, tk, os⟩ := s
    have f1 := F.conv_sub_int
    have f2 := F.madeHere_int
    have f6 : typeOf (.str x u) = pure (.type "str") := rfl
    obtain ⟨e1, e2⟩ := Hx.seen_hex (dec_hex h)
    have hs : (numSeenOf x).length ≤ 640 := by
      rw [e2, Array.length_toList]
      exact hl
    have hr : (int_private% "readNumeral") 0 10 (numSeenOf x) = (int_private% "Numeral.value") ((decNum x.cps.toList : Nat) : Int) := by
      rw [e2]
      exact read_dec h hne (by rw [Array.length_toList]; exact hl)
    have ha : ((numSeenOf x).length == (numTextOf x).length) = true := by
      rw [e1, e2]
      exact beq_self_eq_true _
    have hk := Hid.mk (And.intro hs (And.intro hr ha))
    clear hs hr ha e1 e2 hl hne h
    repeat (any_goals (first
      | assumption
      | ((with_reducible show wpAny _ _ ((int_private% "intFromText") _ _ _) _ _ _); refine Hx.wp_textB hk.out.1 hk.out.2.1 hk.out.2.2 ?_)
      | wp_step))
    all_goals first | exact ⟨_, rfl, hQ⟩ | skip
theorem call_dec {prog : Program} {w : World} {A : Around} {E : Value → Shared → Prop} {s : Shared} {Q : Value → Shared → Prop} {x : PySem.Str} {u t : Tok} (hl : x.length ≤ 640) (h : ∀ c ∈ x.cps.toList, IsDec c) (hne : x.cps.toList ≠ [])
    (hQ : Q (.int ((decNum x.cps.toList : Nat) : Int) s.toks) { s with toks := s.toks + 1 }) : wpAny (model prog w) A (call (.type "int") [.str x u, .int 10 t]) Q E s :=
  callType_new F.called_int F.newNe_int (Hx.typeCall_int_2 _ _) (Hx.newCall_int_2 _ _) (fun obj => F.initArgs_range_2 obj _ _) F.entry_int_new (gives_dec hl h hne).meets (show (Made.int ((decNum x.cps.toList : Nat) : Int)).post _ s from ⟨rfl, hQ⟩)
/-- int(text, base) of base 10 and 16 -/
def IsB (B : Nat) (c : Nat) : Prop := if B = 16 then Hx.IsHex c else IsDec c
def numB (B : Nat) (l : List Nat) : Nat := if B = 16 then Hx.hexNum l else decNum l
theorem call_int_base {X : Cx} : CallR X (.type "int") (fun xs H Q => ∃ (l : List Nat) (B : Nat), xs = [.str (S l), .int (B : Int)] ∧ (B = 10 ∨ B = 16) ∧ l ≠ [] ∧ l.length ≤ 640 ∧ (∀ c ∈ l, IsB B c) ∧ Q (.int ((numB B l : Nat) : Int)) H) := by
  intro pins s σ H xs us Q I r h
  obtain ⟨l, B, rfl, hB, hne, hl, hx, q⟩ := h
  obtain ⟨u, w', rfl, r1, r2⟩ := vals2 r
  obtain ⟨t1, rfl⟩ := r1
  obtain ⟨t2, rfl⟩ := r2
  rcases hB with rfl | rfl
  · exact call_dec (x := S l) (by rw [S_len]; exact hl) (by rw [S_tl]; exact hx) (by rw [S_tl]; exact hne) ⟨.int ((numB 10 l : Nat) : Int), H, I.tok _, ⟨_, by rw [S_tl]; rfl⟩, q⟩
  · exact Hx.call_hex (x := S l) (by rw [S_len]; exact hl) (by rw [S_tl]; exact hx) (by rw [S_tl]; exact hne) ⟨.int ((numB 16 l : Nat) : Int), H, I.tok _, ⟨_, by rw [S_tl]; rfl⟩, q⟩
end My
namespace My
open PySem PySem.Spec PyProof.Rows L2
theorem join_S (sep : List Nat) (ls : List (List Nat)) : Txt.join (S sep) (ls.map S) = S (TL.joinL sep ls) := by
  rw [TL.join_eq]
  have e := TL.tl_join (S sep) (ls.map S)
  have e2 : (ls.map S).map TL.tl = ls := by
    rw [List.map_map]
    conv => rhs; rw [← List.map_id ls]
    exact List.map_congr_left fun l _ => S_tl l
  rw [e2] at e
  have e3 : TL.tl (S sep) = sep := S_tl _
  rw [e3] at e
  rw [S_of (Str.join (S sep) (ls.map S))]
  exact congrArg S e
theorem join_nil (ls : List (List Nat)) : Txt.join (S []) (ls.map S) = S ls.flatten := by
  rw [join_S]
  congr 1
  induction ls with
  | nil => rfl
  | cons a r ih =>
    cases r with
    | nil => simp [TL.joinL]
    | cons b r =>
      show a ++ ([] ++ TL.joinL [] (b :: r)) = _
      rw [ih]
      simp
end My
namespace My
open PySem PySem.Spec PyProof.Rows L2
section
variable {X : Cx}
theorem op_mul_txt : OpR X (binaryOp .Mult) (fun x y H Q => ∃ (l : List Nat) (j : Nat), x = .str (S l) ∧ y = .int (j : Int) ∧ 1 ≤ l.length ∧ l.length ≤ 1000 ∧ j ≤ 1000 ∧ Q (.str (S (List.replicate j l).flatten)) H) := by
  intro pins s σ H x y v u Q I rx ry h
  obtain ⟨l, j, rfl, rfl, hl1, hl2, hj, q⟩ := h
  obtain ⟨t, rfl⟩ := rx
  obtain ⟨t', rfl⟩ := ry
  have hlen : (S l).length = l.length := S_len _
  have hmul : l.length * j ≤ 1000000 := Nat.le_trans (Nat.mul_le_mul hl2 hj) (by decide)
  refine PySem.P.mul_str (by simp; omega) (fun hn _ => by
    rw [hlen]
    have hj0 : 0 < j := by omega
    have : (l.length : Int) ≤ (2 ^ 63 - 1) / (j : Int) := by
      refine Int.le_ediv_of_mul_le (by omega) ?_
      have : ((l.length * j : Nat) : Int) ≤ 1000000 := by omega
      rw [Int.natCast_mul] at this
      omega
    omega) (fun _ _ => by
    rw [hlen]
    have : (j : Int).toNat = j := by omega
    rw [this]
    exact decide_eq_false (by rw [sizeLine_eq]; omega)) ?_
  have fin : ∀ (m : List Nat), m = (List.replicate j l).flatten → ∀ (v : Value) (k : Nat), RelV (.str (S m)) v → EP X pins σ Q v { s with toks := k } := fun m e v k r => ⟨.str (S m), H, I.tok _, r, by rw [e]; exact q⟩
  by_cases h0 : (j : Int) < 1
  · have e0 : j = 0 := by omega
    rw [if_pos h0]
    exact ⟨by decide, fin [] (by rw [e0]; rfl) _ _ ⟨_, rfl⟩⟩
  · rw [if_neg h0]
    by_cases h1 : j = 1
    · subst h1
      rw [if_pos (by rfl)]
      exact fin l (by simp) _ s.toks ⟨_, rfl⟩
    · rw [if_neg (by rw [hlen, Bool.or_eq_true, beq_iff_eq, beq_iff_eq]; omega)]
      have e : (⟨(List.replicate (j : Int).toNat (S l).cps).foldl (· ++ ·) #[]⟩ : Str) = S (List.replicate j l).flatten := by
        have ej : (j : Int).toNat = j := by omega
        rw [ej]
        have gen : ∀ (n : Nat) (acc : List Nat), (List.replicate n (S l).cps).foldl (· ++ ·) acc.toArray = (acc ++ (List.replicate n l).flatten).toArray := by
          intro n
          induction n with
          | zero => intro acc; simp
          | succ n ih =>
            intro acc
            rw [List.replicate_succ, List.foldl_cons]
            have : acc.toArray ++ (S l).cps = (acc ++ l).toArray := by simp [S]
            rw [this, ih, List.replicate_succ]
            simp
        have := gen j []
        simp at this
        unfold S
        congr 1
      rw [e]
      refine ⟨?_, fin _ rfl _ _ ⟨_, rfl⟩⟩
      rw [S_len, List.length_flatten, List.map_replicate, sizeLine_eq]
      have : (List.replicate j l.length).sum = j * l.length := by
        clear fin q h1 h0 e
        induction j with
        | zero => simp
        | succ j ih => rw [List.replicate_succ, List.sum_cons, ih (by omega) (Nat.le_trans (Nat.mul_le_mul_left _ (Nat.le_succ _)) hmul), Nat.succ_mul, Nat.add_comm]
      rw [this, Nat.mul_comm]
      omega
end
end My
namespace HX
open PySem PySem.Spec PyProof.Rows L2 My
theorem fun_of {K : PySem.W.Frag} {x qual : Str} {st : Stmt} {f : Addr} {fd : FuncData} (F : FunD K x qual (defArgs st) (defBody st) (defScope st) [] [] f fd) : Fun K x qual st f fd := by
  obtain ⟨oc, od, dV, kV, doc, pm, an, cdv, ct, osl, rfl, lk, hcd, hD, _⟩ := F.ex
  rcases hD with ⟨_, rfl⟩ | ⟨e, _⟩
  · exact ⟨⟨oc, od, kV, doc, pm, an, cdv, ct, osl, rfl, lk, hcd⟩, F.kp⟩
  · exact absurd rfl e
abbrev Bs : Type := List (PySem.W.Frag → Bool)
def exB (bs : Bs) (K : PySem.W.Frag) : Bool := bs.all fun b => b K
theorem more_at {bs : Bs} {K : PySem.W.Frag} (h : exB bs K = true) (i : Nat) {b : PySem.W.Frag → Bool} (e : bs[i]? = some b := by rfl) : b K = true := List.all_eq_true.mp h b (List.mem_of_getElem? e)
/-- the i-th item of the sequence at a, if it is an object -/
def itA (K : PySem.W.Frag) (a : Addr) (i : Nat) : Addr := match K.lookup a with
  | some ⟨_, _, .seq its _, _⟩ => (match its.toList[i]? with
    | some (.ref b) => b
    | _ => 0)
  | _ => 0
/-- the value of the i-th entry of the dict at a, if it is an object -/
def dvA (K : PySem.W.Frag) (a : Addr) (i : Nat) : Addr := match K.lookup a with
  | some ⟨_, _, .dict es _, _⟩ => (match es.toList[i]? with
    | some e => (match e.val with
      | .ref b => b
      | _ => 0)
    | _ => 0)
  | _ => 0
def tupV (K : PySem.W.Frag) (a : Addr) (vs : List V) : Bool := match K.lookup a with
  | some ⟨.type c, _, .seq its _, _⟩ => decide (c = "tuple") && He.relAll vs its.toList
  | _ => false
theorem tupV_ok {K : PySem.W.Frag} {a : Addr} {vs : List V} (h : tupV K a vs = true) : ∃ (o : Option Addr) (n : Nat) (l : List Value) (w : Array (Option Value)), K.lookup a = some ⟨.type "tuple", o, .seq l.toArray n, w⟩ ∧ Vals vs l := by
  unfold tupV at h
  cases q : K.lookup a with
  | none =>
    rw [q] at h
    cases h
  | some o =>
    obtain ⟨oc, od, dt, osl⟩ := o
    rw [q] at h
    cases oc with
    | type c =>
      cases dt with
      | seq its n =>
        obtain ⟨h1, h2⟩ := He.ba (show (decide (c = "tuple") && He.relAll vs its.toList) = true from h)
        have e : c = "tuple" := of_decide_eq_true h1
        subst e
        exact ⟨od, n, its.toList, osl, by rw [Array.toArray_toList], He.relAll_ok h2⟩
      | _ => cases h
    | _ => cases dt <;> cases h
theorem v_nil {us : List Value} (h : Vals [] us) : us = [] := by
  cases h
  rfl
theorem v_str {x : Str} {vs : List V} {us : List Value} (h : Vals (.str x :: vs) us) : ∃ t us', us = .str x t :: us' ∧ Vals vs us' := by
  cases h with
  | cons r h =>
    obtain ⟨t, rfl⟩ := r
    exact ⟨t, _, rfl, h⟩
theorem v_int {x : Int} {vs : List V} {us : List Value} (h : Vals (.int x :: vs) us) : ∃ t us', us = .int x t :: us' ∧ Vals vs us' := by
  cases h with
  | cons r h =>
    obtain ⟨t, rfl⟩ := r
    exact ⟨t, _, rfl, h⟩
theorem v_ref {x : Addr} {vs : List V} {us : List Value} (h : Vals (.ref x :: vs) us) : ∃ us', us = .ref x :: us' ∧ Vals vs us' := by
  cases h with
  | cons r h =>
    cases r
    exact ⟨_, rfl, h⟩
def entB : List DictEntry → List (Str × V) → Bool
  | [], [] => true
  | e :: es, p :: ps => (match e.key with
    | .str x _ => decide (x = p.1)
    | _ => false) && (He.relB p.2 e.val && entB es ps)
  | _, _ => false
theorem entB_ok : ∀ {es : List DictEntry} {ps : List (Str × V)}, entB es ps = true → EntS es ps
  | [], [], _ => trivial
  | [], _ :: _, h => by cases h
  | _ :: _, [], h => by cases h
  | e :: es, p :: ps, h => by
    obtain ⟨h1, h2⟩ := He.ba (show ((match e.key with
      | .str x _ => decide (x = p.1)
      | _ => false) && (He.relB p.2 e.val && entB es ps)) = true from h)
    obtain ⟨h3, h4⟩ := He.ba h2
    refine ⟨?_, He.relB_ok h3, entB_ok h4⟩
    cases q : e.key with
    | str x t =>
      rw [q] at h1
      have e1 : x = p.1 := of_decide_eq_true h1
      exact ⟨t, by rw [e1]⟩
    | _ =>
      rw [q] at h1
      cases h1
def dicV (K : PySem.W.Frag) (a : Addr) (ps : List (Str × V)) : Bool := match K.lookup a with
  | some ⟨_, _, .dict es _, _⟩ => entB es.toList ps
  | _ => false
theorem kds_ok {K : PySem.W.Frag} {w : World} {a : Addr} {ps : List (Str × V)} (hk : ∃ es n, KDict K w a es n) (h : dicV K a ps = true) : KDictS K w a ps := by
  obtain ⟨es, n, k⟩ := hk
  unfold dicV at h
  rw [k.at_] at h
  exact ⟨es, n, k, entB_ok h⟩
def refsH (g : Addr → Option Obj) (as : List Addr) : List Addr := as.flatMap fun a => match g a with
  | some o => (match o.data with
    | .fields _ => []
    | _ => He.refsD o)
  | none => []
def asL (g : Addr → Option Obj) : Nat → List Addr → List Addr
  | 0, l => l
  | n + 1, l => l ++ asL g n (refsH g l)
def asH (n : Nat) (g : Addr → Option Obj) : List Addr := asL g n [mainGlobals]
def obsH (n : Nat) (fa : List He.Fa) (fn : List He.DefD) (ts : List He.Tab) (ex : PySem.W.Frag → Bool) (g : Addr → Option Obj) : He.AlX := (He.obsT fa fn ts (He.frG g (asH n g)), ex (He.frG g (asH n g)))
structure SaysH (fa : List He.Fa) (fn : List He.DefD) (ts : List He.Tab) (ex : PySem.W.Frag → Bool) (w : World) (K : PySem.W.Frag) : Prop where
  t : He.SaysT fa fn ts w K
  more : ex K = true
theorem saysH_of {n : Nat} {fa : List He.Fa} {fn : List He.DefD} {ts : List He.Tab} {ex : PySem.W.Frag → Bool} {w : World} {g : Addr → Option Obj} (e : obsH n fa fn ts ex g = He.valX fn ts w) : SaysH fa fn ts ex w (He.frG g (asH n g)) :=
  ⟨congrArg (fun z : He.AlX => z.1) e, congrArg (fun z : He.AlX => z.2) e⟩
def hookH (n : Nat) (fa : List He.Fa) (fn : List He.DefD) (ts : List He.Tab) (ex : PySem.W.Frag → Bool) : PySem.W.Hook where
  α := He.AlX
  obs := fun s => obsH n fa fn ts ex s.heap.get?
  val := fun w => He.valX fn ts w
  says := fun w h => ∃ K : PySem.W.Frag, K.In h ∧ SaysH fa fn ts ex w K
  of := fun _ _ e => ⟨_, He.frG_in, saysH_of e⟩
  keeps := fun _ _ _ ⟨K, hK, c⟩ k => ⟨K, PySem.W.Frag.In.keeps hK k, c⟩
theorem obsH_eq {n : Nat} {fa : List He.Fa} {fn : List He.DefD} {ts : List He.Tab} {ex : PySem.W.Frag → Bool} {g : Addr → Option Obj} {s : Shared} (h : ∀ a, g a = s.heap.get? a) : obsH n fa fn ts ex g = (hookH n fa fn ts ex).obs s := by
  have e : g = s.heap.get? := funext h
  rw [e] <;> rfl
end HX
namespace My
open PySem PySem.Spec PyProof.Rows L2
theorem asg_if_g {t : TT} {ta tb : TE} {g : TG} {u : TS} {D : Ends} {σ : L2.St} {H : Hp} {i : Nat} {x : V} (P : V → Hp → Prop) (b : Bool) (ht : AnsB t (σ.set i (some x)) H b) (ha : b = true → ValB ta (σ.set i (some x)) H P) (hb : b = false → ValB tb (σ.set i (some x)) H P)
    (hq : ∀ v H', P v H' → g v (σ.set i (some x)) H' (u D)) : gName i x σ H { D with nx := tSeq (tAsg (tIf t ta tb) g) u D }.nx := asg_if P b ht ha hb hq
theorem keeps_upd {L D : Addr} {H H' : Hp} {o : HO} (k : Keeps L H H') (n : H D = none) : Keeps L H (upd H' D o) := fun b x hb e => by
  rw [upd_ne (ne_of_none e n)]
  exact k b x hb e
end My
namespace My
open PySem PySem.Spec PyProof.Rows L2
end My
namespace My
open PySem PySem.Spec PyProof.Rows L2
/-- of several defs that the slot may hold, each with its promises -/
def tCallR (i : Nat) (S : Addr → Sp → Prop) (t : TA) : TE := fun σ H Q => ∃ f sp, σ[i]? = some (some (.ref f)) ∧ S f sp ∧ t σ H fun vs H1 => sp vs H1 Q (fun _ _ _ => False)
theorem pe_callR {X : Cx} {k i : Nat} {x : Str} {p pos : Pos} {e : Expr} {es : List Expr} {t : TA} {S : Addr → Sp → Prop} (A : ∀ f sp, S f sp → Held X.prog X.w X.K X.mg X.base k f sp) (hr : Room k X.A) (hN : X.N[i]? = some x) (hv : Vis X.env.scope x) (ha : PA X (e :: es) t)
    (hdb : (x == ("__debug__" : Str)) = false := by decide) (hcd : (x == ("__classdict__" : Str)) = false := by decide)
    (he : starEach (e :: es) X.env = (false, eval e X.env) :: starEach es X.env := by rfl) (hpl : (backTo pos (starEach es X.env)).any (·.1) = false := by rfl) : PE X (.Call (.Name x p) (e :: es) [] pos) (tCallR i S t) := by
  refine ⟨fun pins s σ H Q I h => ?_⟩
  obtain ⟨f, sp, hs, hS, ht⟩ := h
  obtain ⟨fd, ps, F, hk, hb⟩ := (A f sp hS).ex
  refine (pe_callL (i := i) (f := f) (sp := sp) (dvs := []) (E := fun _ _ _ => False) F hr hN hv hk hb .nil (fun _ _ _ _ _ _ _ z => z.elim) ha hdb hcd he hpl).run pins s σ H Q I ⟨hs, ?_⟩
  have e0 : (fun (vs : List V) (H1 : Hp) => sp (vs ++ []) H1 Q (fun _ _ _ => False)) = fun vs H1 => sp vs H1 Q (fun _ _ _ => False) := by
    funext vs H1
    rw [List.append_nil]
  show t σ H (fun vs H1 => sp (vs ++ []) H1 Q (fun _ _ _ => False))
  rw [e0]
  exact ht
theorem fnOk_up {P : Program} {w : World} {K : PySem.W.Frag} {mg : Str → Option Value} {base : Heap} {CX : CXT} {k k' : Nat} {f : Addr} {fd : FuncData} {ps : List Str} {sp : Sp} (h : FnOk P w K mg base CX k f fd ps sp) (hk : k ≤ k') : FnOk P w K mg base CX k' f fd ps sp :=
  ⟨h.len, fun A outer s H args us vs Q E hr => h.run A outer s H args us vs Q E (hr.mono hk)⟩
end My
namespace My
open PySem PySem.Spec PyProof.Rows L2
def All2 {α β : Type} (R : α → β → Prop) (xs : List α) (ys : List β) : Prop := xs.length = ys.length ∧ ∀ (i : Nat) (x : α) (y : β), xs[i]? = some x → ys[i]? = some y → R x y
section
variable {α β : Type} {R : α → β → Prop} {xs xs' : List α} {ys ys' : List β}
theorem All2.nil : All2 R ([] : List α) ([] : List β) := ⟨rfl, fun i x y h => by simp at h⟩
theorem All2.mono {R' : α → β → Prop} (h : All2 R xs ys) (f : ∀ x y, R x y → R' x y) : All2 R' xs ys := ⟨h.1, fun i x y a b => f x y (h.2 i x y a b)⟩
theorem All2.cons {x : α} {y : β} (r : R x y) (h : All2 R xs ys) : All2 R (x :: xs) (y :: ys) := by
  refine ⟨by simp [h.1], fun i a b ha hb => ?_⟩
  cases i with
  | zero =>
    rw [List.getElem?_cons_zero] at ha hb
    cases ha
    cases hb
    exact r
  | succ i =>
    rw [List.getElem?_cons_succ] at ha hb
    exact h.2 i a b ha hb
theorem All2.app (h : All2 R xs ys) (g : All2 R xs' ys') : All2 R (xs ++ xs') (ys ++ ys') := by
  refine ⟨by simp [h.1, g.1], fun i a b ha hb => ?_⟩
  by_cases c : i < xs.length
  · rw [List.getElem?_append_left c] at ha
    rw [List.getElem?_append_left (by rw [← h.1]; exact c)] at hb
    exact h.2 i a b ha hb
  · rw [List.getElem?_append_right (by omega)] at ha
    rw [List.getElem?_append_right (by rw [← h.1]; omega), ← h.1] at hb
    exact g.2 _ a b ha hb
theorem All2.one {x : α} {y : β} (r : R x y) : All2 R [x] [y] := .cons r .nil
theorem All2.drop (h : All2 R xs ys) (n : Nat) : All2 R (xs.drop n) (ys.drop n) :=
  ⟨by simp [h.1], fun i a b ha hb => h.2 (n + i) a b (by rw [List.getElem?_drop] at ha; exact ha) (by rw [List.getElem?_drop] at hb; exact hb)⟩
theorem All2.take (h : All2 R xs ys) (n : Nat) : All2 R (xs.take n) (ys.take n) := by
  refine ⟨by simp [h.1], fun i a b ha hb => ?_⟩
  rw [List.getElem?_take] at ha hb
  split at ha
  · rename_i c
    rw [if_pos c] at hb
    exact h.2 i a b ha hb
  · cases ha
theorem All2.map {γ : Type} {f : γ → β} {zs : List γ} : All2 R xs (zs.map f) ↔ All2 (fun x z => R x (f z)) xs zs := by
  constructor
  · intro h
    refine ⟨by simpa using h.1, fun i x z hx hz => h.2 i x (f z) hx (by rw [List.getElem?_map, hz]; rfl)⟩
  · intro h
    refine ⟨by simpa using h.1, fun i x y hx hy => ?_⟩
    rw [List.getElem?_map] at hy
    cases e : zs[i]? with
    | none => rw [e] at hy; cases hy
    | some z => rw [e] at hy; cases hy; exact h.2 i x z hx e
end
theorem dpAll_all2 {K : PySem.W.Frag} {H : Hp} : ∀ {vs : List V} {ds : List PyData}, DpAll K H vs ds → All2 (Dp K H) vs ds
  | _, _, .nil => .nil
  | _, _, .cons h r => .cons h (dpAll_all2 r)
theorem same_tup {K : PySem.W.Frag} {H H' : Hp} {a : Addr} {xs : List V} (s : Same H H') (h : SqT K H a xs) : SqT K H' a xs := by
  rcases h with (h | ⟨o, h⟩) | h
  · exact .inl (.inl (s _ _ h))
  · exact .inl (.inr ⟨o, s _ _ h⟩)
  · exact .inr h
mutual
theorem dp_same {K : PySem.W.Frag} {H H' : Hp} (s : Same H H') : ∀ {v : V} {d : PyData}, Dp K H v d → Dp K H' v d
  | _, _, .non => .non
  | _, _, .bl b => .bl b
  | _, _, .int i => .int i
  | _, _, .str x => .str x
  | _, _, .lst h r => .lst (s.seq h) (dpAll_same s r)
  | _, _, .tup h r => .tup (same_tup s h) (dpAll_same s r)
theorem dpAll_same {K : PySem.W.Frag} {H H' : Hp} (s : Same H H') : ∀ {vs : List V} {ds : List PyData}, DpAll K H vs ds → DpAll K H' vs ds
  | _, _, .nil => .nil
  | _, _, .cons h r => .cons (dp_same s h) (dpAll_same s r)
end
def Rest (H : Hp) (L : List Addr) : Hp := fun b => if b ∈ L then none else H b
theorem rest_in {H : Hp} {L : List Addr} {b : Addr} (h : b ∈ L) : Rest H L b = none := if_pos h
theorem rest_out {H : Hp} {L : List Addr} {b : Addr} (h : b ∉ L) : Rest H L b = H b := if_neg h
end My
namespace My
open PySem PySem.Spec PyProof.Rows L2
/-- a well of draws, and how many parts may be made -/
def Well3 (H : Hp) (L : Addr) : Prop := ∃ x y z : Int, H L = some (.lst [.int x, .int y, .int z])
theorem Well3.lst {H : Hp} {L : Addr} (h : Well3 H L) : ∃ xs, H L = some (.lst xs) := by
  obtain ⟨x, y, z, e⟩ := h
  exact ⟨_, e⟩
theorem Well3.same {H H' : Hp} {L : Addr} (h : Well3 H L) (s : Same H H') : Well3 H' L := by
  obtain ⟨x, y, z, e⟩ := h
  exact ⟨x, y, z, s _ _ e⟩
theorem Well3.new {H : Hp} {L p : Addr} {o : HO} (h : Well3 H L) (n : H p = none) : Well3 (upd H p o) L := h.same (same_new n)
theorem Well3.ne {H : Hp} {L p : Addr} (h : Well3 H L) (n : H p = none) : p ≠ L := by
  obtain ⟨x, y, z, e⟩ := h
  exact (ne_of_none e n).symm
theorem Well3.upd {H : Hp} {L p : Addr} {o : HO} (h : Well3 H L) (n : p ≠ L) : Well3 (upd H p o) L := by
  obtain ⟨x, y, z, e⟩ := h
  exact ⟨x, y, z, by rw [upd_ne n.symm]; exact e⟩
mutual
def noList : PyData → Bool
  | .list _ => false
  | .tuple ds => noListAll ds
  | .dict _ => false
  | _ => true
def noListAll : List PyData → Bool
  | [] => true
  | d :: ds => noList d && noListAll ds
end
mutual
theorem dp_rest {K : PySem.W.Frag} {H : Hp} {L : List Addr} (hL : ∀ b ∈ L, ∃ xs, H b = some (.lst xs)) : ∀ {v : V} {d : PyData}, noList d = true → Dp K H v d → Dp K (Rest H L) v d
  | _, _, _, .non => .non
  | _, _, _, .bl b => .bl b
  | _, _, _, .int i => .int i
  | _, _, _, .str x => .str x
  | _, _, h, .lst _ _ => by unfold noList at h; cases h
  | _, _, h, .tup (a := a) q r => by
    refine .tup ?_ (dpAll_rest hL (by unfold noList at h; exact h) r)
    rcases q with (q | ⟨o, q⟩) | q
    · refine .inl (.inl ?_)
      rw [rest_out fun z => ?_]
      · exact q
      · obtain ⟨xs, e⟩ := hL _ z
        rw [e] at q
        cases q
    · refine .inl (.inr ⟨o, ?_⟩)
      rw [rest_out fun z => ?_]
      · exact q
      · obtain ⟨xs, e⟩ := hL _ z
        rw [e] at q
        cases q
    · exact .inr q
theorem dpAll_rest {K : PySem.W.Frag} {H : Hp} {L : List Addr} (hL : ∀ b ∈ L, ∃ xs, H b = some (.lst xs)) : ∀ {vs : List V} {ds : List PyData}, noListAll ds = true → DpAll K H vs ds → DpAll K (Rest H L) vs ds
  | _, _, _, .nil => .nil
  | _, _, h, .cons q r => by
    unfold noListAll at h
    rw [Bool.and_eq_true] at h
    exact .cons (dp_rest hL h.1 q) (dpAll_rest hL h.2 r)
end
theorem dp_keep {K : PySem.W.Frag} {H H' : Hp} {L : Addr} {v : V} {d : PyData} (k : Keeps L H H') (hL : ∃ xs, H L = some (.lst xs)) (n : noList d = true) (h : Dp K H v d) : Dp K H' v d := by
  have h1 := dp_rest (L := [L]) (fun b hb => by rw [List.mem_singleton.mp hb]; exact hL) n h
  refine dp_same (fun b o e => ?_) h1
  have hb : b ≠ L := fun z => by rw [z, rest_in (by simp)] at e; cases e
  rw [rest_out (by simpa using hb)] at e
  exact k b o hb e
end My
namespace My
open PySem PySem.Spec PyProof.Rows L2
def tot {X : Type} (N : List X → Nat) : List (List X) → Nat
  | [] => 0
  | r :: rs => N r + tot N rs
theorem tot_app {X : Type} (N : List X → Nat) : ∀ a b : List (List X), tot N (a ++ b) = tot N a + tot N b
  | [], b => by simp [tot]
  | r :: a, b => by
    show N r + tot N (a ++ b) = N r + tot N a + tot N b
    rw [tot_app N a b]
    omega
structure Fold where
  X : Type
  toD : X → PyData
  sub : X → List (List X)
  N : List X → Nat
  hN : ∀ row, N row = 1 + row.length + tot N (row.flatMap sub)
  Ok : List X → Prop
  inh : ∀ row x r, Ok row → x ∈ row → r ∈ sub x → Ok r
  RR : Hp → V → List X → Prop
  mono : ∀ G G' v r, Same G G' → RR G v r → RR G' v r
section
variable {F : Fold}
def RowIs (K : PySem.W.Frag) (F : Fold) (G : Hp) (v : V) (row : List F.X) : Prop := ∃ a vs, v = .ref a ∧ SqT K G a vs ∧ All2 (fun u x => Dp K G u (F.toD x)) vs row
theorem RowIs.same {K : PySem.W.Frag} {G G' : Hp} {v : V} {row : List F.X} (s : Same G G') (h : RowIs K F G v row) : RowIs K F G' v row := by
  obtain ⟨a, vs, e, q, r⟩ := h
  exact ⟨a, vs, e, same_tup s q, r.mono fun _ _ d => dp_same s d⟩
def PlaceOk (F : Fold) (rs : List (List F.X)) (j : Nat) (x : F.X) (be : Nat × Nat) : Prop := j < be.1 ∧ be.1 ≤ be.2 ∧ be.2 ≤ rs.length ∧ (rs.drop be.1).take (be.2 - be.1) = F.sub x
theorem PlaceOk.app {rs more : List (List F.X)} {j : Nat} {x : F.X} {be : Nat × Nat} (h : PlaceOk F rs j x be) : PlaceOk F (rs ++ more) j x be := by
  obtain ⟨h1, h2, h3, h4⟩ := h
  refine ⟨h1, h2, by simp; omega, ?_⟩
  rw [List.drop_append_of_le_length (by omega), List.take_append_of_le_length (by simp; omega)]
  exact h4
theorem PlaceOk.new {rs : List (List F.X)} {j : Nat} {x : F.X} (h : j < rs.length) : PlaceOk F (rs ++ F.sub x) j x (rs.length, rs.length + (F.sub x).length) := by
  refine ⟨h, by simp, by simp, ?_⟩
  show ((rs ++ F.sub x).drop rs.length).take (rs.length + (F.sub x).length - rs.length) = F.sub x
  rw [List.drop_left, Nat.add_sub_cancel_left, List.take_length]
def PairAt (H : Hp) (t : V) (be : Nat × Nat) : Prop := ∃ q, t = .ref q ∧ H q = some (.tup [.int (be.1 : Nat), .int (be.2 : Nat)])
def NumIs (H : Hp) (v : V) (ps : List (Nat × Nat)) : Prop := ∃ a ts, v = .ref a ∧ H a = some (.lst ts) ∧ All2 (PairAt H) ts ps
theorem PairAt.same {G G' : Hp} {v : V} {be : Nat × Nat} (s : Same G G') (h : PairAt G v be) : PairAt G' v be := by
  obtain ⟨q, e, h⟩ := h
  exact ⟨q, e, s _ _ h⟩
theorem NumIs.same {G G' : Hp} {v : V} {ps : List (Nat × Nat)} (s : Same G G') (h : NumIs G v ps) : NumIs G' v ps := by
  obtain ⟨a, ts, e, h, r⟩ := h
  exact ⟨a, ts, e, s _ _ h, r.mono fun _ _ p => p.same s⟩
/-- so far the rows were gone through -/
structure Gone (F : Fold) (rs : List (List F.X)) (ps : List (List (Nat × Nat))) : Prop where
  le : ps.length ≤ rs.length
  at_ : ∀ j row pj, rs[j]? = some row → ps[j]? = some pj → All2 (PlaceOk F rs j) row pj
theorem Gone.step {rs : List (List F.X)} {ps : List (List (Nat × Nat))} {row : List F.X} {nums : List (Nat × Nat)} (h : Gone F rs ps) (hr : rs[ps.length]? = some row)
    (hn : All2 (PlaceOk F (rs ++ row.flatMap F.sub) ps.length) row nums) : Gone F (rs ++ row.flatMap F.sub) (ps ++ [nums]) := by
  have hlt : ps.length < rs.length := (List.getElem?_eq_some_iff.mp hr).1
  refine ⟨by simp; omega, fun j r pj h1 h2 => ?_⟩
  by_cases c : j < ps.length
  · rw [List.getElem?_append_left (by omega)] at h1
    rw [List.getElem?_append_left c] at h2
    exact (h.at_ j r pj h1 h2).mono fun _ _ p => p.app
  · have hj : j = ps.length := by
      have := (List.getElem?_eq_some_iff.mp h2).1
      simp at this
      omega
    subst hj
    rw [List.getElem?_append_left hlt, hr] at h1
    rw [List.getElem?_append_right (Nat.le_refl _), Nat.sub_self] at h2
    cases h1
    cases h2
    exact hn
theorem Gone.left {rs : List (List F.X)} {k : Nat} {row : List F.X} (hr : rs[k]? = some row) : tot F.N ((rs ++ row.flatMap F.sub).drop (k + 1)) + 1 + row.length = tot F.N (rs.drop k) := by
  have hlt : k < rs.length := (List.getElem?_eq_some_iff.mp hr).1
  have e : rs.drop k = row :: rs.drop (k + 1) := by
    rw [List.drop_eq_getElem_cons hlt]
    have := List.getElem?_eq_getElem hlt
    rw [hr] at this
    cases this
    rfl
  rw [List.drop_append_of_le_length (by omega), tot_app, e]
  show tot F.N (rs.drop (k + 1)) + tot F.N (row.flatMap F.sub) + 1 + row.length = F.N row + tot F.N (rs.drop (k + 1))
  rw [F.hN row]
  omega
end
end My
namespace My
open PySem PySem.Spec PyProof.Rows L2
theorem ifT {b : Bool} {A B : Prop} (h : b = true) (a : A) : if b = true then A else B := by
  rw [if_pos h]
  exact a
theorem ifF {b : Bool} {A B : Prop} (h : b = false) (a : B) : if b = true then A else B := by
  rw [if_neg (by rw [h]; exact Bool.false_ne_true)]
  exact a
def AnsS (t : TT) (σ : L2.St) (H : Hp) (P : Bool → Prop) : Prop := ∀ Q : Bool → Hp → Prop, (∀ b H', Same H H' → P b → Q b H') → t σ H Q
theorem dpAll_app {K : PySem.W.Frag} {H : Hp} : ∀ {vs us : List V} {ds es : List PyData}, DpAll K H vs ds → DpAll K H us es → DpAll K H (vs ++ us) (ds ++ es)
  | _, _, _, _, .nil, g => g
  | _, _, _, _, .cons h r, g => .cons h (dpAll_app r g)
theorem dpAll_keep {K : PySem.W.Frag} {H H' : Hp} {L : Addr} {vs : List V} {ds : List PyData} (k : Keeps L H H') (hL : ∃ xs, H L = some (.lst xs)) (n : noListAll ds = true) (h : DpAll K H vs ds) : DpAll K H' vs ds := by
  have h1 := dpAll_rest (L := [L]) (fun b hb => by rw [List.mem_singleton.mp hb]; exact hL) n h
  refine dpAll_same (fun b o e => ?_) h1
  have hb : b ≠ L := fun z => by rw [z, rest_in (by simp)] at e; cases e
  rw [rest_out (by simpa using hb)] at e
  exact k b o hb e
end My
namespace IM
open PySem PySem.Spec PyProof.Rows L2 My
inductive Inl where
  | text (t : List Nat)
  | code (t : List Nat)
  | html (t : List Nat)
  | soft
  | hard
  | emph (r : List Inl)
  | strong (r : List Inl)
  | link (d : List Nat) (t : Option (List Nat)) (r : List Inl)
  | image (d : List Nat) (t : Option (List Nat)) (r : List Inl)
def optD : Option (List Nat) → PyData
  | none => .none
  | some t => .str (S t)
mutual
def Inl.toD : Inl → PyData
  | .text t => .tuple [.str "text", .str (S t)]
  | .code t => .tuple [.str "code", .str (S t)]
  | .html t => .tuple [.str "html", .str (S t)]
  | .soft => .tuple [.str "soft"]
  | .hard => .tuple [.str "hard"]
  | .emph r => .tuple [.str "emph", .tuple (rowD r)]
  | .strong r => .tuple [.str "strong", .tuple (rowD r)]
  | .link d t r => .tuple [.str "link", .str (S d), optD t, .tuple (rowD r)]
  | .image d t r => .tuple [.str "image", .str (S d), optD t, .tuple (rowD r)]
def rowD : List Inl → List PyData
  | [] => []
  | x :: r => x.toD :: rowD r
end
theorem rowD_map : ∀ r : List Inl, rowD r = r.map Inl.toD
  | [] => rfl
  | x :: r => by
    show x.toD :: rowD r = x.toD :: r.map Inl.toD
    rw [rowD_map r]
mutual
def Inl.words : Inl → List Nat
  | .text t => t
  | .code t => t
  | .html _ => []
  | .soft => [32]
  | .hard => [32]
  | .emph r => rowW r
  | .strong r => rowW r
  | .link _ _ r => rowW r
  | .image _ _ r => rowW r
def rowW : List Inl → List Nat
  | [] => []
  | x :: r => x.words ++ rowW r
end
def Inl.sub : Inl → List (List Inl)
  | .emph r => [r]
  | .strong r => [r]
  | .link _ _ r => [r]
  | .image _ _ r => [r]
  | _ => []
mutual
theorem noList_toD : ∀ x : Inl, noList x.toD = true
  | .text t => rfl
  | .code t => rfl
  | .html t => rfl
  | .soft => rfl
  | .hard => rfl
  | .emph r => by
    show (noList (.str "emph") && (noListAll (rowD r) && true)) = true
    rw [noList_row r]
    rfl
  | .strong r => by
    show (noList (.str "strong") && (noListAll (rowD r) && true)) = true
    rw [noList_row r]
    rfl
  | .link d t r => by
    show (noList (.str "link") && (noList (.str (S d)) && (noList (optD t) && (noListAll (rowD r) && true)))) = true
    rw [noList_row r]
    cases t <;> rfl
  | .image d t r => by
    show (noList (.str "image") && (noList (.str (S d)) && (noList (optD t) && (noListAll (rowD r) && true)))) = true
    rw [noList_row r]
    cases t <;> rfl
theorem noList_row : ∀ r : List Inl, noListAll (rowD r) = true
  | [] => rfl
  | x :: r => by
    show (noList x.toD && noListAll (rowD r)) = true
    rw [noList_toD x, noList_row r]
    rfl
end
def Leaf : Inl → Prop
  | .text t => t.length ≤ 20 ∧ Sm t
  | .code t => t.length ≤ 20 ∧ Sm t
  | .html t => Sm t
  | .soft => True
  | .hard => True
  | _ => False
def optSm : Option (List Nat) → Prop
  | none => True
  | some t => Sm t
def Bd (w : Nat) : Nat → Inl → Prop
  | 0, x => Leaf x
  | d + 1, x => match x with
    | .emph r => r.length ≤ w ∧ ∀ y ∈ r, Bd w d y
    | .strong r => r.length ≤ w ∧ ∀ y ∈ r, Bd w d y
    | .link g t r => Sm g ∧ optSm t ∧ r.length ≤ w ∧ ∀ y ∈ r, Bd w d y
    | .image g t r => Sm g ∧ optSm t ∧ r.length ≤ w ∧ ∀ y ∈ r, Bd w d y
    | x => Leaf x
theorem Bd.leaf {w d : Nat} {x : Inl} (h : Leaf x) : Bd w d x := by
  cases d with
  | zero => exact h
  | succ d => cases x <;> first | exact h | exact h.elim
theorem Bd.up {w : Nat} : ∀ {d : Nat} {x : Inl}, Bd w d x → Bd w (d + 1) x
  | 0, x, h => .leaf h
  | d + 1, x, h => by
    cases x with
    | emph r => exact ⟨h.1, fun y hy => Bd.up (h.2 y hy)⟩
    | strong r => exact ⟨h.1, fun y hy => Bd.up (h.2 y hy)⟩
    | link g t r => exact ⟨h.1, h.2.1, h.2.2.1, fun y hy => Bd.up (h.2.2.2 y hy)⟩
    | image g t r => exact ⟨h.1, h.2.1, h.2.2.1, fun y hy => Bd.up (h.2.2.2 y hy)⟩
    | _ => exact h
theorem Bd.le {w d e : Nat} {x : Inl} (h : Bd w d x) (l : d ≤ e) : Bd w e x := by
  induction l with
  | refl => exact h
  | step _ ih => exact ih.up
theorem rowW_le {k : Nat} : ∀ {r : List Inl}, (∀ y ∈ r, y.words.length ≤ k) → (rowW r).length ≤ r.length * k
  | [], _ => Nat.zero_le _
  | x :: r, h => by
    show (x.words ++ rowW r).length ≤ (r.length + 1) * k
    rw [List.length_append, Nat.succ_mul]
    have h1 := h x (List.mem_cons_self ..)
    have h2 := rowW_le (r := r) fun y hy => h y (List.mem_cons_of_mem _ hy)
    omega
theorem Leaf.words {x : Inl} (h : Leaf x) : x.words.length ≤ 20 := by
  cases x <;> first | exact h.1 | exact h.elim | (show _ ≤ 20; decide) | exact Nat.zero_le _
theorem Bd.row {w d : Nat} {r : List Inl} {P : Nat} (hl : r.length ≤ w) (hp : (rowW r).length ≤ r.length * P) : (rowW r).length ≤ w * P := Nat.le_trans hp (Nat.mul_le_mul_right _ hl)
theorem Bd.words {w : Nat} (hw : 1 ≤ w) : ∀ {d : Nat} {x : Inl}, Bd w d x → x.words.length ≤ 20 * w ^ d
  | 0, x, h => by
    have := Leaf.words h
    simpa using this
  | d + 1, x, h => by
    have h20 : 20 ≤ 20 * w ^ (d + 1) := Nat.le_mul_of_pos_right _ (Nat.pow_pos (by omega))
    have step : ∀ r : List Inl, r.length ≤ w → (∀ y ∈ r, Bd w d y) → (rowW r).length ≤ 20 * w ^ (d + 1) := fun r hl hr => by
      have h1 := rowW_le (k := 20 * w ^ d) fun y hy => Bd.words hw (hr y hy)
      have h2 := Nat.mul_le_mul_right (20 * w ^ d) hl
      have e : w * (20 * w ^ d) = 20 * w ^ (d + 1) := by rw [Nat.pow_succ, Nat.mul_left_comm, Nat.mul_comm w]
      omega
    cases x with
    | emph r => exact step r h.1 h.2
    | strong r => exact step r h.1 h.2
    | link g t r => exact step r h.2.2.1 h.2.2.2
    | image g t r => exact step r h.2.2.1 h.2.2.2
    | text t => exact Nat.le_trans (Leaf.words h) h20
    | code t => exact Nat.le_trans (Leaf.words h) h20
    | html t => exact Nat.le_trans (Leaf.words h) h20
    | soft => exact Nat.le_trans (Leaf.words (x := .soft) trivial) h20
    | hard => exact Nat.le_trans (Leaf.words (x := .hard) trivial) h20
theorem optD_lay {t : Option (List Nat)} (h : optSm t) : (optD t).canLay0 = true := by
  cases t with
  | none => rfl
  | some t => exact Sm.ok h
theorem optD_depth (t : Option (List Nat)) : (optD t).depth = 0 := by cases t <;> rfl
theorem layAll : ∀ {r : List Inl}, (∀ y ∈ r, y.toD.canLay0 = true) → PyData.canLayAll0 (rowD r) = true
  | [], _ => rfl
  | x :: r, h => by
    show (x.toD.canLay0 && PyData.canLayAll0 (rowD r)) = true
    rw [h x (List.mem_cons_self ..), layAll fun y hy => h y (List.mem_cons_of_mem _ hy)]
    rfl
theorem depthAll_le {k : Nat} : ∀ {r : List Inl}, (∀ y ∈ r, y.toD.depth ≤ k) → PyData.depthAll (rowD r) ≤ k
  | [], _ => Nat.zero_le _
  | x :: r, h => by
    show max x.toD.depth (PyData.depthAll (rowD r)) ≤ k
    have h1 := h x (List.mem_cons_self ..)
    have h2 := depthAll_le (r := r) fun y hy => h y (List.mem_cons_of_mem _ hy)
    omega
theorem Leaf.lay {x : Inl} (h : Leaf x) : x.toD.canLay0 = true ∧ x.toD.depth ≤ 1 := by
  cases x with
  | text t => exact ⟨by show (PyData.strOk "text" && (PyData.strOk (S t) && true)) = true; rw [h.2.ok]; decide +kernel, Nat.le_refl _⟩
  | code t => exact ⟨by show (PyData.strOk "code" && (PyData.strOk (S t) && true)) = true; rw [h.2.ok]; decide +kernel, Nat.le_refl _⟩
  | html t => exact ⟨by show (PyData.strOk "html" && (PyData.strOk (S t) && true)) = true; rw [Sm.ok h]; decide +kernel, Nat.le_refl _⟩
  | soft => exact ⟨by show (PyData.strOk "soft" && true) = true; decide +kernel, Nat.le_refl _⟩
  | hard => exact ⟨by show (PyData.strOk "hard" && true) = true; decide +kernel, Nat.le_refl _⟩
  | _ => exact h.elim
theorem Bd.lay {w : Nat} : ∀ {d : Nat} {x : Inl}, Bd w d x → x.toD.canLay0 = true ∧ x.toD.depth ≤ 2 * d + 1
  | 0, x, h => Leaf.lay h
  | d + 1, x, h => by
    have step : ∀ r : List Inl, (∀ y ∈ r, Bd w d y) → PyData.canLayAll0 (rowD r) = true ∧ PyData.depthAll (rowD r) ≤ 2 * d + 1 := fun r hr =>
      ⟨layAll fun y hy => (Bd.lay (hr y hy)).1, depthAll_le fun y hy => (Bd.lay (hr y hy)).2⟩
    have two : ∀ (z : Str) (r : List Inl), PyData.strOk z = true → (∀ y ∈ r, Bd w d y) → (PyData.tuple [.str z, .tuple (rowD r)]).canLay0 = true ∧ (PyData.tuple [.str z, .tuple (rowD r)]).depth ≤ 2 * (d + 1) + 1 := fun z r hz hr => by
      obtain ⟨h1, h2⟩ := step r hr
      constructor
      · show (PyData.strOk z && (PyData.canLayAll0 (rowD r) && true)) = true
        rw [hz, h1]
        rfl
      · show max 0 (max (PyData.depthAll (rowD r) + 1) 0) + 1 ≤ 2 * (d + 1) + 1
        omega
    have four : ∀ (z : Str) (g : List Nat) (t : Option (List Nat)) (r : List Inl), PyData.strOk z = true → Sm g → optSm t → (∀ y ∈ r, Bd w d y) → (PyData.tuple [.str z, .str (S g), optD t, .tuple (rowD r)]).canLay0 = true ∧ (PyData.tuple [.str z, .str (S g), optD t, .tuple (rowD r)]).depth ≤ 2 * (d + 1) + 1 := fun z g t r hz hg ht hr => by
      obtain ⟨h1, h2⟩ := step r hr
      constructor
      · show (PyData.strOk z && (PyData.strOk (S g) && ((optD t).canLay0 && (PyData.canLayAll0 (rowD r) && true)))) = true
        rw [hz, hg.ok, optD_lay ht, h1]
        rfl
      · show max 0 (max 0 (max (optD t).depth (max (PyData.depthAll (rowD r) + 1) 0))) + 1 ≤ 2 * (d + 1) + 1
        rw [optD_depth]
        omega
    have lf : Leaf x → x.toD.canLay0 = true ∧ x.toD.depth ≤ 2 * (d + 1) + 1 := fun h => ⟨(Leaf.lay h).1, Nat.le_trans (Leaf.lay h).2 (by omega)⟩
    cases x with
    | emph r => exact two "emph" r (by decide +kernel) h.2
    | strong r => exact two "strong" r (by decide +kernel) h.2
    | link g t r => exact four "link" g t r (by decide +kernel) h.1 h.2.1 h.2.2.2
    | image g t r => exact four "image" g t r (by decide +kernel) h.1 h.2.1 h.2.2.2
    | text t => exact lf h
    | code t => exact lf h
    | html t => exact lf h
    | soft => exact lf trivial
    | hard => exact lf trivial
end IM
namespace RM
open My PySem PySem.Spec PyProof.Rows L2
open PyProof.Rows (lo1 up1)
def PunL : List Nat := [33, 34, 35, 36, 38, 39, 40, 41, 42, 43, 44, 45, 46, 47, 58, 59, 60, 61, 62, 63, 64, 91, 92, 93, 94, 95, 123, 124, 125, 126, 96]
def HexL : List Nat := [48, 49, 50, 51, 52, 53, 54, 55, 56, 57, 97, 98, 99, 100, 101, 102]
def DecL : List Nat := [48, 49, 50, 51, 52, 53, 54, 55, 56, 57]
def NamesL : List (List Nat × Nat) := [([97, 109, 112], 38), ([108, 116], 60), ([103, 116], 62), ([113, 117, 111, 116], 34), ([97, 112, 111, 115], 39), ([110, 117, 109], 35), ([97, 115, 116], 42), ([108, 111, 119, 98, 97, 114], 95), ([103, 114, 97, 118, 101], 96), ([108, 115, 113, 98], 91), ([114, 115, 113, 98], 93), ([108, 112, 97, 114], 40), ([114, 112, 97, 114], 41), ([108, 99, 117, 98], 123), ([114, 99, 117, 98], 125), ([98, 115, 111, 108], 92), ([101, 120, 99, 108], 33), ([84, 97, 98], 9), ([78, 101, 119, 76, 105, 110, 101], 10)]
def escR : List Nat → Bool
  | a :: c :: _ => a == 92 && PunL.contains c
  | _ => false
def numR (B : Nat) (ds w : List Nat) : Option Nat := if w = [] then none else if (w.map lo1).all ds.contains = true then some (numB B w) else none
def sgnR (n : Nat) : Option Nat := if n = 9 ∨ n = 10 ∨ (32 ≤ n ∧ n ≤ 36) ∨ (38 ≤ n ∧ n ≤ 126) then some n else none
def meantR (w : List Nat) : Option Nat :=
  if [35, 120].isPrefixOf w || [35, 88].isPrefixOf w then (numR 16 HexL (w.drop 2)).bind sgnR
  else if [35].isPrefixOf w then (numR 10 DecL (w.drop 1)).bind sgnR
  else NamesL.lookup w
def refR (l : List Nat) : Option (Nat × Nat) :=
  if [38].isPrefixOf l then match findL [59] (l.take 10) with
    | none => none
    | some k => (meantR ((l.drop 1).take (k - 1))).map fun c => (k + 1, c)
  else none
def stepR : List Nat → Nat × Nat
  | [] => (1, 0)
  | a :: r => if escR (a :: r) = true then (2, r.headD 0) else match refR (a :: r) with
    | some x => x
    | none => (1, a)
theorem refR_pos {l : List Nat} {k c : Nat} (h : refR l = some (k, c)) : 1 ≤ k ∧ k ≤ l.length := by
  unfold refR at h
  split at h
  · cases hf : findL [59] (l.take 10) with
    | none => rw [hf] at h; cases h
    | some j =>
      rw [hf] at h
      dsimp only at h
      cases hm : meantR ((l.drop 1).take (j - 1)) with
      | none => rw [hm] at h; cases h
      | some c' =>
        rw [hm] at h
        have e := Option.some.inj h
        have e1 : j + 1 = k := congrArg Prod.fst e
        have h1 := pre_len _ _ (findL_some (by simp) hf).1
        rw [List.length_drop, List.length_take] at h1
        simp at h1
        omega
  · cases h
theorem find_pre {a : List Nat} (h : 59 ∉ a) (r : List Nat) : findL [59] (a ++ r) = (findL [59] r).map (· + a.length) := by
  induction a with
  | nil => cases h : findL [59] r <;> simp [h]
  | cons x a ih =>
    have hx : x ≠ 59 := fun e => h (by simp [e])
    have h2 : 59 ∉ a := fun e => h (by simp [e])
    show (if ([59] : List Nat).isPrefixOf (x :: (a ++ r)) = true then some 0 else (findL [59] (a ++ r)).map (· + 1)) = _
    rw [if_neg (by simp [List.isPrefixOf]; exact fun e => hx e.symm), ih h2, List.length_cons]
    cases findL [59] r <;> simp
    omega
theorem find_not {a : List Nat} (h : 59 ∉ a) : findL [59] a = none := by
  have := find_pre h []
  rw [List.append_nil] at this
  rw [this]
  rfl
theorem ref_at {a : List Nat} (h : 59 ∉ a) (r : List Nat) : refR (38 :: (a ++ 59 :: r)) = if a.length ≤ 8 then (meantR a).map (fun c => (a.length + 2, c)) else none := by
  unfold refR
  rw [if_pos (by rfl)]
  by_cases hl : a.length ≤ 8
  · rw [if_pos hl]
    have e1 : (38 :: (a ++ 59 :: r)).take 10 = (38 :: a) ++ (59 :: r.take (8 - a.length)) := by
      rw [List.take_succ_cons, List.take_append, List.take_of_length_le (by omega)]
      rw [show 9 - a.length = (8 - a.length) + 1 by omega, List.take_succ_cons]
      rfl
    have h38 : 59 ∉ 38 :: a := by simp [h]
    rw [e1, find_pre h38]
    have e2 : findL [59] (59 :: r.take (8 - a.length)) = some 0 := rfl
    rw [e2]
    show (meantR ((a ++ 59 :: r).take (0 + (38 :: a).length - 1))).map (fun c => (0 + (38 :: a).length + 1, c)) = _
    rw [List.length_cons, Nat.zero_add, Nat.add_sub_cancel, List.take_left]
  · rw [if_neg hl]
    have e1 : (38 :: (a ++ 59 :: r)).take 10 = 38 :: (a.take 9) := by
      rw [List.take_succ_cons, List.take_append, show 9 - a.length = 0 by omega, List.take_zero, List.append_nil]
    have : 59 ∉ 38 :: a.take 9 := by
      intro z
      rcases List.mem_cons.mp z with z | z
      · cases z
      · exact h (List.mem_of_mem_take z)
    rw [e1, find_not this]
def RefOk (a : List Nat) (sg : Option Nat) : Prop := 59 ∉ a ∧ 38 ∉ a ∧ 92 ∉ a ∧ (∀ c ∈ a, c < 128) ∧ a.length ≤ 20 ∧ (if a.length ≤ 8 then meantR a else none) = sg
def refOkB (a : List Nat) (sg : Option Nat) : Bool := a.all (fun c => c != 59 && c != 38 && c != 92 && decide (c < 128)) && decide (a.length ≤ 20) && decide ((if a.length ≤ 8 then meantR a else none) = sg)
theorem refOk_of {a : List Nat} {sg : Option Nat} (h : refOkB a sg = true) : RefOk a sg := by
  unfold refOkB at h
  rw [Bool.and_eq_true, Bool.and_eq_true, List.all_eq_true] at h
  obtain ⟨⟨h1, h2⟩, h3⟩ := h
  have h4 : ∀ c ∈ a, c ≠ 59 ∧ c ≠ 38 ∧ c ≠ 92 ∧ c < 128 := fun c hc => by
    have := h1 c hc
    simp at this
    exact ⟨this.1.1.1, this.1.1.2, this.1.2, this.2⟩
  exact ⟨fun z => (h4 _ z).1 rfl, fun z => (h4 _ z).2.1 rfl, fun z => (h4 _ z).2.2.1 rfl, fun c hc => (h4 c hc).2.2.2, of_decide_eq_true h2, of_decide_eq_true h3⟩
/-- a reference, whatever stands behind -/
theorem ok_ref {a : List Nat} {sg : Option Nat} (h : RefOk a sg) (r : List Nat) : refR (38 :: (a ++ 59 :: r)) = sg.map fun c => (a.length + 2, c) := by
  obtain ⟨h1, _, _, _, _, h2⟩ := h
  rw [ref_at h1, ← h2]
  split <;> rfl
end RM
namespace PM
open My PySem PySem.Spec PyProof.Rows L2
def GapL : List Nat := [32, 9, 10]
def pos (t r : List Nat) : Nat := t.length - r.length
theorem pos_le (t r : List Nat) : pos t r ≤ t.length := Nat.sub_le _ _
theorem drop_pos {t : List Nat} {p : Nat} (h : p ≤ t.length) : pos t (t.drop p) = p := by
  unfold pos
  rw [List.length_drop]
  omega
theorem suf_dw (g : Nat → Bool) (r : List Nat) : r.dropWhile g <:+ r := List.dropWhile_suffix g
def ov (t : List Nat) : Option (List Nat) → L2.V
  | none => .non
  | some r => .int (pos t r : Nat)
def ba (ws r : List Nat) : List Nat := r.dropWhile fun c => ws.contains c
theorem dw_len (g : Nat → Bool) (r : List Nat) : (r.dropWhile g).length ≤ r.length := (suf_dw g r).length_le
end PM
namespace DM
open My RM PM PySem PySem.Spec PyProof.Rows L2
theorem tw_app {g : Nat → Bool} {c : Nat} (hc : g c = false) : ∀ (w X : List Nat), w.all g = true → (w ++ c :: X).takeWhile g = w ∧ (w ++ c :: X).dropWhile g = c :: X
  | [], X, _ => by
    show (c :: X).takeWhile g = [] ∧ (c :: X).dropWhile g = c :: X
    rw [List.takeWhile_cons, List.dropWhile_cons, hc]
    exact ⟨rfl, rfl⟩
  | a :: w, X, h => by
    have h2 := Bool.and_eq_true_iff.mp (show (g a && w.all g) = true from h)
    obtain ⟨h3, h4⟩ := tw_app hc w X h2.2
    show (a :: (w ++ c :: X)).takeWhile g = a :: w ∧ (a :: (w ++ c :: X)).dropWhile g = c :: X
    rw [List.takeWhile_cons, List.dropWhile_cons, h2.1, if_pos rfl, if_pos rfl, h3, h4]
    exact ⟨rfl, rfl⟩
end DM
namespace TR
open PySem PySem.Spec PyProof.Rows L2 My RM PM DM
def AllowL : List Nat := [9, 10] ++ ((List.range 95).map (· + 32)).filter (· != 37)
inductive So where
  | B
  | I
  | K
def txt (z : Str) : Bool := z.cps.toList.all fun c => AllowL.contains c
def ok (b : Bool) : Option (List (So × PyData)) := if b = true then some [] else none
end TR
namespace BM
open PySem PySem.Spec PyProof.Rows L2 My RM PM DM IM TR
inductive Blk where
  | quote (bs : List Blk)
  | list (g : Str) (st : Option Nat) (t : Bool) (its : List (List Blk))
  | heading (l : Nat) (r : List Inl)
  | brk
  | code (t : List Nat) (i : Option (List Nat))
  | html (t : List Nat)
  | defn (l d : List Nat) (t : Option (List Nat))
  | par (r : List Inl)
def optI : Option Nat → PyData
  | none => .none
  | some n => .int (n : Int)
mutual
def Blk.toD : Blk → PyData
  | .quote bs => .tuple [.str "quote", .tuple (blksD bs)]
  | .list g st t its => .tuple [.str "list", .str g, optI st, .bool t, .tuple (itsD its)]
  | .heading l r => .tuple [.str "heading", .int (l : Int), .tuple (rowD r)]
  | .brk => .tuple [.str "break"]
  | .code t i => .tuple [.str "code", .str (S t), optD i]
  | .html t => .tuple [.str "html", .str (S t)]
  | .defn l d t => .tuple [.str "definition", .str (S l), .str (S d), optD t]
  | .par r => .tuple [.str "paragraph", .tuple (rowD r)]
def blksD : List Blk → List PyData
  | [] => []
  | b :: bs => b.toD :: blksD bs
def itsD : List (List Blk) → List PyData
  | [] => []
  | bs :: its => .tuple (blksD bs) :: itsD its
end
def isT : Inl → Bool
  | .text _ => true
  | _ => false
mutual
def hI : Inl → Nat
  | .emph r => 1 + hR r
  | .strong r => 1 + hR r
  | .link _ _ r => 1 + hR r
  | .image _ _ r => 1 + hR r
  | _ => 0
def hR : List Inl → Nat
  | [] => 0
  | x :: r => max (hI x) (hR r)
end
def nameI : Inl → Str
  | .text _ => "text"
  | .code _ => "code"
  | .html _ => "html"
  | .soft => "soft"
  | .hard => "hard"
  | .emph _ => "emph"
  | .strong _ => "strong"
  | .link _ _ _ => "link"
  | .image _ _ _ => "image"
theorem name_text (x : Inl) : decide (nameI x = ("text" : Str)) = isT x := by
  cases x with
  | text t => exact decide_eq_true rfl
  | code t => exact (by decide +kernel : decide (("code" : Str) = "text") = false)
  | html t => exact (by decide +kernel : decide (("html" : Str) = "text") = false)
  | soft => exact (by decide +kernel : decide (("soft" : Str) = "text") = false)
  | hard => exact (by decide +kernel : decide (("hard" : Str) = "text") = false)
  | emph r => exact (by decide +kernel : decide (("emph" : Str) = "text") = false)
  | strong r => exact (by decide +kernel : decide (("strong" : Str) = "text") = false)
  | link d t r => exact (by decide +kernel : decide (("link" : Str) = "text") = false)
  | image d t r => exact (by decide +kernel : decide (("image" : Str) = "text") = false)
mutual
def hB : Blk → Nat
  | .quote bs => 1 + hBs bs
  | .list _ _ _ its => hIts its
  | .heading _ r => 1 + hR r
  | .par r => 1 + hR r
  | _ => 0
def hBs : List Blk → Nat
  | [] => 0
  | b :: bs => max (hB b) (hBs bs)
def hIts : List (List Blk) → Nat
  | [] => 0
  | bs :: its => max (1 + hBs bs) (hIts its)
end
end BM
namespace PG
open PySem PySem.Spec PyProof.Rows L2 My RM PM DM IM TR BM
/-- a sign as it stands in a page -/
def escC (c : Nat) : List Nat := if c = 38 then [38, 97, 109, 112, 59] else if c = 60 then [38, 108, 116, 59] else if c = 62 then [38, 103, 116, 59] else if c = 34 then [38, 113, 117, 111, 116, 59] else [c]
def escL (l : List Nat) : List Nat := l.flatMap escC
end PG
namespace PG
open PySem PySem.Spec PyProof.Rows L2 My RM PM DM IM TR BM
def cs (s : String) : List Nat := s.toList.map Char.toNat
theorem lit (s : String) : Str.ofString s = S (cs s) := Str.ofString_eq_toList s
def decN (n : Nat) : List Nat := cs (toString (n : Int))
def attrP (name : String) (t : List Nat) : List Nat := cs " " ++ cs name ++ cs "=\"" ++ escL t ++ cs "\""
def titleP : Option (List Nat) → List Nat
  | none => []
  | some t => if t = [] then [] else attrP "title" t
mutual
def ip : Inl → List Nat
  | .text t => escL t
  | .code t => cs "<code>" ++ escL t ++ cs "</code>"
  | .html t => t
  | .soft => cs "\n"
  | .hard => cs "<br />\n"
  | .emph r => cs "<em>" ++ rp r ++ cs "</em>"
  | .strong r => cs "<strong>" ++ rp r ++ cs "</strong>"
  | .link d t r => cs "<a" ++ attrP "href" d ++ titleP t ++ cs ">" ++ rp r ++ cs "</a>"
  | .image d t r => cs "<img" ++ attrP "src" d ++ attrP "alt" (rowW r) ++ titleP t ++ cs " />"
def rp : List Inl → List Nat
  | [] => []
  | x :: r => ip x ++ rp r
end
def whiB (c : Nat) : Bool := c == 32 || c == 9 || c == 10
def firstW (l : List Nat) : List Nat := l.takeWhile fun c => !whiB c
def langP : Option (List Nat) → List Nat
  | none => []
  | some i => if firstW i = [] then [] else attrP "class" (cs "language-" ++ firstW i)
def isDefn : Blk → Bool
  | .defn _ _ _ => true
  | _ => false
def isPar : Blk → Bool
  | .par _ => true
  | _ => false
def bareP : Blk → List Nat
  | .par r => rp r
  | _ => []
def openP : Option Nat → List Nat
  | none => cs "<ul>\n"
  | some n => if n = 1 then cs "<ol>\n" else cs "<ol" ++ attrP "start" (decN n) ++ cs ">\n"
def closeP : Option Nat → List Nat
  | none => cs "</ul>\n"
  | some _ => cs "</ol>\n"
def nlP (acc : List Nat) (b : Bool) : List Nat := if acc.getLast? = some 10 ∨ b = true then [] else [10]
mutual
def bp : Blk → List Nat
  | .quote bs => cs "<blockquote>\n" ++ bsP bs ++ cs "</blockquote>\n"
  | .list _ st t its => openP st ++ itsP t its ++ closeP st
  | .heading l r => cs "<h" ++ decN l ++ cs ">" ++ rp r ++ cs "</h" ++ decN l ++ cs ">\n"
  | .brk => cs "<hr />\n"
  | .code t i => cs "<pre><code" ++ langP i ++ cs ">" ++ escL t ++ cs "</code></pre>\n"
  | .html t => t
  | .defn _ _ _ => []
  | .par r => cs "<p>" ++ rp r ++ cs "</p>\n"
def bsP : List Blk → List Nat
  | [] => []
  | b :: bs => bp b ++ bsP bs
def itsP (t : Bool) : List (List Blk) → List Nat
  | [] => []
  | bs :: its => itemP t (cs "<li>") true bs ++ cs "</li>\n" ++ itsP t its
def itemP (t : Bool) (acc : List Nat) (first : Bool) : List Blk → List Nat
  | [] => acc
  | b :: bs => if isDefn b = true then itemP t acc first bs
    else itemP t (acc ++ nlP acc (t && isPar b && first) ++ (if (t && isPar b) = true then bareP b else bp b)) false bs
end
mutual
def pc : Inl → Nat
  | .emph r => 1 + pcR r
  | .strong r => 1 + pcR r
  | .link _ _ r => 1 + pcR r
  | .image _ _ r => 1 + pcR r
  | _ => 1
def pcR : List Inl → Nat
  | [] => 0
  | x :: r => pc x + pcR r
end
def _root_.BM.Blk.sub : Blk → List (List Blk)
  | .quote bs => [bs]
  | .list _ _ _ its => its
  | _ => []
mutual
def nB : Blk → Nat
  | .quote bs => 1 + nBs bs
  | .list _ _ _ its => nIts its
  | _ => 0
def nBs : List Blk → Nat
  | [] => 0
  | b :: bs => 1 + nB b + nBs bs
def nIts : List (List Blk) → Nat
  | [] => 0
  | bs :: its => 1 + nBs bs + nIts its
end
end PG
namespace My
open PySem PySem.Spec PyProof.Rows L2
/-- a well of draws that counts its parts -/
def WellC (c : Int) (H : Hp) (L : Addr) : Prop := ∃ x y : Int, H L = some (.lst [.int x, .int y, .int c])
theorem WellC.lst {c : Int} {H : Hp} {L : Addr} (h : WellC c H L) : ∃ xs, H L = some (.lst xs) := by
  obtain ⟨x, y, e⟩ := h
  exact ⟨_, e⟩
theorem WellC.same {c : Int} {H H' : Hp} {L : Addr} (h : WellC c H L) (s : Same H H') : WellC c H' L := by
  obtain ⟨x, y, e⟩ := h
  exact ⟨x, y, s _ _ e⟩
theorem WellC.new {c : Int} {H : Hp} {L p : Addr} {o : HO} (h : WellC c H L) (n : H p = none) : WellC c (upd H p o) L := h.same (same_new n)
theorem WellC.ne {c : Int} {H : Hp} {L p : Addr} (h : WellC c H L) (n : H p = none) : p ≠ L := by
  obtain ⟨x, y, e⟩ := h
  exact (ne_of_none e n).symm
theorem WellC.upd {c : Int} {H : Hp} {L p : Addr} {o : HO} (h : WellC c H L) (n : p ≠ L) : WellC c (upd H p o) L := by
  obtain ⟨x, y, e⟩ := h
  exact ⟨x, y, by rw [upd_ne n.symm]; exact e⟩
theorem asg_ifS {t : TT} {ta tb : TE} {g : TG} {u : TS} {D : Ends} {σ : L2.St} {H : Hp} (P : V → Hp → Prop) (R : Bool → Prop) (ht : AnsS t σ H R) (ha : ∀ H', Same H H' → R true → ValB ta σ H' P) (hb : ∀ H', Same H H' → R false → ValB tb σ H' P)
    (hq : ∀ v H', P v H' → g v σ H' (u D)) : tSeq (tAsg (tIf t ta tb) g) u D σ H := ht _ fun b H' s r => by
  cases b with
  | true => exact iteT (ha H' s r _ hq)
  | false => exact iteF (hb H' s r _ hq)
end My
namespace PG
open PySem PySem.Spec PyProof.Rows L2 My RM PM DM IM TR BM
end PG
namespace My
open PySem PySem.Spec PyProof.Rows L2
end My
namespace CL
open PySem PySem.Spec PyProof.Rows L2 My RM PM DM IM TR BM PG
/-- a tag's name -/
def nameL (g : List Nat) : List Nat := g.takeWhile (· != 32)
inductive Tk where
  | txt (x : List Nat)
  | tag (g : List Nat)
def plain (x : List Nat) : Bool := x.all fun c => c != 60 && c != 62
def okT : List Tk → Bool
  | [] => true
  | .txt x :: r => plain x && okT r
  | .tag g :: r => plain g && okT r
def ren : List Tk → List Nat
  | [] => []
  | .txt x :: r => x ++ ren r
  | .tag g :: r => 60 :: (g ++ 62 :: ren r)
def voidL : List (List Nat) := [cs "br", cs "hr", cs "img"]
def pairL : List (List Nat) := [cs "h1", cs "h2", cs "h3", cs "h4", cs "h5", cs "h6", cs "p", cs "blockquote", cs "ul", cs "ol", cs "li", cs "pre", cs "code", cs "em", cs "strong", cs "a"]
def stepG (st : List (List Nat)) (g : List Nat) : Option (List (List Nat)) :=
  if nameL g ∈ voidL then (if g.drop (g.length - 2) = [32, 47] then some st else none)
  else if (nameL g).take 1 = [47] then (if st.getLast? = some ((nameL g).drop 1) ∧ g = nameL g then some st.dropLast else none)
  else if nameL g ∈ pairL then some (st ++ [nameL g]) else none
def runT : List (List Nat) → List Tk → Option (List (List Nat))
  | st, [] => some st
  | st, .txt _ :: r => runT st r
  | st, .tag g :: r => match stepG st g with
    | none => none
    | some s => runT s r
theorem okT_app : ∀ a b : List Tk, okT (a ++ b) = (okT a && okT b)
  | [], b => rfl
  | .txt x :: a, b => by
    show (plain x && okT (a ++ b)) = (plain x && okT a && okT b)
    rw [okT_app a b, Bool.and_assoc]
  | .tag g :: a, b => by
    show (plain g && okT (a ++ b)) = (plain g && okT a && okT b)
    rw [okT_app a b, Bool.and_assoc]
theorem ren_app : ∀ a b : List Tk, ren (a ++ b) = ren a ++ ren b
  | [], b => rfl
  | .txt x :: a, b => by
    show x ++ ren (a ++ b) = x ++ ren a ++ ren b
    rw [ren_app a b, List.append_assoc]
  | .tag g :: a, b => by
    show 60 :: (g ++ 62 :: ren (a ++ b)) = 60 :: (g ++ 62 :: ren a) ++ ren b
    rw [ren_app a b]
    simp
theorem runT_app : ∀ (a b : List Tk) (st s : List (List Nat)), runT st a = some s → runT st (a ++ b) = runT s b
  | [], b, st, s, h => by cases h; rfl
  | .txt x :: a, b, st, s, h => runT_app a b st s h
  | .tag g :: a, b, st, s, h => by
    have h' : (match stepG st g with | none => none | some s => runT s a) = some s := h
    show (match stepG st g with | none => none | some s => runT s (a ++ b)) = runT s b
    cases e : stepG st g with
    | none => rw [e] at h'; cases h'
    | some s1 =>
      rw [e] at h'
      exact runT_app a b s1 s h'
/-- each tag that opens closes, in its order -/
def Bal (t : List Nat) : Prop := ∃ ts, ren ts = t ∧ okT ts = true ∧ ∀ st, runT st ts = some st
theorem Bal.nil : Bal [] := ⟨[], rfl, rfl, fun _ => rfl⟩
theorem Bal.txt {x : List Nat} (h : plain x = true) : Bal x := ⟨[.txt x], List.append_nil _, by show (plain x && true) = true; rw [h]; rfl, fun _ => rfl⟩
theorem Bal.app {a b : List Nat} (h : Bal a) (g : Bal b) : Bal (a ++ b) := by
  obtain ⟨ts, e1, o1, r1⟩ := h
  obtain ⟨us, e2, o2, r2⟩ := g
  refine ⟨ts ++ us, by rw [ren_app, e1, e2], by rw [okT_app, o1, o2]; rfl, fun st => ?_⟩
  rw [runT_app _ _ st st (r1 st)]
  exact r2 st
end CL
namespace My
open PySem PySem.Spec PyProof.Rows
open Sem (wp)
def lstF (self : Value) : Code × Pos → Bool := fun
  | (.builtin "list.__repr__.loop" ⟨v :: _, _⟩, _) => Builtin.List.listSameRef v self
  | _ => false
theorem lstF_off (self : Value) (c : Code) (p : Pos) (hc : c.isGuard = false) : lstF self (c, p) = false := by
  unfold lstF
  split
  · next v rest kw _ heq => cases heq; simp [Code.isGuard, guardIds] at hc
  · rfl
theorem lstF_pos (self : Value) (c : Code) (p : Pos) : lstF self (c, p) = lstF self (c, default) := by
  unfold lstF
  split
  · next v rest kw _ heq => cases heq; rfl
  · next h =>
    split
    · next v rest kw _ heq =>
      cases heq
      exact absurd rfl (h _ _ _ p)
    · rfl
section
variable {prog : Program} {w : World}
/-- a value's text, a function of the guards alone -/
def ReprG (prog : Program) (w : World) (h₀ : Heap) (d : Nat) (x : Value) (r : List Code → Str) : Prop :=
  ∀ (base : Nat) (A : Around) (g : List Code) (E : Value → Shared → Prop) (s : Shared) (Q : Str → Shared → Prop), base + (r g).length ≤ sizeLine → A.guards = some g → A.units + d < cLine → (∀ b o, h₀.get? b = some o → s.heap.get? b = some o) →
    (∀ h' tk, (∀ b o, s.heap.get? b = some o → h'.get? b = some o) → Q (r g) { s with heap := h', toks := tk }) → wpAny (model prog w) A (pyReprUnder base x) Q E s
theorem ReprG.of_is {x : Value} {t : Str} (h : ReprIs prog w x t) (h₀ : Heap) (d : Nat) : ReprG prog w h₀ d x fun _ => t :=
  fun base A _ E s Q hb _ _ _ hQ => h base hb A E s Q fun tk => hQ s.heap tk fun _ _ e => e
inductive AllG (prog : Program) (w : World) (h₀ : Heap) (d : Nat) : List Value → List (List Code → Str) → Prop
  | nil : AllG prog w h₀ d [] []
  | cons {x : Value} {r : List Code → Str} {l : List Value} {rs : List (List Code → Str)} : ReprG prog w h₀ d x r → AllG prog w h₀ d l rs → AllG prog w h₀ d (x :: l) (r :: rs)
theorem AllG.len {h₀ : Heap} {d : Nat} : ∀ {l : List Value} {rs : List (List Code → Str)}, AllG prog w h₀ d l rs → rs.length = l.length
  | _, _, .nil => rfl
  | _, _, .cons _ h => by rw [List.length_cons, List.length_cons, h.len]
theorem tupFoldG {A : Around} {E : Value → Shared → Prop} {h₀ : Heap} {d : Nat} {g : List Code} (hg : A.guards = some g) (hu : A.units + d < cLine) : ∀ (l : List Value) (rs : List (List Code → Str)) (acc : Array Str) (n : Nat) (s : Shared) (Q : (Array Str × Nat) → Shared → Prop), AllG prog w h₀ d l rs → n + piled (rs.map fun r => r g) ≤ sizeLine →
    (∀ b o, h₀.get? b = some o → s.heap.get? b = some o) → (∀ h' tk, (∀ b o, s.heap.get? b = some o → h'.get? b = some o) → Q ⟨acc ++ (rs.map fun r => r g).toArray, n + piled (rs.map fun r => r g)⟩ { s with heap := h', toks := tk }) →
    wpAny (model prog w) A (forIn l (⟨acc, n⟩ : (Array Str × Nat)) tupBody) Q E s := by
  intro l
  induction l with
  | nil =>
    intro rs acc n s Q hT _ _ h
    cases hT
    have h0 := h s.heap s.toks fun _ _ e => e
    rw [List.forIn_nil]
    exact wpAny_pure (by simpa [piled] using h0)
  | cons x l ih =>
    intro rs acc n s Q hT hn hk0 h
    cases hT with
    | cons hx hl =>
      rename_i r rs
      rw [List.map_cons, piled_cons] at hn
      rw [List.forIn_cons]
      refine wpAny_bind (wpAny_bind (hx (n + 1) _ _ _ _ _ (by omega) hg hu hk0 fun h' tk hkp => wpAny_pure ?_))
      refine ih rs (acc.push (r g)) (n + ((r g).length + 2)) _ Q hl (by omega) (fun b o e => hkp _ _ (hk0 _ _ e)) fun h'' tk' hk2 => ?_
      have h1 := h h'' tk' fun b o e => hk2 _ _ (hkp _ _ e)
      have e : n + piled ((r :: rs).map fun r => r g) = n + ((r g).length + 2) + piled (rs.map fun r => r g) := by rw [List.map_cons, piled_cons]; omega
      rw [e] at h1
      simpa using h1
def tupG (a : Addr) (c : Code) (rs : List (List Code → Str)) (g : List Code) : Str := if (g.any fun c => tupGuardF (.ref a) (c, default)) = true then "(...)" else tupleText (rs.map fun r => r (c :: g))
theorem own_tupG {h₀ : Heap} {d : Nat} {a : Addr} {o : Obj} {items : Array Value} {n : Nat} {rs : List (List Code → Str)}
    (ha : h₀.get? a = some o) (hd : o.data = .seq items n) (hT : AllG prog w h₀ d items.toList rs)
    {A : Around} {g : List Code} {s : Shared} {R : Result → Shared → Prop} {base : Nat} {id : String} {rest : List Value}
    (hcg : (Code.builtin id ⟨.ref a :: rest, []⟩).isGuard = true) (hcu : (A.under (.builtin id ⟨.ref a :: rest, []⟩)).units = A.units + 1)
    (hg : A.guards = some g) (hu : A.units + (d + 1) < cLine) (hk0 : ∀ b o, h₀.get? b = some o → s.heap.get? b = some o)
    (hR : ∀ h' u tk, (∀ b o, s.heap.get? b = some o → h'.get? b = some o) → R (.ok (.ret (.str (tupG a (.builtin id ⟨.ref a :: rest, []⟩) rs g) u))) { s with heap := h', toks := tk })
    (hsz : base + (tupG a (.builtin id ⟨.ref a :: rest, []⟩) rs g).length ≤ sizeLine) :
    wpOwn (model prog w) A (.builtin id ⟨.ref a :: rest, []⟩) (Builtin.tupleReprAt base ⟨[.ref a], []⟩) (fun fin s' => match fin with | .done f => R (.ok f) s' | .again c' => c'.quiet = true ∧ codeAny (model prog w) A c' R s') (fun e s' => R (.error e) s') s := by
  rw [tuple_repr_tree, tupleReprUnderWay_eq]
  refine wpOwn_bind (wpOwn_stackTailAny hg (tupGuardF_off _) (tupGuardF_pos _) ?_)
  unfold tupG at hR hsz
  cases hn : (g.any fun c => tupGuardF (.ref a) (c, default)) with
  | true =>
    rw [hn] at hR hsz
    rw [if_pos rfl] at hsz
    refine wpOwn_of_wpAny ?_
    show wpAny _ _ (do rule "tuple.repr.in-itself"; retStr "(...)") _ _ s
    refine wpAny_bind (wpAny_rule ?_)
    unfold retStr
    refine wpAny_bind (wpAny_mkStr (wpAny_pure ?_) (by omega))
    have h1 := hR s.heap s.toks (s.toks + 1) fun _ _ e => e
    rw [if_pos rfl] at h1
    exact h1
  | false =>
    rw [hn] at hR hsz
    rw [if_neg Bool.false_ne_true] at hsz
    have hlen : (rs.map fun r => r (.builtin id ⟨.ref a :: rest, []⟩ :: g)).length = items.size := by
      rw [List.length_map, hT.len]
      simp
    have hsz0 : (tupleText (rs.map fun r => r (.builtin id ⟨.ref a :: rest, []⟩ :: g))).length ≤ sizeLine := by omega
    have hp := piled_le_tupleText (rs.map fun r => r (.builtin id ⟨.ref a :: rest, []⟩ :: g))
    refine wpOwn_of_wpAny ?_
    show wpAny _ _ (tupleReprRest base (.ref a)) _ _ s
    unfold tupleReprRest Builtin.Tuple.tupleItemsOf
    refine wpAny_bind (wpAny_bind (wpAny_seqItems (hk0 _ _ ha) hd (wpAny_pure ?_)))
    rw [← Array.forIn_toList]
    refine wpAny_bind (tupFoldG (guards_under_guard hcg hg) (by rw [hcu]; omega) _ rs _ _ _ _ hT (by omega) hk0 fun h' tk hkp => ?_)
    refine wpAny_bind (wpAny_mkStr (wpAny_pure ?_) (by simpa [tupleText, hlen] using hsz0))
    have h1 := hR h' tk (tk + 1) hkp
    rw [if_neg Bool.false_ne_true] at h1
    simpa [tupleText, hlen] using h1
/-- a tuple within, of what has one text -/
def tupC (a : Addr) (ts : List Str) (g : List Code) : Str := if (g.any fun c => tupGuardF (.ref a) (c, default)) = true then "(...)" else tupleText ts
theorem tupC_eq (a : Addr) (c : Code) (ts : List Str) (g : List Code) : tupG a c (ts.map fun t _ => t) g = tupC a ts g := by
  unfold tupG tupC
  rw [List.map_map]
  have e : (ts.map ((fun r : List Code → Str => r (c :: g)) ∘ fun t _ => t)) = ts := by
    conv => rhs; rw [← List.map_id ts]
    rfl
  rw [e]
theorem ReprG.tup {h₀ : Heap} {d : Nat} {a : Addr} {o : Obj} {items : Array Value} {n : Nat} {ts : List Str} (ha : h₀.get? a = some o) (hc : o.cls = .type "tuple") (hd : o.data = .seq items n) (hT : AllG prog w h₀ d items.toList (ts.map fun t _ => t)) :
    ReprG prog w h₀ (d + 1) (.ref a) (tupC a ts) := fun base A g E s Q hz hg hu hk0 hQ =>
  wpAny_pyReprUnder_ref (by omega) (wpAny_pyReprObjUnder_twin (twin := "tuple.__repr__.under") ⟨o, hk0 _ _ ha, hc⟩ F.slot_tuple_repr rfl (by omega)
    (call_twin_own (F.quiet_tuple_repr_under _) F.entry_tuple_repr_under F.check_tuple_repr_under ⟨o, hk0 _ _ ha, hc⟩ F.slot_tuple_repr (F.args_tuple_repr_1 _)
      (own_tupG (R := callEnd _ E) ha hd hT (isGuard_tuple_repr_under _) (units_under_tuple_repr_under _ _) hg hu hk0 (fun h' u tk hk => by
        rw [tupC_eq]
        exact ⟨⟨_, _, rfl⟩, ⟨_, _, rfl, hQ h' tk hk⟩⟩) (by rw [tupC_eq]; exact hz))))
/-- a list within, of what has one text -/
def lstC (a : Addr) (ts : List Str) (g : List Code) : Str := if (g.any fun c => lstF (.ref a) (c, default)) = true then "[...]" else listText ts
theorem own_lst {h₀ : Heap} {d : Nat} {a : Addr} {oa : Obj} {x : Value} {l : List Value} {na : Nat} {ts : List Str}
    (ha : h₀.get? a = some oa) (hda : oa.data = .seq (x :: l).toArray na) (hlen : ts.length = (x :: l).toArray.size)
    (hT : ∀ (i : Nat) (y : Value), (x :: l).toArray[i]? = some y → ∃ t, ts[i]? = some t ∧ ReprIs prog w y t)
    {A : Around} {g : List Code} {s : Shared} {R : Result → Shared → Prop} {base : Nat} {c : Code}
    (hg : A.guards = some g) (hu : A.units + (d + 1) < cLine) (hk0 : ∀ b o, h₀.get? b = some o → s.heap.get? b = some o)
    (hR : ∀ h' u tk, (∀ b o, s.heap.get? b = some o → h'.get? b = some o) → R (.ok (.ret (.str (lstC a ts g) u))) { s with heap := h', toks := tk })
    (hsz : base + (lstC a ts g).length ≤ sizeLine) :
    wpOwn (model prog w) A c (Builtin.listReprAt base ⟨[.ref a], []⟩) (fun fin s' => match fin with | .done f => R (.ok f) s' | .again c' => c'.quiet = true ∧ codeAny (model prog w) A c' R s') (fun e s' => R (.error e) s') s := by
  have tree : Builtin.listReprAt base ⟨[.ref a], []⟩ = (do
    if (← Builtin.List.listItems (.ref a)).isEmpty then (do rule "list.__repr__.empty"; retStr "[]") else do
      if ← (do return (← stack).tail.any (lstF (.ref a))) then (do rule "list.__repr__.in-itself"; retStr "[...]") else (do again (.builtin "list.__repr__.loop" ⟨[.ref a, rawInt 0, ← newList [], rawInt base], []⟩))) := rfl
  rw [tree]
  have hPf : h₀.get? s.heap.objs.size = none := by
    cases e : h₀.get? s.heap.objs.size with
    | none => rfl
    | some o => exact absurd (Heap.lt_size (hk0 _ _ e)) (Nat.lt_irrefl _)
  refine wpOwn_bind (wpOwn_of_wpAny (wpAny_listItems (hk0 _ _ ha) hda ?_))
  have he : (x :: l).toArray.isEmpty = false := by simp
  rw [he]
  show wpOwn _ _ _ (do
      if ← (do return (← stack).tail.any (lstF (.ref a))) then (do rule "list.__repr__.in-itself"; retStr "[...]") else (do again (.builtin "list.__repr__.loop" ⟨[.ref a, rawInt 0, ← newList [], rawInt base], []⟩))) _ _ s
  refine wpOwn_bind (wpOwn_stackTailAny hg (lstF_off _) (lstF_pos _) ?_)
  unfold lstC at hR hsz
  cases hn : (g.any fun c => lstF (.ref a) (c, default)) with
  | true =>
    rw [hn] at hR hsz
    rw [if_pos rfl] at hsz
    refine wpOwn_of_wpAny ?_
    show wpAny _ _ (do rule "list.__repr__.in-itself"; retStr "[...]") _ _ s
    refine wpAny_bind (wpAny_rule ?_)
    unfold retStr
    refine wpAny_bind (wpAny_mkStr (wpAny_pure ?_) (by omega))
    have h1 := hR s.heap s.toks (s.toks + 1) fun _ _ e => e
    rw [if_pos rfl] at h1
    exact h1
  | false =>
    rw [hn] at hR hsz
    rw [if_neg Bool.false_ne_true] at hsz
    refine wpOwn_of_wpAny ?_
    show wpAny _ _ (do again (.builtin "list.__repr__.loop" ⟨[.ref a, rawInt 0, ← newList [], rawInt base], []⟩)) _ _ s
    refine wpAny_bind (m := newList []) (wpAny_newObj_type ?_)
    refine wpAny_pure ⟨F.quiet_list_repr_loop _, ?_⟩
    refine codeAny_list_repr_loopK (P := s.heap.objs.size) (as := []) (d := d) (Nat.ne_of_lt (Heap.lt_size (hk0 _ _ ha))) hg (fun b hb => nomatch hb) hu (fun hb => nomatch hb) hPf hlen (fun i y e => by
      obtain ⟨t, e1, e2⟩ := hT i y e
      exact ⟨t, e1, ReprK.of_is e2 _ _ _⟩) hsz _ 0 _ oa na #[] _ [] rfl (Nat.zero_le _)
      (fun b o e => Heap.get?_push_of_some _ (hk0 _ _ e)) (Heap.get?_push_of_some _ (hk0 _ _ ha)) hda (Heap.get?_push_size _ rfl) rfl (by simp) fun h' u tk hk => ?_
    have h1 := hR h' u tk fun b o e => hk b o (Nat.ne_of_lt (Heap.lt_size e)) (Heap.get?_push_of_some _ e)
    rw [if_neg Bool.false_ne_true] at h1
    exact h1
theorem quiet_list_under (args : Args) : (Code.builtin "list.__repr__.under" args).quiet = true := Code.quiet_builtin args (by decide +kernel)
theorem ReprG.lst {h₀ : Heap} {d : Nat} {a : Addr} {oa : Obj} {x : Value} {l : List Value} {na : Nat} {ts : List Str}
    (ha : h₀.get? a = some oa) (hc : oa.cls = .type "list") (hda : oa.data = .seq (x :: l).toArray na) (hlen : ts.length = (x :: l).toArray.size)
    (hT : ∀ (i : Nat) (y : Value), (x :: l).toArray[i]? = some y → ∃ t, ts[i]? = some t ∧ ReprIs prog w y t) :
    ReprG prog w h₀ (d + 1) (.ref a) (lstC a ts) := fun base A g E s Q hz hg hu hk0 hQ =>
  wpAny_pyReprUnder_ref (by omega) (wpAny_pyReprObjUnder_twin (twin := "list.__repr__.under") ⟨oa, hk0 _ _ ha, hc⟩ F.slot_list_repr.toG rfl (by omega)
    (call_twin_own (quiet_list_under _) F.entry_list_repr_under F.check_list_repr_under ⟨oa, hk0 _ _ ha, hc⟩ F.slot_list_repr.toG (F.args_list_repr_1 _)
      (own_lst (R := callEnd _ E) (d := d) ha hda hlen hT hg hu hk0 (fun h' u tk hk => ⟨⟨_, _, rfl⟩, ⟨_, _, rfl, hQ h' tk hk⟩⟩) hz)))
end
end My
namespace My
open PySem PySem.Spec PyProof.Rows L2
theorem ps_dead {X : Cx} {b : Stmt} : PS X b (fun _ _ _ => False) := ⟨fun _ _ _ _ _ _ h => h.elim⟩
end My
namespace My
open PySem PySem.Spec PyProof.Rows L2
end My
namespace My
open PySem PySem.Spec PyProof.Rows L2
end My
namespace My
open PySem PySem.W PySem.Calls PyProof.Rows PyProof.V PySem.Spec L2
abbrev kTL (P : Program) (w : World) : HeapKind P w (List Leaf) := tupleKind (leafKind P w)
abbrev Ent := List Leaf × Addr × Addr
def entV (e : Ent) : List Leaf × Addr × Value := (e.1, e.2.1, .ref e.2.2)
def IsDE (P : Program) (w : World) (d : Addr) (xs : List Ent) (o : Obj) : Prop := ∃ es ep, o.ExactDict ∧ o.data = .dict es ep ∧ es.toList = (xs.map entV).map (entryOfKey (kTL P w)) ∧ (xs.map (·.1)).Nodup
def dictE (P : Program) (w : World) (d : Addr) (xs : List Ent) : HO := .ext fun h => xs.length ≤ sizeLine ∧ (d == sysModules) = false ∧ ∃ o, h.get? d = some o ∧ IsDE P w d xs o
theorem dictE_ok {P : Program} {w : World} {H : Hp} {h : Heap} {d : Addr} {xs : List Ent} (a : xs.length ≤ sizeLine) (b : (d == sysModules) = false) (c : ∃ o, h.get? d = some o ∧ IsDE P w d xs o) : ObjOk P w H h d (dictE P w d xs) :=
  ⟨⟨a, b, c⟩, (let ⟨o, e, _⟩ := c; ⟨o, e⟩), fun _ _ x k => let ⟨a, b, o, e, r⟩ := x; ⟨a, b, o, k o e, r⟩⟩
theorem dictE_of {P : Program} {w : World} {H : Hp} {h : Heap} {d : Addr} {xs : List Ent} (x : ObjOk P w H h d (dictE P w d xs)) : xs.length ≤ sizeLine ∧ (d == sysModules) = false ∧ ∃ o, h.get? d = some o ∧ IsDE P w d xs o := x.1
def leafV : V → Option Leaf
  | .int i => some (.num i)
  | .bl b => some (.num (if b = true then 1 else 0))
  | .str x => some (.text x)
  | .non => some .none
  | _ => Option.none
/-- the tuple at q is such a key -/
def KeyAt (H : Hp) (q : Addr) (ks : List Leaf) : Prop := ∃ vs, H q = some (.tup vs) ∧ vs.map leafV = ks.map some
theorem leaf_is {P : Program} {w : World} {v : V} {k : Leaf} {u : Value} (h : leafV v = some k) (r : RelV v u) : (leafKind P w).is k u = true := by
  cases v with
  | int i =>
    cases h
    obtain ⟨t, rfl⟩ : ∃ t, u = .int i t := r
    exact decide_eq_true rfl
  | bl b =>
    cases h
    obtain rfl : u = .bool b := r
    cases b <;> rfl
  | str x =>
    cases h
    obtain ⟨t, rfl⟩ : ∃ t, u = .str x t := r
    show (x == x) = true
    simp
  | non =>
    cases h
    obtain rfl : u = .none := r
    rfl
  | _ => cases h
theorem leaves_are {P : Program} {w : World} : ∀ {vs : List V} {ks : List Leaf} {us : List Value}, vs.map leafV = ks.map some → Vals vs us → ItemsAre (leafKind P w) ks us
  | [], [], _, _, .nil => .nil
  | [], _ :: _, _, h, _ => by cases h
  | _ :: _, [], _, h, _ => by cases h
  | v :: vs, k :: ks, _, h, .cons r t => by
    rw [List.map_cons, List.map_cons] at h
    obtain ⟨h1, h2⟩ := List.cons.inj h
    exact .cons (leaf_is h1 r) (leaves_are h2 t)
theorem keyE {P : Program} {w : World} {H : Hp} {h : Heap} {q : Addr} {ks : List Leaf} (ok : HOk P w H h) (k : KeyAt H q ks) : (kTL P w).is h ks q := by
  obtain ⟨vs, e, hk⟩ := k
  obtain ⟨_, its, r, o, h1, h2, n, h3⟩ := (show ObjOk P w H h q (.tup vs) from ok q _ e)
  exact ⟨o, its.toArray, n, h1, h2, h3, by simpa using leaves_are hk r⟩
section
variable {X : Cx} {pos : Pos}
/-- {}, to be such a dict -/
def tDNewE (P : Program) (w : World) : TE := fun _ H Q => ∀ p, H p = none → Q (.ref p) (upd H p (dictE P w p []))
theorem pe_dnewE : PE X (.Dict [] [] pos) (tDNewE X.prog X.w) := ⟨fun pins s σ H Q I h =>
  wpAny_Dict_empty ⟨.ref s.heap.objs.size, _, I.laid (a := s.heap.objs.size) (o := dictE X.prog X.w s.heap.objs.size []) (t' := s.toks) (fun _ _ q => Heap.get?_push_of_some _ q) (Nat.le_refl _)
    (dictE_ok (Nat.zero_le _) (beq_eq_false_iff_ne.mpr (Ne.symm (Nat.ne_of_lt I.big))) ⟨_, Heap.get?_push_size _ rfl, #[], 0, ⟨rfl, rfl, rfl⟩, rfl, rfl, List.nodup_nil⟩), rfl, h _ (I.hok.fresh (Nat.le_refl _))⟩⟩
def lookE (es : List Ent) (ks : List Leaf) : Option Addr := (es.find? fun e => decide (e.1 = ks)).map fun e => e.2.2
theorem atKey_entV (es : List Ent) (ks : List Leaf) : (atKey (es.map entV) ks).map (·.2) = (lookE es ks).map Value.ref := by
  unfold lookE atKey
  induction es with
  | nil => rfl
  | cons e r ih =>
    rw [List.map_cons, List.find?_cons, List.find?_cons]
    show ((match decide (e.1 = ks) with | true => some (entV e) | false => _).map _).map _ = _
    cases decide (e.1 = ks) with
    | true => rfl
    | false => exact ih
/-- d.setdefault(k, l) -/
def rSetE (P : Program) (w : World) : V → List V → Hp → VK → Prop := fun x xs H Q => ∃ (d : Addr) (es : List Ent) (q : Addr) (ks : List Leaf) (l : Addr), x = .ref d ∧ xs = [.ref q, .ref l] ∧ H d = some (dictE P w d es) ∧ KeyAt H q ks ∧ (∀ e ∈ es, KeyAt H e.2.1 e.1) ∧ es.length < sizeLine ∧
  (∀ a, lookE es ks = some a → Q (.ref a) H) ∧ (lookE es ks = none → Q (.ref l) (upd H d (dictE P w d (es ++ [(ks, q, l)]))))
theorem mt_setE (hu : X.A.units + 1 < cLine) : MtR X "dict.setdefault" (rSetE X.prog X.w) := by
  intro pins s σ H x xs v us Q I rx rxs h
  obtain ⟨d, es, q, ks, l, rfl, rfl, hd, hq, hes, hlt, q1, q2⟩ := h
  cases rx
  obtain ⟨u1, u2, rfl, r1, r2⟩ := vals2 rxs
  cases r1
  cases r2
  obtain ⟨hz, hs, o, ho, des, ep, hx, hdat, hent, hnd⟩ := dictE_of (I.hok d _ hd)
  have dd : s.heap.DictOfH (kTL X.prog X.w) d (es.map entV) := ⟨o, des, ep, ho, hx, hdat, hent, fun y hy => by
    obtain ⟨e, he, rfl⟩ := List.mem_map.mp hy
    exact keyE I.hok (hes e he), by rw [List.map_map]; exact hnd⟩
  have hz' : (es.map entV).length ≤ sizeLine := by rw [List.length_map]; exact hz
  refine call_setdefault_heap (k := ks) (tupleKind_room_in1 hu) (keyE I.hok hq) hs dd (fun p hp => ?_) (fun hn h' hm' hs' => ?_) hz'
  · have e := atKey_entV es ks
    rw [hp] at e
    cases el : lookE es ks with
    | none => rw [el] at e; cases e
    | some a =>
      rw [el] at e
      have e2 : p.2 = Value.ref a := Option.some.inj e
      exact ⟨.ref a, H, I.tok _, by rw [e2]; rfl, q1 a el⟩
  · have e := atKey_entV es ks
    rw [hn] at e
    have el : lookE es ks = none := by
      cases el : lookE es ks with
      | none => rfl
      | some a => rw [el] at e; cases e
    have hst : storedH (es.map entV) ks q (.ref l) = (es ++ [(ks, q, l)]).map entV := by
      unfold storedH
      rw [hn]
      simp [entV]
    rw [hst] at hm'
    obtain ⟨o2, es2, ep2, ho2, hx2, hd2, he2, _, hn2⟩ := hm'
    refine ⟨.ref l, _, d_write I (by rw [hd]; exact True.intro) hs' ⟨o2, ho2⟩ (dictE_ok (xs := es ++ [(ks, q, l)]) (by rw [List.length_append, List.length_singleton]; omega) hs ⟨o2, ho2, es2, ep2, hx2, hd2, he2, by rw [List.map_map] at hn2; exact hn2⟩), rfl, q2 el⟩
/-- d.values() -/
def valuesO (p d : Addr) : HO := .ext fun h => h.IsValuesView p d
theorem valuesO_ok {P : Program} {w : World} {H : Hp} {h : Heap} {p d : Addr} (e : h.get? p = some { cls := .type "dict_values", data := .fields #[.ref d] }) : ObjOk P w H h p (valuesO p d) :=
  ⟨⟨_, e, rfl, rfl⟩, ⟨_, e⟩, fun h1 h2 x k => let ⟨o, ho, r⟩ := x; ⟨o, k o ho, r⟩⟩
def rValsE (P : Program) (w : World) : V → List V → Hp → VK → Prop := fun x xs H Q => ∃ (d : Addr) (es : List Ent), x = .ref d ∧ xs = [] ∧ H d = some (dictE P w d es) ∧ ∀ p, H p = none → Q (.ref p) (upd H p (valuesO p d))
theorem mt_valsE : MtR X "dict.values" (rValsE X.prog X.w) := by
  intro pins s σ H x xs v us Q I rx rxs h
  obtain ⟨d, es, rfl, rfl, hd, q⟩ := h
  cases rx
  cases rxs
  obtain ⟨hz, hs, o, ho, des, ep, hx, hdat, hent, hnd⟩ := dictE_of (I.hok d _ hd)
  have hf : H s.heap.objs.size = none := I.hok.fresh (Nat.le_refl _)
  refine call_meetsIn PySem.F.slot_dict_values ⟨o, ho, hx.1⟩ PySem.F.entry_dict_values (PySem.F.args_dict_values_1 _) (meets_dict_values_raw d hs) ⟨⟨des, ep, o, ho, hx, hdat⟩, ?_⟩
  exact ⟨.ref s.heap.objs.size, upd H s.heap.objs.size (valuesO s.heap.objs.size d), I.laid (t' := s.toks) (fun b u e => Heap.get?_push_of_some _ e) (Nat.le_refl _) (valuesO_ok (Heap.get?_push_size _ rfl)), rfl, q _ hf⟩
/-- list(d.values()) -/
def rListE (P : Program) (w : World) : List V → Hp → VK → Prop := fun xs H Q => ∃ (p d : Addr) (es : List Ent), xs = [V.ref p] ∧ H p = some (valuesO p d) ∧ H d = some (dictE P w d es) ∧ ∀ l, H l = none → Q (.ref l) (upd H l (.lst (es.map fun e => V.ref e.2.2)))
theorem call_listE (hc : X.calm = true) : CallR X (.type "list") (rListE X.prog X.w) := by
  intro pins s σ H xs us Q I r h
  obtain ⟨p, d, es, rfl, hp, hd, q⟩ := h
  obtain ⟨u, rfl, rx⟩ := r.one
  cases rx
  obtain ⟨hz, hs, o, ho, des, ep, hx, hdat, hent, hnd⟩ := dictE_of (I.hok d _ hd)
  have view : s.heap.IsValuesView p d := (show ObjOk X.prog X.w H s.heap p (valuesO p d) from I.hok p _ hp).1
  have l1 : des.size = es.length := by rw [← Array.length_toList, hent, List.length_map, List.length_map]
  refine PySem.W.kdl_call (KdlSrc.rawValues (r := p) (d := d) (es := des) (ep := ep)) (I.ok.hd hc) ⟨view, o, ho, hx, hdat⟩ (by omega) fun h' tk acc' c' kp e it => ?_
  have ea : acc'.toList = (es.map fun e => e.2.2).map Value.ref := by
    have hl : acc'.toList.length = es.length := by rw [Array.length_toList, it.1]; exact l1
    apply List.ext_getElem?
    intro j
    rw [List.map_map, List.getElem?_map]
    cases hj : acc'.toList[j]? with
    | none =>
      have h1 := List.getElem?_eq_none_iff.mp hj
      rw [List.getElem?_eq_none (by omega)]
      rfl
    | some v =>
      obtain ⟨hi, hv⟩ := it.2 j v (by rw [← Array.getElem?_toList]; exact hj)
      have hje : j < es.length := by omega
      rw [List.getElem?_eq_getElem hje]
      have : des.toList[j]? = some (entryOfKey (kTL X.prog X.w) (entV es[j])) := by
        rw [hent, List.getElem?_map, List.getElem?_map, List.getElem?_eq_getElem hje]
        rfl
      rw [Array.getElem?_toList, Array.getElem?_eq_getElem hi] at this
      rw [hv, Option.some.inj this]
      rfl
  have rv : Vals (es.map fun e => V.ref e.2.2) acc'.toList := by
    rw [ea, show (es.map fun e => V.ref e.2.2) = (es.map fun e => e.2.2).map V.ref by rw [List.map_map]; rfl]
    exact vals_refs _
  refine ⟨.ref s.heap.objs.size, _, I.laid (t' := tk) (o := .lst (es.map fun e => V.ref e.2.2)) kp (Nat.le_refl _) ?_, rfl, q _ (I.hok.fresh (Nat.le_refl _))⟩
  exact ⟨by rw [List.length_map]; exact hz, acc'.toList, c', rv, by rw [Array.toArray_toList]; exact e⟩
end
def isE (P : Program) (w : World) (x : V) (H : Hp) : Prop := ∃ (d : Addr) (es : List Ent), x = .ref d ∧ H d = some (dictE P w d es)
theorem isE_is {X : Cx} {pins : List (Addr × Obj)} {σ : L2.St} {H : Hp} {s : Shared} {x : V} {v : Value} (I : Inv X pins σ H s) (r : RelV x v) (e : isE X.prog X.w x H) :
    s.TypeIs v "dict" ∧ ∀ a, v = .ref a → ∃ ob, s.heap.get? a = some ob ∧ ob.dict = none := by
  obtain ⟨d, es, rfl, hd⟩ := e
  cases r
  obtain ⟨_, _, o, ho, _, _, hx, _⟩ := dictE_of (I.hok d _ hd)
  exact ⟨⟨o, ho, hx.1⟩, fun a ea => by cases ea; exact ⟨o, ho, hx.2.1⟩⟩
def tBE0 (P : Program) (w : World) (r : V → List V → Hp → VK → Prop) (to : TE) : TE := fun σ H Q => to σ H fun x H1 => isE P w x H1 ∧ r x [] H1 Q
def tBE (P : Program) (w : World) (r : V → List V → Hp → VK → Prop) (to : TE) (t : TA) : TE := fun σ H Q => to σ H fun x H1 => isE P w x H1 ∧ t σ H1 fun xs H2 => r x xs H2 Q
section
variable {X : Cx} {o e : Expr} {es : List Expr} {to : TE} {t : TA} {name : Str} {apos cpos : Pos} {id : String} {r : V → List V → Hp → VK → Prop}
theorem pe_bE0 (slot : Slot "dict" name id) (hty : typeOf (.builtin id) = pure (.type "method_descriptor")) (hm : MtR X id r) (ho : PE X o to)
    (hbase : attributeBase o name X.env (eval o X.env) = eval o X.env := by rfl) (hline : (apos.endLine == cpos.line) = true := by rfl) : PE X (.Call (.Attribute o name apos) [] [] cpos) (tBE0 X.prog X.w r to) := ⟨fun pins s σ H Q I h =>
  wpAny_Call_method0_late hbase hline (thn (ho.run pins s σ H _ I h) fun v s1 ⟨x, H1, I1, r1, ty, q1⟩ =>
    let ⟨h1, h2⟩ := isE_is I1 r1 ty
    ⟨"dict", id, PySem.F.plainAttrs_dict, slot, hty, h1, h2, Calls.callWith_builtin rfl (PySem.evalArgs_none (hm pins s1 σ H1 x [] v [] Q I1 r1 .nil q1))⟩)⟩
theorem pe_bE (slot : Slot "dict" name id) (hty : typeOf (.builtin id) = pure (.type "method_descriptor")) (hm : MtR X id r) (ho : PE X o to) (ha : PA X (e :: es) t)
    (hbase : attributeBase o name X.env (eval o X.env) = eval o X.env := by rfl)
    (hfew : ((backTo cpos (starEach (e :: es) X.env)).all (fun x => !x.1) && (backToKw cpos (keywordEach [] X.env)).all (fun x => x.1.isSome) && decide ((e :: es).length + ([] : List Keyword).length + (if ([] : List Keyword).isEmpty then 0 else 1) < 30)) = true := by rfl)
    (hline : (apos.endLine == cpos.line) = true := by rfl) (hs : starEach (e :: es) X.env = (false, eval e X.env) :: starEach es X.env := by rfl) (hplain : (backTo cpos (starEach es X.env)).any (·.1) = false := by rfl) :
    PE X (.Call (.Attribute o name apos) (e :: es) [] cpos) (tBE X.prog X.w r to t) := ⟨fun pins s σ H Q I h =>
  wpAny_Call_method_late hbase hfew hline rfl (thn (ho.run pins s σ H _ I h) fun v s1 ⟨x, H1, I1, r1, ty, q1⟩ => by
    have hA := ha.run cpos pins s1 σ H1 _ I1 q1
    refine ⟨"dict", id, PySem.F.plainAttrs_dict, slot, hty, (isE_is I1 r1 ty).1, (isE_is I1 r1 ty).2, ?_⟩
    rw [hs] at hA ⊢
    exact Calls.callWith_builtin (by show (false || (backTo cpos (starEach es X.env)).any (·.1)) = false; rw [hplain] <;> rfl) (Calls.evalArgs_plain (thn hA fun us s2 ⟨vs, H2, I2, r2, q2⟩ => hm pins s2 σ H2 x vs v us Q I2 r1 r2 q2)))⟩
end
def ItE (P : Program) (w : World) (d : Addr) (o : Obj) (es : List Ent) : L2.It :=
  ⟨fun i H => H d = some (.frz o (dictE P w d es)) ∧ i < es.length, fun i H x H' => ∃ T e, es[i]? = some e ∧ x = .ref T ∧ H T = none ∧ H' = upd H T (.tup [.ref e.2.1, .ref e.2.2]), fun i H => H d = some (.frz o (dictE P w d es)) ∧ es.length ≤ i⟩
section
variable {P : Program} {w : World} {K : PySem.W.Frag} {d : Addr} {o : Obj} {des : Array DictEntry} {ep : Nat}
theorem frzE {X : Cx} {pins : List (Addr × Obj)} {σ : L2.St} {H : Hp} {s : Shared} {es : List Ent} (I : Inv X pins σ H s) (hd : H d = some (.frz o (dictE X.prog X.w d es))) :
    (d == sysModules) = false ∧ s.heap.get? d = some o ∧ IsDE X.prog X.w d es o := by
  obtain ⟨h1, h2⟩ := (show ObjOk X.prog X.w H s.heap d (.frz o (dictE X.prog X.w d es)) from I.hok d _ hd)
  obtain ⟨_, hs, o', ho', r⟩ := dictE_of h2
  rw [h1] at ho'
  cases ho'
  exact ⟨hs, h1, r⟩
theorem turn_itemsE {es : List Ent} {elts : List Expr} {kk : Nat} {tpos : Pos} (it : Addr) (hod : o.data = .dict des ep) (hsz : des.size = es.length) :
    Turn P w K (.Tuple elts kk tpos) (ItE P w d o es) [it] it (fun i h => ∃ ok ov, IsItemIter h it d i des.size ep ok ov) where
  mem := by simp
  obj := fun i h st b hb => by
    have e : b = it := by simpa using hb
    subst e
    obtain ⟨ok, ov, e⟩ := st
    exact ⟨_, e, fun v z => nomatch z⟩
  keep := fun i h h' st k => let ⟨ok, ov, e⟩ := st; ⟨ok, ov, k it (by simp) _ e⟩
  item := by
    intro X hP hw hK hc i pins s σ H E I hf st hg
    subst hP hw hK
    obtain ⟨hd, hi⟩ := hg
    obtain ⟨hs, hgd, es', ep', hx, hdt, hent, hnd⟩ := frzE I hd
    obtain ⟨rfl, rfl⟩ := dict_ep hod hdt
    obtain ⟨ok, ov, he⟩ := st
    have hlt : it < s.heap.objs.size := Heap.lt_size he
    have hi' : i < es'.size := by omega
    have hen : es'[i] = entryOfKey (kTL X.prog X.w) (entV es[i]) := by
      have : es'.toList[i]? = some (entryOfKey (kTL X.prog X.w) (entV es[i])) := by
        rw [hent, List.getElem?_map, List.getElem?_map, List.getElem?_eq_getElem hi]
        rfl
      rw [Array.getElem?_toList, Array.getElem?_eq_getElem hi'] at this
      exact Option.some.inj this
    refine DT.nextI he ⟨o, hgd, hx, hdt⟩ hi' fun h' ho hT hz hk => ?_
    refine ⟨_, rfl, wpAny_letOwnedTupleGo_items (s := { s with heap := h' }) ho fun h'' he' sb => ?_⟩
    have hT2 : h''.get? s.heap.objs.size = some { cls := .type "tuple", data := .seq #[es'[i].key, es'[i].val] } := (sb.2 _ (Nat.ne_of_gt hlt)).trans hT
    have new : ObjOk X.prog X.w (upd H s.heap.objs.size (.tup [.ref es[i].2.1, .ref es[i].2.2])) h'' s.heap.objs.size (.tup [.ref es[i].2.1, .ref es[i].2.2]) :=
      ⟨by show 2 ≤ sizeLine; decide, [es'[i].key, es'[i].val], .cons (by rw [hen]; rfl) (.cons (by rw [hen]; rfl) .nil), ⟨_, hT2, rfl, _, rfl⟩⟩
    have I1 : Inv X pins σ (upd H s.heap.objs.size (.tup [.ref es[i].2.1, .ref es[i].2.2])) { s with heap := h'' } :=
      I.turnedNew (t' := s.toks) (ch := [it]) (fun b ob hb e => (sb.2 b (by simpa using hb)).trans (hk b ob (by simpa using hb) e)) hf (Nat.le_refl _) new
    refine ⟨.ref s.heap.objs.size, _, I1, rfl, ⟨_, es[i], List.getElem?_eq_getElem hi, rfl, I.hok.fresh (Nat.le_refl _), rfl⟩, ⟨_, _, he'⟩, fun b hb => ?_⟩
    have e : b = it := by simpa using hb
    rw [e, upd_ne (Nat.ne_of_lt hlt)]
    exact (hf it (by simp)).1
  done := by
    intro X hP hw hK hc i pins s σ H E I hf st hg
    subst hP hw hK
    obtain ⟨hd, hi⟩ := hg
    obtain ⟨f0, f1, f2, f3, f4, f5⟩ := hf it (by simp)
    obtain ⟨hs, hgd, es', ep', hx, hdt, hent, hnd⟩ := frzE I hd
    obtain ⟨rfl, rfl⟩ := dict_ep hod hdt
    obtain ⟨ok, ov, he⟩ := st
    exact DT.endI (I.ok.hd hc) he ⟨o, hgd, hx, hdt⟩ (by omega) fun h' eb => ⟨rfl, I.turned (t' := s.toks) (fun b ob hb e => eb b ob hb e) f0 f1 f3 f4 f5⟩
  self := fun A i s Q E st h => let ⟨_, _, e⟩ := st; PySem.W.kcp_self e h
end
def iItemsE (P : Program) (w : World) (td : TE) : TI := fun σ H R => td σ H fun x H1 => ∃ d o es, x = .ref d ∧ H1 d = some (.frz o (dictE P w d es)) ∧ R (ItE P w d o es) H1
section
variable {X : Cx} {e : Expr} {td : TE} {apos cpos : Pos}
theorem pi_itemsE {elts : List Expr} {kk : Nat} {tpos : Pos} (he : PE X e td) (hbase : attributeBase e "items" X.env (eval e X.env) = eval e X.env := by rfl) (hline : (apos.endLine == cpos.line) = true := by rfl) :
    PI X (.Tuple elts kk tpos) (.Call (.Attribute e "items" apos) [] [] cpos) (iItemsE X.prog X.w td) := by
  refine ⟨fun pins s σ H R I h => ?_⟩
  refine wpAny_Call_method (T := "dict") (id := "dict.items") hbase rfl hline F.plainAttrs_dict F.slot_dict_items F.type_dict_items (thn (he.run pins s σ H _ I h) fun u s1 ⟨x, H1, I1, rx, d, o, es, ex, hd, q⟩ => ?_)
  subst ex
  obtain rfl : u = Value.ref d := rx
  obtain ⟨hs, hgd, des, ep, hx, hdt, hent, hnd⟩ := frzE I1 hd
  have hsz : des.size = es.length := by rw [← Array.length_toList, hent, List.length_map, List.length_map]
  refine ⟨⟨o, hgd, hx.1⟩, fun a ea => ⟨o, by cases ea; exact hgd, hx.2.1⟩, ?_⟩
  have I2 : Inv X pins σ H1 { s1 with heap := s1.heap.push { cls := .type "dict_items", data := .fields #[.ref d] } } := I1.kept (t' := s1.toks) fun b ob q => Heap.get?_push_of_some _ q
  have fin : wpAny (model X.prog X.w) X.A (pyIter (.ref s1.heap.objs.size)) (PIE X pins σ (.Tuple elts kk tpos) R) X.xe { s1 with heap := s1.heap.push { cls := .type "dict_items", data := .fields #[.ref d] } } := by
    refine DT.iterI (d := d) ⟨_, Heap.get?_push_size _ rfl, rfl, rfl⟩ (DT.Raw.push ⟨o, hgd, hx, hdt⟩ _) (pi_one (tk := s1.toks) I2 _ (turn_itemsE _ hdt hsz) ⟨.none, .none, ?_⟩ q)
    exact Heap.get?_push_size _ rfl
  show wpAny _ _ (callWith cpos (.builtin "dict.items") [.ref d] [] []) _ X.xe s1
  exact method_meetsIn F.slot_dict_items F.entry_dict_items rfl (PySem.evalArgs_none ⟨rfl, ⟨o, hgd, hx.1⟩, F.args_dict_items_1 _, _, DT.meetsItems (es := des) (ep := ep) hs, ⟨⟨o, hgd, hx, hdt⟩, fin⟩⟩)
theorem walk_itemsE {P : Program} {w : World} {d : Addr} {o : Obj} {es : List Ent} : Walk (ItE P w d o es) es.length (fun H => H d = some (.frz o (dictE P w d es))) (fun i H x H' => ∃ T e, es[i]? = some e ∧ x = .ref T ∧ H T = none ∧ H' = upd H T (.tup [.ref e.2.1, .ref e.2.2])) where
  goes := fun _ _ h g => ⟨g, h⟩
  stops := fun _ g => ⟨g, Nat.le_refl _⟩
  yields := fun _ _ _ _ _ _ y => y
end
end My
namespace CwR
open PySem PySem.Spec PyProof.Rows L2
section
variable {X : Cx} {a b c e f : Expr} {te tf : TE} {tA tB' tc : TT} {rest : List Expr} {pos : Pos}
def PTT (X : Cx) (e : Expr) (t : TT) : Prop := ∀ (pins : List (Addr × Obj)) (s : Shared) (σ : L2.St) (H : Hp) (Q : Bool → Hp → Prop), 1 ≤ s.toks → Inv X pins σ H s → t σ H Q → wpAny (model X.prog X.w) X.A (isTrue e X.env (eval e X.env)) (TP X pins σ Q) X.xe s
def PWT (X : Cx) (e : Expr) (t : TT) : Prop := ∀ (whole : Sem Value) (pins : List (Addr × Obj)) (s : Shared) (σ : L2.St) (H : Hp) (Q : Bool → Hp → Prop), 1 ≤ s.toks → Inv X pins σ H s → t σ H Q → wpAny (model X.prog X.w) X.A (isTrue e X.env whole) (TP X pins σ Q) X.xe s
theorem PWT.pt {t : TT} (h : PWT X e t) : PTT X e t := fun pins s σ H Q h0 I q => h _ pins s σ H Q h0 I q
end
end CwR
namespace K41
open PySem PySem.Spec PyProof.Rows L2 My RM PM DM IM TR BM PG
section
variable {P : Program} {w : World} {K : PySem.W.Frag} {mg : Str → Option Value} {base : Heap} {x qual : Str} {st : Stmt} {dvs : List V} {f : Addr} {fd : FuncData} {N ps : List Str} {k : Nat} {sp : Sp}
theorem fund_ok (F : FunD K x qual (defArgs st) (defBody st) (defScope st) dvs [] f fd) (Sc : FnScope N ps (defScope st)) (len : ∀ vs H Q E, sp vs H Q E → vs.length = ps.length)
    (hbody : ∀ (cdv : Value) (A : Around) (outer : List Env) (s : Shared) (H : Hp) (vs : List V) (Q : VK) (E : XK), Room k (A.deeper (envOfC qual (defScope st) s.heap.objs.size f cdv)) → sp vs H Q E →
      ∃ t, PSs (cxOf CX0 P w K mg base N qual (defScope st) f cdv A outer s H E).nox (defBody st) t ∧ t { nx := fun _ H' => Q .non H', rt := Q } (start N vs) H) : FnOk P w K mg base CX0 (k + 1) f fd ps sp :=
  F.ok Sc len fun cdv A outer s H vs Q E hr h => by
    obtain ⟨t, h1, h2⟩ := hbody cdv A outer s H vs Q E hr h
    exact ⟨t, h1.nox, h2⟩
theorem fund_binds (F : FunD K x qual (defArgs st) (defBody st) (defScope st) [.non] [] f fd) (n : Nat)
    (h : ∀ (T : Addr) (kV doc pm : Value) (an : Option Addr) (cdv ct : Value) (us its : List Value), us.length = n → its.length = [V.non].length →
      ∃ k, bindArgs (PySem.W.fnOf x qual (defArgs st) (defBody st) (defScope st) (.ref T) kV doc pm an cdv ct) ⟨us, []⟩ = seqItems? (.ref T) >>= k ∧ k (some its.toArray) = pure (ps.zip (us ++ its.drop 0))) (hn : n + 1 = ps.length := by rfl) : Binds K fd ps [.none] := by
  obtain ⟨ds, hv, hb⟩ := F.binds1 n 0 (by simp) hn h
  cases hv with
  | cons r hv =>
    cases hv
    cases r
    exact hb
end
def topS (i : Nat) : Stmt := PySem.Challenge.pw_plainmark_k41_whole_emphasis_of_soups.main.body.getD i (.Pass ⟨0, 0, 0, 0⟩)
def clsOf (s : Stmt) : List Stmt := match s with
  | .ClassDef (body := b) .. => b
  | _ => []
abbrev s_behind_all : Stmt := topS 8
abbrev s_behind_gap : Stmt := topS 9
abbrev s_behind_first : Stmt := topS 10
abbrev s_behind_sign : Stmt := topS 11
abbrev s_is_escape : Stmt := topS 12
abbrev s_first_plain : Stmt := topS 13
abbrev s_strings_in : Stmt := topS 14
abbrev s_reference_at : Stmt := topS 19
abbrev s_decoded : Stmt := topS 20
abbrev s_decoded_at : Stmt := topS 21
abbrev s_sign_meant : Stmt := topS 22
abbrev s_number_in : Stmt := topS 23
abbrev s_sign_of : Stmt := topS 24
abbrev s_normalised : Stmt := topS 30
abbrev s_is_label_text : Stmt := topS 31
abbrev s_is_label : Stmt := topS 32
abbrev s_label_at : Stmt := topS 33
abbrev s_target_at : Stmt := topS 34
abbrev s_title_or_none : Stmt := topS 35
abbrev s_destination_at : Stmt := topS 36
abbrev s_title_at : Stmt := topS 37
abbrev s_enclosed_at : Stmt := topS 38
abbrev s_behind_bare : Stmt := topS 39
abbrev s_tag_at : Stmt := topS 46
abbrev s_open_tag_at : Stmt := topS 47
abbrev s_closing_tag_at : Stmt := topS 48
abbrev s_attribute_at : Stmt := topS 49
abbrev s_value_at : Stmt := topS 50
abbrev s_name_at : Stmt := topS 51
abbrev s_is_letter : Stmt := topS 52
abbrev s_autolink_at : Stmt := topS 61
abbrev s_begins_with_scheme : Stmt := topS 62
abbrev s_is_address : Stmt := topS 63
abbrev s_is_part : Stmt := topS 64
abbrev s_run_at : Stmt := topS 67
abbrev s_kind_of : Stmt := topS 68
abbrev s_pair : Stmt := topS 69
abbrev s_sort_of : Stmt := topS 70
abbrev s_stack_of_partner : Stmt := topS 71
abbrev s_may_pair : Stmt := topS 72
abbrev s_take_both : Stmt := topS 73
abbrev s_built : Stmt := topS 74
abbrev s_joined : Stmt := topS 75
abbrev s_add_text : Stmt := topS 76
abbrev s_scanned : Stmt := topS 80
abbrev s_take_plain : Stmt := topS 81
abbrev s_take_backslash : Stmt := topS 82
abbrev s_take_backquotes : Stmt := topS 83
abbrev s_code_text : Stmt := topS 84
abbrev s_take_angle : Stmt := topS 85
abbrev s_take_reference : Stmt := topS 86
abbrev s_take_line_feed : Stmt := topS 87
abbrev s_take_run : Stmt := topS 88
abbrev s_take_bracket : Stmt := topS 89
abbrev s_take_exclamation : Stmt := topS 90
abbrev s_note : Stmt := topS 91
abbrev s_take_end : Stmt := topS 92
abbrev s_found_behind : Stmt := topS 93
abbrev s_own_label : Stmt := topS 94
abbrev s_check_source : Stmt := topS 97
abbrev s_inlines : Stmt := topS 99
abbrev s_is_known : Stmt := topS 100
abbrev s_is_target : Stmt := topS 101
abbrev s__law_state : Stmt := topS 103
abbrev s__law_draw : Stmt := topS 104
abbrev s__law_one : Stmt := topS 105
abbrev s__law_is_white : Stmt := topS 106
abbrev s__law_is_mark : Stmt := topS 107
abbrev s__law_sides : Stmt := topS 108
abbrev s__law_may : Stmt := topS 109
abbrev s__law_spans : Stmt := topS 110
abbrev s__law_runs : Stmt := topS 111
abbrev s__law_put : Stmt := topS 112
abbrev s__law_built : Stmt := topS 113
abbrev s__law_piece : Stmt := topS 114
abbrev s__law_soup : Stmt := topS 115
abbrev s__law_deep_right : Stmt := topS 116
abbrev s__law_far_right : Stmt := topS 117
abbrev s_law : Stmt := topS 118
abbrev s_Bracket____init__ : Stmt := (clsOf (topS 78)).getD 0 (.Pass ⟨0, 0, 0, 0⟩)
abbrev s_Scan____init__ : Stmt := (clsOf (topS 79)).getD 0 (.Pass ⟨0, 0, 0, 0⟩)
abbrev s_Scan__put : Stmt := (clsOf (topS 79)).getD 1 (.Pass ⟨0, 0, 0, 0⟩)
abbrev s_Scan__put_text : Stmt := (clsOf (topS 79)).getD 2 (.Pass ⟨0, 0, 0, 0⟩)
abbrev s_Scan__is_active : Stmt := (clsOf (topS 79)).getD 3 (.Pass ⟨0, 0, 0, 0⟩)
abbrev s_Run____init__ : Stmt := (clsOf (topS 66)).getD 0 (.Pass ⟨0, 0, 0, 0⟩)
abbrev s_Run__is_both : Stmt := (clsOf (topS 66)).getD 1 (.Pass ⟨0, 0, 0, 0⟩)
theorem sc_behind_all : FnScope ["signs", "text", "place"] ["signs", "text", "place"] (defScope s_behind_all) := ⟨rfl, rfl, rfl, by decide +kernel, rfl, by decide +kernel, by decide +kernel⟩
theorem sc_is_escape : FnScope ["text", "place"] ["text", "place"] (defScope s_is_escape) := ⟨rfl, rfl, rfl, by decide +kernel, rfl, by decide +kernel, by decide +kernel⟩
theorem sc_strings_in : FnScope ["text", "strings", "place", "end"] ["text"] (defScope s_strings_in) := ⟨rfl, rfl, rfl, by decide +kernel, rfl, by decide +kernel, by decide +kernel⟩
theorem sc_reference_at : FnScope ["text", "place", "end", "sign"] ["text", "place"] (defScope s_reference_at) := ⟨rfl, rfl, rfl, by decide +kernel, rfl, by decide +kernel, by decide +kernel⟩
theorem sc_sign_meant : FnScope ["words"] ["words"] (defScope s_sign_meant) := ⟨rfl, rfl, rfl, by decide +kernel, rfl, by decide +kernel, by decide +kernel⟩
theorem sc_number_in : FnScope ["digits", "signs", "base", "digit"] ["digits", "signs", "base"] (defScope s_number_in) := ⟨rfl, rfl, rfl, by decide +kernel, rfl, by decide +kernel, by decide +kernel⟩
theorem sc_sign_of : FnScope ["number", "begin", "signs"] ["number"] (defScope s_sign_of) := ⟨rfl, rfl, rfl, by decide +kernel, rfl, by decide +kernel, by decide +kernel⟩
theorem sc_run_at : FnScope ["content", "place", "sign", "end", "ahead", "behind", "left", "right", "opens", "closes"] ["content", "place"] (defScope s_run_at) := ⟨rfl, rfl, rfl, by decide +kernel, rfl, by decide +kernel, by decide +kernel⟩
theorem sc_kind_of : FnScope ["sign"] ["sign"] (defScope s_kind_of) := ⟨rfl, rfl, rfl, by decide +kernel, rfl, by decide +kernel, by decide +kernel⟩
theorem sc_pair : FnScope ["runs", "stacks", "number", "run", "stack", "partner", "other"] ["runs"] (defScope s_pair) := ⟨rfl, rfl, rfl, by decide +kernel, rfl, by decide +kernel, by decide +kernel⟩
theorem sc_sort_of : FnScope ["run"] ["run"] (defScope s_sort_of) := ⟨rfl, rfl, rfl, by decide +kernel, rfl, by decide +kernel, by decide +kernel⟩
theorem sc_stack_of_partner : FnScope ["run", "stacks", "nearest", "sort", "stack"] ["run", "stacks"] (defScope s_stack_of_partner) := ⟨rfl, rfl, rfl, by decide +kernel, rfl, by decide +kernel, by decide +kernel⟩
theorem sc_may_pair : FnScope ["sort", "other", "sign", "both", "rest", "other_sign", "other_both", "other_rest"] ["sort", "other"] (defScope s_may_pair) := ⟨rfl, rfl, rfl, by decide +kernel, rfl, by decide +kernel, by decide +kernel⟩
theorem sc_take_both : FnScope ["partner", "run", "word", "many"] ["partner", "run"] (defScope s_take_both) := ⟨rfl, rfl, rfl, by decide +kernel, rfl, by decide +kernel, by decide +kernel⟩
theorem sc_built : FnScope ["row", "one", "open_rows", "word", "inner", "_"] ["row"] (defScope s_built) := ⟨rfl, rfl, rfl, by decide +kernel, rfl, by decide +kernel, by decide +kernel⟩
theorem sc_joined : FnScope ["row", "made", "texts", "one"] ["row"] (defScope s_joined) := ⟨rfl, rfl, rfl, by decide +kernel, rfl, by decide +kernel, by decide +kernel⟩
theorem sc_add_text : FnScope ["texts", "made", "words"] ["texts", "made"] (defScope s_add_text) := ⟨rfl, rfl, rfl, by decide +kernel, rfl, by decide +kernel, by decide +kernel⟩
theorem sc_scanned : FnScope ["content", "known", "scan", "sign", "step"] ["content", "known"] (defScope s_scanned) := ⟨rfl, rfl, rfl, by decide +kernel, rfl, by decide +kernel, by decide +kernel⟩
theorem sc_take_plain : FnScope ["scan", "content", "end", "words"] ["scan"] (defScope s_take_plain) := ⟨rfl, rfl, rfl, by decide +kernel, rfl, by decide +kernel, by decide +kernel⟩
theorem sc_take_backslash : FnScope ["scan", "content", "place"] ["scan"] (defScope s_take_backslash) := ⟨rfl, rfl, rfl, by decide +kernel, rfl, by decide +kernel, by decide +kernel⟩
theorem sc_take_reference : FnScope ["scan", "reference", "end", "sign"] ["scan"] (defScope s_take_reference) := ⟨rfl, rfl, rfl, by decide +kernel, rfl, by decide +kernel, by decide +kernel⟩
theorem sc_take_line_feed : FnScope ["scan", "content", "place", "word"] ["scan"] (defScope s_take_line_feed) := ⟨rfl, rfl, rfl, by decide +kernel, rfl, by decide +kernel, by decide +kernel⟩
theorem sc_take_run : FnScope ["scan", "end", "run"] ["scan"] (defScope s_take_run) := ⟨rfl, rfl, rfl, by decide +kernel, rfl, by decide +kernel, by decide +kernel⟩
theorem sc_check_source : FnScope ["text"] ["text"] (defScope s_check_source) := ⟨rfl, rfl, rfl, by decide +kernel, rfl, by decide +kernel, by decide +kernel⟩
theorem sc_inlines : FnScope ["content", "known"] ["content", "known"] (defScope s_inlines) := ⟨rfl, rfl, rfl, by decide +kernel, rfl, by decide +kernel, by decide +kernel⟩
theorem sc_is_known : FnScope ["thing", "label"] ["thing"] (defScope s_is_known) := ⟨rfl, rfl, rfl, by decide +kernel, rfl, by decide +kernel, by decide +kernel⟩
theorem sc__law_state : FnScope ["_law_script", "_law_k", "_law_cell"] ["_law_script", "_law_k"] (defScope s__law_state) := ⟨rfl, rfl, rfl, by decide +kernel, rfl, by decide +kernel, by decide +kernel⟩
theorem sc__law_draw : FnScope ["_law_well", "_law_many", "_law_found", "_law_mixed"] ["_law_well", "_law_many"] (defScope s__law_draw) := ⟨rfl, rfl, rfl, by decide +kernel, rfl, by decide +kernel, by decide +kernel⟩
theorem sc__law_one : FnScope ["_law_well", "_law_some"] ["_law_well", "_law_some"] (defScope s__law_one) := ⟨rfl, rfl, rfl, by decide +kernel, rfl, by decide +kernel, by decide +kernel⟩
theorem sc__law_is_white : FnScope ["_law_sign"] ["_law_sign"] (defScope s__law_is_white) := ⟨rfl, rfl, rfl, by decide +kernel, rfl, by decide +kernel, by decide +kernel⟩
theorem sc__law_is_mark : FnScope ["_law_sign"] ["_law_sign"] (defScope s__law_is_mark) := ⟨rfl, rfl, rfl, by decide +kernel, rfl, by decide +kernel, by decide +kernel⟩
theorem sc__law_sides : FnScope ["_law_text", "_law_start", "_law_end", "_law_before", "_law_later", "_law_is_left", "_law_is_right"] ["_law_text", "_law_start", "_law_end"] (defScope s__law_sides) := ⟨rfl, rfl, rfl, by decide +kernel, rfl, by decide +kernel, by decide +kernel⟩
theorem sc__law_may : FnScope ["_law_one_here", "_law_other"] ["_law_one_here", "_law_other"] (defScope s__law_may) := ⟨rfl, rfl, rfl, by decide +kernel, rfl, by decide +kernel, by decide +kernel⟩
theorem sc__law_spans : FnScope ["_law_runs_here", "_law_found", "_law_at", "_law_run", "_law_k", "_law_some", "_law_other", "_law_many", "_law_inner", "_law_spot"] ["_law_runs_here"] (defScope s__law_spans) := ⟨rfl, rfl, rfl, by decide +kernel, rfl, by decide +kernel, by decide +kernel⟩
theorem sc__law_runs : FnScope ["_law_text", "_law_pieces", "_law_found", "_law_start", "_law_end", "_law_said"] ["_law_text", "_law_pieces"] (defScope s__law_runs) := ⟨rfl, rfl, rfl, by decide +kernel, rfl, by decide +kernel, by decide +kernel⟩
theorem sc__law_put : FnScope ["_law_row", "_law_said"] ["_law_row", "_law_said"] (defScope s__law_put) := ⟨rfl, rfl, rfl, by decide +kernel, rfl, by decide +kernel, by decide +kernel⟩
theorem sc__law_built : FnScope ["_law_text", "_law_pieces", "_law_marks", "_law_begins", "_law_ends", "_law_one_here", "_law_k", "_law_waiting", "_law_start", "_law_end", "_law_said", "_law_row"] ["_law_text", "_law_pieces", "_law_marks"] (defScope s__law_built) := ⟨rfl, rfl, rfl, by decide +kernel, rfl, by decide +kernel, by decide +kernel⟩
theorem sc__law_piece : FnScope ["_law_well", "_law_last", "_law_run", "_law_way", "_law_sign", "_law_some", "_law_said"] ["_law_well", "_law_last", "_law_run"] (defScope s__law_piece) := ⟨rfl, rfl, rfl, by decide +kernel, rfl, by decide +kernel, by decide +kernel⟩
theorem sc__law_soup : FnScope ["_law_well", "_law_text", "_law_pieces", "_law_k", "_law_run", "_law_said", "_law_due"] ["_law_well"] (defScope s__law_soup) := ⟨rfl, rfl, rfl, by decide +kernel, rfl, by decide +kernel, by decide +kernel⟩
theorem sc__law_deep_right : FnScope ["_law_many", "_law_text", "_law_due", "_law_k", "_law_sign"] ["_law_many"] (defScope s__law_deep_right) := ⟨rfl, rfl, rfl, by decide +kernel, rfl, by decide +kernel, by decide +kernel⟩
theorem sc__law_far_right : FnScope ["_law_many", "_law_said", "_law_due", "_law_text"] ["_law_many"] (defScope s__law_far_right) := ⟨rfl, rfl, rfl, by decide +kernel, rfl, by decide +kernel, by decide +kernel⟩
theorem sc_law : FnScope ["_law_script", "_law_k", "_law_well", "_law_turn", "_law_text", "_law_pieces", "_law_due"] ["_law_script"] (defScope s_law) := ⟨rfl, rfl, rfl, by decide +kernel, rfl, by decide +kernel, by decide +kernel⟩
theorem sc_Scan____init__ : FnScope ["self", "content", "known", "strings", "length"] ["self", "content", "known"] (defScope s_Scan____init__) := ⟨rfl, rfl, rfl, by decide +kernel, rfl, by decide +kernel, by decide +kernel⟩
theorem sc_Scan__put : FnScope ["self", "one", "end"] ["self", "one", "end"] (defScope s_Scan__put) := ⟨rfl, rfl, rfl, by decide +kernel, rfl, by decide +kernel, by decide +kernel⟩
theorem sc_Scan__put_text : FnScope ["self", "words"] ["self", "words"] (defScope s_Scan__put_text) := ⟨rfl, rfl, rfl, by decide +kernel, rfl, by decide +kernel, by decide +kernel⟩
theorem sc_Run____init__ : FnScope ["self", "sign", "length", "opens", "closes"] ["self", "sign", "length", "opens", "closes"] (defScope s_Run____init__) := ⟨rfl, rfl, rfl, by decide +kernel, rfl, by decide +kernel, by decide +kernel⟩
theorem sc_Run__is_both : FnScope ["self"] ["self"] (defScope s_Run__is_both) := ⟨rfl, rfl, rfl, by decide +kernel, rfl, by decide +kernel, by decide +kernel⟩
set_option genInjectivity false in
set_option genSizeOf false in
set_option genSizeOfSpec false in
set_option maxHeartbeats 4000000 in
structure Txt (w : World) (K : PySem.W.Frag) (mg : Str → Option Value) where
  a_behind_all : Addr
  d_behind_all : FuncData
  f_behind_all : Fun K "behind_all" "behind_all" s_behind_all a_behind_all d_behind_all
  g_behind_all : mg "behind_all" = some (.ref a_behind_all)
  b_behind_all : Binds K d_behind_all ["signs", "text", "place"] []
  a_behind_gap : Addr
  d_behind_gap : FuncData
  f_behind_gap : Fun K "behind_gap" "behind_gap" s_behind_gap a_behind_gap d_behind_gap
  g_behind_gap : mg "behind_gap" = some (.ref a_behind_gap)
  b_behind_gap : Binds K d_behind_gap ["text", "place"] []
  a_behind_first : Addr
  d_behind_first : FuncData
  f_behind_first : Fun K "behind_first" "behind_first" s_behind_first a_behind_first d_behind_first
  g_behind_first : mg "behind_first" = some (.ref a_behind_first)
  b_behind_first : Binds K d_behind_first ["words", "text", "place"] []
  a_behind_sign : Addr
  d_behind_sign : FuncData
  f_behind_sign : Fun K "behind_sign" "behind_sign" s_behind_sign a_behind_sign d_behind_sign
  g_behind_sign : mg "behind_sign" = some (.ref a_behind_sign)
  b_behind_sign : Binds K d_behind_sign ["sign", "text", "place"] []
  a_is_escape : Addr
  d_is_escape : FuncData
  f_is_escape : Fun K "is_escape" "is_escape" s_is_escape a_is_escape d_is_escape
  g_is_escape : mg "is_escape" = some (.ref a_is_escape)
  b_is_escape : Binds K d_is_escape ["text", "place"] []
  a_first_plain : Addr
  d_first_plain : FuncData
  f_first_plain : Fun K "first_plain" "first_plain" s_first_plain a_first_plain d_first_plain
  g_first_plain : mg "first_plain" = some (.ref a_first_plain)
  b_first_plain : Binds K d_first_plain ["signs", "text", "place"] []
  a_strings_in : Addr
  d_strings_in : FuncData
  f_strings_in : Fun K "strings_in" "strings_in" s_strings_in a_strings_in d_strings_in
  g_strings_in : mg "strings_in" = some (.ref a_strings_in)
  b_strings_in : Binds K d_strings_in ["text"] []
  a_reference_at : Addr
  d_reference_at : FuncData
  f_reference_at : Fun K "reference_at" "reference_at" s_reference_at a_reference_at d_reference_at
  g_reference_at : mg "reference_at" = some (.ref a_reference_at)
  b_reference_at : Binds K d_reference_at ["text", "place"] []
  a_decoded : Addr
  d_decoded : FuncData
  f_decoded : Fun K "decoded" "decoded" s_decoded a_decoded d_decoded
  g_decoded : mg "decoded" = some (.ref a_decoded)
  b_decoded : Binds K d_decoded ["text"] []
  a_decoded_at : Addr
  d_decoded_at : FuncData
  f_decoded_at : Fun K "decoded_at" "decoded_at" s_decoded_at a_decoded_at d_decoded_at
  g_decoded_at : mg "decoded_at" = some (.ref a_decoded_at)
  b_decoded_at : Binds K d_decoded_at ["text", "place"] []
  a_sign_meant : Addr
  d_sign_meant : FuncData
  f_sign_meant : Fun K "sign_meant" "sign_meant" s_sign_meant a_sign_meant d_sign_meant
  g_sign_meant : mg "sign_meant" = some (.ref a_sign_meant)
  b_sign_meant : Binds K d_sign_meant ["words"] []
  a_number_in : Addr
  d_number_in : FuncData
  f_number_in : Fun K "number_in" "number_in" s_number_in a_number_in d_number_in
  g_number_in : mg "number_in" = some (.ref a_number_in)
  b_number_in : Binds K d_number_in ["digits", "signs", "base"] []
  a_sign_of : Addr
  d_sign_of : FuncData
  f_sign_of : Fun K "sign_of" "sign_of" s_sign_of a_sign_of d_sign_of
  g_sign_of : mg "sign_of" = some (.ref a_sign_of)
  b_sign_of : Binds K d_sign_of ["number"] []
  a_normalised : Addr
  d_normalised : FuncData
  f_normalised : Fun K "normalised" "normalised" s_normalised a_normalised d_normalised
  g_normalised : mg "normalised" = some (.ref a_normalised)
  b_normalised : Binds K d_normalised ["text"] []
  a_is_label_text : Addr
  d_is_label_text : FuncData
  f_is_label_text : Fun K "is_label_text" "is_label_text" s_is_label_text a_is_label_text d_is_label_text
  g_is_label_text : mg "is_label_text" = some (.ref a_is_label_text)
  b_is_label_text : Binds K d_is_label_text ["thing"] []
  a_is_label : Addr
  d_is_label : FuncData
  f_is_label : Fun K "is_label" "is_label" s_is_label a_is_label d_is_label
  g_is_label : mg "is_label" = some (.ref a_is_label)
  b_is_label : Binds K d_is_label ["thing"] []
  a_label_at : Addr
  d_label_at : FuncData
  f_label_at : Fun K "label_at" "label_at" s_label_at a_label_at d_label_at
  g_label_at : mg "label_at" = some (.ref a_label_at)
  b_label_at : Binds K d_label_at ["text", "place"] []
  a_target_at : Addr
  d_target_at : FuncData
  f_target_at : Fun K "target_at" "target_at" s_target_at a_target_at d_target_at
  g_target_at : mg "target_at" = some (.ref a_target_at)
  b_target_at : Binds K d_target_at ["text", "place"] []
  a_title_or_none : Addr
  d_title_or_none : FuncData
  f_title_or_none : Fun K "title_or_none" "title_or_none" s_title_or_none a_title_or_none d_title_or_none
  g_title_or_none : mg "title_or_none" = some (.ref a_title_or_none)
  b_title_or_none : Binds K d_title_or_none ["text", "place"] []
  a_destination_at : Addr
  d_destination_at : FuncData
  f_destination_at : Fun K "destination_at" "destination_at" s_destination_at a_destination_at d_destination_at
  g_destination_at : mg "destination_at" = some (.ref a_destination_at)
  b_destination_at : Binds K d_destination_at ["text", "place"] []
  a_title_at : Addr
  d_title_at : FuncData
  f_title_at : Fun K "title_at" "title_at" s_title_at a_title_at d_title_at
  g_title_at : mg "title_at" = some (.ref a_title_at)
  b_title_at : Binds K d_title_at ["text", "place"] []
  a_enclosed_at : Addr
  d_enclosed_at : FuncData
  f_enclosed_at : Fun K "enclosed_at" "enclosed_at" s_enclosed_at a_enclosed_at d_enclosed_at
  g_enclosed_at : mg "enclosed_at" = some (.ref a_enclosed_at)
  b_enclosed_at : Binds K d_enclosed_at ["barred", "closing", "text", "place"] []
  a_behind_bare : Addr
  d_behind_bare : FuncData
  f_behind_bare : Fun K "behind_bare" "behind_bare" s_behind_bare a_behind_bare d_behind_bare
  g_behind_bare : mg "behind_bare" = some (.ref a_behind_bare)
  b_behind_bare : Binds K d_behind_bare ["text", "place"] []
  a_tag_at : Addr
  d_tag_at : FuncData
  f_tag_at : Fun K "tag_at" "tag_at" s_tag_at a_tag_at d_tag_at
  g_tag_at : mg "tag_at" = some (.ref a_tag_at)
  b_tag_at : Binds K d_tag_at ["text", "place"] []
  a_open_tag_at : Addr
  d_open_tag_at : FuncData
  f_open_tag_at : Fun K "open_tag_at" "open_tag_at" s_open_tag_at a_open_tag_at d_open_tag_at
  g_open_tag_at : mg "open_tag_at" = some (.ref a_open_tag_at)
  b_open_tag_at : Binds K d_open_tag_at ["text", "place"] []
  a_closing_tag_at : Addr
  d_closing_tag_at : FuncData
  f_closing_tag_at : Fun K "closing_tag_at" "closing_tag_at" s_closing_tag_at a_closing_tag_at d_closing_tag_at
  g_closing_tag_at : mg "closing_tag_at" = some (.ref a_closing_tag_at)
  b_closing_tag_at : Binds K d_closing_tag_at ["text", "place"] []
  a_attribute_at : Addr
  d_attribute_at : FuncData
  f_attribute_at : Fun K "attribute_at" "attribute_at" s_attribute_at a_attribute_at d_attribute_at
  g_attribute_at : mg "attribute_at" = some (.ref a_attribute_at)
  b_attribute_at : Binds K d_attribute_at ["text", "place"] []
  a_value_at : Addr
  d_value_at : FuncData
  f_value_at : Fun K "value_at" "value_at" s_value_at a_value_at d_value_at
  g_value_at : mg "value_at" = some (.ref a_value_at)
  b_value_at : Binds K d_value_at ["text", "place"] []
  a_name_at : Addr
  d_name_at : FuncData
  f_name_at : Fun K "name_at" "name_at" s_name_at a_name_at d_name_at
  g_name_at : mg "name_at" = some (.ref a_name_at)
  b_name_at : Binds K d_name_at ["text", "place"] []
  a_is_letter : Addr
  d_is_letter : FuncData
  f_is_letter : Fun K "is_letter" "is_letter" s_is_letter a_is_letter d_is_letter
  g_is_letter : mg "is_letter" = some (.ref a_is_letter)
  b_is_letter : Binds K d_is_letter ["text", "place"] []
  a_autolink_at : Addr
  d_autolink_at : FuncData
  f_autolink_at : Fun K "autolink_at" "autolink_at" s_autolink_at a_autolink_at d_autolink_at
  g_autolink_at : mg "autolink_at" = some (.ref a_autolink_at)
  b_autolink_at : Binds K d_autolink_at ["text", "place"] []
  a_begins_with_scheme : Addr
  d_begins_with_scheme : FuncData
  f_begins_with_scheme : Fun K "begins_with_scheme" "begins_with_scheme" s_begins_with_scheme a_begins_with_scheme d_begins_with_scheme
  g_begins_with_scheme : mg "begins_with_scheme" = some (.ref a_begins_with_scheme)
  b_begins_with_scheme : Binds K d_begins_with_scheme ["words"] []
  a_is_address : Addr
  d_is_address : FuncData
  f_is_address : Fun K "is_address" "is_address" s_is_address a_is_address d_is_address
  g_is_address : mg "is_address" = some (.ref a_is_address)
  b_is_address : Binds K d_is_address ["words"] []
  a_is_part : Addr
  d_is_part : FuncData
  f_is_part : Fun K "is_part" "is_part" s_is_part a_is_part d_is_part
  g_is_part : mg "is_part" = some (.ref a_is_part)
  b_is_part : Binds K d_is_part ["words"] []
  a_run_at : Addr
  d_run_at : FuncData
  f_run_at : Fun K "run_at" "run_at" s_run_at a_run_at d_run_at
  g_run_at : mg "run_at" = some (.ref a_run_at)
  b_run_at : Binds K d_run_at ["content", "place"] []
  a_kind_of : Addr
  d_kind_of : FuncData
  f_kind_of : Fun K "kind_of" "kind_of" s_kind_of a_kind_of d_kind_of
  g_kind_of : mg "kind_of" = some (.ref a_kind_of)
  b_kind_of : Binds K d_kind_of ["sign"] []
  a_pair : Addr
  d_pair : FuncData
  f_pair : Fun K "pair" "pair" s_pair a_pair d_pair
  g_pair : mg "pair" = some (.ref a_pair)
  b_pair : Binds K d_pair ["runs"] []
  a_sort_of : Addr
  d_sort_of : FuncData
  f_sort_of : Fun K "sort_of" "sort_of" s_sort_of a_sort_of d_sort_of
  g_sort_of : mg "sort_of" = some (.ref a_sort_of)
  b_sort_of : Binds K d_sort_of ["run"] []
  a_stack_of_partner : Addr
  d_stack_of_partner : FuncData
  f_stack_of_partner : Fun K "stack_of_partner" "stack_of_partner" s_stack_of_partner a_stack_of_partner d_stack_of_partner
  g_stack_of_partner : mg "stack_of_partner" = some (.ref a_stack_of_partner)
  b_stack_of_partner : Binds K d_stack_of_partner ["run", "stacks"] []
  a_may_pair : Addr
  d_may_pair : FuncData
  f_may_pair : Fun K "may_pair" "may_pair" s_may_pair a_may_pair d_may_pair
  g_may_pair : mg "may_pair" = some (.ref a_may_pair)
  b_may_pair : Binds K d_may_pair ["sort", "other"] []
  a_take_both : Addr
  d_take_both : FuncData
  f_take_both : Fun K "take_both" "take_both" s_take_both a_take_both d_take_both
  g_take_both : mg "take_both" = some (.ref a_take_both)
  b_take_both : Binds K d_take_both ["partner", "run"] []
  a_built : Addr
  d_built : FuncData
  f_built : Fun K "built" "built" s_built a_built d_built
  g_built : mg "built" = some (.ref a_built)
  b_built : Binds K d_built ["row"] []
  a_joined : Addr
  d_joined : FuncData
  f_joined : Fun K "joined" "joined" s_joined a_joined d_joined
  g_joined : mg "joined" = some (.ref a_joined)
  b_joined : Binds K d_joined ["row"] []
  a_add_text : Addr
  d_add_text : FuncData
  f_add_text : Fun K "add_text" "add_text" s_add_text a_add_text d_add_text
  g_add_text : mg "add_text" = some (.ref a_add_text)
  b_add_text : Binds K d_add_text ["texts", "made"] []
  a_scanned : Addr
  d_scanned : FuncData
  f_scanned : Fun K "scanned" "scanned" s_scanned a_scanned d_scanned
  g_scanned : mg "scanned" = some (.ref a_scanned)
  b_scanned : Binds K d_scanned ["content", "known"] []
  a_take_plain : Addr
  d_take_plain : FuncData
  f_take_plain : Fun K "take_plain" "take_plain" s_take_plain a_take_plain d_take_plain
  g_take_plain : mg "take_plain" = some (.ref a_take_plain)
  b_take_plain : Binds K d_take_plain ["scan"] []
  a_take_backslash : Addr
  d_take_backslash : FuncData
  f_take_backslash : Fun K "take_backslash" "take_backslash" s_take_backslash a_take_backslash d_take_backslash
  g_take_backslash : mg "take_backslash" = some (.ref a_take_backslash)
  b_take_backslash : Binds K d_take_backslash ["scan"] []
  a_take_backquotes : Addr
  d_take_backquotes : FuncData
  f_take_backquotes : Fun K "take_backquotes" "take_backquotes" s_take_backquotes a_take_backquotes d_take_backquotes
  g_take_backquotes : mg "take_backquotes" = some (.ref a_take_backquotes)
  b_take_backquotes : Binds K d_take_backquotes ["scan"] []
  a_code_text : Addr
  d_code_text : FuncData
  f_code_text : Fun K "code_text" "code_text" s_code_text a_code_text d_code_text
  g_code_text : mg "code_text" = some (.ref a_code_text)
  b_code_text : Binds K d_code_text ["words"] []
  a_take_angle : Addr
  d_take_angle : FuncData
  f_take_angle : Fun K "take_angle" "take_angle" s_take_angle a_take_angle d_take_angle
  g_take_angle : mg "take_angle" = some (.ref a_take_angle)
  b_take_angle : Binds K d_take_angle ["scan"] []
  a_take_reference : Addr
  d_take_reference : FuncData
  f_take_reference : Fun K "take_reference" "take_reference" s_take_reference a_take_reference d_take_reference
  g_take_reference : mg "take_reference" = some (.ref a_take_reference)
  b_take_reference : Binds K d_take_reference ["scan"] []
  a_take_line_feed : Addr
  d_take_line_feed : FuncData
  f_take_line_feed : Fun K "take_line_feed" "take_line_feed" s_take_line_feed a_take_line_feed d_take_line_feed
  g_take_line_feed : mg "take_line_feed" = some (.ref a_take_line_feed)
  b_take_line_feed : Binds K d_take_line_feed ["scan"] []
  a_take_run : Addr
  d_take_run : FuncData
  f_take_run : Fun K "take_run" "take_run" s_take_run a_take_run d_take_run
  g_take_run : mg "take_run" = some (.ref a_take_run)
  b_take_run : Binds K d_take_run ["scan"] []
  a_take_bracket : Addr
  d_take_bracket : FuncData
  f_take_bracket : Fun K "take_bracket" "take_bracket" s_take_bracket a_take_bracket d_take_bracket
  g_take_bracket : mg "take_bracket" = some (.ref a_take_bracket)
  b_take_bracket : Binds K d_take_bracket ["scan"] []
  a_take_exclamation : Addr
  d_take_exclamation : FuncData
  f_take_exclamation : Fun K "take_exclamation" "take_exclamation" s_take_exclamation a_take_exclamation d_take_exclamation
  g_take_exclamation : mg "take_exclamation" = some (.ref a_take_exclamation)
  b_take_exclamation : Binds K d_take_exclamation ["scan"] []
  a_note : Addr
  d_note : FuncData
  f_note : Fun K "note" "note" s_note a_note d_note
  g_note : mg "note" = some (.ref a_note)
  b_note : Binds K d_note ["scan", "words", "is_image"] []
  a_take_end : Addr
  d_take_end : FuncData
  f_take_end : Fun K "take_end" "take_end" s_take_end a_take_end d_take_end
  g_take_end : mg "take_end" = some (.ref a_take_end)
  b_take_end : Binds K d_take_end ["scan"] []
  a_found_behind : Addr
  d_found_behind : FuncData
  f_found_behind : Fun K "found_behind" "found_behind" s_found_behind a_found_behind d_found_behind
  g_found_behind : mg "found_behind" = some (.ref a_found_behind)
  b_found_behind : Binds K d_found_behind ["scan", "bracket"] []
  a_own_label : Addr
  d_own_label : FuncData
  f_own_label : Fun K "own_label" "own_label" s_own_label a_own_label d_own_label
  g_own_label : mg "own_label" = some (.ref a_own_label)
  b_own_label : Binds K d_own_label ["scan", "bracket"] []
  a_check_source : Addr
  d_check_source : FuncData
  f_check_source : Fun K "check_source" "check_source" s_check_source a_check_source d_check_source
  g_check_source : mg "check_source" = some (.ref a_check_source)
  b_check_source : Binds K d_check_source ["text"] []
  a_inlines : Addr
  d_inlines : FuncData
  f_inlines : FunD K "inlines" "inlines" (defArgs s_inlines) (defBody s_inlines) (defScope s_inlines) [.non] [] a_inlines d_inlines
  g_inlines : mg "inlines" = some (.ref a_inlines)
  bd_inlines : Binds K d_inlines ["content", "known"] [.none]
  a_is_known : Addr
  d_is_known : FuncData
  f_is_known : Fun K "is_known" "is_known" s_is_known a_is_known d_is_known
  g_is_known : mg "is_known" = some (.ref a_is_known)
  b_is_known : Binds K d_is_known ["thing"] []
  a_is_target : Addr
  d_is_target : FuncData
  f_is_target : Fun K "is_target" "is_target" s_is_target a_is_target d_is_target
  g_is_target : mg "is_target" = some (.ref a_is_target)
  b_is_target : Binds K d_is_target ["thing"] []
  a__law_state : Addr
  d__law_state : FuncData
  f__law_state : Fun K "_law_state" "_law_state" s__law_state a__law_state d__law_state
  g__law_state : mg "_law_state" = some (.ref a__law_state)
  b__law_state : Binds K d__law_state ["_law_script", "_law_k"] []
  a__law_draw : Addr
  d__law_draw : FuncData
  f__law_draw : Fun K "_law_draw" "_law_draw" s__law_draw a__law_draw d__law_draw
  g__law_draw : mg "_law_draw" = some (.ref a__law_draw)
  b__law_draw : Binds K d__law_draw ["_law_well", "_law_many"] []
  a__law_one : Addr
  d__law_one : FuncData
  f__law_one : Fun K "_law_one" "_law_one" s__law_one a__law_one d__law_one
  g__law_one : mg "_law_one" = some (.ref a__law_one)
  b__law_one : Binds K d__law_one ["_law_well", "_law_some"] []
  a__law_is_white : Addr
  d__law_is_white : FuncData
  f__law_is_white : Fun K "_law_is_white" "_law_is_white" s__law_is_white a__law_is_white d__law_is_white
  g__law_is_white : mg "_law_is_white" = some (.ref a__law_is_white)
  b__law_is_white : Binds K d__law_is_white ["_law_sign"] []
  a__law_is_mark : Addr
  d__law_is_mark : FuncData
  f__law_is_mark : Fun K "_law_is_mark" "_law_is_mark" s__law_is_mark a__law_is_mark d__law_is_mark
  g__law_is_mark : mg "_law_is_mark" = some (.ref a__law_is_mark)
  b__law_is_mark : Binds K d__law_is_mark ["_law_sign"] []
  a__law_sides : Addr
  d__law_sides : FuncData
  f__law_sides : Fun K "_law_sides" "_law_sides" s__law_sides a__law_sides d__law_sides
  g__law_sides : mg "_law_sides" = some (.ref a__law_sides)
  b__law_sides : Binds K d__law_sides ["_law_text", "_law_start", "_law_end"] []
  a__law_may : Addr
  d__law_may : FuncData
  f__law_may : Fun K "_law_may" "_law_may" s__law_may a__law_may d__law_may
  g__law_may : mg "_law_may" = some (.ref a__law_may)
  b__law_may : Binds K d__law_may ["_law_one_here", "_law_other"] []
  a__law_spans : Addr
  d__law_spans : FuncData
  f__law_spans : Fun K "_law_spans" "_law_spans" s__law_spans a__law_spans d__law_spans
  g__law_spans : mg "_law_spans" = some (.ref a__law_spans)
  b__law_spans : Binds K d__law_spans ["_law_runs_here"] []
  a__law_runs : Addr
  d__law_runs : FuncData
  f__law_runs : Fun K "_law_runs" "_law_runs" s__law_runs a__law_runs d__law_runs
  g__law_runs : mg "_law_runs" = some (.ref a__law_runs)
  b__law_runs : Binds K d__law_runs ["_law_text", "_law_pieces"] []
  a__law_put : Addr
  d__law_put : FuncData
  f__law_put : Fun K "_law_put" "_law_put" s__law_put a__law_put d__law_put
  g__law_put : mg "_law_put" = some (.ref a__law_put)
  b__law_put : Binds K d__law_put ["_law_row", "_law_said"] []
  a__law_built : Addr
  d__law_built : FuncData
  f__law_built : Fun K "_law_built" "_law_built" s__law_built a__law_built d__law_built
  g__law_built : mg "_law_built" = some (.ref a__law_built)
  b__law_built : Binds K d__law_built ["_law_text", "_law_pieces", "_law_marks"] []
  a__law_piece : Addr
  d__law_piece : FuncData
  f__law_piece : Fun K "_law_piece" "_law_piece" s__law_piece a__law_piece d__law_piece
  g__law_piece : mg "_law_piece" = some (.ref a__law_piece)
  b__law_piece : Binds K d__law_piece ["_law_well", "_law_last", "_law_run"] []
  a__law_soup : Addr
  d__law_soup : FuncData
  f__law_soup : Fun K "_law_soup" "_law_soup" s__law_soup a__law_soup d__law_soup
  g__law_soup : mg "_law_soup" = some (.ref a__law_soup)
  b__law_soup : Binds K d__law_soup ["_law_well"] []
  a__law_deep_right : Addr
  d__law_deep_right : FuncData
  f__law_deep_right : Fun K "_law_deep_right" "_law_deep_right" s__law_deep_right a__law_deep_right d__law_deep_right
  g__law_deep_right : mg "_law_deep_right" = some (.ref a__law_deep_right)
  b__law_deep_right : Binds K d__law_deep_right ["_law_many"] []
  a__law_far_right : Addr
  d__law_far_right : FuncData
  f__law_far_right : Fun K "_law_far_right" "_law_far_right" s__law_far_right a__law_far_right d__law_far_right
  g__law_far_right : mg "_law_far_right" = some (.ref a__law_far_right)
  b__law_far_right : Binds K d__law_far_right ["_law_many"] []
  a_Bracket____init__ : Addr
  d_Bracket____init__ : FuncData
  f_Bracket____init__ : Fun K "__init__" "Bracket.__init__" s_Bracket____init__ a_Bracket____init__ d_Bracket____init__
  b_Bracket____init__ : Binds K d_Bracket____init__ ["self", "number", "index", "place", "is_image"] []
  a_Scan____init__ : Addr
  d_Scan____init__ : FuncData
  f_Scan____init__ : Fun K "__init__" "Scan.__init__" s_Scan____init__ a_Scan____init__ d_Scan____init__
  b_Scan____init__ : Binds K d_Scan____init__ ["self", "content", "known"] []
  a_Scan__put : Addr
  d_Scan__put : FuncData
  f_Scan__put : Fun K "put" "Scan.put" s_Scan__put a_Scan__put d_Scan__put
  b_Scan__put : Binds K d_Scan__put ["self", "one", "end"] []
  a_Scan__put_text : Addr
  d_Scan__put_text : FuncData
  f_Scan__put_text : Fun K "put_text" "Scan.put_text" s_Scan__put_text a_Scan__put_text d_Scan__put_text
  b_Scan__put_text : Binds K d_Scan__put_text ["self", "words"] []
  a_Scan__is_active : Addr
  d_Scan__is_active : FuncData
  f_Scan__is_active : Fun K "is_active" "Scan.is_active" s_Scan__is_active a_Scan__is_active d_Scan__is_active
  b_Scan__is_active : Binds K d_Scan__is_active ["self", "bracket"] []
  a_Run____init__ : Addr
  d_Run____init__ : FuncData
  f_Run____init__ : Fun K "__init__" "Run.__init__" s_Run____init__ a_Run____init__ d_Run____init__
  b_Run____init__ : Binds K d_Run____init__ ["self", "sign", "length", "opens", "closes"] []
  a_Run__is_both : Addr
  d_Run__is_both : FuncData
  f_Run__is_both : Fun K "is_both" "Run.is_both" s_Run__is_both a_Run__is_both d_Run__is_both
  b_Run__is_both : Binds K d_Run__is_both ["self"] []
  c_Bracket : Addr
  gc_Bracket : mg "Bracket" = some (.ref c_Bracket)
  cl_Bracket : Cls K c_Bracket
  na_Bracket_number : NoAttr K c_Bracket "number"
  na_Bracket_index : NoAttr K c_Bracket "index"
  na_Bracket_place : NoAttr K c_Bracket "place"
  na_Bracket_is_image : NoAttr K c_Bracket "is_image"
  mk_Bracket : Mk K c_Bracket a_Bracket____init__
  c_Scan : Addr
  gc_Scan : mg "Scan" = some (.ref c_Scan)
  cl_Scan : Cls K c_Scan
  na_Scan_content : NoAttr K c_Scan "content"
  na_Scan_known : NoAttr K c_Scan "known"
  na_Scan_place : NoAttr K c_Scan "place"
  na_Scan_row : NoAttr K c_Scan "row"
  na_Scan_plain : NoAttr K c_Scan "plain"
  na_Scan_brackets : NoAttr K c_Scan "brackets"
  na_Scan_noted : NoAttr K c_Scan "noted"
  na_Scan_bar : NoAttr K c_Scan "bar"
  na_Scan_strings : NoAttr K c_Scan "strings"
  me_Scan__put : Meth K c_Scan "put" a_Scan__put
  me_Scan__put_text : Meth K c_Scan "put_text" a_Scan__put_text
  me_Scan__is_active : Meth K c_Scan "is_active" a_Scan__is_active
  mk_Scan : Mk K c_Scan a_Scan____init__
  c_Run : Addr
  gc_Run : mg "Run" = some (.ref c_Run)
  cl_Run : Cls K c_Run
  na_Run_sign : NoAttr K c_Run "sign"
  na_Run_length : NoAttr K c_Run "length"
  na_Run_left : NoAttr K c_Run "left"
  na_Run_opens : NoAttr K c_Run "opens"
  na_Run_closes : NoAttr K c_Run "closes"
  na_Run_ended : NoAttr K c_Run "ended"
  na_Run_begun : NoAttr K c_Run "begun"
  me_Run__is_both : Meth K c_Run "is_both" a_Run__is_both
  mk_Run : Mk K c_Run a_Run____init__
  kit_Run_tuple : PySem.W.kitOne K (.type "tuple") (.ref c_Run) = some false
  isi_Run : ∀ {H : Hp} {a dx : Addr} {fs : List (Str × V)}, H a = some (.ins c_Run dx fs) → TyOf K H (.ref a) (.ref c_Run)
  z_abs : mg "abs" = none
  z_all : mg "all" = none
  z_dict : mg "dict" = none
  z_enumerate : mg "enumerate" = none
  z_int : mg "int" = none
  z_isinstance : mg "isinstance" = none
  z_len : mg "len" = none
  z_list : mg "list" = none
  z_max : mg "max" = none
  z_min : mg "min" = none
  z_ord : mg "ord" = none
  z_range : mg "range" = none
  z_str : mg "str" = none
  z_tuple : mg "tuple" = none
  z_zip : mg "zip" = none
  t_INLINE_WHITE : Tok
  g_INLINE_WHITE : mg "INLINE_WHITE" = some (.str " \t\n" t_INLINE_WHITE)
  t_PUNCTUATION : Tok
  g_PUNCTUATION : mg "PUNCTUATION" = some (.str "!\"#$&'()*+,-./:;<=>?\x40[\\]^_{|}~`" t_PUNCTUATION)
  a_NAMES : Addr
  g_NAMES : mg "NAMES" = some (.ref a_NAMES)
  k_NAMES : KDictS K w a_NAMES [("amp", .str "&"), ("lt", .str "<"), ("gt", .str ">"), ("quot", .str "\""), ("apos", .str "'"), ("num", .str "#"), ("ast", .str "*"), ("lowbar", .str "_"), ("grave", .str "`"), ("lsqb", .str "["), ("rsqb", .str "]"), ("lpar", .str "("), ("rpar", .str ")"), ("lcub", .str "{"), ("rcub", .str "}"), ("bsol", .str "\\"), ("excl", .str "!"), ("Tab", .str "\t"), ("NewLine", .str "\n")]
  a_SIGN_ROWS : Addr
  (e_SIGN_ROWS_0 e_SIGN_ROWS_1 e_SIGN_ROWS_2 : Addr)
  o_SIGN_ROWS : Option Addr
  n_SIGN_ROWS : Nat
  w_SIGN_ROWS : Array (Option Value)
  g_SIGN_ROWS : mg "SIGN_ROWS" = some (.ref a_SIGN_ROWS)
  l_SIGN_ROWS : K.lookup a_SIGN_ROWS = some ⟨.type "tuple", o_SIGN_ROWS, .seq #[.ref e_SIGN_ROWS_0, .ref e_SIGN_ROWS_1, .ref e_SIGN_ROWS_2] n_SIGN_ROWS, w_SIGN_ROWS⟩
  o_SIGN_ROWS_0 : Option Addr
  n_SIGN_ROWS_0 : Nat
  w_SIGN_ROWS_0 : Array (Option Value)
  (u_SIGN_ROWS_0_0 u_SIGN_ROWS_0_1 : Tok)
  l_SIGN_ROWS_0 : K.lookup e_SIGN_ROWS_0 = some ⟨.type "tuple", o_SIGN_ROWS_0, .seq #[.int 9 u_SIGN_ROWS_0_0, .str "\t\n" u_SIGN_ROWS_0_1] n_SIGN_ROWS_0, w_SIGN_ROWS_0⟩
  o_SIGN_ROWS_1 : Option Addr
  n_SIGN_ROWS_1 : Nat
  w_SIGN_ROWS_1 : Array (Option Value)
  (u_SIGN_ROWS_1_0 u_SIGN_ROWS_1_1 : Tok)
  l_SIGN_ROWS_1 : K.lookup e_SIGN_ROWS_1 = some ⟨.type "tuple", o_SIGN_ROWS_1, .seq #[.int 32 u_SIGN_ROWS_1_0, .str " !\"#$" u_SIGN_ROWS_1_1] n_SIGN_ROWS_1, w_SIGN_ROWS_1⟩
  o_SIGN_ROWS_2 : Option Addr
  n_SIGN_ROWS_2 : Nat
  w_SIGN_ROWS_2 : Array (Option Value)
  (u_SIGN_ROWS_2_0 u_SIGN_ROWS_2_1 : Tok)
  l_SIGN_ROWS_2 : K.lookup e_SIGN_ROWS_2 = some ⟨.type "tuple", o_SIGN_ROWS_2, .seq #[.int 38 u_SIGN_ROWS_2_0, .str "&'()*+,-./0123456789:;<=>?@ABCDEFGHIJKLMNOPQRSTUVWXYZ[\\]^_`abcdefghijklmnopqrstuvwxyz{|}~" u_SIGN_ROWS_2_1] n_SIGN_ROWS_2, w_SIGN_ROWS_2⟩
  t_LONGEST : Tok
  g_LONGEST : mg "LONGEST" = some (.int 10 t_LONGEST)
  t_LONGEST_LABEL : Tok
  g_LONGEST_LABEL : mg "LONGEST_LABEL" = some (.int 999 t_LONGEST_LABEL)
  t_MOST_BRACKETS : Tok
  g_MOST_BRACKETS : mg "MOST_BRACKETS" = some (.int 32 t_MOST_BRACKETS)
  t_BARE_ENDS : Tok
  g_BARE_ENDS : mg "BARE_ENDS" = some (.str " \t\n()" t_BARE_ENDS)
  a_TITLE_SIGNS : Addr
  g_TITLE_SIGNS : mg "TITLE_SIGNS" = some (.ref a_TITLE_SIGNS)
  (e_TITLE_SIGNS_0 e_TITLE_SIGNS_1 e_TITLE_SIGNS_2 : Addr)
  k_TITLE_SIGNS : KDictS K w a_TITLE_SIGNS [("\"", .ref e_TITLE_SIGNS_0), ("'", .ref e_TITLE_SIGNS_1), ("(", .ref e_TITLE_SIGNS_2)]
  o_TITLE_SIGNS_0 : Option Addr
  n_TITLE_SIGNS_0 : Nat
  w_TITLE_SIGNS_0 : Array (Option Value)
  (u_TITLE_SIGNS_0_0 u_TITLE_SIGNS_0_1 : Tok)
  l_TITLE_SIGNS_0 : K.lookup e_TITLE_SIGNS_0 = some ⟨.type "tuple", o_TITLE_SIGNS_0, .seq #[.str "\"" u_TITLE_SIGNS_0_0, .str "\"" u_TITLE_SIGNS_0_1] n_TITLE_SIGNS_0, w_TITLE_SIGNS_0⟩
  o_TITLE_SIGNS_1 : Option Addr
  n_TITLE_SIGNS_1 : Nat
  w_TITLE_SIGNS_1 : Array (Option Value)
  (u_TITLE_SIGNS_1_0 u_TITLE_SIGNS_1_1 : Tok)
  l_TITLE_SIGNS_1 : K.lookup e_TITLE_SIGNS_1 = some ⟨.type "tuple", o_TITLE_SIGNS_1, .seq #[.str "'" u_TITLE_SIGNS_1_0, .str "'" u_TITLE_SIGNS_1_1] n_TITLE_SIGNS_1, w_TITLE_SIGNS_1⟩
  o_TITLE_SIGNS_2 : Option Addr
  n_TITLE_SIGNS_2 : Nat
  w_TITLE_SIGNS_2 : Array (Option Value)
  (u_TITLE_SIGNS_2_0 u_TITLE_SIGNS_2_1 : Tok)
  l_TITLE_SIGNS_2 : K.lookup e_TITLE_SIGNS_2 = some ⟨.type "tuple", o_TITLE_SIGNS_2, .seq #[.str "()" u_TITLE_SIGNS_2_0, .str ")" u_TITLE_SIGNS_2_1] n_TITLE_SIGNS_2, w_TITLE_SIGNS_2⟩
  t_WHITE : Tok
  g_WHITE : mg "WHITE" = some (.str " \t" t_WHITE)
  t_LETTERS : Tok
  g_LETTERS : mg "LETTERS" = some (.str "abcdefghijklmnopqrstuvwxyzABCDEFGHIJKLMNOPQRSTUVWXYZ" t_LETTERS)
  t_NAME_SIGNS : Tok
  g_NAME_SIGNS : mg "NAME_SIGNS" = some (.str "abcdefghijklmnopqrstuvwxyzABCDEFGHIJKLMNOPQRSTUVWXYZ0123456789-" t_NAME_SIGNS)
  t_KEY_SIGNS : Tok
  g_KEY_SIGNS : mg "KEY_SIGNS" = some (.str "abcdefghijklmnopqrstuvwxyzABCDEFGHIJKLMNOPQRSTUVWXYZ0123456789_.:-" t_KEY_SIGNS)
  t_NO_BARE_SIGNS : Tok
  g_NO_BARE_SIGNS : mg "NO_BARE_SIGNS" = some (.str " \t\n\"'=<>`" t_NO_BARE_SIGNS)
  t_SCHEME_SIGNS : Tok
  g_SCHEME_SIGNS : mg "SCHEME_SIGNS" = some (.str "abcdefghijklmnopqrstuvwxyzABCDEFGHIJKLMNOPQRSTUVWXYZ0123456789+.-" t_SCHEME_SIGNS)
  t_LOCAL_SIGNS : Tok
  g_LOCAL_SIGNS : mg "LOCAL_SIGNS" = some (.str "abcdefghijklmnopqrstuvwxyzABCDEFGHIJKLMNOPQRSTUVWXYZ0123456789.!#$&'*+/=?^_`{|}~-" t_LOCAL_SIGNS)
  t_PART_SIGNS : Tok
  g_PART_SIGNS : mg "PART_SIGNS" = some (.str "abcdefghijklmnopqrstuvwxyzABCDEFGHIJKLMNOPQRSTUVWXYZ0123456789-" t_PART_SIGNS)
  t_ENDS : Tok
  g_ENDS : mg "ENDS" = some (.str " \t\n<>" t_ENDS)
  t_SHORTEST_SCHEME : Tok
  g_SHORTEST_SCHEME : mg "SHORTEST_SCHEME" = some (.int 2 t_SHORTEST_SCHEME)
  t_LONGEST_SCHEME : Tok
  g_LONGEST_SCHEME : mg "LONGEST_SCHEME" = some (.int 32 t_LONGEST_SCHEME)
  t_LONGEST_PART : Tok
  g_LONGEST_PART : mg "LONGEST_PART" = some (.int 63 t_LONGEST_PART)
  a_STEPS : Addr
  g_STEPS : mg "STEPS" = some (.ref a_STEPS)
  k_STEPS : KDictS K w a_STEPS [("\\", .ref a_take_backslash), ("`", .ref a_take_backquotes), ("<", .ref a_take_angle), ("&", .ref a_take_reference), ("\n", .ref a_take_line_feed), ("*", .ref a_take_run), ("_", .ref a_take_run), ("[", .ref a_take_bracket), ("!", .ref a_take_exclamation), ("]", .ref a_take_end)]
theorem mem_S (c : Nat) (l : List Nat) : decide (c ∈ (S l).cps.toList) = l.contains c := by
  rw [S_tl]
  by_cases h : c ∈ l
  · rw [decide_eq_true h]
    simp [h]
  · rw [decide_eq_false h]
    simp [h]
structure TP (t : List Nat) (p : Nat) : Prop where
  le : p ≤ t.length
  sz : t.length ≤ 100000
theorem TP.line {t : List Nat} {p : Nat} (h : TP t p) : (S t).length ≤ sizeLine := by
  have := h.sz
  rw [S_len, sizeLine_eq]
  omega
theorem pre1 {t : List Nat} {p c : Nat} (h : ([c] : List Nat).isPrefixOf (t.drop p) = true) : p < t.length := by
  have := pre_len _ _ h
  rw [List.length_drop] at this
  simp at this
  omega
def Asc (t : List Nat) : Prop := ∀ c ∈ t, c < 128
theorem Asc.drop {t : List Nat} (h : Asc t) (n : Nat) : Asc (t.drop n) := fun c hc => h c (List.mem_of_mem_drop hc)
theorem Asc.take {t : List Nat} (h : Asc t) (n : Nat) : Asc (t.take n) := fun c hc => h c (List.mem_of_mem_take hc)
def iv : Option Nat → V
  | none => .non
  | some n => .int (n : Nat)
def sv : Option Nat → V
  | none => .non
  | some c => .str (S [c])
theorem lit_P : ("!\"#$&'()*+,-./:;<=>?\x40[\\]^_{|}~`" : Str) = S PunL := by decide +kernel
theorem lit_bs : ("\\" : Str) = S [92] := by decide +kernel
theorem lit_amp : ("&" : Str) = S [38] := by decide +kernel
theorem lit_semi : (";" : Str) = S [59] := by decide +kernel
theorem lit_hx : ("#x" : Str) = S [35, 120] := by decide +kernel
theorem lit_hX : ("#X" : Str) = S [35, 88] := by decide +kernel
theorem lit_h : ("#" : Str) = S [35] := by decide +kernel
theorem lit_0f : ("0123456789abcdef" : Str) = S HexL := by decide +kernel
theorem lit_09 : ("0123456789" : Str) = S DecL := by decide +kernel
theorem lit_e : ("" : Str) = S [] := by decide +kernel
def sp_is_escape (K : PySem.W.Frag) : Sp := fun vs H Q _ => ∃ (t : List Nat) (p : Nat), vs = [.str (S t), .int (p : Int)] ∧ TP t p ∧ Q (.bl (escR (t.drop p))) H
theorem ok_is_escape {P : Program} {w : World} {K : PySem.W.Frag} {mg : Str → Option Value} {base : Heap} (T : Txt w K mg) : FnOk P w K mg base CX0 1 T.a_is_escape T.d_is_escape ["text", "place"] (sp_is_escape K) := by
  refine T.f_is_escape.ok sc_is_escape (fun vs H Q E h => ?_) (fun cdv A outer s H vs Q E hr h => ?_)
  · obtain ⟨t, p, rfl, _⟩ := h
    rfl
  · obtain ⟨t, p, rfl, tp, q⟩ := h
    refine ⟨_, (pss_one (ps_ret (pe_and (pe_bm PySem.F.plainAttrs_str PySem.F.slot_str_startswith PySem.F.type_str_startswith mt_startswith3 (pv 0) (pa_cons pe_str (pa_cons (pv 1) pa_nil))) (pe_and (pe_cmpR op_lt (pe_op op_add (pv 1) pe_int) (pe_callB call_len_str (by rfl) T.z_len PySem.boot_len (pa_cons (pv 0) pa_nil)) (nomark _)) (pe_one (pe_cmpR op_in_sign (pe_ix ix_str (pv 0) (pe_op op_add (pv 1) pe_int) (fun _ _ => rfl)) (pe_glob (v := .str "!\"#$&'()*+,-./:;<=>?\x40[\\]^_{|}~`") rfl T.g_PUNCTUATION ⟨_, rfl⟩) (by rfl))))))), ?_⟩
    refine ⟨_, rfl, rfl, _, rfl, _, _, _, rfl, rfl, _, rfl, ?_⟩
    rw [lit_bs, starts3 t [92] (by simp) p]
    have en : ∀ {b : Bool}, escR (t.drop p) = b → Q (.bl b) H := fun e => by rw [← e]; exact q
    refine ite2 (fun h1 => ?_) (fun h1 => ?_)
    · have h2 := pre1 h1
      have hd : t.drop p = t[p] :: t.drop (p + 1) := List.drop_eq_getElem_cons h2
      have h0 : t[p] = 92 := by
        rw [hd] at h1
        simp [List.isPrefixOf] at h1
        exact h1.symm
      rw [h0] at hd
      refine ⟨_, rfl, _, _, rfl, rfl, _, rfl, _, rfl, tp.line, _, _, rfl, rfl, _, rfl, ite2 (fun h3 => ?_) (fun h3 => ?_)⟩
      · have h4 : p + 1 < t.length := by
          have := of_decide_eq_true h3
          rw [S_len] at this
          omega
        have hd2 : t.drop (p + 1) = t[p + 1] :: t.drop (p + 2) := List.drop_eq_getElem_cons h4
        refine ⟨_, rfl, _, rfl, _, _, rfl, rfl, _, _, t[p + 1], rfl, rfl, tp.line, atI_nat (j := p + 1) (by rw [S_tl]; exact List.getElem?_eq_getElem h4), t[p + 1], _, rfl, rfl, ?_⟩
        rw [lit_P, mem_S]
        exact en (by rw [hd, hd2]; rfl)
      · have h4 : t.length ≤ p + 1 := by
          have : ¬ ((p : Int) + 1 < ((S t).length : Int)) := fun z => h3 (decide_eq_true z)
          rw [S_len] at this
          omega
        exact en (by rw [hd, List.drop_of_length_le h4]; rfl)
    · refine en ?_
      cases hd : t.drop p with
      | nil => rfl
      | cons a r =>
        cases r with
        | nil => rfl
        | cons b r =>
          rw [hd] at h1
          have : (a == 92) = false := by
            rw [beq_eq_false_iff_ne]
            intro e
            exact h1 (by simp [List.isPrefixOf, e])
          show (a == 92 && PunL.contains b) = false
          rw [this]
          rfl
theorem dec_of0 : ∀ c, c < 128 → DecL.contains (lo1 c) = true → 48 ≤ c ∧ c ≤ 57 := by decide +kernel
theorem dec_of : ∀ c, c < 128 → DecL.contains (lo1 c) = true → IsB 10 c := fun c h1 h2 => by
  unfold IsB
  rw [if_neg (by decide)]
  exact dec_of0 c h1 h2
theorem hex_of0 : ∀ c, c < 128 → HexL.contains (lo1 c) = true → (48 ≤ c ∧ c ≤ 57) ∨ (97 ≤ c ∧ c ≤ 102) ∨ (65 ≤ c ∧ c ≤ 70) := by decide +kernel
theorem hex_of : ∀ c, c < 128 → HexL.contains (lo1 c) = true → IsB 16 c := fun c h1 h2 => by
  unfold IsB
  rw [if_pos (by decide)]
  exact hex_of0 c h1 h2
theorem b_of {B : Nat} {ds : List Nat} (hB : B = 10 ∧ ds = DecL ∨ B = 16 ∧ ds = HexL) {w : List Nat} (ha : Asc w) (h : (w.map lo1).all ds.contains = true) : ∀ c ∈ w, IsB B c := by
  rw [List.all_eq_true] at h
  intro c hc
  have h1 := h (lo1 c) (List.mem_map_of_mem hc)
  rcases hB with ⟨rfl, rfl⟩ | ⟨rfl, rfl⟩
  · exact dec_of c (ha c hc) h1
  · exact hex_of c (ha c hc) h1
def sp_number_in (K : PySem.W.Frag) : Sp := fun vs H Q _ => ∃ (w ds : List Nat) (B : Nat), vs = [.str (S w), .str (S ds), .int (B : Int)] ∧ (B = 10 ∧ ds = DecL ∨ B = 16 ∧ ds = HexL) ∧ w.length ≤ 100 ∧ Asc w ∧
  ∀ H', Same H H' → Q (iv (numR B ds w)) H'
theorem ok_number_in {P : Program} {w : World} {K : PySem.W.Frag} {mg : Str → Option Value} {base : Heap} (T : Txt w K mg) : FnOk P w K mg base CX0 1 T.a_number_in T.d_number_in ["digits", "signs", "base"] (sp_number_in K) := by
  refine T.f_number_in.ok sc_number_in (fun vs H Q E h => ?_) (fun cdv A outer s H vs Q E hr h => ?_)
  · obtain ⟨w, ds, B, rfl, _⟩ := h
    rfl
  · obtain ⟨w, ds, B, rfl, hB, hl, ha, q⟩ := h
    refine ⟨_, (pss_cons (ps_if (PW.pt (pw_or (pt_cmpR op_eq (pv 0) pe_str (nomark _)) (pw_or1 (pt_not (pt_val (pe_callB (cr_all rfl) (by rfl) T.z_all (by decide +kernel) (pa_cons (pe_lc (own := [("digit", 3)]) (g := (gName 3)) (tt := tYes) (by rfl) sc_number_in.nd (pi_str (pe_lower (pv 0))) (blkOk_by (own := [("digit", 3)]) (N := ["digits", "signs", "base", "digit"]) (sc := defScope s_number_in) (by decide +kernel)) (fun _ _ _ _ _ => (pg_name (i := 3) sc_number_in.nd rfl (Or.inl rfl))) (fun _ _ _ _ _ => pts_nil) (fun _ _ _ _ _ => (pe_cmpR op_in_sign (pv 3) (pv 1) (by rfl)))) pa_nil))))))) (pss_one (ps_ret pe_non)) pss_nil)
        (pss_one (ps_ret (pe_callTy call_int_base (by rfl) T.z_int (by decide +kernel) (pa_cons (pv 0) (pa_cons (pv 2) pa_nil)))))), ?_⟩
    refine ⟨_, rfl, rfl, _, rfl, ?_⟩
    rw [lit_e, S_dec]
    by_cases hw : w = []
    · rw [decide_eq_true hw]
      refine iteT (iteT ?_)
      have := q H (Same.refl _)
      unfold numR at this
      rw [if_pos hw] at this
      exact this
    · rw [decide_eq_false hw]
      refine iteF ?_
      refine ⟨_, rfl, ⟨_, rfl⟩, _, rfl, rfl, by rw [S_len]; omega, ?_⟩
      rw [lower_S w ha]
      refine ⟨_, rfl, fun D nD => ?_⟩
      refine lc_it (walk_str (z := S (w.map lo1))) (fun i H' => Same H H' ∧ H' D = some (.lst (((w.map lo1).take i).map fun c => V.bl (ds.contains c)))) ⟨same_new nD, by rw [upd_same]; rfl⟩ (fun _ _ _ _ => trivial) ?_ ?_
      · rintro i x H1 H2 hi ⟨sm, hD⟩ ⟨rfl, c, hc, rfl⟩
        rw [show (S (w.map lo1)).cps[i]? = (w.map lo1)[i]? by simp [S]] at hc
        refine ⟨rfl, _, rfl, _, rfl, c, _, rfl, rfl, ?_⟩
        rw [mem_S]
        refine ⟨_, hD, by rw [List.length_map, List.length_take, List.length_map, sizeLine_eq]; omega, fun b o e => ?_, ?_⟩
        · rw [upd_ne (ne_of_none e nD)]
          exact sm _ _ e
        · rw [upd_same, List.take_add_one, hc]
          simp
      · rintro H1 ⟨sm, hD⟩
        have hn : (S (w.map lo1)).cps.size = (w.map lo1).length := S_size _
        rw [hn, List.take_length] at hD
        refine ⟨D, (w.map lo1).map fun c => ds.contains c, rfl, SqL.of (by rw [List.map_map]; exact hD), ?_⟩
        have e0 : ((w.map lo1).map fun c => ds.contains c).all id = (w.map lo1).all ds.contains := by
          rw [List.all_map]
          rfl
        rw [e0]
        have q' := q H1 sm
        unfold numR at q'
        rw [if_neg hw] at q'
        refine ⟨_, rfl, ?_⟩
        cases hall : (w.map lo1).all ds.contains with
        | false =>
          rw [hall, if_neg Bool.false_ne_true] at q'
          exact iteT q'
        | true =>
          rw [hall, if_pos rfl] at q'
          refine iteF ?_
          have hb := b_of hB ha hall
          exact ⟨_, rfl, _, rfl, w, B, rfl, hB.elim (fun z => .inl z.1) (fun z => .inr z.1), hw, by omega, hb, q'⟩
theorem sq_rows0 {w : World} {K : PySem.W.Frag} {mg : Str → Option Value} (T : Txt w K mg) (H : Hp) : SqT K H T.a_SIGN_ROWS [.ref T.e_SIGN_ROWS_0, .ref T.e_SIGN_ROWS_1, .ref T.e_SIGN_ROWS_2] :=
  .inr ⟨_, _, _, T.l_SIGN_ROWS, rfl, rfl, by (show 3 ≤ sizeLine; decide), (.cons rfl (.cons rfl (.cons rfl .nil)))⟩
def RowsL : List (Nat × List Nat) := [(9, [9, 10]), (32, [32, 33, 34, 35, 36]), (38, (List.range 89).map (· + 38))]
theorem lit_r0 : ("\t\n" : Str) = S [9, 10] := by decide +kernel
theorem lit_r1 : (" !\"#$" : Str) = S [32, 33, 34, 35, 36] := by decide +kernel
theorem lit_r2 : ("&'()*+,-./0123456789:;<=>?@ABCDEFGHIJKLMNOPQRSTUVWXYZ[\\]^_`abcdefghijklmnopqrstuvwxyz{|}~" : Str) = S ((List.range 89).map (· + 38)) := by decide +kernel
theorem sq_row {w : World} {K : PySem.W.Frag} {mg : Str → Option Value} (T : Txt w K mg) (H : Hp) {i : Nat} {x : V} (h : ([.ref T.e_SIGN_ROWS_0, .ref T.e_SIGN_ROWS_1, .ref T.e_SIGN_ROWS_2] : List V)[i]? = some x) :
    ∃ a p, x = .ref a ∧ RowsL[i]? = some p ∧ SqT K H a [.int (p.1 : Nat), .str (S p.2)] := by
  match i, h with
  | 0, h =>
    cases h
    refine ⟨_, _, rfl, rfl, ?_⟩
    rw [← lit_r0]
    exact .inr ⟨_, _, _, T.l_SIGN_ROWS_0, rfl, rfl, by (show 2 ≤ sizeLine; decide), (.cons ⟨_, rfl⟩ (.cons ⟨_, rfl⟩ .nil))⟩
  | 1, h =>
    cases h
    refine ⟨_, _, rfl, rfl, ?_⟩
    rw [← lit_r1]
    exact .inr ⟨_, _, _, T.l_SIGN_ROWS_1, rfl, rfl, by (show 2 ≤ sizeLine; decide), (.cons ⟨_, rfl⟩ (.cons ⟨_, rfl⟩ .nil))⟩
  | 2, h =>
    cases h
    refine ⟨_, _, rfl, rfl, ?_⟩
    rw [← lit_r2]
    exact .inr ⟨_, _, _, T.l_SIGN_ROWS_2, rfl, rfl, by (show 2 ≤ sizeLine; decide), (.cons ⟨_, rfl⟩ (.cons ⟨_, rfl⟩ .nil))⟩
/-- the sign of a number, by the rows from the i-th on -/
def sgnF (n : Nat) : List (Nat × List Nat) → Option Nat
  | [] => none
  | p :: ps => if p.1 ≤ n ∧ n < p.1 + p.2.length then p.2[n - p.1]? else sgnF n ps
theorem sgnF_eq : ∀ n, sgnF n RowsL = sgnR n := by
  intro n
  by_cases h : n < 128
  · have : ∀ n, n < 128 → sgnF n RowsL = sgnR n := by decide +kernel
    exact this n h
  · have e1 : sgnR n = none := by
      unfold sgnR
      rw [if_neg (by omega)]
    rw [e1]
    show (if 9 ≤ n ∧ n < 9 + 2 then _ else if 32 ≤ n ∧ n < 32 + 5 then _ else if 38 ≤ n ∧ n < 38 + ((List.range 89).map (· + 38)).length then _ else none) = none
    rw [if_neg (by omega), if_neg (by omega), if_neg (by rw [List.length_map, List.length_range]; omega)]
def sp_sign_of (K : PySem.W.Frag) : Sp := fun vs H Q _ => ∃ o : Option Nat, vs = [iv o] ∧ Q (sv (o.bind sgnR)) H
theorem ok_sign_of {P : Program} {w : World} {K : PySem.W.Frag} {mg : Str → Option Value} {base : Heap} (T : Txt w K mg) : FnOk P w K mg base CX0 1 T.a_sign_of T.d_sign_of ["number"] (sp_sign_of K) := by
  refine T.f_sign_of.ok sc_sign_of (fun vs H Q E h => ?_) (fun cdv A outer s H vs Q E hr h => ?_)
  · obtain ⟨o, rfl, _⟩ := h
    rfl
  · obtain ⟨o, rfl, q⟩ := h
    refine ⟨_, (pss_cons (ps_if (pt_cmpR op_isN (pv 0) pe_non (nomark _)) (pss_one (ps_ret pe_non)) pss_nil)
        (pss_cons (ps_for PassesOwn.never rfl (pi_tup (pe_glob (v := .ref T.a_SIGN_ROWS) rfl T.g_SIGN_ROWS rfl)) (pg_tup (by rfl) (pgs_cons (pg_name (i := 1) sc_sign_of.nd rfl (.inl rfl)) (pgs_cons (pg_name (i := 2) sc_sign_of.nd rfl (.inl rfl)) pgs_nil))) (pss_one (ps_if (pt_chain op_le op_lt (pv 1) (pv 0) (pe_op op_add (pv 1) (pe_callB call_len_str (by rfl) T.z_len PySem.boot_len (pa_cons (pv 2) pa_nil)))) (pss_one (ps_ret (pe_ix ix_str (pv 2) (pe_op op_sub (pv 0) (pv 1)) (fun _ _ => rfl)))) pss_nil)))
        (pss_one (ps_ret pe_non)))), ?_⟩
    cases o with
    | none => exact ⟨_, rfl, rfl, _, rfl, iteT q⟩
    | some n =>
      refine ⟨_, rfl, rfl, _, rfl, iteF ?_⟩
      have q' : Q (sv (sgnF n RowsL)) H := by rw [sgnF_eq]; exact q
      refine ⟨T.a_SIGN_ROWS, rfl, ⟨_, sq_rows0 T H⟩, for_tup (K := K) (xs := [.ref T.e_SIGN_ROWS_0, .ref T.e_SIGN_ROWS_1, .ref T.e_SIGN_ROWS_2]) (fun i σ H' => H' = H ∧ (∃ v1 v2, σ = [some (.int (n : Nat)), v1, v2]) ∧ sgnF n RowsL = sgnF n (RowsL.drop i)) ⟨rfl, ⟨_, _, rfl⟩, rfl⟩ (fun i σ H' _ h => sq_rows0 T H') ?_ ?_⟩
      · rintro i x σ H' hx ⟨rfl, ⟨v1, v2, rfl⟩, e⟩
        obtain ⟨a, p, rfl, hp, hs⟩ := sq_row T H' hx
        have hd : RowsL.drop i = p :: RowsL.drop (i + 1) := by
          obtain ⟨h1, h2⟩ := List.getElem?_eq_some_iff.mp hp
          rw [List.drop_eq_getElem_cons h1, h2]
        have hlen : p.2.length ≤ 89 := by
          have : ∀ p ∈ RowsL, p.2.length ≤ 89 := by decide +kernel
          exact this p (List.mem_of_getElem? hp)
        have hln : (S p.2).length ≤ sizeLine := by rw [S_len, sizeLine_eq]; omega
        have hstep : sgnF n RowsL = if p.1 ≤ n ∧ n < p.1 + p.2.length then p.2[n - p.1]? else sgnF n (RowsL.drop (i + 1)) := by
          rw [e, hd]
          rfl
        refine ⟨a, _, rfl, hs, rfl, _, _, rfl, _, _, rfl, rfl, ?_⟩
        refine ⟨_, rfl, _, rfl, _, _, rfl, rfl, _, rfl, ite2 (fun h1 => ?_) (fun h1 => ?_)⟩
        · have h1' : p.1 ≤ n := by
            have := of_decide_eq_true h1
            omega
          refine ⟨_, rfl, _, rfl, _, rfl, hln, _, _, rfl, rfl, _, _, rfl, rfl, _, rfl, ite2 (fun h2 => ?_) (fun h2 => ?_)⟩
          · have h2' : n < p.1 + p.2.length := by
              have := of_decide_eq_true h2
              rw [S_len] at this
              omega
            rw [hstep, if_pos ⟨h1', h2'⟩, List.getElem?_eq_getElem (by omega)] at q'
            exact ⟨_, rfl, _, rfl, _, rfl, _, _, rfl, rfl, _, _, p.2[n - p.1]'(by omega), rfl, rfl, hln, by
              have e1 : ((n : Nat) : Int) - (p.1 : Nat) = ((n - p.1 : Nat) : Int) := by omega
              rw [e1]
              exact atI_nat (j := n - p.1) (by rw [S_tl]; exact List.getElem?_eq_getElem (by omega)), q'⟩
          · have h2' : ¬ n < p.1 + p.2.length := fun z => h2 (decide_eq_true (by rw [S_len]; omega))
            refine ⟨rfl, ⟨_, _, rfl⟩, ?_⟩
            rw [hstep, if_neg fun z => h2' z.2]
        · have h1' : ¬ p.1 ≤ n := fun z => h1 (decide_eq_true (by omega))
          refine ⟨_, rfl, iteF ⟨rfl, ⟨_, _, rfl⟩, ?_⟩⟩
          rw [hstep, if_neg fun z => h1' z.1]
      · rintro σ H' ⟨rfl, ⟨v1, v2, rfl⟩, e⟩
        rw [e] at q'
        exact q'
def sp_sign_meant (K : PySem.W.Frag) : Sp := fun vs H Q _ => ∃ w : List Nat, vs = [.str (S w)] ∧ w.length ≤ 100 ∧ Asc w ∧ ∀ H', Same H H' → Q (sv (meantR w)) H'
theorem names_lookup (w : List Nat) : (([("amp", .str "&"), ("lt", .str "<"), ("gt", .str ">"), ("quot", .str "\""), ("apos", .str "'"), ("num", .str "#"), ("ast", .str "*"), ("lowbar", .str "_"), ("grave", .str "`"), ("lsqb", .str "["), ("rsqb", .str "]"), ("lpar", .str "("), ("rpar", .str ")"), ("lcub", .str "{"), ("rcub", .str "}"), ("bsol", .str "\\"), ("excl", .str "!"), ("Tab", .str "\t"), ("NewLine", .str "\n")] : List (Str × V)).lookup (S w)).getD .non = sv (NamesL.lookup w) := by
  have e : ([("amp", .str "&"), ("lt", .str "<"), ("gt", .str ">"), ("quot", .str "\""), ("apos", .str "'"), ("num", .str "#"), ("ast", .str "*"), ("lowbar", .str "_"), ("grave", .str "`"), ("lsqb", .str "["), ("rsqb", .str "]"), ("lpar", .str "("), ("rpar", .str ")"), ("lcub", .str "{"), ("rcub", .str "}"), ("bsol", .str "\\"), ("excl", .str "!"), ("Tab", .str "\t"), ("NewLine", .str "\n")] : List (Str × V)) = NamesL.map fun p => (S p.1, V.str (S [p.2])) := by decide +kernel
  rw [e]
  have gen : ∀ ps : List (List Nat × Nat), ((ps.map fun p => (S p.1, V.str (S [p.2]))).lookup (S w)).getD .non = sv (ps.lookup w) := by
    intro ps
    induction ps with
    | nil => rfl
    | cons p ps ih =>
      rw [List.map_cons, List.lookup_cons, List.lookup_cons]
      by_cases h : w = p.1
      · subst h
        rw [beq_self_eq_true, beq_self_eq_true]
        rfl
      · rw [beq_eq_false_iff_ne.mpr h, beq_eq_false_iff_ne.mpr fun z => h (S_inj z)]
        exact ih
  exact gen NamesL
theorem ok_sign_meant {P : Program} {w : World} {K : PySem.W.Frag} {mg : Str → Option Value} {base : Heap} (T : Txt w K mg) : FnOk P w K mg base CX0 2 T.a_sign_meant T.d_sign_meant ["words"] (sp_sign_meant K) := by
  refine T.f_sign_meant.ok sc_sign_meant (fun vs H Q E h => ?_) (fun cdv A outer s H vs Q E hr h => ?_)
  · obtain ⟨w, rfl, _⟩ := h
    rfl
  · obtain ⟨w, rfl, hl, ha, q⟩ := h
    refine ⟨_, (pss_cons (ps_if (PW.pt (pw_or (pt_val (pe_bm PySem.F.plainAttrs_str PySem.F.slot_str_startswith PySem.F.type_str_startswith mt_startswith (pv 0) (pa_cons pe_str pa_nil))) (pw_or1 (pt_val (pe_bm PySem.F.plainAttrs_str PySem.F.slot_str_startswith PySem.F.type_str_startswith mt_startswith (pv 0) (pa_cons pe_str pa_nil)))))) (pss_one (ps_ret (pe_call (ok_sign_of T) (hr.mono (by decide)) (by rfl) T.g_sign_of T.f_sign_of.kp T.b_sign_of .nil pass0 (pa_cons (pe_call (ok_number_in T) (hr.mono (by decide)) (by rfl) T.g_number_in T.f_number_in.kp T.b_number_in .nil pass0 (pa_cons (pe_slice sl_str (pv 0) (po_some pe_int) po_none) (pa_cons pe_str (pa_cons pe_int pa_nil)))) pa_nil)))) pss_nil)
        (pss_cons (ps_if (pt_val (pe_bm PySem.F.plainAttrs_str PySem.F.slot_str_startswith PySem.F.type_str_startswith mt_startswith (pv 0) (pa_cons pe_str pa_nil))) (pss_one (ps_ret (pe_call (ok_sign_of T) (hr.mono (by decide)) (by rfl) T.g_sign_of T.f_sign_of.kp T.b_sign_of .nil pass0 (pa_cons (pe_call (ok_number_in T) (hr.mono (by decide)) (by rfl) T.g_number_in T.f_number_in.kp T.b_number_in .nil pass0 (pa_cons (pe_slice sl_str (pv 0) (po_some pe_int) po_none) (pa_cons pe_str (pa_cons pe_int pa_nil)))) pa_nil)))) pss_nil)
        (pss_one (ps_ret (pe_kget T.k_NAMES (pe_glob (v := .ref T.a_NAMES) rfl T.g_NAMES rfl) (pv 0) ⟨rfl, rfl, rfl, rfl⟩))))), ?_⟩
    have hln : (S w).length ≤ sizeLine := by rw [S_len, sizeLine_eq]; omega
    have fin2 : ∀ (B k : Nat) (ds : List Nat), (B = 10 ∧ ds = DecL ∨ B = 16 ∧ ds = HexL) → sv (meantR w) = sv ((numR B ds (w.drop k)).bind sgnR) → tCall (sp_sign_of K) [] E0 (tCons (tCall (sp_number_in K) [] E0 (tCons (tSl rSlS (tVar 0) (tPart (tC (.int (k : Int)))) tNoPart) (tCons (tC (.str (S ds))) (tCons (tC (.int (B : Int))) tNil)))) tNil) [some (.str (S w))] H Q := by
      intro B k ds hB e
      refine ⟨_, rfl, _, rfl, _, rfl, hln, ?_⟩
      rw [S_cut]
      refine ⟨w.drop k, ds, B, rfl, hB, by rw [List.length_drop]; omega, ha.drop k, fun H1 s1 => ⟨_, rfl, ?_⟩⟩
      rw [← e]
      exact q H1 s1
    have em : ∀ b, ([35, 120].isPrefixOf w || [35, 88].isPrefixOf w) = b → meantR w = if b = true then (numR 16 HexL (w.drop 2)).bind sgnR else if [35].isPrefixOf w then (numR 10 DecL (w.drop 1)).bind sgnR else NamesL.lookup w := fun b e => by
      unfold meantR
      rw [e]
    refine ⟨_, rfl, rfl, _, _, rfl, rfl, _, rfl, ?_⟩
    rw [lit_hx, starts1 w [35, 120] (by simp)]
    have yes : ([35, 120].isPrefixOf w || [35, 88].isPrefixOf w) = true → tCall (sp_sign_of K) [] E0 (tCons (tCall (sp_number_in K) [] E0 (tCons (tSl rSlS (tVar 0) (tPart (tC (.int (2 : Int)))) tNoPart) (tCons (tC (.str ("0123456789abcdef" : Str))) (tCons (tC (.int (16 : Int))) tNil)))) tNil) [some (.str (S w))] H Q := fun e => by
      rw [lit_0f]
      exact fin2 16 2 HexL (.inr ⟨rfl, rfl⟩) (by rw [em _ e, if_pos rfl])
    refine ite2 (fun h1 => iteT (yes (by rw [h1]; rfl))) (fun h1 => ?_)
    refine ⟨_, rfl, rfl, _, _, rfl, rfl, _, rfl, ?_⟩
    rw [lit_hX, starts1 w [35, 88] (by simp)]
    refine ite2 (fun h2 => yes (by rw [h2, Bool.or_true])) (fun h2 => ?_)
    have e := em false (by rw [eq_false_of_ne_true h1, eq_false_of_ne_true h2]; rfl)
    rw [if_neg Bool.false_ne_true] at e
    refine ⟨_, rfl, rfl, _, _, rfl, rfl, _, rfl, ?_⟩
    rw [show Txt.startswith (S w) ("#" : Str) = [35].isPrefixOf w by rw [lit_h]; exact starts1 w [35] (by simp)]
    refine ite2 (fun h3 => ?_) (fun h3 => ?_)
    · show tCall _ _ _ _ _ _ _
      rw [lit_09]
      exact fin2 10 1 DecL (.inl ⟨rfl, rfl⟩) (by rw [e, if_pos h3])
    · rw [if_neg h3] at e
      refine ⟨rfl, _, rfl, _, rfl, ?_⟩
      rw [names_lookup, ← e]
      exact q H (Same.refl _)
/-- a place and a sign -/
def RefV (H : Hp) (v : V) (p : Nat) : Option (Nat × Nat) → Prop
  | none => v = .non
  | some (k, c) => ∃ r, v = .ref r ∧ H r = some (.tup [.int ((p + k : Nat) : Int), .str (S [c])])
def sp_reference_at (K : PySem.W.Frag) : Sp := fun vs H Q _ => ∃ (t : List Nat) (p : Nat), vs = [.str (S t), .int (p : Int)] ∧ TP t p ∧ Asc t ∧ ∀ H' v, Same H H' → RefV H' v p (refR (t.drop p)) → Q v H'
theorem ok_reference_at {P : Program} {w : World} {K : PySem.W.Frag} {mg : Str → Option Value} {base : Heap} (T : Txt w K mg) : FnOk P w K mg base CX0 3 T.a_reference_at T.d_reference_at ["text", "place"] (sp_reference_at K) := by
  refine T.f_reference_at.ok sc_reference_at (fun vs H Q E h => ?_) (fun cdv A outer s H vs Q E hr h => ?_)
  · obtain ⟨t, p, rfl, _⟩ := h
    rfl
  · obtain ⟨t, p, rfl, tp, ha, q⟩ := h
    refine ⟨_, (pss_cons (ps_if (pt_not (pt_val (pe_bm PySem.F.plainAttrs_str PySem.F.slot_str_startswith PySem.F.type_str_startswith mt_startswith3 (pv 0) (pa_cons pe_str (pa_cons (pv 1) pa_nil))))) (pss_one (ps_ret pe_non)) pss_nil)
        (pss_cons (ps_set (i := 2) sc_reference_at.nd rfl (.inl rfl) (pe_bm PySem.F.plainAttrs_str PySem.F.slot_str_find PySem.F.type_str_find mt_find4 (pv 0) (pa_cons pe_str (pa_cons (pv 1) (pa_cons (pe_op op_add (pv 1) (pe_glob (v := .int 10) rfl T.g_LONGEST ⟨_, rfl⟩)) pa_nil)))))
        (pss_cons (ps_if (pt_cmpR op_lt (pv 2) pe_int (nomark _)) (pss_one (ps_ret pe_non)) pss_nil)
        (pss_cons (ps_set (i := 3) sc_reference_at.nd rfl (.inl rfl) (pe_call (ok_sign_meant T) (hr.mono (by decide)) (by rfl) T.g_sign_meant T.f_sign_meant.kp T.b_sign_meant .nil pass0 (pa_cons (pe_slice sl_str (pv 0) (po_some (pe_op op_add (pv 1) pe_int)) (po_some (pv 2))) pa_nil)))
        (pss_cons (ps_if (pt_cmpR op_isN (pv 3) pe_non (nomark _)) (pss_one (ps_ret pe_non)) pss_nil)
        (pss_one (ps_ret (pe_tup (pa_cons (pe_op op_add (pv 2) pe_int) (pa_cons (pv 3) pa_nil)))))))))), ?_⟩
    refine ⟨_, rfl, rfl, _, rfl, _, _, _, rfl, rfl, _, rfl, ?_⟩
    rw [lit_amp, starts3 t [38] (by simp) p]
    cases h1 : ([38] : List Nat).isPrefixOf (t.drop p) with
    | false =>
      refine iteT (q H .non (Same.refl _) ?_)
      unfold refR
      rw [h1, if_neg Bool.false_ne_true]
      rfl
    | true =>
      refine iteF ?_
      refine ⟨_, rfl, rfl, _, rfl, _, rfl, _, _, rfl, rfl, _, _, _, _, rfl, rfl, ?_⟩
      rw [lit_semi]
      have e3 := findIn_S t [59] (by simp) p 10
      have ec : ((p + 10 : Nat) : Int) = (p : Int) + 10 := by omega
      rw [ec] at e3
      have er : refR (t.drop p) = match findL [59] ((t.drop p).take 10) with | none => none | some k => (meantR (((t.drop p).drop 1).take (k - 1))).map fun c => (k + 1, c) := by
        unfold refR
        rw [h1, if_pos rfl]
        try rfl
      cases hf : findL [59] ((t.drop p).take 10) with
      | none =>
        rw [hf] at er e3
        rw [show Txt.findIn (S t) (S [59]) (p : Int) ((p : Int) + 10) = -1 from e3]
        refine ⟨_, rfl, _, _, rfl, rfl, _, rfl, iteT (q H .non (Same.refl _) ?_)⟩
        rw [er]
        rfl
      | some k =>
        rw [hf] at er e3
        rw [show Txt.findIn (S t) (S [59]) (p : Int) ((p : Int) + 10) = ((p + k : Nat) : Int) from e3]
        refine ⟨_, rfl, _, _, rfl, rfl, _, rfl, ?_⟩
        rw [decide_eq_false (by omega)]
        refine iteF ?_
        have hk : 1 ≤ k := by
          cases k with
          | zero =>
            have h4 := (findL_some (by simp) hf).1
            cases hd : t.drop p with
            | nil => rw [hd] at h1; cases h1
            | cons a r =>
              rw [hd] at h1 h4
              have h5 : ((38 : Nat) == a && ([] : List Nat).isPrefixOf r) = true := h1
              have h6 : ((59 : Nat) == a && ([] : List Nat).isPrefixOf (r.take 9)) = true := h4
              have h7 := eq_of_beq (Bool.and_eq_true_iff.mp h5).1
              have h8 := eq_of_beq (Bool.and_eq_true_iff.mp h6).1
              omega
          | succ k => omega
        have hk9 : k ≤ 10 := by
          have h4 := pre_len _ _ (findL_some (by simp) hf).1
          rw [List.length_drop, List.length_take] at h4
          simp at h4
          omega
        refine ⟨_, rfl, _, rfl, _, _, rfl, rfl, _, rfl, _, rfl, _, rfl, _, rfl, tp.line, ?_⟩
        rw [show (p : Int) + 1 = ((p + 1 : Nat) : Int) by omega, S_cut2 t (p + 1) (p + k) (by omega), show p + k - (p + 1) = k - 1 by omega, ← List.drop_drop]
        refine ⟨_, rfl, by rw [List.length_take]; omega, ((ha.drop p).drop 1).take _, fun H1 s1 => ?_⟩
        have er2 : refR (t.drop p) = (meantR (((t.drop p).drop 1).take (k - 1))).map fun c => (k + 1, c) := er
        cases hm : meantR (((t.drop p).drop 1).take (k - 1)) with
        | none =>
          rw [hm] at er2
          refine ⟨_, rfl, rfl, _, rfl, iteT (q H1 .non s1 ?_)⟩
          rw [er2]
          rfl
        | some c =>
          rw [hm] at er2
          refine ⟨_, rfl, rfl, _, rfl, iteF ?_⟩
          refine ⟨_, rfl, _, _, rfl, rfl, _, rfl, by show 2 ≤ sizeLine; decide, fun r nr => ?_⟩
          refine q _ _ (s1.trans (same_new nr)) ?_
          rw [er2]
          exact ⟨r, rfl, by rw [upd_same]; congr 3⟩
def sp_behind_all (K : PySem.W.Frag) : Sp := fun vs H Q _ => ∃ (w t : List Nat) (p : Nat), vs = [.str (S w), .str (S t), .int (p : Int)] ∧ TP t p ∧ Q (.int (pos t (ba w (t.drop p)) : Nat)) H
theorem ok_behind_all {P : Program} {w : World} {K : PySem.W.Frag} {mg : Str → Option Value} {base : Heap} (T : Txt w K mg) : FnOk P w K mg base CX0 1 T.a_behind_all T.d_behind_all ["signs", "text", "place"] (sp_behind_all K) := by
  refine T.f_behind_all.ok sc_behind_all (fun vs H Q E h => ?_) (fun cdv A outer s H vs Q E hr h => ?_)
  · obtain ⟨w, t, p, rfl, _⟩ := h
    rfl
  · obtain ⟨w, t, p, rfl, tp, q⟩ := h
    refine ⟨_, (pss_cons (ps_while PassesOwn.never (PW.pt (pw_and (pt_cmpR op_lt (pv 2) (pe_callB call_len_str (by rfl) T.z_len PySem.boot_len (pa_cons (pv 1) pa_nil)) (nomark _)) (pw_and1 (pt_cmpR op_in_sign (pe_ix ix_str (pv 1) (pv 2) (fun _ _ => rfl)) (pv 0) (by rfl))))) (pss_one (ps_aug (i := 2) sc_behind_all.nd rfl (.inl rfl) pe_int ip_add)))
        (pss_one (ps_ret (pv 2)))), ?_⟩
    refine ⟨fun m σ H' => ∃ k : Nat, σ = [some (.str (S w)), some (.str (S t)), some (.int (k : Int))] ∧ H = H' ∧ m = t.length - k ∧ k ≤ t.length ∧ ba w (t.drop k) = ba w (t.drop p), ⟨t.length - p, p, rfl, rfl, rfl, tp.le, rfl⟩, ?_⟩
    rintro m σ H' ⟨k, rfl, rfl, rfl, hk, e⟩
    have fin : (¬ ∃ c r, t.drop k = c :: r ∧ w.contains c = true) → Q (.int (k : Nat)) H := by
      intro hno
      have e1 : ba w (t.drop k) = t.drop k := by
        cases hd : t.drop k with
        | nil => rfl
        | cons c r =>
          unfold ba
          rw [List.dropWhile_cons, if_neg (fun z => hno ⟨c, r, hd, z⟩)]
      rw [e1] at e
      rw [← e, drop_pos hk] at q
      exact q
    refine ⟨_, rfl, _, rfl, _, rfl, tp.line, _, _, rfl, rfl, _, rfl, ite2 (fun h1 => ?_) (fun h1 => ?_)⟩
    · have h2 : k < t.length := by
        have := of_decide_eq_true h1
        rw [S_len] at this
        omega
      have hd : t.drop k = t[k] :: t.drop (k + 1) := List.drop_eq_getElem_cons h2
      refine ⟨_, rfl, _, rfl, _, _, t[k], rfl, rfl, tp.line, atI_nat (by rw [S_tl]; exact List.getElem?_eq_getElem h2), _, rfl, t[k], _, rfl, rfl, _, rfl, ?_⟩
      rw [mem_S]
      refine ite2 (fun h3 => ?_) (fun h3 => ?_)
      · refine ⟨fun σ' H' => ∃ k', σ' = [some (.str (S w)), some (.str (S t)), some (.int (k' : Nat))] ∧ H = H' ∧ k' = k + 1 ∧ ba w (t.drop k') = ba w (t.drop p), ?_, ?_⟩
        · rintro σ' H' ⟨k', rfl, rfl, rfl, e'⟩
          exact ⟨t.length - (k + 1), by omega, k + 1, rfl, rfl, rfl, by omega, e'⟩
        · refine ⟨_, rfl, _, _, rfl, rfl, k + 1, ?_, rfl, rfl, ?_⟩
          · rw [Int.natCast_add]
            rfl
          · rw [← e, hd]
            conv => rhs; unfold ba
            rw [List.dropWhile_cons, if_pos h3]
            rfl
      · refine ⟨_, rfl, fin ?_⟩
        rintro ⟨c, r, h4, h5⟩
        rw [hd] at h4
        injection h4 with h6 h7
        subst h6
        exact h3 h5
    · refine iteF ⟨_, rfl, fin ?_⟩
      rintro ⟨c, r, h4, h5⟩
      have h2 : t.length ≤ k := by
        have : ¬ ((k : Int) < ((S t).length : Int)) := fun z => h1 (decide_eq_true z)
        rw [S_len] at this
        omega
      rw [List.drop_of_length_le h2] at h4
      cases h4
theorem bq_on {cs : List Nat} {p : Nat} (h : cs[p]? = some 96) : p < pos cs (ba [96] (cs.drop p)) ∧ pos cs (ba [96] (cs.drop p)) ≤ cs.length := by
  obtain ⟨hl, e⟩ := List.getElem?_eq_some_iff.mp h
  refine ⟨?_, pos_le _ _⟩
  have e2 : cs.drop p = 96 :: cs.drop (p + 1) := by
    rw [← e]
    exact List.drop_eq_getElem_cons hl
  unfold pos ba
  rw [e2, List.dropWhile_cons, if_pos (by rfl)]
  have h3 := (List.dropWhile_suffix (l := cs.drop (p + 1)) (fun c => [96].contains c)).length_le
  rw [List.length_drop] at h3
  omega
theorem find_0 (t w : List Nat) : Txt.find (S t) (S w) = Txt.find3 (S t) (S w) ((0 : Nat) : Int) := by
  unfold Txt.find Txt.find3
  rw [from_nat]
  cases Builtin.Str.occurrences (S t) (S w) 0 (S t).length 1 <;> rfl
/-- the place of the first backquote from p on -/
def bqAt (t : List Nat) (p : Nat) : Option Nat := (findL [96] (t.drop p)).map (p + ·)
def bqEnd (t : List Nat) (q : Nat) : Nat := pos t (ba [96] (t.drop q))
/-- the strings from p on: place and length -/
def bqF : Nat → List Nat → Nat → List (Nat × Nat)
  | 0, _, _ => []
  | n + 1, t, p => match bqAt t p with
    | none => []
    | some q => (q, bqEnd t q - q) :: bqF n t (bqEnd t q)
def bqs (t : List Nat) (p : Nat) : List (Nat × Nat) := bqF (t.length + 1 - p) t p
theorem bqAt_at {t : List Nat} {p q : Nat} (h : bqAt t p = some q) : p ≤ q ∧ t[q]? = some 96 := by
  unfold bqAt at h
  cases e : findL [96] (t.drop p) with
  | none => rw [e] at h; cases h
  | some k =>
    rw [e] at h
    cases h
    obtain ⟨h1, _⟩ := findL_some (by intro e; cases e) e
    refine ⟨Nat.le_add_right _ _, ?_⟩
    rw [List.drop_drop] at h1
    cases e : t.drop (p + k) with
    | nil => rw [e] at h1; cases h1
    | cons c r =>
      rw [e] at h1
      have hc : c = 96 := by
        unfold List.isPrefixOf at h1
        rw [Bool.and_eq_true] at h1
        exact (eq_of_beq h1.1).symm
      have h2 : (t.drop (p + k))[0]? = some c := by rw [e]; rfl
      rw [List.getElem?_drop, Nat.add_zero] at h2
      rw [h2, hc]
theorem bqF_enough : ∀ (n m : Nat) (t : List Nat) (p : Nat), t.length + 1 - p ≤ n → t.length + 1 - p ≤ m → bqF n t p = bqF m t p
  | 0, m, t, p, h, _ => by
    cases m with
    | zero => rfl
    | succ m =>
      have : bqAt t p = none := by
        cases e : bqAt t p with
        | none => rfl
        | some q =>
          obtain ⟨h1, h2⟩ := bqAt_at e
          have := (List.getElem?_eq_some_iff.mp h2).1
          omega
      unfold bqF
      rw [this]
  | n + 1, 0, t, p, h, h' => by
    have : bqAt t p = none := by
      cases e : bqAt t p with
      | none => rfl
      | some q =>
        obtain ⟨h1, h2⟩ := bqAt_at e
        have := (List.getElem?_eq_some_iff.mp h2).1
        omega
    unfold bqF
    rw [this]
  | n + 1, m + 1, t, p, h, h' => by
    unfold bqF
    cases e : bqAt t p with
    | none => rfl
    | some q =>
      obtain ⟨h1, h2⟩ := bqAt_at e
      obtain ⟨h3, h4⟩ := bq_on h2
      have h5 : bqEnd t q = pos t (ba [96] (t.drop q)) := rfl
      show (q, bqEnd t q - q) :: bqF n t (bqEnd t q) = (q, bqEnd t q - q) :: bqF m t (bqEnd t q)
      rw [bqF_enough n m t (bqEnd t q) (by omega) (by omega)]
theorem bqs_some {t : List Nat} {p q : Nat} (h : bqAt t p = some q) : bqs t p = (q, bqEnd t q - q) :: bqs t (bqEnd t q) := by
  obtain ⟨h1, h2⟩ := bqAt_at h
  obtain ⟨h3, h4⟩ := bq_on h2
  have h5 : bqEnd t q = pos t (ba [96] (t.drop q)) := rfl
  have hq := (List.getElem?_eq_some_iff.mp h2).1
  have : t.length + 1 - p = (t.length - p) + 1 := by omega
  unfold bqs
  rw [this]
  show (match bqAt t p with | none => [] | some q => (q, bqEnd t q - q) :: bqF (t.length - p) t (bqEnd t q)) = _
  rw [h]
  show (q, bqEnd t q - q) :: bqF (t.length - p) t (bqEnd t q) = _
  rw [bqF_enough _ (t.length + 1 - bqEnd t q) t _ (by omega) (by omega)]
theorem bqs_none {t : List Nat} {p : Nat} (h : bqAt t p = none) : bqs t p = [] := by
  unfold bqs
  generalize t.length + 1 - p = n
  cases n with
  | zero => rfl
  | succ n => unfold bqF; rw [h]
theorem bqF_len : ∀ (n : Nat) (t : List Nat) (p : Nat), p ≤ t.length → (bqF n t p).length + p ≤ t.length
  | 0, _, _, h => by show 0 + _ ≤ _; omega
  | n + 1, t, p, h => by
    unfold bqF
    cases e : bqAt t p with
    | none => show 0 + _ ≤ _; omega
    | some q =>
      obtain ⟨h1, h2⟩ := bqAt_at e
      obtain ⟨h3, h4⟩ := bq_on h2
      have h5 : bqEnd t q = pos t (ba [96] (t.drop q)) := rfl
      have := bqF_len n t (bqEnd t q) (by omega)
      show (bqF n t (bqEnd t q)).length + 1 + p ≤ _
      omega
theorem bqs_len (t : List Nat) : (bqs t 0).length ≤ t.length := bqF_len _ t 0 (Nat.zero_le _)
theorem find_bqs (t : List Nat) (p : Nat) : Txt.find3 (S t) (S [96]) (p : Int) = (match bqAt t p with | none => -1 | some q => (q : Int)) := by
  rw [find3_S t [96] (by intro e; cases e) p]
  unfold bqAt
  cases findL [96] (t.drop p) <;> rfl
/-- the places of a length -/
def ofLen (n : Nat) (l : List (Nat × Nat)) : List Nat := (l.filter fun q => q.2 == n).map (·.1)
def intsV (l : List Nat) : List V := l.map fun n : Nat => V.int (n : Int)
/-- lists of places by lengths: those of these strings -/
def DLq (H0 H : Hp) (d : Addr) (l : List (Nat × Nat)) : Prop := H0 d = none ∧ ∃ kvs : List (Key × V), H d = some (.dK kvs) ∧ kvs.length ≤ l.length ∧
  (∀ k v, valV kvs k = some v → ∃ (n : Nat) (a : Addr), k = .inl (n : Int) ∧ v = .ref a ∧ H0 a = none ∧ a ≠ d ∧ H a = some (.lst (intsV (ofLen n l))) ∧ ofLen n l ≠ []) ∧
  (∀ n : Nat, valV kvs (.inl (n : Int)) = none → ofLen n l = []) ∧
  (∀ k k' a, valV kvs k = some (.ref a) → valV kvs k' = some (.ref a) → k = k')
theorem ofLen_snoc (n : Nat) (l : List (Nat × Nat)) (q : Nat × Nat) : ofLen n (l ++ [q]) = if q.2 = n then ofLen n l ++ [q.1] else ofLen n l := by
  unfold ofLen
  rw [List.filter_append, List.map_append]
  by_cases h : q.2 = n
  · rw [if_pos h, List.filter_cons, if_pos (by rw [h]; exact beq_self_eq_true n)]
    rfl
  · rw [if_neg h, List.filter_cons, if_neg (by rw [beq_eq_false_iff_ne.mpr h]; exact Bool.false_ne_true)]
    exact List.append_nil _
theorem intsV_app (a b : List Nat) : intsV (a ++ b) = intsV a ++ intsV b := List.map_append
theorem intsV_len (l : List Nat) : (intsV l).length = l.length := List.length_map ..
theorem ofLen_le (n : Nat) (l : List (Nat × Nat)) : (ofLen n l).length ≤ l.length := by
  unfold ofLen
  rw [List.length_map]
  exact List.length_filter_le _ _
theorem dlq_old {H0 H : Hp} {d a : Addr} {l : List (Nat × Nat)} {q n : Nat} (h : DLq H0 H d l) {kvs : List (Key × V)} (hd : H d = some (.dK kvs)) (hv : valV kvs (.inl (n : Int)) = some (.ref a)) : DLq H0 (upd H a (.lst (intsV (ofLen n l) ++ [.int (q : Int)]))) d (l ++ [(q, n)]) := by
  obtain ⟨h0, kvs', hd', lk, h1, h2, h3⟩ := h
  rw [hd] at hd'
  cases hd'
  obtain ⟨n', a', e1, e2, ha0, had, ha, hne⟩ := h1 _ _ hv
  cases e2
  refine ⟨h0, kvs, by rw [upd_ne had.symm]; exact hd, by rw [List.length_append]; omega, fun k v hk => ?_, fun m hm => ?_, h3⟩
  · obtain ⟨m, b, rfl, rfl, hb0, hbd, hb, hbn⟩ := h1 k v hk
    by_cases hmn : m = n
    · subst hmn
      rw [hk] at hv
      have eab := V.ref.inj (Option.some.inj hv)
      subst eab
      refine ⟨m, _, rfl, rfl, hb0, hbd, ?_, ?_⟩
      · rw [upd_same, ofLen_snoc, if_pos rfl, intsV_app]
        rfl
      · rw [ofLen_snoc, if_pos rfl]
        simp
    · have hba : b ≠ a := fun e => by
        subst e
        have := h3 _ _ _ hk hv
        exact hmn (Int.ofNat.inj (Sum.inl.inj this))
      refine ⟨m, b, rfl, rfl, hb0, hbd, ?_, ?_⟩
      · rw [upd_ne hba, ofLen_snoc, if_neg (fun e => hmn e.symm)]
        exact hb
      · rw [ofLen_snoc, if_neg (fun e => hmn e.symm)]
        exact hbn
  · rw [ofLen_snoc, if_neg (fun e => by subst e; rw [hm] at hv; cases hv)]
    exact h2 m hm
theorem dlq_new {H0 H H1 : Hp} {d a : Addr} {l : List (Nat × Nat)} {q n : Nat} (h : DLq H0 H d l) (s : Same H H1) {kvs : List (Key × V)} (hd : H d = some (.dK kvs)) (hv : valV kvs (.inl (n : Int)) = none) (ha0 : H0 a = none) (ha : H a = none) (had : a ≠ d) :
    DLq H0 (upd (upd H1 d (.dK (putK kvs (.inl (n : Int)) (.ref a)))) a (.lst [.int (q : Int)])) d (l ++ [(q, n)]) := by
  obtain ⟨h0, kvs', hd', lk, h1, h2, h3⟩ := h
  rw [hd] at hd'
  cases hd'
  have hem := h2 n hv
  refine ⟨h0, _, by rw [upd_ne had.symm]; exact upd_same, by have := length_putK kvs (.inl (n : Int)) (.ref a); rw [List.length_append, List.length_singleton]; omega, fun k v hk => ?_, fun m hm => ?_, fun k k' b hk hk' => ?_⟩
  · rw [valV_put] at hk
    by_cases e : k = .inl (n : Int)
    · rw [if_pos e] at hk
      cases hk
      refine ⟨n, a, e, rfl, ha0, had, ?_, ?_⟩
      · rw [upd_same, ofLen_snoc, if_pos rfl, hem]
        rfl
      · rw [ofLen_snoc, if_pos rfl]
        simp
    · rw [if_neg e] at hk
      obtain ⟨m, b, rfl, rfl, hb0, hbd, hb, hbn⟩ := h1 k v hk
      have hmn : ¬ n = m := fun z => e (by rw [z])
      refine ⟨m, b, rfl, rfl, hb0, hbd, ?_, ?_⟩
      · rw [upd_ne (ne_of_none hb ha), upd_ne hbd, ofLen_snoc, if_neg hmn]
        exact s _ _ hb
      · rw [ofLen_snoc, if_neg hmn]
        exact hbn
  · rw [valV_put] at hm
    by_cases e : (Sum.inl (m : Int) : Key) = .inl (n : Int)
    · rw [if_pos e] at hm
      cases hm
    · rw [if_neg e] at hm
      rw [ofLen_snoc, if_neg (fun z => e (by have z' : n = m := z; rw [z']))]
      exact h2 m hm
  · have old : ∀ k0, valV kvs k0 = some (.ref b) → b ≠ a := fun k0 hk0 => by
      obtain ⟨m, b', _, e2, _, _, hb, _⟩ := h1 k0 _ hk0
      cases e2
      exact ne_of_none hb ha
    rw [valV_put] at hk hk'
    by_cases e : k = .inl (n : Int)
    · rw [if_pos e] at hk
      cases hk
      by_cases e' : k' = .inl (n : Int)
      · rw [e, e']
      · rw [if_neg e'] at hk'
        exact absurd rfl (old _ hk')
    · rw [if_neg e] at hk
      by_cases e' : k' = .inl (n : Int)
      · rw [if_pos e'] at hk'
        cases hk'
        exact absurd rfl (old _ hk)
      · rw [if_neg e'] at hk'
        exact h3 k k' b hk hk'
def sp_strings_in (K : PySem.W.Frag) : Sp := fun vs H Q _ => ∃ cs : List Nat, vs = [.str (S cs)] ∧ cs.length ≤ 100000 ∧ ∀ H' d, Same H H' → DLq H H' d (bqs cs 0) → Q (.ref d) H'
theorem ok_strings_in {P : Program} {w : World} {K : PySem.W.Frag} {mg : Str → Option Value} {base : Heap} (T : Txt w K mg) : FnOk P w K mg base CX0 2 T.a_strings_in T.d_strings_in ["text"] (sp_strings_in K) := by
  refine T.f_strings_in.ok sc_strings_in (fun vs H Q E h => ?_) (fun cdv A outer s H vs Q E hr h => ?_)
  · obtain ⟨cs, rfl, _⟩ := h
    rfl
  · obtain ⟨cs, rfl, hn, q⟩ := h
    refine ⟨_, (pss_cons (ps_set (i := 1) sc_strings_in.nd rfl (.inl rfl) pe_dnewK)
        (pss_cons (ps_set (i := 2) sc_strings_in.nd rfl (.inl rfl) (pe_bm PySem.F.plainAttrs_str PySem.F.slot_str_find PySem.F.type_str_find mt_find (pv 0) (pa_cons pe_str pa_nil)))
        (pss_cons (ps_while PassesOwn.never (pt_cmpR op_ge (pv 2) pe_int (nomark _)) (pss_cons (ps_set (i := 3) sc_strings_in.nd rfl (.inl rfl) (pe_call (ok_behind_all T) (hr.mono (by decide)) (by rfl) T.g_behind_all T.f_behind_all.kp T.b_behind_all .nil pass0 (pa_cons pe_str (pa_cons (pv 0) (pa_cons (pv 2) pa_nil)))))
        (pss_cons (ps_expr (pe_bm PySem.F.plainAttrs_list PySem.F.slot_list_append PySem.F.type_list_append mt_append (pe_dsetd (pv 1) (pe_op op_sub (pv 3) (pv 2)) (pe_lst pa_nil) ⟨rfl, rfl, rfl, rfl⟩) (pa_cons (pv 2) pa_nil)))
        (pss_one (ps_set (i := 2) sc_strings_in.nd rfl (.inl rfl) (pe_bm PySem.F.plainAttrs_str PySem.F.slot_str_find PySem.F.type_str_find mt_find3 (pv 0) (pa_cons pe_str (pa_cons (pv 3) pa_nil))))))))
        (pss_one (ps_ret (pv 1)))))), ?_⟩
    have bq : (Str.ofString "`") = S [96] := by decide +kernel
    rw [bq]
    refine fun d nd => ?_
    have s0 : Same H (upd H d (.dK [])) := same_new nd
    refine ⟨_, rfl, rfl, _, _, rfl, rfl, ?_⟩
    rw [find_0]
    have lb : ∀ l0 p, l0 ++ bqs cs p = bqs cs 0 → l0.length ≤ cs.length := fun l0 p e => by
      have h1 := bqs_len cs
      rw [← e, List.length_append] at h1
      omega
    refine ⟨fun m σ H' => ∃ (p : Nat) (l0 : List (Nat × Nat)) (o : Option V), σ = [some (V.str (S cs)), some (.ref d), some (.int (Txt.find3 (S cs) (S [96]) (p : Int))), o] ∧ Same H H' ∧ DLq H H' d l0 ∧ l0 ++ bqs cs p = bqs cs 0 ∧ p ≤ cs.length ∧ m = cs.length - p, ⟨_, 0, [], none, rfl, s0, ⟨nd, [], upd_same, Nat.le_refl _, fun k v e => (by cases e), fun _ _ => rfl, fun _ _ _ e => (by cases e)⟩, rfl, Nat.zero_le _, rfl⟩, ?_⟩
    rintro m σ H' ⟨p, l0, o, rfl, sm, dl, hl0, hpl, rfl⟩
    rw [find_bqs]
    cases eb : bqAt cs p with
    | none =>
      refine ⟨_, rfl, _, _, rfl, rfl, _, rfl, iteF ?_⟩
      rw [bqs_none eb, List.append_nil] at hl0
      rw [hl0] at dl
      exact ⟨_, rfl, q _ _ sm dl⟩
    | some q0 =>
      obtain ⟨hp0, hc⟩ := bqAt_at eb
      obtain ⟨hp, hE⟩ := bq_on hc
      have hb5 : bqEnd cs q0 = pos cs (ba [96] (cs.drop q0)) := rfl
      rw [← hb5] at hp hE
      rw [bqs_some eb] at hl0
      have hl1 : (l0 ++ [(q0, bqEnd cs q0 - q0)]) ++ bqs cs (bqEnd cs q0) = bqs cs 0 := by rw [List.append_assoc]; exact hl0
      have hlen := lb _ _ hl1
      rw [List.length_append, List.length_singleton] at hlen
      have hpl0 := (List.getElem?_eq_some_iff.mp hc).1
      refine ⟨_, rfl, _, _, rfl, rfl, _, rfl, iteT ?_⟩
      refine ⟨fun σ' H2 => ∃ m', m' < cs.length - p ∧ ∃ (p : Nat) (l0 : List (Nat × Nat)) (o : Option V), σ' = [some (V.str (S cs)), some (.ref d), some (.int (Txt.find3 (S cs) (S [96]) (p : Int))), o] ∧ Same H H2 ∧ DLq H H2 d l0 ∧ l0 ++ bqs cs p = bqs cs 0 ∧ p ≤ cs.length ∧ m' = cs.length - p, fun σ' H2 h => h, ?_⟩
      refine ⟨_, rfl, _, rfl, [96], cs, q0, rfl, ⟨by omega, hn⟩, ?_⟩
      rw [← hb5]
      generalize hE2 : bqEnd cs q0 = E2 at *
      obtain ⟨n0, hn0⟩ : ∃ n0 : Nat, n0 = E2 - q0 := ⟨_, rfl⟩
      have ek : ((E2 : Int) - (q0 : Int)) = ((n0 : Nat) : Int) := by omega
      rw [← hn0] at hl1
      have dl' := dl
      obtain ⟨h0, kvs, hd, lk, hv1, hv2, hv3⟩ := dl
      refine ⟨_, rfl, d, rfl, .inl ⟨kvs, .inl hd⟩, _, rfl, _, rfl, _, _, rfl, rfl, (by show 0 ≤ sizeLine; decide), fun a na => ?_⟩
      have na' : H' a = none := na
      have na0 : H a = none := by
        cases e : H a with
        | none => rfl
        | some o => rw [sm _ _ e] at na; cases na
      have ad : a ≠ d := fun e => by rw [e, hd] at na; cases na
      have s1 : Same H' (upd H' a (.lst [])) := same_new na
      have ha1 : (upd H' a (.lst [])) a = some (.lst []) := upd_same
      generalize upd H' a (.lst []) = H1 at s1 ha1 ⊢
      have hd1 := s1 _ _ hd
      have sm1 := sm.trans s1
      refine ⟨kvs, .inl ((n0 : Nat) : Int), hd1, by show V.int ((E2 : Int) - (q0 : Int)) = _; rw [ek]; rfl, by rw [sizeLine_eq]; omega, fun v ev => ?_, fun en => ?_⟩
      · obtain ⟨n1, b, ek1, rfl, hb0, bd, hb, hbn⟩ := hv1 _ _ ev
        have en1 : n1 = n0 := (Int.ofNat.inj (Sum.inl.inj ek1)).symm
        subst en1
        have hb1 := s1 _ _ hb
        have lx := ofLen_le n1 l0
        have dl1 : DLq H H1 d l0 := ⟨h0, kvs, hd1, lk, fun k v hk => by
          obtain ⟨n, a', e1, e2, e3, e4, e5, e6⟩ := hv1 k v hk
          exact ⟨n, a', e1, e2, e3, e4, s1 _ _ e5, e6⟩, hv2, hv3⟩
        refine ⟨.inl ⟨rfl, _, SqL.of hb1⟩, _, rfl, b, _, _, rfl, rfl, hb1, by rw [intsV_len, sizeLine_eq]; omega, _, rfl, rfl, _, rfl, _, _, _, rfl, rfl, ?_⟩
        exact ⟨cs.length - E2, by omega, E2, _, _, rfl, fun c o2 e => by rw [upd_ne (ne_of_none e hb0)]; exact sm1 _ _ e, dlq_old dl1 hd1 ev, hl1, hE, rfl⟩
      · have ha2 : (upd H1 d (.dK (putK kvs (.inl ((n0 : Nat) : Int)) (.ref a)))) a = some (.lst []) := by rw [upd_ne ad]; exact ha1
        refine ⟨.inl ⟨rfl, _, SqL.of ha2⟩, _, rfl, a, [], _, rfl, rfl, ha2, by rw [sizeLine_eq]; decide, _, rfl, rfl, _, rfl, _, _, _, rfl, rfl, ?_⟩
        exact ⟨cs.length - E2, by omega, E2, _, _, rfl, fun c o2 e => by rw [upd_ne (ne_of_none e na0), upd_ne (ne_of_none e h0)]; exact sm1 _ _ e, dlq_new dl' s1 hd en na0 na' ad, hl1, hE, rfl⟩
mutual
/-- data survive what befalls an object -/
theorem dp_ins {K : PySem.W.Frag} {H H' : Hp} {x C dx : Addr} {fs : List (Str × V)} (hx : H x = some (.ins C dx fs)) (k : Keeps x H H') : ∀ {v : V} {d : PyData}, Dp K H v d → Dp K H' v d
  | _, _, .non => .non
  | _, _, .bl b => .bl b
  | _, _, .int i => .int i
  | _, _, .str x => .str x
  | _, _, .lst (a := a) q r => by
    refine .lst ?_ (dpAll_ins hx k r)
    by_cases e : a = x
    · rcases q with (q | ⟨o, q⟩) | q
      · rw [e, hx] at q
        cases q
      · rw [e, hx] at q
        cases q
      · exact .inr q
    · exact k.seq e q
  | _, _, .tup (a := a) q r => by
    refine .tup ?_ (dpAll_ins hx k r)
    by_cases e : a = x
    · rcases q with (q | ⟨o, q⟩) | q
      · rw [e, hx] at q
        cases q
      · rw [e, hx] at q
        cases q
      · exact .inr q
    · exact k.tup e q
theorem dpAll_ins {K : PySem.W.Frag} {H H' : Hp} {x C dx : Addr} {fs : List (Str × V)} (hx : H x = some (.ins C dx fs)) (k : Keeps x H H') : ∀ {vs : List V} {ds : List PyData}, DpAll K H vs ds → DpAll K H' vs ds
  | _, _, .nil => .nil
  | _, _, .cons q r => .cons (dp_ins hx k q) (dpAll_ins hx k r)
end
def scF (t : List Nat) (kn row br st : Addr) (p pl : Nat) (nt bar : Int) : List (Str × V) := [("content", .str (S t)), ("known", .ref kn), ("place", .int (p : Int)), ("row", .ref row), ("plain", .int (pl : Int)), ("brackets", .ref br), ("noted", .int nt), ("bar", .int bar), ("strings", .ref st)]
structure RunD where
  sg : Nat
  len : Nat
  op : Bool
  cl : Bool
inductive It where
  | inl (i : Inl)
  | run (d : RunD)
def runFs (d : RunD) (left : Nat) (e b : Addr) : List (Str × V) := [("sign", .str (S [d.sg])), ("length", .int (d.len : Int)), ("left", .int (left : Int)), ("opens", .bl d.op), ("closes", .bl d.cl), ("ended", .ref e), ("begun", .ref b)]
/-- one of a row, and the addresses that are its own -/
inductive ItA (K : PySem.W.Frag) (CR : Addr) (H : Hp) : V → It → List Addr → Prop
  | inl {v : V} {i : Inl} : Dp K H v i.toD → ItA K CR H v (.inl i) []
  | run {r e b dr : Addr} {d : RunD} : H r = some (.ins CR dr (runFs d d.len e b)) → H e = some (.lst []) → H b = some (.lst []) → ItA K CR H (.ref r) (.run d) [r, e, b]
inductive ItsA (K : PySem.W.Frag) (CR : Addr) (H : Hp) : List V → List It → List Addr → Prop
  | nil : ItsA K CR H [] [] []
  | cons {v : V} {i : It} {l : List Addr} {vs : List V} {is : List It} {ls : List Addr} : ItA K CR H v i l → ItsA K CR H vs is ls → ItsA K CR H (v :: vs) (i :: is) (l ++ ls)
section
variable {K : PySem.W.Frag} {CR : Addr} {H H' : Hp}
theorem ItsA.snoc {v : V} {i : It} {l : List Addr} : ∀ {vs : List V} {is : List It} {ls : List Addr}, ItsA K CR H vs is ls → ItA K CR H v i l → ItsA K CR H (vs ++ [v]) (is ++ [i]) (ls ++ l)
  | _, _, _, .nil, h => by
    have := ItsA.cons h .nil
    rw [List.append_nil] at this
    exact this
  | _, _, _, .cons a b, h => by
    have := ItsA.cons a (b.snoc h)
    rw [← List.append_assoc] at this
    exact this
theorem ItsA.len : ∀ {vs : List V} {is : List It} {ls : List Addr}, ItsA K CR H vs is ls → vs.length = is.length
  | _, _, _, .nil => rfl
  | _, _, _, .cons _ b => by rw [List.length_cons, List.length_cons, b.len]
theorem ItA.keep {v : V} {i : It} {l : List Addr} (hd : ∀ (v : V) (i : Inl), Dp K H v i.toD → Dp K H' v i.toD) (hk : ∀ b ∈ l, ∀ o, H b = some o → H' b = some o) (h : ItA K CR H v i l) : ItA K CR H' v i l := by
  cases h with
  | inl q => exact .inl (hd _ _ q)
  | run a b c => exact .run (hk _ (by simp) _ a) (hk _ (by simp) _ b) (hk _ (by simp) _ c)
theorem ItsA.keep (hd : ∀ (v : V) (i : Inl), Dp K H v i.toD → Dp K H' v i.toD) : ∀ {vs : List V} {is : List It} {ls : List Addr}, (∀ b ∈ ls, ∀ o, H b = some o → H' b = some o) → ItsA K CR H vs is ls → ItsA K CR H' vs is ls
  | _, _, _, _, .nil => .nil
  | _, _, _, hk, .cons a b => .cons (a.keep hd fun x hx => hk x (List.mem_append_left _ hx)) (b.keep hd fun x hx => hk x (List.mem_append_right _ hx))
theorem ItsA.same {vs : List V} {is : List It} {ls : List Addr} (s : Same H H') (h : ItsA K CR H vs is ls) : ItsA K CR H' vs is ls := h.keep (fun _ _ q => dp_same s q) fun _ _ o e => s _ o e
/-- data stay when a list is written -/
theorem dpi_lst {L : Addr} {xs : List V} {o : HO} (h : H L = some (.lst xs)) : ∀ (v : V) (i : Inl), Dp K H v i.toD → Dp K (upd H L o) v i.toD := fun _ i q => dp_keep (L := L) Keeps.at ⟨_, h⟩ (noList_toD i) q
theorem dpi_ins {x C dx : Addr} {fs : List (Str × V)} {o : HO} (h : H x = some (.ins C dx fs)) : ∀ (v : V) (i : Inl), Dp K H v i.toD → Dp K (upd H x o) v i.toD := fun _ _ q => dp_ins h Keeps.at q
end
/-- the strings that are left, lists of places by lengths -/
structure STq (H : Hp) (st : Addr) (t : List Nat) (p : Nat) (as : List Addr) : Prop where
  ex : ∃ kvs : List (Key × V), H st = some (.dK kvs) ∧ (∀ k v, valV kvs k = some v → ∃ (n b : Nat) (a : Addr), k = .inl (n : Int) ∧ v = .ref a ∧ a ∈ as ∧ b ≤ p ∧ H a = some (.lst (intsV ((ofLen n (bqs t 0)).filter (fun q => decide (b ≤ q))).reverse))) ∧
    (∀ n : Nat, valV kvs (.inl (n : Int)) = none → ofLen n (bqs t 0) = []) ∧ (∀ k k' a, valV kvs k = some (.ref a) → valV kvs k' = some (.ref a) → k = k')
  al : ∀ a ∈ as, ∃ o, H a = some o
structure ScanQ (K : PySem.W.Frag) (C : Addr × Addr) (H0 H : Hp) (x row : Addr) (t : List Nat) (p pl q : Nat) (its : List It) : Prop where
  ob : ∃ dx kn br st nt bar, H x = some (.ins C.1 dx (scF t kn row br st p pl nt bar)) ∧ (∃ bs, H br = some (.lst bs)) ∧ ∃ as ls vs, H row = some (.lst vs) ∧ ItsA K C.2 H vs its ls ∧ STq H st t q as ∧ (x :: st :: row :: br :: (as ++ ls)).Nodup ∧ ∀ b ∈ (x :: st :: row :: br :: (as ++ ls)), H0 b = none
  sm : Same H0 H
abbrev ScanAt (K : PySem.W.Frag) (C : Addr × Addr) (H0 H : Hp) (x row : Addr) (t : List Nat) (p pl : Nat) (its : List It) : Prop := ScanQ K C H0 H x row t p pl p its
theorem STq.keep {H H' : Hp} {st : Addr} {t : List Nat} {p p' : Nat} {as : List Addr} (h : STq H st t p as) (hp : p ≤ p') (hs : ∀ o, H st = some o → H' st = some o) (ha : ∀ a ∈ as, ∀ o, H a = some o → H' a = some o) : STq H' st t p' as := by
  obtain ⟨kvs, h1, h2, h3, h4⟩ := h.ex
  refine ⟨⟨kvs, hs _ h1, fun k v e => ?_, h3, h4⟩, fun a m => ⟨_, ha a m _ (h.al a m).choose_spec⟩⟩
  obtain ⟨n, b, a, e1, e2, e3, e4, e5⟩ := h2 k v e
  exact ⟨n, b, a, e1, e2, e3, by omega, ha a e3 _ e5⟩
theorem ItA.al {K : PySem.W.Frag} {CR : Addr} {H : Hp} {v : V} {i : It} {l : List Addr} (h : ItA K CR H v i l) : ∀ b ∈ l, ∃ o, H b = some o := by
  intro b hb
  cases h with
  | inl q => cases hb
  | run a e c =>
    rcases List.mem_cons.mp hb with rfl | hb
    · exact ⟨_, a⟩
    rcases List.mem_cons.mp hb with rfl | hb
    · exact ⟨_, e⟩
    rcases List.mem_cons.mp hb with rfl | hb
    · exact ⟨_, c⟩
    cases hb
theorem ItsA.al {K : PySem.W.Frag} {CR : Addr} {H : Hp} : ∀ {vs : List V} {is : List It} {ls : List Addr}, ItsA K CR H vs is ls → ∀ b ∈ ls, ∃ o, H b = some o
  | _, _, _, .nil => fun b hb => by cases hb
  | _, _, _, .cons a r => fun b hb => by
    rcases List.mem_append.mp hb with hb | hb
    · exact a.al b hb
    · exact r.al b hb
section
variable {K : PySem.W.Frag} {C : Addr × Addr} {H0 H H' : Hp} {x row : Addr} {t : List Nat} {p pl q : Nat} {its : List It}
theorem ScanQ.same (h : ScanQ K C H0 H x row t p pl q its) (s : Same H H') : ScanQ K C H0 H' x row t p pl q its := by
  obtain ⟨⟨dx, kn, br, st, nt, bar, h1, ⟨bs, h2⟩, as, ls, vs, h3, h4, h5, h6, h7⟩, h8⟩ := h
  exact ⟨⟨dx, kn, br, st, nt, bar, s _ _ h1, ⟨bs, s _ _ h2⟩, as, ls, vs, s _ _ h3, h4.same s, h5.keep (Nat.le_refl _) (fun o e => s _ _ e) (fun a _ o e => s _ _ e), h6, h7⟩, h8.trans s⟩
theorem ScanQ.len (h : ScanQ K C H0 H x row t p pl q its) {vs : List V} (e : H row = some (.lst vs)) : vs.length = its.length := by
  obtain ⟨⟨dx, kn, br, st, nt, bar, h1, h2, as, ls, vs', h3, h4, _⟩, _⟩ := h
  rw [h3] at e
  cases e
  exact h4.len
/-- one more in the row, with addresses l of its own that the heap Hb has not; then the places set -/
theorem ScanQ.put {Hb : Hp} (h0 : ScanQ K C H0 Hb x row t p pl q its) (sb : Same Hb H) {v : V} {i : It} {l : List Addr} (hv : ItA K C.2 H v i l) (hn0 : ∀ b ∈ l, Hb b = none) (hd : l.Nodup) {e e' : Nat} (he : q ≤ e) :
    ∃ dx kn br st nt bar vs, H x = some (.ins C.1 dx (scF t kn row br st p pl nt bar)) ∧ H row = some (.lst vs) ∧ x ≠ row ∧ ScanAt K C H0 (upd (upd H row (.lst (vs ++ [v]))) x (.ins C.1 dx (scF t kn row br st e e' nt bar))) x row t e e' (its ++ [i]) := by
  obtain ⟨⟨dx, kn, br, st, nt, bar, h1, ⟨bs, h2⟩, as, ls, vs, h3, h4, h5, h6, h7⟩, h8⟩ := h0
  have hn' : ∀ b ∈ l, b ∉ (x :: st :: row :: br :: (as ++ ls)) := fun b hb hm => by
    have hnb := hn0 b hb
    obtain ⟨kvs, hst, _⟩ := h5.ex
    have no : ∀ o, Hb b ≠ some o := fun o e => by rw [hnb] at e; cases e
    rcases List.mem_cons.mp hm with rfl | hm
    · exact no _ h1
    rcases List.mem_cons.mp hm with rfl | hm
    · exact no _ hst
    rcases List.mem_cons.mp hm with rfl | hm
    · exact no _ h3
    rcases List.mem_cons.mp hm with rfl | hm
    · exact no _ h2
    rcases List.mem_append.mp hm with hm | hm
    · exact no _ (h5.al b hm).choose_spec
    · exact no _ (h4.al b hm).choose_spec
  have hl : ∀ b ∈ l, H0 b = none := fun b hb => by
    have hnb := hn0 b hb
    cases hh : H0 b with
    | none => rfl
    | some o =>
      rw [h8 _ _ hh] at hnb
      cases hnb
  replace h8 := h8.trans sb
  replace h1 := sb _ _ h1
  replace h2 := sb _ _ h2
  replace h3 := sb _ _ h3
  replace h4 := h4.same sb
  replace h5 := h5.keep (Nat.le_refl _) (fun o e => sb _ _ e) (fun a _ o e => sb _ _ e)
  rw [List.nodup_cons, List.nodup_cons, List.nodup_cons, List.nodup_cons] at h6
  obtain ⟨n1, n2, n3, n4, n5⟩ := h6
  have xr : x ≠ row := fun z => n1 (by rw [z]; simp)
  have rx : row ≠ x := fun z => xr z.symm
  have sr : st ≠ row := fun z => n2 (by rw [z]; simp)
  have sx : st ≠ x := fun z => n1 (by rw [← z]; simp)
  have br1 : br ≠ row := fun z => n3 (by rw [← z]; simp)
  have bx : br ≠ x := fun z => n1 (by rw [← z]; simp)
  have au : ∀ a ∈ as ++ ls, a ≠ row ∧ a ≠ x := fun a ha => ⟨fun z => n3 (by rw [← z]; simp only [List.mem_cons]; exact .inr ha), fun z => n1 (by rw [← z]; simp only [List.mem_cons]; exact .inr (.inr (.inr ha)))⟩
  have lu : ∀ a ∈ l, a ≠ row ∧ a ≠ x := fun a ha => ⟨fun z => hn' a ha (by rw [z]; simp), fun z => hn' a ha (by rw [z]; simp)⟩
  have q1 : (upd H row (.lst (vs ++ [v]))) x = some (.ins C.1 dx (scF t kn row br st p pl nt bar)) := by rw [upd_ne xr]; exact h1
  refine ⟨dx, kn, br, st, nt, bar, vs, h1, h3, xr, ⟨dx, kn, br, st, nt, bar, upd_same, ⟨bs, by rw [upd_ne bx, upd_ne br1]; exact h2⟩, as, ls ++ l, vs ++ [v], by rw [upd_ne rx]; exact upd_same, ?_, ?_, ?_, ?_⟩, ?_⟩
  · have k1 := (h4.snoc hv).keep (H' := upd H row (.lst (vs ++ [v]))) (dpi_lst h3) fun b hb o ho => by
      rw [upd_ne]
      · exact ho
      · rcases List.mem_append.mp hb with hb | hb
        · exact (au b (List.mem_append_right _ hb)).1
        · exact (lu b hb).1
    refine k1.keep (dpi_ins q1) fun b hb o ho => ?_
    rw [upd_ne]
    · exact ho
    · rcases List.mem_append.mp hb with hb | hb
      · exact (au b (List.mem_append_right _ hb)).2
      · exact (lu b hb).2
  · refine h5.keep he (fun o ho => ?_) fun a ha o ho => ?_
    · rw [upd_ne sx, upd_ne sr]
      exact ho
    · have := au a (List.mem_append_left _ ha)
      rw [upd_ne this.2, upd_ne this.1]
      exact ho
  · have e1 : x :: st :: row :: br :: (as ++ (ls ++ l)) = (x :: st :: row :: br :: (as ++ ls)) ++ l := by simp
    rw [e1, List.nodup_append]
    refine ⟨?_, hd, ?_⟩
    · rw [List.nodup_cons, List.nodup_cons, List.nodup_cons, List.nodup_cons]
      exact ⟨n1, n2, n3, n4, n5⟩
    · intro a ha b hb z
      exact hn' b hb (by rw [← z]; exact ha)
  · intro b hb
    have e1 : x :: st :: row :: br :: (as ++ (ls ++ l)) = (x :: st :: row :: br :: (as ++ ls)) ++ l := by simp
    rw [e1] at hb
    rcases List.mem_append.mp hb with hb | hb
    · exact h7 b hb
    · exact hl b hb
  · intro b o hb
    have z1 : b ≠ x := fun z => by rw [z, h7 x (by simp)] at hb; cases hb
    have z2 : b ≠ row := fun z => by rw [z, h7 row (by simp)] at hb; cases hb
    rw [upd_ne z1, upd_ne z2]
    exact h8 b o hb
end
/-- what the steps leave alone: the brackets' list, noted, bar, and whatever is no list -/
def Kp (x row : Addr) (H H' : Hp) : Prop :=
  (∀ C dx t kn rw br st p pl nt bar, H x = some (.ins C dx (scF t kn rw br st p pl nt bar)) → (∃ p' pl', H' x = some (.ins C dx (scF t kn rw br st p' pl' nt bar))) ∧ ∀ bs, br ≠ row → H br = some (.lst bs) → H' br = some (.lst bs)) ∧
  ∀ b o, b ≠ x → (∀ xs, o ≠ .lst xs) → H b = some o → H' b = some o
theorem Kp.trans {x row : Addr} {H H1 H2 : Hp} (h : Kp x row H H1) (g : Kp x row H1 H2) : Kp x row H H2 := by
  refine ⟨fun C dx t kn rw br st p pl nt bar e => ?_, fun b o nb no e => g.2 _ _ nb no (h.2 _ _ nb no e)⟩
  obtain ⟨⟨p', pl', e1⟩, l1⟩ := h.1 _ _ _ _ _ _ _ _ _ _ _ e
  obtain ⟨⟨p2, pl2, e2⟩, l2⟩ := g.1 _ _ _ _ _ _ _ _ _ _ _ e1
  exact ⟨⟨p2, pl2, e2⟩, fun bs nr e3 => l2 bs nr (l1 bs nr e3)⟩
theorem Kp.of {x row : Addr} {H H' : Hp} (s : Same H H') : Kp x row H H' := ⟨fun _ _ _ _ _ _ _ p pl _ _ e => ⟨⟨p, pl, s _ _ e⟩, fun _ _ e3 => s _ _ e3⟩, fun _ _ _ _ e => s _ _ e⟩
theorem scF_inj {t t' : List Nat} {kn rw br st kn' rw' br' st' : Addr} {p pl p' pl' : Nat} {nt bar nt' bar' : Int} (h : scF t kn rw br st p pl nt bar = scF t' kn' rw' br' st' p' pl' nt' bar') : t = t' ∧ kn = kn' ∧ rw = rw' ∧ br = br' ∧ st = st' ∧ p = p' ∧ pl = pl' ∧ nt = nt' ∧ bar = bar' := by
  unfold scF at h
  simp only [List.cons.injEq, Prod.mk.injEq, V.str.injEq, V.ref.injEq, V.int.injEq, true_and, and_true] at h
  obtain ⟨h1, h2, h3, h4, h5, h6, h7, h8, h9⟩ := h
  exact ⟨S_inj h1, h2, h4, h6, h9, by omega, by omega, h7, h8⟩
theorem Kp.put {x row C dx kn br st : Addr} {H : Hp} {t : List Nat} {p pl e e' : Nat} {nt bar : Int} {vs ws : List V} (h : H x = some (.ins C dx (scF t kn row br st p pl nt bar))) (hr : H row = some (.lst vs)) : Kp x row H (upd (upd H row (.lst ws)) x (.ins C dx (scF t kn row br st e e' nt bar))) := by
  refine ⟨fun C1 dx1 t1 kn1 rw1 br1 st1 p1 pl1 nt1 bar1 e1 => ?_, fun b o nb no e1 => ?_⟩
  · rw [h] at e1
    injection e1 with e1
    injection e1 with c1 c2 c3
    obtain ⟨rfl, rfl, rfl, rfl, rfl, rfl, rfl, rfl, rfl⟩ := scF_inj c3
    subst c1
    subst c2
    refine ⟨⟨e, e', upd_same⟩, fun bs nr eb => ?_⟩
    rw [upd_ne (fun z => by rw [z, h] at eb; cases eb), upd_ne nr]
    exact eb
  · rw [upd_ne nb, upd_ne (fun z => by rw [z, hr] at e1; exact no _ (Option.some.inj e1).symm)]
    exact e1
theorem Kp.one {x row a C dx kn rw br st : Addr} {H H' : Hp} {t : List Nat} {p pl : Nat} {nt bar : Int} (h : H x = some (.ins C dx (scF t kn rw br st p pl nt bar))) (xa : x ≠ a) (ab : br ≠ a) (ai : ∃ xs, H a = some (.lst xs)) (k : ∀ b o, b ≠ a → H b = some o → H' b = some o) : Kp x row H H' := by
  refine ⟨fun C1 dx1 t1 kn1 rw1 br1 st1 p1 pl1 nt1 bar1 e1 => ?_, fun b o nb no e1 => k _ _ (fun z => by
    obtain ⟨xs, hx⟩ := ai
    rw [z, hx] at e1
    exact no _ (Option.some.inj e1).symm) e1⟩
  refine ⟨⟨p1, pl1, k _ _ xa e1⟩, fun bs nr eb => k _ _ ?_ eb⟩
  rw [h] at e1
  injection e1 with e1
  injection e1 with c1 c2 c3
  obtain ⟨rfl, rfl, rfl, rfl, rfl, rfl, rfl, rfl, rfl⟩ := scF_inj c3
  exact ab
theorem rowD_app : ∀ a b : List Inl, rowD (a ++ b) = rowD a ++ rowD b
  | [], b => rfl
  | x :: a, b => by
    show x.toD :: rowD (a ++ b) = x.toD :: (rowD a ++ rowD b)
    rw [rowD_app a b]
/-- what may be put, up to e -/
structure PutOk (K : PySem.W.Frag) (C : Addr × Addr) (H0 H : Hp) (x row : Addr) (t : List Nat) (p pl q e : Nat) (its : List It) (v : V) (i : It) : Prop where
  ex : (∃ j, i = .inl j ∧ Dp K H v j.toD) ∨ ∃ l Hb, ScanQ K C H0 Hb x row t p pl q its ∧ Same Hb H ∧ ItA K C.2 H v i l ∧ (∀ b ∈ l, Hb b = none) ∧ l.Nodup
  le : q ≤ e
theorem putI {K : PySem.W.Frag} {C : Addr × Addr} {H0 H : Hp} {x row : Addr} {t : List Nat} {p pl q e : Nat} {its : List It} {v : V} {i : Inl} (he : q ≤ e) (h : Dp K H v i.toD) : PutOk K C H0 H x row t p pl q e its v (.inl i) := ⟨.inl ⟨_, rfl, h⟩, he⟩
def sp_Scan__put (K : PySem.W.Frag) (C : Addr × Addr) : Sp := fun vs H Q _ => ∃ (H0 : Hp) (x row : Addr) (t : List Nat) (p pl e : Nat) (its : List It) (v : V) (i : It) (q : Nat), vs = [.ref x, v, .int (e : Int)] ∧ ScanQ K C H0 H x row t p pl q its ∧ PutOk K C H0 H x row t p pl q e its v i ∧ its.length ≤ 100000 ∧ ∀ H', ScanAt K C H0 H' x row t e e (its ++ [i]) → Kp x row H H' → Q .non H'
theorem ok_Scan__put {P : Program} {w : World} {K : PySem.W.Frag} {mg : Str → Option Value} {base : Heap} (T : Txt w K mg) : FnOk P w K mg base CX0 1 T.a_Scan__put T.d_Scan__put ["self", "one", "end"] (sp_Scan__put K (T.c_Scan, T.c_Run)) := by
  refine T.f_Scan__put.ok sc_Scan__put (fun vs H Q E h => ?_) (fun cdv A outer s H vs Q E hr h => ?_)
  · obtain ⟨H0, x, row, t, p, pl, e, its, v, i, qq, rfl, _⟩ := h
    rfl
  · obtain ⟨H0, x, row, t, p, pl, e, its, v, i, qq, rfl, hs, ⟨hx, he⟩, hlen, q⟩ := h
    refine ⟨_, (pss_cons (ps_expr (pe_bm PySem.F.plainAttrs_list PySem.F.slot_list_append PySem.F.type_list_append mt_append (pe_fld (pv 0) rfl) (pa_cons (pv 1) pa_nil)))
        (pss_cons (ps_fld (pv 0) (pv 2) rfl)
        (pss_one (ps_fld (pv 0) (pv 2) rfl)))), ?_⟩
    have lv := fun vs e => hs.len (vs := vs) e
    obtain ⟨l, Hb, hs0, sb, hv, hnb, hd⟩ : ∃ l Hb, ScanQ K (T.c_Scan, T.c_Run) H0 Hb x row t p pl qq its ∧ Same Hb H ∧ ItA K T.c_Run H v i l ∧ (∀ b ∈ l, Hb b = none) ∧ l.Nodup := by
      rcases hx with ⟨j, rfl, hj⟩ | hx
      · exact ⟨[], H, hs, fun _ _ e => e, .inl hj, fun _ h => (by cases h), List.nodup_nil⟩
      · exact hx
    obtain ⟨dx, kn, br, st, nt, bar, vs, h1, h2, hne, fin⟩ := hs0.put sb hv hnb hd (e := e) (e' := e) he
    have kp := Kp.put (e := e) (e' := e) (ws := vs ++ [v]) h1 h2
    have lv2 := lv vs h2
    refine ⟨_, rfl, x, T.c_Scan, dx, _, _, rfl, h1, T.cl_Scan, T.na_Scan_row, rfl, .inl ⟨rfl, _, SqL.of h2⟩, ?_⟩
    refine ⟨_, rfl, row, vs, v, rfl, rfl, h2, by rw [lv2, sizeLine_eq]; omega, ?_⟩
    have h1' : (upd H row (.lst (vs ++ [v]))) x = some (.ins T.c_Scan dx (scF t kn row br st p pl nt bar)) := by rw [upd_ne hne]; exact h1
    refine ⟨_, rfl, _, rfl, x, T.c_Scan, dx, _, rfl, h1', T.cl_Scan, T.na_Scan_place, (by show 9 < 1000; decide), ?_⟩
    refine ⟨_, rfl, _, rfl, x, T.c_Scan, dx, _, rfl, upd_same, T.cl_Scan, T.na_Scan_plain, (by show 9 < 1000; decide), ?_⟩
    rw [upd_upd]
    exact q _ fin kp
theorem dp_text {K : PySem.W.Frag} {H : Hp} {a : Addr} {w : List Nat} (h : H a = some (.tup [.str "text", .str (S w)])) : Dp K H (.ref a) (Inl.text w).toD := .tup (SqT.of h) (.cons (.str _) (.cons (.str _) .nil))
def sp_Scan__put_text (K : PySem.W.Frag) (C : Addr × Addr) : Sp := fun vs H Q _ => ∃ (H0 : Hp) (x row : Addr) (t : List Nat) (p pl : Nat) (ps : List It) (w : List Nat) (qq : Nat), vs = [.ref x, .str (S w)] ∧ qq ≤ p + w.length ∧ ScanQ K C H0 H x row t p pl qq ps ∧ w.length ≤ 100000 ∧ ps.length ≤ 100000 ∧ ∀ H', ScanAt K C H0 H' x row t (p + w.length) (p + w.length) (ps ++ [.inl (.text w)]) → Kp x row H H' → Q .non H'
theorem ok_Scan__put_text {P : Program} {w : World} {K : PySem.W.Frag} {mg : Str → Option Value} {base : Heap} (T : Txt w K mg) : FnOk P w K mg base CX0 2 T.a_Scan__put_text T.d_Scan__put_text ["self", "words"] (sp_Scan__put_text K (T.c_Scan, T.c_Run)) := by
  refine T.f_Scan__put_text.ok sc_Scan__put_text (fun vs H Q E h => ?_) (fun cdv A outer s H vs Q E hr h => ?_)
  · obtain ⟨H0, x, row, t, p, pl, ps, w, qq, rfl, _⟩ := h
    rfl
  · obtain ⟨H0, x, row, t, p, pl, ps, w, qq, rfl, hqq, hs, hw, hn, q⟩ := h
    refine ⟨_, (pss_one (ps_expr (pe_meth (pv 0) T.cl_Scan T.me_Scan__put (ok_Scan__put T) (hr.mono (by decide)) T.b_Scan__put .nil pass0 (pa_cons (pe_tup (pa_cons pe_str (pa_cons (pv 1) pa_nil))) (pa_cons (pe_op op_add (pe_fld (pv 0) rfl) (pe_callB call_len_str (by rfl) T.z_len PySem.boot_len (pa_cons (pv 1) pa_nil))) pa_nil))))), ?_⟩
    obtain ⟨dx, kn, br, st, nt, bar, h1, _⟩ := hs.ob
    refine ⟨_, rfl, x, dx, _, rfl, h1, rfl, ?_⟩
    refine ⟨_, rfl, (by show 2 ≤ sizeLine; decide), fun a na => ?_⟩
    have s1 : Same H (upd H a (.tup [.str "text", .str (S w)])) := same_new na
    have ha : (upd H a (.tup [.str "text", .str (S w)])) a = some (.tup [.str "text", .str (S w)]) := upd_same
    generalize (upd H a (.tup [.str "text", .str (S w)])) = H1 at s1 ha ⊢
    refine ⟨_, rfl, x, T.c_Scan, dx, _, _, rfl, s1 _ _ h1, T.cl_Scan, T.na_Scan_place, rfl, _, rfl, _, rfl, by rw [S_len, sizeLine_eq]; omega, _, _, rfl, rfl, ?_⟩
    refine ⟨H0, x, row, t, p, pl, p + w.length, ps, _, .inl (.text w), qq, ?_, hs.same s1, putI (by omega) (dp_text ha), hn, fun H' hs' k' => q H' hs' ((Kp.of s1).trans k')⟩
    rw [S_len]
    have e : ((p + w.length : Nat) : Int) = (p : Int) + (w.length : Int) := by omega
    rw [e]
    rfl
/-- '&' at p: what is meant, or the sign itself; how far -/
def rfR (l : List Nat) : Inl × Nat := match refR l with
  | some (k, c) => (.text [c], k)
  | none => (.text [38], 1)
def sp_take_reference (K : PySem.W.Frag) (C : Addr × Addr) : Sp := fun vs H Q _ => ∃ (H0 : Hp) (x row : Addr) (t : List Nat) (p pl : Nat) (ps : List It), vs = [.ref x] ∧ ScanAt K C H0 H x row t p pl ps ∧ TP t p ∧ Asc t ∧ ps.length ≤ 99999 ∧ ∀ H', ScanAt K C H0 H' x row t (p + (rfR (t.drop p)).2) (p + (rfR (t.drop p)).2) (ps ++ [.inl (rfR (t.drop p)).1]) → Kp x row H H' → Q .non H'
theorem ok_take_reference {P : Program} {w : World} {K : PySem.W.Frag} {mg : Str → Option Value} {base : Heap} (T : Txt w K mg) : FnOk P w K mg base CX0 4 T.a_take_reference T.d_take_reference ["scan"] (sp_take_reference K (T.c_Scan, T.c_Run)) := by
  refine T.f_take_reference.ok sc_take_reference (fun vs H Q E h => ?_) (fun cdv A outer s H vs Q E hr h => ?_)
  · obtain ⟨H0, x, row, t, p, pl, ps, rfl, _⟩ := h
    rfl
  · obtain ⟨H0, x, row, t, p, pl, ps, rfl, hs, tp, ha, hn, q⟩ := h
    refine ⟨_, (pss_cons (ps_set (i := 1) sc_take_reference.nd rfl (.inl rfl) (pe_call (ok_reference_at T) (hr.mono (by decide)) (by rfl) T.g_reference_at T.f_reference_at.kp T.b_reference_at .nil pass0 (pa_cons (pe_fld (pv 0) rfl) (pa_cons (pe_fld (pv 0) rfl) pa_nil))))
        (pss_one (ps_if (pt_cmpR op_isN (pv 1) pe_non (nomark _)) (pss_one (ps_expr (pe_meth (pv 0) T.cl_Scan T.me_Scan__put_text (ok_Scan__put_text T) (hr.mono (by decide)) T.b_Scan__put_text .nil pass0 (pa_cons pe_str pa_nil)))) (pss_cons (ps_asg (pv 1) (pg_tup (by rfl) (pgs_cons (pg_name (i := 2) sc_take_reference.nd rfl (.inl rfl)) (pgs_cons (pg_name (i := 3) sc_take_reference.nd rfl (.inl rfl)) pgs_nil))))
        (pss_one (ps_expr (pe_meth (pv 0) T.cl_Scan T.me_Scan__put (ok_Scan__put T) (hr.mono (by decide)) T.b_Scan__put .nil pass0 (pa_cons (pe_tup (pa_cons pe_str (pa_cons (pv 3) pa_nil))) (pa_cons (pv 2) pa_nil))))))))), ?_⟩
    obtain ⟨dx, kn, br, st, nt, bar, h1, _⟩ := hs.ob
    refine ⟨_, rfl, x, T.c_Scan, dx, _, _, rfl, h1, T.cl_Scan, T.na_Scan_content, rfl, _, rfl, x, T.c_Scan, dx, _, _, rfl, h1, T.cl_Scan, T.na_Scan_place, rfl, t, p, rfl, tp, ha, fun H1 v s1 hv => ?_⟩
    unfold rfR at q
    cases er : refR (t.drop p) with
    | none =>
      rw [er] at hv q
      have hv' : v = .non := hv
      subst hv'
      refine ⟨_, rfl, rfl, _, rfl, iteT ?_⟩
      refine ⟨_, rfl, x, dx, _, rfl, s1 _ _ h1, rfl, ?_⟩
      refine ⟨H0, x, row, t, p, pl, ps, [38], p, by rw [show ("&" : Str) = S [38] by decide +kernel]; rfl, by omega, hs.same s1, by decide, by omega, fun H' hs' k' => ?_⟩
      exact q H' hs' ((Kp.of s1).trans k')
    | some kc =>
      obtain ⟨k, c⟩ := kc
      rw [er] at hv q
      obtain ⟨r, rfl, hr1⟩ := hv
      refine ⟨_, rfl, rfl, _, rfl, iteF ?_⟩
      refine ⟨_, rfl, r, _, rfl, SqT.of hr1, rfl, _, _, rfl, _, _, rfl, rfl, ?_⟩
      refine ⟨_, rfl, x, dx, _, rfl, s1 _ _ h1, rfl, ?_⟩
      refine ⟨_, rfl, (by show 2 ≤ sizeLine; decide), fun a na => ⟨_, rfl, ?_⟩⟩
      have s2 : Same H1 (upd H1 a (.tup [.str "text", .str (S [c])])) := same_new na
      refine ⟨H0, x, row, t, p, pl, p + k, ps, _, .inl (.text [c]), p, rfl, (hs.same s1).same s2, putI (by omega) (dp_text upd_same), by omega, fun H' hs' k' => ?_⟩
      exact q H' hs' ((Kp.of (s1.trans s2)).trans k')
theorem pos_up {t ws : List Nat} {p q : Nat} (h : p ≤ q) (hq : q ≤ t.length) : p ≤ pos t (ba ws (t.drop q)) := by
  have h1 := dw_len (fun c => ws.contains c) (t.drop q)
  rw [List.length_drop] at h1
  have h2 : (ba ws (t.drop q)).length ≤ t.length - q := h1
  unfold pos
  omega
def WhL : List Nat := [32, 9]
theorem lit_W : (" \t" : Str) = S WhL := by decide +kernel
theorem dp_soft {K : PySem.W.Frag} {H : Hp} {a : Addr} (h : H a = some (.tup [.str "soft"])) : Dp K H (.ref a) Inl.soft.toD := .tup (SqT.of h) (.cons (.str _) .nil)
theorem dp_hard {K : PySem.W.Frag} {H : Hp} {a : Addr} (h : H a = some (.tup [.str "hard"])) : Dp K H (.ref a) Inl.hard.toD := .tup (SqT.of h) (.cons (.str _) .nil)
/-- a backslash at p: what is put, how far -/
def bsR (t : List Nat) (p : Nat) : Inl × Nat := if escR (t.drop p) = true then (.text [(t.drop (p + 1)).headD 0], p + 2) else if ([10] : List Nat).isPrefixOf (t.drop (p + 1)) = true then (.hard, pos t (ba WhL (t.drop (p + 2)))) else (.text [92], p + 1)
def sp_take_backslash (K : PySem.W.Frag) (C : Addr × Addr) : Sp := fun vs H Q _ => ∃ (H0 : Hp) (x row : Addr) (t : List Nat) (p pl : Nat) (ps : List It), vs = [.ref x] ∧ ScanAt K C H0 H x row t p pl ps ∧ p < t.length ∧ t.length ≤ 100000 ∧ ps.length ≤ 99999 ∧ ∀ H', ScanAt K C H0 H' x row t (bsR t p).2 (bsR t p).2 (ps ++ [.inl (bsR t p).1]) → Kp x row H H' → Q .non H'
theorem esc_len {t : List Nat} {p : Nat} (h : escR (t.drop p) = true) : ∃ c, t[p + 1]? = some c ∧ (t.drop (p + 1)).headD 0 = c := by
  cases hd : t.drop p with
  | nil => rw [hd] at h; cases h
  | cons a r => cases r with
    | nil => rw [hd] at h; cases h
    | cons c r =>
      have h1 : t.drop (p + 1) = c :: r := by rw [← List.drop_drop, hd]; rfl
      refine ⟨c, ?_, by rw [h1]; rfl⟩
      have := congrArg (fun l => l[0]?) h1
      simpa using this
theorem ok_take_backslash {P : Program} {w : World} {K : PySem.W.Frag} {mg : Str → Option Value} {base : Heap} (T : Txt w K mg) : FnOk P w K mg base CX0 3 T.a_take_backslash T.d_take_backslash ["scan"] (sp_take_backslash K (T.c_Scan, T.c_Run)) := by
  refine T.f_take_backslash.ok sc_take_backslash (fun vs H Q E h => ?_) (fun cdv A outer s H vs Q E hr h => ?_)
  · obtain ⟨H0, x, row, t, p, pl, ps, rfl, _⟩ := h
    rfl
  · obtain ⟨H0, x, row, t, p, pl, ps, rfl, hs, hp, ht, hn, q⟩ := h
    refine ⟨_, (pss_cons (ps_par (i := 1) (j := 2) (by rfl) sc_take_backslash.nd rfl rfl (by decide) rfl rfl (pa_cons (pe_fld (pv 0) rfl) (pa_cons (pe_fld (pv 0) rfl) pa_nil)) (by rfl))
        (pss_one (ps_if (pt_val (pe_call (ok_is_escape T) (hr.mono (by decide)) (by rfl) T.g_is_escape T.f_is_escape.kp T.b_is_escape .nil pass0 (pa_cons (pv 1) (pa_cons (pv 2) pa_nil)))) (pss_one (ps_expr (pe_meth (pv 0) T.cl_Scan T.me_Scan__put (ok_Scan__put T) (hr.mono (by decide)) T.b_Scan__put .nil pass0 (pa_cons (pe_tup (pa_cons pe_str (pa_cons (pe_ix ix_str (pv 1) (pe_op op_add (pv 2) pe_int) (fun _ _ => rfl)) pa_nil))) (pa_cons (pe_op op_add (pv 2) pe_int) pa_nil))))) (pss_one (ps_if (pt_val (pe_bm PySem.F.plainAttrs_str PySem.F.slot_str_startswith PySem.F.type_str_startswith mt_startswith3 (pv 1) (pa_cons pe_str (pa_cons (pe_op op_add (pv 2) pe_int) pa_nil)))) (pss_one (ps_expr (pe_meth (pv 0) T.cl_Scan T.me_Scan__put (ok_Scan__put T) (hr.mono (by decide)) T.b_Scan__put .nil pass0 (pa_cons (pe_tup (pa_cons pe_str pa_nil)) (pa_cons (pe_call (ok_behind_all T) (hr.mono (by decide)) (by rfl) T.g_behind_all T.f_behind_all.kp T.b_behind_all .nil pass0 (pa_cons (pe_glob (v := .str " \t") rfl T.g_WHITE ⟨_, rfl⟩) (pa_cons (pv 1) (pa_cons (pe_op op_add (pv 2) pe_int) pa_nil)))) pa_nil))))) (pss_one (ps_expr (pe_meth (pv 0) T.cl_Scan T.me_Scan__put_text (ok_Scan__put_text T) (hr.mono (by decide)) T.b_Scan__put_text .nil pass0 (pa_cons pe_str pa_nil))))))))), ?_⟩
    obtain ⟨dx, kn, br, st, nt, bar, h1, _⟩ := hs.ob
    have tp : TP t p := ⟨by omega, ht⟩
    refine ⟨_, rfl, x, T.c_Scan, dx, _, _, rfl, h1, T.cl_Scan, T.na_Scan_content, rfl, _, rfl, x, T.c_Scan, dx, _, _, rfl, h1, T.cl_Scan, T.na_Scan_place, rfl, _, _, rfl, ?_⟩
    refine ⟨_, rfl, _, rfl, t, p, rfl, tp, _, rfl, ?_⟩
    unfold bsR at q
    refine ite2 (fun he => ?_) (fun he => ?_)
    · rw [if_pos he] at q
      obtain ⟨c, hc, hc2⟩ := esc_len he
      rw [hc2] at q
      have h2 := (List.getElem?_eq_some_iff.mp hc).1
      refine ⟨_, rfl, x, dx, _, rfl, h1, rfl, ?_⟩
      refine ⟨_, rfl, _, rfl, _, _, rfl, rfl, _, _, c, rfl, rfl, tp.line, atI_nat (j := p + 1) (by rw [S_tl]; exact hc), ?_⟩
      refine ⟨(by show 2 ≤ sizeLine; decide), fun a na => ⟨_, rfl, _, _, rfl, rfl, ?_⟩⟩
      have s1 : Same H (upd H a (.tup [.str "text", .str (S [c])])) := same_new na
      exact ⟨H0, x, row, t, p, pl, p + 2, ps, _, .inl (.text [c]), p, rfl, hs.same s1, putI (by omega) (dp_text upd_same), by omega, fun H' hs' k' => q H' hs' ((Kp.of s1).trans k')⟩
    · rw [if_neg he] at q
      refine ⟨_, rfl, rfl, _, rfl, _, _, rfl, rfl, _, _, _, rfl, rfl, _, rfl, ?_⟩
      have e1 : Txt.startswith3 (S t) ("\n" : Str) ((p : Int) + 1) = ([10] : List Nat).isPrefixOf (t.drop (p + 1)) := by
        rw [show ("\n" : Str) = S [10] by decide +kernel, show ((p : Int) + 1) = ((p + 1 : Nat) : Int) by omega, starts3 t [10] (by simp)]
      rw [e1]
      refine ite2 (fun hl => ?_) (fun hl => ?_)
      · rw [if_pos hl] at q
        have h2 := pre1 hl
        refine ⟨_, rfl, x, dx, _, rfl, h1, rfl, ?_⟩
        refine ⟨(by show 1 ≤ sizeLine; decide), fun a na => ⟨_, rfl, _, rfl, _, _, rfl, rfl, ?_⟩⟩
        have s1 : Same H (upd H a (.tup [.str "hard"])) := same_new na
        refine ⟨WhL, t, p + 2, by rw [lit_W]; rfl, ⟨by omega, ht⟩, ?_⟩
        exact ⟨H0, x, row, t, p, pl, _, ps, _, .inl .hard, p, rfl, hs.same s1, putI (pos_up (by omega) (by omega)) (dp_hard upd_same), by omega, fun H' hs' k' => q H' hs' ((Kp.of s1).trans k')⟩
      · rw [if_neg hl] at q
        refine ⟨_, rfl, x, dx, _, rfl, h1, rfl, ?_⟩
        exact ⟨H0, x, row, t, p, pl, ps, [92], p, by rw [show ("\\" : Str) = S [92] by decide +kernel]; rfl, by omega, hs, by decide, by omega, fun H' hs' k' => q H' hs' k'⟩
def hardB (t : List Nat) (pl p : Nat) : Bool := decide ((t.drop (max pl (p - 2))).take (p - max pl (p - 2)) = [32, 32])
/-- a line feed at p -/
def lfR (t : List Nat) (pl p : Nat) : Inl × Nat := (if hardB t pl p = true then .hard else .soft, pos t (ba WhL (t.drop (p + 1))))
def sp_take_line_feed (K : PySem.W.Frag) (C : Addr × Addr) : Sp := fun vs H Q _ => ∃ (H0 : Hp) (x row : Addr) (t : List Nat) (p pl : Nat) (ps : List It), vs = [.ref x] ∧ ScanAt K C H0 H x row t p pl ps ∧ p < t.length ∧ pl ≤ p ∧ t.length ≤ 100000 ∧ ps.length ≤ 99999 ∧ ∀ H', ScanAt K C H0 H' x row t (lfR t pl p).2 (lfR t pl p).2 (ps ++ [.inl (lfR t pl p).1]) → Kp x row H H' → Q .non H'
theorem ok_take_line_feed {P : Program} {w : World} {K : PySem.W.Frag} {mg : Str → Option Value} {base : Heap} (T : Txt w K mg) : FnOk P w K mg base CX0 2 T.a_take_line_feed T.d_take_line_feed ["scan"] (sp_take_line_feed K (T.c_Scan, T.c_Run)) := by
  refine T.f_take_line_feed.ok sc_take_line_feed (fun vs H Q E h => ?_) (fun cdv A outer s H vs Q E hr h => ?_)
  · obtain ⟨H0, x, row, t, p, pl, ps, rfl, _⟩ := h
    rfl
  · obtain ⟨H0, x, row, t, p, pl, ps, rfl, hs, hp, hpl, ht, hn, q⟩ := h
    refine ⟨_, (pss_cons (ps_par (i := 1) (j := 2) (by rfl) sc_take_line_feed.nd rfl rfl (by decide) rfl rfl (pa_cons (pe_fld (pv 0) rfl) (pa_cons (pe_fld (pv 0) rfl) pa_nil)) (by rfl))
        (pss_cons (ps_set (i := 3) sc_take_line_feed.nd rfl (.inl rfl) pe_str)
        (pss_cons (ps_if (pt_cmpR op_eq (pe_slice sl_str (pv 1) (po_some (pe_callB (call_max2 rfl) (by rfl) T.z_max (by decide +kernel) (pa_cons (pe_fld (pv 0) rfl) (pa_cons (pe_op op_sub (pv 2) pe_int) pa_nil)))) (po_some (pv 2))) pe_str (nomark _)) (pss_one (ps_set (i := 3) sc_take_line_feed.nd rfl (.inl rfl) pe_str)) pss_nil)
        (pss_one (ps_expr (pe_meth (pv 0) T.cl_Scan T.me_Scan__put (ok_Scan__put T) (hr.mono (by decide)) T.b_Scan__put .nil pass0 (pa_cons (pe_tup (pa_cons (pv 3) pa_nil)) (pa_cons (pe_call (ok_behind_all T) (hr.mono (by decide)) (by rfl) T.g_behind_all T.f_behind_all.kp T.b_behind_all .nil pass0 (pa_cons (pe_glob (v := .str " \t") rfl T.g_WHITE ⟨_, rfl⟩) (pa_cons (pv 1) (pa_cons (pe_op op_add (pv 2) pe_int) pa_nil)))) pa_nil)))))))), ?_⟩
    obtain ⟨dx, kn, br, st, nt, bar, h1, _⟩ := hs.ob
    have tp : TP t p := ⟨by omega, ht⟩
    refine ⟨_, rfl, x, T.c_Scan, dx, _, _, rfl, h1, T.cl_Scan, T.na_Scan_content, rfl, _, rfl, x, T.c_Scan, dx, _, _, rfl, h1, T.cl_Scan, T.na_Scan_place, rfl, _, _, rfl, ?_⟩
    refine ⟨_, rfl, _, rfl, x, T.c_Scan, dx, _, _, rfl, h1, T.cl_Scan, T.na_Scan_plain, rfl, _, rfl, _, _, rfl, rfl, _, _, rfl, ?_⟩
    have em : (if (p : Int) - 2 > (pl : Int) then (p : Int) - 2 else (pl : Int)) = ((max pl (p - 2) : Nat) : Int) := by
      split <;> omega
    rw [em]
    refine ⟨_, rfl, _, rfl, _, rfl, S t, rfl, tp.line, ?_⟩
    rw [S_cut2 t _ _ (by omega : max pl (p - 2) ≤ p)]
    have eh : decide (V.str (S ((t.drop (max pl (p - 2))).take (p - max pl (p - 2)))) = V.str ("  " : Str)) = hardB t pl p := by
      unfold hardB
      rw [show ("  " : Str) = S [32, 32] by decide +kernel]
      exact decide_eq_decide.mpr ⟨fun e => S_inj (V.str.inj e), fun e => by rw [e]⟩
    refine ⟨rfl, _, rfl, ?_⟩
    rw [eh]
    unfold lfR at q
    refine ite2 (fun hb => ?_) (fun hb => ?_)
    · rw [if_pos hb] at q
      refine ⟨_, rfl, x, dx, _, rfl, h1, rfl, ?_⟩
      refine ⟨_, rfl, (by show 1 ≤ sizeLine; decide), fun a na => ⟨_, rfl, _, rfl, _, _, rfl, rfl, ?_⟩⟩
      have s1 : Same H (upd H a (.tup [.str "hard"])) := same_new na
      refine ⟨WhL, t, p + 1, by rw [lit_W]; rfl, ⟨by omega, ht⟩, ?_⟩
      exact ⟨H0, x, row, t, p, pl, _, ps, _, .inl .hard, p, rfl, hs.same s1, putI (pos_up (by omega) (by omega)) (dp_hard upd_same), by omega, fun H' hs' k' => q H' hs' ((Kp.of s1).trans k')⟩
    · rw [if_neg hb] at q
      refine ⟨_, rfl, x, dx, _, rfl, h1, rfl, ?_⟩
      refine ⟨_, rfl, (by show 1 ≤ sizeLine; decide), fun a na => ⟨_, rfl, _, rfl, _, _, rfl, rfl, ?_⟩⟩
      have s1 : Same H (upd H a (.tup [.str "soft"])) := same_new na
      refine ⟨WhL, t, p + 1, by rw [lit_W]; rfl, ⟨by omega, ht⟩, ?_⟩
      exact ⟨H0, x, row, t, p, pl, _, ps, _, .inl .soft, p, rfl, hs.same s1, putI (pos_up (by omega) (by omega)) (dp_soft upd_same), by omega, fun H' hs' k' => q H' hs' ((Kp.of s1).trans k')⟩
def StepL : List Nat := [92, 96, 60, 38, 10, 42, 95, 91, 33, 93]
def StepK : List Str := ["\\", "`", "<", "&", "\n", "*", "_", "[", "!", "]"]
theorem stepK : StepK = StepL.map fun c => S [c] := by decide +kernel
theorem look_some (z : Str) : ∀ (ps : List (Str × V)), (ps.lookup z).isSome = (ps.map (·.1)).contains z
  | [] => rfl
  | (k, v) :: ps => by
    rw [List.lookup_cons, List.map_cons, List.contains_cons]
    cases h : z == k with
    | true => rfl
    | false => exact look_some z ps
theorem step_in {ps : List (Str × V)} (e : ps.map (·.1) = StepK) (c : Nat) : (ps.lookup (S [c])).isSome = StepL.contains c := by
  rw [look_some, e, stepK]
  have h : ∀ l : List Nat, (l.map fun c => S [c]).contains (S [c]) = l.contains c := fun l => by
    induction l with
    | nil => rfl
    | cons a l ih =>
      rw [List.map_cons, List.contains_cons, List.contains_cons, ih]
      congr 1
      by_cases h : c = a
      · subst h
        rw [beq_self_eq_true, beq_self_eq_true]
      · rw [beq_eq_false_iff_ne.mpr h, beq_eq_false_iff_ne.mpr fun e => h (List.cons.inj (S_inj e)).1]
  exact h StepL
def nsL (l : List Nat) : List Nat := l.takeWhile fun c => !StepL.contains c
def plE (t : List Nat) (p : Nat) : Nat := p + 1 + (nsL (t.drop (p + 1))).length
def rstW (w : List Nat) : List Nat := (Txt.rstripChars (S w) (S WhL)).cps.toList
/-- plain signs from p on -/
def plW (t : List Nat) (p : Nat) : List Nat := if ([10] : List Nat).isPrefixOf (t.drop (plE t p)) = true then rstW ((t.drop p).take (plE t p - p)) else (t.drop p).take (plE t p - p)
theorem plE_le {t : List Nat} {p : Nat} (h : p < t.length) : plE t p ≤ t.length ∧ p < plE t p := by
  unfold plE nsL
  have h1 : ((t.drop (p + 1)).takeWhile fun c => !StepL.contains c).length ≤ (t.drop (p + 1)).length := by
    have e := List.takeWhile_append_dropWhile (p := fun c => !StepL.contains c) (l := t.drop (p + 1))
    have := congrArg List.length e
    rw [List.length_append] at this
    omega
  rw [List.length_drop] at h1
  omega
theorem tw_at {P : Nat → Bool} : ∀ {l : List Nat} {i : Nat}, i < (l.takeWhile P).length → ∃ c, l[i]? = some c ∧ P c = true
  | [], _, h => absurd h (Nat.not_lt_zero _)
  | a :: l, i, h => by
    rw [List.takeWhile_cons] at h
    by_cases e : P a = true
    · rw [if_pos e] at h
      cases i with
      | zero => exact ⟨a, rfl, e⟩
      | succ i => exact tw_at (l := l) (i := i) (by rw [List.length_cons] at h; omega)
    · rw [if_neg e] at h
      exact absurd h (Nat.not_lt_zero _)
theorem tw_end {P : Nat → Bool} : ∀ {l : List Nat}, (l.takeWhile P).length < l.length → ∃ c, l[(l.takeWhile P).length]? = some c ∧ P c = false
  | [], h => absurd h (Nat.not_lt_zero _)
  | a :: l, h => by
    by_cases e : P a = true
    · rw [List.takeWhile_cons, if_pos e] at h ⊢
      exact tw_end (l := l) (by rw [List.length_cons, List.length_cons] at h; omega)
    · rw [List.takeWhile_cons, if_neg e]
      exact ⟨a, rfl, by simpa using e⟩
theorem ns_at {t : List Nat} {p k : Nat} (h1 : p < k) (h2 : k < plE t p) : ∃ c, t[k]? = some c ∧ StepL.contains c = false := by
  unfold plE nsL at h2
  obtain ⟨c, e, hc⟩ := tw_at (i := k - (p + 1)) (by omega : k - (p + 1) < ((t.drop (p + 1)).takeWhile fun c => !StepL.contains c).length)
  rw [List.getElem?_drop] at e
  rw [show p + 1 + (k - (p + 1)) = k by omega] at e
  exact ⟨c, e, by simpa using hc⟩
theorem ns_end {t : List Nat} {p : Nat} (h : plE t p < t.length) : ∃ c, t[plE t p]? = some c ∧ StepL.contains c = true := by
  have h' := h
  unfold plE nsL at h'
  obtain ⟨c, e, hc⟩ := tw_end (l := t.drop (p + 1)) (P := fun c => !StepL.contains c) (by rw [List.length_drop]; omega)
  rw [List.getElem?_drop] at e
  exact ⟨c, e, by simpa using hc⟩
def sp_take_plain (K : PySem.W.Frag) (C : Addr × Addr) : Sp := fun vs H Q _ => ∃ (H0 : Hp) (x row : Addr) (t : List Nat) (p pl : Nat) (ps : List It), vs = [.ref x] ∧ ScanAt K C H0 H x row t p pl ps ∧ p < t.length ∧ t.length ≤ 100000 ∧ ps.length ≤ 99999 ∧ ∀ H', ScanAt K C H0 H' x row t (plE t p) pl (ps ++ [.inl (.text (plW t p))]) → Kp x row H H' → Q .non H'
theorem ok_take_plain {P : Program} {w : World} {K : PySem.W.Frag} {mg : Str → Option Value} {base : Heap} (T : Txt w K mg) : FnOk P w K mg base CX0 1 T.a_take_plain T.d_take_plain ["scan"] (sp_take_plain K (T.c_Scan, T.c_Run)) := by
  refine T.f_take_plain.ok sc_take_plain (fun vs H Q E h => ?_) (fun cdv A outer s H vs Q E hr h => ?_)
  · obtain ⟨H0, x, row, t, p, pl, ps, rfl, _⟩ := h
    rfl
  · obtain ⟨H0, x, row, t, p, pl, ps, rfl, hs, hp, ht, hn, q⟩ := h
    refine ⟨_, (pss_cons (ps_set (i := 1) sc_take_plain.nd rfl (.inl rfl) (pe_fld (pv 0) rfl))
        (pss_cons (ps_set (i := 2) sc_take_plain.nd rfl (.inl rfl) (pe_op op_add (pe_fld (pv 0) rfl) pe_int))
        (pss_cons (ps_while PassesOwn.never (PW.pt (pw_and (pt_cmpR op_lt (pv 2) (pe_callB call_len_str (by rfl) T.z_len PySem.boot_len (pa_cons (pv 1) pa_nil)) (nomark _)) (pw_and1 (pt_cmpR (op_notIn_ks T.k_STEPS) (pe_ix ix_str (pv 1) (pv 2) (fun _ _ => rfl)) (pe_glob (v := .ref T.a_STEPS) rfl T.g_STEPS rfl) (by rfl))))) (pss_one (ps_aug (i := 2) sc_take_plain.nd rfl (.inl rfl) pe_int ip_add)))
        (pss_cons (ps_set (i := 3) sc_take_plain.nd rfl (.inl rfl) (pe_slice sl_str (pv 1) (po_some (pe_fld (pv 0) rfl)) (po_some (pv 2))))
        (pss_cons (ps_if (pt_val (pe_bm PySem.F.plainAttrs_str PySem.F.slot_str_startswith PySem.F.type_str_startswith mt_startswith3 (pv 1) (pa_cons pe_str (pa_cons (pv 2) pa_nil)))) (pss_one (ps_set (i := 3) sc_take_plain.nd rfl (.inl rfl) (pe_bm PySem.F.plainAttrs_str PySem.F.slot_str_rstrip PySem.F.type_str_rstrip mt_rstripChars (pv 3) (pa_cons (pe_glob (v := .str " \t") rfl T.g_WHITE ⟨_, rfl⟩) pa_nil)))) pss_nil)
        (pss_cons (ps_expr (pe_bm PySem.F.plainAttrs_list PySem.F.slot_list_append PySem.F.type_list_append mt_append (pe_fld (pv 0) rfl) (pa_cons (pe_tup (pa_cons pe_str (pa_cons (pv 3) pa_nil))) pa_nil)))
        (pss_one (ps_fld (pv 0) (pv 2) rfl)))))))), ?_⟩
    have hl := fun vs e => hs.len (vs := vs) e
    obtain ⟨dx, kn, br, st, nt, bar, h1, _, as0, ls0, vs, h2, _⟩ := hs.ob
    have tp : TP t p := ⟨by omega, ht⟩
    have hE := plE_le hp
    refine ⟨_, rfl, x, T.c_Scan, dx, _, _, rfl, h1, T.cl_Scan, T.na_Scan_content, rfl, _, rfl, x, T.c_Scan, dx, _, _, rfl, h1, T.cl_Scan, T.na_Scan_place, rfl, _, _, rfl, rfl, ?_⟩
    refine ⟨fun m σ H' => H' = H ∧ ∃ k : Nat, σ = [some (.ref x), some (.str (S t)), some (.int (k : Int)), none] ∧ p < k ∧ k ≤ plE t p ∧ m = plE t p - k, ⟨plE t p - (p + 1), rfl, p + 1, rfl, by omega, by omega, rfl⟩, ?_⟩
    rintro m σ H' ⟨rfl, k, rfl, hk1, hk2, rfl⟩
    refine ⟨_, rfl, _, rfl, _, rfl, tp.line, _, _, rfl, rfl, _, rfl, ?_⟩
    have fin : ∀ (wt : List Nat) (a : Addr), H' a = none → wt = plW t p → ∃ (l : Addr) (xs : List V) (y : V), V.ref row = .ref l ∧ [V.ref a] = [y] ∧ (upd H' a (.tup [.str "text", .str (S wt)])) l = some (.lst xs) ∧ xs.length < sizeLine ∧ (∃ (b C' dx' : Addr) (fs : List (Str × V)), V.ref x = .ref b ∧ (upd (upd H' a (.tup [.str "text", .str (S wt)])) l (.lst (xs ++ [y]))) b = some (.ins C' dx' fs) ∧ Cls K C' ∧ NoAttr K C' "place" ∧ fs.length < 1000 ∧ Q .non (upd (upd (upd H' a (.tup [.str "text", .str (S wt)])) l (.lst (xs ++ [y]))) b (.ins C' dx' (putF "place" (.int ((plE t p : Nat) : Int)) fs)))) := fun wt a na ew => by
      have s1 : Same H' (upd H' a (.tup [.str "text", .str (S wt)])) := same_new na
      have da : Dp K (upd H' a (.tup [.str "text", .str (S wt)])) (.ref a) (Inl.text wt).toD := dp_text upd_same
      have hs1 := hs.same s1
      generalize (upd H' a (.tup [.str "text", .str (S wt)])) = H1 at s1 da hs1 ⊢
      have hl1 := fun vs e => hs1.len (vs := vs) e
      obtain ⟨dx1, kn1, br1, st1, nt1, bar1, vs1, g1, g2, hne, f⟩ := hs1.put (fun _ _ e => e) (.inl da) (fun _ h => by cases h) List.nodup_nil (e := plE t p) (e' := pl) (by omega)
      rw [ew] at f
      refine ⟨row, vs1, .ref a, rfl, rfl, g2, by rw [hl1 vs1 g2, sizeLine_eq]; omega, x, T.c_Scan, dx1, _, rfl, by rw [upd_ne hne]; exact g1, T.cl_Scan, T.na_Scan_place, (by show 9 < 1000; decide), ?_⟩
      exact q _ f ((Kp.of s1).trans (Kp.put g1 g2))
    by_cases hlt : k < plE t p
    · obtain ⟨c, hc, hn2⟩ := ns_at hk1 hlt
      have h2t := (List.getElem?_eq_some_iff.mp hc).1
      refine ifT (decide_eq_true (by rw [S_len]; omega)) ?_
      refine ⟨_, rfl, _, rfl, _, _, c, rfl, rfl, tp.line, atI_nat (by rw [S_tl]; exact hc), S [c], rfl, rfl, _, rfl, ?_⟩
      rw [step_in (c := c) (by rfl), hn2]
      refine iteT ⟨fun σ' H2 => H2 = H' ∧ σ' = [some (.ref x), some (.str (S t)), some (.int ((k + 1 : Nat) : Int)), none], ?_, ?_⟩
      · rintro σ' H2 ⟨rfl, rfl⟩
        exact ⟨plE t p - (k + 1), by omega, rfl, k + 1, rfl, by omega, by omega, rfl⟩
      · exact ⟨_, rfl, _, _, rfl, rfl, rfl, rfl⟩
    · have ek : k = plE t p := by omega
      subst ek
      by_cases hlen : plE t p < t.length
      · obtain ⟨c, hc, hc2⟩ := ns_end hlen
        refine ifT (decide_eq_true (by rw [S_len]; omega)) ?_
        refine ⟨_, rfl, _, rfl, _, _, c, rfl, rfl, tp.line, atI_nat (by rw [S_tl]; exact hc), S [c], rfl, rfl, _, rfl, ?_⟩
        rw [step_in (c := c) (by rfl), hc2]
        refine iteF ?_
        refine ⟨_, rfl, _, rfl, x, T.c_Scan, dx, _, _, rfl, h1, T.cl_Scan, T.na_Scan_place, rfl, _, rfl, _, rfl, _, rfl, S t, rfl, tp.line, ?_⟩
        rw [S_cut2 t p _ (by omega : p ≤ plE t p)]
        refine ⟨_, rfl, rfl, _, rfl, _, _, _, rfl, rfl, _, rfl, ?_⟩
        rw [show ("\n" : Str) = S [10] by decide +kernel, starts3 t [10] (by simp)]
        refine ite2 (fun hb => ?_) (fun hb => ?_)
        · refine ⟨_, rfl, rfl, _, _, rfl, rfl, by rw [S_len, sizeLine_eq, List.length_take]; omega, ?_⟩
          rw [lit_W, S_of (Txt.rstripChars _ _)]
          refine ⟨_, rfl, x, T.c_Scan, dx, _, _, rfl, h1, T.cl_Scan, T.na_Scan_row, rfl, .inl ⟨rfl, _, SqL.of h2⟩, _, rfl, (by show 2 ≤ sizeLine; decide), fun a na => ?_⟩
          obtain ⟨l, xs, y, e1, e2, g1, g2, b, C', dx', fs, e3, g3, g4, g5, g6, g7⟩ := fin _ a na (by unfold plW; rw [if_pos hb]; try exact rfl)
          exact ⟨l, xs, y, e1, e2, g1, g2, _, rfl, _, rfl, b, C', dx', fs, e3, g3, g4, g5, g6, g7⟩
        · refine ⟨_, rfl, x, T.c_Scan, dx, _, _, rfl, h1, T.cl_Scan, T.na_Scan_row, rfl, .inl ⟨rfl, _, SqL.of h2⟩, _, rfl, (by show 2 ≤ sizeLine; decide), fun a na => ?_⟩
          obtain ⟨l, xs, y, e1, e2, g1, g2, b, C', dx', fs, e3, g3, g4, g5, g6, g7⟩ := fin _ a na (by unfold plW; rw [if_neg hb])
          exact ⟨l, xs, y, e1, e2, g1, g2, _, rfl, _, rfl, b, C', dx', fs, e3, g3, g4, g5, g6, g7⟩
      · refine ifF (decide_eq_false (by rw [S_len]; omega)) (iteF ?_)
        refine ⟨_, rfl, _, rfl, x, T.c_Scan, dx, _, _, rfl, h1, T.cl_Scan, T.na_Scan_place, rfl, _, rfl, _, rfl, _, rfl, S t, rfl, tp.line, ?_⟩
        rw [S_cut2 t p _ (by omega : p ≤ plE t p)]
        refine ⟨_, rfl, rfl, _, rfl, _, _, _, rfl, rfl, _, rfl, ?_⟩
        rw [show ("\n" : Str) = S [10] by decide +kernel, starts3 t [10] (by simp)]
        refine ite2 (fun hb => ?_) (fun hb => ?_)
        · refine ⟨_, rfl, rfl, _, _, rfl, rfl, by rw [S_len, sizeLine_eq, List.length_take]; omega, ?_⟩
          rw [lit_W, S_of (Txt.rstripChars _ _)]
          refine ⟨_, rfl, x, T.c_Scan, dx, _, _, rfl, h1, T.cl_Scan, T.na_Scan_row, rfl, .inl ⟨rfl, _, SqL.of h2⟩, _, rfl, (by show 2 ≤ sizeLine; decide), fun a na => ?_⟩
          obtain ⟨l, xs, y, e1, e2, g1, g2, b, C', dx', fs, e3, g3, g4, g5, g6, g7⟩ := fin _ a na (by unfold plW; rw [if_pos hb]; try exact rfl)
          exact ⟨l, xs, y, e1, e2, g1, g2, _, rfl, _, rfl, b, C', dx', fs, e3, g3, g4, g5, g6, g7⟩
        · refine ⟨_, rfl, x, T.c_Scan, dx, _, _, rfl, h1, T.cl_Scan, T.na_Scan_row, rfl, .inl ⟨rfl, _, SqL.of h2⟩, _, rfl, (by show 2 ≤ sizeLine; decide), fun a na => ?_⟩
          obtain ⟨l, xs, y, e1, e2, g1, g2, b, C', dx', fs, e3, g3, g4, g5, g6, g7⟩ := fin _ a na (by unfold plW; rw [if_neg hb])
          exact ⟨l, xs, y, e1, e2, g1, g2, _, rfl, _, rfl, b, C', dx', fs, e3, g3, g4, g5, g6, g7⟩
def txtI (w : List Nat) : List Inl := if w = [] then [] else [.text w]
/-- texts side by side made one -/
def jnR : List Nat → List Inl → List Inl
  | w, [] => txtI w
  | w, .text t :: r => jnR (w ++ t) r
  | w, x :: r => txtI w ++ x :: jnR [] r
def textsV (ws : List (List Nat)) : List V := ws.map fun l => V.str (S l)
def sp_add_text (K : PySem.W.Frag) : Sp := fun vs H Q _ => ∃ (a b : Addr) (ws : List (List Nat)) (made : List Inl) (us : List V), vs = [.ref a, .ref b] ∧ H a = some (.lst (textsV ws)) ∧ H b = some (.lst us) ∧ DpAll K H us (rowD made) ∧ ws.flatten.length ≤ 1000000 ∧ made.length ≤ 100000 ∧
  ∀ H' us', Keeps b H H' → H' b = some (.lst us') → DpAll K H' us' (rowD (made ++ txtI ws.flatten)) → Q .non H'
theorem sum_S (ls : List (List Nat)) : ((ls.map S).map (·.length)).sum = ls.flatten.length := by
  rw [List.length_flatten, List.map_map]
  refine congrArg List.sum ?_
  exact List.map_congr_left fun l _ => S_len l
theorem lit_em : ("" : Str) = S [] := by decide +kernel
theorem ok_add_text {P : Program} {w : World} {K : PySem.W.Frag} {mg : Str → Option Value} {base : Heap} (T : Txt w K mg) : FnOk P w K mg base CX0 1 T.a_add_text T.d_add_text ["texts", "made"] (sp_add_text K) := by
  refine T.f_add_text.ok sc_add_text (fun vs H Q E h => ?_) (fun cdv A outer s H vs Q E hr h => ?_)
  · obtain ⟨a, b, ws, made, us, rfl, _⟩ := h
    rfl
  · obtain ⟨a, b, ws, made, us, rfl, ha, hb, hd, hl, hn, q⟩ := h
    refine ⟨_, (pss_cons (ps_set (i := 2) sc_add_text.nd rfl (.inl rfl) (pe_join pe_str (pv 0)))
        (pss_one (ps_if (pt_cmpR op_ne (pv 2) pe_str (nomark _)) (pss_one (ps_expr (pe_bm PySem.F.plainAttrs_list PySem.F.slot_list_append PySem.F.type_list_append mt_append (pv 1) (pa_cons (pe_tup (pa_cons pe_str (pa_cons (pv 2) pa_nil))) pa_nil)))) pss_nil))), ?_⟩
    have lu : us.length = made.length := by rw [(dpAll_all2 hd).1, rowD_map, List.length_map]
    have e1 : textsV ws = (ws.map S).map V.str := by
      unfold textsV
      rw [List.map_map]
      rfl
    rw [e1] at ha
    refine ⟨⟨_, rfl⟩, _, rfl, _, a, ws.map S, rfl, rfl, .inl (SqL.of ha), ?_, ?_⟩
    · rw [sum_S, lit_em, S_len]
      show ws.flatten.length + _ * 0 ≤ _
      omega
    rw [lit_em, My.join_nil]
    refine ⟨_, rfl, rfl, _, rfl, ?_⟩
    have e2 : (!decide (V.str (S ws.flatten) = V.str (S []))) = !decide (ws.flatten = []) := by
      congr 1
      exact decide_eq_decide.mpr ⟨fun e => S_inj (V.str.inj e), fun e => by rw [e]⟩
    rw [e2]
    cases hz : decide (ws.flatten = []) with
    | true =>
      have hz' := of_decide_eq_true hz
      refine iteF (go_nx ?_)
      refine q H us (.refl _) hb ?_
      unfold txtI
      rw [if_pos hz', List.append_nil]
      exact hd
    | false =>
      have hz' := of_decide_eq_false hz
      refine iteT ⟨_, rfl, .inl ⟨rfl, _, SqL.of hb⟩, _, rfl, (by show 2 ≤ sizeLine; decide), fun c nc => ?_⟩
      have s1 : Same H (upd H c (.tup [.str "text", .str (S ws.flatten)])) := same_new nc
      have dc : Dp K (upd H c (.tup [.str "text", .str (S ws.flatten)])) (.ref c) (Inl.text ws.flatten).toD := dp_text upd_same
      generalize (upd H c (.tup [.str "text", .str (S ws.flatten)])) = H1 at s1 dc ⊢
      refine ⟨b, us, _, rfl, rfl, s1 _ _ hb, by rw [lu, sizeLine_eq]; omega, ?_⟩
      refine q _ (us ++ [.ref c]) ((Keeps.of s1).trans .at) upd_same ?_
      unfold txtI
      rw [if_neg hz', rowD_app]
      refine dpAll_keep (L := b) Keeps.at ⟨us, s1 _ _ hb⟩ ?_ (dpAll_app (dpAll_same s1 hd) (.cons dc .nil))
      have := noList_row (made ++ [.text ws.flatten])
      rw [rowD_app] at this
      exact this
theorem dp_tup2 {K : PySem.W.Frag} {G : Hp} {v : V} {ds : List PyData} (h : Dp K G v (.tuple ds)) : ∃ a us, v = .ref a ∧ SqT K G a us ∧ DpAll K G us ds := by
  cases h with
  | tup q r => exact ⟨_, _, rfl, q, r⟩
theorem toD_name (x : Inl) : ∃ rest, x.toD = .tuple (.str (nameI x) :: rest) := by cases x <;> exact ⟨_, rfl⟩
theorem inl_name {K : PySem.W.Frag} {G : Hp} {v : V} {x : Inl} (h : Dp K G v x.toD) : ∃ a us, v = .ref a ∧ SqT K G a (.str (nameI x) :: us) := by
  obtain ⟨rest, e⟩ := toD_name x
  rw [e] at h
  obtain ⟨a, us, rfl, sq, da⟩ := dp_tup2 h
  cases da with
  | cons h1 h2 =>
    cases h1
    exact ⟨a, _, rfl, sq⟩
theorem text_at {K : PySem.W.Frag} {G : Hp} {v : V} {t : List Nat} (h : Dp K G v (Inl.text t).toD) : ∃ a, v = .ref a ∧ SqT K G a [.str "text", .str (S t)] := by
  obtain ⟨a, us, rfl, sq, da⟩ := dp_tup2 (show Dp K G v (.tuple [.str "text", .str (S t)]) from h)
  cases da with
  | cons h1 h2 => cases h2 with
    | cons h3 h4 =>
      cases h4
      cases h1
      cases h3
      exact ⟨a, rfl, sq⟩
def txtN : List Inl → Nat
  | [] => 0
  | .text t :: r => t.length + txtN r
  | _ :: r => txtN r
theorem jn_other {x : Inl} (h : isT x = false) (w : List Nat) (r : List Inl) : jnR w (x :: r) = txtI w ++ x :: jnR [] r := by
  cases x <;> first | rfl | cases h
def sp_joined (K : PySem.W.Frag) : Sp := fun vs H Q _ => ∃ (r : Addr) (us : List V) (ps : List Inl), vs = [.ref r] ∧ H r = some (.lst us) ∧ DpAll K H us (rowD ps) ∧ ps.length ≤ 40000 ∧ txtN ps ≤ 1000000 ∧ ∀ H' v, Same H H' → Dp K H' v (.tuple (rowD (jnR [] ps))) → Q v H'
theorem ok_joined {P : Program} {w : World} {K : PySem.W.Frag} {mg : Str → Option Value} {base : Heap} (T : Txt w K mg) : FnOk P w K mg base CX0 2 T.a_joined T.d_joined ["row"] (sp_joined K) := by
  refine T.f_joined.ok sc_joined (fun vs H Q E h => ?_) (fun cdv A outer s H vs Q E hr h => ?_)
  · obtain ⟨r, us, ps, rfl, _⟩ := h
    rfl
  · obtain ⟨r, us, ps, rfl, hr0, hd, hn, ht, q⟩ := h
    refine ⟨_, (pss_cons (ps_set (i := 1) sc_joined.nd rfl (.inl rfl) (pe_lst pa_nil))
        (pss_cons (ps_set (i := 2) sc_joined.nd rfl (.inl rfl) (pe_lst pa_nil))
        (pss_cons (ps_for PassesOwn.never rfl (pi_list (pv 0)) (pg_name (i := 3) sc_joined.nd rfl (.inl rfl)) (pss_one (ps_if (pt_cmpR op_eq (pe_ix ix_tup (pv 3) pe_int (fun _ _ => rfl)) pe_str (nomark _)) (pss_one (ps_expr (pe_bm PySem.F.plainAttrs_list PySem.F.slot_list_append PySem.F.type_list_append mt_append (pv 2) (pa_cons (pe_ix ix_tup (pv 3) pe_int (fun _ _ => rfl)) pa_nil)))) (pss_cons (ps_expr (pe_call (ok_add_text T) (hr.mono (by decide)) (by rfl) T.g_add_text T.f_add_text.kp T.b_add_text .nil pass0 (pa_cons (pv 2) (pa_cons (pv 1) pa_nil))))
        (pss_cons (ps_set (i := 2) sc_joined.nd rfl (.inl rfl) (pe_lst pa_nil))
        (pss_one (ps_expr (pe_bm PySem.F.plainAttrs_list PySem.F.slot_list_append PySem.F.type_list_append mt_append (pv 1) (pa_cons (pv 3) pa_nil)))))))))
        (pss_cons (ps_expr (pe_call (ok_add_text T) (hr.mono (by decide)) (by rfl) T.g_add_text T.f_add_text.kp T.b_add_text .nil pass0 (pa_cons (pv 2) (pa_cons (pv 1) pa_nil))))
        (pss_one (ps_ret (pe_callTy call_tuple_of (by rfl) T.z_tuple (by decide +kernel) (pa_cons (pv 1) pa_nil)))))))), ?_⟩
    have al := dpAll_all2 hd
    have lu : us.length = ps.length := by rw [al.1, rowD_map, List.length_map]
    refine ⟨(by show 0 ≤ sizeLine; decide), fun m nm => ⟨(by show 0 ≤ sizeLine; decide), fun tx ntx => ?_⟩⟩
    have s0 : Same H (upd (upd H m (.lst [])) tx (.lst [])) := (same_new nm).trans (same_new ntx)
    have hm0 : (upd (upd H m (.lst [])) tx (.lst [])) m = some (.lst []) := same_new ntx _ _ upd_same
    have ht0 : (upd (upd H m (.lst [])) tx (.lst [])) tx = some (.lst []) := upd_same
    have nmt : m ≠ tx := ne_of_none (show (upd H m (.lst [])) m = some (.lst []) from upd_same) ntx
    have ntx0 : H tx = none := by
      rw [upd_ne nmt.symm] at ntx
      exact ntx
    generalize (upd (upd H m (.lst [])) tx (.lst [])) = H0 at s0 hm0 ht0 ⊢
    refine ⟨_, rfl, r, rfl, ⟨us, SqL.of (s0 _ _ hr0)⟩, ?_⟩
    refine for_list (K := K) (a := r) (xs := us) (fun i σ' H' => ∃ (ta : Addr) (o : Option V) (ws : List (List Nat)) (made : List Inl) (um : List V), σ' = [some (.ref r), some (.ref m), some (.ref ta), o] ∧ Same H H' ∧ H ta = none ∧ m ≠ ta ∧ H' ta = some (.lst (textsV ws)) ∧ H' m = some (.lst um) ∧ DpAll K H' um (rowD made) ∧ ws.length ≤ i ∧ made.length ≤ 2 * i ∧ ws.flatten.length + txtN (ps.drop i) ≤ txtN ps ∧ made ++ jnR ws.flatten (ps.drop i) = jnR [] ps) ?_ ?_ ?_ ?_
    · exact ⟨tx, none, [], [], [], rfl, s0, ntx0, nmt, ht0, hm0, .nil, Nat.le_refl _, Nat.le_refl _, by show 0 + txtN ps ≤ _; omega, rfl⟩
    · rintro i σ' H' _ ⟨ta, o, ws, made, um, rfl, s1, _⟩
      exact SqL.of (s1 _ _ hr0)
    · rintro i x σ' H' hx ⟨ta, o, ws, made, um, rfl, s1, nta, nm2, hta, hm, dm, lw, lm, lt, ej⟩
      have hi : i < ps.length := by
        rw [← lu]
        exact (List.getElem?_eq_some_iff.mp hx).1
      obtain ⟨y, hy⟩ : ∃ y, ps[i]? = some y := ⟨_, List.getElem?_eq_getElem hi⟩
      have hdr : ps.drop i = y :: ps.drop (i + 1) := by
        obtain ⟨h9, e9⟩ := List.getElem?_eq_some_iff.mp hy
        rw [← e9]
        exact List.drop_eq_getElem_cons h9
      have du : Dp K H' x y.toD := dp_same s1 (al.2 i x _ hx (by rw [rowD_map, List.getElem?_map, hy]; rfl))
      rw [hdr] at ej lt
      have lum : um.length = made.length := by rw [(dpAll_all2 dm).1, rowD_map, List.length_map]
      obtain ⟨b, ub, rfl, sqb⟩ := inl_name du
      refine ⟨_, rfl, b, _, _, _, rfl, rfl, sqb, atI_nat (j := 0) rfl, rfl, _, rfl, ?_⟩
      have e1 : decide (V.str (nameI y) = V.str ("text" : Str)) = isT y := by
        rw [← name_text]
        exact decide_eq_decide.mpr ⟨fun h => V.str.inj h, fun h => by rw [h]⟩
      rw [e1]
      cases hT : isT y with
      | true =>
        cases y with
        | text t =>
          obtain ⟨b', e', sq'⟩ := text_at du
          cases e'
          refine iteT ⟨_, rfl, .inl ⟨rfl, _, SqL.of hta⟩, _, rfl, b, _, _, _, rfl, rfl, sq', atI_nat (j := 1) rfl, ta, _, _, rfl, rfl, hta, by rw [show (textsV ws).length = ws.length from List.length_map ..]; rw [sizeLine_eq]; omega, ?_⟩
          have lt' : ws.flatten.length + (t.length + txtN (ps.drop (i + 1))) ≤ txtN ps := lt
          refine ⟨ta, _, ws ++ [t], made, um, rfl, fun c o e => ?_, nta, nm2, ?_, ?_, ?_, ?_, by omega, ?_, ?_⟩
          · rw [upd_ne (ne_of_none e nta)]
            exact s1 _ _ e
          · rw [upd_same]
            unfold textsV
            rw [List.map_append]
            rfl
          · rw [upd_ne nm2]
            exact hm
          · exact dpAll_keep (L := ta) Keeps.at ⟨_, hta⟩ (noList_row made) dm
          · rw [List.length_append, List.length_singleton]
            omega
          · rw [List.flatten_append, List.length_append, List.flatten_singleton]
            omega
          · rw [List.flatten_append, List.flatten_singleton]
            exact ej
        | _ => cases hT
      | false =>
        have lt' : txtN (y :: ps.drop (i + 1)) = txtN (ps.drop (i + 1)) := by cases y <;> first | rfl | cases hT
        rw [lt'] at lt
        rw [jn_other hT] at ej
        refine iteF ⟨_, rfl, _, rfl, ta, m, ws, made, um, rfl, hta, hm, dm, by omega, by omega, fun H2 um2 k2 hm2 dm2 => ?_⟩
        have s2 : Same H H2 := fun c o e => k2 c o (fun z => by rw [z, nm] at e; cases e) (s1 _ _ e)
        have du2 : Dp K H2 (.ref b) y.toD := dp_keep k2 ⟨_, hm⟩ (noList_toD y) du
        refine ⟨(by show 0 ≤ sizeLine; decide), fun t2 nt2 => ?_⟩
        have nt20 : H t2 = none := by
          cases e : H t2 with
          | none => rfl
          | some o => rw [s2 _ _ e] at nt2; cases nt2
        have hm3 : (upd H2 t2 (.lst [])) m = some (.lst um2) := same_new nt2 _ _ hm2
        have s3 : Same H2 (upd H2 t2 (.lst [])) := same_new nt2
        have nm3 : m ≠ t2 := ne_of_none hm2 nt2
        have lum2 : um2.length ≤ 2 * i + 1 := by
          rw [(dpAll_all2 dm2).1, rowD_map, List.length_map, List.length_append]
          have : (txtI ws.flatten).length ≤ 1 := by
            unfold txtI
            split
            · exact Nat.zero_le _
            · exact Nat.le_refl _
          omega
        refine ⟨_, rfl, .inl ⟨rfl, _, SqL.of hm3⟩, _, rfl, m, um2, _, rfl, rfl, hm3, by rw [sizeLine_eq]; omega, ?_⟩
        refine ⟨t2, _, [], made ++ txtI ws.flatten ++ [y], um2 ++ [.ref b], rfl, fun c o e => ?_, nt20, nm3, ?_, upd_same, ?_, Nat.zero_le _, ?_, ?_, ?_⟩
        · rw [upd_ne (ne_of_none e nm)]
          exact s3 _ _ (s2 _ _ e)
        · rw [upd_ne nm3.symm]
          exact upd_same
        · rw [rowD_app]
          refine dpAll_keep (L := m) Keeps.at ⟨_, hm3⟩ ?_ (dpAll_app (dpAll_same s3 dm2) (.cons (dp_same s3 du2) .nil))
          have := noList_row (made ++ txtI ws.flatten ++ [y])
          rw [rowD_app] at this
          exact this
        · have h9 := (dpAll_all2 dm2).1
          rw [rowD_map, List.length_map] at h9
          rw [List.length_append, List.length_singleton]
          omega
        · show 0 + txtN (ps.drop (i + 1)) ≤ txtN ps
          omega
        · rw [List.append_assoc, List.append_assoc]
          exact ej
    · rintro σ' H' ⟨ta, o, ws, made, um, rfl, s1, nta, nm2, hta, hm, dm, lw, lm, lt, ej⟩
      rw [lu, List.drop_length] at ej lt
      refine ⟨_, rfl, _, rfl, ta, m, ws, made, um, rfl, hta, hm, dm, by omega, by omega, fun H2 um2 k2 hm2 dm2 => ?_⟩
      have s2 : Same H H2 := fun c o e => k2 c o (fun z => by rw [z, nm] at e; cases e) (s1 _ _ e)
      refine ⟨_, rfl, m, um2, rfl, .inl ⟨SqL.of hm2, fun l nl => ?_⟩⟩
      refine q _ _ (s2.trans (same_new nl)) ?_
      rw [← ej]
      exact .tup (SqT.of upd_same) (dpAll_same (same_new nl) dm2)
theorem ScanQ.mono {K : PySem.W.Frag} {C : Addr × Addr} {H0 H : Hp} {x row : Addr} {t : List Nat} {p pl q q' : Nat} {its : List It} (h : ScanQ K C H0 H x row t p pl q its) (hq : q ≤ q') : ScanQ K C H0 H x row t p pl q' its := by
  obtain ⟨⟨dx2, kn2, br2, st2, nt2, bar2, h1, h2, as, ls, vs, h3, h4, h5, h6, h7⟩, h8⟩ := h
  exact ⟨⟨dx2, kn2, br2, st2, nt2, bar2, h1, h2, as, ls, vs, h3, h4, h5.keep hq (fun _ e => e) (fun _ _ _ e => e), h6, h7⟩, h8⟩
theorem ScanQ.pop {K : PySem.W.Frag} {C : Addr × Addr} {H0 H H' : Hp} {x row : Addr} {t : List Nat} {p pl q q' : Nat} {its : List It} (h : ScanQ K C H0 H x row t p pl q its) {dx kn br st : Addr} {nt bar : Int} (hx : H x = some (.ins C.1 dx (scF t kn row br st p pl nt bar))) {kvs : List (Key × V)} (hst : H st = some (.dK kvs)) {n : Nat} {a : Addr} (hk : valV kvs (.inl (n : Int)) = some (.ref a))
    (hq : q ≤ q') (ho : ∀ b, b ≠ a → H' b = H b) (ha : H' a = some (.lst (intsV ((ofLen n (bqs t 0)).filter (fun p => decide (q' ≤ p))).reverse))) : ScanQ K C H0 H' x row t p pl q' its := by
  obtain ⟨⟨dx2, kn2, br2, st2, nt2, bar2, h1, ⟨bs, h2⟩, as, ls, vs, h3, h4, h5, h6, h7⟩, h8⟩ := h
  have e1 : st2 = st := by
    rw [hx] at h1
    have h9 := HO.ins.inj (Option.some.inj h1)
    have h10 := h9.2.2
    unfold scF at h10
    simp only [List.cons.injEq, Prod.mk.injEq] at h10
    exact (V.ref.inj h10.2.2.2.2.2.2.2.2.1.2).symm
  subst e1
  obtain ⟨kvs2, g1, g2, g3, g4⟩ := h5.ex
  rw [hst] at g1
  cases g1
  obtain ⟨n2, b2, a2, f1, f2, f3, f4, f5⟩ := g2 _ _ hk
  cases f2
  have hal := f5
  have nd := h6
  rw [List.nodup_cons, List.nodup_cons, List.nodup_cons, List.nodup_cons] at nd
  obtain ⟨n1, n2', n3, n4, n5⟩ := nd
  have am : a ∈ as ++ ls := List.mem_append_left _ f3
  have ax : x ≠ a := fun z => n1 (by rw [z]; simp only [List.mem_cons]; exact .inr (.inr (.inr am)))
  have ast : st2 ≠ a := fun z => n2' (by rw [z]; simp only [List.mem_cons]; exact .inr (.inr am))
  have ar : row ≠ a := fun z => n3 (by rw [z]; simp only [List.mem_cons]; exact .inr am)
  have ab : br2 ≠ a := fun z => n4 (by rw [z]; exact am)
  have al : ∀ b ∈ ls, b ≠ a := fun b hb z => by
    rw [List.nodup_append] at n5
    exact n5.2.2 a f3 b hb z.symm
  have kp : Keeps a H H' := fun b o nb e => by rw [ho b nb]; exact e
  refine ⟨⟨dx2, kn2, br2, st2, nt2, bar2, by rw [ho _ ax]; exact h1, ⟨bs, by rw [ho _ ab]; exact h2⟩, as, ls, vs, by rw [ho _ ar]; exact h3, h4.keep (fun v i d => dp_keep kp ⟨_, hal⟩ (noList_toD i) d) (fun b hb o e => by rw [ho _ (al b hb)]; exact e), ⟨⟨kvs, by rw [ho _ ast]; exact hst, fun k v e => ?_, g3, g4⟩, fun b m => ?_⟩, h6, h7⟩, fun b o e => ?_⟩
  · obtain ⟨m, b, c, e1, e2, e3, e4, e5⟩ := g2 k v e
    by_cases hc : c = a
    · subst hc
      have hkk := g4 _ _ _ (by rw [e, e2]) hk
      subst e1
      have hmn : m = n := Int.ofNat.inj (Sum.inl.inj hkk)
      subst hmn
      exact ⟨m, q', c, rfl, e2, e3, Nat.le_refl _, ha⟩
    · exact ⟨m, b, c, e1, e2, e3, by omega, by rw [ho _ hc]; exact e5⟩
  · by_cases z : b = a
    · rw [z]
      exact ⟨_, ha⟩
    · rw [ho _ z]
      exact h5.al b m
  · have nb : b ≠ a := fun z => by
      rw [z, h7 a (by simp only [List.mem_cons]; exact .inr (.inr (.inr (.inr am))))] at e
      cases e
    rw [ho _ nb]
    exact h8 b o e
theorem rep1 (c z : Nat) : (List.replicate z [c]).flatten = List.replicate z c := by
  induction z with
  | zero => rfl
  | succ z ih => rw [List.replicate_succ, List.flatten_cons, ih]; rfl
inductive Kd where
  | w | p | o
def Kd.s : Kd → Str
  | .w => "white"
  | .p => "punctuation"
  | .o => "word"
def kindL : List Nat → Kd
  | [] => .w
  | c :: _ => if c = 32 ∨ c = 9 ∨ c = 10 then .w else if PunL.contains c = true then .p else .o
def sp_kind_of (K : PySem.W.Frag) : Sp := fun vs H Q _ => ∃ l : List Nat, vs = [.str (S l)] ∧ l.length ≤ 1 ∧ Q (.str (kindL l).s) H
theorem ok_kind_of {P : Program} {w : World} {K : PySem.W.Frag} {mg : Str → Option Value} {base : Heap} (T : Txt w K mg) : FnOk P w K mg base CX0 1 T.a_kind_of T.d_kind_of ["sign"] (sp_kind_of K) := by
  refine T.f_kind_of.ok sc_kind_of (fun vs H Q E h => ?_) (fun cdv A outer s H vs Q E hr h => ?_)
  · obtain ⟨l, rfl, _⟩ := h
    rfl
  · obtain ⟨l, rfl, hl, q⟩ := h
    refine ⟨_, (pss_cons (ps_if (PW.pt (pw_or (pt_cmpR op_eq (pv 0) pe_str (nomark _)) (pw_or1 (pt_cmpR op_in_sign (pv 0) (pe_glob (v := .str " \t\n") rfl T.g_INLINE_WHITE ⟨_, rfl⟩) (by rfl))))) (pss_one (ps_ret pe_str)) pss_nil)
        (pss_cons (ps_if (pt_cmpR op_in_sign (pv 0) (pe_glob (v := .str "!\"#$&'()*+,-./:;<=>?\x40[\\]^_{|}~`") rfl T.g_PUNCTUATION ⟨_, rfl⟩) (by rfl)) (pss_one (ps_ret pe_str)) pss_nil)
        (pss_one (ps_ret pe_str)))), ?_⟩
    have w1 : (" \t\n" : Str) = S GapL := by decide +kernel
    have w2 : ("!\"#$&'()*+,-./:;<=>?\x40[\\]^_{|}~`" : Str) = S PunL := by decide +kernel
    have w3 : ("" : Str) = S [] := by decide +kernel
    rw [w1, w2, w3]
    cases l with
    | nil => exact ⟨_, rfl, rfl, _, rfl, ite2 (fun _ => iteT q) (fun h => absurd (decide_eq_true rfl) h)⟩
    | cons c r =>
      cases r with
      | cons d r => simp at hl
      | nil =>
        refine ⟨_, rfl, rfl, _, rfl, ?_⟩
        rw [S_dec, decide_eq_false (by simp : ¬ [c] = [])]
        refine iteF ⟨_, rfl, c, _, rfl, rfl, _, rfl, ?_⟩
        rw [mem_S]
        have e1 : kindL [c] = if c = 32 ∨ c = 9 ∨ c = 10 then .w else if PunL.contains c = true then .p else .o := rfl
        rw [e1] at q
        have hg : GapL.contains c = decide (c = 32 ∨ c = 9 ∨ c = 10) := by
          unfold GapL
          simp [List.contains_cons]
        rw [hg]
        by_cases h1 : c = 32 ∨ c = 9 ∨ c = 10
        · rw [decide_eq_true h1]
          rw [if_pos h1] at q
          exact iteT q
        · rw [decide_eq_false h1]
          rw [if_neg h1] at q
          refine iteF ⟨_, rfl, c, _, rfl, rfl, _, rfl, ?_⟩
          rw [mem_S]
          cases h2 : PunL.contains c with
          | true => rw [h2, if_pos rfl] at q; exact iteT q
          | false => rw [h2, if_neg Bool.false_ne_true] at q; exact iteF q
def runFs0 (sg : List Nat) (len : Int) (op cl : Bool) (e b : Addr) : List (Str × V) := [("sign", .str (S sg)), ("length", .int len), ("left", .int len), ("opens", .bl op), ("closes", .bl cl), ("ended", .ref e), ("begun", .ref b)]
def sp_Run____init__ (K : PySem.W.Frag) (C : Addr) : Sp := fun vs H Q _ => ∃ (x dx : Addr) (sg : List Nat) (n : Int) (op cl : Bool), vs = [.ref x, .str (S sg), .int n, .bl op, .bl cl] ∧ H x = some (.ins C dx []) ∧ ∀ H' e b, H' x = some (.ins C dx (runFs0 sg n op cl e b)) → H' e = some (.lst []) → H' b = some (.lst []) → H e = none → H b = none → e ≠ b → x ≠ e → x ≠ b → (∀ a o, a ≠ x → H a = some o → H' a = some o) → Q .non H'
theorem ok_Run____init__ {P : Program} {w : World} {K : PySem.W.Frag} {mg : Str → Option Value} {base : Heap} (T : Txt w K mg) : FnOk P w K mg base CX0 1 T.a_Run____init__ T.d_Run____init__ ["self", "sign", "length", "opens", "closes"] (sp_Run____init__ K T.c_Run) := by
  refine T.f_Run____init__.ok sc_Run____init__ (fun vs H Q E h => ?_) (fun cdv A outer s H vs Q E hr h => ?_)
  · obtain ⟨x, dx, sg, n, op, cl, rfl, _⟩ := h
    rfl
  · obtain ⟨x, dx, sg, n, op, cl, rfl, hx, q⟩ := h
    refine ⟨_, (pss_cons (ps_fld (pv 0) (pv 1) rfl)
        (pss_cons (ps_fld (pv 0) (pv 2) rfl)
        (pss_cons (ps_fld (pv 0) (pv 2) rfl)
        (pss_cons (ps_fld (pv 0) (pv 3) rfl)
        (pss_cons (ps_fld (pv 0) (pv 4) rfl)
        (pss_cons (ps_fld (pv 0) (pe_lst pa_nil) rfl)
        (pss_one (ps_fld (pv 0) (pe_lst pa_nil) rfl)))))))), ?_⟩
    refine ⟨_, rfl, _, rfl, x, T.c_Run, dx, _, rfl, hx, T.cl_Run, T.na_Run_sign, (by show 0 < 1000; decide), ?_⟩
    refine ⟨_, rfl, _, rfl, x, T.c_Run, dx, _, rfl, upd_same, T.cl_Run, T.na_Run_length, (by show 1 < 1000; decide), ?_⟩
    rw [upd_upd]
    refine ⟨_, rfl, _, rfl, x, T.c_Run, dx, _, rfl, upd_same, T.cl_Run, T.na_Run_left, (by show 2 < 1000; decide), ?_⟩
    rw [upd_upd]
    refine ⟨_, rfl, _, rfl, x, T.c_Run, dx, _, rfl, upd_same, T.cl_Run, T.na_Run_opens, (by show 3 < 1000; decide), ?_⟩
    rw [upd_upd]
    refine ⟨_, rfl, _, rfl, x, T.c_Run, dx, _, rfl, upd_same, T.cl_Run, T.na_Run_closes, (by show 4 < 1000; decide), ?_⟩
    rw [upd_upd]
    refine ⟨(by show 0 ≤ sizeLine; decide), fun e ne => ?_⟩
    have hxe : x ≠ e := ne_of_none upd_same ne
    have ne0 : H e = none := by rw [upd_ne hxe.symm] at ne; exact ne
    refine ⟨_, rfl, x, T.c_Run, dx, _, rfl, by rw [upd_ne hxe]; exact upd_same, T.cl_Run, T.na_Run_ended, (by show 5 < 1000; decide), ?_⟩
    refine ⟨(by show 0 ≤ sizeLine; decide), fun b nb => ?_⟩
    have hxb : x ≠ b := ne_of_none upd_same nb
    have nb1 := nb
    rw [upd_ne hxb.symm] at nb1
    have heb : e ≠ b := ne_of_none upd_same nb1
    have nb0 : H b = none := by rw [upd_ne heb.symm, upd_ne hxb.symm] at nb1; exact nb1
    refine ⟨_, rfl, x, T.c_Run, dx, _, rfl, by rw [upd_ne hxb]; exact upd_same, T.cl_Run, T.na_Run_begun, (by show 6 < 1000; decide), ?_⟩
    refine q _ e b upd_same ?_ ?_ ne0 nb0 heb hxe hxb fun a o na ea => ?_
    · rw [upd_ne hxe.symm, upd_ne heb, upd_ne hxe.symm]
      exact upd_same
    · rw [upd_ne hxb.symm]
      exact upd_same
    · rw [upd_ne na, upd_ne (ne_of_none ea nb0), upd_ne na, upd_ne (ne_of_none ea ne0), upd_ne na]
      exact ea
/-- what stands beside a run -/
def Kd.nW : Kd → Bool
  | .w => false
  | _ => true
def Kd.nP : Kd → Bool
  | .p => false
  | _ => true
def Kd.nO : Kd → Bool
  | .o => false
  | _ => true
def lfB0 (ah be : Kd) : Bool := be.nW && (be.nP || ah.nO)
def rtB0 (ah be : Kd) : Bool := ah.nW && (ah.nP || be.nO)
def opB (c : Nat) (ah be : Kd) : Bool := if c = 95 then lfB0 ah be && (!rtB0 ah be || !ah.nP) else lfB0 ah be
def clB (c : Nat) (ah be : Kd) : Bool := if c = 95 then rtB0 ah be && (!lfB0 ah be || !be.nP) else rtB0 ah be
def runA (t : List Nat) (p : Nat) : Kd := kindL ((t.drop (p - 1)).take (if p = 0 then 0 else 1))
def runZ (t : List Nat) (e : Nat) : Kd := kindL ((t.drop e).take 1)
def runEnd (t : List Nat) (p c : Nat) : Nat := pos t (ba [c] (t.drop p))
def runOf (t : List Nat) (p c : Nat) : RunD := ⟨c, runEnd t p c - p, opB c (runA t p) (runZ t (runEnd t p c)), clB c (runA t p) (runZ t (runEnd t p c))⟩
theorem S_cutA (l : List Nat) (p : Nat) (h : p ≤ l.length) (hl : 1 ≤ l.length) : cutS (S l) (some ((p : Int) - 1)) (some (p : Int)) = S ((l.drop (p - 1)).take (if p = 0 then 0 else 1)) := by
  cases p with
  | zero =>
    unfold cutS
    have e1 : HT.sIx (S l).length 0 (some (((0 : Nat) : Int) - 1)) = l.length - 1 := by
      show (if (-1 : Int) < 0 then ((-1 : Int) + ((S l).length : Int)).toNat else min (-1 : Int).toNat (S l).length) = _
      rw [if_pos (by decide), S_len]
      omega
    rw [e1, HT.sIx_nat, S_tl]
    show S _ = S _
    congr 1
    rw [Nat.zero_min, Nat.zero_sub, if_pos rfl, List.take_zero, List.take_zero]
  | succ k =>
    have e : (((k + 1 : Nat) : Int) - 1) = (k : Int) := by omega
    rw [e, S_cut2 _ _ _ (by omega), if_neg (by omega), Nat.add_sub_cancel, Nat.add_sub_cancel_left]
def AnsK (t : TE) (σ : L2.St) (H : Hp) (c : Bool) : Prop := ∀ Q : VK, Q (.bl c) H → t σ H Q
theorem andK {ta tb : TE} {σ : L2.St} {H : Hp} {a b : Bool} (ha : AnsK ta σ H a) (hb : AnsK tb σ H b) : AnsK (tAndV ta tb) σ H (a && b) := fun Q q => by
  refine ha _ ⟨a, rfl, ?_⟩
  cases a with
  | true => exact hb _ q
  | false => exact q
theorem orK {ta tb : TE} {σ : L2.St} {H : Hp} {a b : Bool} (ha : AnsK ta σ H a) (hb : AnsK tb σ H b) : AnsK (tOrV ta tb) σ H (a || b) := fun Q q => by
  refine ha _ ⟨a, rfl, ?_⟩
  cases a with
  | true => exact q
  | false => exact hb _ q
theorem neK {σ : L2.St} {H : Hp} {i : Nat} {k : Kd} {w : Str} (b : Bool) (hi : σ[i]? = some (some (.str k.s))) (hb : (!decide (V.str k.s = V.str w)) = b) : AnsK (tOp rNe (tVar i) (tC (.str w))) σ H b := fun Q q => ⟨_, hi, rfl, by rw [hb]; exact q⟩
theorem eqK {σ : L2.St} {H : Hp} {i : Nat} {k : Kd} {w : Str} (b : Bool) (hi : σ[i]? = some (some (.str k.s))) (hb : decide (V.str k.s = V.str w) = b) : AnsK (tOp rEq (tVar i) (tC (.str w))) σ H b := fun Q q => ⟨_, hi, rfl, by rw [hb]; exact q⟩
theorem nWK (k : Kd) : (!decide (V.str k.s = V.str "white")) = k.nW := by cases k <;> decide +kernel
theorem nPK (k : Kd) : (!decide (V.str k.s = V.str "punctuation")) = k.nP := by cases k <;> decide +kernel
theorem nOK (k : Kd) : (!decide (V.str k.s = V.str "word")) = k.nO := by cases k <;> decide +kernel
theorem iPK (k : Kd) : decide (V.str k.s = V.str "punctuation") = !k.nP := by cases k <;> decide +kernel
theorem varK {σ : L2.St} {H : Hp} {i : Nat} {b : Bool} (hi : σ[i]? = some (some (.bl b))) : AnsK (tVar i) σ H b := fun Q q => ⟨_, hi, q⟩
theorem notK {ta : TE} {σ : L2.St} {H : Hp} {a : Bool} (ha : AnsK ta σ H a) : AnsK (tNotV ta) σ H (!a) := fun Q q => ha _ ⟨a, rfl, q⟩
def sp_run_at (K : PySem.W.Frag) (C : Addr) : Sp := fun vs H Q _ => ∃ (t : List Nat) (p c : Nat), vs = [.str (S t), .int (p : Int)] ∧ t[p]? = some c ∧ t.length ≤ 100000 ∧ ∀ H' a r e b dr, Same H H' → H' a = some (.tup [.int (runEnd t p c : Nat), .ref r]) → H' r = some (.ins C dr (runFs (runOf t p c) (runOf t p c).len e b)) → H' e = some (.lst []) → H' b = some (.lst []) → H r = none → H e = none → H b = none → e ≠ b → r ≠ e → r ≠ b → Q (.ref a) H'
set_option maxHeartbeats 2000000 in
theorem ok_run_at {P : Program} {w : World} {K : PySem.W.Frag} {mg : Str → Option Value} {base : Heap} (T : Txt w K mg) : FnOk P w K mg base CX0 3 T.a_run_at T.d_run_at ["content", "place"] (sp_run_at K T.c_Run) := by
  refine T.f_run_at.ok sc_run_at (fun vs H Q E h => ?_) (fun cdv A outer s H vs Q E hr h => ?_)
  · obtain ⟨t, p, c, rfl, _⟩ := h
    rfl
  · obtain ⟨t, p, c, rfl, hp, ht, q⟩ := h
    refine ⟨_, (pss_cons (ps_set (i := 2) sc_run_at.nd rfl (.inl rfl) (pe_ix ix_str (pv 0) (pv 1) (fun _ _ => rfl)))
        (pss_cons (ps_set (i := 3) sc_run_at.nd rfl (.inl rfl) (pe_call (ok_behind_all T) (hr.mono (by decide)) (by rfl) T.g_behind_all T.f_behind_all.kp T.b_behind_all .nil pass0 (pa_cons (pv 2) (pa_cons (pv 0) (pa_cons (pv 1) pa_nil)))))
        (pss_cons (ps_set (i := 4) sc_run_at.nd rfl (.inl rfl) (pe_call (ok_kind_of T) (hr.mono (by decide)) (by rfl) T.g_kind_of T.f_kind_of.kp T.b_kind_of .nil pass0 (pa_cons (pe_slice sl_str (pv 0) (po_some (pe_op op_sub (pv 1) pe_int)) (po_some (pv 1))) pa_nil)))
        (pss_cons (ps_set (i := 5) sc_run_at.nd rfl (.inl rfl) (pe_call (ok_kind_of T) (hr.mono (by decide)) (by rfl) T.g_kind_of T.f_kind_of.kp T.b_kind_of .nil pass0 (pa_cons (pe_slice sl_str (pv 0) (po_some (pv 3)) (po_some (pe_op op_add (pv 3) pe_int))) pa_nil)))
        (pss_cons (ps_set (i := 6) sc_run_at.nd rfl (.inl rfl) (pe_and (pe_cmpR op_ne (pv 5) pe_str (nomark _)) (pe_one (pe_or (pe_cmpR op_ne (pv 5) pe_str (nomark _)) (pe_one (pe_cmpR op_ne (pv 4) pe_str (nomark _)))))))
        (pss_cons (ps_set (i := 7) sc_run_at.nd rfl (.inl rfl) (pe_and (pe_cmpR op_ne (pv 4) pe_str (nomark _)) (pe_one (pe_or (pe_cmpR op_ne (pv 4) pe_str (nomark _)) (pe_one (pe_cmpR op_ne (pv 5) pe_str (nomark _)))))))
        (pss_cons (ps_par (i := 8) (j := 9) (by rfl) sc_run_at.nd rfl rfl (by decide) rfl rfl (pa_cons (pv 6) (pa_cons (pv 7) pa_nil)) (by rfl))
        (pss_cons (ps_if (pt_cmpR op_eq (pv 2) pe_str (nomark _)) (pss_cons (ps_set (i := 8) sc_run_at.nd rfl (.inl rfl) (pe_and (pv 6) (pe_one (pe_or (pe_not (pv 7)) (pe_one (pe_cmpR op_eq (pv 4) pe_str (nomark _)))))))
        (pss_one (ps_set (i := 9) sc_run_at.nd rfl (.inl rfl) (pe_and (pv 7) (pe_one (pe_or (pe_not (pv 6)) (pe_one (pe_cmpR op_eq (pv 5) pe_str (nomark _))))))))) pss_nil)
        (pss_one (ps_ret (pe_tup (pa_cons (pv 3) (pa_cons (pe_make T.mk_Run (ok_Run____init__ T) (hr.mono (by decide)) (by rfl) T.gc_Run T.b_Run____init__ .nil pass0 (pa_cons (pv 2) (pa_cons (pe_op op_sub (pv 3) (pv 1)) (pa_cons (pv 8) (pa_cons (pv 9) pa_nil))))) pa_nil))))))))))))), ?_⟩
    have hpl : p < t.length := (List.getElem?_eq_some_iff.mp hp).1
    have hb : (ba [c] (t.drop p)).length ≤ (t.drop p).length := dw_len _ _
    rw [List.length_drop] at hb
    have he0 : p ≤ runEnd t p c := by
      unfold runEnd pos
      omega
    have he1 : runEnd t p c ≤ t.length := pos_le _ _
    refine ⟨_, rfl, _, rfl, S t, p, c, rfl, rfl, by rw [S_len]; exact Nat.le_trans ht (by decide), atI_nat (j := p) hp, ?_⟩
    refine ⟨_, rfl, _, rfl, _, rfl, [c], t, p, rfl, ⟨(Nat.le_of_lt hpl), ht⟩, ?_⟩
    have cA := S_cutA t p (Nat.le_of_lt hpl) (by omega)
    have cZ := S_cut2 t (runEnd t p c) (runEnd t p c + 1) (by omega)
    rw [Nat.add_sub_cancel_left] at cZ
    refine ⟨_, rfl, ⟨_, rfl, p, 1, rfl, rfl, _, rfl, _, rfl, ?_⟩⟩
    refine ⟨_, rfl, S t, rfl, by rw [S_len]; exact Nat.le_trans ht (by decide), ?_⟩
    rw [cA]
    refine ⟨_, rfl, by rw [List.length_take]; split <;> omega, ?_⟩
    refine ⟨_, rfl, _, rfl, _, rfl, ⟨_, rfl, _, _, rfl, rfl, _, rfl, S t, rfl, by rw [S_len]; exact Nat.le_trans ht (by decide), ?_⟩⟩
    have cZ' : cutS (S t) (some ((runEnd t p c : Nat) : Int)) (some (((runEnd t p c : Nat) : Int) + 1)) = S ((t.drop (runEnd t p c)).take 1) := cZ
    show tNil _ _ _
    rw [show pos t (ba [c] (t.drop p)) = runEnd t p c from rfl, cZ']
    refine ⟨_, rfl, by rw [List.length_take]; omega, ?_⟩
    have hZ : kindL (List.take 1 (List.drop (runEnd t p c) t)) = runZ t (runEnd t p c) := rfl
    have hA : kindL (List.take (if p = 0 then 0 else 1) (List.drop (p - 1) t)) = runA t p := rfl
    rw [hZ, hA]
    generalize hbe : runZ t (runEnd t p c) = be
    generalize hah : runA t p = ah
    have hr' : runOf t p c = ⟨c, runEnd t p c - p, opB c ah be, clB c ah be⟩ := by
      unfold runOf
      rw [hah, hbe]
    rw [hr'] at q
    generalize hU : tRet (tTup (tCons (tVar 3) (tCons (tMake T.c_Run (sp_Run____init__ K T.c_Run) [] E0 (tCons (tVar 2) (tCons (tOp (rI0 fun i j => V.int (i - j)) (tVar 3) (tVar 1)) (tCons (tVar 8) (tCons (tVar 9) tNil))))) tNil))) = U
    have fin : ∀ σ : L2.St, σ[1]? = some (some (.int (p : Int))) → σ[2]? = some (some (.str (S [c]))) → σ[3]? = some (some (.int (runEnd t p c : Nat))) → σ[8]? = some (some (.bl (opB c ah be))) → σ[9]? = some (some (.bl (clB c ah be))) →
        U { nx := fun x H' => Q V.non H', rt := Q } σ H := fun σ h1 h2 h3 h8 h9 => by
      have hlen : ((runEnd t p c : Nat) : Int) - (p : Int) = ((runEnd t p c - p : Nat) : Int) := by omega
      rw [← hU]
      refine ⟨_, h3, _, h2, _, h3, _, h1, _, _, rfl, rfl, _, h8, _, h9, fun x dx nx nd hne => ?_⟩
      refine ⟨x, dx, [c], ((runEnd t p c - p : Nat) : Int), _, _, by rw [← hlen]; rfl, upd_same, fun H1 e b h1x h1e h1b ne nb heb hxe hxb k1 => ⟨rfl, ?_⟩⟩
      have sm0 : Same H H1 := fun a o ha => k1 a o (ne_of_none ha nx) (by rw [upd_ne (ne_of_none ha nx), upd_ne (ne_of_none ha nd)]; exact ha)
      have nxe : H e = none := by
        rw [upd_ne hxe.symm] at ne
        by_cases z : e = dx
        · rw [z, upd_same] at ne
          cases ne
        · rw [upd_ne z] at ne
          exact ne
      have nxb : H b = none := by
        rw [upd_ne hxb.symm] at nb
        by_cases z : b = dx
        · rw [z, upd_same] at nb
          cases nb
        · rw [upd_ne z] at nb
          exact nb
      refine ⟨(by show 2 ≤ sizeLine; decide), fun a na => ?_⟩
      have sm1 : Same H1 (upd H1 a (.tup [V.int (runEnd t p c : Nat), V.ref x])) := same_new na
      exact q _ a x e b dx (fun a o ha => sm1 _ _ (sm0 _ _ ha)) upd_same (sm1 _ _ h1x) (sm1 _ _ h1e) (sm1 _ _ h1b) nx nxe nxb heb hxe hxb
    refine (andK (neK _ rfl (nWK _)) (orK (neK _ rfl (nPK _)) (neK _ rfl (nOK _)))) _ ?_
    refine (andK (neK _ rfl (nWK _)) (orK (neK _ rfl (nPK _)) (neK _ rfl (nOK _)))) _ ?_
    refine ⟨_, rfl, _, rfl, _, _, rfl, ?_⟩
    have hu : ("_" : Str) = S [95] := by decide +kernel
    have hd : decide (V.str (S [c]) = V.str ("_" : Str)) = decide (c = 95) := by
      rw [hu, S_dec]
      exact decide_eq_decide.mpr ⟨fun y => (List.cons.inj y).1, fun y => by rw [y]⟩
    refine ⟨_, rfl, rfl, _, rfl, ?_⟩
    show (if decide (V.str (S [c]) = V.str ("_" : Str)) = true then _ else _)
    rw [hd]
    by_cases z : c = 95
    · rw [decide_eq_true z, if_pos rfl]
      refine (andK (varK rfl) (orK (notK (varK rfl)) (eqK _ rfl (iPK _)))) _ ?_
      refine (andK (varK rfl) (orK (notK (varK rfl)) (eqK _ rfl (iPK _)))) _ ?_
      have e8 : opB c ah be = (lfB0 ah be && (!rtB0 ah be || !ah.nP)) := by
        unfold opB
        rw [if_pos z]
      have e9 : clB c ah be = (rtB0 ah be && (!lfB0 ah be || !be.nP)) := by
        unfold clB
        rw [if_pos z]
      rw [e8, e9] at fin
      exact fin _ rfl rfl rfl rfl rfl
    · rw [decide_eq_false z, if_neg Bool.false_ne_true]
      have e8 : opB c ah be = lfB0 ah be := by
        unfold opB
        rw [if_neg z]
      have e9 : clB c ah be = rtB0 ah be := by
        unfold clB
        rw [if_neg z]
      rw [e8, e9] at fin
      exact fin _ rfl rfl rfl rfl rfl
theorem putR {K : PySem.W.Frag} {C : Addr × Addr} {H0 H H' : Hp} {x row : Addr} {t : List Nat} {p pl q e : Nat} {its : List It} {v : V} {i : It} {l : List Addr} (h : ScanQ K C H0 H x row t p pl q its) (s : Same H H') (he : q ≤ e) (hv : ItA K C.2 H' v i l) (nw : ∀ b ∈ l, H b = none) (hd : l.Nodup) : PutOk K C H0 H' x row t p pl q e its v i := ⟨.inr ⟨l, H, h, s, hv, nw, hd⟩, he⟩
def sp_take_run (K : PySem.W.Frag) (C : Addr × Addr) : Sp := fun vs H Q _ => ∃ (H0 : Hp) (x row : Addr) (t : List Nat) (p pl c : Nat) (ps : List It), vs = [.ref x] ∧ ScanAt K C H0 H x row t p pl ps ∧ t[p]? = some c ∧ t.length ≤ 100000 ∧ ps.length ≤ 99999 ∧ ∀ H', ScanAt K C H0 H' x row t (runEnd t p c) (runEnd t p c) (ps ++ [.run (runOf t p c)]) → Kp x row H H' → Q .non H'
theorem ok_take_run {P : Program} {w : World} {K : PySem.W.Frag} {mg : Str → Option Value} {base : Heap} (T : Txt w K mg) : FnOk P w K mg base CX0 4 T.a_take_run T.d_take_run ["scan"] (sp_take_run K (T.c_Scan, T.c_Run)) := by
  refine T.f_take_run.ok sc_take_run (fun vs H Q E h => ?_) (fun cdv A outer s H vs Q E hr h => ?_)
  · obtain ⟨H0, x, row, t, p, pl, c, ps, rfl, _⟩ := h
    rfl
  · obtain ⟨H0, x, row, t, p, pl, c, ps, rfl, hs, hp, ht, hn, q⟩ := h
    refine ⟨_, (pss_cons (ps_asg (pe_call (ok_run_at T) (hr.mono (by decide)) (by rfl) T.g_run_at T.f_run_at.kp T.b_run_at .nil pass0 (pa_cons (pe_fld (pv 0) rfl) (pa_cons (pe_fld (pv 0) rfl) pa_nil))) (pg_tup (by rfl) (pgs_cons (pg_name (i := 1) sc_take_run.nd rfl (.inl rfl)) (pgs_cons (pg_name (i := 2) sc_take_run.nd rfl (.inl rfl)) pgs_nil))))
        (pss_one (ps_expr (pe_meth (pv 0) T.cl_Scan T.me_Scan__put (ok_Scan__put T) (hr.mono (by decide)) T.b_Scan__put .nil pass0 (pa_cons (pv 2) (pa_cons (pv 1) pa_nil)))))), ?_⟩
    obtain ⟨dx, kn, br, st, nt, bar, h1, _⟩ := hs.ob
    refine ⟨_, rfl, x, T.c_Scan, dx, _, _, rfl, h1, T.cl_Scan, T.na_Scan_content, rfl, _, rfl, x, T.c_Scan, dx, _, _, rfl, h1, T.cl_Scan, T.na_Scan_place, rfl, ?_⟩
    refine ⟨t, p, c, rfl, hp, ht, fun H' a r e b dr s h2 h3 h4 h5 n1 n2 n3 d1 d2 d3 => ?_⟩
    have hpl := (List.getElem?_eq_some_iff.mp hp).1
    have hb : (ba [c] (t.drop p)).length ≤ (t.drop p).length := dw_len _ _
    rw [List.length_drop] at hb
    have he0 : p ≤ runEnd t p c := by
      unfold runEnd pos
      omega
    refine ⟨a, _, rfl, SqT.of h2, rfl, _, _, rfl, _, _, rfl, rfl, ?_⟩
    refine ⟨_, rfl, x, dx, _, rfl, s _ _ h1, rfl, _, rfl, _, rfl, ?_⟩
    refine ⟨H0, x, row, t, p, pl, runEnd t p c, ps, .ref r, .run (runOf t p c), p, rfl, hs.same s, putR hs s he0 (.run h3 h4 h5) ?_ ?_, by omega, fun H2 hs2 k2 => q _ hs2 ((Kp.of s).trans k2)⟩
    · intro z hz
      simp only [List.mem_cons, List.not_mem_nil, or_false] at hz
      rcases hz with rfl | rfl | rfl
      · exact n1
      · exact n2
      · exact n3
    · simp [d1, d2, d3]
theorem dc_it {J : L2.It} {n : Nat} {G : Hp → Prop} {Y : Nat → Hp → V → Hp → Prop} (w : Walk J n G Y) {g : TG} {tt : TT} {tk tv : TE} {vs : List Nat} {σ : L2.St} {H1 : Hp} {D : Addr} {Qd : Hp → Prop} (Pv : Nat → Hp → Prop) (h0 : Pv 0 (upd H1 D (.dK []))) (hG : ∀ i H, i ≤ n → Pv i H → G H)
    (hs : ∀ i x H H', i < n → Pv i H → Y i H x H' → g x (wipe σ vs) H' fun σ2 H2 => wipe σ2 vs = wipe σ vs ∧ tt σ2 H2 fun b H3 =>
      if b = true then tk σ2 H3 fun y H4 => tv σ2 H4 fun z H5 => ∃ kvs k, y = kV k ∧ H5 D = some (.dK kvs) ∧ kvs.length < sizeLine ∧ Pv (i + 1) (upd H5 D (.dK (putK kvs k z))) else Pv (i + 1) H3) (hd : ∀ H, Pv n H → Qd H) :
    ∃ W : Nat → Nat → Hp → Prop, (∃ m, W 0 m (upd H1 D (.dK []))) ∧ ∀ i m H, W i m H →
      (J.stop i H ∧ Qd H) ∨ (J.go i H ∧ ∃ Nx : Hp → Prop, (∀ H', Nx H' → ∃ m', m' < m ∧ W (i + 1) m' H') ∧ ∀ x H', J.yld i H x H' → g x (wipe σ vs) H' fun σ2 H2 => wipe σ2 vs = wipe σ vs ∧ tt σ2 H2 fun b H3 =>
        if b = true then tk σ2 H3 fun y H4 => tv σ2 H4 fun z H5 => ∃ kvs k, y = kV k ∧ H5 D = some (.dK kvs) ∧ kvs.length < sizeLine ∧ Nx (upd H5 D (.dK (putK kvs k z))) else Nx H3) := by
  refine ⟨fun i m H => m = n - i ∧ i ≤ n ∧ Pv i H, ⟨n, by simp, Nat.zero_le _, h0⟩, ?_⟩
  rintro i m H ⟨rfl, hi, p⟩
  have q := hG i H hi p
  by_cases e : i = n
  · subst e
    exact .inl ⟨w.stops H q, hd H p⟩
  · have hlt : i < n := by omega
    exact .inr ⟨w.goes i H hlt q, Pv (i + 1), fun H' h' => ⟨n - (i + 1), by omega, rfl, hlt, h'⟩, fun x H' y => hs i x H H' hlt p (w.yields i H x H' hlt q y)⟩
structure RvI (t : List Nat) (kvs : List (Key × V)) (G : Hp) (D : Addr) (i : Nat) (H : Hp) : Prop where
  sm : Same G H
  ex : ∃ (ks : List (Key × V)) (as : List Addr), H D = some (.dK ks) ∧ ks.length ≤ i ∧ (∀ k v, valV ks k = some v → ∃ (n : Nat) (a : Addr), k = .inl (n : Int) ∧ v = .ref a ∧ a ∈ as ∧ H a = some (.lst (intsV (ofLen n (bqs t 0)).reverse))) ∧
    (∀ (j : Nat) k v, j < i → kvs[j]? = some (k, v) → valV ks k ≠ none) ∧ (∀ k k' a, valV ks k = some (.ref a) → valV ks k' = some (.ref a) → k = k') ∧ as.Nodup ∧ ∀ a ∈ as, G a = none ∧ a ≠ D ∧ ∃ o, H a = some o
theorem intsV_rev (l : List Nat) : (intsV l).reverse = intsV l.reverse := List.map_reverse.symm
theorem RvI.step {t : List Nat} {kvs : List (Key × V)} {G H : Hp} {D p : Addr} {i n : Nat} {k : Key} {v : V} (h : RvI t kvs G D i H) (nD : G D = none) (hk : k = .inl (n : Int)) (hkv : kvs[i]? = some (k, v)) (np : H p = none) {ks : List (Key × V)} (hks : H D = some (.dK ks)) :
    RvI t kvs G D (i + 1) (upd (upd H p (.lst (intsV (ofLen n (bqs t 0)).reverse))) D (.dK (putK ks k (.ref p)))) := by
  obtain ⟨sm, ks', as, g1, g2, g3, g4, g5, g6, g7⟩ := h
  rw [hks] at g1
  cases g1
  have pD : p ≠ D := fun z => by rw [z, hks] at np; cases np
  have pG : G p = none := by
    cases e : G p with
    | none => rfl
    | some o => rw [sm _ _ e] at np; cases np
  refine ⟨fun b o e => ?_, putK ks k (.ref p), as ++ [p], upd_same, ?_, fun k2 v2 e => ?_, fun j k2 v2 hj e => ?_, fun k2 k3 a e e' => ?_, ?_, fun a ha => ?_⟩
  · rw [upd_ne (ne_of_none e nD), upd_ne (ne_of_none (sm _ _ e) np)]
    exact sm _ _ e
  · have := length_putK ks k (.ref p)
    omega
  · rw [valV_put] at e
    by_cases z : k2 = k
    · rw [if_pos z] at e
      cases e
      exact ⟨n, p, z.trans hk, rfl, by simp, by rw [upd_ne pD]; exact upd_same⟩
    · rw [if_neg z] at e
      obtain ⟨m, a, e1, e2, e3, e4⟩ := g3 _ _ e
      exact ⟨m, a, e1, e2, by simp [e3], by rw [upd_ne (g7 a e3).2.1, upd_ne (ne_of_none e4 np)]; exact e4⟩
  · rw [valV_put]
    by_cases z : k2 = k
    · rw [if_pos z]
      simp
    · rw [if_neg z]
      by_cases zj : j = i
      · subst zj
        rw [hkv] at e
        cases e
        exact absurd rfl z
      · exact g4 j k2 v2 (by omega) e
  · have old : ∀ k0, valV ks k0 = some (.ref a) → a ≠ p := fun k0 hk0 => by
      obtain ⟨m, b', _, e2, _, hb⟩ := g3 k0 _ hk0
      cases e2
      exact ne_of_none hb np
    rw [valV_put] at e e'
    by_cases z : k2 = k
    · rw [if_pos z] at e
      cases e
      by_cases z' : k3 = k
      · rw [z, z']
      · rw [if_neg z'] at e'
        exact absurd rfl (old _ e')
    · rw [if_neg z] at e
      by_cases z' : k3 = k
      · rw [if_pos z'] at e'
        cases e'
        exact absurd rfl (old _ e)
      · rw [if_neg z'] at e'
        exact g5 _ _ _ e e'
  · rw [List.nodup_append]
    refine ⟨g6, by simp, fun a ha b hb z => ?_⟩
    rw [List.mem_singleton] at hb
    obtain ⟨_, _, o, ho⟩ := g7 a ha
    rw [z, hb, np] at ho
    cases ho
  · rcases List.mem_append.mp ha with ha | ha
    · obtain ⟨e1, e2, o, e3⟩ := g7 a ha
      exact ⟨e1, e2, o, by rw [upd_ne e2, upd_ne (ne_of_none e3 np)]; exact e3⟩
    · rw [List.mem_singleton] at ha
      subst ha
      exact ⟨pG, pD, _, by rw [upd_ne pD]; exact upd_same⟩
def sp_Scan____init__ (K : PySem.W.Frag) (C : Addr × Addr) : Sp := fun vs H Q _ => ∃ (H0 : Hp) (x kn dx : Addr) (t : List Nat), vs = [.ref x, .str (S t), .ref kn] ∧ t.length ≤ 100000 ∧ H x = some (.ins C.1 dx []) ∧ H0 x = none ∧ Same H0 H ∧ ∀ H' row, ScanAt K C H0 H' x row t 0 0 [] → Q .non H'
theorem ok_Scan____init__ {P : Program} {w : World} {K : PySem.W.Frag} {mg : Str → Option Value} {base : Heap} (T : Txt w K mg) : FnOk P w K mg base CX0 3 T.a_Scan____init__ T.d_Scan____init__ ["self", "content", "known"] (sp_Scan____init__ K (T.c_Scan, T.c_Run)) := by
  refine T.f_Scan____init__.ok sc_Scan____init__ (fun vs H Q E h => ?_) (fun cdv A outer s H vs Q E hr h => ?_)
  · obtain ⟨H0, x, kn, dx, t, rfl, _⟩ := h
    rfl
  · obtain ⟨H0, x, kn, dx, t, rfl, ht, hx, n0, sm0, q⟩ := h
    refine ⟨_, (pss_cons (ps_fld (pv 0) (pv 1) rfl)
        (pss_cons (ps_fld (pv 0) (pv 2) rfl)
        (pss_cons (ps_fld (pv 0) pe_int rfl)
        (pss_cons (ps_fld (pv 0) (pe_lst pa_nil) rfl)
        (pss_cons (ps_fld (pv 0) pe_int rfl)
        (pss_cons (ps_fld (pv 0) (pe_lst pa_nil) rfl)
        (pss_cons (ps_fld (pv 0) pe_int rfl)
        (pss_cons (ps_fld (pv 0) pe_int rfl)
        (pss_cons (ps_set (i := 3) sc_Scan____init__.nd rfl (.inr rfl) (pe_call (ok_strings_in T) (hr.mono (by decide)) (by rfl) T.g_strings_in T.f_strings_in.kp T.b_strings_in .nil pass0 (pa_cons (pv 1) pa_nil)))
        (pss_one (ps_fld (pv 0) (pe_lock (pe_dc (own := [("length", 4)]) (g := (gName 4)) (tt := tYes) (by rfl) sc_Scan____init__.nd (pi_keys (pv 3)) (blkOk_by (own := [("length", 4)]) (N := ["self", "content", "known", "strings", "length"]) (sc := defScope s_Scan____init__) (by decide +kernel)) (fun _ _ _ _ _ => (pg_name (i := 4) sc_Scan____init__.nd rfl (Or.inl rfl))) (fun _ _ _ _ _ => pts_nil) (fun _ _ _ _ _ => (pv 4)) (fun _ _ _ _ _ => (show PE _ _ (tRevL K _) from pe_revL (pe_dget (hu_of hr) (pv 3) (pv 4) (fun _ _ => rfl)))))) rfl))))))))))), ?_⟩
    refine ⟨_, rfl, _, rfl, x, T.c_Scan, dx, _, rfl, hx, T.cl_Scan, T.na_Scan_content, (by show 0 < 1000; decide), ?_⟩
    refine ⟨_, rfl, _, rfl, x, T.c_Scan, dx, _, rfl, upd_same, T.cl_Scan, T.na_Scan_known, (by show 1 < 1000; decide), ?_⟩
    rw [upd_upd]
    refine ⟨_, rfl, x, T.c_Scan, dx, _, rfl, upd_same, T.cl_Scan, T.na_Scan_place, (by show 2 < 1000; decide), ?_⟩
    rw [upd_upd]
    refine ⟨(by show 0 ≤ sizeLine; decide), fun row nrow => ?_⟩
    have hxr : x ≠ row := ne_of_none upd_same nrow
    have nrow0 : H row = none := by rw [upd_ne hxr.symm] at nrow; exact nrow
    refine ⟨_, rfl, x, T.c_Scan, dx, _, rfl, by rw [upd_ne hxr]; exact upd_same, T.cl_Scan, T.na_Scan_row, (by show 3 < 1000; decide), ?_⟩
    refine ⟨_, rfl, x, T.c_Scan, dx, _, rfl, upd_same, T.cl_Scan, T.na_Scan_plain, (by show 4 < 1000; decide), ?_⟩
    rw [upd_upd]
    refine ⟨(by show 0 ≤ sizeLine; decide), fun br nbr => ?_⟩
    have hxb : x ≠ br := ne_of_none upd_same nbr
    have nbr1 := nbr
    rw [upd_ne hxb.symm] at nbr1
    refine ⟨_, rfl, x, T.c_Scan, dx, _, rfl, by rw [upd_ne hxb]; exact upd_same, T.cl_Scan, T.na_Scan_brackets, (by show 5 < 1000; decide), ?_⟩
    refine ⟨_, rfl, x, T.c_Scan, dx, _, rfl, upd_same, T.cl_Scan, T.na_Scan_noted, (by show 6 < 1000; decide), ?_⟩
    rw [upd_upd]
    refine ⟨_, rfl, x, T.c_Scan, dx, _, rfl, upd_same, T.cl_Scan, T.na_Scan_bar, (by show 7 < 1000; decide), ?_⟩
    rw [upd_upd]
    have hrb : row ≠ br := by
      intro e
      rw [e, upd_same] at nbr1
      cases nbr1
    have nbr0 : H br = none := by
      rw [upd_ne hrb.symm, upd_ne hxb.symm] at nbr1
      exact nbr1
    generalize hG : (upd (upd (upd (upd H x _) row (.lst [])) x _) br (.lst [])) = G
    have h9x := (upd_same : (upd G x (.ins T.c_Scan dx (putF "bar" (.int 0) (putF "noted" (.int 0) (putF "brackets" (.ref br) (putF "plain" (.int 0) (putF "row" (.ref row) (putF "place" (.int 0) (putF "known" (.ref kn) (putF "content" (.str (S t)) [])))))))))) x = _)
    have h9r : (upd G x (.ins T.c_Scan dx (putF "bar" (.int 0) (putF "noted" (.int 0) (putF "brackets" (.ref br) (putF "plain" (.int 0) (putF "row" (.ref row) (putF "place" (.int 0) (putF "known" (.ref kn) (putF "content" (.str (S t)) [])))))))))) row = some (.lst []) := by
      rw [upd_ne hxr.symm, ← hG, upd_ne hrb, upd_ne hxr.symm, upd_same]
    have h9b : (upd G x (.ins T.c_Scan dx (putF "bar" (.int 0) (putF "noted" (.int 0) (putF "brackets" (.ref br) (putF "plain" (.int 0) (putF "row" (.ref row) (putF "place" (.int 0) (putF "known" (.ref kn) (putF "content" (.str (S t)) [])))))))))) br = some (.lst []) := by
      rw [upd_ne hxb.symm, ← hG, upd_same]
    have h9k : ∀ b o, b ≠ x → H b = some o → (upd G x (.ins T.c_Scan dx (putF "bar" (.int 0) (putF "noted" (.int 0) (putF "brackets" (.ref br) (putF "plain" (.int 0) (putF "row" (.ref row) (putF "place" (.int 0) (putF "known" (.ref kn) (putF "content" (.str (S t)) [])))))))))) b = some o := fun b o nb e => by
      rw [upd_ne nb, ← hG, upd_ne (ne_of_none e nbr0), upd_ne nb, upd_ne (ne_of_none e nrow0), upd_ne nb]
      exact e
    generalize (upd G x (.ins T.c_Scan dx (putF "bar" (.int 0) (putF "noted" (.int 0) (putF "brackets" (.ref br) (putF "plain" (.int 0) (putF "row" (.ref row) (putF "place" (.int 0) (putF "known" (.ref kn) (putF "content" (.str (S t)) [])))))))))) = H9 at h9x h9r h9b h9k ⊢
    refine ⟨_, rfl, t, rfl, ht, fun H1 d s1 dl => ?_⟩
    obtain ⟨nd9, kvs, hd, lk, hv, hv2, hv3⟩ := dl
    have h1x := s1 _ _ h9x
    have h1r := s1 _ _ h9r
    have h1b := s1 _ _ h9b
    have ndx : x ≠ d := ne_of_none h9x nd9
    have ndr : row ≠ d := ne_of_none h9r nd9
    have ndb : br ≠ d := ne_of_none h9b nd9
    have s01 : Same H0 H1 := fun b o e => s1 _ _ (h9k b o (ne_of_none e n0) (sm0 _ _ e))
    have nd0 : H0 d = none := by
      cases e : H0 d with
      | none => rfl
      | some o => exact absurd rfl (ne_of_none (h9k d o (ne_of_none e n0) (sm0 _ _ e)) nd9)
    refine ⟨d, _, hd, (by exact True.intro), fun od => ?_⟩
    refine ⟨_, rfl, d, od, rfl, .inl ⟨kvs, upd_same, fun D nD => ?_⟩⟩
    have nDd : d ≠ D := ne_of_none upd_same nD
    have nD0 : H1 D = none := by rw [upd_ne nDd.symm] at nD; exact nD
    have s02 : Same H0 (upd H1 d (.frz od (.dK kvs))) := fun b o e => by rw [upd_ne (ne_of_none e nd0)]; exact s01 _ _ e
    have t2 : ∀ b o, b ≠ d → H1 b = some o → (upd H1 d (.frz od (.dK kvs))) b = some o := fun b o nb e => by rw [upd_ne nb]; exact e
    have hdG : (upd H1 d (.frz od (.dK kvs))) d = some (.frz od (.dK kvs)) := upd_same
    have hv' : ∀ (k : Key) (v : V), valV kvs k = some v → ∃ (n : Nat) (a : Addr), k = .inl (n : Int) ∧ v = .ref a ∧ (upd H1 d (.frz od (.dK kvs))) a = some (.lst (intsV (ofLen n (bqs t 0)))) := fun k v e => by
      obtain ⟨n, a, e1, e2, _, e4, e5, _⟩ := hv k v e
      exact ⟨n, a, e1, e2, t2 _ _ e4 e5⟩
    have g1x := t2 _ _ ndx h1x
    have g1r := t2 _ _ ndr h1r
    have g1b := t2 _ _ ndb h1b
    generalize (upd H1 d (.frz od (.dK kvs))) = G at nD s02 hdG hv' g1x g1r g1b ⊢
    refine dc_it (walk_keys (d := d) (o := od) (kvs := kvs)) (fun i H' => RvI t kvs G D i H') ⟨same_new nD, [], [], upd_same, Nat.le_refl _, fun _ _ e => (by cases e), fun _ _ _ e => absurd e (Nat.not_lt_zero _), fun _ _ _ e => (by cases e), List.nodup_nil, fun _ e => (by cases e)⟩ (fun i H' _ e => e.sm _ _ hdG) ?_ ?_
    · rintro i y H' H'' hi inv ⟨rfl, k, v, hkv, rfl⟩
      obtain ⟨v', hv0⟩ : ∃ v', valV kvs k = some v' := by
        cases e : valV kvs k with
        | none => exact absurd (List.mem_map.mpr ⟨(k, v), List.mem_of_getElem? hkv, rfl⟩) (valV_not e)
        | some v' => exact ⟨v', rfl⟩
      obtain ⟨n, a, ek, rfl, ha⟩ := hv' k v' hv0
      refine ⟨rfl, _, rfl, _, rfl, _, rfl, d, _, rfl, .inl ⟨kvs, k, .inr ⟨od, inv.sm _ _ hdG⟩, rfl, hv0.symm⟩, a, _, rfl, SqL.of (inv.sm _ _ ha), fun p np => ?_⟩
      obtain ⟨ks, as, hks, lks, _⟩ := inv.ex
      have npD : D ≠ p := ne_of_none hks np
      rw [intsV_rev]
      exact ⟨ks, k, rfl, by rw [upd_ne npD]; exact hks, by rw [sizeLine_eq]; have := bqs_len t; omega, inv.step nD ek hkv np hks⟩
    · rintro H2 inv
      obtain ⟨ks, as, hks, lks, g3, g4, g5, g6, g7⟩ := inv.ex
      have xD : x ≠ D := ne_of_none g1x nD
      have rD : row ≠ D := ne_of_none g1r nD
      have bD : br ≠ D := ne_of_none g1b nD
      have nD0' : H0 D = none := by
        cases e : H0 D with
        | none => rfl
        | some o => rw [s02 _ _ e] at nD; cases nD
      have asx : ∀ a ∈ as, a ≠ x ∧ a ≠ row ∧ a ≠ br := fun a ha => ⟨fun z => (by have := (g7 a ha).1; rw [z, g1x] at this; cases this), fun z => (by have := (g7 a ha).1; rw [z, g1r] at this; cases this), fun z => (by have := (g7 a ha).1; rw [z, g1b] at this; cases this)⟩
      have nG : ∀ a, G a = none → a ≠ d := fun a e z => by rw [z, hdG] at e; cases e
      have h3 : ∀ b, b ≠ d → (upd H2 d (.dK kvs)) b = H2 b := fun b nb => upd_ne nb
      refine ⟨inv.sm _ _ hdG, ?_⟩
      generalize (upd H2 d (.dK kvs)) = H3 at h3 ⊢
      have g3x : H3 x = _ := (h3 _ ndx).trans (inv.sm _ _ g1x)
      have g3r : H3 row = _ := (h3 _ ndr).trans (inv.sm _ _ g1r)
      have g3b : H3 br = _ := (h3 _ ndb).trans (inv.sm _ _ g1b)
      have g3D : H3 D = _ := (h3 _ (nG _ nD)).trans hks
      refine ⟨_, rfl, x, T.c_Scan, dx, _, rfl, g3x, T.cl_Scan, T.na_Scan_strings, (by show 8 < 1000; decide), ?_⟩
      refine q _ row ⟨⟨dx, kn, br, D, 0, 0, upd_same, ⟨[], by rw [upd_ne hxb.symm]; exact g3b⟩, as, [], [], by rw [upd_ne hxr.symm]; exact g3r, .nil, ⟨⟨ks, by rw [upd_ne xD.symm]; exact g3D, fun k v e => ?_, fun n e => ?_, g5⟩, fun a ha => ?_⟩, ?_, ?_⟩, fun b o e => ?_⟩
      · obtain ⟨n, a, e1, e2, e3, e4⟩ := g3 k v e
        refine ⟨n, 0, a, e1, e2, e3, Nat.le_refl _, ?_⟩
        rw [upd_ne (asx a e3).1, List.filter_eq_self.mpr (fun _ _ => decide_eq_true (Nat.zero_le _))]
        rw [h3 _ (nG _ (g7 a e3).1)]
        exact e4
      · cases hh : valV kvs (.inl (n : Int)) with
        | none => exact hv2 n hh
        | some v =>
          obtain ⟨j, hj⟩ : ∃ j : Nat, ∃ v', kvs[j]? = some (Sum.inl (n : Int), v') := by
            have hm := valV_in hh
            obtain ⟨⟨k1, v1⟩, hm1, hm2⟩ := List.mem_map.mp hm
            obtain ⟨j, hj⟩ := List.mem_iff_getElem?.mp hm1
            exact ⟨j, v1, by rw [hj]; exact congrArg some (Prod.ext hm2 rfl)⟩
          obtain ⟨v', hj⟩ := hj
          exact absurd e (g4 j _ v' (List.getElem?_eq_some_iff.mp hj).1 hj)
      · obtain ⟨_, _, o, ho⟩ := g7 a ha
        exact ⟨o, by rw [upd_ne (asx a ha).1, h3 _ (nG _ (g7 a ha).1)]; exact ho⟩
      · rw [List.append_nil, List.nodup_cons, List.nodup_cons, List.nodup_cons, List.nodup_cons]
        refine ⟨?_, ?_, ?_, fun z => (asx _ z).2.2 rfl, g6⟩
        · simp only [List.mem_cons, not_or]
          exact ⟨xD, hxr, hxb, fun z => (asx _ z).1 rfl⟩
        · simp only [List.mem_cons, not_or]
          exact ⟨rD.symm, bD.symm, fun z => (g7 _ z).2.1 rfl⟩
        · simp only [List.mem_cons, not_or]
          exact ⟨hrb, fun z => (asx _ z).2.1 rfl⟩
      · intro b hb
        rw [List.append_nil] at hb
        have g0 : ∀ b, G b = none → H0 b = none := fun b e => by
          cases e' : H0 b with
          | none => rfl
          | some o => rw [s02 _ _ e'] at e; cases e
        have u0 : ∀ b, H b = none → H0 b = none := fun b e => by
          cases e' : H0 b with
          | none => rfl
          | some o => rw [sm0 _ _ e'] at e; cases e
        rcases List.mem_cons.mp hb with rfl | hb
        · exact n0
        rcases List.mem_cons.mp hb with rfl | hb
        · exact nD0'
        rcases List.mem_cons.mp hb with rfl | hb
        · exact u0 _ nrow0
        rcases List.mem_cons.mp hb with rfl | hb
        · exact u0 _ nbr0
        exact g0 _ (g7 _ hb).1
      · rw [upd_ne (ne_of_none e n0), h3 _ (ne_of_none e nd0)]
        exact inv.sm _ _ (s02 _ _ e)
structure RunS where
  d : RunD
  left : Int
  en : List Bool
  be : List Bool
def wordB : Bool → Str
  | true => "strong"
  | false => "emph"
def wordsV (l : List Bool) : List V := l.map fun b => V.str (wordB b)
abbrev RAd := Addr × Addr × Addr
def runFsI (d : RunD) (left : Int) (e b : Addr) : List (Str × V) := [("sign", .str (S [d.sg])), ("length", .int (d.len : Int)), ("left", .int left), ("opens", .bl d.op), ("closes", .bl d.cl), ("ended", .ref e), ("begun", .ref b)]
def RunIns (C : Addr) (H : Hp) (a : RAd) (s : RunS) : Prop := ∃ dr, H a.1 = some (.ins C dr (runFsI s.d s.left a.2.1 a.2.2))
def RunOk (C : Addr) (H : Hp) (a : RAd) (s : RunS) : Prop := RunIns C H a s ∧ H a.2.1 = some (.lst (wordsV s.en)) ∧ H a.2.2 = some (.lst (wordsV s.be))
abbrev SortD := Nat × Bool × Nat
def RunS.sort (s : RunS) : SortD := (s.d.sg, s.d.op && s.d.cl, s.d.len % 3)
def sortV (s : SortD) : List V := [.str (S [s.1]), .bl s.2.1, .int (s.2.2 : Int)]
def leafS (s : SortD) : List Leaf := [.text (S [s.1]), .num (if s.2.1 = true then 1 else 0), .num (s.2.2 : Int)]
theorem leafS_inj {a b : SortD} (h : leafS a = leafS b) : a = b := by
  obtain ⟨a1, a2, a3⟩ := a
  obtain ⟨b1, b2, b3⟩ := b
  unfold leafS at h
  simp only [List.cons.injEq, Leaf.text.injEq, Leaf.num.injEq, and_true] at h
  obtain ⟨h1, h2, h3⟩ := h
  have e1 := (List.cons.inj (S_inj h1)).1
  have e3 : a3 = b3 := Int.ofNat.inj h3
  have e2 : a2 = b2 := by
    cases a2 <;> cases b2 <;> first | rfl | (simp at h2)
  rw [e1, e2, e3]
theorem key_sort {H : Hp} {q : Addr} {s : SortD} (h : H q = some (.tup (sortV s))) : KeyAt H q (leafS s) := ⟨_, h, rfl⟩
def mayPair (a b : SortD) : Bool := decide (a.1 = b.1) && (!(a.2.1 || b.2.1) || (!decide ((a.2.2 + b.2.2) % 3 = 0) || decide (a.2.2 = 0)))
def sp_Run__is_both (K : PySem.W.Frag) (C : Addr) : Sp := fun vs H Q _ => ∃ (a : RAd) (s : RunS), vs = [.ref a.1] ∧ RunIns C H a s ∧ Q (.bl (s.d.op && s.d.cl)) H
theorem ok_Run__is_both {P : Program} {w : World} {K : PySem.W.Frag} {mg : Str → Option Value} {base : Heap} (T : Txt w K mg) : FnOk P w K mg base CX0 1 T.a_Run__is_both T.d_Run__is_both ["self"] (sp_Run__is_both K T.c_Run) := by
  refine T.f_Run__is_both.ok sc_Run__is_both (fun vs H Q E h => ?_) (fun cdv A outer s H vs Q E hr h => ?_)
  · obtain ⟨a, s, rfl, _⟩ := h
    rfl
  · obtain ⟨a, s, rfl, ⟨dr, hx⟩, q⟩ := h
    refine ⟨_, (pss_one (ps_ret (pe_and (pe_fld (pv 0) rfl) (pe_one (pe_fld (pv 0) rfl))))), ?_⟩
    refine ⟨_, rfl, a.1, T.c_Run, dr, _, _, rfl, hx, T.cl_Run, T.na_Run_opens, rfl, _, rfl, ?_⟩
    cases ho : s.d.op with
    | false => 
      rw [ho] at q
      exact q
    | true => 
      rw [ho] at q
      exact ⟨_, rfl, a.1, T.c_Run, dr, _, _, rfl, hx, T.cl_Run, T.na_Run_closes, rfl, q⟩
def sp_sort_of (K : PySem.W.Frag) (C : Addr) : Sp := fun vs H Q _ => ∃ (a : RAd) (s : RunS), vs = [.ref a.1] ∧ RunIns C H a s ∧ ∀ p, H p = none → Q (.ref p) (upd H p (.tup (sortV s.sort)))
theorem ok_sort_of {P : Program} {w : World} {K : PySem.W.Frag} {mg : Str → Option Value} {base : Heap} (T : Txt w K mg) : FnOk P w K mg base CX0 2 T.a_sort_of T.d_sort_of ["run"] (sp_sort_of K T.c_Run) := by
  refine T.f_sort_of.ok sc_sort_of (fun vs H Q E h => ?_) (fun cdv A outer s H vs Q E hr h => ?_)
  · obtain ⟨a, s, rfl, _⟩ := h
    rfl
  · obtain ⟨a, s, rfl, ⟨dr, hx⟩, q⟩ := h
    refine ⟨_, (pss_one (ps_ret (pe_tup (pa_cons (pe_fld (pv 0) rfl) (pa_cons (pe_meth0 (pv 0) T.cl_Run T.me_Run__is_both (ok_Run__is_both T) (hr.mono (by decide)) T.b_Run__is_both .nil pass0) (pa_cons (pe_op op_mod (pe_fld (pv 0) rfl) pe_int) pa_nil)))))), ?_⟩
    refine ⟨_, rfl, a.1, T.c_Run, dr, _, _, rfl, hx, T.cl_Run, T.na_Run_sign, rfl, ?_⟩
    refine ⟨_, rfl, a.1, dr, _, rfl, hx, rfl, a, s, rfl, ⟨dr, hx⟩, ?_⟩
    refine ⟨_, rfl, a.1, T.c_Run, dr, _, _, rfl, hx, T.cl_Run, T.na_Run_length, rfl, _, _, rfl, rfl, (by show (0 : Int) < 3; decide), (by show 3 ≤ sizeLine; decide), fun p np => ?_⟩
    exact q p np
def sp_may_pair (K : PySem.W.Frag) : Sp := fun vs H Q _ => ∃ (p q : Addr) (a b : SortD), vs = [.ref p, .ref q] ∧ H p = some (.tup (sortV a)) ∧ H q = some (.tup (sortV b)) ∧ Q (.bl (mayPair a b)) H
theorem ok_may_pair {P : Program} {w : World} {K : PySem.W.Frag} {mg : Str → Option Value} {base : Heap} (T : Txt w K mg) : FnOk P w K mg base CX0 1 T.a_may_pair T.d_may_pair ["sort", "other"] (sp_may_pair K) := by
  refine T.f_may_pair.ok sc_may_pair (fun vs H Q E h => ?_) (fun cdv A outer s H vs Q E hr h => ?_)
  · obtain ⟨p, q, a, b, rfl, _⟩ := h
    rfl
  · obtain ⟨p, qa, a, b, rfl, ha, hb, q⟩ := h
    refine ⟨_, (pss_cons (ps_asg (pv 0) (pg_tup (by rfl) (pgs_cons (pg_name (i := 2) sc_may_pair.nd rfl (.inl rfl)) (pgs_cons (pg_name (i := 3) sc_may_pair.nd rfl (.inl rfl)) (pgs_cons (pg_name (i := 4) sc_may_pair.nd rfl (.inl rfl)) pgs_nil)))))
        (pss_cons (ps_asg (pv 1) (pg_tup (by rfl) (pgs_cons (pg_name (i := 5) sc_may_pair.nd rfl (.inl rfl)) (pgs_cons (pg_name (i := 6) sc_may_pair.nd rfl (.inl rfl)) (pgs_cons (pg_name (i := 7) sc_may_pair.nd rfl (.inl rfl)) pgs_nil)))))
        (pss_cons (ps_if (pt_cmpR op_ne (pv 2) (pv 5) (nomark _)) (pss_one (ps_ret pe_bl)) pss_nil)
        (pss_one (ps_ret (pe_or (pe_not (pe_or (pv 3) (pe_one (pv 6)))) (pe_or (pe_cmpR op_ne (pe_op op_mod (pe_op op_add (pv 4) (pv 7)) pe_int) pe_int (nomark _)) (pe_one (pe_cmpR op_eq (pv 4) pe_int (nomark _)))))))))), ?_⟩
    refine ⟨_, rfl, p, _, rfl, SqT.of ha, rfl, _, _, rfl, _, _, rfl, _, _, rfl, rfl, ?_⟩
    refine ⟨_, rfl, qa, _, rfl, SqT.of hb, rfl, _, _, rfl, _, _, rfl, _, _, rfl, rfl, ?_⟩
    refine ⟨_, rfl, _, rfl, rfl, _, rfl, ?_⟩
    show (if (!decide (V.str (S [a.1]) = V.str (S [b.1]))) = true then _ else _)
    have hd : decide (V.str (S [a.1]) = V.str (S [b.1])) = decide (a.1 = b.1) := by
      rw [S_dec]
      exact decide_eq_decide.mpr ⟨fun y => (List.cons.inj y).1, fun y => by rw [y]⟩
    rw [hd]
    unfold mayPair at q
    by_cases e : a.1 = b.1
    · rw [decide_eq_true e, Bool.not_true, if_neg Bool.false_ne_true]
      rw [decide_eq_true e, Bool.true_and] at q
      refine (orK (notK (orK (varK rfl) (varK rfl))) (orK (a := !decide ((a.2.2 + b.2.2) % 3 = 0)) (b := decide (a.2.2 = 0)) (fun Q q => ?_) (fun Q q => ?_))) _ q
      · refine ⟨_, rfl, _, rfl, _, _, rfl, rfl, _, _, rfl, rfl, (by show (0 : Int) < 3; decide), rfl, ?_⟩
        have e1 : (decide (V.int ((((a.2.2 : Nat) : Int) + ((b.2.2 : Nat) : Int)) % 3) = V.int 0)) = decide ((a.2.2 + b.2.2) % 3 = 0) := by
          refine decide_eq_decide.mpr ⟨fun z => ?_, fun z => ?_⟩
          · have := V.int.inj z
            omega
          · congr 1
            omega
        show Q (.bl (!decide (V.int ((((a.2.2 : Nat) : Int) + ((b.2.2 : Nat) : Int)) % 3) = V.int 0))) H
        rw [e1]
        exact q
      · refine ⟨_, rfl, rfl, ?_⟩
        have e1 : (decide (V.int ((a.2.2 : Nat) : Int) = V.int 0)) = decide (a.2.2 = 0) := by
          refine decide_eq_decide.mpr ⟨fun z => ?_, fun z => ?_⟩
          · have := V.int.inj z
            omega
          · congr 1
            omega
        show Q (.bl (decide (V.int ((a.2.2 : Nat) : Int) = V.int 0))) H
        rw [e1]
        exact q
    · rw [decide_eq_false e, Bool.not_false, if_pos rfl]
      rw [decide_eq_false e, Bool.false_and] at q
      exact q
abbrev Stk := SortD × List Nat
def StkOk (H : Hp) (e : Ent) (k : Stk) : Prop := e.1 = leafS k.1 ∧ H e.2.1 = some (.tup (sortV k.1)) ∧ H e.2.2 = some (.lst (intsV k.2))
structure StksOk (H : Hp) (ents : List Ent) (st : List Stk) : Prop where
  len : ents.length = st.length
  at' : ∀ (i : Nat) (e : Ent) (k : Stk), ents[i]? = some e → st[i]? = some k → StkOk H e k
def below (acc : Option (Nat × Nat)) (t : Nat) : Bool := match acc with
  | none => true
  | some p => decide (p.2 < t)
def stepN (s : SortD) (i : Nat) (acc : Option (Nat × Nat)) (k : Stk) : Option (Nat × Nat) :=
  match k.2.getLast? with
  | none => acc
  | some t => if (mayPair k.1 s && below acc t) = true then some (i, t) else acc
def nearTo (s : SortD) (st : List Stk) : Nat → Option (Nat × Nat)
  | 0 => none
  | i + 1 => match st[i]? with
    | none => nearTo s st i
    | some k => stepN s i (nearTo s st i) k
theorem near_spec {s : SortD} {st : List Stk} : ∀ {i j u : Nat}, nearTo s st i = some (j, u) → j < i ∧ ∃ k, st[j]? = some k ∧ k.2.getLast? = some u ∧ mayPair k.1 s = true := by
  intro i
  induction i with
  | zero => intro j u h; cases h
  | succ i ih =>
    intro j u h
    have h' : (match st[i]? with | none => nearTo s st i | some k => stepN s i (nearTo s st i) k) = some (j, u) := h
    cases hk : st[i]? with
    | none =>
      rw [hk] at h'
      obtain ⟨a, b⟩ := ih h'
      exact ⟨by omega, b⟩
    | some k =>
      rw [hk] at h'
      have h2 : stepN s i (nearTo s st i) k = some (j, u) := h'
      unfold stepN at h2
      cases hl : k.2.getLast? with
      | none =>
        rw [hl] at h2
        obtain ⟨a, b⟩ := ih h2
        exact ⟨by omega, b⟩
      | some t =>
        rw [hl] at h2
        have h3 : (if (mayPair k.1 s && below (nearTo s st i) t) = true then some (i, t) else nearTo s st i) = some (j, u) := h2
        by_cases c : (mayPair k.1 s && below (nearTo s st i) t) = true
        · rw [if_pos c] at h3
          cases h3
          rw [Bool.and_eq_true] at c
          exact ⟨by omega, k, hk, hl, c.1⟩
        · rw [if_neg c] at h3
          obtain ⟨a, b⟩ := ih h3
          exact ⟨by omega, b⟩
def resV (ents : List Ent) : Option (Nat × Nat) → V
  | none => .non
  | some p => match ents[p.1]? with
    | none => .non
    | some e => .ref e.2.2
def sp_stack_of_partner (P : Program) (w : World) (K : PySem.W.Frag) (C : Addr) : Sp := fun vs H Q _ => ∃ (a : RAd) (s : RunS) (D : Addr) (ents : List Ent) (st : List Stk), vs = [.ref a.1, .ref D] ∧ RunIns C H a s ∧ H D = some (dictE P w D ents) ∧ StksOk H ents st ∧ ∀ H', Same H H' → Q (resV ents (nearTo s.sort st st.length)) H'
theorem ok_stack_of_partner {P : Program} {w : World} {K : PySem.W.Frag} {mg : Str → Option Value} {base : Heap} (T : Txt w K mg) : FnOk P w K mg base CX0 3 T.a_stack_of_partner T.d_stack_of_partner ["run", "stacks"] (sp_stack_of_partner P w K T.c_Run) := by
  refine T.f_stack_of_partner.ok sc_stack_of_partner (fun vs H Q E h => ?_) (fun cdv A outer s H vs Q E hr h => ?_)
  · obtain ⟨a, s, D, ents, st, rfl, _⟩ := h
    rfl
  · obtain ⟨a, s, D, ents, st, rfl, ⟨dr, hx⟩, hD, hst, q⟩ := h
    refine ⟨_, (pss_cons (ps_set (i := 2) sc_stack_of_partner.nd rfl (.inl rfl) pe_non)
        (pss_cons (ps_lock (ps_for PassesOwn.never rfl (pi_itemsE (pv 1)) (pg_tup (by rfl) (pgs_cons (pg_name (i := 3) sc_stack_of_partner.nd rfl (.inl rfl)) (pgs_cons (pg_name (i := 4) sc_stack_of_partner.nd rfl (.inl rfl)) pgs_nil))) (pss_one (ps_if (PW.pt (pw_and (pt_truth (pv 4) (by intro _; rfl)) (pw_and (pt_val (pe_call (ok_may_pair T) (hr.mono (by decide)) (by rfl) T.g_may_pair T.f_may_pair.kp T.b_may_pair .nil pass0 (pa_cons (pv 3) (pa_cons (pe_call (ok_sort_of T) (hr.mono (by decide)) (by rfl) T.g_sort_of T.f_sort_of.kp T.b_sort_of .nil pass0 (pa_cons (pv 0) pa_nil)) pa_nil)))) (pw_and1 (PW.pt (pw_or (pt_cmpR op_isN (pv 2) pe_non (nomark _)) (pw_or1 (pt_cmpR op_gt (pe_ix ix_list (pv 4) (pe_un un_neg pe_int) (fun _ _ => rfl)) (pe_ix ix_list (pv 2) (pe_un un_neg pe_int) (fun _ _ => rfl)) (nomark _))))))))) (pss_one (ps_set (i := 2) sc_stack_of_partner.nd rfl (.inl rfl) (pv 4))) pss_nil))))
        (pss_one (ps_ret (pv 2))))), ?_⟩
    refine ⟨D, _, hD, trivial, fun od => ?_⟩
    have dL : ∀ {b : Addr} {xs : List V}, H b = some (.lst xs) → b ≠ D := fun h => ne_of h hD (fun z => by unfold dictE at z; cases z)
    have dT : ∀ {b : Addr} {xs : List V}, H b = some (.tup xs) → b ≠ D := fun h => ne_of h hD (fun z => by unfold dictE at z; cases z)
    have dI : a.1 ≠ D := ne_of hx hD (fun z => by unfold dictE at z; cases z)
    refine ⟨_, rfl, D, od, ents, rfl, upd_same, ?_⟩
    refine for_it walk_itemsE (fun i σ' H' => ∃ (o3 o4 : Option V), σ' = [some (.ref a.1), some (.ref D), some (resV ents (nearTo s.sort st i)), o3, o4] ∧ Same (upd H D (.frz od (dictE P w D ents))) H') ⟨_, _, rfl, fun _ _ e => e⟩ (fun i σ' H' _ ⟨_, _, _, h⟩ => h _ _ upd_same) ?_ ?_
    · rintro i x σ' H1 H2 hi ⟨o3, o4, rfl, sm⟩ ⟨T0, e, he, rfl, nT, rfl⟩
      have his : i < st.length := by rw [← hst.len]; exact hi
      have hk := List.getElem?_eq_getElem his
      obtain ⟨e1, e2, e3⟩ := hst.at' i e st[i] he hk
      have g2 := sm _ _ ((upd_ne (dT e2)).trans e2)
      have g3 := sm _ _ ((upd_ne (dL e3)).trans e3)
      have gx := sm _ _ ((upd_ne dI).trans hx)
      have sT : Same H1 (upd H1 T0 (.tup [.ref e.2.1, .ref e.2.2])) := same_new nT
      refine ⟨T0, _, rfl, SqT.of upd_same, rfl, _, _, rfl, _, _, rfl, rfl, ?_⟩
      have en : nearTo s.sort st (i + 1) = stepN s.sort i (nearTo s.sort st i) st[i] := by
        show (match st[i]? with | none => _ | some k => _) = _
        rw [hk]
      have sm2 : Same (upd H D (.frz od (dictE P w D ents))) (upd H1 T0 (.tup [.ref e.2.1, .ref e.2.2])) := fun b o h => sT _ _ (sm _ _ h)
      replace g2 := sT _ _ g2
      replace g3 := sT _ _ g3
      replace gx := sT _ _ gx
      generalize (upd H1 T0 (.tup [.ref e.2.1, .ref e.2.2])) = H2 at sm2 g2 g3 gx ⊢
      rw [en]
      generalize st[i] = k at e1 g2 g3 ⊢
      refine ⟨_, rfl, _, .inl ⟨_, SqL.of g3, rfl⟩, ?_⟩
      cases hl : k.2.getLast? with
      | none =>
        have : stepN s.sort i (nearTo s.sort st i) k = nearTo s.sort st i := by
          unfold stepN
          rw [hl]
        rw [this, List.getLast?_eq_none_iff.mp hl]
        exact iteF (iteF ⟨_, _, rfl, sm2⟩)
      | some t =>
        obtain ⟨ini, hini⟩ := List.getLast?_eq_some_iff.mp hl
        have er : intsV k.2 = intsV ini ++ [.int (t : Int)] := by rw [hini, intsV_app]; rfl
        rw [er] at g3 ⊢
        rw [show (!(intsV ini ++ [V.int (t : Int)]).isEmpty) = true by cases intsV ini <;> rfl]
        have es : stepN s.sort i (nearTo s.sort st i) k = if (mayPair k.1 s.sort && below (nearTo s.sort st i) t) = true then some (i, t) else nearTo s.sort st i := by
          unfold stepN
          rw [hl]
        rw [es]
        refine iteT ⟨_, rfl, _, rfl, a, s, rfl, ⟨dr, gx⟩, fun p np => ?_⟩
        have sp : Same H2 (upd H2 p (.tup (sortV s.sort))) := same_new np
        refine ⟨_, _, k.1, s.sort, rfl, sp _ _ g2, upd_same, _, rfl, ?_⟩
        replace sm2 := fun b o h => sp b o (sm2 b o h)
        replace g3 := sp _ _ g3
        generalize (upd H2 p (.tup (sortV s.sort))) = H3 at sm2 g3 ⊢
        cases hm : mayPair k.1 s.sort with
        | false => exact iteF (iteF ⟨_, _, rfl, sm2⟩)
        | true =>
          refine iteT ?_
          rw [Bool.true_and]
          cases hn : nearTo s.sort st i with
          | none =>
            refine ⟨_, rfl, rfl, _, rfl, ite2 (fun _ => iteT ⟨_, rfl, some (.ref e.2.1), some (.ref e.2.2), ?_, sm2⟩) (fun h => absurd (decide_eq_true rfl) h)⟩
            show _ = [some (V.ref a.1), some (V.ref D), some (resV ents (some (i, t))), some (V.ref e.2.1), some (V.ref e.2.2)]
            rw [show resV ents (some (i, t)) = .ref e.2.2 by show (match ents[i]? with | none => V.non | some e => V.ref e.2.2) = _; rw [he]]
            rfl
          | some p =>
            obtain ⟨j, u⟩ := p
            obtain ⟨hji, kj, hkj, hlj, _⟩ := near_spec hn
            have hje : j < ents.length := by omega
            have hej := List.getElem?_eq_getElem hje
            obtain ⟨_, _, f3⟩ := hst.at' j ents[j] kj hej hkj
            have f3' := sm2 _ _ ((upd_ne (dL f3)).trans f3)
            obtain ⟨ini2, hini2⟩ := List.getLast?_eq_some_iff.mp hlj
            rw [hini2, intsV_app] at f3'
            have hrv : resV ents (some (j, u)) = .ref (ents[j]).2.2 := by
              show (match ents[j]? with | none => V.non | some e => V.ref e.2.2) = _
              rw [hej]
            rw [hrv]
            refine ⟨_, rfl, rfl, _, rfl, ite2 (fun h => absurd (of_decide_eq_true h) (fun z => by cases z)) (fun _ => ?_)⟩
            refine ⟨_, rfl, _, rfl, e.2.2, _, _, _, rfl, rfl, SqL.of g3, atI_last _ _, _, rfl, _, rfl, ents[j].2.2, _, _, _, rfl, rfl, SqL.of f3', atI_last _ _, ?_⟩
            refine ⟨_, _, rfl, rfl, _, rfl, ite2 (fun h => ⟨_, rfl, some (.ref e.2.1), some (.ref e.2.2), ?_, sm2⟩) (fun h => ⟨some (.ref e.2.1), some (.ref e.2.2), ?_, sm2⟩)⟩
            · have hb : below (some (j, u)) t = true := by
                have := of_decide_eq_true h
                show decide (u < t) = true
                exact decide_eq_true (by omega)
              rw [if_pos hb]
              rw [show resV ents (some (i, t)) = .ref e.2.2 by show (match ents[i]? with | none => V.non | some e => V.ref e.2.2) = _; rw [he]]
              rfl
            · have hb : below (some (j, u)) t = false := by
                have := mt decide_eq_true h
                show decide (u < t) = false
                exact decide_eq_false (by omega)
              rw [hb, if_neg Bool.false_ne_true, hrv]
              rfl
    · rintro σ' H' ⟨o3, o4, rfl, sm⟩
      refine ⟨sm _ _ upd_same, _, rfl, ?_⟩
      rw [hst.len]
      refine q _ fun b o h => ?_
      by_cases z : b = D
      · rw [z, upd_same, ← hD, ← h, z]
      · rw [upd_ne z]
        exact sm _ _ ((upd_ne z).trans h)
def manyB (b : Bool) : Int := if b = true then 2 else 1
def twoB (s t : RunS) : Bool := decide (2 ≤ s.left) && decide (2 ≤ t.left)
def giveB (s t : RunS) : RunS := { s with left := s.left - manyB (twoB s t), be := s.be ++ [twoB s t] }
def takeB (s t : RunS) : RunS := { t with left := t.left - manyB (twoB s t), en := t.en ++ [twoB s t] }
def RAd.l (a : RAd) : List Addr := [a.1, a.2.1, a.2.2]
theorem wordsV_app (l : List Bool) (b : Bool) : wordsV (l ++ [b]) = wordsV l ++ [.str (wordB b)] := List.map_append
theorem seq_ifK {c : TT} {a b u : TS} {D : Ends} {σ : L2.St} {H : Hp} (P : L2.St → Hp → Prop) (h1 : ∀ N : L2.St → Hp → Prop, (∀ σ' H', P σ' H' → N σ' H') → tIfS c a b { D with nx := N } σ H) (h2 : ∀ σ' H', P σ' H' → u D σ' H') : tSeq (tIfS c a b) u D σ H := h1 _ h2
def sp_take_both (K : PySem.W.Frag) (C : Addr) : Sp := fun vs H Q _ => ∃ (a b : RAd) (s t : RunS), vs = [.ref a.1, .ref b.1] ∧ RunOk C H a s ∧ RunOk C H b t ∧ (RAd.l a ++ RAd.l b).Nodup ∧ s.be.length < 1000000 ∧ t.en.length < 1000000 ∧
  ∀ H', RunOk C H' a (giveB s t) → RunOk C H' b (takeB s t) → (∀ x o, x ∉ RAd.l a ++ RAd.l b → H x = some o → H' x = some o) → Q .non H'
theorem ok_take_both {P : Program} {w : World} {K : PySem.W.Frag} {mg : Str → Option Value} {base : Heap} (T : Txt w K mg) : FnOk P w K mg base CX0 1 T.a_take_both T.d_take_both ["partner", "run"] (sp_take_both K T.c_Run) := by
  refine T.f_take_both.ok sc_take_both (fun vs H Q E h => ?_) (fun cdv A outer s H vs Q E hr h => ?_)
  · obtain ⟨a, b, s, t, rfl, _⟩ := h
    rfl
  · obtain ⟨⟨r, re, rb⟩, ⟨u, ue, ub⟩, s, t, rfl, ⟨⟨dr, hr1⟩, hr2, hr3⟩, ⟨⟨du, hu1⟩, hu2, hu3⟩, nd, ls, lt, q⟩ := h
    refine ⟨_, (pss_cons (ps_if (PW.pt (pw_and (pt_cmpR op_ge (pe_fld (pv 0) rfl) pe_int (nomark _)) (pw_and1 (pt_cmpR op_ge (pe_fld (pv 1) rfl) pe_int (nomark _))))) (pss_one (ps_asg (pe_tup (pa_cons pe_str (pa_cons pe_int pa_nil))) (pg_tup (by rfl) (pgs_cons (pg_name (i := 2) sc_take_both.nd rfl (.inl rfl)) (pgs_cons (pg_name (i := 3) sc_take_both.nd rfl (.inl rfl)) pgs_nil))))) (pss_one (ps_asg (pe_tup (pa_cons pe_str (pa_cons pe_int pa_nil))) (pg_tup (by rfl) (pgs_cons (pg_name (i := 2) sc_take_both.nd rfl (.inl rfl)) (pgs_cons (pg_name (i := 3) sc_take_both.nd rfl (.inl rfl)) pgs_nil))))))
        (pss_cons (ps_fldaug (pv 0) (pv 3) in_sub)
        (pss_cons (ps_fldaug (pv 1) (pv 3) in_sub)
        (pss_cons (ps_expr (pe_bm PySem.F.plainAttrs_list PySem.F.slot_list_append PySem.F.type_list_append mt_append (pe_fld (pv 0) rfl) (pa_cons (pv 2) pa_nil)))
        (pss_one (ps_expr (pe_bm PySem.F.plainAttrs_list PySem.F.slot_list_append PySem.F.type_list_append mt_append (pe_fld (pv 1) rfl) (pa_cons (pv 2) pa_nil)))))))), ?_⟩
    simp only at hr1 hr2 hr3 hu1 hu2 hu3
    simp only [RAd.l, List.cons_append, List.nil_append, List.nodup_cons, List.mem_cons, not_or, List.not_mem_nil, not_false_eq_true, and_true, List.nodup_nil] at nd
    obtain ⟨⟨n1, n2, n3, n4, n5⟩, ⟨n6, n7, n8, n9⟩, ⟨n10, n11, n12⟩, ⟨n13, n14⟩, n15⟩ := nd
    refine seq_ifK (fun σ' H' => σ' = [some (.ref r), some (.ref u), some (.str (wordB (twoB s t))), some (.int (manyB (twoB s t)))] ∧ Same H H') (fun N hN => ?_) ?_
    · have two : ∀ b : Bool, b = twoB s t → AnsB (tAnd (tTest (tOp (rI0 fun i j => V.bl (decide (j ≤ i))) (tFld K (tVar 0) "left") (tC (.int 2)))) (tTest (tOp (rI0 fun i j => V.bl (decide (j ≤ i))) (tFld K (tVar 1) "left") (tC (.int 2))))) [some (.ref r), some (.ref u), none, none] H b := fun b hb Qb qb => by
        refine ⟨_, rfl, r, T.c_Run, dr, _, _, rfl, hr1, T.cl_Run, T.na_Run_left, rfl, _, _, rfl, rfl, _, rfl, ?_⟩
        show (if decide (2 ≤ s.left) = true then _ else _)
        unfold twoB at hb
        by_cases z : 2 ≤ s.left
        · rw [decide_eq_true z, Bool.true_and] at hb
          rw [decide_eq_true z, if_pos rfl]
          refine ⟨_, rfl, u, T.c_Run, du, _, _, rfl, hu1, T.cl_Run, T.na_Run_left, rfl, _, _, rfl, rfl, _, rfl, ?_⟩
          rw [← hb]
          exact qb
        · rw [decide_eq_false z, Bool.false_and] at hb
          rw [decide_eq_false z, if_neg Bool.false_ne_true]
          rw [← hb]
          exact qb
      refine two _ rfl _ ?_
      cases ht : twoB s t with
      | true =>
        rw [ht] at hN
        exact iteT ⟨(by show 2 ≤ sizeLine; decide), fun p np => ⟨p, _, rfl, SqT.of upd_same, rfl, _, _, rfl, _, _, rfl, rfl, hN _ _ ⟨rfl, same_new np⟩⟩⟩
      | false =>
        rw [ht] at hN
        exact iteF ⟨(by show 2 ≤ sizeLine; decide), fun p np => ⟨p, _, rfl, SqT.of upd_same, rfl, _, _, rfl, _, _, rfl, rfl, hN _ _ ⟨rfl, same_new np⟩⟩⟩
    · rintro σ' H' ⟨rfl, sm⟩
      replace hr1 := sm _ _ hr1
      replace hr2 := sm _ _ hr2
      replace hr3 := sm _ _ hr3
      replace hu1 := sm _ _ hu1
      replace hu2 := sm _ _ hu2
      replace hu3 := sm _ _ hu3
      refine ⟨_, rfl, r, T.c_Run, dr, _, _, rfl, hr1, T.cl_Run, T.na_Run_left, rfl, _, rfl, _, _, rfl, rfl, dr, _, hr1, (by show 7 < 1000; decide), ?_⟩
      refine ⟨_, rfl, u, T.c_Run, du, _, _, rfl, by rw [upd_ne (Ne.symm n3)]; exact hu1, T.cl_Run, T.na_Run_left, rfl, _, rfl, _, _, rfl, rfl, du, _, by rw [upd_ne (Ne.symm n3)]; exact hu1, (by show 7 < 1000; decide), ?_⟩
      have b1 : (upd (upd H' r (.ins T.c_Run dr (putF "left" (V.int (s.left - manyB (twoB s t))) (runFsI s.d s.left re rb)))) u (.ins T.c_Run du (putF "left" (V.int (t.left - manyB (twoB s t))) (runFsI t.d t.left ue ub)))) r = some (.ins T.c_Run dr (runFsI s.d (s.left - manyB (twoB s t)) re rb)) := by
        rw [upd_ne n3]
        exact upd_same
      have b2 : (upd (upd H' r (.ins T.c_Run dr (putF "left" (V.int (s.left - manyB (twoB s t))) (runFsI s.d s.left re rb)))) u (.ins T.c_Run du (putF "left" (V.int (t.left - manyB (twoB s t))) (runFsI t.d t.left ue ub)))) u = some (.ins T.c_Run du (runFsI t.d (t.left - manyB (twoB s t)) ue ub)) := upd_same
      have b3 : ∀ b, b ≠ r → b ≠ u → (upd (upd H' r (.ins T.c_Run dr (putF "left" (V.int (s.left - manyB (twoB s t))) (runFsI s.d s.left re rb)))) u (.ins T.c_Run du (putF "left" (V.int (t.left - manyB (twoB s t))) (runFsI t.d t.left ue ub)))) b = H' b := fun b c1 c2 => by
        rw [upd_ne c2, upd_ne c1]
      generalize (upd (upd H' r (.ins T.c_Run dr (putF "left" (V.int (s.left - manyB (twoB s t))) (runFsI s.d s.left re rb)))) u (.ins T.c_Run du (putF "left" (V.int (t.left - manyB (twoB s t))) (runFsI t.d t.left ue ub)))) = G at b1 b2 b3 ⊢
      have g1 := (b3 re (Ne.symm n1) n7).trans hr2
      have g2 := (b3 rb (Ne.symm n2) n10).trans hr3
      have g3 := (b3 ue (Ne.symm n4) (Ne.symm n13)).trans hu2
      have g4 := (b3 ub (Ne.symm n5) (Ne.symm n14)).trans hu3
      refine ⟨_, rfl, r, T.c_Run, dr, _, .ref rb, rfl, b1, T.cl_Run, T.na_Run_begun, rfl, .inl ⟨rfl, _, SqL.of g2⟩, ?_⟩
      refine ⟨_, rfl, rb, _, _, rfl, rfl, g2, by rw [sizeLine_eq]; unfold wordsV; rw [List.length_map]; omega, ?_⟩
      have g3' : (upd G rb (.lst (wordsV s.be ++ [.str (wordB (twoB s t))]))) ue = some (.lst (wordsV t.en)) := by
        rw [upd_ne (Ne.symm n11)]
        exact g3
      refine ⟨_, rfl, u, T.c_Run, du, _, .ref ue, rfl, by rw [upd_ne (Ne.symm n10)]; exact b2, T.cl_Run, T.na_Run_ended, rfl, .inl ⟨rfl, _, SqL.of g3'⟩, ?_⟩
      refine ⟨_, rfl, ue, _, _, rfl, rfl, g3', by rw [sizeLine_eq]; unfold wordsV; rw [List.length_map]; omega, ?_⟩
      refine q _ ⟨⟨dr, ?_⟩, ?_, ?_⟩ ⟨⟨du, ?_⟩, ?_, ?_⟩ fun x o hx ho => ?_
      · show (upd (upd G rb _) ue _) r = _
        rw [upd_ne n4, upd_ne n2]
        exact b1
      · show (upd (upd G rb _) ue _) re = _
        rw [upd_ne n8, upd_ne n6]
        exact g1
      · show (upd (upd G rb _) ue _) rb = _
        rw [upd_ne n11, upd_same]
        show _ = some (HO.lst (wordsV (s.be ++ [twoB s t])))
        rw [wordsV_app]
      · show (upd (upd G rb _) ue _) u = _
        rw [upd_ne n13, upd_ne (Ne.symm n10)]
        exact b2
      · show (upd (upd G rb _) ue _) ue = _
        rw [upd_same]
        show _ = some (HO.lst (wordsV (t.en ++ [twoB s t])))
        rw [wordsV_app]
      · show (upd (upd G rb _) ue _) ub = _
        rw [upd_ne (Ne.symm n15), upd_ne (Ne.symm n12)]
        exact g4
      · simp only [RAd.l, List.cons_append, List.nil_append, List.mem_cons, not_or, List.not_mem_nil, not_false_eq_true, and_true] at hx
        obtain ⟨c1, c2, c3, c4, c5, c6⟩ := hx
        show (upd (upd G rb _) ue _) x = _
        rw [upd_ne c5, upd_ne c3, b3 x c1 c4]
        exact sm _ _ ho
structure PS where
  rs : List RunS
  st : List Stk
def cutAbove (p : Nat) (l : List Nat) : List Nat := (l.reverse.dropWhile fun n => decide (p < n)).reverse
def turnP (k : Nat) (x : PS) : Option PS :=
  match x.rs[k]? with
  | none => none
  | some r =>
    match nearTo r.sort x.st x.st.length with
    | none => none
    | some (j, p) =>
      match x.rs[p]? with
      | none => none
      | some a =>
        let st1 := x.st.map fun z => (z.1, cutAbove p z.2)
        some ⟨(x.rs.set p (giveB a r)).set k (takeB a r), if (giveB a r).left = 0 then st1.modify j (fun z => (z.1, z.2.dropLast)) else st1⟩
def whileP (k : Nat) : Nat → PS → PS
  | 0, x => x
  | f + 1, x => match x.rs[k]? with
    | none => x
    | some r => if r.d.cl = true ∧ 0 < r.left then (match turnP k x with
      | none => x
      | some y => whileP k f y) else x
def push : List Stk → SortD → Nat → List Stk
  | [], s, k => [(s, [k])]
  | z :: r, s, k => if z.1 = s then (z.1, z.2 ++ [k]) :: r else z :: push r s k
def pushP (k : Nat) (x : PS) : PS :=
  match x.rs[k]? with
  | none => x
  | some r => if r.d.op = true ∧ 0 < r.left then ⟨x.rs, push x.st r.sort k⟩ else x
def stepP (k : Nat) (x : PS) : PS :=
  match x.rs[k]? with
  | none => x
  | some r => pushP k (whileP k r.left.toNat x)
def pairTo (rs : List RunS) : Nat → PS
  | 0 => ⟨rs, []⟩
  | k + 1 => stepP k (pairTo rs k)
def pairR (rs : List RunS) : List RunS := (pairTo rs rs.length).rs
abbrev flatA (RA : List RAd) : List Addr := RA.flatMap RAd.l
structure PInv (P : Program) (w : World) (C : Addr) (H0 H : Hp) (lr D : Addr) (RA : List RAd) (ents : List Ent) (x : PS) (k : Nat) : Prop where
  len : RA.length = x.rs.length
  runs : ∀ (i : Nat) a s, RA[i]? = some a → x.rs[i]? = some s → RunOk C H a s
  hL : H lr = some (.lst (RA.map fun a => V.ref a.1))
  hD : H D = some (dictE P w D ents)
  stk : StksOk H ents x.st
  nd : (flatA RA ++ lr :: ents.map fun e => e.2.2).Nodup
  bnd : ∀ z ∈ x.st, (∀ n ∈ z.2, n < k) ∧ z.2.length ≤ k
  lenE : ents.length ≤ k
  nD : H0 D = none
  nS : ∀ e ∈ ents, H0 e.2.2 = none
  fr : ∀ b o, b ∉ flatA RA → H0 b = some o → H b = some o
theorem RunOk.same {C : Addr} {H H' : Hp} {a : RAd} {s : RunS} (h : RunOk C H a s) (sm : ∀ b ∈ RAd.l a, ∀ o, H b = some o → H' b = some o) : RunOk C H' a s :=
  let ⟨⟨dr, h1⟩, h2, h3⟩ := h
  ⟨⟨dr, sm _ (by simp [RAd.l]) _ h1⟩, sm _ (by simp [RAd.l]) _ h2, sm _ (by simp [RAd.l]) _ h3⟩
theorem flat_mem {RA : List RAd} {i : Nat} {a : RAd} (h : RA[i]? = some a) {b : Addr} (hb : b ∈ RAd.l a) : b ∈ flatA RA := List.mem_flatMap.mpr ⟨a, List.mem_of_getElem? h, hb⟩
theorem flat_apart : ∀ {RA : List RAd}, (flatA RA).Nodup → ∀ {m n : Nat} {c d : RAd}, RA[m]? = some c → RA[n]? = some d → m ≠ n → ∀ y ∈ RAd.l c, y ∉ RAd.l d
  | [], _, _, _, _, _, h, _, _, _, _ => by cases h
  | a :: RA, nd, m, n, c, d, hc, hd, hmn, y, h1 => fun h2 => by
    have nd' : (RAd.l a ++ flatA RA).Nodup := nd
    rw [List.nodup_append] at nd'
    obtain ⟨_, n2, n3⟩ := nd'
    cases m with
    | zero =>
      cases hc
      cases n with
      | zero => exact hmn rfl
      | succ n => exact n3 y h1 y (flat_mem (RA := RA) (i := n) hd h2) rfl
    | succ m =>
      cases n with
      | zero =>
        cases hd
        exact n3 y h2 y (flat_mem (RA := RA) (i := m) hc h1) rfl
      | succ n => exact flat_apart n2 (m := m) (n := n) hc hd (fun e => hmn (by rw [e])) y h1 h2
section
variable {P : Program} {w : World} {C : Addr} {H0 H H' : Hp} {lr D : Addr} {RA : List RAd} {ents : List Ent} {x : PS} {k : Nat}
theorem PInv.same (h : PInv P w C H0 H lr D RA ents x k) (sm : Same H H') : PInv P w C H0 H' lr D RA ents x k where
  len := h.len
  runs := fun i a s ha hs => (h.runs i a s ha hs).same fun b _ o e => sm b o e
  hL := sm _ _ h.hL
  hD := sm _ _ h.hD
  stk := ⟨h.stk.len, fun i e z he hz => let ⟨a, b, c⟩ := h.stk.at' i e z he hz; ⟨a, sm _ _ b, sm _ _ c⟩⟩
  nd := h.nd
  bnd := h.bnd
  lenE := h.lenE
  nD := h.nD
  nS := h.nS
  fr := fun b o hb e => sm _ _ (h.fr b o hb e)
theorem PInv.up (h : PInv P w C H0 H lr D RA ents x k) {k' : Nat} (hk : k ≤ k') : PInv P w C H0 H lr D RA ents x k' where
  len := h.len
  runs := h.runs
  hL := h.hL
  hD := h.hD
  stk := h.stk
  nd := h.nd
  bnd := fun z hz => ⟨fun n hn => Nat.lt_of_lt_of_le ((h.bnd z hz).1 n hn) hk, Nat.le_trans (h.bnd z hz).2 hk⟩
  lenE := Nat.le_trans h.lenE hk
  nD := h.nD
  nS := h.nS
  fr := h.fr
/-- a stack is changed -/
theorem PInv.cut (h : PInv P w C H0 H lr D RA ents x k) {j : Nat} {e : Ent} {z : Stk} (he : ents[j]? = some e) (hz : x.st[j]? = some z) {l : List Nat} (hl : (∀ n ∈ l, n < k) ∧ l.length ≤ k) :
    PInv P w C H0 (upd H e.2.2 (.lst (intsV l))) lr D RA ents ⟨x.rs, x.st.set j (z.1, l)⟩ k := by
  have nd := h.nd
  rw [List.nodup_append] at nd
  obtain ⟨n1, n2, n3⟩ := nd
  rw [List.nodup_cons] at n2
  obtain ⟨n4, n5⟩ := n2
  have em : e.2.2 ∈ ents.map fun e => e.2.2 := List.mem_map.mpr ⟨e, List.mem_of_getElem? he, rfl⟩
  obtain ⟨e1, e2, e3⟩ := h.stk.at' j e z he hz
  have nF : ∀ b ∈ flatA RA, b ≠ e.2.2 := fun b hb q => n3 b hb e.2.2 (List.mem_cons_of_mem _ em) q
  have nl : lr ≠ e.2.2 := fun q => n4 (by rw [q]; exact em)
  have nDd : D ≠ e.2.2 := (ne_of e3 h.hD (fun q => by unfold dictE at q; cases q)).symm
  have jl : j < x.st.length := (List.getElem?_eq_some_iff.mp hz).1
  refine ⟨h.len, fun i a s ha hs => (h.runs i a s ha hs).same fun b hb o q => ?_, ?_, ?_, ⟨by rw [List.length_set]; exact h.stk.len, fun i f y hf hy => ?_⟩, h.nd, fun y hy => ?_, h.lenE, h.nD, h.nS, fun b o hb q => ?_⟩
  · rw [upd_ne (nF b (flat_mem ha hb))]
    exact q
  · rw [upd_ne nl]
    exact h.hL
  · rw [upd_ne nDd]
    exact h.hD
  · by_cases q : i = j
    · subst q
      rw [he] at hf
      cases hf
      rw [List.getElem?_set_self jl] at hy
      cases hy
      exact ⟨e1, by rw [upd_ne (ne_of e2 e3 (fun q => by cases q))]; exact e2, upd_same⟩
    · rw [List.getElem?_set_ne (Ne.symm q)] at hy
      obtain ⟨f1, f2, f3⟩ := h.stk.at' i f y hf hy
      refine ⟨f1, by rw [upd_ne (ne_of f2 e3 (fun q => by cases q))]; exact f2, ?_⟩
      rw [upd_ne]
      · exact f3
      · intro c
        apply q
        have a1 : (ents.map fun e => e.2.2)[i]? = some f.2.2 := by rw [List.getElem?_map, hf]; rfl
        have a2 : (ents.map fun e => e.2.2)[j]? = some f.2.2 := by rw [List.getElem?_map, he, c]; rfl
        have il : i < (ents.map fun e => e.2.2).length := (List.getElem?_eq_some_iff.mp a1).1
        exact (List.getElem?_inj il n5).mp (a1.trans a2.symm)
  · rcases List.mem_or_eq_of_mem_set hy with hy | rfl
    · exact h.bnd y hy
    · exact hl
  · rw [upd_ne]
    · exact h.fr b o hb q
    · intro c
      rw [c, h.nS e (List.mem_of_getElem? he)] at q
      cases q
/-- two runs are taken of -/
theorem PInv.take (h : PInv P w C H0 H lr D RA ents x k) {i j : Nat} (hij : i ≠ j) {a b : RAd} (ha : RA[i]? = some a) (hb : RA[j]? = some b) {s t : RunS} (ha' : RunOk C H' a s) (hb' : RunOk C H' b t) (hf : ∀ y o, y ∉ RAd.l a ++ RAd.l b → H y = some o → H' y = some o) :
    PInv P w C H0 H' lr D RA ents ⟨(x.rs.set i s).set j t, x.st⟩ k := by
  have nd := h.nd
  rw [List.nodup_append] at nd
  obtain ⟨n1, n2, n3⟩ := nd
  have il : i < RA.length := (List.getElem?_eq_some_iff.mp ha).1
  have jl : j < RA.length := (List.getElem?_eq_some_iff.mp hb).1
  have sub : ∀ y ∈ RAd.l a ++ RAd.l b, y ∈ flatA RA := fun y hy => by
    rcases List.mem_append.mp hy with hy | hy
    · exact flat_mem ha hy
    · exact flat_mem hb hy
  have out : ∀ y ∈ (lr :: ents.map fun e => e.2.2), y ∉ RAd.l a ++ RAd.l b := fun y hy q => n3 y (sub y q) y hy rfl
  have apart : ∀ (m : Nat) c, RA[m]? = some c → m ≠ i → m ≠ j → ∀ y ∈ RAd.l c, y ∉ RAd.l a ++ RAd.l b := fun m c hc h1 h2 y hy q => by
    rcases List.mem_append.mp q with q | q
    · exact flat_apart n1 hc ha h1 y hy q
    · exact flat_apart n1 hc hb h2 y hy q
  have nRun : ∀ y ∈ RAd.l a ++ RAd.l b, (∃ xs, H y = some (.lst xs)) ∨ ∃ C dx fs, H y = some (.ins C dx fs) := fun y hy => by
    have one : ∀ (m : Nat) c, RA[m]? = some c → y ∈ RAd.l c → (∃ xs, H y = some (.lst xs)) ∨ ∃ C dx fs, H y = some (.ins C dx fs) := fun m c hc hm => by
      have ml : m < x.rs.length := by rw [← h.len]; exact (List.getElem?_eq_some_iff.mp hc).1
      obtain ⟨⟨dr, r1⟩, r2, r3⟩ := h.runs m c _ hc (List.getElem?_eq_getElem ml)
      simp only [RAd.l, List.mem_cons, List.not_mem_nil, or_false] at hm
      rcases hm with rfl | rfl | rfl
      · exact .inr ⟨_, _, _, r1⟩
      · exact .inl ⟨_, r2⟩
      · exact .inl ⟨_, r3⟩
    rcases List.mem_append.mp hy with hy | hy
    · exact one i a ha hy
    · exact one j b hb hy
  have other : ∀ y o, H y = some o → (∀ xs, o ≠ .lst xs) → (∀ C dx fs, o ≠ .ins C dx fs) → H' y = some o := fun y o e q1 q2 => hf y o (fun hm => by
    rcases nRun y hm with ⟨xs, z⟩ | ⟨C, dx, fs, z⟩
    · rw [e] at z
      exact q1 _ (Option.some.inj z)
    · rw [e] at z
      exact q2 _ _ _ (Option.some.inj z)) e
  refine ⟨by rw [List.length_set, List.length_set]; exact h.len, fun m c r hc hr => ?_, hf _ _ (out _ (List.mem_cons_self ..)) h.hL, other _ _ h.hD (fun _ q => by unfold dictE at q; cases q) (fun _ _ _ q => by unfold dictE at q; cases q), ⟨h.stk.len, fun m e z he hz => ?_⟩, h.nd, h.bnd, h.lenE, h.nD, h.nS, fun y o hy q => ?_⟩
  · by_cases e2 : m = j
    · subst e2
      rw [List.getElem?_set_self (by rw [List.length_set, ← h.len]; exact jl)] at hr
      rw [hb] at hc
      cases hc
      cases hr
      exact hb'
    · rw [List.getElem?_set_ne (Ne.symm e2)] at hr
      by_cases e1 : m = i
      · subst e1
        rw [List.getElem?_set_self (by rw [← h.len]; exact il)] at hr
        rw [ha] at hc
        cases hc
        cases hr
        exact ha'
      · rw [List.getElem?_set_ne (Ne.symm e1)] at hr
        exact (h.runs m c r hc hr).same fun y hy o q => hf y o (apart m c hc e1 e2 y hy) q
  · obtain ⟨a1, a2, a3⟩ := h.stk.at' m e z he hz
    exact ⟨a1, other _ _ a2 (fun _ q => by cases q) (fun _ _ _ q => by cases q), hf _ _ (out _ (List.mem_cons_of_mem _ (List.mem_map.mpr ⟨e, List.mem_of_getElem? he, rfl⟩))) a3⟩
  · exact hf y o (fun q2 => hy (sub y q2)) (h.fr y o hy q)
end
theorem lookE_some {s : SortD} {k : Nat} {l : Addr} : ∀ {ents : List Ent} {st : List Stk}, ents.length = st.length → (∀ (i : Nat) e z, ents[i]? = some e → st[i]? = some z → e.1 = leafS z.1) → lookE ents (leafS s) = some l → ∃ (j : Nat) (e : Ent) (z : Stk), ents[j]? = some e ∧ st[j]? = some z ∧ e.2.2 = l ∧ push st s k = st.set j (z.1, z.2 ++ [k])
  | [], _, _, _, h => by cases h
  | e :: ents, [], h, _, _ => by cases h
  | e :: ents, z :: st, hl, hk, h => by
    have h0 := hk 0 e z rfl rfl
    unfold lookE at h
    rw [List.find?_cons] at h
    by_cases q : z.1 = s
    · rw [show decide (e.1 = leafS s) = true from decide_eq_true (by rw [h0, q])] at h
      cases h
      refine ⟨0, e, z, rfl, rfl, rfl, ?_⟩
      show (if z.1 = s then _ else _) = _
      rw [if_pos q]
      rfl
    · rw [show decide (e.1 = leafS s) = false from decide_eq_false (fun c => q (leafS_inj (h0.symm.trans c)))] at h
      obtain ⟨j, e', z', h1, h2, h3, h4⟩ := lookE_some (s := s) (k := k) (l := l) (ents := ents) (st := st) (Nat.succ.inj hl) (fun i a b ha hb => hk (i + 1) a b ha hb) h
      refine ⟨j + 1, e', z', h1, h2, h3, ?_⟩
      show (if z.1 = s then _ else _) = _
      rw [if_neg q, h4]
      rfl
theorem lookE_none {s : SortD} {k : Nat} : ∀ {ents : List Ent} {st : List Stk}, ents.length = st.length → (∀ (i : Nat) e z, ents[i]? = some e → st[i]? = some z → e.1 = leafS z.1) → lookE ents (leafS s) = none → push st s k = st ++ [(s, [k])]
  | [], [], _, _, _ => rfl
  | [], _ :: _, h, _, _ => by cases h
  | e :: ents, [], h, _, _ => by cases h
  | e :: ents, z :: st, hl, hk, h => by
    have h0 := hk 0 e z rfl rfl
    unfold lookE at h
    rw [List.find?_cons] at h
    by_cases q : z.1 = s
    · rw [show decide (e.1 = leafS s) = true from decide_eq_true (by rw [h0, q])] at h
      cases h
    · rw [show decide (e.1 = leafS s) = false from decide_eq_false (fun c => q (leafS_inj (h0.symm.trans c)))] at h
      show (if z.1 = s then _ else _) = _
      rw [if_neg q, lookE_none (s := s) (k := k) (ents := ents) (st := st) (Nat.succ.inj hl) (fun i a b ha hb => hk (i + 1) a b ha hb) h]
      rfl
section
variable {P : Program} {w : World} {C : Addr} {H0 H H' : Hp} {lr D : Addr} {RA : List RAd} {ents : List Ent} {x : PS} {k : Nat}
theorem PInv.keys (h : PInv P w C H0 H lr D RA ents x k) : ∀ (i : Nat) e z, ents[i]? = some e → x.st[i]? = some z → e.1 = leafS z.1 := fun i e z he hz => (h.stk.at' i e z he hz).1
theorem PInv.own (h : PInv P w C H0 H lr D RA ents x k) : ∀ b ∈ flatA RA ++ lr :: ents.map (fun e => e.2.2), ∃ o, H b = some o := fun b hb => by
  rcases List.mem_append.mp hb with hb | hb
  · obtain ⟨a, ha, hb⟩ := List.mem_flatMap.mp hb
    obtain ⟨i, hi⟩ := List.mem_iff_getElem?.mp ha
    have il : i < x.rs.length := by rw [← h.len]; exact (List.getElem?_eq_some_iff.mp hi).1
    obtain ⟨⟨dr, r1⟩, r2, r3⟩ := h.runs i a _ hi (List.getElem?_eq_getElem il)
    simp only [RAd.l, List.mem_cons, List.not_mem_nil, or_false] at hb
    rcases hb with rfl | rfl | rfl
    · exact ⟨_, r1⟩
    · exact ⟨_, r2⟩
    · exact ⟨_, r3⟩
  · rcases List.mem_cons.mp hb with rfl | hb
    · exact ⟨_, h.hL⟩
    · obtain ⟨e, he, rfl⟩ := List.mem_map.mp hb
      obtain ⟨i, hi⟩ := List.mem_iff_getElem?.mp he
      have il : i < x.st.length := by rw [← h.stk.len]; exact (List.getElem?_eq_some_iff.mp hi).1
      exact ⟨_, (h.stk.at' i e _ hi (List.getElem?_eq_getElem il)).2.2⟩
/-- a number behind its stack -/
theorem PInv.pushOld (h : PInv P w C H0 H lr D RA ents x k) {s : SortD} {l : Addr} (hl : lookE ents (leafS s) = some l) :
    ∃ ns : List Nat, H l = some (.lst (intsV ns)) ∧ ns.length ≤ k ∧ PInv P w C H0 (upd H l (.lst (intsV ns ++ [.int (k : Int)]))) lr D RA ents ⟨x.rs, push x.st s k⟩ (k + 1) := by
  obtain ⟨j, e, z, he, hz, rfl, hp⟩ := lookE_some (k := k) h.stk.len h.keys hl
  have hb := h.bnd z (List.mem_of_getElem? hz)
  refine ⟨z.2, (h.stk.at' j e z he hz).2.2, hb.2, ?_⟩
  have := (h.up (Nat.le_succ k)).cut he hz (l := z.2 ++ [k]) ⟨fun n hn => by
    rcases List.mem_append.mp hn with hn | hn
    · have := hb.1 n hn
      omega
    · rw [List.mem_singleton] at hn
      omega, by rw [List.length_append, List.length_singleton]; exact Nat.succ_le_succ hb.2⟩
  rw [intsV_app] at this
  rw [hp]
  exact this
/-- a new stack -/
theorem PInv.pushNew (h : PInv P w C H0 H lr D RA ents x k) {s : SortD} {q l : Addr} (hl : lookE ents (leafS s) = none) (hq : H q = some (.tup (sortV s))) (hl0 : H l = some (.lst [])) (nl : l ∉ flatA RA ++ lr :: ents.map (fun e => e.2.2)) (n0 : H0 l = none) :
    PInv P w C H0 (upd (upd H D (dictE P w D (ents ++ [(leafS s, q, l)]))) l (.lst [.int (k : Int)])) lr D RA (ents ++ [(leafS s, q, l)]) ⟨x.rs, push x.st s k⟩ (k + 1) := by
  rw [lookE_none (k := k) h.stk.len h.keys hl]
  have hlD : l ≠ D := ne_of hl0 h.hD (fun z => by unfold dictE at z; cases z)
  have dK : ∀ {b : Addr} {o : HO}, H b = some o → (∀ φ, o ≠ .ext φ) → b ≠ D := fun e n => ne_of e h.hD (fun z => n _ z)
  have fl : ∀ b ∈ flatA RA ++ lr :: ents.map (fun e => e.2.2), b ≠ l := fun b hb z => nl (by rw [← z]; exact hb)
  have keep : ∀ {b : Addr} {o : HO}, b ≠ l → H b = some o → (∀ φ, o ≠ .ext φ) → (upd (upd H D (dictE P w D (ents ++ [(leafS s, q, l)]))) l (.lst [.int (k : Int)])) b = some o := fun nb e n => by
    rw [upd_ne nb, upd_ne (dK e n)]
    exact e
  have ql : q ≠ l := ne_of hq hl0 (fun z => by cases z)
  refine ⟨h.len, fun i a t ha ht => ?_, keep (fl lr (by simp)) h.hL (fun _ z => by cases z), by rw [upd_ne (Ne.symm hlD)]; exact upd_same, ⟨?_, fun i e z he hz => ?_⟩, ?_, fun z hz => ?_, ?_, h.nD, fun e he => ?_, fun b o hb e => ?_⟩
  · obtain ⟨⟨dr, r1⟩, r2, r3⟩ := h.runs i a t ha ht
    have m : ∀ b ∈ RAd.l a, b ≠ l := fun b hb => fl b (List.mem_append_left _ (flat_mem ha hb))
    exact ⟨⟨dr, keep (m _ (by simp [RAd.l])) r1 (fun _ z => by cases z)⟩, keep (m _ (by simp [RAd.l])) r2 (fun _ z => by cases z), keep (m _ (by simp [RAd.l])) r3 (fun _ z => by cases z)⟩
  · rw [List.length_append, List.length_append, h.stk.len]
    rfl
  · by_cases c : i < ents.length
    · rw [List.getElem?_append_left c] at he
      rw [List.getElem?_append_left (by rw [← h.stk.len]; exact c)] at hz
      obtain ⟨a1, a2, a3⟩ := h.stk.at' i e z he hz
      exact ⟨a1, keep (ne_of a2 hl0 (fun z => by cases z)) a2 (fun _ z => by cases z), keep (fl _ (List.mem_append_right _ (List.mem_cons_of_mem _ (List.mem_map.mpr ⟨e, List.mem_of_getElem? he, rfl⟩)))) a3 (fun _ z => by cases z)⟩
    · have hi : i = ents.length := by
        have := (List.getElem?_eq_some_iff.mp he).1
        rw [List.length_append, List.length_singleton] at this
        omega
      rw [hi, List.getElem?_concat_length] at he
      rw [hi, h.stk.len, List.getElem?_concat_length] at hz
      cases he
      cases hz
      exact ⟨rfl, keep ql hq (fun _ z => by cases z), upd_same⟩
  · rw [List.map_append]
    have e1 : flatA RA ++ lr :: (ents.map (fun e => e.2.2) ++ [(leafS s, q, l)].map (fun e : Ent => e.2.2)) = (flatA RA ++ lr :: ents.map (fun e => e.2.2)) ++ [l] := by simp
    rw [e1, List.nodup_append]
    refine ⟨h.nd, by simp, fun a ha b hb z => ?_⟩
    rw [List.mem_singleton] at hb
    exact fl a ha (z.trans hb)
  · rcases List.mem_append.mp hz with hz | hz
    · have := h.bnd z hz
      exact ⟨fun n hn => Nat.lt_succ_of_lt (this.1 n hn), Nat.le_succ_of_le this.2⟩
    · rw [List.mem_singleton] at hz
      subst hz
      refine ⟨fun n hn => ?_, by simp⟩
      rw [List.mem_singleton] at hn
      omega
  · rw [List.length_append, List.length_singleton]
    exact Nat.succ_le_succ h.lenE
  · rcases List.mem_append.mp he with he | he
    · exact h.nS e he
    · rw [List.mem_singleton] at he
      subst he
      exact n0
  · have nb : b ≠ l := fun z => by rw [z, n0] at e; cases e
    have nbD : b ≠ D := fun z => by rw [z, h.nD] at e; cases e
    rw [upd_ne nb, upd_ne nbD]
    exact h.fr b o hb e
end
theorem seq_K {a u : TS} {D : Ends} {σ : L2.St} {H : Hp} (P : L2.St → Hp → Prop) (h1 : ∀ N : L2.St → Hp → Prop, (∀ σ' H', P σ' H' → N σ' H') → a { D with nx := N } σ H) (h2 : ∀ σ' H', P σ' H' → u D σ' H') : tSeq a u D σ H := h1 _ h2
theorem seq_Kg {a u : TS} {D : Ends} {σ : L2.St} {H : Hp} {i : Nat} {x : V} (P : L2.St → Hp → Prop) (h1 : ∀ N : L2.St → Hp → Prop, (∀ σ' H', P σ' H' → N σ' H') → a { D with nx := N } (σ.set i (some x)) H) (h2 : ∀ σ' H', P σ' H' → u D σ' H') : gName i x σ H { D with nx := tSeq a u D }.nx := h1 _ h2
def tot (rs : List RunS) (k : Nat) : Nat := ((rs.drop k).map fun r => r.left.toNat).sum
def Cnt (rs : List RunS) (k : Nat) : Prop := ∃ c, (∀ r ∈ rs, r.en.length ≤ c ∧ r.be.length ≤ c) ∧ c + tot rs k ≤ 900000
def RunsOk (C : Addr) (H : Hp) (RA : List RAd) (rs : List RunS) : Prop := RA.length = rs.length ∧ ∀ (i : Nat) a s, RA[i]? = some a → rs[i]? = some s → RunOk C H a s
theorem cut_nil (p : Nat) : cutAbove p [] = [] := rfl
theorem cut_pop {p t : Nat} (l : List Nat) (h : p < t) : cutAbove p (l ++ [t]) = cutAbove p l := by
  unfold cutAbove
  rw [List.reverse_append, List.reverse_singleton, List.singleton_append, List.dropWhile_cons, if_pos (decide_eq_true h)]
theorem cut_stay {p t : Nat} (l : List Nat) (h : t ≤ p) : cutAbove p (l ++ [t]) = l ++ [t] := by
  unfold cutAbove
  rw [List.reverse_append, List.reverse_singleton, List.singleton_append, List.dropWhile_cons, if_neg (by simp; omega), List.reverse_cons, List.reverse_reverse]
def cutZ (p : Nat) (z : Stk) : Stk := (z.1, cutAbove p z.2)
def cutTo (p : Nat) (st : List Stk) (i : Nat) : List Stk := (st.take i).map (cutZ p) ++ st.drop i
theorem cutTo_zero (p : Nat) (st : List Stk) : cutTo p st 0 = st := by simp [cutTo]
theorem cutTo_all (p : Nat) (st : List Stk) : cutTo p st st.length = st.map (cutZ p) := by simp [cutTo]
theorem cutTo_at {p : Nat} {st : List Stk} {i : Nat} {z : Stk} (h : st[i]? = some z) : (cutTo p st i)[i]? = some z := by
  obtain ⟨hi, rfl⟩ := List.getElem?_eq_some_iff.mp h
  unfold cutTo
  have hl : ((st.take i).map (cutZ p)).length = i := by rw [List.length_map, List.length_take]; omega
  rw [List.getElem?_append_right (by omega), hl, Nat.sub_self, List.getElem?_drop, Nat.add_zero]
  exact h
theorem cutTo_succ {p : Nat} {st : List Stk} {i : Nat} {z : Stk} (h : st[i]? = some z) : (cutTo p st i).set i (cutZ p z) = cutTo p st (i + 1) := by
  obtain ⟨hi, rfl⟩ := List.getElem?_eq_some_iff.mp h
  unfold cutTo
  have hl : ((st.take i).map (cutZ p)).length = i := by rw [List.length_map, List.length_take]; omega
  rw [List.set_append_right _ _ (by omega), hl, Nat.sub_self, List.drop_eq_getElem_cons hi, List.set_cons_zero, List.take_succ, h, List.map_append, List.append_assoc]
  rfl
theorem flat_two {RA : List RAd} (nd : (flatA RA).Nodup) {m n : Nat} {c d : RAd} (hc : RA[m]? = some c) (hd : RA[n]? = some d) (hmn : m ≠ n) : (RAd.l c ++ RAd.l d).Nodup := by
  have one : ∀ {RA : List RAd}, (flatA RA).Nodup → ∀ {m : Nat} {c : RAd}, RA[m]? = some c → (RAd.l c).Nodup := by
    intro RA
    induction RA with
    | nil => intro _ m c h; cases h
    | cons a RA ih =>
      intro nd m c h
      have nd' : (RAd.l a ++ flatA RA).Nodup := nd
      rw [List.nodup_append] at nd'
      cases m with
      | zero =>
        cases h
        exact nd'.1
      | succ m => exact ih nd'.2.1 h
  rw [List.nodup_append]
  exact ⟨one nd hc, one nd hd, fun a ha b hb e => flat_apart nd hc hd hmn a ha (by rw [e]; exact hb)⟩
theorem tot_succ {rs : List RunS} {k : Nat} {t : RunS} (h : rs[k]? = some t) : tot rs k = t.left.toNat + tot rs (k + 1) := by
  obtain ⟨hi, rfl⟩ := List.getElem?_eq_some_iff.mp h
  unfold tot
  rw [List.drop_eq_getElem_cons hi, List.map_cons, List.sum_cons]
theorem Cnt.next {rs : List RunS} {k : Nat} (h : Cnt rs k) : Cnt rs (k + 1) := by
  obtain ⟨c, h1, h2⟩ := h
  refine ⟨c, h1, ?_⟩
  cases e : rs[k]? with
  | some t =>
    rw [tot_succ e] at h2
    omega
  | none =>
    have hk := List.getElem?_eq_none_iff.mp e
    unfold tot at h2 ⊢
    rw [List.drop_eq_nil_of_le hk] at h2
    rw [List.drop_eq_nil_of_le (by omega)]
    exact h2
theorem many_pos (b : Bool) : 1 ≤ manyB b := by cases b <;> decide
theorem Cnt.take {rs : List RunS} {p k : Nat} {s t : RunS} (h : Cnt rs k) (hpk : p < k) (hs : rs[p]? = some s) (ht : rs[k]? = some t) (hl : 0 < t.left) : Cnt ((rs.set p (giveB s t)).set k (takeB s t)) k := by
  obtain ⟨c, h1, h2⟩ := h
  refine ⟨c + 1, fun r hr => ?_, ?_⟩
  · rcases List.mem_or_eq_of_mem_set hr with hr | rfl
    · rcases List.mem_or_eq_of_mem_set hr with hr | rfl
      · have := h1 r hr
        omega
      · have := h1 s (List.mem_of_getElem? hs)
        constructor
        · show s.en.length ≤ c + 1
          omega
        · show (s.be ++ [twoB s t]).length ≤ c + 1
          rw [List.length_append, List.length_singleton]
          omega
    · have := h1 t (List.mem_of_getElem? ht)
      constructor
      · show (t.en ++ [twoB s t]).length ≤ c + 1
        rw [List.length_append, List.length_singleton]
        omega
      · show t.be.length ≤ c + 1
        omega
  · obtain ⟨hk, _⟩ := List.getElem?_eq_some_iff.mp ht
    have e1 : ((rs.set p (giveB s t)).set k (takeB s t))[k]? = some (takeB s t) := List.getElem?_set_self (by rw [List.length_set]; exact hk)
    rw [tot_succ e1]
    rw [tot_succ ht] at h2
    have e2 : tot ((rs.set p (giveB s t)).set k (takeB s t)) (k + 1) = tot rs (k + 1) := by
      unfold tot
      rw [List.drop_set_of_lt (by omega), List.drop_set_of_lt (by omega)]
    rw [e2]
    have := many_pos (twoB s t)
    have e3 : (takeB s t).left = t.left - manyB (twoB s t) := rfl
    rw [e3]
    omega
theorem turnP_some {k j p : Nat} {x : PS} {r a : RunS} (hr : x.rs[k]? = some r) (hn : nearTo r.sort x.st x.st.length = some (j, p)) (ha : x.rs[p]? = some a) :
    turnP k x = some ⟨(x.rs.set p (giveB a r)).set k (takeB a r), if (giveB a r).left = 0 then (x.st.map (cutZ p)).modify j (fun z => (z.1, z.2.dropLast)) else x.st.map (cutZ p)⟩ := by
  simp [turnP, hr, hn, ha]
  rfl
theorem modify_set {α : Type} {l : List α} {j : Nat} {f : α → α} {y : α} (h : l[j]? = some y) : l.modify j f = l.set j (f y) := by
  obtain ⟨hj, rfl⟩ := List.getElem?_eq_some_iff.mp h
  apply List.ext_getElem?
  intro i
  rw [List.getElem?_modify, List.getElem?_set]
  by_cases e : j = i
  · subst e
    rw [if_pos rfl, if_pos hj, h]
    show some (if j = j then f l[j] else l[j]) = _
    rw [if_pos rfl]
  · rw [if_neg e]
    cases l[i]? with
    | none => rfl
    | some v =>
      show some (if j = i then f v else v) = _
      rw [if_neg e]
theorem dec_int0 (i : Int) : decide (V.int i = V.int 0) = decide (i = 0) := decide_eq_decide.mpr ⟨fun h => V.int.inj h, fun h => by rw [h]⟩
def sp_pair (P : Program) (w : World) (K : PySem.W.Frag) (C : Addr) : Sp := fun vs H Q _ => ∃ (lr : Addr) (RA : List RAd) (rs : List RunS), vs = [.ref lr] ∧ H lr = some (.lst (RA.map fun a => V.ref a.1)) ∧ RunsOk C H RA rs ∧ (flatA RA ++ [lr]).Nodup ∧ rs.length ≤ 100000 ∧ Cnt rs 0 ∧
  ∀ H', RunsOk C H' RA (pairR rs) → (∀ b o, b ∉ flatA RA → H b = some o → H' b = some o) → Q .non H'
theorem ok_pair {P : Program} {w : World} {K : PySem.W.Frag} {mg : Str → Option Value} {base : Heap} (T : Txt w K mg) : FnOk P w K mg base CX0 4 T.a_pair T.d_pair ["runs"] (sp_pair P w K T.c_Run) := by
  refine T.f_pair.ok sc_pair (fun vs H Q E h => ?_) (fun cdv A outer s H vs Q E hr h => ?_)
  · obtain ⟨lr, RA, rs, rfl, _⟩ := h
    rfl
  · obtain ⟨lr, RA, rs, rfl, hL, ⟨hlen, hruns⟩, nd, hsz, hc, q⟩ := h
    refine ⟨_, (pss_cons (ps_set (i := 1) sc_pair.nd rfl (.inl rfl) pe_dnewE)
        (pss_one (ps_for PassesOwn.never rfl (pi_enum (by rfl) T.z_enumerate (pa_cons (pv 0) pa_nil)) (pg_tup (by rfl) (pgs_cons (pg_name (i := 2) sc_pair.nd rfl (.inl rfl)) (pgs_cons (pg_name (i := 3) sc_pair.nd rfl (.inl rfl)) pgs_nil))) (pss_cons (ps_while PassesOwn.never (PW.pt (pw_and (pt_val (pe_fld (pv 3) rfl)) (pw_and1 (pt_cmpR op_gt (pe_fld (pv 3) rfl) pe_int (nomark _))))) (pss_cons (ps_set (i := 4) sc_pair.nd rfl (.inl rfl) (pe_call (ok_stack_of_partner T) (hr.mono (by decide)) (by rfl) T.g_stack_of_partner T.f_stack_of_partner.kp T.b_stack_of_partner .nil pass0 (pa_cons (pv 3) (pa_cons (pv 1) pa_nil))))
        (pss_cons (ps_if (pt_cmpR op_isN (pv 4) pe_non (nomark _)) (pss_one ps_break) pss_nil)
        (pss_cons (ps_set (i := 5) sc_pair.nd rfl (.inl rfl) (pe_ix ix_list (pv 4) (pe_un un_neg pe_int) (fun _ _ => rfl)))
        (pss_cons (ps_for PassesOwn.never rfl (pi_list (pe_callTy (call_listE rfl) (by rfl) T.z_list (by decide +kernel) (pa_cons (pe_bE0 PySem.F.slot_dict_values PySem.F.type_dict_values mt_valsE (pv 1)) pa_nil))) (pg_name (i := 6) sc_pair.nd rfl (.inl rfl)) (pss_one (ps_while PassesOwn.never (PW.pt (pw_and (pt_truth (pv 6) (by intro _; rfl)) (pw_and1 (pt_cmpR op_gt (pe_ix ix_list (pv 6) (pe_un un_neg pe_int) (fun _ _ => rfl)) (pv 5) (nomark _))))) (pss_one (ps_expr (pe_bm0 PySem.F.plainAttrs_list PySem.F.slot_list_pop PySem.F.type_list_pop mt_pop (pv 6)))))))
        (pss_cons (ps_expr (pe_call (ok_take_both T) (hr.mono (by decide)) (by rfl) T.g_take_both T.f_take_both.kp T.b_take_both .nil pass0 (pa_cons (pe_ix ix_list (pv 0) (pv 5) (fun _ _ => rfl)) (pa_cons (pv 3) pa_nil))))
        (pss_one (ps_if (pt_cmpR op_eq (pe_fld (pe_ix ix_list (pv 0) (pv 5) (fun _ _ => rfl)) rfl) pe_int (nomark _)) (pss_one (ps_expr (pe_bm0 PySem.F.plainAttrs_list PySem.F.slot_list_pop PySem.F.type_list_pop mt_pop (pv 4)))) pss_nil))))))))
        (pss_one (ps_if (PW.pt (pw_and (pt_val (pe_fld (pv 3) rfl)) (pw_and1 (pt_cmpR op_gt (pe_fld (pv 3) rfl) pe_int (nomark _))))) (pss_one (ps_expr (pe_bm PySem.F.plainAttrs_list PySem.F.slot_list_append PySem.F.type_list_append mt_append (pe_bE PySem.F.slot_dict_setdefault PySem.F.type_dict_setdefault (mt_setE (hu_of hr)) (pv 1) (pa_cons (pe_call (ok_sort_of T) (hr.mono (by decide)) (by rfl) T.g_sort_of T.f_sort_of.kp T.b_sort_of .nil pass0 (pa_cons (pv 3) pa_nil)) (pa_cons (pe_lst pa_nil) pa_nil))) (pa_cons (pv 2) pa_nil)))) pss_nil)))))), ?_⟩
    refine fun D nD => ?_
    have hL' : (upd H D (dictE P w D [])) lr = some (.lst (RA.map fun a => V.ref a.1)) := by
      rw [upd_ne (ne_of_none hL nD)]
      exact hL
    have p0 : PInv P w T.c_Run H (upd H D (dictE P w D [])) lr D RA [] (pairTo rs 0) 0 := by
      have sm : Same H (upd H D (dictE P w D [])) := same_new nD
      exact ⟨hlen, fun i a s ha hs => (hruns i a s ha hs).same fun b _ o e => sm _ _ e, hL', upd_same, ⟨rfl, fun i e z he _ => (by cases he)⟩, nd, fun z hz => (by cases hz), Nat.le_refl _, nD, fun e he => (by cases he), fun b o _ e => sm _ _ e⟩
    refine ⟨_, rfl, lr, _, rfl, SqL.of hL', for_it (walk_enum (K := K)) (fun k σ' H' => ∃ (v2 v3 v4 v5 v6 : Option V) (ents : List Ent), σ' = [some (.ref lr), some (.ref D), v2, v3, v4, v5, v6] ∧ PInv P w T.c_Run H H' lr D RA ents (pairTo rs k) k ∧ Cnt (pairTo rs k).rs k) ⟨_, _, _, _, _, _, rfl, p0, hc⟩ (fun k σ' H' _ ⟨_, _, _, _, _, _, _, h, _⟩ => SqL.of h.hL) ?_ ?_⟩
    · rintro k x σ' H1 H2 hk ⟨v2, v3, v4, v5, v6, ents, rfl, pi, hcnt⟩ yy
      obtain ⟨T0, xk, a0, rfl, nT, rfl, hxk, ha0⟩ := yy
      cases hxk
      rw [List.length_map] at hk
      obtain ⟨a, ha⟩ : ∃ a, RA[k]? = some a := ⟨_, List.getElem?_eq_getElem hk⟩
      have e0 : a0 = .ref a.1 := by
        have z : (RA.map fun a => V.ref a.1)[k]? = some a0 := ha0
        rw [List.getElem?_map, ha] at z
        exact (Option.some.inj z).symm
      subst e0
      refine ⟨T0, _, rfl, SqT.of upd_same, rfl, _, _, rfl, _, _, rfl, rfl, ?_⟩
      replace pi := pi.same (same_new nT (o := .tup [.int (k : Nat), .ref a.1]))
      generalize (upd H1 T0 (.tup [.int (k : Nat), .ref a.1])) = H2 at pi ⊢
      obtain ⟨r0, hr0⟩ : ∃ r, (pairTo rs k).rs[k]? = some r := ⟨_, List.getElem?_eq_getElem (by rw [← pi.len]; exact hk)⟩
      have hX : pairTo rs (k + 1) = pushP k (whileP k r0.left.toNat (pairTo rs k)) := by
        show (match (pairTo rs k).rs[k]? with | none => _ | some r => _) = _
        rw [hr0]
      refine seq_K (fun σ' H' => ∃ (v4 v5 v6 : Option V) (ents : List Ent) (x : PS), σ' = [some (.ref lr), some (.ref D), some (.int (k : Nat)), some (.ref a.1), v4, v5, v6] ∧ PInv P w T.c_Run H H' lr D RA ents x k ∧ Cnt x.rs k ∧ pairTo rs (k + 1) = pushP k x) (fun N hN => ?_) ?_
      refine ⟨fun m σ' H' => ∃ (v4 v5 v6 : Option V) (ents : List Ent) (x : PS) (r : RunS) (f : Nat), σ' = [some (.ref lr), some (.ref D), some (.int (k : Nat)), some (.ref a.1), v4, v5, v6] ∧ PInv P w T.c_Run H H' lr D RA ents x k ∧ Cnt x.rs k ∧ x.rs[k]? = some r ∧ r.left.toNat ≤ f ∧ pairTo rs (k + 1) = pushP k (whileP k f x) ∧ m = r.left.toNat, ⟨_, v4, v5, v6, ents, _, r0, _, rfl, pi, hcnt, hr0, Nat.le_refl _, hX, rfl⟩, ?_⟩
      clear hX hr0 pi hcnt v2 v3 v4 v5 v6 ents
      rintro m σ' H3 ⟨v4, v5, v6, ents, x, r, f, rfl, pi, hcnt, hr, hf, hX, rfl⟩
      obtain ⟨⟨dr, g1⟩, g2, g3⟩ := pi.runs k a r ha hr
      refine ⟨_, rfl, a.1, T.c_Run, dr, _, _, rfl, g1, T.cl_Run, T.na_Run_closes, rfl, _, rfl, ?_⟩
      have out : ¬ (r.d.cl = true ∧ 0 < r.left) → whileP k f x = x := fun n => by
        cases f with
        | zero => rfl
        | succ f =>
          show (match x.rs[k]? with | none => x | some r => if r.d.cl = true ∧ 0 < r.left then _ else x) = x
          rw [hr]
          show (if r.d.cl = true ∧ 0 < r.left then _ else x) = x
          rw [if_neg n]
      cases hcl : r.d.cl with
      | false =>
        refine iteF (iteF (hN _ _ ⟨v4, v5, v6, ents, x, rfl, pi, hcnt, ?_⟩))
        rw [hX, out (fun z => by rw [hcl] at z; exact Bool.false_ne_true z.1)]
      | true =>
        refine iteT ⟨_, rfl, a.1, T.c_Run, dr, _, _, rfl, g1, T.cl_Run, T.na_Run_left, rfl, _, _, rfl, rfl, _, rfl, ite2 (fun hlt => ?_) (fun hlt => ?_)⟩
        · have hl := of_decide_eq_true hlt
          refine ⟨_, fun _ _ z => z, ?_⟩
          refine ⟨_, rfl, _, rfl, a, r, D, ents, x.st, rfl, ⟨dr, g1⟩, pi.hD, pi.stk, fun H4 s4 => ?_⟩
          replace pi := pi.same s4
          obtain ⟨f, rfl⟩ : ∃ f', f = f' + 1 := ⟨f - 1, by omega⟩
          have hW : whileP k (f + 1) x = match turnP k x with | none => x | some y => whileP k f y := by
            show (match x.rs[k]? with | none => x | some r => if r.d.cl = true ∧ 0 < r.left then _ else x) = _
            rw [hr]
            show (if r.d.cl = true ∧ 0 < r.left then _ else x) = _
            rw [if_pos ⟨hcl, hl⟩]
            all_goals rfl
          cases hn : nearTo r.sort x.st x.st.length with
          | none =>
            refine ⟨_, rfl, rfl, _, rfl, ite2 (fun _ => ?_) (fun z => absurd (decide_eq_true rfl) z)⟩
            refine hN _ _ ⟨some .non, v5, v6, ents, x, rfl, pi, hcnt, ?_⟩
            have hT : turnP k x = none := by simp [turnP, hr, hn]
            rw [hX, hW, hT]
          | some jp =>
            obtain ⟨j, p⟩ := jp
            obtain ⟨hj, z, hz, hlz, _⟩ := near_spec hn
            have hje : j < ents.length := by rw [pi.stk.len]; exact hj
            obtain ⟨e, he⟩ : ∃ e, ents[j]? = some e := ⟨_, List.getElem?_eq_getElem hje⟩
            obtain ⟨e1, e2, e3⟩ := pi.stk.at' j e z he hz
            obtain ⟨ini, hini⟩ := List.getLast?_eq_some_iff.mp hlz
            have hrv : resV ents (some (j, p)) = .ref e.2.2 := by
              show (match ents[j]? with | none => V.non | some e => V.ref e.2.2) = _
              rw [he]
            rw [hrv]
            have e3' := e3
            rw [hini, intsV_app] at e3'
            refine ⟨_, rfl, rfl, _, rfl, ite2 (fun h => absurd (of_decide_eq_true h) (fun z => by cases z)) (fun _ => ?_)⟩
            refine ⟨_, rfl, _, rfl, e.2.2, _, _, _, rfl, rfl, SqL.of e3', atI_last _ _, ?_⟩
            refine seq_Kg (fun σ' H' => ∃ (v6 : Option V), σ' = [some (.ref lr), some (.ref D), some (.int (k : Nat)), some (.ref a.1), some (.ref e.2.2), some (.int (p : Int)), v6] ∧ PInv P w T.c_Run H H' lr D RA ents ⟨x.rs, x.st.map (cutZ p)⟩ k) (fun N2 hN2 => ?_) ?_
            · refine ⟨_, rfl, ⟨D, ents, rfl, pi.hD⟩, D, ents, rfl, rfl, pi.hD, fun pv npv => ?_⟩
              have pi1 := pi.same (same_new npv (o := valuesO pv D))
              refine ⟨pv, D, ents, rfl, upd_same, pi1.hD, fun l nl => ?_⟩
              have nol : ∀ b ∈ flatA RA ++ lr :: ents.map (fun e => e.2.2), b ≠ l := fun b hb z => by
                obtain ⟨o, ho⟩ := pi1.own b hb
                rw [z, nl] at ho
                cases ho
              have pi2 := pi1.same (same_new nl (o := .lst (ents.map fun e => V.ref e.2.2)))
              generalize hG : upd (upd H4 pv (valuesO pv D)) l (.lst (ents.map fun e => V.ref e.2.2)) = G at pi2 ⊢
              have hGl : G l = some (.lst (ents.map fun e => V.ref e.2.2)) := by rw [← hG]; exact upd_same
              clear hG
              refine ⟨l, rfl, ⟨_, SqL.of hGl⟩, for_list (fun i σ' H' => ∃ (v6 : Option V), σ' = [some (.ref lr), some (.ref D), some (.int (k : Nat)), some (.ref a.1), some (.ref e.2.2), some (.int (p : Int)), v6] ∧ PInv P w T.c_Run H H' lr D RA ents ⟨x.rs, cutTo p x.st i⟩ k ∧ H' l = some (.lst (ents.map fun e => V.ref e.2.2))) ⟨_, rfl, by rw [cutTo_zero]; exact pi2, hGl⟩ (fun i σ' H' _ ⟨_, _, _, h⟩ => SqL.of h) ?_ ?_⟩
              · rintro i y σ' H5 hy ⟨u6, rfl, pi5, hl5⟩
                obtain ⟨f, hf0, rfl⟩ : ∃ f, ents[i]? = some f ∧ y = .ref f.2.2 := by
                  rw [List.getElem?_map] at hy
                  cases h : ents[i]? with
                  | none => rw [h] at hy; cases hy
                  | some f => rw [h] at hy; exact ⟨f, rfl, (Option.some.inj hy).symm⟩
                have il : i < x.st.length := by rw [← pi.stk.len]; exact (List.getElem?_eq_some_iff.mp hf0).1
                have hzi := List.getElem?_eq_getElem il
                generalize x.st[i] = zi at hzi
                have hcat := cutTo_at (p := p) hzi
                have fl : f.2.2 ≠ l := nol _ (List.mem_append_right _ (List.mem_cons_of_mem _ (List.mem_map.mpr ⟨f, List.mem_of_getElem? hf0, rfl⟩)))
                have hset : (cutTo p x.st i).set i (zi.1, zi.2) = cutTo p x.st i := by
                  obtain ⟨hi2, hz2⟩ := List.getElem?_eq_some_iff.mp hcat
                  rw [show ((zi.1, zi.2) : Stk) = (cutTo p x.st i)[i] from hz2.symm, List.set_getElem_self]
                refine ⟨fun m σ' H' => ∃ (ns : List Nat), σ' = [some (.ref lr), some (.ref D), some (.int (k : Nat)), some (.ref a.1), some (.ref e.2.2), some (.int (p : Int)), some (.ref f.2.2)] ∧ cutAbove p ns = cutAbove p zi.2 ∧ (∀ n ∈ ns, n < k) ∧ ns.length ≤ k ∧ PInv P w T.c_Run H H' lr D RA ents ⟨x.rs, (cutTo p x.st i).set i (zi.1, ns)⟩ k ∧ H' l = some (.lst (ents.map fun e => V.ref e.2.2)) ∧ m = ns.length, ⟨_, zi.2, rfl, rfl, (pi.bnd zi (List.mem_of_getElem? hzi)).1, (pi.bnd zi (List.mem_of_getElem? hzi)).2, by rw [hset]; exact pi5, hl5, rfl⟩, ?_⟩
                rintro m σ' H6 ⟨ns, rfl, hcz, hb1, hb2, pi6, hl6, rfl⟩
                have il2 : i < (cutTo p x.st i).length := (List.getElem?_eq_some_iff.mp hcat).1
                have hns : ((cutTo p x.st i).set i (zi.1, ns))[i]? = some (zi.1, ns) := List.getElem?_set_self il2
                obtain ⟨_, _, g6⟩ := pi6.stk.at' i f _ hf0 hns
                have close : cutAbove p ns = ns → PInv P w T.c_Run H H6 lr D RA ents ⟨x.rs, cutTo p x.st (i + 1)⟩ k := fun hc => by
                  rw [← cutTo_succ hzi]
                  have : cutZ p zi = (zi.1, ns) := by
                    unfold cutZ
                    rw [← hcz, hc]
                  rw [this]
                  exact pi6
                cases hl : ns.getLast? with
                | none =>
                  have en := List.getLast?_eq_none_iff.mp hl
                  subst en
                  refine ⟨_, rfl, _, .inl ⟨_, SqL.of g6, rfl⟩, iteF (iteF ?_)⟩
                  exact ⟨_, rfl, close rfl, hl6⟩
                | some t =>
                  obtain ⟨ini2, rfl⟩ := List.getLast?_eq_some_iff.mp hl
                  rw [intsV_app, show intsV [t] = [V.int (t : Int)] from rfl] at g6
                  refine ⟨_, rfl, _, .inl ⟨_, SqL.of g6, rfl⟩, ?_⟩
                  rw [show (!(intsV ini2 ++ [V.int (t : Int)]).isEmpty) = true by cases intsV ini2 <;> rfl]
                  refine iteT ⟨_, rfl, _, rfl, f.2.2, _, _, _, rfl, rfl, SqL.of g6, atI_last _ _, _, rfl, _, _, rfl, rfl, _, rfl, ite2 (fun hlt => ?_) (fun hge => ?_)⟩
                  · have hpt : p < t := by
                      have := of_decide_eq_true hlt
                      omega
                    refine ⟨fun σ' H2 => ∃ m', m' < (ini2 ++ [t]).length ∧ ∃ (ns : List Nat), σ' = [some (.ref lr), some (.ref D), some (.int (k : Nat)), some (.ref a.1), some (.ref e.2.2), some (.int (p : Int)), some (.ref f.2.2)] ∧ cutAbove p ns = cutAbove p zi.2 ∧ (∀ n ∈ ns, n < k) ∧ ns.length ≤ k ∧ PInv P w T.c_Run H H2 lr D RA ents ⟨x.rs, (cutTo p x.st i).set i (zi.1, ns)⟩ k ∧ H2 l = some (.lst (ents.map fun e => V.ref e.2.2)) ∧ m' = ns.length, fun _ _ z => z, ?_⟩
                    refine ⟨_, rfl, .inl ⟨rfl, _, SqL.of g6⟩, f.2.2, _, .int (t : Int), rfl, rfl, g6, by simp, ?_⟩
                    have hb1' : ∀ n ∈ ini2, n < k := fun n hn => hb1 n (List.mem_append_left _ hn)
                    have hb2' : ini2.length ≤ k := by
                      rw [List.length_append] at hb2
                      omega
                    have pi7 := pi6.cut hf0 hns (l := ini2) ⟨hb1', hb2'⟩
                    rw [List.set_set] at pi7
                    refine ⟨ini2.length, by rw [List.length_append, List.length_singleton]; omega, ini2, rfl, by rw [← hcz, cut_pop _ hpt], hb1', hb2', ?_, by rw [upd_ne (Ne.symm fl)]; exact hl6, rfl⟩
                    rw [show (intsV ini2 ++ [V.int (t : Int)]).dropLast = intsV ini2 from List.dropLast_concat]
                    exact pi7
                  · have hpt : t ≤ p := by
                      by_cases z : t ≤ p
                      · exact z
                      · exact absurd (decide_eq_true (by omega)) hge
                    exact ⟨_, rfl, close (cut_stay _ hpt), hl6⟩
              · rintro σ' H5 ⟨u6, rfl, pi5, hl5⟩
                rw [List.length_map, pi.stk.len, cutTo_all] at pi5
                exact hN2 _ _ ⟨_, rfl, pi5⟩
            · rintro σ' H5 ⟨u6, rfl, pi5⟩
              have hpk : p < k := (pi.bnd z (List.mem_of_getElem? hz)).1 p (by rw [hini]; simp)
              have hpR : p < RA.length := Nat.lt_trans hpk hk
              obtain ⟨b, hb⟩ : ∃ b, RA[p]? = some b := ⟨_, List.getElem?_eq_getElem hpR⟩
              obtain ⟨sp, hsp⟩ : ∃ t, x.rs[p]? = some t := ⟨_, List.getElem?_eq_getElem (by rw [← pi.len]; exact hpR)⟩
              have hbV : (RA.map fun a => V.ref a.1)[p]? = some (.ref b.1) := by rw [List.getElem?_map, hb]; rfl
              obtain ⟨c, hc1, hc2⟩ := hcnt
              have hflat : (flatA RA).Nodup := (List.nodup_append.mp pi.nd).1
              refine ⟨_, rfl, _, rfl, lr, _, p, _, rfl, rfl, SqL.of pi5.hL, atI_nat (j := p) hbV, _, rfl, b, a, sp, r, rfl, pi5.runs p b sp hb hsp, pi5.runs k a r ha hr, flat_two hflat hb ha (by omega), ?_, ?_, fun H6 q1 q2 q3 => ?_⟩
              · have := (hc1 sp (List.mem_of_getElem? hsp)).2
                omega
              · have := (hc1 r (List.mem_of_getElem? hr)).1
                omega
              have pi6 := pi5.take (by omega : p ≠ k) hb ha q1 q2 q3
              have hbr := pi6.runs p b (giveB sp r) hb (by
                rw [List.getElem?_set_ne (by omega), List.getElem?_set_self (by rw [← pi.len]; exact hpR)])
              obtain ⟨⟨db, hbi⟩, _, _⟩ := hbr
              refine ⟨_, rfl, _, rfl, lr, _, p, _, rfl, rfl, SqL.of pi6.hL, atI_nat (j := p) hbV, b.1, T.c_Run, db, _, _, rfl, hbi, T.cl_Run, T.na_Run_left, rfl, rfl, _, rfl, ?_⟩
              have hT := turnP_some hr hn hsp
              have hkl : k < x.rs.length := (List.getElem?_eq_some_iff.mp hr).1
              have hrk : ((x.rs.set p (giveB sp r)).set k (takeB sp r))[k]? = some (takeB sp r) := List.getElem?_set_self (by rw [List.length_set]; exact hkl)
              have hcn := Cnt.take ⟨c, hc1, hc2⟩ hpk hsp hr hl
              have hmp := many_pos (twoB sp r)
              have hle : (takeB sp r).left.toNat < r.left.toNat := by
                show (r.left - manyB (twoB sp r)).toNat < r.left.toNat
                omega
              have fin : ∀ (st' : List Stk) (H7 : Hp), turnP k x = some ⟨(x.rs.set p (giveB sp r)).set k (takeB sp r), st'⟩ → PInv P w T.c_Run H H7 lr D RA ents ⟨(x.rs.set p (giveB sp r)).set k (takeB sp r), st'⟩ k → ∃ m', m' < r.left.toNat ∧ ∃ (v4 v5 v6 : Option V) (ents : List Ent) (x : PS) (r : RunS) (f : Nat), [some (V.ref lr), some (V.ref D), some (V.int (k : Nat)), some (V.ref a.1), some (V.ref e.2.2), some (V.int (p : Int)), u6] = [some (.ref lr), some (.ref D), some (.int (k : Nat)), some (.ref a.1), v4, v5, v6] ∧ PInv P w T.c_Run H H7 lr D RA ents x k ∧ Cnt x.rs k ∧ x.rs[k]? = some r ∧ r.left.toNat ≤ f ∧ pairTo rs (k + 1) = pushP k (whileP k f x) ∧ m' = r.left.toNat := fun st' H7 hT' pi7 => by
                refine ⟨_, hle, _, _, _, ents, _, takeB sp r, f, rfl, pi7, hcn, hrk, by omega, ?_, rfl⟩
                rw [hX, hW, hT']
              show (if decide (V.int (giveB sp r).left = V.int 0) = true then _ else _)
              rw [dec_int0]
              by_cases hz0 : (giveB sp r).left = 0
              · rw [decide_eq_true hz0, if_pos rfl]
                rw [if_pos hz0] at hT
                have hzc : (x.st.map (cutZ p))[j]? = some (z.1, ini ++ [p]) := by
                  rw [List.getElem?_map, hz]
                  show some (z.1, cutAbove p z.2) = _
                  rw [hini, cut_stay _ (Nat.le_refl p)]
                obtain ⟨_, _, g6⟩ := pi6.stk.at' j e _ he hzc
                rw [intsV_app, show intsV [p] = [V.int (p : Int)] from rfl] at g6
                refine ⟨_, rfl, .inl ⟨rfl, _, SqL.of g6⟩, e.2.2, _, .int (p : Int), rfl, rfl, g6, by simp, ?_⟩
                have hbz := pi.bnd z (List.mem_of_getElem? hz)
                have pi7 := pi6.cut he hzc (l := ini) ⟨fun n hn => hbz.1 n (by rw [hini]; exact List.mem_append_left _ hn), by
                  have := hbz.2
                  rw [hini, List.length_append] at this
                  omega⟩
                rw [modify_set hzc, show ((z.1, (ini ++ [p]).dropLast) : Stk) = (z.1, ini) by rw [List.dropLast_concat]] at hT
                refine fin _ _ hT ?_
                rw [show (intsV ini ++ [V.int (p : Int)]).dropLast = intsV ini from List.dropLast_concat]
                exact pi7
              · rw [decide_eq_false hz0, if_neg Bool.false_ne_true]
                rw [if_neg hz0] at hT
                exact fin _ _ hT pi6
        · refine hN _ _ ⟨v4, v5, v6, ents, x, rfl, pi, hcnt, ?_⟩
          rw [hX, out (fun z => hlt (decide_eq_true z.2))]
      · rintro σ' H3 ⟨v4, v5, v6, ents, x, rfl, pi, hcnt, hX⟩
        obtain ⟨r, hr⟩ : ∃ r, x.rs[k]? = some r := ⟨_, List.getElem?_eq_getElem (by rw [← pi.len]; exact hk)⟩
        obtain ⟨⟨dr, g1⟩, g2, g3⟩ := pi.runs k a r ha hr
        have stay : ¬ (r.d.op = true ∧ 0 < r.left) → pushP k x = x := fun n => by
          unfold pushP
          rw [hr]
          show (if r.d.op = true ∧ 0 < r.left then _ else x) = x
          rw [if_neg n]
        have hkS : k ≤ 100000 := by omega
        refine ⟨_, rfl, a.1, T.c_Run, dr, _, _, rfl, g1, T.cl_Run, T.na_Run_opens, rfl, _, rfl, ?_⟩
        cases hop : r.d.op with
        | false =>
          refine iteF (iteF ⟨_, _, v4, v5, v6, ents, rfl, ?_⟩)
          rw [hX, stay (fun z => by rw [hop] at z; exact Bool.false_ne_true z.1)]
          exact ⟨pi.up (Nat.le_succ k), hcnt.next⟩
        | true =>
          refine iteT ⟨_, rfl, a.1, T.c_Run, dr, _, _, rfl, g1, T.cl_Run, T.na_Run_left, rfl, _, _, rfl, rfl, _, rfl, ite2 (fun hlt => ?_) (fun hlt => ?_)⟩
          · have hl := of_decide_eq_true hlt
            have hP : pushP k x = ⟨x.rs, push x.st r.sort k⟩ := by
              unfold pushP
              rw [hr]
              show (if r.d.op = true ∧ 0 < r.left then _ else x) = _
              rw [if_pos ⟨hop, hl⟩]
            rw [hX, hP]
            refine ⟨_, rfl, ⟨D, ents, rfl, pi.hD⟩, ?_⟩
            refine ⟨_, rfl, a, r, rfl, ⟨dr, g1⟩, fun qt nqt => ?_⟩
            have pi1 := pi.same (same_new nqt (o := .tup (sortV r.sort)))
            have hqt : (upd H3 qt (.tup (sortV r.sort))) qt = some (.tup (sortV r.sort)) := upd_same
            generalize (upd H3 qt (.tup (sortV r.sort))) = H4 at pi1 hqt ⊢
            refine ⟨(by show 0 ≤ sizeLine; decide), fun l nl => ?_⟩
            have nol : l ∉ flatA RA ++ lr :: ents.map (fun e => e.2.2) := fun hm => by
              obtain ⟨o, ho⟩ := pi1.own l hm
              rw [nl] at ho
              cases ho
            have n0 : H l = none := by
              cases e : H l with
              | none => rfl
              | some o =>
                by_cases hm : l ∈ flatA RA
                · exact absurd (List.mem_append_left _ hm) nol
                · rw [pi1.fr l o hm e] at nl
                  cases nl
            have pi2 := pi1.same (same_new nl (o := .lst []))
            have hqt2 : (upd H4 l (.lst [])) qt = some (.tup (sortV r.sort)) := by
              rw [upd_ne (ne_of_none hqt nl)]
              exact hqt
            have hl2 : (upd H4 l (.lst [])) l = some (.lst []) := upd_same
            generalize (upd H4 l (.lst [])) = H5 at pi2 hqt2 hl2 ⊢
            refine ⟨D, ents, qt, leafS r.sort, l, rfl, rfl, pi2.hD, key_sort hqt2, fun f hf => ?_, ?_, fun l2 hl2' => ?_, fun hnone => ?_⟩
            · obtain ⟨i, hi⟩ := List.mem_iff_getElem?.mp hf
              have il : i < x.st.length := by rw [← pi2.stk.len]; exact (List.getElem?_eq_some_iff.mp hi).1
              obtain ⟨e1, e2, _⟩ := pi2.stk.at' i f _ hi (List.getElem?_eq_getElem il)
              rw [e1]
              exact key_sort e2
            · have := pi2.lenE
              rw [sizeLine_eq]
              omega
            · obtain ⟨ns, h1, h2, h3⟩ := pi2.pushOld hl2'
              refine ⟨.inl ⟨rfl, _, SqL.of h1⟩, _, rfl, l2, _, _, rfl, rfl, h1, by rw [sizeLine_eq, intsV_len]; omega, ?_⟩
              exact ⟨_, _, v4, v5, v6, ents, rfl, h3, hcnt.next⟩
            · have hlD : l ≠ D := ne_of hl2 pi2.hD (fun z => by unfold dictE at z; cases z)
              have pi3 := pi2.pushNew hnone hqt2 hl2 nol n0
              have hl3 : (upd H5 D (dictE P w D (ents ++ [(leafS r.sort, qt, l)]))) l = some (.lst []) := by
                rw [upd_ne hlD]
                exact hl2
              refine ⟨.inl ⟨rfl, _, SqL.of hl3⟩, _, rfl, l, _, _, rfl, rfl, hl3, (by show 0 < sizeLine; decide), ?_⟩
              exact ⟨_, _, v4, v5, v6, _, rfl, pi3, hcnt.next⟩
          · refine ⟨_, _, v4, v5, v6, ents, rfl, ?_⟩
            rw [hX, stay (fun z => hlt (decide_eq_true z.2))]
            exact ⟨pi.up (Nat.le_succ k), hcnt.next⟩
    · rintro σ' H1 ⟨v2, v3, v4, v5, v6, ents, rfl, pi, hcnt⟩
      rw [List.length_map] at pi
      refine q _ ⟨?_, ?_⟩ pi.fr
      · rw [pi.len, hlen]
        rfl
      · rw [hlen] at pi
        exact pi.runs
inductive ItR where
  | inl (i : Inl)
  | run (s : RunS)
def RunS.new (d : RunD) : RunS := ⟨d, (d.len : Int), [], []⟩
def runsOf : List It → List RunS
  | [] => []
  | .inl _ :: r => runsOf r
  | .run d :: r => RunS.new d :: runsOf r
def fillR : List It → List RunS → List ItR
  | [], _ => []
  | .inl i :: r, rs => .inl i :: fillR r rs
  | .run d :: r, [] => .run (RunS.new d) :: fillR r []
  | .run _ :: r, s :: rs => .run s :: fillR r rs
def mkI (st : Bool) (r : List Inl) : Inl := if st = true then .strong r else .emph r
/-- one that is open is ended; the last one first -/
def endM (st : Bool) : List (List Inl) → Option (List (List Inl))
  | top :: nxt :: r => some ((nxt ++ [mkI st (jnR [] top)]) :: r)
  | _ => none
def endsM : List Bool → List (List Inl) → Option (List (List Inl))
  | [], rows => some rows
  | b :: bs, rows => match endM b rows with
    | none => none
    | some rows' => endsM bs rows'
def addM (i : Inl) : List (List Inl) → List (List Inl)
  | [] => []
  | top :: r => (top ++ [i]) :: r
def runM (s : RunS) (rows : List (List Inl)) : Option (List (List Inl)) :=
  match endsM s.en rows with
  | none => none
  | some rows' => some (List.replicate s.be.length [] ++ addM (.text (List.replicate s.left.toNat s.d.sg)) rows')
def bldM : List ItR → List (List Inl) → Option (List (List Inl))
  | [], rows => some rows
  | .inl i :: r, rows => bldM r (addM i rows)
  | .run s :: r, rows => match runM s rows with
    | none => none
    | some rows' => bldM r rows'
def builtM (its : List It) : Option (List Inl) :=
  match bldM (fillR its (pairR (runsOf its))) [[]] with
  | none => none
  | some rows => some (jnR [] (rows.getLast?.getD []))
/-- how much is put -/
def itN : ItR → Nat
  | .inl i => 1 + txtN [i]
  | .run s => 1 + s.left.toNat + s.en.length + s.be.length
def rowsN (rows : List (List Inl)) : Nat := (rows.map fun r => r.length + txtN r + 1).sum
theorem txtN_app : ∀ (a b : List Inl), txtN (a ++ b) = txtN a + txtN b
  | [], b => by simp [txtN]
  | x :: a, b => by
    have ih := txtN_app a b
    cases x <;> simp only [List.cons_append, txtN, ih] <;> omega
theorem addM_N {i : Inl} {rows : List (List Inl)} : rowsN (addM i rows) ≤ rowsN rows + 1 + txtN [i] := by
  cases rows with
  | nil => exact Nat.zero_le _
  | cons top r =>
    unfold rowsN addM
    rw [List.map_cons, List.map_cons, List.sum_cons, List.sum_cons, txtN_app, List.length_append, List.length_singleton]
    omega
theorem txtN_mk (st : Bool) (r : List Inl) : txtN [mkI st r] = 0 := by cases st <;> rfl
theorem endM_N {st : Bool} {rows rows' : List (List Inl)} (h : endM st rows = some rows') : rowsN rows' ≤ rowsN rows := by
  match rows, h with
  | top :: nxt :: r, h =>
    cases h
    unfold rowsN
    rw [List.map_cons, List.map_cons, List.map_cons, List.sum_cons, List.sum_cons, List.sum_cons, txtN_app, txtN_mk, List.length_append, List.length_singleton]
    omega
theorem endsM_N : ∀ {bs : List Bool} {rows rows' : List (List Inl)}, endsM bs rows = some rows' → rowsN rows' ≤ rowsN rows
  | [], rows, rows', h => by cases h; exact Nat.le_refl _
  | b :: bs, rows, rows', h => by
    have h' : (match endM b rows with | none => none | some r => endsM bs r) = some rows' := h
    cases e : endM b rows with
    | none => rw [e] at h'; cases h'
    | some r1 =>
      rw [e] at h'
      exact Nat.le_trans (endsM_N (bs := bs) h') (endM_N e)
/-- rows that are open, the last one first -/
structure BInv (K : PySem.W.Frag) (H1 H : Hp) (L : Addr) (R : List Addr) (rows : List (List Inl)) : Prop where
  sm : Same H1 H
  hL : H L = some (.lst (R.reverse.map V.ref))
  nL : H1 L = none
  nR : ∀ a ∈ R, H1 a = none
  nd : (L :: R).Nodup
  len : R.length = rows.length
  at' : ∀ (i : Nat) a ps, R[i]? = some a → rows[i]? = some ps → ∃ us, H a = some (.lst us) ∧ DpAll K H us (rowD ps)
section
variable {K : PySem.W.Frag} {H1 H H' : Hp} {L : Addr} {R : List Addr} {rows : List (List Inl)}
theorem BInv.same (h : BInv K H1 H L R rows) (s : Same H H') : BInv K H1 H' L R rows :=
  ⟨h.sm.trans s, s _ _ h.hL, h.nL, h.nR, h.nd, h.len, fun i a ps ha hp => let ⟨us, e, d⟩ := h.at' i a ps ha hp; ⟨us, s _ _ e, dpAll_same s d⟩⟩
theorem dpAll_row {H : Hp} {a : Addr} {xs : List V} {o : HO} (h : H a = some (.lst xs)) {us : List V} {ps : List Inl} (d : DpAll K H us (rowD ps)) : DpAll K (upd H a o) us (rowD ps) := dpAll_keep (L := a) Keeps.at ⟨xs, h⟩ (noList_row ps) d
/-- one more in the last row -/
theorem BInv.add {t : Addr} {R' : List Addr} {top : List Inl} {r : List (List Inl)} (h : BInv K H1 H L (t :: R') (top :: r)) {v : V} {i : Inl} (hv : Dp K H v i.toD) :
    ∃ us, H t = some (.lst us) ∧ us.length = top.length ∧ BInv K H1 (upd H t (.lst (us ++ [v]))) L (t :: R') ((top ++ [i]) :: r) := by
  obtain ⟨us, e, d⟩ := h.at' 0 t top rfl rfl
  have nd := h.nd
  rw [List.nodup_cons, List.nodup_cons] at nd
  have hLt : L ≠ t := fun z => nd.1 (by rw [z]; exact List.mem_cons_self ..)
  refine ⟨us, e, by rw [(dpAll_all2 d).1, rowD_map, List.length_map], fun b o q => ?_, ?_, h.nL, h.nR, h.nd, h.len, fun j a ps ha hp => ?_⟩
  · rw [upd_ne (ne_of_none q (h.nR t (List.mem_cons_self ..)))]
    exact h.sm _ _ q
  · rw [upd_ne hLt]
    exact h.hL
  · cases j with
    | zero =>
      cases ha
      cases hp
      refine ⟨_, upd_same, ?_⟩
      rw [rowD_app]
      exact dpAll_app (dpAll_row e d) (.cons (dp_keep (L := t) Keeps.at ⟨us, e⟩ (noList_toD i) hv) .nil)
    | succ j =>
      obtain ⟨us2, e2, d2⟩ := h.at' (j + 1) a ps ha hp
      refine ⟨us2, ?_, dpAll_row e d2⟩
      rw [upd_ne]
      · exact e2
      · intro z
        exact nd.2.1 (by rw [← z]; exact List.mem_of_getElem? (i := j) ha)
/-- the last row is taken -/
theorem BInv.pop {t : Addr} {R' : List Addr} {top : List Inl} {r : List (List Inl)} (h : BInv K H1 H L (t :: R') (top :: r)) : BInv K H1 (upd H L (.lst (R'.reverse.map V.ref))) L R' r := by
  have nd := h.nd
  rw [List.nodup_cons, List.nodup_cons] at nd
  refine ⟨fun b o q => ?_, upd_same, h.nL, fun a ha => h.nR a (List.mem_cons_of_mem _ ha), ?_, Nat.succ.inj h.len, fun j a ps ha hp => ?_⟩
  · rw [upd_ne (ne_of_none q h.nL)]
    exact h.sm _ _ q
  · rw [List.nodup_cons]
    exact ⟨fun z => nd.1 (List.mem_cons_of_mem _ z), nd.2.2⟩
  · obtain ⟨us, e, d⟩ := h.at' (j + 1) a ps ha hp
    refine ⟨us, ?_, dpAll_row h.hL d⟩
    rw [upd_ne]
    · exact e
    · intro z
      exact nd.1 (by rw [← z]; exact List.mem_cons_of_mem _ (List.mem_of_getElem? ha))
/-- rows that begin -/
theorem BInv.push (h : BInv K H1 H L R rows) {Ts : List Addr} (hT : ∀ a ∈ Ts, H a = some (.lst [])) (nT : ∀ a ∈ Ts, H1 a = none) (ndT : (L :: (Ts.reverse ++ R)).Nodup) : BInv K H1 (upd H L (.lst (R.reverse.map V.ref ++ Ts.map V.ref))) L (Ts.reverse ++ R) (List.replicate Ts.length [] ++ rows) := by
  have nd := ndT
  rw [List.nodup_cons] at nd
  refine ⟨fun b o q => ?_, ?_, h.nL, fun a ha => ?_, ndT, by rw [List.length_append, List.length_append, List.length_reverse, List.length_replicate, h.len], fun j a ps ha hp => ?_⟩
  · rw [upd_ne (ne_of_none q h.nL)]
    exact h.sm _ _ q
  · rw [upd_same, List.reverse_append, List.reverse_reverse, List.map_append]
  · rcases List.mem_append.mp ha with ha | ha
    · exact nT a (List.mem_reverse.mp ha)
    · exact h.nR a ha
  · have hne : a ≠ L := fun z => nd.1 (by rw [← z]; exact List.mem_of_getElem? ha)
    by_cases c : j < Ts.length
    · rw [List.getElem?_append_left (by rw [List.length_reverse]; exact c)] at ha
      rw [List.getElem?_append_left (by rw [List.length_replicate]; exact c), List.getElem?_replicate, if_pos c] at hp
      cases hp
      exact ⟨[], by rw [upd_ne hne]; exact hT a (List.mem_reverse.mp (List.mem_of_getElem? ha)), .nil⟩
    · rw [List.getElem?_append_right (by rw [List.length_reverse]; omega), List.length_reverse] at ha
      rw [List.getElem?_append_right (by rw [List.length_replicate]; omega), List.length_replicate] at hp
      obtain ⟨us, e, d⟩ := h.at' _ a ps ha hp
      exact ⟨us, by rw [upd_ne hne]; exact e, dpAll_row h.hL d⟩
end
mutual
/-- data survive what befalls lists and instances -/
theorem dp_out {K : PySem.W.Frag} {H H' : Hp} {F : List Addr} (hF : ∀ b ∈ F, (∃ xs, H b = some (.lst xs)) ∨ ∃ C dx fs, H b = some (.ins C dx fs)) (k : ∀ b o, b ∉ F → H b = some o → H' b = some o) : ∀ {v : V} {d : PyData}, noList d = true → Dp K H v d → Dp K H' v d
  | _, _, _, .non => .non
  | _, _, _, .bl b => .bl b
  | _, _, _, .int i => .int i
  | _, _, _, .str x => .str x
  | _, _, h, .lst q r => by
    unfold noList at h
    cases h
  | _, _, h, .tup (a := a) q r => by
    unfold noList at h
    refine .tup ?_ (dpAll_out hF k h r)
    rcases q with (q | ⟨o, q⟩) | q
    · refine .inl (.inl (k _ _ (fun m => ?_) q))
      rcases hF _ m with ⟨_, z⟩ | ⟨_, _, _, z⟩ <;> (rw [q] at z; cases z)
    · refine .inl (.inr ⟨o, k _ _ (fun m => ?_) q⟩)
      rcases hF _ m with ⟨_, z⟩ | ⟨_, _, _, z⟩ <;> (rw [q] at z; cases z)
    · exact .inr q
theorem dpAll_out {K : PySem.W.Frag} {H H' : Hp} {F : List Addr} (hF : ∀ b ∈ F, (∃ xs, H b = some (.lst xs)) ∨ ∃ C dx fs, H b = some (.ins C dx fs)) (k : ∀ b o, b ∉ F → H b = some o → H' b = some o) : ∀ {vs : List V} {ds : List PyData}, noListAll ds = true → DpAll K H vs ds → DpAll K H' vs ds
  | _, _, _, .nil => .nil
  | _, _, h, .cons q r => by
    unfold noListAll at h
    rw [Bool.and_eq_true] at h
    exact .cons (dp_out hF k h.1 q) (dpAll_out hF k h.2 r)
end
inductive RowRef (K : PySem.W.Frag) (H : Hp) : List V → List It → List RAd → Prop
  | nil : RowRef K H [] [] []
  | inl {v : V} {i : Inl} {us : List V} {its : List It} {RA : List RAd} : Dp K H v i.toD → RowRef K H us its RA → RowRef K H (v :: us) (.inl i :: its) RA
  | run {a : RAd} {d : RunD} {us : List V} {its : List It} {RA : List RAd} : RowRef K H us its RA → RowRef K H (.ref a.1 :: us) (.run d :: its) (a :: RA)
theorem its_RA {K : PySem.W.Frag} {C : Addr} {H : Hp} : ∀ {us : List V} {its : List It} {ls : List Addr}, ItsA K C H us its ls → ∃ RA, flatA RA = ls ∧ RunsOk C H RA (runsOf its) ∧ RowRef K H us its RA
  | _, _, _, .nil => ⟨[], rfl, ⟨rfl, fun _ _ _ h => by cases h⟩, .nil⟩
  | _, _, _, .cons (.inl q) r => by
    obtain ⟨RA, h1, h2, h3⟩ := its_RA r
    exact ⟨RA, h1, h2, .inl q h3⟩
  | _, _, _, .cons (.run (r := x) (e := e) (b := b) (dr := dr) (d := d) q1 q2 q3) r => by
    obtain ⟨RA, h1, ⟨h2, h2'⟩, h3⟩ := its_RA r
    refine ⟨(x, e, b) :: RA, ?_, ⟨congrArg Nat.succ h2, fun i a s ha hs => ?_⟩, RowRef.run (a := (x, e, b)) h3⟩
    · show [x, e, b] ++ flatA RA = _
      rw [h1]
    · cases i with
      | zero =>
        cases ha
        cases hs
        exact ⟨⟨dr, q1⟩, q2, q3⟩
      | succ i => exact h2' i a s ha hs
def runRefs : List V → List It → List V
  | v :: us, .run _ :: its => v :: runRefs us its
  | _ :: us, .inl _ :: its => runRefs us its
  | _, _ => []
theorem RowRef.refs {K : PySem.W.Frag} {H : Hp} : ∀ {us : List V} {its : List It} {RA : List RAd}, RowRef K H us its RA → runRefs us its = RA.map fun a => V.ref a.1
  | _, _, _, .nil => rfl
  | _, _, _, .inl _ r => r.refs
  | _, _, _, .run r => by
    show _ :: runRefs _ _ = _ :: _
    rw [r.refs]
theorem RowRef.len {K : PySem.W.Frag} {H : Hp} : ∀ {us : List V} {its : List It} {RA : List RAd}, RowRef K H us its RA → us.length = its.length
  | _, _, _, .nil => rfl
  | _, _, _, .inl _ r => congrArg Nat.succ r.len
  | _, _, _, .run r => congrArg Nat.succ r.len
def runV (x : V) : It → List V
  | .run _ => [x]
  | .inl _ => []
theorem runRefs_snoc : ∀ {us : List V} {its : List It} {v : V} {i : It}, us.length = its.length → runRefs (us ++ [v]) (its ++ [i]) = runRefs us its ++ runV v i
  | [], [], v, i, _ => by cases i <;> rfl
  | [], _ :: _, _, _, h => by cases h
  | _ :: _, [], _, _, h => by cases h
  | u :: us, .inl j :: its, v, i, h => runRefs_snoc (us := us) (its := its) (Nat.succ.inj h)
  | u :: us, .run d :: its, v, i, h => by
    show u :: runRefs (us ++ [v]) (its ++ [i]) = _
    rw [runRefs_snoc (us := us) (its := its) (Nat.succ.inj h)]
    rfl
theorem runRefs_le : ∀ {us : List V} {its : List It}, (runRefs us its).length ≤ us.length
  | [], its => by cases its <;> exact Nat.le_refl _
  | u :: us, [] => by show 0 ≤ _; exact Nat.zero_le _
  | u :: us, .inl _ :: its => Nat.le_succ_of_le (runRefs_le (us := us) (its := its))
  | u :: us, .run _ :: its => Nat.succ_le_succ (runRefs_le (us := us) (its := its))
/-- what stands at each place of the row -/
theorem RowRef.at' {K : PySem.W.Frag} {C : Addr} {H : Hp} : ∀ {us : List V} {its : List It} {RA : List RAd}, RowRef K H us its RA → ∀ {rs : List RunS}, RunsOk C H RA rs → ∀ (i : Nat) x y, us[i]? = some x → its[i]? = some y → (∃ j, y = .inl j ∧ Dp K H x j.toD) ∨ ∃ d a s, y = .run d ∧ x = .ref a.1 ∧ RunOk C H a s
  | _, _, _, .nil, _, _, _, _, _, h, _ => by cases h
  | _, _, _, .inl q r, rs, ok, i, x, y, hx, hy => by
    cases i with
    | zero =>
      cases hx
      cases hy
      exact .inl ⟨_, rfl, q⟩
    | succ i => exact r.at' ok i x y hx hy
  | _, _, _, .run (a := a) (d := d) r, [], ok, _, _, _, _, _ => by cases ok.1
  | _, _, _, .run (a := a) (d := d) r, s :: rs, ok, i, x, y, hx, hy => by
    cases i with
    | zero =>
      cases hx
      cases hy
      exact .inr ⟨d, a, s, rfl, rfl, ok.2 0 a s rfl rfl⟩
    | succ i => exact r.at' (rs := rs) ⟨Nat.succ.inj ok.1, fun j b t hb ht => ok.2 (j + 1) b t hb ht⟩ i x y hx hy
/-- the same behind pairing -/
theorem RowRef.fill {K : PySem.W.Frag} {C : Addr} {H H' : Hp} (hk : ∀ (v : V) (i : Inl), Dp K H v i.toD → Dp K H' v i.toD) : ∀ {us : List V} {its : List It} {RA : List RAd}, RowRef K H us its RA → ∀ {rs : List RunS}, RunsOk C H' RA rs → (fillR its rs).length = us.length ∧ ∀ (i : Nat) x y, us[i]? = some x → (fillR its rs)[i]? = some y → (∃ j, y = .inl j ∧ Dp K H' x j.toD) ∨ ∃ a s, y = .run s ∧ x = .ref a.1 ∧ RunOk C H' a s
  | _, _, _, .nil, _, _ => ⟨rfl, fun i x y h _ => by cases h⟩
  | _, _, _, .inl (i := j0) q r, rs, ok => by
    obtain ⟨h1, h2⟩ := r.fill hk ok
    refine ⟨congrArg Nat.succ h1, fun i x y hx hy => ?_⟩
    cases i with
    | zero =>
      cases hx
      cases hy
      exact .inl ⟨_, rfl, hk _ _ q⟩
    | succ i => exact h2 i x y hx hy
  | _, _, _, .run (a := a) (d := d) r, [], ok => by cases ok.1
  | _, _, _, .run (a := a) (d := d) r, s :: rs, ok => by
    obtain ⟨h1, h2⟩ := r.fill hk (rs := rs) ⟨Nat.succ.inj ok.1, fun j b t hb ht => ok.2 (j + 1) b t hb ht⟩
    refine ⟨congrArg Nat.succ h1, fun i x y hx hy => ?_⟩
    cases i with
    | zero =>
      cases hx
      cases hy
      exact .inr ⟨a, s, rfl, rfl, ok.2 0 a s rfl rfl⟩
    | succ i => exact h2 i x y hx hy
theorem tyx_inl {K : PySem.W.Frag} {G : Hp} {v : V} {x : Inl} (h : Dp K G v x.toD) : TyX K G v (.type "tuple") := by
  obtain ⟨a, us, rfl, sq⟩ := inl_name h
  rcases sq with (q | ⟨o, q⟩) | ⟨o, its, n, e, c, _⟩
  · exact .base (.tup q)
  · exact .fTuple q
  · exact .kTuple e c
theorem rowsN_rep (rows : List (List Inl)) : ∀ n : Nat, rowsN (List.replicate n [] ++ rows) = n + rowsN rows
  | 0 => by
    show rowsN rows = 0 + rowsN rows
    omega
  | n + 1 => by
    have ih := rowsN_rep rows n
    rw [List.replicate_succ, List.cons_append]
    unfold rowsN at ih ⊢
    rw [List.map_cons, List.sum_cons, ih]
    show 0 + 0 + 1 + _ = _
    omega
theorem rows_len : ∀ rows : List (List Inl), rows.length ≤ rowsN rows
  | [] => Nat.zero_le _
  | r :: rows => by
    have ih := rows_len rows
    unfold rowsN at ih ⊢
    rw [List.map_cons, List.sum_cons, List.length_cons]
    omega
theorem rowsN_at : ∀ {rows : List (List Inl)} {i : Nat} {ps : List Inl}, rows[i]? = some ps → ps.length + txtN ps + 1 ≤ rowsN rows
  | [], _, _, h => by cases h
  | r :: rows, 0, _, h => by
    cases h
    unfold rowsN
    rw [List.map_cons, List.sum_cons]
    omega
  | r :: rows, i + 1, ps, h => by
    have := rowsN_at (rows := rows) (i := i) (ps := ps) h
    unfold rowsN at this ⊢
    rw [List.map_cons, List.sum_cons]
    omega
def sp_built (P : Program) (w : World) (K : PySem.W.Frag) (C : Addr) : Sp := fun vs H Q _ => ∃ (r : Addr) (us : List V) (its : List It) (ls : List Addr) (out : List Inl), vs = [.ref r] ∧ H r = some (.lst us) ∧ ItsA K C H us its ls ∧ (ls ++ [r]).Nodup ∧ its.length ≤ 30000 ∧ Cnt (runsOf its) 0 ∧ builtM its = some out ∧
  (∀ s ∈ pairR (runsOf its), 0 ≤ s.left ∧ s.left ≤ 1000) ∧ ((fillR its (pairR (runsOf its))).map itN).sum ≤ 39000 ∧ ∀ H' v, Dp K H' v (.tuple (rowD out)) → (∀ b o, b ∉ ls → H b = some o → H' b = some o) → Q v H'
theorem ok_built {P : Program} {w : World} {K : PySem.W.Frag} {mg : Str → Option Value} {base : Heap} (T : Txt w K mg) : FnOk P w K mg base CX0 5 T.a_built T.d_built ["row"] (sp_built P w K T.c_Run) := by
  refine T.f_built.ok sc_built (fun vs H Q E h => ?_) (fun cdv A outer s H vs Q E hr h => ?_)
  · obtain ⟨r, us, its, ls, out, rfl, _⟩ := h
    rfl
  · obtain ⟨r, us, its, ls, out, rfl, hr0, hits, nd, hn, hcnt, hout, hpos, hsum, q⟩ := h
    refine ⟨_, (pss_cons (ps_expr (pe_call (ok_pair T) (hr.mono (by decide)) (by rfl) T.g_pair T.f_pair.kp T.b_pair .nil pass0 (pa_cons (pe_lc (own := [("one", 1)]) (g := (gName 1)) (tt := _) (by rfl) sc_built.nd (pi_list (pv 0)) (blkOk_by (own := [("one", 1)]) (N := ["row", "one", "open_rows", "word", "inner", "_"]) (sc := defScope s_built) (by decide +kernel)) (fun _ _ _ _ _ => (pg_name (i := 1) sc_built.nd rfl (Or.inl rfl))) (fun _ _ _ _ _ => (pts_one (pt_val (pe_callB (show CallR _ _ (rIsi K) from call_isi) (by rfl) T.z_isinstance (by decide +kernel) (pa_cons (pv 1) (pa_cons (pe_glob (v := .ref T.c_Run) rfl T.gc_Run rfl) pa_nil)))))) (fun _ _ _ _ _ => (pv 1))) pa_nil)))
        (pss_cons (ps_set (i := 2) sc_built.nd rfl (.inl rfl) (pe_lst (pa_cons (pe_lst pa_nil) pa_nil)))
        (pss_cons (ps_for PassesOwn.never rfl (pi_list (pv 0)) (pg_name (i := 1) sc_built.nd rfl (.inl rfl)) (pss_one (ps_if (pt_val (pe_callB call_isi (by rfl) T.z_isinstance (by decide +kernel) (pa_cons (pv 1) (pa_cons (pe_glob (v := .ref T.c_Run) rfl T.gc_Run rfl) pa_nil)))) (pss_cons (ps_for PassesOwn.never rfl (pi_list (pe_fld (pv 1) rfl)) (pg_name (i := 3) sc_built.nd rfl (.inl rfl)) (pss_cons (ps_set (i := 4) sc_built.nd rfl (.inl rfl) (pe_call (ok_joined T) (hr.mono (by decide)) (by rfl) T.g_joined T.f_joined.kp T.b_joined .nil pass0 (pa_cons (pe_bm0 PySem.F.plainAttrs_list PySem.F.slot_list_pop PySem.F.type_list_pop mt_pop (pv 2)) pa_nil)))
        (pss_one (ps_expr (pe_bm PySem.F.plainAttrs_list PySem.F.slot_list_append PySem.F.type_list_append mt_append (pe_ix ix_list (pv 2) (pe_un un_neg pe_int) (fun _ _ => rfl)) (pa_cons (pe_tup (pa_cons (pv 3) (pa_cons (pv 4) pa_nil))) pa_nil))))))
        (pss_cons (ps_expr (pe_bm PySem.F.plainAttrs_list PySem.F.slot_list_append PySem.F.type_list_append mt_append (pe_ix ix_list (pv 2) (pe_un un_neg pe_int) (fun _ _ => rfl)) (pa_cons (pe_tup (pa_cons pe_str (pa_cons (pe_op op_mul_txt (pe_fld (pv 1) rfl) (pe_fld (pv 1) rfl)) pa_nil))) pa_nil)))
        (pss_one (ps_expr (pe_bm PySem.F.plainAttrs_list PySem.F.slot_list_extend PySem.F.type_list_extend mt_extend (pv 2) (pa_cons (pe_lc (own := [("_", 5)]) (g := (gName 5)) (tt := tYes) (by rfl) sc_built.nd (pi_list (pe_fld (pv 1) rfl)) (blkOk_by (own := [("_", 5)]) (N := ["row", "one", "open_rows", "word", "inner", "_"]) (sc := defScope s_built) (by decide +kernel)) (fun _ _ _ _ _ => (pg_name (i := 5) sc_built.nd rfl (Or.inl rfl))) (fun _ _ _ _ _ => pts_nil) (fun _ _ _ _ _ => (pe_lst pa_nil))) pa_nil)))))) (pss_one (ps_expr (pe_bm PySem.F.plainAttrs_list PySem.F.slot_list_append PySem.F.type_list_append mt_append (pe_ix ix_list (pv 2) (pe_un un_neg pe_int) (fun _ _ => rfl)) (pa_cons (pv 1) pa_nil)))))))
        (pss_one (ps_ret (pe_call (ok_joined T) (hr.mono (by decide)) (by rfl) T.g_joined T.f_joined.kp T.b_joined .nil pass0 (pa_cons (pe_ix ix_list (pv 2) pe_int (fun _ _ => rfl)) pa_nil))))))), ?_⟩
    obtain ⟨RA, rfl, hok, href⟩ := its_RA hits
    have lu := href.len
    refine ⟨_, rfl, r, rfl, ⟨us, SqL.of hr0⟩, fun D nD => ?_⟩
    have rD : r ≠ D := ne_of_none hr0 nD
    refine lc_list (K := K) (a := r) (xs := us) (fun i H' => (∀ b o, b ≠ D → H b = some o → H' b = some o) ∧ H' D = some (.lst (runRefs (us.take i) (its.take i)))) ⟨fun b o nb e => by rw [upd_ne nb]; exact e, upd_same⟩ (fun i H' _ h => SqL.of (h.1 _ _ rD hr0)) ?_ ?_
    · rintro i x H' hx ⟨s1, hD⟩
      have hi : i < us.length := (List.getElem?_eq_some_iff.mp hx).1
      obtain ⟨y, hy⟩ : ∃ y, its[i]? = some y := ⟨_, List.getElem?_eq_getElem (by rw [← lu]; exact hi)⟩
      have hnx : runRefs (us.take (i + 1)) (its.take (i + 1)) = runRefs (us.take i) (its.take i) ++ runV x y := by
        have e1 : us.take (i + 1) = us.take i ++ [x] := by rw [List.take_add_one, hx]; rfl
        have e2 : its.take (i + 1) = its.take i ++ [y] := by rw [List.take_add_one, hy]; rfl
        rw [e1, e2]
        exact runRefs_snoc (by rw [List.length_take, List.length_take, lu])
      rcases href.at' hok i x y hx hy with ⟨j, rfl, dj⟩ | ⟨d, a, sd, rfl, rfl, ⟨⟨dr, g1⟩, _⟩⟩
      · have du : Dp K H' x j.toD := dp_keep (H := upd H D (HO.lst [])) (L := D) (H' := H') (fun b o nb e => s1 b o nb (by rw [upd_ne nb] at e; exact e)) ⟨[], upd_same⟩ (noList_toD j) (dp_same (same_new nD (o := HO.lst [])) dj)
        refine ⟨rfl, _, rfl, x, _, _, _, false, rfl, .own _, tyx_inl du, T.kit_Run_tuple, _, rfl, s1, ?_⟩
        rw [hnx]
        show _ = some (HO.lst (_ ++ []))
        rw [List.append_nil]
        exact hD
      · have g1' := s1 _ _ (ne_of_none g1 nD) g1
        refine ⟨rfl, _, rfl, .ref a.1, _, _, _, true, rfl, .own _, .base (T.isi_Run g1'), by simp [PySem.W.kitOne], _, rfl, ?_⟩
        refine ⟨_, rfl, _, hD, ?_, fun b o nb e => by rw [upd_ne nb]; exact s1 b o nb e, by rw [upd_same, hnx]; rfl⟩
        have h1 := runRefs_le (us := us.take i) (its := its.take i)
        rw [List.length_take] at h1
        rw [sizeLine_eq]
        omega
    · rintro H1 ⟨s1, hD⟩
      rw [List.take_length, lu, List.take_length] at hD
      have hflat : (flatA RA).Nodup := (List.nodup_append.mp nd).1
      have rF : r ∉ flatA RA := fun m => (List.nodup_append.mp nd).2.2 r m r (by simp) rfl
      have alF : ∀ b ∈ flatA RA, (∃ xs, H b = some (.lst xs)) ∨ ∃ C dx fs, H b = some (.ins C dx fs) := fun b hb => by
        obtain ⟨a, ha, hb⟩ := List.mem_flatMap.mp hb
        obtain ⟨i, hi⟩ := List.mem_iff_getElem?.mp ha
        have il : i < (runsOf its).length := by rw [← hok.1]; exact (List.getElem?_eq_some_iff.mp hi).1
        obtain ⟨⟨dr, r1⟩, r2, r3⟩ := hok.2 i a _ hi (List.getElem?_eq_getElem il)
        simp only [RAd.l, List.mem_cons, List.not_mem_nil, or_false] at hb
        rcases hb with rfl | rfl | rfl
        · exact .inr ⟨_, _, _, r1⟩
        · exact .inl ⟨_, r2⟩
        · exact .inl ⟨_, r3⟩
      have DF : ∀ b ∈ flatA RA, b ≠ D := fun b hb z => by
        rcases alF b hb with ⟨_, e⟩ | ⟨_, _, _, e⟩
        · exact ne_of_none e nD z
        · exact ne_of_none e nD z
      have ok1 : RunsOk T.c_Run H1 RA (runsOf its) := ⟨hok.1, fun i a t ha ht => (hok.2 i a t ha ht).same fun b hb o e => s1 b o (DF b (flat_mem ha hb)) e⟩
      have nd1 : (flatA RA ++ [D]).Nodup := by
        rw [List.nodup_append]
        exact ⟨hflat, by simp, fun a ha b hb z => DF a ha (z.trans (List.mem_singleton.mp hb))⟩
      have hrl : (runsOf its).length ≤ its.length := by
        have : ∀ l : List It, (runsOf l).length ≤ l.length := by
          intro l
          induction l with
          | nil => exact Nat.le_refl _
          | cons x l ih => cases x with
            | inl i => exact Nat.le_succ_of_le ih
            | run d => exact Nat.succ_le_succ ih
        exact this its
      refine ⟨D, RA, runsOf its, rfl, ?_, ok1, nd1, by omega, hcnt, fun H2 ok2 f2 => ?_⟩
      · rw [hD, href.refs]
      have fr : ∀ b o, b ∉ flatA RA → H b = some o → H2 b = some o := fun b o nb e => f2 b o nb (s1 b o (ne_of_none e nD) e)
      have hr2 := fr r _ rF hr0
      have dk : ∀ (v : V) (i : Inl), Dp K H v i.toD → Dp K H2 v i.toD := fun v i d => dp_out alF (fun b o nb e => fr b o nb e) (noList_toD i) d
      obtain ⟨fl, fa⟩ := href.fill dk ok2
      obtain ⟨rowsF, hbld, hjn⟩ : ∃ rowsF, bldM (fillR its (pairR (runsOf its))) [[]] = some rowsF ∧ jnR [] (rowsF.getLast?.getD []) = out := by
        have h : (match bldM (fillR its (pairR (runsOf its))) [[]] with | none => none | some rows => some (jnR [] (rows.getLast?.getD []))) = some out := hout
        cases e : bldM (fillR its (pairR (runsOf its))) [[]] with
        | none => rw [e] at h; cases h
        | some rowsF => rw [e] at h; exact ⟨rowsF, rfl, Option.some.inj h⟩
      have hposI : ∀ (i : Nat) s, (fillR its (pairR (runsOf its)))[i]? = some (.run s) → 0 ≤ s.left ∧ s.left ≤ 1000 := fun i s e => by
        have mem : ∀ (its : List It) (rs : List RunS), rs.length = (runsOf its).length → ∀ s, ItR.run s ∈ fillR its rs → s ∈ rs := by
          intro its
          induction its with
          | nil => intro rs _ s h; cases h
          | cons y its ih =>
            intro rs hl s h
            cases y with
            | inl j => 
              rcases List.mem_cons.mp h with h | h
              · cases h
              · exact ih rs hl s h
            | run d => 
              cases rs with
              | nil => cases hl
              | cons t rs =>
                rcases List.mem_cons.mp h with h | h
                · cases h
                  exact List.mem_cons_self ..
                · exact List.mem_cons_of_mem _ (ih rs (Nat.succ.inj hl) s h)
        exact hpos s (mem its _ (by rw [← ok2.1, hok.1]) s (List.mem_of_getElem? e))
      clear hout
      generalize fillR its (pairR (runsOf its)) = items at hbld hsum fl fa hposI
      refine ⟨(by show 0 ≤ sizeLine; decide), fun p1 np1 => ⟨(by show 1 ≤ sizeLine; decide), fun p2 np2 => ?_⟩⟩
      have n12 : p1 ≠ p2 := ne_of_none (show (upd H2 p1 (.lst [])) p1 = some (.lst []) from upd_same) np2
      have n2 : H2 p2 = none := by rw [upd_ne n12.symm] at np2; exact np2
      have b0 : BInv K H2 (upd (upd H2 p1 (.lst [])) p2 (.lst [.ref p1])) p2 [p1] [[]] := by
        refine ⟨(same_new np1).trans (same_new np2), upd_same, n2, fun a ha => by rw [List.mem_singleton.mp ha]; exact np1, ?_, rfl, fun i a ps ha hp => ?_⟩
        · rw [List.nodup_cons]
          exact ⟨fun z => n12 (List.mem_singleton.mp z).symm, by simp⟩
        · cases i with
          | zero =>
            cases ha
            cases hp
            exact ⟨[], by rw [upd_ne n12]; exact upd_same, .nil⟩
          | succ i => cases ha
      generalize (upd (upd H2 p1 (.lst [])) p2 (.lst [.ref p1])) = H3 at b0 ⊢
      refine ⟨_, rfl, r, rfl, ⟨us, SqL.of (b0.sm _ _ hr2)⟩, ?_⟩
      refine for_list (K := K) (a := r) (xs := us) (fun i σ' H' => ∃ (o o3 o4 : Option V) (R : List Addr) (rows : List (List Inl)), σ' = [some (.ref r), o, some (.ref p2), o3, o4, none] ∧ BInv K H2 H' p2 R rows ∧ rows ≠ [] ∧ bldM (items.drop i) rows = some rowsF ∧ rowsN rows + ((items.drop i).map itN).sum ≤ 39001) ⟨_, _, _, _, _, rfl, b0, by simp, hbld, by have : rowsN [[]] = 1 := rfl; rw [this, List.drop_zero]; omega⟩ ?_ ?_ ?_
      · rintro i σ' H' _ ⟨o, o3, o4, R, rows, rfl, bi, _⟩
        exact SqL.of (bi.sm _ _ hr2)
      · rintro i x σ' H' hx ⟨o, o3, o4, R, rows, rfl, bi, hne, hb, hN⟩
        have hi : i < us.length := (List.getElem?_eq_some_iff.mp hx).1
        obtain ⟨y, hy⟩ : ∃ y, items[i]? = some y := ⟨_, List.getElem?_eq_getElem (by rw [fl]; exact hi)⟩
        have hdrop : items.drop i = y :: items.drop (i + 1) := by
          obtain ⟨h1, h2⟩ := List.getElem?_eq_some_iff.mp hy
          rw [List.drop_eq_getElem_cons h1, h2]
        rw [hdrop, List.map_cons, List.sum_cons] at hN
        rw [hdrop] at hb
        obtain ⟨t, R', rfl⟩ : ∃ t R', R = t :: R' := by
          cases R with
          | nil =>
            have := bi.len
            cases rows with
            | nil => exact absurd rfl hne
            | cons _ _ => cases this
          | cons t R' => exact ⟨t, R', rfl⟩
        obtain ⟨top, rest, rfl⟩ : ∃ top rest, rows = top :: rest := by
          cases rows with
          | nil => exact absurd rfl hne
          | cons a b => exact ⟨a, b, rfl⟩
        have hLr := bi.hL
        rw [List.reverse_cons, List.map_append] at hLr
        rcases fa i x y hx hy with ⟨j, rfl, dj⟩ | ⟨a, sr, rfl, rfl, okr⟩
        · have dj' := dp_same bi.sm dj
          obtain ⟨us1, e1, l1, bi2⟩ := bi.add dj'
          refine ⟨_, rfl, x, _, _, _, false, rfl, .own _, tyx_inl dj', T.kit_Run_tuple, _, rfl, iteF ?_⟩
          refine ⟨_, rfl, _, rfl, p2, _, _, _, rfl, rfl, SqL.of hLr, atI_last _ _, .inl ⟨rfl, _, SqL.of e1⟩, _, rfl, t, _, _, rfl, rfl, e1, ?_, some x, _, _, t :: R', (top ++ [j]) :: rest, rfl, bi2, by simp, hb, ?_⟩
          · have : rowsN (top :: rest) = top.length + txtN top + 1 + rowsN rest := by unfold rowsN; rw [List.map_cons, List.sum_cons]
            rw [sizeLine_eq, l1]
            omega
          · have := addM_N (i := j) (rows := top :: rest)
            show rowsN (addM j (top :: rest)) + _ ≤ _
            have e : itN (.inl j) = 1 + txtN [j] := rfl
            omega
        · obtain ⟨⟨dr, g1⟩, g2, g3⟩ := okr
          have h1 := bi.sm _ _ g1
          have h2 := bi.sm _ _ g2
          have h3 := bi.sm _ _ g3
          refine ⟨_, rfl, .ref a.1, _, _, _, true, rfl, .own _, .base (T.isi_Run h1), by simp [PySem.W.kitOne], _, rfl, iteT ?_⟩
          have hb' : (match runM sr (top :: rest) with | none => none | some rows' => bldM (items.drop (i + 1)) rows') = some rowsF := hb
          obtain ⟨rows1, hrun, hb2⟩ : ∃ rows1, runM sr (top :: rest) = some rows1 ∧ bldM (items.drop (i + 1)) rows1 = some rowsF := by
            cases e : runM sr (top :: rest) with
            | none => rw [e] at hb'; cases hb'
            | some rows1 => rw [e] at hb'; exact ⟨rows1, rfl, hb'⟩
          have hrun' : (match endsM sr.en (top :: rest) with | none => none | some rows' => some (List.replicate sr.be.length [] ++ addM (.text (List.replicate sr.left.toNat sr.d.sg)) rows')) = some rows1 := hrun
          obtain ⟨rowsE, hE, rfl⟩ : ∃ rowsE, endsM sr.en (top :: rest) = some rowsE ∧ List.replicate sr.be.length [] ++ addM (.text (List.replicate sr.left.toNat sr.d.sg)) rowsE = rows1 := by
            cases e : endsM sr.en (top :: rest) with
            | none => rw [e] at hrun'; cases hrun'
            | some rowsE => rw [e] at hrun'; exact ⟨rowsE, rfl, Option.some.inj hrun'⟩
          clear hb hb' hrun hrun' hLr
          have hEN := endsM_N hE
          have hitN : itN (.run sr) = 1 + sr.left.toNat + sr.en.length + sr.be.length := rfl
          rw [hitN] at hN
          refine seq_K (fun σ' H' => ∃ (o3 o4 : Option V) (R : List Addr), σ' = [some (.ref r), some (.ref a.1), some (.ref p2), o3, o4, none] ∧ BInv K H2 H' p2 R rowsE ∧ rowsE ≠ []) (fun N hNx => ?_) ?_
          · refine ⟨_, rfl, a.1, T.c_Run, dr, _, .ref a.2.1, rfl, h1, T.cl_Run, T.na_Run_ended, rfl, a.2.1, rfl, ⟨_, SqL.of h2⟩, ?_⟩
            refine for_list (K := K) (a := a.2.1) (xs := wordsV sr.en) (fun j σ' H' => ∃ (o3 o4 : Option V) (R : List Addr) (rows : List (List Inl)), σ' = [some (.ref r), some (.ref a.1), some (.ref p2), o3, o4, none] ∧ BInv K H2 H' p2 R rows ∧ rows ≠ [] ∧ endsM (sr.en.drop j) rows = some rowsE ∧ rowsN rows ≤ rowsN (top :: rest)) ⟨_, _, _, _, rfl, bi, by simp, hE, Nat.le_refl _⟩ ?_ ?_ ?_
            · rintro j σ' H5 _ ⟨o3, o4, R, rows, rfl, bi5, _⟩
              exact SqL.of (bi5.sm _ _ g2)
            · rintro j x σ' H5 hx5 ⟨o3, o4, R, rows, rfl, bi5, hne5, hE5, hN5⟩
              obtain ⟨wb, hwb, rfl⟩ : ∃ wb, sr.en[j]? = some wb ∧ x = .str (wordB wb) := by
                unfold wordsV at hx5
                rw [List.getElem?_map] at hx5
                cases e : sr.en[j]? with
                | none => rw [e] at hx5; cases hx5
                | some wb => rw [e] at hx5; exact ⟨wb, rfl, (Option.some.inj hx5).symm⟩
              have hdr : sr.en.drop j = wb :: sr.en.drop (j + 1) := by
                obtain ⟨c1, c2⟩ := List.getElem?_eq_some_iff.mp hwb
                rw [List.drop_eq_getElem_cons c1, c2]
              rw [hdr] at hE5
              have hE6 : (match endM wb rows with | none => none | some rows' => endsM (sr.en.drop (j + 1)) rows') = some rowsE := hE5
              obtain ⟨rows2, hm2, hE7⟩ : ∃ rows2, endM wb rows = some rows2 ∧ endsM (sr.en.drop (j + 1)) rows2 = some rowsE := by
                cases e : endM wb rows with
                | none => rw [e] at hE6; cases hE6
                | some rows2 => rw [e] at hE6; exact ⟨rows2, rfl, hE6⟩
              have hmN := endM_N hm2
              match rows, hm2, hne5, bi5, hN5, hmN with
              | tp :: nx :: rr, hm2, _, bi5, hN5, hmN =>
                cases hm2
                obtain ⟨t1, t2, R2, rfl⟩ : ∃ t1 t2 R2, R = t1 :: t2 :: R2 := by
                  match R, bi5.len with
                  | t1 :: t2 :: R2, _ => exact ⟨t1, t2, R2, rfl⟩
                have hL5 := bi5.hL
                rw [List.reverse_cons, List.map_append] at hL5
                obtain ⟨ut, et, dt⟩ := bi5.at' 0 t1 tp rfl rfl
                have b6 := bi5.pop
                have ht1 : rowsN (tp :: nx :: rr) ≤ 39001 := by omega
                have htp := rowsN_at (rows := tp :: nx :: rr) (i := 0) rfl
                have n1p : t1 ≠ p2 := fun z => (List.nodup_cons.mp bi5.nd).1 (by rw [z]; exact List.mem_cons_self ..)
                refine ⟨_, rfl, .inl ⟨rfl, _, SqL.of hL5⟩, p2, _, .ref t1, rfl, rfl, hL5, by simp, ?_⟩
                rw [show (List.map V.ref (t2 :: R2).reverse ++ List.map V.ref [t1]).dropLast = (t2 :: R2).reverse.map V.ref from List.dropLast_concat]
                refine ⟨t1, ut, tp, rfl, by rw [upd_ne n1p]; exact et, dpAll_row bi5.hL dt, by omega, by omega, fun H7 v s7 dv => ?_⟩
                have b7 := b6.same s7
                have hL7 := b7.hL
                rw [List.reverse_cons, List.map_append] at hL7
                obtain ⟨u2, f2', _⟩ := b7.at' 0 t2 nx rfl rfl
                refine ⟨_, rfl, _, rfl, p2, _, _, _, rfl, rfl, SqL.of hL7, atI_last _ _, .inl ⟨rfl, _, SqL.of f2'⟩, _, rfl, _, rfl, (by show 2 ≤ sizeLine; decide), fun T0 nT => ?_⟩
                have b8 := b7.same (same_new nT (o := .tup [.str (wordB wb), v]))
                have dT0 : Dp K (upd H7 T0 (.tup [.str (wordB wb), v])) (.ref T0) (mkI wb (jnR [] tp)).toD := by
                  have d1 := dp_same (same_new nT (o := HO.tup [.str (wordB wb), v])) dv
                  cases wb with
                  | true => exact .tup (SqT.of upd_same) (.cons (.str _) (.cons d1 .nil))
                  | false => exact .tup (SqT.of upd_same) (.cons (.str _) (.cons d1 .nil))
                obtain ⟨u3, f3, l3, b9⟩ := b8.add dT0
                have hnx := rowsN_at (rows := tp :: nx :: rr) (i := 1) rfl
                exact ⟨t2, _, _, rfl, rfl, f3, by rw [sizeLine_eq, l3]; omega, some (.str (wordB wb)), some v, t2 :: R2, _, rfl, b9, by simp, hE7, Nat.le_trans hmN hN5⟩
            · rintro σ' H5 ⟨o3, o4, R, rows, rfl, bi5, hne5, hE5, hN5⟩
              have : sr.en.drop (wordsV sr.en).length = [] := by
                unfold wordsV
                rw [List.length_map, List.drop_length]
              rw [this] at hE5
              cases hE5
              exact hNx _ _ ⟨o3, o4, R, rfl, bi5, hne5⟩
          · rintro σ' H5 ⟨o3, o4, R, rfl, bi5, hne5⟩
            have h1 := bi5.sm _ _ g1
            have h3 := bi5.sm _ _ g3
            obtain ⟨p0, p1000⟩ := hposI i sr hy
            obtain ⟨lf, hlf⟩ : ∃ n : Nat, sr.left = (n : Int) := ⟨sr.left.toNat, by omega⟩
            obtain ⟨t5, R5, rfl⟩ : ∃ t R', R = t :: R' := by
              match R, rowsE, bi5.len, hne5 with
              | t :: R', _, _, _ => exact ⟨t, R', rfl⟩
              | [], [], _, hne5 => exact absurd rfl hne5
            obtain ⟨tp5, rr5, rfl⟩ : ∃ top rest, rowsE = top :: rest := by
              match rowsE, hne5 with
              | a :: b, _ => exact ⟨a, b, rfl⟩
            have hL5 := bi5.hL
            rw [List.reverse_cons, List.map_append] at hL5
            obtain ⟨u5, e5, _⟩ := bi5.at' 0 t5 tp5 rfl rfl
            refine ⟨_, rfl, _, rfl, p2, _, _, _, rfl, rfl, SqL.of hL5, atI_last _ _, .inl ⟨rfl, _, SqL.of e5⟩, ?_⟩
            refine ⟨_, rfl, a.1, T.c_Run, dr, _, _, rfl, h1, T.cl_Run, T.na_Run_sign, rfl, _, rfl, a.1, T.c_Run, dr, _, _, rfl, h1, T.cl_Run, T.na_Run_left, rfl, [sr.d.sg], lf, rfl, by rw [hlf], Nat.le_refl 1, (by show 1 ≤ 1000; decide), by omega, ?_⟩
            rw [rep1]
            refine ⟨(by show 2 ≤ sizeLine; decide), fun T0 nT => ?_⟩
            have hlf2 : lf = sr.left.toNat := by omega
            have b6 := bi5.same (same_new nT (o := .tup [.str "text", .str (S (List.replicate lf sr.d.sg))]))
            obtain ⟨u6, f6, l6, b7⟩ := b6.add (v := .ref T0) (i := .text (List.replicate lf sr.d.sg)) (dp_text upd_same)
            have htp := rowsN_at (rows := tp5 :: rr5) (i := 0) rfl
            refine ⟨t5, _, _, rfl, rfl, f6, by rw [sizeLine_eq, l6]; omega, ?_⟩
            generalize (upd (upd H5 T0 (.tup [.str "text", .str (S (List.replicate lf sr.d.sg))])) t5 (.lst (u6 ++ [.ref T0]))) = H6 at b7 ⊢
            have k1 := b7.sm _ _ g1
            have k3 := b7.sm _ _ g3
            refine ⟨_, rfl, .inl ⟨rfl, _, SqL.of b7.hL⟩, ?_⟩
            refine ⟨_, rfl, a.1, T.c_Run, dr, _, .ref a.2.2, rfl, k1, T.cl_Run, T.na_Run_begun, rfl, a.2.2, rfl, ⟨_, SqL.of k3⟩, fun X nX => ?_⟩
            have wl : (wordsV sr.be).length = sr.be.length := List.length_map ..
            refine lc_list (K := K) (a := a.2.2) (xs := wordsV sr.be) (fun j H' => Same H6 H' ∧ ∃ Ts : List Addr, H' X = some (.lst (Ts.map V.ref)) ∧ Ts.length = j ∧ (∀ z ∈ Ts, H' z = some (.lst []) ∧ H6 z = none) ∧ (X :: Ts).Nodup) ⟨fun b o e => by rw [upd_ne (ne_of_none e nX)]; exact e, [], upd_same, rfl, fun z hz => (by cases hz), by simp⟩ (fun j H' _ h => SqL.of (h.1 _ _ k3)) ?_ ?_
            · rintro j x H7 hx7 ⟨s7, Ts, hX, hTl, hTs, hnd⟩
              have hj : j < sr.be.length := by rw [← wl]; exact (List.getElem?_eq_some_iff.mp hx7).1
              refine ⟨rfl, ?_⟩
              unfold tYes
              simp only [if_true]
              refine ⟨(by show 0 ≤ sizeLine; decide), fun Tn nTn => ?_⟩
              have nXT : X ≠ Tn := ne_of_none hX nTn
              refine ⟨Ts.map V.ref, by rw [upd_ne nXT]; exact hX, by rw [List.length_map, hTl, sizeLine_eq]; omega, fun b o e => ?_, Ts ++ [Tn], by rw [upd_same, List.map_append]; rfl, by rw [List.length_append, hTl]; rfl, fun z hz => ?_, ?_⟩
              · rw [upd_ne (ne_of_none e nX), upd_ne (ne_of_none (s7 _ _ e) nTn)]
                exact s7 _ _ e
              · rcases List.mem_append.mp hz with hz | hz
                · obtain ⟨z1, z2⟩ := hTs z hz
                  have zX : z ≠ X := fun q => (List.nodup_cons.mp hnd).1 (by rw [← q]; exact hz)
                  exact ⟨by rw [upd_ne zX, upd_ne (ne_of_none z1 nTn)]; exact z1, z2⟩
                · rw [List.mem_singleton] at hz
                  subst hz
                  refine ⟨by rw [upd_ne (Ne.symm nXT)]; exact upd_same, ?_⟩
                  cases e : H6 z with
                  | none => rfl
                  | some o => rw [s7 _ _ e] at nTn; cases nTn
              · rw [List.nodup_cons] at hnd ⊢
                refine ⟨fun m => ?_, ?_⟩
                · rcases List.mem_append.mp m with m | m
                  · exact hnd.1 m
                  · exact nXT (List.mem_singleton.mp m)
                · rw [List.nodup_append]
                  refine ⟨hnd.2, by simp, fun a ha b hb q => ?_⟩
                  rw [List.mem_singleton] at hb
                  exact ne_of_none (hTs a ha).1 nTn (q.trans hb)
            · rintro H7 ⟨s7, Ts, hX, hTl, hTs, hnd⟩
              rw [wl] at hTl
              have b8 := b7.same s7
              have alR : ∀ z, z = p2 ∨ z ∈ t5 :: R5 → ∃ o, H6 z = some o := fun z hz => by
                rcases hz with rfl | hz
                · exact ⟨_, b7.hL⟩
                · obtain ⟨m, hm⟩ := List.mem_iff_getElem?.mp hz
                  have ml : m < ((tp5 ++ [Inl.text (List.replicate lf sr.d.sg)]) :: rr5).length := by rw [← b7.len]; exact (List.getElem?_eq_some_iff.mp hm).1
                  obtain ⟨_, e, _⟩ := b7.at' m z _ hm (List.getElem?_eq_getElem ml)
                  exact ⟨_, e⟩
              have b9 := b8.push (Ts := Ts) (fun z hz => (hTs z hz).1) (fun z hz => by
                cases e : H2 z with
                | none => rfl
                | some o =>
                  have := b7.sm _ _ e
                  rw [(hTs z hz).2] at this
                  cases this) (by
                have n0 := b7.nd
                rw [List.nodup_cons] at n0 ⊢
                have out : ∀ z ∈ Ts, ¬ (z = p2 ∨ z ∈ t5 :: R5) := fun z hz q => by
                  obtain ⟨o, ho⟩ := alR z q
                  rw [(hTs z hz).2] at ho
                  cases ho
                refine ⟨fun m => ?_, ?_⟩
                · rcases List.mem_append.mp m with m | m
                  · exact out p2 (List.mem_reverse.mp m) (.inl rfl)
                  · exact n0.1 m
                · rw [List.nodup_append]
                  refine ⟨?_, n0.2, fun a ha b hb q => out a (List.mem_reverse.mp ha) (.inr (by rw [q]; exact hb))⟩
                  exact List.pairwise_reverse.mpr ((List.nodup_cons.mp hnd).2.imp fun h => Ne.symm h))
              have hNE : rowsN (List.replicate sr.be.length [] ++ addM (.text (List.replicate sr.left.toNat sr.d.sg)) (tp5 :: rr5)) ≤ sr.be.length + (rowsN (tp5 :: rr5) + 1 + sr.left.toNat) := by
                rw [rowsN_rep]
                have := addM_N (i := .text (List.replicate sr.left.toNat sr.d.sg)) (rows := tp5 :: rr5)
                have e : txtN [Inl.text (List.replicate sr.left.toNat sr.d.sg)] = sr.left.toNat := by
                  show (List.replicate sr.left.toNat sr.d.sg).length + 0 = _
                  rw [List.length_replicate]
                  omega
                omega
              have hRl := rows_len ((tp5 ++ [Inl.text (List.replicate lf sr.d.sg)]) :: rr5)
              have hRl2 : rowsN ((tp5 ++ [Inl.text (List.replicate lf sr.d.sg)]) :: rr5) ≤ rowsN (tp5 :: rr5) + 1 + lf := by
                have := addM_N (i := .text (List.replicate lf sr.d.sg)) (rows := tp5 :: rr5)
                have e : txtN [Inl.text (List.replicate lf sr.d.sg)] = lf := by
                  show (List.replicate lf sr.d.sg).length + 0 = _
                  rw [List.length_replicate]
                  omega
                have e2 : addM (.text (List.replicate lf sr.d.sg)) (tp5 :: rr5) = (tp5 ++ [Inl.text (List.replicate lf sr.d.sg)]) :: rr5 := rfl
                rw [e2, e] at this
                exact this
              have hl9 := b7.len
              refine ⟨p2, X, _, _, rfl, rfl, b8.hL, hX, ?_, ?_⟩
              · rw [List.length_map, List.length_map, List.length_reverse, hl9, hTl, sizeLine_eq]
                omega
              · refine ⟨some (.ref a.1), o3, o4, _, _, rfl, b9, ?_, ?_, ?_⟩
                · simp
                · rw [hTl, hlf2]
                  exact hb2
                · rw [hTl, hlf2]
                  have e2 : addM (.text (List.replicate sr.left.toNat sr.d.sg)) (tp5 :: rr5) = (tp5 ++ [Inl.text (List.replicate sr.left.toNat sr.d.sg)]) :: rr5 := rfl
                  rw [← e2]
                  omega
      · rintro σ' H' ⟨o, o3, o4, R, rows, rfl, bi, hne, hb, hN⟩
        have hd0 : items.drop us.length = [] := by rw [← fl, List.drop_length]
        rw [hd0] at hb hN
        cases hb
        obtain ⟨Ri, b, rfl⟩ : ∃ Ri b, R = Ri ++ [b] := by
          have hR : R ≠ [] := fun z => by
            have := bi.len
            rw [z] at this
            cases rowsF with
            | nil => exact hne rfl
            | cons _ _ => cases this
          exact ⟨_, _, (List.dropLast_concat_getLast hR).symm⟩
        obtain ⟨ri, bot, rfl⟩ : ∃ ri bot, rowsF = ri ++ [bot] := ⟨_, _, (List.dropLast_concat_getLast hne).symm⟩
        have hlen := bi.len
        rw [List.length_append, List.length_append, List.length_singleton, List.length_singleton] at hlen
        have hrl : Ri.length = ri.length := by omega
        have hb1 : (Ri ++ [b])[Ri.length]? = some b := List.getElem?_concat_length
        have hb2 : (ri ++ [bot])[Ri.length]? = some bot := by rw [hrl]; exact List.getElem?_concat_length
        obtain ⟨us1, e1, d1⟩ := bi.at' _ b bot hb1 hb2
        have hLr := bi.hL
        rw [List.reverse_append, List.reverse_singleton, List.singleton_append, List.map_cons] at hLr
        have hbn := rowsN_at hb2
        have hN' : rowsN (ri ++ [bot]) ≤ 39001 := by
          have : (([] : List ItR).map itN).sum = 0 := rfl
          omega
        refine ⟨_, rfl, p2, _, _, _, rfl, rfl, SqL.of hLr, atI_nat (j := 0) rfl, b, us1, bot, rfl, e1, d1, by omega, by omega, fun H5 v s5 dv => q _ _ ?_ fun b o nb e => s5 _ _ (bi.sm _ _ (fr b o nb e))⟩
        rw [← hjn, List.getLast?_append]
        exact dv
def stR (t : List Nat) (p pl : Nat) (c : Nat) : Inl × Nat × Nat :=
  if c = 92 then ((bsR t p).1, (bsR t p).2, (bsR t p).2)
  else if c = 38 then ((rfR (t.drop p)).1, p + (rfR (t.drop p)).2, p + (rfR (t.drop p)).2)
  else if c = 10 then ((lfR t pl p).1, (lfR t pl p).2, (lfR t pl p).2)
  else (.text (plW t p), plE t p, pl)
def okS (c : Nat) : Prop := c = 92 ∨ c = 38 ∨ c = 10 ∨ StepL.contains c = false
theorem pos_ba {ws a : List Nat} {c : Nat} {r t : List Nat} {q : Nat} (ht : t.drop q = a ++ c :: r) (ha : ∀ x ∈ a, ws.contains x = true) (hc : ws.contains c = false) : pos t (ba ws (t.drop q)) = q + a.length := by
  have e : ba ws (a ++ c :: r) = c :: r := by
    unfold ba
    clear ht
    induction a with
    | nil => rw [List.nil_append, List.dropWhile_cons, if_neg (by rw [hc]; exact Bool.false_ne_true)]
    | cons x a ih =>
      rw [List.cons_append, List.dropWhile_cons, if_pos (ha x (List.mem_cons_self ..))]
      exact ih fun y hy => ha y (List.mem_cons_of_mem _ hy)
  rw [ht, e]
  unfold pos
  have := congrArg List.length ht
  rw [List.length_drop, List.length_append, List.length_cons] at this
  rw [List.length_cons]
  omega
theorem at_drop {t : List Nat} {p c : Nat} {r : List Nat} (h : t.drop p = c :: r) : t[p]? = some c := by
  have := congrArg (fun l => l[0]?) h
  simpa using this
theorem drop_add {t : List Nat} {p : Nat} {a r : List Nat} (h : t.drop p = a ++ r) : t.drop (p + a.length) = r := by
  rw [← List.drop_drop, h, List.drop_left]
theorem drop_one {t : List Nat} {p c : Nat} {r : List Nat} (h : t.drop p = c :: r) : t.drop (p + 1) = r := drop_add (a := [c]) h
theorem tw_app {P : Nat → Bool} : ∀ {a : List Nat} {r : List Nat}, (∀ c ∈ a, P c = true) → (a ++ r).takeWhile P = a ++ r.takeWhile P
  | [], _, _ => rfl
  | c :: a, r, h => by
    rw [List.cons_append, List.takeWhile_cons, if_pos (h c (List.mem_cons_self ..)), tw_app fun x hx => h x (List.mem_cons_of_mem _ hx)]
    rfl
/-- signs that are taken together, the last one no white -/
structure Blk (b : List Nat) : Prop where
  pl : ∀ c ∈ b, StepL.contains c = false
  en : ∃ a c, b = a ++ [c] ∧ WhL.contains c = false
theorem Blk.ne {b : List Nat} (h : Blk b) : b ≠ [] := by
  obtain ⟨a, c, rfl, _⟩ := h.en
  simp
/-- white at the end left out -/
def rW (l : List Nat) : List Nat := (l.reverse.dropWhile fun c => WhL.contains c).reverse
theorem rW_app {a x : List Nat} {c : Nat} (hc : WhL.contains c = false) : rW (a ++ [c] ++ x) = a ++ [c] ++ rW x := by
  unfold rW
  have h : ∀ y : List Nat, (y ++ (a ++ [c]).reverse).dropWhile (fun c => WhL.contains c) = y.dropWhile (fun c => WhL.contains c) ++ (a ++ [c]).reverse := by
    intro y
    induction y with
    | nil =>
      rw [List.nil_append, List.reverse_append]
      show (c :: a.reverse).dropWhile _ = _
      rw [List.dropWhile_cons, if_neg (by rw [hc]; exact Bool.false_ne_true)]
      rfl
    | cons z y ih =>
      rw [List.cons_append, List.dropWhile_cons, List.dropWhile_cons]
      split
      · exact ih
      · rfl
  rw [List.reverse_append, h, List.reverse_append, List.reverse_reverse]
theorem rstW_eq (t : List Nat) : rstW t = rW t := by
  have hg : (S WhL).cps.contains = fun c => WhL.contains c := by
    funext c
    simp [S]
  have hd : t.take (t.length - (t.reverse.takeWhile fun c => WhL.contains c).length) = rW t := by
    unfold rW
    have e := List.takeWhile_append_dropWhile (p := fun c => WhL.contains c) (l := t.reverse)
    have e2 : t = (t.reverse.dropWhile fun c => WhL.contains c).reverse ++ (t.reverse.takeWhile fun c => WhL.contains c).reverse := by
      rw [← List.reverse_append, e, List.reverse_reverse]
    have el := congrArg List.length e2
    rw [List.length_append, List.length_reverse, List.length_reverse] at el
    have : t.length - (t.reverse.takeWhile fun c => WhL.contains c).length = (t.reverse.dropWhile fun c => WhL.contains c).reverse.length := by
      rw [List.length_reverse]
      omega
    rw [this]
    have h9 := congrArg (List.take (t.reverse.dropWhile fun c => WhL.contains c).reverse.length) e2
    rw [List.take_left] at h9
    exact h9
  unfold rstW Txt.rstripChars Txt.stripBy stripSame stripped stripLo stripHi
  rw [hg]
  simp only [if_true, Bool.false_eq_true, if_false]
  rw [S_tl, S_len, List.drop_zero]
  split
  · rename_i h
    have h0 : t.length - (t.reverse.takeWhile fun c => WhL.contains c).length = t.length := by
      have := (Bool.and_eq_true_iff.mp h).2
      exact eq_of_beq this
    rw [h0, List.take_length] at hd
    rw [S_tl]
    exact hd
  · rw [PySem.StrLaws.strSub_toList, S_tl, List.drop_zero, Nat.sub_zero]
    exact hd
theorem st_plain {t : List Nat} {p pl c : Nat} (h : StepL.contains c = false) : stR t p pl c = (.text (plW t p), plE t p, pl) := by
  unfold stR
  have h1 : c ≠ 92 := fun e => by subst e; cases h
  have h2 : c ≠ 38 := fun e => by subst e; cases h
  have h3 : c ≠ 10 := fun e => by subst e; cases h
  rw [if_neg h1, if_neg h2, if_neg h3]
theorem ns_app {b r : List Nat} (h : ∀ c ∈ b, StepL.contains c = false) : nsL (b ++ r) = b ++ nsL r := by
  unfold nsL
  exact tw_app fun c hc => by rw [h c hc]; rfl
theorem ple_app {t b r : List Nat} {p : Nat} (ht : t.drop p = b ++ r) (h : ∀ c ∈ b, StepL.contains c = false) (hne : b ≠ []) : plE t p = p + b.length + (nsL r).length := by
  cases b with
  | nil => exact absurd rfl hne
  | cons c b =>
    unfold plE
    rw [drop_one (r := b ++ r) ht, ns_app fun x hx => h x (List.mem_cons_of_mem _ hx), List.length_append, List.length_cons]
    omega
theorem plw_app {t b r : List Nat} {p : Nat} (ht : t.drop p = b ++ r) (h : ∀ c ∈ b, StepL.contains c = false) (hne : b ≠ []) : plW t p = if ([10] : List Nat).isPrefixOf (r.drop (nsL r).length) = true then rW (b ++ nsL r) else b ++ nsL r := by
  have e1 := ple_app ht h hne
  have e2 : (t.drop p).take (plE t p - p) = b ++ nsL r := by
    rw [ht, e1, show p + b.length + (nsL r).length - p = b.length + (nsL r).length by omega, List.take_append, List.take_of_length_le (by omega), show b.length + (nsL r).length - b.length = (nsL r).length by omega]
    congr 1
    unfold nsL
    conv => lhs; arg 2; rw [← List.takeWhile_append_dropWhile (p := fun c => !StepL.contains c) (l := r)]
    rw [List.take_left]
  have e3 : t.drop (plE t p) = r.drop (nsL r).length := by
    rw [e1, show p + b.length + (nsL r).length = p + (b.length + (nsL r).length) by omega, ← List.drop_drop, ht, List.drop_append, List.drop_of_length_le (by omega), show b.length + (nsL r).length - b.length = (nsL r).length by omega, List.nil_append]
  unfold plW
  rw [e2, e3, rstW_eq]
def Wht (a : List Nat) : Prop := ∀ c ∈ a, WhL.contains c = true
def hardW (ws : List Nat) : Bool := decide (ws.drop (ws.length - 2) = [32, 32])
theorem lf_step {t a r : List Nat} {c q pl : Nat} (ht : t.drop q = 10 :: (a ++ c :: r)) (ha : Wht a) (hc : WhL.contains c = false) : stR t q pl 10 = (if hardB t pl q = true then .hard else .soft, q + 1 + a.length, q + 1 + a.length) := by
  unfold stR lfR
  rw [if_neg (by decide), if_neg (by decide), if_pos rfl, pos_ba (drop_one ht) ha hc]
def sp_check_source (K : PySem.W.Frag) : Sp := fun vs H Q _ => ∃ z : Str, vs = [.str z] ∧ Q .non H
theorem ok_check_source {P : Program} {w : World} {K : PySem.W.Frag} {mg : Str → Option Value} {base : Heap} (T : Txt w K mg) : FnOk P w K mg base CX0 1 T.a_check_source T.d_check_source ["text"] (sp_check_source K) := by
  refine T.f_check_source.ok sc_check_source (fun vs H Q E h => ?_) (fun cdv A outer s H vs Q E hr h => ?_)
  · obtain ⟨z, rfl, _⟩ := h
    rfl
  · obtain ⟨z, rfl, q⟩ := h
    refine ⟨_, (pss_one (ps_if (pt_not (pt_val (pe_callB call_isi (by rfl) T.z_isinstance (by decide +kernel) (pa_cons (pv 0) (pa_cons (pe_bltn (v := .ty "str") (by rfl) T.z_str (by decide +kernel) rfl) pa_nil))))) (pss_one ps_dead) pss_nil)), ?_⟩
    exact ⟨_, rfl, .str z, .ty "str", _, _, true, rfl, .ty "str", .base (.str z), kit_ty (by decide +kernel : kitB "str" "str" = some true), _, rfl, iteF q⟩
theorem fnOk_none {P : Program} {w : World} {K : PySem.W.Frag} {mg : Str → Option Value} {base : Heap} {k : Nat} {f : Addr} {fd : FuncData} {ps : List Str} {sp : Sp} (no : ∀ vs H Q E, ¬ sp vs H Q E) : FnOk P w K mg base CX0 k f fd ps sp :=
  ⟨fun vs H Q E h => absurd h (no vs H Q E), fun A outer s H args us vs Q E _ _ _ _ h => absurd h (no vs H Q E)⟩
def sp_is_label (_ : PySem.W.Frag) : Sp := fun _ _ _ _ => False
theorem ok_is_label {P : Program} {w : World} {K : PySem.W.Frag} {mg : Str → Option Value} {base : Heap} (T : Txt w K mg) : FnOk P w K mg base CX0 5 T.a_is_label T.d_is_label ["thing"] (sp_is_label K) := by
  exact fnOk_none fun _ _ _ _ h => h
def sp_is_target (_ : PySem.W.Frag) : Sp := fun _ _ _ _ => False
theorem ok_is_target {P : Program} {w : World} {K : PySem.W.Frag} {mg : Str → Option Value} {base : Heap} (T : Txt w K mg) : FnOk P w K mg base CX0 1 T.a_is_target T.d_is_target ["thing"] (sp_is_target K) := by
  exact fnOk_none fun _ _ _ _ h => h
def sp_is_known (K : PySem.W.Frag) : Sp := fun vs H Q _ => ∃ d : Addr, vs = [.ref d] ∧ H d = some (.dK []) ∧ ∀ H', Same H H' → Q (.bl true) H'
theorem ok_is_known {P : Program} {w : World} {K : PySem.W.Frag} {mg : Str → Option Value} {base : Heap} (T : Txt w K mg) : FnOk P w K mg base CX0 6 T.a_is_known T.d_is_known ["thing"] (sp_is_known K) := by
  refine T.f_is_known.ok sc_is_known (fun vs H Q E h => ?_) (fun cdv A outer s H vs Q E hr h => ?_)
  · obtain ⟨d, rfl, _⟩ := h
    rfl
  · obtain ⟨d, rfl, hd, q⟩ := h
    refine ⟨_, (pss_cons (ps_if (pt_not (pt_val (pe_callB call_isi (by rfl) T.z_isinstance (by decide +kernel) (pa_cons (pv 0) (pa_cons (pe_bltn (v := .ty "dict") (by rfl) T.z_dict (by decide +kernel) rfl) pa_nil))))) (pss_one (ps_ret pe_bl)) pss_nil)
        (pss_one (ps_ret (pe_callB (cr_all rfl) (by rfl) T.z_all (by decide +kernel) (pa_cons (pe_lock (pe_lc (own := [("label", 1)]) (g := (gName 1)) (tt := tYes) (by rfl) sc_is_known.nd (pi_keys (pv 0)) (blkOk_by (own := [("label", 1)]) (N := ["thing", "label"]) (sc := defScope s_is_known) (by decide +kernel)) (fun _ _ _ _ _ => (pg_name (i := 1) sc_is_known.nd rfl (Or.inl rfl))) (fun _ _ _ _ _ => pts_nil) (fun _ _ _ _ _ => (pe_and (pe_call (ok_is_label T) (hr.mono (by decide)) (by rfl) T.g_is_label T.f_is_label.kp T.b_is_label .nil pass0 (pa_cons (pv 1) pa_nil)) (pe_one (pe_call (ok_is_target T) (hr.mono (by decide)) (by rfl) T.g_is_target T.f_is_target.kp T.b_is_target .nil pass0 (pa_cons (pe_dget (hu_of hr) (pv 0) (pv 1) (fun _ _ => rfl)) pa_nil))))))) pa_nil))))), ?_⟩
    refine ⟨_, rfl, .ref d, .ty "dict", _, _, true, rfl, .ty "dict", .base (.dK hd), kit_ty (by decide +kernel : kitB "dict" "dict" = some true), _, rfl, iteF ?_⟩
    refine ⟨d, _, hd, (by exact True.intro), fun od => ?_⟩
    refine ⟨_, rfl, d, od, rfl, .inl ⟨[], upd_same, fun D nD => ?_⟩⟩
    have nd : d ≠ D := ne_of_none upd_same nD
    have nD0 : H D = none := by rw [upd_ne nd.symm] at nD; exact nD
    refine lc_it (walk_keys (d := d) (o := od) (kvs := [])) (fun i H' => H' = upd (upd H d (.frz od (.dK []))) D (.lst [])) rfl (fun i H' _ e => by rw [e, upd_ne nd]; exact upd_same) ?_ ?_
    · intro i x H' H'' hi
      exact absurd hi (Nat.not_lt_zero _)
    · rintro H' rfl
      refine ⟨by rw [upd_ne nd]; exact upd_same, D, [], rfl, SqL.of (by rw [upd_ne nd.symm]; exact upd_same), q _ fun b o e => ?_⟩
      by_cases hb : b = d
      · rw [hb, upd_same, ← hd, ← hb, e]
      · rw [upd_ne hb, upd_ne (ne_of_none e nD0), upd_ne hb]
        exact e
def stI (t : List Nat) (p pl c : Nat) : It × Nat × Nat :=
  if c = 96 then (.inl (.text [96]), p + 1, p + 1)
  else if c = 42 ∨ c = 95 then (.run (runOf t p c), runEnd t p c, runEnd t p c)
  else (.inl (stR t p pl c).1, (stR t p pl c).2.1, (stR t p pl c).2.2)
def okI (t : List Nat) (p c : Nat) : Prop := False ∨ c = 42 ∨ c = 95 ∨ c = 92 ∨ c = 38 ∨ c = 10 ∨ StepL.contains c = false
inductive RdI (t : List Nat) : Nat → Nat → List It → Prop
  | done {pl : Nat} : RdI t t.length pl []
  | step {p pl c : Nat} {i : It} {p' pl' : Nat} {its : List It} : t[p]? = some c → okI t p c → stI t p pl c = (i, p', pl') → RdI t p' pl' its → RdI t p pl (i :: its)
theorem rdI_inv {t : List Nat} {p pl : Nat} {its : List It} (h : RdI t p pl its) : (p = t.length ∧ its = []) ∨ ∃ c i p' pl' its', t[p]? = some c ∧ okI t p c ∧ stI t p pl c = (i, p', pl') ∧ RdI t p' pl' its' ∧ its = i :: its' := by
  cases h with
  | done => exact .inl ⟨rfl, rfl⟩
  | step h1 h2 h3 h4 => exact .inr ⟨_, _, _, _, _, h1, h2, h3, h4, rfl⟩
theorem pos_ge {t r : List Nat} {q : Nat} (hq : q ≤ t.length) (h : r.length ≤ t.length - q) : q ≤ pos t r := by
  unfold pos
  omega
theorem ba_len (ws r : List Nat) : (ba ws r).length ≤ r.length := dw_len _ _
theorem st_le {t : List Nat} {p pl c : Nat} (hc : t[p]? = some c) (hpl : pl ≤ p) : p < (stR t p pl c).2.1 ∧ (stR t p pl c).2.1 ≤ t.length ∧ (stR t p pl c).2.2 ≤ (stR t p pl c).2.1 := by
  have hp := (List.getElem?_eq_some_iff.mp hc).1
  have hb : ∀ q, q ≤ t.length → q ≤ pos t (ba WhL (t.drop q)) := fun q hq => pos_ge hq (by have := ba_len WhL (t.drop q); rw [List.length_drop] at this; exact this)
  unfold stR
  split
  · unfold bsR
    split
    · rename_i he
      obtain ⟨x, hx, _⟩ := esc_len he
      have := (List.getElem?_eq_some_iff.mp hx).1
      exact ⟨by show p < p + 2; omega, by show p + 2 ≤ _; omega, Nat.le_refl _⟩
    · split
      · rename_i _ hl
        have h2 := pre1 hl
        have h3 := hb (p + 2) (by omega)
        exact ⟨by show p < pos t _; omega, pos_le _ _, Nat.le_refl _⟩
      · exact ⟨by show p < p + 1; omega, by show p + 1 ≤ _; omega, Nat.le_refl _⟩
  · split
    · have h1 : 1 ≤ (rfR (t.drop p)).2 ∧ (rfR (t.drop p)).2 ≤ (t.drop p).length := by
        unfold rfR
        split
        · rename_i k c h
          exact refR_pos h
        · exact ⟨Nat.le_refl _, by rw [List.length_drop]; show 1 ≤ _; omega⟩
      rw [List.length_drop] at h1
      exact ⟨by show p < p + _; omega, by show p + _ ≤ _; omega, Nat.le_refl _⟩
    · split
      · have h3 := hb (p + 1) (by omega)
        exact ⟨by show p < pos t _; omega, pos_le _ _, Nat.le_refl _⟩
      · have := plE_le hp
        exact ⟨this.2, this.1, by show pl ≤ plE t p; omega⟩
theorem run_end {t : List Nat} {p c : Nat} (hc : t[p]? = some c) : p < runEnd t p c ∧ runEnd t p c ≤ t.length := by
  have hp := (List.getElem?_eq_some_iff.mp hc).1
  have hd : t.drop p = c :: t.drop (p + 1) := by
    have e : t[p] = c := (List.getElem?_eq_some_iff.mp hc).2
    rw [List.drop_eq_getElem_cons hp, e]
  refine ⟨?_, pos_le _ _⟩
  unfold runEnd pos ba
  rw [hd, List.dropWhile_cons, if_pos (by simp)]
  have := dw_len (fun x => ([c] : List Nat).contains x) (t.drop (p + 1))
  rw [List.length_drop] at this
  omega
theorem stI_le {t : List Nat} {p pl c : Nat} (hc : t[p]? = some c) (hpl : pl ≤ p) : p < (stI t p pl c).2.1 ∧ (stI t p pl c).2.1 ≤ t.length ∧ (stI t p pl c).2.2 ≤ (stI t p pl c).2.1 := by
  unfold stI
  by_cases h1 : c = 96
  · rw [if_pos h1]
    have hp := (List.getElem?_eq_some_iff.mp hc).1
    exact ⟨Nat.lt_succ_self _, hp, Nat.le_refl _⟩
  · rw [if_neg h1]
    by_cases h2 : c = 42 ∨ c = 95
    · rw [if_pos h2]
      have := run_end hc
      exact ⟨this.1, this.2, Nat.le_refl _⟩
    · rw [if_neg h2]
      exact st_le hc hpl
theorem rdI_len {t : List Nat} {p pl : Nat} {its : List It} (h : RdI t p pl its) : pl ≤ p → p + its.length ≤ t.length := by
  induction h with
  | done => intro _; exact Nat.le_refl _
  | @step p pl c i p' pl' its h1 h2 h3 h4 ih =>
    intro hpl
    obtain ⟨g1, g2, g3⟩ := stI_le h1 hpl
    rw [h3] at g1 g2 g3
    have := ih g3
    rw [List.length_cons]
    have g1' : p < p' := g1
    omega
/-- the steps that are reached -/
def SS {w : World} {K : PySem.W.Frag} {mg : Str → Option Value} (T : Txt w K mg) (f : Addr) (sp : Sp) : Prop := (f = T.a_take_backslash ∧ sp = sp_take_backslash K (T.c_Scan, T.c_Run)) ∨ (f = T.a_take_reference ∧ sp = sp_take_reference K (T.c_Scan, T.c_Run)) ∨ (f = T.a_take_line_feed ∧ sp = sp_take_line_feed K (T.c_Scan, T.c_Run)) ∨ False ∨ (f = T.a_take_run ∧ sp = sp_take_run K (T.c_Scan, T.c_Run))
theorem AC {P : Program} {w : World} {K : PySem.W.Frag} {mg : Str → Option Value} {base : Heap} (T : Txt w K mg) : ∀ f sp, SS T f sp → Held P w K mg base 10 f sp := by
  intro f sp h
  rcases h with ⟨rfl, rfl⟩ | ⟨rfl, rfl⟩ | ⟨rfl, rfl⟩ | hf | ⟨rfl, rfl⟩
  · exact ⟨_, _, fnOk_up (ok_take_backslash T) (by decide), T.f_take_backslash.kp, T.b_take_backslash⟩
  · exact ⟨_, _, fnOk_up (ok_take_reference T) (by decide), T.f_take_reference.kp, T.b_take_reference⟩
  · exact ⟨_, _, fnOk_up (ok_take_line_feed T) (by decide), T.f_take_line_feed.kp, T.b_take_line_feed⟩
  · exact hf.elim
  · exact ⟨_, _, fnOk_up (ok_take_run T) (by decide), T.f_take_run.kp, T.b_take_run⟩
/-- what the row of a content comes to -/
structure BOk (its : List It) (out : List Inl) : Prop where
  cnt : Cnt (runsOf its) 0
  out : builtM its = some out
  pos : ∀ s ∈ pairR (runsOf its), 0 ≤ s.left ∧ s.left ≤ 1000
  sum : ((fillR its (pairR (runsOf its))).map itN).sum ≤ 39000
def sp_scanned (P : Program) (w : World) (K : PySem.W.Frag) : Sp := fun vs H Q _ => ∃ (kn : Addr) (t : List Nat) (its : List It) (out : List Inl), vs = [.str (S t), .ref kn] ∧ t.length ≤ 30000 ∧ Asc t ∧ RdI t 0 0 its ∧ BOk its out ∧ ∀ H' v, Same H H' → Dp K H' v (.tuple (rowD out)) → Q v H'
theorem ok_scanned {P : Program} {w : World} {K : PySem.W.Frag} {mg : Str → Option Value} {base : Heap} (T : Txt w K mg) : FnOk P w K mg base CX0 12 T.a_scanned T.d_scanned ["content", "known"] (sp_scanned P w K) := by
  refine T.f_scanned.ok sc_scanned (fun vs H Q E h => ?_) (fun cdv A outer s H vs Q E hr h => ?_)
  · obtain ⟨kn, t, its, out, rfl, _⟩ := h
    rfl
  · obtain ⟨kn, t, its, out, rfl, ht, ha, hrd, hbo, q⟩ := h
    refine ⟨_, (pss_cons (ps_set (i := 2) sc_scanned.nd rfl (.inl rfl) (pe_make T.mk_Scan (ok_Scan____init__ T) (hr.mono (by decide)) (by rfl) T.gc_Scan T.b_Scan____init__ .nil pass0 (pa_cons (pv 0) (pa_cons (pv 1) pa_nil))))
        (pss_cons (ps_while PassesOwn.never (pt_cmpR op_lt (pe_fld (pv 2) rfl) (pe_callB call_len_str (by rfl) T.z_len PySem.boot_len (pa_cons (pv 0) pa_nil)) (nomark _)) (pss_cons (ps_set (i := 3) sc_scanned.nd rfl (.inl rfl) (pe_ix ix_str (pv 0) (pe_fld (pv 2) rfl) (fun _ _ => rfl)))
        (pss_one (ps_if (pt_cmpR (op_in_ks T.k_STEPS) (pv 3) (pe_glob (v := .ref T.a_STEPS) rfl T.g_STEPS rfl) (by rfl)) (pss_cons (ps_set (i := 4) sc_scanned.nd rfl (.inl rfl) (pe_ix (ix_ks T.k_STEPS) (pe_glob (v := .ref T.a_STEPS) rfl T.g_STEPS rfl) (pv 3) (fun _ _ => rfl)))
        (pss_one (ps_expr (pe_callR (AC T) (hr.mono (by decide)) (i := 4) rfl (.inl rfl) (pa_cons (pv 2) pa_nil))))) (pss_one (ps_expr (pe_call (ok_take_plain T) (hr.mono (by decide)) (by rfl) T.g_take_plain T.f_take_plain.kp T.b_take_plain .nil pass0 (pa_cons (pv 2) pa_nil))))))))
        (pss_one (ps_ret (pe_call (ok_built T) (hr.mono (by decide)) (by rfl) T.g_built T.f_built.kp T.b_built .nil pass0 (pa_cons (pe_fld (pv 2) rfl) pa_nil)))))), ?_⟩
    refine ⟨_, rfl, _, rfl, fun x dx nx ndx hne => ?_⟩
    have s0 : Same H (upd (upd H dx (.own x)) x (.ins T.c_Scan dx [])) := (same_new ndx).trans (same_new (by rw [upd_ne hne.symm]; exact nx))
    refine ⟨H, x, kn, dx, t, rfl, by omega, upd_same, nx, s0, fun H1 row sc => ⟨rfl, ?_⟩⟩
    have rl := rdI_len hrd (Nat.le_refl _)
    refine ⟨fun m σ H' => ∃ (p pl : Nat) (dn rest : List It) (o1 o2 : Option V), σ = [some (.str (S t)), some (.ref kn), some (.ref x), o1, o2] ∧ ScanAt K (T.c_Scan, T.c_Run) H H' x row t p pl dn ∧ RdI t p pl rest ∧ dn ++ rest = its ∧ pl ≤ p ∧ m = t.length - p, ⟨_, 0, 0, [], its, none, none, rfl, sc, hrd, rfl, Nat.le_refl _, rfl⟩, ?_⟩
    rintro m σ H' ⟨p, pl, dn, rest, o1, o2, rfl, hs, hr2, hdn, hpl, rfl⟩
    obtain ⟨dx', kn', br, st, nt, bar, h1, hbr, as, ls, vs, h6, h7, h8, h9, h10⟩ := hs.ob
    have ldn : dn.length ≤ its.length := by rw [← hdn, List.length_append]; omega
    refine ⟨_, rfl, x, T.c_Scan, dx', _, _, rfl, h1, T.cl_Scan, T.na_Scan_place, rfl, _, rfl, _, rfl, by rw [S_len, sizeLine_eq]; omega, _, _, rfl, rfl, _, rfl, ?_⟩
    rcases rdI_inv hr2 with ⟨rfl, rfl⟩ | ⟨c, i, p', pl', rest', h2, h3, h4, h5, rfl⟩
    · rw [show decide ((t.length : Int) < ((S t).length : Int)) = false from decide_eq_false (by rw [S_len]; omega)]
      refine iteF ?_
      rw [List.append_nil] at hdn
      subst hdn
      have nd : (ls ++ [row]).Nodup := by
        rw [List.nodup_cons, List.nodup_cons, List.nodup_cons, List.nodup_cons] at h9
        rw [List.nodup_append]
        refine ⟨(List.nodup_append.mp h9.2.2.2.2).2.1, by simp, fun a ha b hb z => ?_⟩
        rw [List.mem_singleton] at hb
        exact h9.2.2.1 (by rw [← hb, ← z]; exact List.mem_cons_of_mem _ (List.mem_append_right _ ha))
      refine ⟨_, rfl, x, T.c_Scan, dx', _, _, rfl, h1, T.cl_Scan, T.na_Scan_row, rfl, row, vs, dn, ls, out, rfl, h6, h7, nd, by omega, hbo.cnt, hbo.out, hbo.pos, hbo.sum, fun H2 v dv fr => q _ _ (fun b o e => fr b o (fun m => ?_) (hs.sm _ _ e)) dv⟩
      rw [h10 b (by simp only [List.mem_cons]; exact .inr (.inr (.inr (.inr (List.mem_append_right _ m))))) ] at e
      cases e
    · have hp := (List.getElem?_eq_some_iff.mp h2).1
      have hle := stI_le h2 hpl
      rw [h4] at hle
      obtain ⟨g1, g2, g3⟩ := hle
      have g1' : p < p' := g1
      rw [show decide ((p : Int) < ((S t).length : Int)) = true from decide_eq_true (by rw [S_len]; omega)]
      have nxt : ∀ (σ' : L2.St) (H2 : Hp) (o3 o4 : Option V), σ' = [some (.str (S t)), some (.ref kn), some (.ref x), o3, o4] → ScanAt K (T.c_Scan, T.c_Run) H H2 x row t p' pl' (dn ++ [i]) → ∃ m', m' < t.length - p ∧ ∃ (p pl : Nat) (dn rest : List It) (o1 o2 : Option V), σ' = [some (.str (S t)), some (.ref kn), some (.ref x), o1, o2] ∧ ScanAt K (T.c_Scan, T.c_Run) H H2 x row t p pl dn ∧ RdI t p pl rest ∧ dn ++ rest = its ∧ pl ≤ p ∧ m' = t.length - p := fun σ' H2 o3 o4 e1 e2 =>
        ⟨t.length - p', by have : p' ≤ t.length := g2; omega, p', pl', dn ++ [i], rest', o3, o4, e1, e2, h5, by rw [List.append_assoc]; exact hdn, g3, rfl⟩
      refine iteT ⟨fun σ' H2 => ∃ m', m' < t.length - p ∧ ∃ (p pl : Nat) (dn rest : List It) (o1 o2 : Option V), σ' = [some (.str (S t)), some (.ref kn), some (.ref x), o1, o2] ∧ ScanAt K (T.c_Scan, T.c_Run) H H2 x row t p pl dn ∧ RdI t p pl rest ∧ dn ++ rest = its ∧ pl ≤ p ∧ m' = t.length - p, fun σ' H2 h => h, ?_⟩
      refine ⟨_, rfl, _, rfl, x, T.c_Scan, dx', _, _, rfl, h1, T.cl_Scan, T.na_Scan_place, rfl, S t, p, c, rfl, rfl, by rw [S_len, sizeLine_eq]; omega, atI_nat (by rw [S_tl]; exact h2), ?_⟩
      refine ⟨_, rfl, S [c], rfl, rfl, _, rfl, ?_⟩
      rw [step_in (c := c) (by rfl)]
      unfold stI at h4
      rcases h3 with h3 | rfl | rfl | rfl | rfl | rfl | h3
      · exact h3.elim
      · refine iteT ⟨_, rfl, S [42], .ref T.a_take_run, rfl, rfl, (by rfl), _, sp_take_run K (T.c_Scan, T.c_Run), rfl, .inr (.inr (.inr (.inr ⟨rfl, rfl⟩))), _, rfl, ?_⟩
        rw [if_neg (by decide), if_pos (.inl rfl)] at h4
        obtain ⟨e1, e2⟩ := Prod.mk.inj h4
        obtain ⟨e2, e3⟩ := Prod.mk.inj e2
        subst e1 e2 e3
        exact ⟨H, x, row, t, p, pl, 42, dn, rfl, hs, h2, by omega, by omega, fun H2 hs2 _ => nxt _ _ _ _ rfl hs2⟩
      · refine iteT ⟨_, rfl, S [95], .ref T.a_take_run, rfl, rfl, (by rfl), _, sp_take_run K (T.c_Scan, T.c_Run), rfl, .inr (.inr (.inr (.inr ⟨rfl, rfl⟩))), _, rfl, ?_⟩
        rw [if_neg (by decide), if_pos (.inr rfl)] at h4
        obtain ⟨e1, e2⟩ := Prod.mk.inj h4
        obtain ⟨e2, e3⟩ := Prod.mk.inj e2
        subst e1 e2 e3
        exact ⟨H, x, row, t, p, pl, 95, dn, rfl, hs, h2, by omega, by omega, fun H2 hs2 _ => nxt _ _ _ _ rfl hs2⟩
      · refine iteT ⟨_, rfl, S [92], .ref T.a_take_backslash, rfl, rfl, (by rfl), _, sp_take_backslash K (T.c_Scan, T.c_Run), rfl, .inl ⟨rfl, rfl⟩, _, rfl, ?_⟩
        rw [if_neg (by decide), if_neg (by decide)] at h4
        unfold stR at h4
        rw [if_pos rfl] at h4
        obtain ⟨e1, e2⟩ := Prod.mk.inj h4
        obtain ⟨e2, e3⟩ := Prod.mk.inj e2
        subst e1 e2 e3
        exact ⟨H, x, row, t, p, pl, dn, rfl, hs, hp, by omega, by omega, fun H2 hs2 _ => nxt _ _ _ _ rfl hs2⟩
      · refine iteT ⟨_, rfl, S [38], .ref T.a_take_reference, rfl, rfl, (by rfl), _, sp_take_reference K (T.c_Scan, T.c_Run), rfl, .inr (.inl ⟨rfl, rfl⟩), _, rfl, ?_⟩
        rw [if_neg (by decide), if_neg (by decide)] at h4
        unfold stR at h4
        rw [if_neg (by decide), if_pos rfl] at h4
        obtain ⟨e1, e2⟩ := Prod.mk.inj h4
        obtain ⟨e2, e3⟩ := Prod.mk.inj e2
        subst e1 e2 e3
        exact ⟨H, x, row, t, p, pl, dn, rfl, hs, ⟨by omega, by omega⟩, ha, by omega, fun H2 hs2 _ => nxt _ _ _ _ rfl hs2⟩
      · refine iteT ⟨_, rfl, S [10], .ref T.a_take_line_feed, rfl, rfl, (by rfl), _, sp_take_line_feed K (T.c_Scan, T.c_Run), rfl, .inr (.inr (.inl ⟨rfl, rfl⟩)), _, rfl, ?_⟩
        rw [if_neg (by decide), if_neg (by decide)] at h4
        unfold stR at h4
        rw [if_neg (by decide), if_neg (by decide), if_pos rfl] at h4
        obtain ⟨e1, e2⟩ := Prod.mk.inj h4
        obtain ⟨e2, e3⟩ := Prod.mk.inj e2
        subst e1 e2 e3
        exact ⟨H, x, row, t, p, pl, dn, rfl, hs, hp, hpl, by omega, by omega, fun H2 hs2 _ => nxt _ _ _ _ rfl hs2⟩
      · rw [h3]
        have n1 : c ≠ 96 := fun e => by subst e; cases h3
        have n2 : ¬ (c = 42 ∨ c = 95) := fun e => by rcases e with rfl | rfl <;> cases h3
        rw [if_neg n1, if_neg n2, st_plain h3] at h4
        obtain ⟨e1, e2⟩ := Prod.mk.inj h4
        obtain ⟨e2, e3⟩ := Prod.mk.inj e2
        subst e1 e2 e3
        exact iteF ⟨_, rfl, H, x, row, t, p, pl, dn, rfl, hs, hp, by omega, by omega, fun H2 hs2 _ => nxt _ _ _ _ rfl hs2⟩
def sp_inlines (P : Program) (w : World) (K : PySem.W.Frag) : Sp := fun vs H Q _ => ∃ (t : List Nat) (its : List It) (out : List Inl), vs = [.str (S t), .non] ∧ t.length ≤ 30000 ∧ Asc t ∧ RdI t 0 0 its ∧ BOk its out ∧ ∀ H' v, Same H H' → Dp K H' v (.tuple (rowD out)) → Q v H'
theorem ok_inlines {P : Program} {w : World} {K : PySem.W.Frag} {mg : Str → Option Value} {base : Heap} (T : Txt w K mg) : FnOk P w K mg base CX0 13 T.a_inlines T.d_inlines ["content", "known"] (sp_inlines P w K) := by
  refine fund_ok T.f_inlines sc_inlines (fun vs H Q E h => ?_) (fun cdv A outer s H vs Q E hr h => ?_)
  · obtain ⟨t, its, out, rfl, _⟩ := h
    rfl
  · obtain ⟨t, its, out, rfl, ht, ha, hrd, hbo, q⟩ := h
    refine ⟨_, (pss_cons (ps_expr (pe_call (ok_check_source T) (hr.mono (by decide)) (by rfl) T.g_check_source T.f_check_source.kp T.b_check_source .nil pass0 (pa_cons (pv 0) pa_nil)))
        (pss_cons (ps_if (pt_cmpR op_isN (pv 1) pe_non (nomark _)) (pss_one (ps_set (i := 1) sc_inlines.nd rfl (.inl rfl) pe_dnewK)) pss_nil)
        (pss_cons (ps_if (pt_not (pt_val (pe_call (ok_is_known T) (hr.mono (by decide)) (by rfl) T.g_is_known T.f_is_known.kp T.b_is_known .nil pass0 (pa_cons (pv 1) pa_nil)))) (pss_one ps_dead) pss_nil)
        (pss_one (ps_ret (pe_call (ok_scanned T) (hr.mono (by decide)) (by rfl) T.g_scanned T.f_scanned.kp T.b_scanned .nil pass0 (pa_cons (pv 0) (pa_cons (pv 1) pa_nil)))))))), ?_⟩
    refine ⟨_, rfl, S t, rfl, ?_⟩
    refine ⟨_, rfl, rfl, _, rfl, iteT fun d nd => ?_⟩
    refine ⟨_, rfl, d, rfl, upd_same, fun H1 s1 => ⟨_, rfl, iteF ?_⟩⟩
    have s2 : Same H H1 := (same_new nd).trans s1
    refine ⟨_, rfl, _, rfl, d, t, its, out, rfl, ht, ha, hrd, hbo, fun H2 v s3 hd => q _ _ (s2.trans s3) hd⟩
theorem isT_is {i : Inl} (h : isT i = true) : ∃ t, i = .text t := by cases i <;> first | exact ⟨_, rfl⟩ | cases h
def noT (done : List Inl) : Prop := ∀ x, done.getLast? = some x → isT x = false
def isTI : It → Bool
  | .inl i => isT i
  | .run _ => false
def jnI : List Nat → List It → List It
  | w, [] => (txtI w).map It.inl
  | w, .inl (.text t) :: r => jnI (w ++ t) r
  | w, x :: r => (txtI w).map It.inl ++ x :: jnI [] r
theorem jnI_other {x : It} (h : isTI x = false) (w : List Nat) (r : List It) : jnI w (x :: r) = (txtI w).map It.inl ++ x :: jnI [] r := by
  cases x with
  | run d => rfl
  | inl i => cases i <;> first | rfl | cases h
def spl : List Nat → List Inl → List Inl × List Nat
  | w, [] => ([], w)
  | w, .text t :: r => spl (w ++ t) r
  | w, x :: r => (txtI w ++ x :: (spl [] r).1, (spl [] r).2)
theorem spl_other {x : Inl} (h : isT x = false) (w : List Nat) (r : List Inl) : spl w (x :: r) = (txtI w ++ x :: (spl [] r).1, (spl [] r).2) := by
  cases x <;> first | rfl | cases h
theorem jn_spl : ∀ (r : List Inl) (w : List Nat) (c : List Inl), jnR w (r ++ c) = (spl w r).1 ++ jnR (spl w r).2 c
  | [], w, c => rfl
  | x :: r, w, c => by
    by_cases h : isT x = true
    · obtain ⟨t, rfl⟩ := isT_is h
      exact jn_spl r (w ++ t) c
    · have h' : isT x = false := by simpa using h
      rw [spl_other h', List.cons_append, jn_other h', jn_spl r [] c]
      simp
theorem jn_split (w : List Nat) (r : List Inl) : jnR w r = (spl w r).1 ++ txtI (spl w r).2 := by
  have := jn_spl r w []
  rw [List.append_nil] at this
  exact this
theorem spl_noT : ∀ (r : List Inl) (w : List Nat), noT (spl w r).1
  | [], w => fun x h => by cases h
  | x :: r, w => by
    by_cases h : isT x = true
    · obtain ⟨t, rfl⟩ := isT_is h
      exact spl_noT r (w ++ t)
    · have h' : isT x = false := by simpa using h
      rw [spl_other h']
      intro y hy
      have ih := spl_noT r []
      show isT y = false
      rw [List.getLast?_append, List.getLast?_cons] at hy
      cases hl : (spl [] r).1.getLast? with
      | none =>
        rw [hl] at hy
        cases hy
        exact h'
      | some z =>
        rw [hl] at hy
        cases hy
        exact ih _ hl
theorem done_inj {a b : List Inl} {u v : List Nat} (ha : noT a) (hb : noT b) (h : a ++ txtI u = b ++ txtI v) : a = b ∧ u = v := by
  by_cases hu : u = []
  · subst hu
    by_cases hv : v = []
    · subst hv
      exact ⟨by simpa [txtI] using h, rfl⟩
    · unfold txtI at h
      rw [if_pos rfl, if_neg hv, List.append_nil] at h
      have := ha (.text v) (by rw [h, List.getLast?_append]; rfl)
      cases this
  · by_cases hv : v = []
    · subst hv
      unfold txtI at h
      rw [if_pos rfl, if_neg hu, List.append_nil] at h
      have := hb (.text u) (by rw [← h, List.getLast?_append]; rfl)
      cases this
    · unfold txtI at h
      rw [if_neg hu, if_neg hv] at h
      obtain ⟨e1, e2⟩ := List.append_inj' h rfl
      cases e2
      exact ⟨e1, rfl⟩
theorem jn_cong {x y : List Inl} (h : jnR [] x = jnR [] y) (c : List Inl) : jnR [] (x ++ c) = jnR [] (y ++ c) := by
  rw [jn_split, jn_split] at h
  obtain ⟨e1, e2⟩ := done_inj (spl_noT _ _) (spl_noT _ _) h
  rw [jn_spl, jn_spl, e1, e2]
theorem jn_nil (x : List Inl) : jnR [] (x ++ [.text []]) = jnR [] x := by
  rw [jn_spl, jn_split [] x]
  show _ ++ txtI ((spl [] x).2 ++ []) = _
  rw [List.append_nil]
theorem jn_two (x : List Inl) (a b : List Nat) : jnR [] (x ++ [.text (a ++ b)]) = jnR [] (x ++ [.text a] ++ [.text b]) := by
  rw [List.append_assoc, jn_spl, jn_spl]
  show _ ++ txtI ((spl [] x).2 ++ (a ++ b)) = _ ++ txtI ((spl [] x).2 ++ a ++ b)
  rw [List.append_assoc]
def nrm (rows : List (List Inl)) : List (List Inl) := rows.map (jnR [])
def RE (a b : List (List Inl)) : Prop := nrm a = nrm b
def ORE (a b : Option (List (List Inl))) : Prop := a.map nrm = b.map nrm
theorem RE.len {a b : List (List Inl)} (h : RE a b) : a.length = b.length := by
  have := congrArg List.length h
  unfold nrm at this
  rwa [List.length_map, List.length_map] at this
theorem re_cons {x y : List Inl} {a b : List (List Inl)} (h : RE (x :: a) (y :: b)) : jnR [] x = jnR [] y ∧ RE a b := by
  have h' : jnR [] x :: nrm a = jnR [] y :: nrm b := h
  exact ⟨(List.cons.inj h').1, (List.cons.inj h').2⟩
theorem re_mk {x y : List Inl} {a b : List (List Inl)} (h : jnR [] x = jnR [] y) (g : RE a b) : RE (x :: a) (y :: b) := by
  show jnR [] x :: nrm a = jnR [] y :: nrm b
  rw [h, show nrm a = nrm b from g]
theorem addM_RE {a b : List (List Inl)} (i : Inl) (h : RE a b) : RE (addM i a) (addM i b) := by
  cases a with
  | nil =>
    cases b with
    | nil => exact h
    | cons y b => exact absurd h.len (by simp)
  | cons x a =>
    cases b with
    | nil => exact absurd h.len (by simp)
    | cons y b =>
      obtain ⟨h1, h2⟩ := re_cons h
      exact re_mk (jn_cong h1 _) h2
theorem endM_RE {a b : List (List Inl)} (st : Bool) (h : RE a b) : ORE (endM st a) (endM st b) := by
  have hl := h.len
  match a, b with
  | [], [] => rfl
  | [], _ :: _ => exact absurd hl (by simp)
  | _ :: _, [] => exact absurd hl (by simp)
  | [x], [y] => rfl
  | [x], y :: y2 :: b => exact absurd hl (by simp)
  | x :: x2 :: a, [y] => exact absurd hl (by simp)
  | x :: x2 :: a, y :: y2 :: b =>
    obtain ⟨h1, h2⟩ := re_cons h
    obtain ⟨h3, h4⟩ := re_cons h2
    show (some (nrm ((x2 ++ [mkI st (jnR [] x)]) :: a))) = some (nrm ((y2 ++ [mkI st (jnR [] y)]) :: b))
    rw [h1]
    exact congrArg some (re_mk (jn_cong h3 _) h4)
theorem endsM_RE : ∀ (bs : List Bool) {a b : List (List Inl)}, RE a b → ORE (endsM bs a) (endsM bs b)
  | [], _, _, h => congrArg some h
  | c :: bs, a, b, h => by
    have h1 := endM_RE c h
    unfold endsM
    unfold ORE at h1
    cases ha : endM c a with
    | none =>
      rw [ha] at h1
      cases hb : endM c b with
      | none => rfl
      | some y => rw [hb] at h1; cases h1
    | some x =>
      rw [ha] at h1
      cases hb : endM c b with
      | none => rw [hb] at h1; cases h1
      | some y =>
        rw [hb] at h1
        exact endsM_RE bs (Option.some.inj h1)
theorem re_rep {a b : List (List Inl)} (h : RE a b) (n : Nat) : RE (List.replicate n [] ++ a) (List.replicate n [] ++ b) := by
  unfold RE nrm at h ⊢
  rw [List.map_append, List.map_append, h]
theorem runM_RE (s : RunS) {a b : List (List Inl)} (h : RE a b) : ORE (runM s a) (runM s b) := by
  have h1 := endsM_RE s.en h
  unfold runM
  unfold ORE at h1
  cases ha : endsM s.en a with
  | none =>
    rw [ha] at h1
    cases hb : endsM s.en b with
    | none => rfl
    | some y => rw [hb] at h1; cases h1
  | some x =>
    rw [ha] at h1
    cases hb : endsM s.en b with
    | none => rw [hb] at h1; cases h1
    | some y =>
      rw [hb] at h1
      exact congrArg some (re_rep (addM_RE _ (Option.some.inj h1)) _)
theorem bldM_RE : ∀ (l : List ItR) {a b : List (List Inl)}, RE a b → ORE (bldM l a) (bldM l b)
  | [], _, _, h => congrArg some h
  | .inl i :: l, a, b, h => bldM_RE l (addM_RE i h)
  | .run s :: l, a, b, h => by
    have h1 := runM_RE s h
    unfold bldM
    unfold ORE at h1
    cases ha : runM s a with
    | none =>
      rw [ha] at h1
      cases hb : runM s b with
      | none => rfl
      | some y => rw [hb] at h1; cases h1
    | some x =>
      rw [ha] at h1
      cases hb : runM s b with
      | none => rw [hb] at h1; cases h1
      | some y =>
        rw [hb] at h1
        exact bldM_RE l (Option.some.inj h1)
theorem bld_run (s : RunS) (l : List ItR) (rows : List (List Inl)) : bldM (.run s :: l) rows = (runM s rows).bind (bldM l) := by
  show (match runM s rows with | none => none | some rows' => bldM l rows') = _
  cases runM s rows <;> rfl
theorem ore_bind {x y : Option (List (List Inl))} (h : ORE x y) {f g : List (List Inl) → Option (List (List Inl))} (hfg : ∀ a b, RE a b → ORE (f a) (g b)) : ORE (x.bind f) (y.bind g) := by
  unfold ORE at h
  cases x with
  | none =>
    cases y with
    | none => rfl
    | some b => cases h
  | some a =>
    cases y with
    | none => cases h
    | some b => exact hfg a b (Option.some.inj h)
theorem re_txt (w : List Nat) (rows : List (List Inl)) : ∃ rows1, (∀ l, bldM ((txtI w).map ItR.inl ++ l) rows = bldM l rows1) ∧ RE rows1 (addM (.text w) rows) := by
  unfold txtI
  by_cases h : w = []
  · rw [if_pos h]
    refine ⟨rows, fun l => rfl, ?_⟩
    subst h
    cases rows with
    | nil => rfl
    | cons x r => exact re_mk (jn_nil x).symm rfl
  · rw [if_neg h]
    exact ⟨_, fun l => rfl, rfl⟩
theorem fill_txt (w : List Nat) (l : List It) (rs : List RunS) : fillR ((txtI w).map It.inl ++ l) rs = (txtI w).map ItR.inl ++ fillR l rs := by
  unfold txtI
  split <;> rfl
theorem re_nil (rows : List (List Inl)) : RE rows (addM (.text []) rows) := by
  cases rows with
  | nil => rfl
  | cons x r => exact re_mk (jn_nil x).symm rfl
theorem grp : ∀ (its : List It) (w : List Nat) (rs : List RunS) (rows : List (List Inl)), ORE (bldM (fillR (jnI w its) rs) rows) (bldM (fillR its rs) (addM (.text w) rows))
  | [], w, rs, rows => by
    show ORE (bldM (fillR ((txtI w).map It.inl) rs) rows) (some _)
    have e : (txtI w).map It.inl = (txtI w).map It.inl ++ [] := (List.append_nil _).symm
    rw [e, fill_txt]
    obtain ⟨r1, h1, h2⟩ := re_txt w rows
    rw [h1]
    exact congrArg some h2
  | x :: its, w, rs, rows => by
    by_cases ht : isTI x = true
    · cases x with
      | run d => cases ht
      | inl i =>
        obtain ⟨t, rfl⟩ := isT_is ht
        show ORE (bldM (fillR (jnI (w ++ t) its) rs) rows) (bldM (fillR its rs) (addM (.text t) (addM (.text w) rows)))
        have ih := grp its (w ++ t) rs rows
        refine Eq.trans ih (bldM_RE _ ?_)
        cases rows with
        | nil => rfl
        | cons y r => exact re_mk (jn_two y w t) rfl
    · have ht' : isTI x = false := by simpa using ht
      rw [jnI_other ht', fill_txt]
      obtain ⟨r1, h1, h2⟩ := re_txt w rows
      rw [h1]
      cases x with
      | inl i =>
        show ORE (bldM (fillR (jnI [] its) rs) (addM i r1)) (bldM (fillR its rs) (addM i (addM (.text w) rows)))
        refine Eq.trans (grp its [] rs _) (bldM_RE _ ?_)
        exact (re_nil _).symm.trans (addM_RE i h2)
      | run d =>
        cases rs with
        | nil =>
          show ORE (bldM (.run (RunS.new d) :: fillR (jnI [] its) []) r1) (bldM (.run (RunS.new d) :: fillR its []) (addM (.text w) rows))
          rw [bld_run, bld_run]
          refine ore_bind (runM_RE _ h2) fun a b hab => ?_
          refine Eq.trans (grp its [] [] _) (bldM_RE _ ?_)
          exact (re_nil _).symm.trans hab
        | cons s rs =>
          show ORE (bldM (.run s :: fillR (jnI [] its) rs) r1) (bldM (.run s :: fillR its rs) (addM (.text w) rows))
          rw [bld_run, bld_run]
          refine ore_bind (runM_RE _ h2) fun a b hab => ?_
          refine Eq.trans (grp its [] rs _) (bldM_RE _ ?_)
          exact (re_nil _).symm.trans hab
theorem runs_txt (w : List Nat) (l : List It) : runsOf ((txtI w).map It.inl ++ l) = runsOf l := by
  unfold txtI
  split <;> rfl
theorem runs_jn : ∀ (its : List It) (w : List Nat), runsOf (jnI w its) = runsOf its
  | [], w => by
    have := runs_txt w []
    rw [List.append_nil] at this
    exact this
  | x :: its, w => by
    by_cases ht : isTI x = true
    · cases x with
      | run d => cases ht
      | inl i =>
        obtain ⟨t, rfl⟩ := isT_is ht
        exact runs_jn its (w ++ t)
    · have ht' : isTI x = false := by simpa using ht
      rw [jnI_other ht', runs_txt]
      cases x with
      | inl i => exact runs_jn its []
      | run d => exact congrArg (RunS.new d :: ·) (runs_jn its [])
/-- what the rows come to -/
def lastR (o : Option (List (List Inl))) : Option (List Inl) := match o with
  | none => none
  | some rows => some (jnR [] (rows.getLast?.getD []))
theorem last_ore {x y : Option (List (List Inl))} (h : ORE x y) : lastR x = lastR y := by
  have key : ∀ rows : List (List Inl), jnR [] (rows.getLast?.getD []) = ((nrm rows).getLast?.getD []) := fun rows => by
    unfold nrm
    rw [List.getLast?_map]
    cases rows.getLast? <;> rfl
  unfold ORE at h
  cases x with
  | none =>
    cases y with
    | none => rfl
    | some b => cases h
  | some a =>
    cases y with
    | none => cases h
    | some b =>
      show some _ = some _
      rw [key, key, Option.some.inj h]
theorem built_last (its : List It) : builtM its = lastR (bldM (fillR its (pairR (runsOf its))) [[]]) := rfl
theorem built_jn {a b : List It} (h : jnI [] a = jnI [] b) : builtM a = builtM b := by
  have ea := grp a [] (pairR (runsOf a)) [[]]
  have eb := grp b [] (pairR (runsOf b)) [[]]
  have er : runsOf a = runsOf b := by rw [← runs_jn a [], ← runs_jn b [], h]
  have e0 : ∀ l, ORE (bldM l [[]]) (bldM l (addM (.text []) [[]])) := fun l => bldM_RE l (re_nil _)
  rw [built_last, built_last]
  refine last_ore ?_
  unfold ORE at ea eb e0 ⊢
  rw [e0, e0 (fillR b _), ← ea, ← eb, h, er]
theorem okS_I {c : Nat} (h : okS c) : c ≠ 96 ∧ ¬ (c = 42 ∨ c = 95) := by
  rcases h with rfl | rfl | rfl | h
  · exact ⟨by decide, by decide⟩
  · exact ⟨by decide, by decide⟩
  · exact ⟨by decide, by decide⟩
  · exact ⟨fun e => (by subst e; cases h), fun e => (by rcases e with rfl | rfl <;> cases h)⟩
theorem stI_S {t : List Nat} {p pl c : Nat} (h : okS c) : stI t p pl c = (.inl (stR t p pl c).1, (stR t p pl c).2.1, (stR t p pl c).2.2) := by
  unfold stI
  rw [if_neg (okS_I h).1, if_neg (okS_I h).2]
/-- no white ahead of p -/
def NwI (t : List Nat) (pl p : Nat) : Prop := ∀ c, pl < p → t[p - 1]? = some c → c ≠ 32
theorem hardB_I {t ws r : List Nat} {p pl : Nat} (ht : t.drop p = ws ++ r) (hpl : pl ≤ p) (hn : NwI t pl p) (hp : p ≤ t.length) : hardB t pl (p + ws.length) = hardW ws := by
  unfold hardB hardW
  refine decide_eq_decide.mpr ?_
  by_cases h2 : 2 ≤ ws.length
  · have em : max pl (p + ws.length - 2) = p + (ws.length - 2) := by omega
    rw [em, ← List.drop_drop, ht, List.drop_append, show ws.length - 2 - ws.length = 0 by omega, List.drop_zero]
    have e3 : p + ws.length - (p + (ws.length - 2)) = (ws.drop (ws.length - 2)).length := by rw [List.length_drop]; omega
    rw [e3, List.take_left]
  · have e1 : ws.drop (ws.length - 2) ≠ [32, 32] := fun e => by
      have := congrArg List.length e
      rw [List.length_drop] at this
      simp at this
      omega
    refine ⟨fun e => absurd e ?_, fun e => absurd e e1⟩
    intro e
    have hl := congrArg List.length e
    rw [List.length_take, List.length_drop] at hl
    simp at hl
    have hp1 : 1 ≤ p := by omega
    have e4 : (List.take (p + ws.length - max pl (p + ws.length - 2)) (List.drop (max pl (p + ws.length - 2)) t))[p - 1 - max pl (p + ws.length - 2)]? = some 32 := by
      rw [e]
      have : p - 1 - max pl (p + ws.length - 2) < 2 := by omega
      rcases (show p - 1 - max pl (p + ws.length - 2) = 0 ∨ p - 1 - max pl (p + ws.length - 2) = 1 by omega) with z | z <;> rw [z] <;> rfl
    rw [List.getElem?_take] at e4
    split at e4
    · rw [List.getElem?_drop, show max pl (p + ws.length - 2) + (p - 1 - max pl (p + ws.length - 2)) = p - 1 by omega] at e4
      exact hn 32 (by omega) e4 rfl
    · cases e4
def JR (t : List Nat) (p pl : Nat) (w : List Nat) (out : List It) : Prop := ∃ its, RdI t p pl its ∧ jnI w its = out
def JA (t : List Nat) (p : Nat) (w : List Nat) (out : List It) : Prop := ∀ pl, pl ≤ p → JR t p pl w out
/-- no white stands ahead of a line feed -/
def Nwl (t : List Nat) : Prop := ∀ k c, t[k]? = some c → t[k + 1]? = some 10 → WhL.contains c = false
theorem stepR {t : List Nat} {p pl c : Nat} {i : Inl} {p' pl' : Nat} {its : List It} (h1 : t[p]? = some c) (h2 : okS c) (h3 : stR t p pl c = (i, p', pl')) (h4 : RdI t p' pl' its) : RdI t p pl (.inl i :: its) := by
  refine .step h1 ?_ (by rw [stI_S h2, h3]) h4
  rcases h2 with rfl | rfl | rfl | h
  · exact .inr (.inr (.inr (.inl rfl)))
  · exact .inr (.inr (.inr (.inr (.inl rfl))))
  · exact .inr (.inr (.inr (.inr (.inr (.inl rfl)))))
  · exact .inr (.inr (.inr (.inr (.inr (.inr h)))))
theorem rdI_end {t : List Nat} {p pl : Nat} {its : List It} (h : RdI t p pl its) (e : t.length ≤ p) : its = [] := by
  rcases rdI_inv h with ⟨_, r⟩ | ⟨c, i, p', pl', ps', h1, _⟩
  · exact r
  · have := (List.getElem?_eq_some_iff.mp h1).1
    omega
theorem ns_pre (r : List Nat) : ∃ s, r = nsL r ++ s ∧ s = r.drop (nsL r).length ∧ ∀ c ∈ nsL r, StepL.contains c = false := by
  refine ⟨r.dropWhile fun c => !StepL.contains c, (List.takeWhile_append_dropWhile ..).symm, ?_, ?_⟩
  · have e : r = nsL r ++ r.dropWhile (fun c => !StepL.contains c) := (List.takeWhile_append_dropWhile ..).symm
    conv => rhs; rw [e]
    have : nsL (nsL r ++ r.dropWhile fun c => !StepL.contains c) = nsL r := by rw [← e]
    rw [this, List.drop_left]
  · intro c hc
    have := List.all_eq_true.mp (List.all_takeWhile (p := fun c => !StepL.contains c) (l := r)) c hc
    simpa using this
theorem plw_nw {t b r : List Nat} {p : Nat} (nw : Nwl t) (ht : t.drop p = b ++ r) (h : ∀ c ∈ b, StepL.contains c = false) (hne : b ≠ []) : plW t p = b ++ nsL r := by
  rw [plw_app ht h hne]
  split
  · rename_i h10
    obtain ⟨s, hs, hd, _⟩ := ns_pre r
    rw [← hd] at h10
    have ht2 : t.drop p = (b ++ nsL r) ++ s := by rw [ht]; conv => lhs; rw [hs]
                                                  rw [List.append_assoc]
    have hd2 := drop_add ht2
    cases s with
    | nil => cases h10
    | cons x s =>
      have hx : x = 10 := by
        have : ((10 : Nat) == x && true) = true := h10
        simpa using (by simpa using this : 10 = x).symm
      subst hx
      have hne2 : b ++ nsL r ≠ [] := fun e => hne (List.append_eq_nil_iff.mp e).1
      obtain ⟨a, c, e⟩ : ∃ a c, b ++ nsL r = a ++ [c] := ⟨_, _, (List.dropLast_concat_getLast hne2).symm⟩
      rw [e] at ht2 hd2 ⊢
      have hc : t[p + a.length]? = some c := by
        have := drop_add (a := a) (r := c :: 10 :: s) (by rw [ht2]; simp)
        exact at_drop this
      have h11 : t[p + a.length + 1]? = some 10 := by
        have := at_drop hd2
        rw [List.length_append, List.length_singleton] at this
        exact this
      have hw := nw _ _ hc h11
      have := rW_app (a := a) (x := []) hw
      rw [List.append_nil] at this
      rw [this]
      exact List.append_nil _
  · rfl
theorem jr_plain {t b r : List Nat} {p pl : Nat} {w : List Nat} {out : List It} (nw : Nwl t) (ht : t.drop p = b ++ r) (hb : ∀ x ∈ b, StepL.contains x = false) (hne : b ≠ []) (j : JR t (p + b.length) pl (w ++ b) out) : JR t p pl w out := by
  obtain ⟨ps, hr, hj⟩ := j
  have hdr := drop_add ht
  obtain ⟨c0, hc0⟩ : ∃ c, t[p]? = some c ∧ StepL.contains c = false := by
    cases b with
    | nil => exact absurd rfl hne
    | cons c b => exact ⟨c, at_drop ht, hb c (List.mem_cons_self ..)⟩
  have e1 := ple_app ht hb hne
  have e2 := plw_nw nw ht hb hne
  have hlen : p + b.length + r.length = t.length := by
    have := congrArg List.length ht
    rw [List.length_drop, List.length_append] at this
    have : 0 < b.length := List.length_pos_iff.mpr hne
    omega
  cases hrr : r with
  | nil =>
    subst hrr
    have e3 := rdI_end hr (by simp at hlen; omega)
    subst e3
    have e4 : plE t p = t.length := by
      rw [e1, show nsL [] = [] from rfl]
      exact hlen
    have e5 : plW t p = b := by rw [e2]; exact List.append_nil b
    refine ⟨[.inl (.text b)], stepR (c := c0) (pl' := pl) (p' := t.length) hc0.1 (.inr (.inr (.inr hc0.2))) ?_ .done, ?_⟩
    · rw [st_plain hc0.2, e4, e5]
    · exact hj
  | cons c r' =>
    subst hrr
    by_cases hc : StepL.contains c = true
    · have en : nsL (c :: r') = [] := by
        unfold nsL
        rw [List.takeWhile_cons, if_neg (by rw [hc]; exact Bool.false_ne_true)]
      have e4 : plE t p = p + b.length := by rw [e1, en]; rfl
      have e5 : plW t p = b := by rw [e2, en, List.append_nil]
      refine ⟨.inl (.text b) :: ps, stepR (c := c0) hc0.1 (.inr (.inr (.inr hc0.2))) ?_ hr, hj⟩
      rw [st_plain hc0.2, e4, e5]
    · have hc' : StepL.contains c = false := by simpa using hc
      rcases rdI_inv hr with ⟨e0, _⟩ | ⟨c1, i, p', pl', ps', h1, _, h3, h4, rfl⟩
      · rw [e0, List.length_cons] at hlen
        omega
      · have hcc : c1 = c := by
          have := at_drop hdr
          rw [h1] at this
          exact Option.some.inj this
        subst hcc
        rw [stI_S (.inr (.inr (.inr hc'))), st_plain hc'] at h3
        obtain ⟨h5, h6⟩ := Prod.mk.inj h3
        obtain ⟨h7, h8⟩ := Prod.mk.inj h6
        subst h5 h7 h8
        have hn2 : ∀ x ∈ [c1], StepL.contains x = false := fun x hx => by rw [List.mem_singleton.mp hx]; exact hc'
        have en : nsL (c1 :: r') = c1 :: nsL r' := ns_app (b := [c1]) hn2
        have f1 := ple_app (t := t) (b := [c1]) (r := r') (p := p + b.length) hdr hn2 (by simp)
        have f2 := plw_nw (t := t) (b := [c1]) (r := r') (p := p + b.length) nw hdr hn2 (by simp)
        have e4 : plE t p = plE t (p + b.length) := by rw [e1, f1, en]; simp; omega
        have e5 : plW t p = b ++ plW t (p + b.length) := by
          rw [e2, f2, en]
          rfl
        refine ⟨.inl (.text (b ++ plW t (p + b.length))) :: ps', stepR (c := c0) hc0.1 (.inr (.inr (.inr hc0.2))) ?_ h4, ?_⟩
        · rw [st_plain hc0.2, e4, e5]
        · show jnI (w ++ (b ++ plW t (p + b.length))) ps' = out
          rw [← List.append_assoc]
          exact hj
theorem rr_jn {t : List Nat} {p pl c : Nat} {m : List Nat} {p' pl' : Nat} {w : List Nat} {out : List It} (h1 : t[p]? = some c) (h2 : okS c) (h3 : stR t p pl c = (.text m, p', pl')) (j : JR t p' pl' (w ++ m) out) : JR t p pl w out := by
  obtain ⟨ps, hr, hj⟩ := j
  exact ⟨_, stepR h1 h2 h3 hr, hj⟩
theorem jr_ref {t a r : List Nat} {sg p pl : Nat} {w : List Nat} {out : List It} (ht : t.drop p = 38 :: (a ++ 59 :: r)) (h : RefOk a (some sg)) (j : JR t (p + (a.length + 2)) (p + (a.length + 2)) (w ++ [sg]) out) : JR t p pl w out := by
  refine rr_jn (at_drop ht) (.inr (.inl rfl)) ?_ j
  unfold stR
  rw [if_neg (by decide), if_pos rfl, ht]
  unfold rfR
  rw [ok_ref h r]
  rfl
theorem jr_esc {t r : List Nat} {c p pl : Nat} {w : List Nat} {out : List It} (ht : t.drop p = 92 :: c :: r) (h : PunL.contains c = true) (j : JR t (p + 2) (p + 2) (w ++ [c]) out) : JR t p pl w out := by
  refine rr_jn (at_drop ht) (.inl rfl) ?_ j
  unfold stR bsR
  rw [if_pos rfl, ht, if_pos (show escR (92 :: c :: r) = true by show ((92 : Nat) == 92 && PunL.contains c) = true; rw [h]; rfl), drop_one ht]
  rfl
theorem jr_soft {t r : List Nat} {c p pl : Nat} {w : List Nat} {out : List It} (nw : Nwl t) (ht : t.drop p = 10 :: c :: r) (hc : WhL.contains c = false) (hpl : pl ≤ p) (j : JR t (p + 1) (p + 1) [] out) : JR t p pl w ((txtI w).map It.inl ++ .inl .soft :: out) := by
  obtain ⟨ps, hr, hj⟩ := j
  have hp : p ≤ t.length := by
    have := congrArg List.length ht
    rw [List.length_drop, List.length_cons] at this
    omega
  have hn : NwI t pl p := fun x h1 e e32 => by
    have h2 := nw (p - 1) x e (by rw [show p - 1 + 1 = p by omega]; exact at_drop ht)
    rw [e32] at h2
    cases h2
  have hb : hardB t pl p = false := hardB_I (ws := []) (r := 10 :: c :: r) ht hpl hn hp
  refine ⟨.inl .soft :: ps, stepR (at_drop ht) (.inr (.inr (.inl rfl))) (p' := p + 1) (pl' := p + 1) ?_ hr, ?_⟩
  · rw [lf_step (a := []) (r := r) ht (fun _ h => by cases h) hc, hb]
    rfl
  · show (txtI w).map It.inl ++ .inl .soft :: jnI [] ps = _
    rw [hj]
theorem ba_rep {c : Nat} {r : List Nat} (h : r.head? ≠ some c) : ∀ n : Nat, ba [c] (List.replicate n c ++ r) = r
  | 0 => by
    cases r with
    | nil => rfl
    | cons d r =>
      have hd : d ≠ c := fun e => h (by rw [e]; rfl)
      show (d :: r).dropWhile (fun x => [c].contains x) = d :: r
      rw [List.dropWhile_cons, if_neg (by simp; exact hd)]
  | n + 1 => by
    rw [List.replicate_succ, List.cons_append]
    show (c :: (List.replicate n c ++ r)).dropWhile (fun x => [c].contains x) = r
    rw [List.dropWhile_cons, if_pos (by simp)]
    exact ba_rep h n
theorem run_pos {t r : List Nat} {c n p : Nat} (ht : t.drop p = List.replicate n c ++ r) (hp : p ≤ t.length) (hr : r.head? ≠ some c) : runEnd t p c = p + n := by
  unfold runEnd pos
  rw [ht, ba_rep hr]
  have := congrArg List.length ht
  rw [List.length_drop, List.length_append, List.length_replicate] at this
  omega
theorem jr_run {t r : List Nat} {c n p pl : Nat} {w : List Nat} {out : List It} (ht : t.drop p = List.replicate n c ++ r) (hc : c = 42 ∨ c = 95) (hn : 0 < n) (hr : r.head? ≠ some c) (j : JR t (p + n) (p + n) [] out) :
    JR t p pl w ((txtI w).map It.inl ++ .run (runOf t p c) :: out) := by
  obtain ⟨ps, hrd, hj⟩ := j
  have hat : t[p]? = some c := by
    cases n with
    | zero => omega
    | succ n => exact at_drop (r := List.replicate n c ++ r) (by rw [ht]; rfl)
  have hp : p ≤ t.length := Nat.le_of_lt (List.getElem?_eq_some_iff.mp hat).1
  have he := run_pos ht hp hr
  refine ⟨.run (runOf t p c) :: ps, .step hat (by rcases hc with rfl | rfl; exact .inr (.inl rfl); exact .inr (.inr (.inl rfl))) (p' := p + n) (pl' := p + n) ?_ hrd, ?_⟩
  · unfold stI
    rw [if_neg (by rcases hc with rfl | rfl <;> decide), if_pos hc, he]
  · show (txtI w).map It.inl ++ .run (runOf t p c) :: jnI [] ps = _
    rw [hj]
theorem jr_done {t : List Nat} {pl : Nat} {w : List Nat} : JR t t.length pl w ((txtI w).map It.inl) := ⟨[], .done, rfl⟩
inductive Pc where
  | run (c n : Nat)
  | txt (x m : List Nat)
  | brk
def Pc.w : Pc → List Nat
  | .run c n => List.replicate n c
  | .txt x _ => x
  | .brk => [10]
def flatP (ps : List Pc) : List Nat := ps.flatMap Pc.w
def itP (t : List Nat) (p : Nat) : Pc → It
  | .run c _ => .run (runOf t p c)
  | .txt _ m => .inl (.text m)
  | .brk => .inl .soft
def itsP (t : List Nat) : Nat → List Pc → List It
  | _, [] => []
  | p, x :: r => itP t p x :: itsP t (p + x.w.length) r
/-- what is written so stands for such a text -/
def TxOk (x m : List Nat) : Prop := x ≠ [] ∧ ∀ (t : List Nat) (p : Nat) (w r : List Nat) (out : List It), Nwl t → t.drop p = x ++ r → JA t (p + x.length) (w ++ m) out → JA t p w out
theorem tx_plain {b : List Nat} (hb : b.all (fun x => !StepL.contains x) = true) (hne : b ≠ []) : TxOk b b :=
  ⟨hne, fun t p w r out nw ht j pl hpl => jr_plain nw ht (fun x hx => by simpa using List.all_eq_true.mp hb x hx) hne (j pl (by omega))⟩
theorem tx_esc {c : Nat} (h : PunL.contains c = true) : TxOk [92, c] [c] :=
  ⟨by simp, fun t p w r out nw ht j pl hpl => jr_esc (r := r) ht h (j (p + 2) (Nat.le_refl _))⟩
theorem tx_ref {a : List Nat} {c : Nat} (h : RefOk a (some c)) : TxOk (38 :: (a ++ [59])) [c] :=
  ⟨by simp, fun t p w r out nw ht j pl hpl => by
    have e : (38 :: (a ++ [59])).length = a.length + 2 := by rw [List.length_cons, List.length_append, List.length_singleton]
    rw [e] at j
    exact jr_ref (a := a) (r := r) (by rw [ht]; simp) h (j _ (Nat.le_refl _))⟩
def PcsOk : List Pc → Prop
  | [] => True
  | .run c n :: r => (c = 42 ∨ c = 95) ∧ 0 < n ∧ (flatP r).head? ≠ some c ∧ PcsOk r
  | .txt x m :: r => TxOk x m ∧ PcsOk r
  | .brk :: r => (∃ c, (flatP r).head? = some c ∧ WhL.contains c = false) ∧ PcsOk r
theorem pcs_read {t : List Nat} (nw : Nwl t) : ∀ (ps : List Pc) (p : Nat) (w : List Nat), PcsOk ps → p ≤ t.length → t.drop p = flatP ps → JA t p w (jnI w (itsP t p ps))
  | [], p, w, _, hp, ht => fun pl _ => by
    have : p = t.length := by
      have := congrArg List.length ht
      rw [List.length_drop] at this
      have e : (flatP []).length = 0 := rfl
      omega
    subst this
    exact jr_done
  | .run c n :: r, p, w, h, hp, ht => fun pl hpl => by
    obtain ⟨h1, h2, h3, h4⟩ := h
    have hl : (Pc.run c n).w.length = n := List.length_replicate
    have ht' : t.drop p = List.replicate n c ++ flatP r := ht
    have hd : t.drop (p + n) = flatP r := by
      have := drop_add ht'
      rw [List.length_replicate] at this
      exact this
    have hp2 : p + n ≤ t.length := by
      have := congrArg List.length ht'
      rw [List.length_drop, List.length_append, List.length_replicate] at this
      omega
    have ih := pcs_read nw r (p + n) [] h4 hp2 hd (p + n) (Nat.le_refl _)
    have := jr_run (pl := pl) (w := w) ht' h1 h2 h3 ih
    show JR t p pl w ((txtI w).map It.inl ++ .run (runOf t p c) :: jnI [] (itsP t (p + (Pc.run c n).w.length) r))
    rw [hl]
    exact this
  | .txt x m :: r, p, w, h, hp, ht => by
    obtain ⟨h1, h4⟩ := h
    have ht' : t.drop p = x ++ flatP r := ht
    have hp2 : p + x.length ≤ t.length := by
      have := congrArg List.length ht'
      rw [List.length_drop, List.length_append] at this
      omega
    exact h1.2 t p w (flatP r) _ nw ht' (pcs_read nw r (p + x.length) (w ++ m) h4 hp2 (drop_add ht'))
  | .brk :: r, p, w, h, hp, ht => fun pl hpl => by
    obtain ⟨⟨c, h1, h2⟩, h4⟩ := h
    have ht' : t.drop p = 10 :: flatP r := ht
    have hd := drop_one ht'
    have hp2 : p + 1 ≤ t.length := by
      have := congrArg List.length ht'
      rw [List.length_drop, List.length_cons] at this
      omega
    have ih := pcs_read nw r (p + 1) [] h4 hp2 hd (p + 1) (Nat.le_refl _)
    cases hf : flatP r with
    | nil => rw [hf] at h1; cases h1
    | cons d s =>
      rw [hf] at h1 ht'
      cases h1
      exact jr_soft nw ht' h2 hpl ih
def manyN (b : Bool) : Nat := if b = true then 2 else 1
theorem manyN_eq (b : Bool) : manyB b = (manyN b : Int) := by cases b <;> rfl
theorem manyN_pos (b : Bool) : 1 ≤ manyN b := by cases b <;> decide
def sumB (l : List Bool) : Nat := (l.map manyN).sum
theorem sumB_app (l : List Bool) (b : Bool) : sumB (l ++ [b]) = sumB l + manyN b := by
  unfold sumB
  rw [List.map_append, List.sum_append]
  show _ + (manyN b + 0) = _
  rw [Nat.add_zero]
theorem sumB_cons (l : List Bool) (b : Bool) : sumB (b :: l) = manyN b + sumB l := rfl
structure LR where
  d : RunD
  st : Nat
  left : Nat
  gone : Nat
abbrev Mk := Nat × Nat × Nat × Nat
def mayL (a b : LR) : Bool := if (!decide (a.d.sg = b.d.sg) || !a.d.op || decide (a.left = 0)) = true then false else if (a.d.cl || b.d.op) = true then (decide (0 < (a.d.len + b.d.len) % 3) || decide (a.d.len % 3 = 0)) else true
def candAt (l : List LR) (r : LR) (i : Nat) : Bool := match l[i]? with
  | some a => mayL a r
  | none => false
def candL (l : List LR) (r : LR) (k : Nat) : List Nat := (List.range k).filter (candAt l r)
def manyL (r o : LR) : Nat := if 1 < min r.left o.left then 2 else 1
def markL (o r : LR) : Mk := (o.st + o.gone + o.left - manyL r o, o.st + o.gone + o.left, r.st + r.gone, r.st + r.gone + manyL r o)
def zeroZ (a b i : Nat) (z : LR) : LR := if a ≤ i ∧ i < b then { z with left := 0 } else z
def zeroL (a b : Nat) (l : List LR) : List LR := l.mapIdx (zeroZ a b)
abbrev LS := List LR × List Mk
def giveL (o r : LR) : LR := { o with left := o.left - manyL r o }
def takeL (o r : LR) : LR := { r with left := r.left - manyL r o, gone := r.gone + manyL r o }
def turnL (k : Nat) (y : LS) : Option LS :=
  match y.1[k]? with
  | none => none
  | some r => match (candL y.1 r k).getLast? with
    | none => none
    | some p => match y.1[p]? with
      | none => none
      | some o => some (zeroL (p + 1) k ((y.1.set p (giveL o r)).set k (takeL o r)), y.2 ++ [markL o r])
def whileL (k : Nat) : Nat → LS → LS
  | 0, y => y
  | f + 1, y => match y.1[k]? with
    | none => y
    | some r => if r.d.cl = true ∧ 0 < r.left then (match turnL k y with
      | none => y
      | some y' => whileL k f y') else y
def stepL (k : Nat) (y : LS) : LS := match y.1[k]? with
  | none => y
  | some r => whileL k r.left y
def spansTo (l : List LR) : Nat → LS
  | 0 => (l, [])
  | k + 1 => stepL k (spansTo l k)
def grpE : Nat → List Bool → List (Nat × Nat)
  | _, [] => []
  | s, b :: r => (s, s + manyN b) :: grpE (s + manyN b) r
def grpB : Nat → List Bool → List (Nat × Nat)
  | _, [] => []
  | e, b :: r => (e - manyN b, e) :: grpB (e - manyN b) r
theorem grpE_app : ∀ (l : List Bool) (s : Nat) (b : Bool), grpE s (l ++ [b]) = grpE s l ++ [(s + sumB l, s + sumB l + manyN b)]
  | [], s, b => rfl
  | c :: l, s, b => by
    show (s, s + manyN c) :: grpE (s + manyN c) (l ++ [b]) = (s, s + manyN c) :: grpE (s + manyN c) l ++ _
    rw [grpE_app l, sumB_cons, ← Nat.add_assoc]
    rfl
theorem grpB_app : ∀ (l : List Bool) (e : Nat) (b : Bool), grpB e (l ++ [b]) = grpB e l ++ [(e - sumB l - manyN b, e - sumB l)]
  | [], e, b => rfl
  | c :: l, e, b => by
    show (e - manyN c, e) :: grpB (e - manyN c) (l ++ [b]) = (e - manyN c, e) :: grpB (e - manyN c) l ++ _
    rw [grpB_app l, sumB_cons, ← Nat.sub_sub]
    rfl
theorem asc_last {l : List Nat} (h : l.Pairwise (· < ·)) {u : Nat} (hu : l.getLast? = some u) : ∀ i ∈ l, i ≤ u := by
  obtain ⟨a, rfl⟩ := List.getLast?_eq_some_iff.mp hu
  intro i hi
  rcases List.mem_append.mp hi with hi | hi
  · exact Nat.le_of_lt ((List.pairwise_append.mp h).2.2 i hi u (List.mem_singleton.mpr rfl))
  · rw [List.mem_singleton.mp hi]
    exact Nat.le_refl _
theorem last_of_max {l : List Nat} (h : l.Pairwise (· < ·)) {p : Nat} (hp : p ∈ l) (hm : ∀ i ∈ l, i ≤ p) : l.getLast? = some p := by
  cases hu : l.getLast? with
  | none =>
    rw [List.getLast?_eq_none_iff.mp hu] at hp
    cases hp
  | some u =>
    have h1 := asc_last h hu p hp
    have h2 := hm u (List.mem_of_getLast? hu)
    rw [Nat.le_antisymm h2 h1]
theorem rev_ind {α : Type} {P : List α → Prop} (h0 : P []) (h1 : ∀ l t, P l → P (l ++ [t])) (l : List α) : P l := by
  have : ∀ r : List α, P r.reverse := fun r => by
    induction r with
    | nil => exact h0
    | cons x r ih => rw [List.reverse_cons]; exact h1 _ _ ih
  have := this l.reverse
  rwa [List.reverse_reverse] at this
theorem cut_both {p : Nat} (l : List Nat) : l.Pairwise (· < ·) → (cutAbove p l).Pairwise (· < ·) ∧ ∀ i, i ∈ cutAbove p l ↔ i ∈ l ∧ i ≤ p := by
  refine rev_ind (P := fun l => l.Pairwise (· < ·) → (cutAbove p l).Pairwise (· < ·) ∧ ∀ i, i ∈ cutAbove p l ↔ i ∈ l ∧ i ≤ p) ?_ ?_ l
  · exact fun _ => ⟨by rw [cut_nil]; exact .nil, fun i => by rw [cut_nil]; simp⟩
  · intro l t ih h
    have h0 := List.pairwise_append.mp h
    by_cases c : p < t
    · rw [cut_pop l c]
      obtain ⟨g1, g2⟩ := ih h0.1
      refine ⟨g1, fun i => (g2 i).trans ⟨fun z => ⟨List.mem_append_left _ z.1, z.2⟩, fun z => ⟨?_, z.2⟩⟩⟩
      rcases List.mem_append.mp z.1 with q | q
      · exact q
      · have := List.mem_singleton.mp q
        omega
    · rw [cut_stay l (by omega)]
      refine ⟨h, fun i => ⟨fun z => ⟨z, ?_⟩, fun z => z.1⟩⟩
      rcases List.mem_append.mp z with q | q
      · have := h0.2.2 i q t (List.mem_singleton.mpr rfl)
        omega
      · have := List.mem_singleton.mp q
        omega
theorem near_max {s : SortD} {st : List Stk} : ∀ (n : Nat) (i : Nat), i < n → ∀ z u, st[i]? = some z → z.2.getLast? = some u → mayPair z.1 s = true → ∃ j p, nearTo s st n = some (j, p) ∧ u ≤ p := by
  intro n
  induction n with
  | zero => intro i hi; omega
  | succ n ih =>
    intro i hi z u hz hu hm
    have e : nearTo s st (n + 1) = (match st[n]? with | none => nearTo s st n | some k => stepN s n (nearTo s st n) k) := rfl
    rw [e]
    by_cases hin : i < n
    · obtain ⟨j, p, h1, h2⟩ := ih i hin z u hz hu hm
      rw [h1]
      cases hk : st[n]? with
      | none => exact ⟨j, p, rfl, h2⟩
      | some k =>
        show ∃ j' p', stepN s n (some (j, p)) k = some (j', p') ∧ _
        unfold stepN
        cases hl : k.2.getLast? with
        | none => exact ⟨j, p, rfl, h2⟩
        | some t =>
          show ∃ j' p', (if (mayPair k.1 s && below (some (j, p)) t) = true then some (n, t) else some (j, p)) = some (j', p') ∧ _
          by_cases c : (mayPair k.1 s && below (some (j, p)) t) = true
          · rw [if_pos c]
            refine ⟨n, t, rfl, ?_⟩
            rw [Bool.and_eq_true] at c
            have : p < t := of_decide_eq_true c.2
            omega
          · rw [if_neg c]
            exact ⟨j, p, rfl, h2⟩
    · have : i = n := by omega
      subst this
      rw [hz]
      show ∃ j' p', stepN s i (nearTo s st i) z = some (j', p') ∧ _
      unfold stepN
      rw [hu]
      show ∃ j' p', (if (mayPair z.1 s && below (nearTo s st i) u) = true then some (i, u) else nearTo s st i) = some (j', p') ∧ _
      rw [hm, Bool.true_and]
      cases hn : nearTo s st i with
      | none => exact ⟨i, u, by rw [if_pos]; rfl, Nat.le_refl _⟩
      | some q =>
        obtain ⟨j, p⟩ := q
        by_cases c : p < u
        · exact ⟨i, u, if_pos (decide_eq_true c), Nat.le_refl _⟩
        · exact ⟨j, p, if_neg (by show ¬ decide (p < u) = true; simpa using c), by omega⟩
theorem may_eq {s r : RunS} {a b : LR} (ha : a.d = s.d) (hb : b.d = r.d) (ho : s.d.op = true) (hn : a.left ≠ 0) (hc : r.d.cl = true) : mayL a b = mayPair s.sort r.sort := by
  unfold mayL mayPair RunS.sort
  rw [ha, hb, ho, hc, decide_eq_false hn]
  dsimp only
  rw [Bool.true_and, Bool.and_true, ← Nat.add_mod]
  by_cases e : s.d.sg = r.d.sg
  · rw [decide_eq_true e]
    cases h1 : (s.d.cl || r.d.op) with
    | false => rfl
    | true =>
      show (if (!true || !true || false) = true then false else if true = true then _ else _) = _
      rw [if_neg (by decide), if_pos rfl]
      have : decide (0 < (s.d.len + r.d.len) % 3) = !decide ((s.d.len + r.d.len) % 3 = 0) := by
        by_cases q : (s.d.len + r.d.len) % 3 = 0
        · rw [q]; rfl
        · rw [decide_eq_false q, decide_eq_true (by omega)]; rfl
      rw [this]
      rfl
  · rw [decide_eq_false e]
    rfl
def cntF (f : RunS → Nat) (rs : List RunS) (i : Nat) : Nat := ((rs.take i).map f).sum
abbrev enN (s : RunS) : Nat := s.en.length
abbrev beN (s : RunS) : Nat := s.be.length
theorem cnt_set {f : RunS → Nat} : ∀ {l : List RunS} {p : Nat} {a b : RunS} {d : Nat}, l[p]? = some a → f b = f a + d → ∀ i, cntF f (l.set p b) i = cntF f l i + if p < i then d else 0
  | [], p, a, b, d, h, _, i => by cases h
  | x :: l, 0, a, b, d, h, hf, i => by
    cases h
    cases i with
    | zero => rfl
    | succ i =>
      show f b + cntF f l i = f x + cntF f l i + if 0 < i + 1 then d else 0
      rw [if_pos (by omega), hf]
      omega
  | x :: l, p + 1, a, b, d, h, hf, i => by
    cases i with
    | zero => rfl
    | succ i =>
      have ih := cnt_set (l := l) (p := p) h hf i
      show f x + cntF f (l.set p b) i = f x + cntF f l i + if p + 1 < i + 1 then d else 0
      rw [ih, Nat.add_assoc]
      by_cases c : p < i
      · rw [if_pos c, if_pos (by omega)]
      · rw [if_neg c, if_neg (by omega)]
def RunRel (k i : Nat) (s : RunS) (a : LR) : Prop := a.d = s.d ∧ a.gone = sumB s.en ∧ ∃ n : Nat, s.left = (n : Int) ∧ n + sumB s.en + sumB s.be = s.d.len ∧ (k ≤ i → a.left = n) ∧ (a.left = 0 ∨ a.left = n)
structure PIn (sts : List Nat) (k : Nat) (x : PS) (y : LS) : Prop where
  ll : y.1.length = x.rs.length
  ri : ∀ (i : Nat) s a, x.rs[i]? = some s → y.1[i]? = some a → RunRel k i s a ∧ sts[i]? = some a.st
  asc : ∀ z ∈ x.st, z.2.Pairwise (· < ·)
  keys : (x.st.map (·.1)).Nodup
  srt : ∀ z ∈ x.st, ∀ n ∈ z.2, n < k ∧ ∃ s, x.rs[n]? = some s ∧ s.sort = z.1
  mem : ∀ (i : Nat) s a, i < k → x.rs[i]? = some s → y.1[i]? = some a → ((∃ z ∈ x.st, i ∈ z.2) ↔ (s.d.op = true ∧ a.left ≠ 0))
  m1 : ∀ m ∈ y.2, (∃ (i : Nat) (s : RunS) (n : Nat), x.rs[i]? = some s ∧ sts[i]? = some n ∧ (m.1, m.2.1) ∈ grpB (n + s.d.len) s.be) ∧ (∃ (i : Nat) (s : RunS) (n : Nat), x.rs[i]? = some s ∧ sts[i]? = some n ∧ (m.2.2.1, m.2.2.2) ∈ grpE n s.en)
  m2 : ∀ (i : Nat) (s : RunS) (n : Nat), x.rs[i]? = some s → sts[i]? = some n → ∀ g ∈ grpB (n + s.d.len) s.be, ∃ m ∈ y.2, (m.1, m.2.1) = g
  m3 : ∀ (i : Nat) (s : RunS) (n : Nat), x.rs[i]? = some s → sts[i]? = some n → ∀ g ∈ grpE n s.en, ∃ m ∈ y.2, (m.2.2.1, m.2.2.2) = g
  bal : ∀ i, cntF enN x.rs (i + 1) ≤ cntF beN x.rs i
theorem PIn.law (h : PIn sts k x y) {i : Nat} {s : RunS} (hi : x.rs[i]? = some s) : ∃ a, y.1[i]? = some a ∧ RunRel k i s a ∧ sts[i]? = some a.st := by
  have : i < y.1.length := by rw [h.ll]; exact (List.getElem?_eq_some_iff.mp hi).1
  have e := List.getElem?_eq_getElem this
  exact ⟨_, e, h.ri i s _ hi e⟩
theorem PIn.prog (h : PIn sts k x y) {i : Nat} {a : LR} (hi : y.1[i]? = some a) : ∃ s, x.rs[i]? = some s ∧ RunRel k i s a ∧ sts[i]? = some a.st := by
  have : i < x.rs.length := by rw [← h.ll]; exact (List.getElem?_eq_some_iff.mp hi).1
  have e := List.getElem?_eq_getElem this
  exact ⟨_, e, h.ri i _ a e hi⟩
theorem zero_at (a b : Nat) (l : List LR) (i : Nat) : (zeroL a b l)[i]? = (l[i]?).map (zeroZ a b i) := by
  unfold zeroL
  rw [List.getElem?_mapIdx]
theorem cand_mem {l : List LR} {r : LR} {k i : Nat} : i ∈ candL l r k ↔ i < k ∧ ∃ a, l[i]? = some a ∧ mayL a r = true := by
  unfold candL
  rw [List.mem_filter, List.mem_range]
  refine ⟨fun z => ⟨z.1, ?_⟩, fun z => ⟨z.1, ?_⟩⟩
  · have h := z.2
    unfold candAt at h
    cases e : l[i]? with
    | none => rw [e] at h; cases h
    | some a => rw [e] at h; exact ⟨a, rfl, h⟩
  · obtain ⟨a, e, h⟩ := z.2
    unfold candAt
    rw [e]
    exact h
theorem may_on {a b : LR} (h : mayL a b = true) : a.d.op = true ∧ a.left ≠ 0 := by
  unfold mayL at h
  split at h
  · cases h
  · rename_i c
    simp only [Bool.or_eq_true, Bool.not_eq_true', not_or, decide_eq_true_eq] at c
    exact ⟨by simpa using c.1.2, c.2⟩
theorem key_uniq {st : List Stk} (h : (st.map (·.1)).Nodup) {a b : Stk} (ha : a ∈ st) (hb : b ∈ st) (e : a.1 = b.1) : a = b := by
  obtain ⟨i, hi⟩ := List.getElem?_of_mem ha
  obtain ⟨j, hj⟩ := List.getElem?_of_mem hb
  have h1 : (st.map (·.1))[i]? = some a.1 := by rw [List.getElem?_map, hi]; rfl
  have h2 : (st.map (·.1))[j]? = some b.1 := by rw [List.getElem?_map, hj]; rfl
  have hl : i < (st.map (·.1)).length := (List.getElem?_eq_some_iff.mp h1).1
  have := (List.getElem?_inj hl h).mp (h1.trans (by rw [e, h2]))
  subst this
  rw [hi] at hj
  exact Option.some.inj hj
def dropZ (z : Stk) : Stk := (z.1, z.2.dropLast)
theorem modAt {l : List Stk} {j i : Nat} {z : Stk} (h : l[i]? = some z) : (l.modify j dropZ)[i]? = some (if j = i then dropZ z else z) := by
  rw [List.getElem?_modify, h]
  rfl
theorem modAt' {l : List Stk} {j i : Nat} {z' : Stk} (h : (l.modify j dropZ)[i]? = some z') : ∃ z, l[i]? = some z ∧ z' = if j = i then dropZ z else z := by
  cases e : l[i]? with
  | none =>
    rw [List.getElem?_modify, e] at h
    cases h
  | some z =>
    rw [modAt e] at h
    exact ⟨z, rfl, (Option.some.inj h).symm⟩
theorem mapAt' {st : List Stk} {p i : Nat} {z' : Stk} (h : (st.map (cutZ p))[i]? = some z') : ∃ z, st[i]? = some z ∧ z' = cutZ p z := by
  rw [List.getElem?_map] at h
  cases e : st[i]? with
  | none => rw [e] at h; cases h
  | some z => rw [e] at h; exact ⟨z, rfl, (Option.some.inj h).symm⟩
/-- the stacks behind a turn -/
def cutSt (p j : Nat) (gone : Prop) [Decidable gone] (st : List Stk) : List Stk := if gone then (st.map (cutZ p)).modify j dropZ else st.map (cutZ p)
theorem cutSt_mem {p j : Nat} {gone : Prop} [Decidable gone] {st : List Stk} {z' : Stk} (h : z' ∈ cutSt p j gone st) : ∃ z ∈ st, z'.1 = z.1 ∧ z'.2.Sublist (cutAbove p z.2) := by
  unfold cutSt at h
  split at h
  · obtain ⟨i, hi⟩ := List.getElem?_of_mem h
    obtain ⟨z1, h1, rfl⟩ := modAt' hi
    obtain ⟨z, h2, rfl⟩ := mapAt' h1
    refine ⟨z, List.mem_of_getElem? h2, ?_⟩
    by_cases q : j = i
    · rw [if_pos q]
      exact ⟨rfl, List.dropLast_sublist _⟩
    · rw [if_neg q]
      exact ⟨rfl, List.Sublist.refl _⟩
  · obtain ⟨z, hz, rfl⟩ := List.mem_map.mp h
    exact ⟨z, hz, rfl, List.Sublist.refl _⟩
theorem cutSt_keys {p j : Nat} {gone : Prop} [Decidable gone] (st : List Stk) : (cutSt p j gone st).map (·.1) = st.map (·.1) := by
  unfold cutSt
  have e : (st.map (cutZ p)).map (·.1) = st.map (·.1) := by rw [List.map_map]; rfl
  split
  · rw [← e]
    apply List.ext_getElem?
    intro i
    rw [List.getElem?_map, List.getElem?_map]
    cases h : (st.map (cutZ p))[i]? with
    | none =>
      cases h2 : ((st.map (cutZ p)).modify j dropZ)[i]? with
      | none => rfl
      | some z =>
        obtain ⟨_, h3, _⟩ := modAt' h2
        rw [h] at h3
        cases h3
    | some z =>
      rw [modAt h]
      show some _ = some _
      by_cases q : j = i
      · rw [if_pos q]; rfl
      · rw [if_neg q]
  · exact e
theorem dropLast_mem {l : List Nat} (h : l.Pairwise (· < ·)) {p : Nat} (hp : l.getLast? = some p) (i : Nat) : i ∈ l.dropLast ↔ i ∈ l ∧ i ≠ p := by
  obtain ⟨a, rfl⟩ := List.getLast?_eq_some_iff.mp hp
  rw [List.dropLast_concat]
  have h0 := (List.pairwise_append.mp h).2.2
  refine ⟨fun z => ⟨List.mem_append_left _ z, ?_⟩, fun z => ?_⟩
  · have := h0 i z p (List.mem_singleton.mpr rfl)
    omega
  · rcases List.mem_append.mp z.1 with q | q
    · exact q
    · exact absurd (List.mem_singleton.mp q) z.2
/-- which runs wait behind a turn -/
theorem cutSt_in {p j : Nat} {gone : Prop} [Decidable gone] {st : List Stk} {zj : Stk} (hj : st[j]? = some zj) (hp : zj.2.getLast? = some p) (asc : ∀ z ∈ st, z.2.Pairwise (· < ·)) (only : ∀ z ∈ st, p ∈ z.2 → z = zj) (nd : (st.map (·.1)).Nodup) (i : Nat) :
    (∃ z ∈ cutSt p j gone st, i ∈ z.2) ↔ (∃ z ∈ st, i ∈ z.2) ∧ i ≤ p ∧ (i = p → ¬ gone) := by
  have hzj := List.mem_of_getElem? hj
  have ascj := asc _ hzj
  have cutj : cutAbove p zj.2 = zj.2 := by
    obtain ⟨a, ha⟩ := List.getLast?_eq_some_iff.mp hp
    rw [ha]
    exact cut_stay a (Nat.le_refl _)
  unfold cutSt
  by_cases g : gone
  · rw [if_pos g]
    constructor
    · rintro ⟨z', hz', hi⟩
      obtain ⟨m, hm⟩ := List.getElem?_of_mem hz'
      obtain ⟨z1, h1, rfl⟩ := modAt' hm
      obtain ⟨z, e, rfl⟩ := mapAt' h1
      have hz := List.mem_of_getElem? e
      clear hm
      by_cases q : j = m
      · rw [if_pos q] at hi
        subst q
        rw [hj] at e
        cases e
        have hi' : i ∈ (cutAbove p zj.2).dropLast := hi
        rw [cutj, dropLast_mem ascj hp] at hi'
        exact ⟨⟨zj, hzj, hi'.1⟩, asc_last ascj hp i hi'.1, fun e => absurd e hi'.2⟩
      · rw [if_neg q] at hi
        have hi' := ((cut_both z.2 (asc z hz)).2 i).mp hi
        refine ⟨⟨z, hz, hi'.1⟩, hi'.2, fun e' => ?_⟩
        subst e'
        have e2 := only z hz hi'.1
        subst e2
        have : (st.map (·.1))[j]? = (st.map (·.1))[m]? := by rw [List.getElem?_map, List.getElem?_map, hj, e]
        have hl : j < (st.map (·.1)).length := by rw [List.length_map]; exact (List.getElem?_eq_some_iff.mp hj).1
        exact absurd ((List.getElem?_inj hl nd).mp this) q
    · rintro ⟨⟨z, hz, hi⟩, hip, hng⟩
      have hne : i ≠ p := fun e => hng e g
      obtain ⟨m, hm⟩ := List.getElem?_of_mem hz
      by_cases q : j = m
      · subst q
        rw [hj] at hm
        cases hm
        refine ⟨(zj.1, (cutAbove p zj.2).dropLast), List.mem_of_getElem? (i := j) ?_, ?_⟩
        · rw [modAt (z := cutZ p zj) (by rw [List.getElem?_map, hj]; rfl), if_pos rfl]
          rfl
        · show i ∈ (cutAbove p zj.2).dropLast
          rw [cutj, dropLast_mem ascj hp]
          exact ⟨hi, hne⟩
      · refine ⟨cutZ p z, List.mem_of_getElem? (i := m) ?_, ((cut_both z.2 (asc z hz)).2 i).mpr ⟨hi, hip⟩⟩
        rw [modAt (z := cutZ p z) (by rw [List.getElem?_map, hm]; rfl), if_neg q]
  · rw [if_neg g]
    constructor
    · rintro ⟨z', hz', hi⟩
      obtain ⟨z, hz, rfl⟩ := List.mem_map.mp hz'
      have hi' := ((cut_both z.2 (asc z hz)).2 i).mp hi
      exact ⟨⟨z, hz, hi'.1⟩, hi'.2, fun _ => g⟩
    · rintro ⟨⟨z, hz, hi⟩, hip, _⟩
      exact ⟨cutZ p z, List.mem_map.mpr ⟨z, hz, rfl⟩, ((cut_both z.2 (asc z hz)).2 i).mpr ⟨hi, hip⟩⟩
theorem set2_at {α : Type} {l : List α} {p k : Nat} {a b : α} (hpk : p ≠ k) (hp : p < l.length) (hk : k < l.length) (i : Nat) : ((l.set p a).set k b)[i]? = if i = k then some b else if i = p then some a else l[i]? := by
  rw [List.getElem?_set, List.length_set]
  by_cases e : k = i
  · subst e
    rw [if_pos rfl, if_pos hk, if_pos rfl]
  · rw [if_neg e, if_neg (Ne.symm e), List.getElem?_set]
    by_cases e2 : p = i
    · subst e2
      rw [if_pos rfl, if_pos hp, if_pos rfl]
    · rw [if_neg e2, if_neg (Ne.symm e2)]
theorem PIn.cand {sts : List Nat} {k : Nat} {x : PS} {y : LS} (h : PIn sts k x y) {r : RunS} {b : LR} (hr : x.rs[k]? = some r) (hb : y.1[k]? = some b) (hc : r.d.cl = true) (i : Nat) : i ∈ candL y.1 b k ↔ ∃ z ∈ x.st, i ∈ z.2 ∧ mayPair z.1 r.sort = true := by
  have rb := (h.ri k r b hr hb).1
  rw [cand_mem]
  constructor
  · rintro ⟨hi, a, ha, hm⟩
    obtain ⟨s, hs, ra, _⟩ := h.prog ha
    obtain ⟨ho, hn⟩ := may_on hm
    rw [ra.1] at ho
    obtain ⟨z, hz, hiz⟩ := (h.mem i s a hi hs ha).mpr ⟨ho, hn⟩
    obtain ⟨_, s', hs', e⟩ := h.srt z hz i hiz
    rw [hs] at hs'
    cases hs'
    refine ⟨z, hz, hiz, ?_⟩
    rw [← e, ← may_eq ra.1 rb.1 ho hn hc]
    exact hm
  · rintro ⟨z, hz, hiz, hm⟩
    obtain ⟨hi, s, hs, e⟩ := h.srt z hz i hiz
    obtain ⟨a, ha, ra, _⟩ := h.law hs
    obtain ⟨ho, hn⟩ := (h.mem i s a hi hs ha).mp ⟨z, hz, hiz⟩
    refine ⟨hi, a, ha, ?_⟩
    rw [may_eq ra.1 rb.1 ho hn hc, e]
    exact hm
theorem cand_asc (l : List LR) (r : LR) (k : Nat) : (candL l r k).Pairwise (· < ·) := List.Pairwise.filter _ List.pairwise_lt_range
theorem turn_rel {sts : List Nat} {k : Nat} {x : PS} {y : LS} (h : PIn sts k x y) {r : RunS} {b : LR} (hr : x.rs[k]? = some r) (hb : y.1[k]? = some b) (hc : r.d.cl = true) (hl : 0 < r.left) :
    (turnP k x = none ∧ turnL k y = none) ∨ ∃ x' y' r' b', turnP k x = some x' ∧ turnL k y = some y' ∧ PIn sts k x' y' ∧ x'.rs[k]? = some r' ∧ y'.1[k]? = some b' ∧ r'.d = r.d ∧ r'.left < r.left := by
  obtain ⟨rb, sb⟩ := h.ri k r b hr hb
  cases hn : nearTo r.sort x.st x.st.length with
  | none =>
    left
    refine ⟨by unfold turnP; rw [hr]; dsimp only; rw [hn], ?_⟩
    have hc0 : candL y.1 b k = [] := by
      apply List.eq_nil_iff_forall_not_mem.mpr
      intro i hi
      obtain ⟨z, hz, hiz, hm⟩ := (h.cand hr hb hc i).mp hi
      obtain ⟨m, hm'⟩ := List.getElem?_of_mem hz
      cases hu : z.2.getLast? with
      | none =>
        rw [List.getLast?_eq_none_iff.mp hu] at hiz
        cases hiz
      | some u =>
        obtain ⟨_, _, e, _⟩ := near_max x.st.length m (List.getElem?_eq_some_iff.mp hm').1 z u hm' hu hm
        rw [hn] at e
        cases e
    unfold turnL
    rw [hb]
    dsimp only
    rw [hc0]
    rfl
  | some q =>
    obtain ⟨j, p⟩ := q
    obtain ⟨hjl, zj, hzj, hlast, hmp⟩ := near_spec hn
    have hzm := List.mem_of_getElem? hzj
    have hpz := List.mem_of_getLast? hlast
    obtain ⟨hpk, s, hs, hsort⟩ := h.srt zj hzm p hpz
    obtain ⟨a, ha, ra, sa⟩ := h.law hs
    have hcand : p ∈ candL y.1 b k := (h.cand hr hb hc p).mpr ⟨zj, hzm, hpz, hmp⟩
    have hmax : ∀ i ∈ candL y.1 b k, i ≤ p := fun i hi => by
      obtain ⟨z, hz, hiz, hm⟩ := (h.cand hr hb hc i).mp hi
      obtain ⟨m, hm'⟩ := List.getElem?_of_mem hz
      cases hu : z.2.getLast? with
      | none =>
        rw [List.getLast?_eq_none_iff.mp hu] at hiz
        cases hiz
      | some u =>
        obtain ⟨_, _, e, hup⟩ := near_max x.st.length m (List.getElem?_eq_some_iff.mp hm').1 z u hm' hu hm
        rw [hn] at e
        cases e
        exact Nat.le_trans (asc_last (h.asc z hz) hu i hiz) hup
    have hgl := last_of_max (cand_asc y.1 b k) hcand hmax
    obtain ⟨hop, hne⟩ := (h.mem p s a hpk hs ha).mp ⟨zj, hzm, hpz⟩
    obtain ⟨ra1, ra2, n, ra3, ra4, ra5, ra6⟩ := ra
    have han : a.left = n := by
      rcases ra6 with q | q
      · exact absurd q hne
      · exact q
    obtain ⟨rb1, rb2, m, rb3, rb4, rb5, rb6⟩ := rb
    have hbm : b.left = m := rb5 (Nat.le_refl _)
    have hmany : manyL b a = manyN (twoB s r) ∧ manyN (twoB s r) ≤ n ∧ manyN (twoB s r) ≤ m := by
      have e1 : twoB s r = (decide (2 ≤ n) && decide (2 ≤ m)) := by
        unfold twoB
        rw [ra3, rb3]
        congr 1
        · exact decide_eq_decide.mpr (by omega)
        · exact decide_eq_decide.mpr (by omega)
      unfold manyL
      rw [han, hbm, e1]
      by_cases c1 : 2 ≤ n
      · by_cases c2 : 2 ≤ m
        · rw [decide_eq_true c1, decide_eq_true c2, if_pos (by omega)]
          exact ⟨rfl, c1, c2⟩
        · rw [decide_eq_false c2, Bool.and_false, if_neg (by omega)]
          exact ⟨rfl, by show 1 ≤ n; omega, by show 1 ≤ m; omega⟩
      · rw [decide_eq_false c1, Bool.false_and, if_neg (by omega)]
        exact ⟨rfl, by show 1 ≤ n; omega, by show 1 ≤ m; omega⟩
    obtain ⟨hm1, hm2, hm3⟩ := hmany
    have hpk' : p ≠ k := Nat.ne_of_lt hpk
    have lp : p < x.rs.length := (List.getElem?_eq_some_iff.mp hs).1
    have lk : k < x.rs.length := (List.getElem?_eq_some_iff.mp hr).1
    have R := fun i => set2_at (l := x.rs) (a := giveB s r) (b := takeB s r) hpk' lp lk i
    have L : ∀ i, (zeroL (p + 1) k ((y.1.set p (giveL a b)).set k (takeL a b)))[i]? = (if i = k then some (takeL a b) else if i = p then some (giveL a b) else y.1[i]?).map (zeroZ (p + 1) k i) := fun i => by
      rw [zero_at, set2_at hpk' (by rw [h.ll]; exact lp) (by rw [h.ll]; exact lk)]
    have gl : (giveB s r).left = ((n - manyN (twoB s r) : Nat) : Int) := by
      show s.left - manyB (twoB s r) = _
      rw [ra3, manyN_eq]
      omega
    have tl : (takeB s r).left = ((m - manyN (twoB s r) : Nat) : Int) := by
      show r.left - manyB (twoB s r) = _
      rw [rb3, manyN_eq]
      omega
    have zk : zeroZ (p + 1) k k (takeL a b) = takeL a b := if_neg (by omega)
    have zp : zeroZ (p + 1) k p (giveL a b) = giveL a b := if_neg (by omega)
    have only : ∀ z ∈ x.st, p ∈ z.2 → z = zj := fun z hz hpz' => by
      obtain ⟨_, s', hs', e⟩ := h.srt z hz p hpz'
      rw [hs] at hs'
      cases hs'
      exact key_uniq h.keys hz hzm (by rw [← e, hsort])
    -- groups
    have old : ∀ (i : Nat) (s0 : RunS), x.rs[i]? = some s0 → ∃ s' : RunS, ((x.rs.set p (giveB s r)).set k (takeB s r))[i]? = some s' ∧ (∀ (n : Nat) g, g ∈ grpB (n + s0.d.len) s0.be → g ∈ grpB (n + s'.d.len) s'.be) ∧ (∀ (n : Nat) g, g ∈ grpE n s0.en → g ∈ grpE n s'.en) := fun i s0 h0 => by
      by_cases e1 : i = k
      · subst e1
        rw [hr] at h0
        cases h0
        refine ⟨takeB s r, by rw [R, if_pos rfl], fun n g hg => hg, fun n g hg => ?_⟩
        show g ∈ grpE n (r.en ++ [twoB s r])
        rw [grpE_app]
        exact List.mem_append_left _ hg
      · by_cases e2 : i = p
        · subst e2
          rw [hs] at h0
          cases h0
          refine ⟨giveB s r, by rw [R, if_neg e1, if_pos rfl], fun n g hg => ?_, fun n g hg => hg⟩
          show g ∈ grpB (n + s.d.len) (s.be ++ [twoB s r])
          rw [grpB_app]
          exact List.mem_append_left _ hg
        · exact ⟨s0, by rw [R, if_neg e1, if_neg e2]; exact h0, fun n g hg => hg, fun n g hg => hg⟩
    have hsa : sts[p]? = some a.st := sa
    have emark : (markL a b) = (a.st + s.d.len - sumB s.be - manyN (twoB s r), a.st + s.d.len - sumB s.be, b.st + sumB r.en, b.st + sumB r.en + manyN (twoB s r)) := by
      unfold markL
      rw [hm1, han, ra2, rb2]
      have e1 : a.st + sumB s.en + n = a.st + s.d.len - sumB s.be := by omega
      rw [e1]
    right
    refine ⟨_, _, takeB s r, takeL a b, turnP_some hr hn hs, (by unfold turnL; rw [hb]; dsimp only; rw [hgl]; dsimp only; rw [ha]), ?_, (by show ((x.rs.set p (giveB s r)).set k (takeB s r))[k]? = _; rw [R, if_pos rfl]), (by show (zeroL (p + 1) k ((y.1.set p (giveL a b)).set k (takeL a b)))[k]? = _; rw [L, if_pos rfl]; exact congrArg some zk), rfl, ?_⟩
    · have est : (if (giveB s r).left = 0 then (x.st.map (cutZ p)).modify j (fun z => (z.1, z.2.dropLast)) else x.st.map (cutZ p)) = cutSt p j ((giveB s r).left = 0) x.st := rfl
      rw [est]
      refine ⟨?_, ?_, ?_, ?_, ?_, ?_, ?_, ?_, ?_, ?_⟩
      · show (zeroL (p + 1) k ((y.1.set p (giveL a b)).set k (takeL a b))).length = ((x.rs.set p (giveB s r)).set k (takeB s r)).length
        unfold zeroL
        rw [List.length_mapIdx, List.length_set, List.length_set, List.length_set, List.length_set]
        exact h.ll
      · intro i s' a' h1 h2
        replace h1 : ((x.rs.set p (giveB s r)).set k (takeB s r))[i]? = some s' := h1
        replace h2 : (zeroL (p + 1) k ((y.1.set p (giveL a b)).set k (takeL a b)))[i]? = some a' := h2
        rw [R] at h1
        rw [L] at h2
        by_cases e1 : i = k
        · rw [if_pos e1] at h1 h2
          subst e1
          cases h1
          have h2' := Option.some.inj h2
          rw [zk] at h2'
          subst h2'
          refine ⟨⟨rb1, ?_, m - manyN (twoB s r), tl, ?_, fun _ => ?_, .inr ?_⟩, sb⟩
          · show b.gone + manyL b a = sumB (r.en ++ [twoB s r])
            rw [sumB_app, rb2, hm1]
          · show m - manyN (twoB s r) + sumB (r.en ++ [twoB s r]) + sumB r.be = r.d.len
            rw [sumB_app]
            omega
          · show b.left - manyL b a = _
            rw [hbm, hm1]
          · show b.left - manyL b a = _
            rw [hbm, hm1]
        · rw [if_neg e1] at h1 h2
          by_cases e2 : i = p
          · rw [if_pos e2] at h1 h2
            subst e2
            cases h1
            have h2' := Option.some.inj h2
            rw [zp] at h2'
            subst h2'
            refine ⟨⟨ra1, ra2, n - manyN (twoB s r), gl, ?_, fun z => absurd z (by omega), .inr ?_⟩, sa⟩
            · show n - manyN (twoB s r) + sumB s.en + sumB (s.be ++ [twoB s r]) = s.d.len
              rw [sumB_app]
              omega
            · show a.left - manyL b a = _
              rw [han, hm1]
          · rw [if_neg e2] at h1 h2
            obtain ⟨a0, h3, h4⟩ := Option.map_eq_some_iff.mp h2
            obtain ⟨⟨q1, q2, n0, q3, q4, q5, q6⟩, q7⟩ := h.ri i s' a0 h1 h3
            subst h4
            unfold zeroZ
            split
            · rename_i c
              exact ⟨⟨q1, q2, n0, q3, q4, fun z => absurd z (by omega), .inl rfl⟩, q7⟩
            · exact ⟨⟨q1, q2, n0, q3, q4, q5, q6⟩, q7⟩
      · intro z' hz'
        obtain ⟨z, hz, _, sub⟩ := cutSt_mem hz'
        exact (cut_both z.2 (h.asc z hz)).1.sublist sub
      · rw [cutSt_keys]
        exact h.keys
      · intro z' hz' i hi
        obtain ⟨z, hz, ek, sub⟩ := cutSt_mem hz'
        have hiz := (((cut_both z.2 (h.asc z hz)).2 i).mp (sub.subset hi)).1
        obtain ⟨hik, s', hs', e⟩ := h.srt z hz i hiz
        refine ⟨hik, ?_⟩
        show ∃ s', ((x.rs.set p (giveB s r)).set k (takeB s r))[i]? = some s' ∧ _
        rw [R, if_neg (Nat.ne_of_lt hik), ek]
        by_cases e2 : i = p
        · subst e2
          rw [hs] at hs'
          cases hs'
          exact ⟨_, if_pos rfl, e⟩
        · exact ⟨s', by rw [if_neg e2]; exact hs', e⟩
      · intro i s' a' hik h1 h2
        replace h1 : ((x.rs.set p (giveB s r)).set k (takeB s r))[i]? = some s' := h1
        replace h2 : (zeroL (p + 1) k ((y.1.set p (giveL a b)).set k (takeL a b)))[i]? = some a' := h2
        rw [R, if_neg (Nat.ne_of_lt hik)] at h1
        rw [L, if_neg (Nat.ne_of_lt hik)] at h2
        refine (cutSt_in hzj hlast h.asc only h.keys i).trans ?_
        by_cases e2 : i = p
        · rw [if_pos e2] at h1 h2
          subst e2
          cases h1
          have h2' := Option.some.inj h2
          rw [zp] at h2'
          subst h2'
          rw [h.mem i s a hik hs ha]
          have e3 : (giveL a b).left = n - manyN (twoB s r) := by
            show a.left - manyL b a = _
            rw [han, hm1]
          rw [e3, gl]
          constructor
          · rintro ⟨⟨q1, _⟩, _, q3⟩
            exact ⟨q1, fun q => q3 rfl (by omega)⟩
          · rintro ⟨q1, q2⟩
            exact ⟨⟨q1, hne⟩, Nat.le_refl _, fun _ q => q2 (by omega)⟩
        · rw [if_neg e2] at h1 h2
          obtain ⟨a0, h3, h4⟩ := Option.map_eq_some_iff.mp h2
          have hm := h.mem i s' a0 hik h1 h3
          subst h4
          unfold zeroZ
          by_cases c : p + 1 ≤ i
          · rw [if_pos ⟨c, hik⟩]
            exact ⟨fun q => absurd q.2.1 (by omega), fun q => absurd rfl q.2⟩
          · rw [if_neg (fun q => c q.1), hm]
            exact ⟨fun q => q.1, fun q => ⟨q, by omega, fun q => absurd q e2⟩⟩
      · intro mk hmk
        rcases List.mem_append.mp hmk with hmk | hmk
        · obtain ⟨⟨i, s0, n0, g1, g2, g3⟩, ⟨i', s1, n1, g4, g5, g6⟩⟩ := h.m1 mk hmk
          obtain ⟨s0', o1, o2, _⟩ := old i s0 g1
          obtain ⟨s1', o4, _, o6⟩ := old i' s1 g4
          exact ⟨⟨i, s0', n0, o1, g2, o2 _ _ g3⟩, ⟨i', s1', n1, o4, g5, o6 _ _ g6⟩⟩
        · rw [List.mem_singleton.mp hmk, emark]
          refine ⟨⟨p, giveB s r, a.st, (by show ((x.rs.set p (giveB s r)).set k (takeB s r))[p]? = _; rw [R, if_neg hpk', if_pos rfl]), sa, ?_⟩, ⟨k, takeB s r, b.st, (by show ((x.rs.set p (giveB s r)).set k (takeB s r))[k]? = _; rw [R, if_pos rfl]), sb, ?_⟩⟩
          · show _ ∈ grpB (a.st + s.d.len) (s.be ++ [twoB s r])
            rw [grpB_app]
            exact List.mem_append_right _ (List.mem_singleton.mpr rfl)
          · show _ ∈ grpE b.st (r.en ++ [twoB s r])
            rw [grpE_app]
            exact List.mem_append_right _ (List.mem_singleton.mpr rfl)
      · intro i s' n0 h1 h2 g hg
        replace h1 : ((x.rs.set p (giveB s r)).set k (takeB s r))[i]? = some s' := h1
        rw [R] at h1
        have back : ∀ {s0 : RunS}, x.rs[i]? = some s0 → g ∈ grpB (n0 + s0.d.len) s0.be → ∃ mk ∈ y.2 ++ [markL a b], (mk.1, mk.2.1) = g := fun q1 q2 => by
          obtain ⟨mk, z1, z2⟩ := h.m2 i _ n0 q1 h2 g q2
          exact ⟨mk, List.mem_append_left _ z1, z2⟩
        by_cases e1 : i = k
        · rw [if_pos e1] at h1
          subst e1
          cases h1
          exact back hr hg
        · rw [if_neg e1] at h1
          by_cases e2 : i = p
          · rw [if_pos e2] at h1
            subst e2
            cases h1
            replace hg : g ∈ grpB (n0 + s.d.len) (s.be ++ [twoB s r]) := hg
            rw [grpB_app] at hg
            rcases List.mem_append.mp hg with hg | hg
            · exact back hs hg
            · refine ⟨markL a b, List.mem_append_right _ (List.mem_singleton.mpr rfl), ?_⟩
              rw [List.mem_singleton.mp hg, emark]
              rw [sa] at h2
              cases h2
              rfl
          · rw [if_neg e2] at h1
            exact back h1 hg
      · intro i s' n0 h1 h2 g hg
        replace h1 : ((x.rs.set p (giveB s r)).set k (takeB s r))[i]? = some s' := h1
        rw [R] at h1
        have back : ∀ {s0 : RunS}, x.rs[i]? = some s0 → g ∈ grpE n0 s0.en → ∃ mk ∈ y.2 ++ [markL a b], (mk.2.2.1, mk.2.2.2) = g := fun q1 q2 => by
          obtain ⟨mk, z1, z2⟩ := h.m3 i _ n0 q1 h2 g q2
          exact ⟨mk, List.mem_append_left _ z1, z2⟩
        by_cases e1 : i = k
        · rw [if_pos e1] at h1
          subst e1
          cases h1
          replace hg : g ∈ grpE n0 (r.en ++ [twoB s r]) := hg
          rw [grpE_app] at hg
          rcases List.mem_append.mp hg with hg | hg
          · exact back hr hg
          · refine ⟨markL a b, List.mem_append_right _ (List.mem_singleton.mpr rfl), ?_⟩
            rw [List.mem_singleton.mp hg, emark]
            rw [sb] at h2
            cases h2
            rfl
        · rw [if_neg e1] at h1
          by_cases e2 : i = p
          · rw [if_pos e2] at h1
            subst e2
            cases h1
            exact back hs hg
          · rw [if_neg e2] at h1
            exact back h1 hg
      · intro i
        show cntF enN ((x.rs.set p (giveB s r)).set k (takeB s r)) (i + 1) ≤ cntF beN ((x.rs.set p (giveB s r)).set k (takeB s r)) i
        have hk' : (x.rs.set p (giveB s r))[k]? = some r := by rw [List.getElem?_set_ne hpk']; exact hr
        have t1 : enN (takeB s r) = enN r + 1 := by show (r.en ++ [twoB s r]).length = _; rw [List.length_append]; rfl
        have t2 : beN (giveB s r) = beN s + 1 := by show (s.be ++ [twoB s r]).length = _; rw [List.length_append]; rfl
        rw [cnt_set (f := enN) (d := 1) hk' t1, cnt_set (f := enN) (b := giveB s r) (d := 0) hs rfl, cnt_set (f := beN) (b := takeB s r) (d := 0) hk' rfl, cnt_set (f := beN) (d := 1) hs t2]
        have := h.bal i
        by_cases c1 : k < i + 1
        · rw [if_pos c1, if_pos (show p < i by omega)]
          split <;> split <;> omega
        · rw [if_neg c1]
          split <;> split <;> split <;> omega
    · rw [tl, rb3]
      have := manyN_pos (twoB s r)
      omega
theorem whileP_one {k f : Nat} {x : PS} {r : RunS} (hr : x.rs[k]? = some r) : whileP k (f + 1) x = if r.d.cl = true ∧ 0 < r.left then (match turnP k x with | none => x | some y => whileP k f y) else x := by
  simp only [whileP, hr] <;> rfl
theorem whileL_one {k f : Nat} {y : LS} {b : LR} (hb : y.1[k]? = some b) : whileL k (f + 1) y = if b.d.cl = true ∧ 0 < b.left then (match turnL k y with | none => y | some y' => whileL k f y') else y := by
  simp only [whileL, hb] <;> rfl
theorem while_rel {sts : List Nat} {k : Nat} : ∀ (f : Nat) {x : PS} {y : LS} {r : RunS}, PIn sts k x y → x.rs[k]? = some r → PIn sts k (whileP k f x) (whileL k f y) ∧ ∃ r', (whileP k f x).rs[k]? = some r'
  | 0, x, y, r, h, hr => ⟨h, r, hr⟩
  | f + 1, x, y, r, h, hr => by
    obtain ⟨b, hb, ⟨e1, e2, n, e3, e4, e5, e6⟩, _⟩ := h.law hr
    rw [whileP_one hr, whileL_one hb]
    have eb : b.left = n := e5 (Nat.le_refl _)
    by_cases c : r.d.cl = true ∧ 0 < r.left
    · rw [if_pos c, if_pos ⟨by rw [e1]; exact c.1, by rw [e3] at c; omega⟩]
      rcases turn_rel h hr hb c.1 c.2 with ⟨t1, t2⟩ | ⟨x', y', r', b', t1, t2, t3, t4, _⟩
      · rw [t1, t2]
        exact ⟨h, r, hr⟩
      · rw [t1, t2]
        exact while_rel f t3 t4
    · rw [if_neg c, if_neg (fun q => c ⟨by rw [← e1]; exact q.1, by rw [e3]; omega⟩)]
      exact ⟨h, r, hr⟩
theorem push_of {s : SortD} {k : Nat} : ∀ {st : List Stk} {z : Stk}, z ∈ push st s k → z ∈ st ∨ (z.1 = s ∧ (z.2 = [k] ∨ ∃ z0 ∈ st, z0.1 = s ∧ z.2 = z0.2 ++ [k]))
  | [], z, h => by
    rw [List.mem_singleton.mp (show z ∈ [(s, [k])] from h)]
    exact .inr ⟨rfl, .inl rfl⟩
  | a :: st, z, h => by
    have h' : z ∈ if a.1 = s then (a.1, a.2 ++ [k]) :: st else a :: push st s k := h
    by_cases e : a.1 = s
    · rw [if_pos e] at h'
      rcases List.mem_cons.mp h' with rfl | h'
      · exact .inr ⟨e, .inr ⟨a, List.mem_cons_self .., e, rfl⟩⟩
      · exact .inl (List.mem_cons_of_mem _ h')
    · rw [if_neg e] at h'
      rcases List.mem_cons.mp h' with rfl | h'
      · exact .inl (List.mem_cons_self ..)
      · rcases push_of h' with q | ⟨q1, q2⟩
        · exact .inl (List.mem_cons_of_mem _ q)
        · refine .inr ⟨q1, ?_⟩
          rcases q2 with q | ⟨z0, q, q'⟩
          · exact .inl q
          · exact .inr ⟨z0, List.mem_cons_of_mem _ q, q'⟩
theorem push_in {s : SortD} {k i : Nat} : ∀ {st : List Stk}, (∃ z ∈ push st s k, i ∈ z.2) ↔ (∃ z ∈ st, i ∈ z.2) ∨ i = k
  | [] => by
    constructor
    · rintro ⟨z, hz, hi⟩
      rw [List.mem_singleton.mp (show z ∈ [(s, [k])] from hz)] at hi
      exact .inr (List.mem_singleton.mp hi)
    · rintro (⟨z, hz, _⟩ | rfl)
      · cases hz
      · exact ⟨(s, [i]), List.mem_singleton.mpr rfl, List.mem_singleton.mpr rfl⟩
  | a :: st => by
    have e0 : push (a :: st) s k = if a.1 = s then (a.1, a.2 ++ [k]) :: st else a :: push st s k := rfl
    rw [e0]
    by_cases e : a.1 = s
    · rw [if_pos e]
      constructor
      · rintro ⟨z, hz, hi⟩
        rcases List.mem_cons.mp hz with rfl | hz
        · rcases List.mem_append.mp hi with hi | hi
          · exact .inl ⟨a, List.mem_cons_self .., hi⟩
          · exact .inr (List.mem_singleton.mp hi)
        · exact .inl ⟨z, List.mem_cons_of_mem _ hz, hi⟩
      · rintro (⟨z, hz, hi⟩ | rfl)
        · rcases List.mem_cons.mp hz with rfl | hz
          · exact ⟨_, List.mem_cons_self .., List.mem_append_left _ hi⟩
          · exact ⟨z, List.mem_cons_of_mem _ hz, hi⟩
        · exact ⟨_, List.mem_cons_self .., List.mem_append_right _ (List.mem_singleton.mpr rfl)⟩
    · rw [if_neg e]
      have ih := push_in (s := s) (k := k) (i := i) (st := st)
      constructor
      · rintro ⟨z, hz, hi⟩
        rcases List.mem_cons.mp hz with rfl | hz
        · exact .inl ⟨_, List.mem_cons_self .., hi⟩
        · rcases ih.mp ⟨z, hz, hi⟩ with ⟨z', h1, h2⟩ | q
          · exact .inl ⟨z', List.mem_cons_of_mem _ h1, h2⟩
          · exact .inr q
      · rintro (⟨z, hz, hi⟩ | q)
        · rcases List.mem_cons.mp hz with rfl | hz
          · exact ⟨_, List.mem_cons_self .., hi⟩
          · obtain ⟨z', h1, h2⟩ := ih.mpr (.inl ⟨z, hz, hi⟩)
            exact ⟨z', List.mem_cons_of_mem _ h1, h2⟩
        · obtain ⟨z', h1, h2⟩ := ih.mpr (.inr q)
          exact ⟨z', List.mem_cons_of_mem _ h1, h2⟩
theorem push_keys {s : SortD} {k : Nat} : ∀ {st : List Stk}, (st.map (·.1)).Nodup → ((push st s k).map (·.1)).Nodup ∧ ∀ x ∈ (push st s k).map (·.1), x ∈ st.map (·.1) ∨ x = s
  | [], _ => ⟨by simp [push], fun x hx => .inr (by simpa [push] using hx)⟩
  | a :: st, h => by
    have e0 : push (a :: st) s k = if a.1 = s then (a.1, a.2 ++ [k]) :: st else a :: push st s k := rfl
    rw [e0]
    by_cases e : a.1 = s
    · rw [if_pos e]
      exact ⟨h, fun x hx => .inl hx⟩
    · rw [if_neg e]
      rw [List.map_cons, List.nodup_cons] at h
      obtain ⟨i1, i2⟩ := push_keys (s := s) (k := k) h.2
      refine ⟨?_, fun x hx => ?_⟩
      · rw [List.map_cons, List.nodup_cons]
        refine ⟨fun q => ?_, i1⟩
        rcases i2 _ q with q | q
        · exact h.1 q
        · exact e q
      · rcases List.mem_cons.mp hx with rfl | hx
        · exact .inl (List.mem_cons_self ..)
        · rcases i2 x hx with q | q
          · exact .inl (List.mem_cons_of_mem _ q)
          · exact .inr q
theorem RunRel.up {k i : Nat} {s : RunS} {a : LR} (h : RunRel k i s a) : RunRel (k + 1) i s a :=
  let ⟨a, b, n, c, d, e, f⟩ := h
  ⟨a, b, n, c, d, fun q => e (by omega), f⟩
theorem push_rel {sts : List Nat} {k : Nat} {x : PS} {y : LS} (h : PIn sts k x y) {r : RunS} (hr : x.rs[k]? = some r) : PIn sts (k + 1) (pushP k x) y := by
  have e0 : pushP k x = if r.d.op = true ∧ 0 < r.left then ⟨x.rs, push x.st r.sort k⟩ else x := by
    unfold pushP
    rw [hr]
  have hnk : ¬ ∃ z ∈ x.st, k ∈ z.2 := fun ⟨z, hz, hi⟩ => Nat.lt_irrefl _ (h.srt z hz k hi).1
  have ri : ∀ (i : Nat) s a, x.rs[i]? = some s → y.1[i]? = some a → RunRel (k + 1) i s a ∧ sts[i]? = some a.st := fun i s a h1 h2 => ⟨(h.ri i s a h1 h2).1.up, (h.ri i s a h1 h2).2⟩
  rw [e0]
  by_cases c : r.d.op = true ∧ 0 < r.left
  · rw [if_pos c]
    refine ⟨h.ll, ri, fun z hz => ?_, (push_keys h.keys).1, fun z hz n hn => ?_, fun i s a hi h1 h2 => ?_, h.m1, h.m2, h.m3, h.bal⟩
    · rcases push_of hz with q | ⟨_, q | ⟨z0, q1, _, q3⟩⟩
      · exact h.asc z q
      · rw [q]
        exact List.pairwise_singleton ..
      · rw [q3, List.pairwise_append]
        refine ⟨h.asc z0 q1, List.pairwise_singleton .., fun u hu v hv => ?_⟩
        rw [List.mem_singleton.mp hv]
        exact (h.srt z0 q1 u hu).1
    · rcases push_of hz with q | ⟨e, q | ⟨z0, q1, q2, q3⟩⟩
      · obtain ⟨h1, h2⟩ := h.srt z q n hn
        exact ⟨by omega, h2⟩
      · rw [q] at hn
        rw [List.mem_singleton.mp hn]
        exact ⟨by omega, r, hr, e.symm⟩
      · rw [q3] at hn
        rcases List.mem_append.mp hn with hn | hn
        · obtain ⟨h1, s, h2, h3⟩ := h.srt z0 q1 n hn
          exact ⟨by omega, s, h2, by rw [h3, q2, e]⟩
        · rw [List.mem_singleton.mp hn]
          exact ⟨by omega, r, hr, e.symm⟩
    · refine push_in.trans ?_
      by_cases e : i = k
      · subst e
        rw [hr] at h1
        cases h1
        obtain ⟨⟨q1, q2, n, q3, q4, q5, q6⟩, _⟩ := h.ri i r a hr h2
        have := q5 (Nat.le_refl _)
        rw [q3] at c
        exact ⟨fun _ => ⟨c.1, by omega⟩, fun _ => .inr rfl⟩
      · rw [← h.mem i s a (by omega) h1 h2]
        exact ⟨fun q => q.elim id fun q => absurd q e, .inl⟩
  · rw [if_neg c]
    refine ⟨h.ll, ri, h.asc, h.keys, fun z hz n hn => ?_, fun i s a hi h1 h2 => ?_, h.m1, h.m2, h.m3, h.bal⟩
    · obtain ⟨h1, h2⟩ := h.srt z hz n hn
      exact ⟨by omega, h2⟩
    · by_cases e : i = k
      · subst e
        rw [hr] at h1
        cases h1
        obtain ⟨⟨q1, q2, n, q3, q4, q5, q6⟩, _⟩ := h.ri i r a hr h2
        have := q5 (Nat.le_refl _)
        refine ⟨fun q => absurd q hnk, fun q => absurd ?_ c⟩
        rw [q3]
        exact ⟨q.1, by omega⟩
      · exact h.mem i s a (by omega) h1 h2
theorem step_rel {sts : List Nat} {k : Nat} {x : PS} {y : LS} (h : PIn sts k x y) (hk : k < x.rs.length) : PIn sts (k + 1) (stepP k x) (stepL k y) := by
  obtain ⟨r, hr⟩ : ∃ r, x.rs[k]? = some r := ⟨_, List.getElem?_eq_getElem hk⟩
  obtain ⟨b, hb, ⟨e1, e2, n, e3, e4, e5, e6⟩, _⟩ := h.law hr
  have eb := e5 (Nat.le_refl _)
  have s1 : stepP k x = pushP k (whileP k n x) := by
    unfold stepP
    rw [hr]
    show pushP k (whileP k r.left.toNat x) = _
    rw [e3]
    rfl
  have s2 : stepL k y = whileL k n y := by
    unfold stepL
    rw [hb]
    show whileL k b.left y = _
    rw [eb]
  obtain ⟨w1, r', w2⟩ := while_rel n h hr
  rw [s1, s2]
  exact push_rel w1 w2
theorem turnP_d {k : Nat} {x x' : PS} (h : turnP k x = some x') : x'.rs.map (·.d) = x.rs.map (·.d) := by
  have key : ∀ {l : List RunS} {p : Nat} {a b : RunS}, l[p]? = some a → b.d = a.d → (l.set p b).map (·.d) = l.map (·.d) := by
    intro l p a b h1 h2
    rw [List.map_set]
    obtain ⟨hp, rfl⟩ := List.getElem?_eq_some_iff.mp h1
    rw [h2]
    have : l[p].d = (l.map (·.d))[p]'(by rw [List.length_map]; exact hp) := by rw [List.getElem_map]
    rw [this, List.set_getElem_self]
  unfold turnP at h
  cases hr : x.rs[k]? with
  | none => rw [hr] at h; cases h
  | some r =>
    rw [hr] at h
    dsimp only at h
    cases hn : nearTo r.sort x.st x.st.length with
    | none => rw [hn] at h; cases h
    | some q =>
      rw [hn] at h
      dsimp only at h
      cases ha : x.rs[q.2]? with
      | none => rw [ha] at h; cases h
      | some a =>
        rw [ha] at h
        cases h
        show ((x.rs.set q.2 (giveB a r)).set k (takeB a r)).map (·.d) = _
        have lk : k < (x.rs.set q.2 (giveB a r)).length := by rw [List.length_set]; exact (List.getElem?_eq_some_iff.mp hr).1
        by_cases e : q.2 = k
        · rw [e, List.set_set]
          exact key hr rfl
        · rw [key (a := r) (b := takeB a r) (by rw [List.getElem?_set_ne e]; exact hr) rfl]
          exact key ha rfl
theorem whileP_d (k : Nat) : ∀ (f : Nat) (x : PS), (whileP k f x).rs.map (·.d) = x.rs.map (·.d)
  | 0, x => rfl
  | f + 1, x => by
    cases hr : x.rs[k]? with
    | none => simp [whileP, hr]
    | some r =>
      rw [whileP_one hr]
      split
      · cases ht : turnP k x with
        | none => rfl
        | some y => exact (whileP_d k f y).trans (turnP_d ht)
      · rfl
theorem stepP_d (k : Nat) (x : PS) : (stepP k x).rs.map (·.d) = x.rs.map (·.d) := by
  unfold stepP
  cases hr : x.rs[k]? with
  | none => rfl
  | some r =>
    show (pushP k (whileP k r.left.toNat x)).rs.map (·.d) = _
    rw [← whileP_d k r.left.toNat x]
    unfold pushP
    split
    · rfl
    · split <;> rfl
theorem pairTo_d (rs : List RunS) : ∀ k, (pairTo rs k).rs.map (·.d) = rs.map (·.d)
  | 0 => rfl
  | k + 1 => (stepP_d k _).trans (pairTo_d rs k)
theorem pairTo_len (rs : List RunS) (k : Nat) : (pairTo rs k).rs.length = rs.length := by
  have := congrArg List.length (pairTo_d rs k)
  rwa [List.length_map, List.length_map] at this
/-- runs as they begin -/
def newL (ds : List RunD) (sts : List Nat) : List LR := (ds.zip sts).map fun z => ⟨z.1, z.2, z.1.len, 0⟩
theorem new_rel {ds : List RunD} {sts : List Nat} (hl : ds.length = sts.length) : PIn sts 0 ⟨ds.map RunS.new, []⟩ (newL ds sts, []) := by
  refine ⟨by simp [newL, hl], fun i s a h1 h2 => ?_, fun z hz => (by cases hz), .nil, fun z hz => (by cases hz), fun i s a hi => absurd hi (by omega), fun m hm => (by cases hm), fun i s n h1 h2 g hg => ?_, fun i s n h1 h2 g hg => ?_, fun i => ?_⟩
  · have h1' : (ds.map RunS.new)[i]? = some s := h1
    have h2' : (newL ds sts)[i]? = some a := h2
    rw [List.getElem?_map] at h1'
    unfold newL at h2'
    rw [List.getElem?_map] at h2'
    obtain ⟨d, e1, rfl⟩ := Option.map_eq_some_iff.mp h1'
    obtain ⟨z, e2, rfl⟩ := Option.map_eq_some_iff.mp h2'
    obtain ⟨z1, z2⟩ := List.getElem?_zip_eq_some.mp e2
    rw [e1] at z1
    cases z1
    exact ⟨⟨rfl, rfl, z.1.len, rfl, rfl, fun _ => rfl, .inr rfl⟩, z2⟩
  · have h1' : (ds.map RunS.new)[i]? = some s := h1
    rw [List.getElem?_map] at h1'
    obtain ⟨d, e1, rfl⟩ := Option.map_eq_some_iff.mp h1'
    cases hg
  · have h1' : (ds.map RunS.new)[i]? = some s := h1
    rw [List.getElem?_map] at h1'
    obtain ⟨d, e1, rfl⟩ := Option.map_eq_some_iff.mp h1'
    cases hg
  · have : ∀ (ds : List RunD) (j : Nat), cntF enN (ds.map RunS.new) j = 0 := by
      intro ds
      induction ds with
      | nil => intro j; unfold cntF; rw [List.map_nil, List.take_nil]; rfl
      | cons d ds ih =>
        intro j
        cases j with
        | zero => rfl
        | succ j =>
          show 0 + cntF enN (ds.map RunS.new) j = 0
          rw [ih]
    show cntF enN (ds.map RunS.new) (i + 1) ≤ _
    rw [this]
    exact Nat.zero_le _
theorem pair_rel {sts : List Nat} {rs : List RunS} {l : List LR} (h : PIn sts 0 ⟨rs, []⟩ (l, [])) : ∀ k, k ≤ rs.length → PIn sts k (pairTo rs k) (spansTo l k)
  | 0, _ => h
  | k + 1, hk => step_rel (pair_rel h k (by omega)) (by rw [pairTo_len]; omega)
def inB (k : Nat) (m : Mk) : Bool := decide (m.1 ≤ k) && decide (k < m.2.1)
def inE (k : Nat) (m : Mk) : Bool := decide (m.2.2.1 ≤ k) && decide (k < m.2.2.2)
/-- the last one that has the place -/
def begAt (ms : List Mk) (k : Nat) : Option Mk := ms.reverse.find? (inB k)
def endAt (ms : List Mk) (k : Nat) : Option Mk := ms.reverse.find? (inE k)
theorem inB_iff {k : Nat} {m : Mk} : inB k m = true ↔ m.1 ≤ k ∧ k < m.2.1 := by
  unfold inB
  rw [Bool.and_eq_true, decide_eq_true_eq, decide_eq_true_eq]
theorem inE_iff {k : Nat} {m : Mk} : inE k m = true ↔ m.2.2.1 ≤ k ∧ k < m.2.2.2 := by
  unfold inE
  rw [Bool.and_eq_true, decide_eq_true_eq, decide_eq_true_eq]
def posStep (ms : List Mk) (c k : Nat) (rows : List (List Inl)) : Option (List (List Inl)) :=
  match begAt ms k with
  | some m => some (if k = m.1 then [] :: rows else rows)
  | none => match endAt ms k with
    | some m => if k + 1 = m.2.2.2 then endM (decide (m.2.2.2 - m.2.2.1 = 2)) rows else some rows
    | none => some (addM (.text [c]) rows)
def posR (ms : List Mk) (c : Nat) : Nat → Nat → List (List Inl) → Option (List (List Inl))
  | _, 0, rows => some rows
  | p, n + 1, rows => (posStep ms c p rows).bind (posR ms c (p + 1) n)
theorem posR_app (ms : List Mk) (c : Nat) : ∀ (a p b : Nat) (rows : List (List Inl)), posR ms c p (a + b) rows = (posR ms c p a rows).bind (posR ms c (p + a) b)
  | 0, p, b, rows => by
    rw [Nat.zero_add]
    rfl
  | a + 1, p, b, rows => by
    rw [show a + 1 + b = (a + b) + 1 by omega]
    show (posStep ms c p rows).bind (posR ms c (p + 1) (a + b)) = ((posStep ms c p rows).bind (posR ms c (p + 1) a)).bind (posR ms c (p + (a + 1)) b)
    cases posStep ms c p rows with
    | none => rfl
    | some r =>
      show posR ms c (p + 1) (a + b) r = (posR ms c (p + 1) a r).bind _
      rw [posR_app ms c a (p + 1) b r, show p + 1 + a = p + (a + 1) by omega]
theorem posR_ends {ms : List Mk} {c : Nat} : ∀ (en : List Bool) (q : Nat) (rows : List (List Inl)), (∀ g ∈ grpE q en, ∀ k, g.1 ≤ k → k < g.2 → begAt ms k = none ∧ ∃ m, endAt ms k = some m ∧ m.2.2.1 = g.1 ∧ m.2.2.2 = g.2) → posR ms c q (sumB en) rows = endsM en rows
  | [], q, rows, _ => rfl
  | b :: en, q, rows, h => by
    have h0 := h (q, q + manyN b) (List.mem_cons_self ..)
    have hr : ∀ r, posR ms c (q + manyN b) (sumB en) r = endsM en r := fun r => posR_ends en (q + manyN b) r fun g hg => h g (List.mem_cons_of_mem _ hg)
    have h1 : posR ms c q (manyN b) rows = endM b rows := by
      cases b with
      | false =>
        obtain ⟨e1, m, e2, e3, e4⟩ := h0 q (Nat.le_refl _) (by show q < q + 1; omega)
        show (posStep ms c q rows).bind (posR ms c (q + 1) 0) = _
        unfold posStep
        rw [e1, e2]
        dsimp only
        rw [if_pos (by rw [e4]; rfl), e3, e4]
        have : decide ((q, q + manyN false).2 - (q, q + manyN false).1 = 2) = false := decide_eq_false (by show ¬ (q + 1 - q = 2); omega)
        rw [this]
        cases endM false rows <;> rfl
      | true =>
        obtain ⟨e1, m, e2, e3, e4⟩ := h0 q (Nat.le_refl _) (by show q < q + 2; omega)
        obtain ⟨f1, m', f2, f3, f4⟩ := h0 (q + 1) (by show q ≤ q + 1; omega) (by show q + 1 < q + 2; omega)
        show (posStep ms c q rows).bind (posR ms c (q + 1) 1) = _
        have s1 : posStep ms c q rows = some rows := by
          unfold posStep
          rw [e1, e2]
          dsimp only
          rw [if_neg]
          rw [e4]
          show ¬ (q + 1 = q + 2)
          omega
        rw [s1]
        show (posStep ms c (q + 1) rows).bind (posR ms c (q + 1 + 1) 0) = _
        unfold posStep
        rw [f1, f2]
        dsimp only
        rw [if_pos (by rw [f4]; rfl), f3, f4]
        have : decide ((q, q + manyN true).2 - (q, q + manyN true).1 = 2) = true := decide_eq_true (by show q + 2 - q = 2; omega)
        rw [this]
        cases endM true rows <;> rfl
    rw [sumB_cons, posR_app, h1]
    unfold endsM
    cases endM b rows with
    | none => rfl
    | some r => exact hr r
theorem posR_mid {ms : List Mk} {c : Nat} : ∀ (n q : Nat) (rows : List (List Inl)), (∀ k, q ≤ k → k < q + n → begAt ms k = none ∧ endAt ms k = none) → ORE (posR ms c q n rows) (some (addM (.text (List.replicate n c)) rows))
  | 0, q, rows, _ => congrArg some (re_nil rows)
  | n + 1, q, rows, h => by
    obtain ⟨h1, h2⟩ := h q (Nat.le_refl _) (by omega)
    show ORE ((posStep ms c q rows).bind (posR ms c (q + 1) n)) _
    have s1 : posStep ms c q rows = some (addM (.text [c]) rows) := by
      unfold posStep
      rw [h1, h2]
    rw [s1]
    refine Eq.trans (posR_mid n (q + 1) (addM (.text [c]) rows) fun k a b => h k (by omega) (by omega)) ?_
    refine congrArg some ?_
    cases rows with
    | nil => rfl
    | cons x r => exact re_mk (jn_two x [c] (List.replicate n c)).symm rfl
theorem posR_begs {ms : List Mk} {c : Nat} : ∀ (be : List Bool) (e : Nat) (rows : List (List Inl)), sumB be ≤ e → (∀ g ∈ grpB e be, ∀ k, g.1 ≤ k → k < g.2 → ∃ m, begAt ms k = some m ∧ m.1 = g.1) → posR ms c (e - sumB be) (sumB be) rows = some (List.replicate be.length [] ++ rows)
  | [], e, rows, _, _ => rfl
  | b :: be, e, rows, hs, h => by
    rw [sumB_cons] at hs ⊢
    have h0 := h (e - manyN b, e) (List.mem_cons_self ..)
    have ih := posR_begs (c := c) be (e - manyN b) rows (by omega) fun g hg => h g (List.mem_cons_of_mem _ hg)
    rw [show manyN b + sumB be = sumB be + manyN b by omega, posR_app, show e - (sumB be + manyN b) = e - manyN b - sumB be by omega, ih, show e - manyN b - sumB be + sumB be = e - manyN b by omega]
    show posR ms c (e - manyN b) (manyN b) (List.replicate be.length [] ++ rows) = _
    cases b with
    | false =>
      have he : 1 ≤ e := by
        have : manyN false = 1 := rfl
        omega
      obtain ⟨m, e1, e2⟩ := h0 (e - 1) (Nat.le_refl _) (by show e - 1 < e; omega)
      show (posStep ms c (e - 1) _).bind (posR ms c (e - 1 + 1) 0) = _
      unfold posStep
      rw [e1]
      dsimp only
      rw [if_pos (by rw [e2]; rfl)]
      rfl
    | true =>
      have he : 2 ≤ e := by
        have : manyN true = 2 := rfl
        omega
      obtain ⟨m, e1, e2⟩ := h0 (e - 2) (Nat.le_refl _) (by show e - 2 < e; omega)
      obtain ⟨m', f1, f2⟩ := h0 (e - 2 + 1) (by show e - 2 ≤ e - 2 + 1; omega) (by show e - 2 + 1 < e; omega)
      show (posStep ms c (e - 2) _).bind (posR ms c (e - 2 + 1) 1) = _
      have s1 : posStep ms c (e - 2) (List.replicate be.length [] ++ rows) = some ([] :: (List.replicate be.length [] ++ rows)) := by
        unfold posStep
        rw [e1]
        dsimp only
        rw [if_pos (by rw [e2]; rfl)]
      rw [s1]
      show (posStep ms c (e - 2 + 1) _).bind (posR ms c (e - 2 + 1 + 1) 0) = _
      unfold posStep
      rw [f1]
      dsimp only
      rw [if_neg (by rw [f2]; show ¬ (e - 2 + 1 = e - 2); omega)]
      rfl
theorem grpE_in : ∀ {l : List Bool} {s : Nat} {g : Nat × Nat}, g ∈ grpE s l → s ≤ g.1 ∧ g.1 < g.2 ∧ g.2 ≤ s + sumB l
  | b :: l, s, g, h => by
    have := manyN_pos b
    rw [sumB_cons]
    rcases List.mem_cons.mp (show g ∈ (s, s + manyN b) :: grpE (s + manyN b) l from h) with rfl | h
    · exact ⟨Nat.le_refl _, by show s < s + manyN b; omega, by show s + manyN b ≤ _; omega⟩
    · obtain ⟨a, b', c⟩ := grpE_in h
      exact ⟨by omega, b', by omega⟩
theorem grpB_in : ∀ {l : List Bool} {e : Nat} {g : Nat × Nat}, sumB l ≤ e → g ∈ grpB e l → e - sumB l ≤ g.1 ∧ g.1 < g.2 ∧ g.2 ≤ e
  | b :: l, e, g, hs, h => by
    have := manyN_pos b
    rw [sumB_cons] at hs ⊢
    rcases List.mem_cons.mp (show g ∈ (e - manyN b, e) :: grpB (e - manyN b) l from h) with rfl | h
    · exact ⟨by show e - (manyN b + sumB l) ≤ e - manyN b; omega, by show e - manyN b < e; omega, Nat.le_refl _⟩
    · obtain ⟨a, b', c⟩ := grpB_in (by omega) h
      exact ⟨by omega, b', by omega⟩
theorem grpE_uniq : ∀ {l : List Bool} {s : Nat} {g g' : Nat × Nat} {k : Nat}, g ∈ grpE s l → g' ∈ grpE s l → g.1 ≤ k → k < g.2 → g'.1 ≤ k → k < g'.2 → g = g'
  | b :: l, s, g, g', k, h, h', a1, a2, b1, b2 => by
    rcases List.mem_cons.mp (show g ∈ (s, s + manyN b) :: grpE (s + manyN b) l from h) with rfl | h
    · rcases List.mem_cons.mp (show g' ∈ (s, s + manyN b) :: grpE (s + manyN b) l from h') with rfl | h'
      · rfl
      · have := grpE_in h'
        have a2' : k < s + manyN b := a2
        omega
    · rcases List.mem_cons.mp (show g' ∈ (s, s + manyN b) :: grpE (s + manyN b) l from h') with rfl | h'
      · have := grpE_in h
        have b2' : k < s + manyN b := b2
        omega
      · exact grpE_uniq h h' a1 a2 b1 b2
theorem grpB_uniq : ∀ {l : List Bool} {e : Nat} {g g' : Nat × Nat} {k : Nat}, sumB l ≤ e → g ∈ grpB e l → g' ∈ grpB e l → g.1 ≤ k → k < g.2 → g'.1 ≤ k → k < g'.2 → g = g'
  | b :: l, e, g, g', k, hs, h, h', a1, a2, b1, b2 => by
    rw [sumB_cons] at hs
    rcases List.mem_cons.mp (show g ∈ (e - manyN b, e) :: grpB (e - manyN b) l from h) with rfl | h
    · rcases List.mem_cons.mp (show g' ∈ (e - manyN b, e) :: grpB (e - manyN b) l from h') with rfl | h'
      · rfl
      · have := grpB_in (by omega) h'
        have a1' : e - manyN b ≤ k := a1
        omega
    · rcases List.mem_cons.mp (show g' ∈ (e - manyN b, e) :: grpB (e - manyN b) l from h') with rfl | h'
      · have := grpB_in (by omega) h
        have b1' : e - manyN b ≤ k := b1
        omega
      · exact grpB_uniq (by omega) h h' a1 a2 b1 b2
/-- where the runs stand: one behind the other -/
def Apart (sts : List Nat) (rs : List RunS) : Prop := ∀ (i j : Nat) s s' n n', rs[i]? = some s → rs[j]? = some s' → sts[i]? = some n → sts[j]? = some n' → i < j → n + s.d.len ≤ n'
/-- what the marks say of a place within a run -/
theorem PIn.sums {sts : List Nat} {k : Nat} {x : PS} {y : LS} (h : PIn sts k x y) {i : Nat} {s : RunS} (hs : x.rs[i]? = some s) : ∃ n : Nat, s.left = (n : Int) ∧ n + sumB s.en + sumB s.be = s.d.len := by
  obtain ⟨a, _, ⟨_, _, n, e1, e2, _⟩, _⟩ := h.law hs
  exact ⟨n, e1, e2⟩
theorem same_run {sts : List Nat} {rs : List RunS} (ap : Apart sts rs) {i j : Nat} {s s' : RunS} {n n' k : Nat} (h1 : rs[i]? = some s) (h2 : rs[j]? = some s') (h3 : sts[i]? = some n) (h4 : sts[j]? = some n') (a : n ≤ k) (b : k < n + s.d.len) (c : n' ≤ k) (d : k < n' + s'.d.len) : i = j := by
  rcases Nat.lt_trichotomy i j with q | q | q
  · have := ap i j s s' n n' h1 h2 h3 h4 q
    omega
  · exact q
  · have := ap j i s' s n' n h2 h1 h4 h3 q
    omega
theorem PIn.beg {sts : List Nat} {k0 : Nat} {x : PS} {y : LS} (h : PIn sts k0 x y) (ap : Apart sts x.rs) {i : Nat} {s : RunS} {n k : Nat} (hs : x.rs[i]? = some s) (hn : sts[i]? = some n) (a : n ≤ k) (b : k < n + s.d.len) :
    (∀ g ∈ grpB (n + s.d.len) s.be, g.1 ≤ k → k < g.2 → ∃ m, begAt y.2 k = some m ∧ m.1 = g.1) ∧ ((∀ g ∈ grpB (n + s.d.len) s.be, ¬ (g.1 ≤ k ∧ k < g.2)) → begAt y.2 k = none) := by
  obtain ⟨l, hl1, hl2⟩ := h.sums hs
  have own : ∀ m ∈ y.2, inB k m = true → (m.1, m.2.1) ∈ grpB (n + s.d.len) s.be := fun m hm hk => by
    obtain ⟨⟨j, s', n', g1, g2, g3⟩, _⟩ := h.m1 m hm
    obtain ⟨l', hl1', hl2'⟩ := h.sums g1
    have hi := grpB_in (by omega) g3
    have hk := inB_iff.mp hk
    have hi' : n' + s'.d.len - sumB s'.be ≤ m.1 ∧ m.1 < m.2.1 ∧ m.2.1 ≤ n' + s'.d.len := hi
    have e := same_run ap hs g1 hn g2 a b (by omega) (by omega)
    subst e
    rw [hs] at g1
    rw [hn] at g2
    cases g1
    cases g2
    exact g3
  refine ⟨fun g hg a1 a2 => ?_, fun hno => ?_⟩
  · obtain ⟨m, hm, rfl⟩ := h.m2 i s n hs hn g hg
    cases hf : begAt y.2 k with
    | none =>
      have := List.find?_eq_none.mp hf m (List.mem_reverse.mpr hm)
      exact absurd (inB_iff.mpr ⟨a1, a2⟩) this
    | some m' =>
      have hm' := List.mem_reverse.mp (List.mem_of_find?_eq_some hf)
      have hk' := List.find?_some hf
      have hk2 := inB_iff.mp hk'
      refine ⟨m', rfl, ?_⟩
      have := grpB_uniq (by omega) (own m' hm' hk') hg hk2.1 hk2.2 a1 a2
      exact (Prod.mk.inj this).1
  · cases hf : begAt y.2 k with
    | none => rfl
    | some m' =>
      have hm' := List.mem_reverse.mp (List.mem_of_find?_eq_some hf)
      have hk' := List.find?_some hf
      exact absurd (inB_iff.mp hk') (hno _ (own m' hm' hk'))
theorem PIn.end' {sts : List Nat} {k0 : Nat} {x : PS} {y : LS} (h : PIn sts k0 x y) (ap : Apart sts x.rs) {i : Nat} {s : RunS} {n k : Nat} (hs : x.rs[i]? = some s) (hn : sts[i]? = some n) (a : n ≤ k) (b : k < n + s.d.len) :
    (∀ g ∈ grpE n s.en, g.1 ≤ k → k < g.2 → ∃ m, endAt y.2 k = some m ∧ m.2.2.1 = g.1 ∧ m.2.2.2 = g.2) ∧ ((∀ g ∈ grpE n s.en, ¬ (g.1 ≤ k ∧ k < g.2)) → endAt y.2 k = none) := by
  obtain ⟨l, hl1, hl2⟩ := h.sums hs
  have own : ∀ m ∈ y.2, inE k m = true → (m.2.2.1, m.2.2.2) ∈ grpE n s.en := fun m hm hk => by
    obtain ⟨_, ⟨j, s', n', g1, g2, g3⟩⟩ := h.m1 m hm
    obtain ⟨l', hl1', hl2'⟩ := h.sums g1
    have hi := grpE_in g3
    have hk := inE_iff.mp hk
    have hi' : n' ≤ m.2.2.1 ∧ m.2.2.1 < m.2.2.2 ∧ m.2.2.2 ≤ n' + sumB s'.en := hi
    have e := same_run ap hs g1 hn g2 a b (by omega) (by omega)
    subst e
    rw [hs] at g1
    rw [hn] at g2
    cases g1
    cases g2
    exact g3
  refine ⟨fun g hg a1 a2 => ?_, fun hno => ?_⟩
  · obtain ⟨m, hm, rfl⟩ := h.m3 i s n hs hn g hg
    cases hf : endAt y.2 k with
    | none =>
      have := List.find?_eq_none.mp hf m (List.mem_reverse.mpr hm)
      exact absurd (inE_iff.mpr ⟨a1, a2⟩) this
    | some m' =>
      have hm' := List.mem_reverse.mp (List.mem_of_find?_eq_some hf)
      have hk' := List.find?_some hf
      have hk2 := inE_iff.mp hk'
      refine ⟨m', rfl, ?_⟩
      have := grpE_uniq (own m' hm' hk') hg hk2.1 hk2.2 a1 a2
      exact ⟨(Prod.mk.inj this).1, (Prod.mk.inj this).2⟩
  · cases hf : endAt y.2 k with
    | none => rfl
    | some m' =>
      have hm' := List.mem_reverse.mp (List.mem_of_find?_eq_some hf)
      have hk' := List.find?_some hf
      exact absurd (inE_iff.mp hk') (hno _ (own m' hm' hk'))
/-- the places of a run do what the run does -/
theorem pos_run {sts : List Nat} {k0 : Nat} {x : PS} {y : LS} (h : PIn sts k0 x y) (ap : Apart sts x.rs) {i : Nat} {s : RunS} {n : Nat} (hs : x.rs[i]? = some s) (hn : sts[i]? = some n) {rows rows' : List (List Inl)} (re : RE rows rows') : ORE (posR y.2 s.d.sg n s.d.len rows) (runM s rows') := by
  obtain ⟨l, hl1, hl2⟩ := h.sums hs
  refine Eq.trans ?_ (runM_RE s re)
  have e1 : posR y.2 s.d.sg n s.d.len rows = ((endsM s.en rows).bind (posR y.2 s.d.sg (n + sumB s.en) l)).bind (posR y.2 s.d.sg (n + sumB s.en + l) (sumB s.be)) := by
    rw [show s.d.len = sumB s.en + l + sumB s.be by omega, posR_app, posR_app, posR_ends]
    · rw [Nat.add_assoc n]
    · intro g hg k a b
      have hi := grpE_in hg
      refine ⟨(h.beg ap hs hn (by omega) (by omega)).2 fun g' hg' q => ?_, (h.end' ap hs hn (by omega) (by omega)).1 g hg a b⟩
      have := grpB_in (by omega) hg'
      omega
  rw [e1]
  have er : runM s rows = ((endsM s.en rows).bind fun r => some (addM (.text (List.replicate l s.d.sg)) r)).bind fun r => some (List.replicate s.be.length [] ++ r) := by
    unfold runM
    rw [hl1]
    cases endsM s.en rows <;> rfl
  rw [er]
  refine ore_bind (ore_bind rfl fun a b hab => ?_) fun a b hab => ?_
  · refine Eq.trans (posR_mid l (n + sumB s.en) a fun k q1 q2 => ⟨(h.beg ap hs hn (by omega) (by omega)).2 fun g' hg' q => ?_, (h.end' ap hs hn (by omega) (by omega)).2 fun g' hg' q => ?_⟩) (congrArg some (addM_RE _ hab))
    · have := grpB_in (by omega) hg'
      omega
    · have := grpE_in hg'
      omega
  · rw [show n + sumB s.en + l = n + s.d.len - sumB s.be by omega, posR_begs s.be (n + s.d.len) a (by omega)]
    · exact congrArg some (re_rep hab _)
    · intro g hg k q1 q2
      have := grpB_in (by omega) hg
      exact (h.beg ap hs hn (by omega) (by omega)).1 g hg q1 q2
theorem rW_len (l : List Nat) : (rW l).length ≤ l.length := by
  unfold rW
  rw [List.length_reverse]
  have := dw_len (fun c => WhL.contains c) l.reverse
  rw [List.length_reverse] at this
  exact this
theorem plw_len (t : List Nat) (p : Nat) : (plW t p).length ≤ plE t p - p := by
  unfold plW
  have h : ((t.drop p).take (plE t p - p)).length ≤ plE t p - p := by
    rw [List.length_take]
    omega
  split
  · rw [rstW_eq]
    exact Nat.le_trans (rW_len _) h
  · exact h
theorem st_txt {t : List Nat} {p pl c : Nat} (hc : t[p]? = some c) (hpl : pl ≤ p) : p + txtN [(stR t p pl c).1] ≤ (stR t p pl c).2.1 := by
  have g := st_le hc hpl
  unfold stR at g ⊢
  split
  · rename_i h
    rw [if_pos h] at g
    have g1 : p < (bsR t p).2 := g.1
    show p + txtN [(bsR t p).1] ≤ (bsR t p).2
    unfold bsR at g1 ⊢
    split
    · show p + (1 + 0) ≤ p + 2; omega
    · split
      · rename_i h1 h2
        rw [if_neg h1, if_pos h2] at g1
        show p + 0 ≤ _
        exact Nat.le_of_lt g1
      · show p + (1 + 0) ≤ p + 1; omega
  · rename_i h
    rw [if_neg h] at g
    split
    · rename_i h2
      rw [if_pos h2] at g
      have g1 : p < p + (rfR (t.drop p)).2 := g.1
      show p + txtN [(rfR (t.drop p)).1] ≤ p + (rfR (t.drop p)).2
      have : txtN [(rfR (t.drop p)).1] ≤ 1 := by
        unfold rfR
        split
        · exact Nat.le_refl _
        · exact Nat.le_refl _
      omega
    · rename_i h2
      rw [if_neg h2] at g
      split
      · rename_i h3
        rw [if_pos h3] at g
        have g1 : p < (lfR t pl p).2 := g.1
        show p + txtN [(lfR t pl p).1] ≤ (lfR t pl p).2
        have : txtN [(lfR t pl p).1] = 0 := by
          unfold lfR
          show txtN [if hardB t pl p = true then Inl.hard else Inl.soft] = 0
          split <;> rfl
        omega
      · rename_i h3
        rw [if_neg h3] at g
        have g1 : p < plE t p := g.1
        have := plw_len t p
        show p + ((plW t p).length + 0) ≤ plE t p
        omega
def stsP : Nat → List Pc → List Nat
  | _, [] => []
  | p, .run _ n :: r => p :: stsP (p + n) r
  | p, .txt x _ :: r => stsP (p + x.length) r
  | p, .brk :: r => stsP (p + 1) r
def lrP (t : List Nat) : Nat → List Pc → List LR
  | _, [] => []
  | p, .run c n :: r => ⟨runOf t p c, p, n, 0⟩ :: lrP t (p + n) r
  | p, .txt x _ :: r => lrP t (p + x.length) r
  | p, .brk :: r => lrP t (p + 1) r
def bldL (ms : List Mk) : Nat → List Pc → List (List Inl) → Option (List (List Inl))
  | _, [], rows => some rows
  | p, .run c n :: r, rows => (posR ms c p n rows).bind (bldL ms (p + n) r)
  | p, .txt x m :: r, rows => bldL ms (p + x.length) r (addM (.text m) rows)
  | p, .brk :: r, rows => bldL ms (p + 1) r (addM .soft rows)
def marksP (t : List Nat) (ps : List Pc) : List Mk := (spansTo (lrP t 0 ps) (lrP t 0 ps).length).2
def lawRows (t : List Nat) (ps : List Pc) : Option (List (List Inl)) := bldL (marksP t ps) 0 ps [[]]
/-- the runs are as long as they are written -/
def LenOk (t : List Nat) : Nat → List Pc → Prop
  | _, [] => True
  | p, .run c n :: r => (runOf t p c).len = n ∧ LenOk t (p + n) r
  | p, .txt x _ :: r => LenOk t (p + x.length) r
  | p, .brk :: r => LenOk t (p + 1) r
theorem pcs_len {t : List Nat} : ∀ (ps : List Pc) (p : Nat), PcsOk ps → p ≤ t.length → t.drop p = flatP ps → LenOk t p ps
  | [], p, _, _, _ => trivial
  | .run c n :: r, p, h, hp, ht => by
    obtain ⟨h1, h2, h3, h4⟩ := h
    have ht' : t.drop p = List.replicate n c ++ flatP r := ht
    have hd : t.drop (p + n) = flatP r := by
      have := drop_add ht'
      rw [List.length_replicate] at this
      exact this
    have hp2 : p + n ≤ t.length := by
      have := congrArg List.length ht'
      rw [List.length_drop, List.length_append, List.length_replicate] at this
      omega
    refine ⟨?_, pcs_len r _ h4 hp2 hd⟩
    show runEnd t p c - p = n
    rw [run_pos ht' hp h3]
    omega
  | .txt x m :: r, p, h, hp, ht => by
    obtain ⟨h1, h4⟩ := h
    have ht' : t.drop p = x ++ flatP r := ht
    have hp2 : p + x.length ≤ t.length := by
      have := congrArg List.length ht'
      rw [List.length_drop, List.length_append] at this
      omega
    exact pcs_len r _ h4 hp2 (drop_add ht')
  | .brk :: r, p, h, hp, ht => by
    obtain ⟨_, h4⟩ := h
    have ht' : t.drop p = 10 :: flatP r := ht
    have hp2 : p + 1 ≤ t.length := by
      have := congrArg List.length ht'
      rw [List.length_drop, List.length_cons] at this
      omega
    exact pcs_len r _ h4 hp2 (drop_one ht')
theorem runs_its {t : List Nat} : ∀ (ps : List Pc) (p : Nat), runsOf (itsP t p ps) = ((lrP t p ps).map (·.d)).map RunS.new
  | [], p => rfl
  | .run c n :: r, p => by
    show RunS.new (runOf t p c) :: runsOf (itsP t (p + (List.replicate n c).length) r) = RunS.new (runOf t p c) :: _
    rw [List.length_replicate, runs_its r]
    all_goals rfl
  | .txt x m :: r, p => runs_its r (p + x.length)
  | .brk :: r, p => runs_its r (p + 1)
theorem sts_len {t : List Nat} : ∀ (ps : List Pc) (p : Nat), (lrP t p ps).length = (stsP p ps).length
  | [], p => rfl
  | .run c n :: r, p => congrArg (· + 1) (sts_len r (p + n))
  | .txt x m :: r, p => sts_len r (p + x.length)
  | .brk :: r, p => sts_len r (p + 1)
theorem lr_new {t : List Nat} : ∀ (ps : List Pc) (p : Nat), LenOk t p ps → lrP t p ps = newL ((lrP t p ps).map (·.d)) (stsP p ps)
  | [], p, _ => rfl
  | .run c n :: r, p, h => by
    have ih := lr_new r (p + n) h.2
    show (⟨runOf t p c, p, n, 0⟩ : LR) :: lrP t (p + n) r = (⟨runOf t p c, p, (runOf t p c).len, 0⟩ : LR) :: newL ((lrP t (p + n) r).map (·.d)) (stsP (p + n) r)
    rw [← ih, h.1]
  | .txt x m :: r, p, h => lr_new r (p + x.length) h
  | .brk :: r, p, h => lr_new r (p + 1) h
theorem sts_ge : ∀ (ps : List Pc) (p : Nat), ∀ n ∈ stsP p ps, p ≤ n
  | [], p, n, h => by cases h
  | .run c m :: r, p, n, h => by
    rcases List.mem_cons.mp (show n ∈ p :: stsP (p + m) r from h) with rfl | h
    · exact Nat.le_refl _
    · have := sts_ge r _ n h
      omega
  | .txt x m :: r, p, n, h => by
    have := sts_ge r _ n h
    omega
  | .brk :: r, p, n, h => by
    have := sts_ge r _ n h
    omega
theorem sts_apart {t : List Nat} : ∀ (ps : List Pc) (p : Nat), LenOk t p ps → ∀ (i j : Nat) d n n', ((lrP t p ps).map (·.d))[i]? = some d → (stsP p ps)[i]? = some n → (stsP p ps)[j]? = some n' → i < j → n + d.len ≤ n'
  | [], p, _, i, j, d, n, n', h, _, _, _ => by cases h
  | .run c m :: r, p, hl, i, j, d, n, n', h1, h2, h3, hij => by
    cases j with
    | zero => omega
    | succ j =>
      replace h3 : (stsP (p + m) r)[j]? = some n' := h3
      cases i with
      | zero =>
        have e1 : runOf t p c = d := Option.some.inj h1
        have e2 : p = n := Option.some.inj h2
        subst e1 e2
        rw [hl.1]
        exact sts_ge r _ n' (List.mem_of_getElem? h3)
      | succ i => exact sts_apart r (p + m) hl.2 i j d n n' h1 h2 h3 (by omega)
  | .txt x m :: r, p, hl, i, j, d, n, n', h1, h2, h3, hij => sts_apart r (p + x.length) hl i j d n n' h1 h2 h3 hij
  | .brk :: r, p, hl, i, j, d, n, n', h1, h2, h3, hij => sts_apart r (p + 1) hl i j d n n' h1 h2 h3 hij
theorem apart_of {t : List Nat} {ps : List Pc} (hl : LenOk t 0 ps) {rs : List RunS} (hd : rs.map (·.d) = (lrP t 0 ps).map (·.d)) : Apart (stsP 0 ps) rs := fun i j s s' n n' h1 _ h3 h4 hij => by
  refine sts_apart ps 0 hl i j s.d n n' ?_ h3 h4 hij
  rw [← hd, List.getElem?_map, h1]
  rfl
theorem bld_same {t : List Nat} {sts : List Nat} {k : Nat} {x : PS} {y : LS} (h : PIn sts k x y) (ap : Apart sts x.rs) : ∀ (ps : List Pc) (p i : Nat) (rows rows' : List (List Inl)), LenOk t p ps → (x.rs.drop i).map (·.d) = (lrP t p ps).map (·.d) → sts.drop i = stsP p ps → RE rows rows' →
    ORE (bldL y.2 p ps rows) (bldM (fillR (itsP t p ps) (x.rs.drop i)) rows')
  | [], p, i, rows, rows', _, _, _, re => congrArg some re
  | .run c n :: r, p, i, rows, rows', hl, hd, hs, re => by
    have hs' : sts.drop i = p :: stsP (p + n) r := hs
    have hd' : (x.rs.drop i).map (·.d) = runOf t p c :: (lrP t (p + n) r).map (·.d) := hd
    cases hdr : x.rs.drop i with
    | nil => rw [hdr] at hd'; cases hd'
    | cons s rest =>
      rw [hdr] at hd'
      obtain ⟨e1, e2⟩ := List.cons.inj hd'
      have hsi : x.rs[i]? = some s := by
        have := congrArg (fun l => l[0]?) hdr
        simpa using this
      have hni : sts[i]? = some p := by
        have := congrArg (fun l => l[0]?) hs'
        simpa using this
      have hrest : x.rs.drop (i + 1) = rest := by rw [← List.drop_drop, hdr]; rfl
      have hs2 : sts.drop (i + 1) = stsP (p + n) r := by rw [← List.drop_drop, hs']; rfl
      show ORE ((posR y.2 c p n rows).bind (bldL y.2 (p + n) r)) (bldM (.run s :: fillR (itsP t (p + (List.replicate n c).length) r) rest) rows')
      rw [List.length_replicate, bld_run]
      have hp := pos_run h ap hsi hni re
      have es : s.d.sg = c := by rw [show s.d = runOf t p c from e1]; rfl
      have el : s.d.len = n := by rw [show s.d = runOf t p c from e1]; exact hl.1
      rw [es, el] at hp
      refine ore_bind hp fun a b hab => ?_
      have := bld_same h ap r (p + n) (i + 1) a b hl.2 (by rw [hrest]; exact e2) hs2 hab
      rw [hrest] at this
      exact this
  | .txt w m :: r, p, i, rows, rows', hl, hd, hs, re => bld_same h ap r (p + w.length) i _ _ hl hd hs (addM_RE _ re)
  | .brk :: r, p, i, rows, rows', hl, hd, hs, re => bld_same h ap r (p + 1) i _ _ hl hd hs (addM_RE _ re)
theorem addM_len (i : Inl) (rows : List (List Inl)) : (addM i rows).length = rows.length := by cases rows <;> rfl
theorem endsM_some : ∀ (bs : List Bool) (rows : List (List Inl)), bs.length + 1 ≤ rows.length → ∃ r, endsM bs rows = some r ∧ r.length + bs.length = rows.length
  | [], rows, _ => ⟨rows, rfl, rfl⟩
  | b :: bs, rows, h => by
    rw [List.length_cons] at h
    match rows with
    | [] => simp at h
    | [_] => simp at h
    | x :: y :: r =>
      obtain ⟨r', h1, h2⟩ := endsM_some bs ((y ++ [mkI b (jnR [] x)]) :: r) (by simp at h ⊢; omega)
      exact ⟨r', h1, by simp at h2 ⊢; omega⟩
theorem runM_some {s : RunS} {rows : List (List Inl)} (h : s.en.length + 1 ≤ rows.length) : ∃ r, runM s rows = some r ∧ r.length + s.en.length = rows.length + s.be.length := by
  obtain ⟨r, h1, h2⟩ := endsM_some s.en rows h
  refine ⟨_, by unfold runM; rw [h1], ?_⟩
  rw [List.length_append, List.length_replicate, addM_len]
  omega
theorem cntF_succ {f : RunS → Nat} {rs : List RunS} {i : Nat} {s : RunS} (h : rs[i]? = some s) : cntF f rs (i + 1) = cntF f rs i + f s := by
  unfold cntF
  rw [List.take_succ, h, List.map_append, List.sum_append]
  show _ + (f s + 0) = _
  rw [Nat.add_zero]
theorem bld_some {rs : List RunS} (bal : ∀ i, cntF enN rs (i + 1) ≤ cntF beN rs i) : ∀ (its : List It) (i : Nat) (rows : List (List Inl)), (runsOf its).length = (rs.drop i).length → rows.length + cntF enN rs i = 1 + cntF beN rs i → ∃ r, bldM (fillR its (rs.drop i)) rows = some r
  | [], i, rows, _, _ => ⟨rows, rfl⟩
  | .inl x :: its, i, rows, hl, hc => bld_some bal its i (addM x rows) hl (by rw [addM_len]; exact hc)
  | .run d :: its, i, rows, hl, hc => by
    cases hdr : rs.drop i with
    | nil => rw [hdr] at hl; cases hl
    | cons s rest =>
      have hsi : rs[i]? = some s := by
        have := congrArg (fun l => l[0]?) hdr
        simpa using this
      have hrest : rs.drop (i + 1) = rest := by rw [← List.drop_drop, hdr]; rfl
      have hb := bal i
      rw [cntF_succ hsi] at hb
      have hb' : cntF enN rs i + s.en.length ≤ cntF beN rs i := hb
      obtain ⟨r, h1, h2⟩ := runM_some (s := s) (rows := rows) (by omega)
      show ∃ r, bldM (.run s :: fillR its rest) rows = some r
      rw [bld_run, h1, ← hrest]
      refine bld_some bal its (i + 1) r ?_ ?_
      · rw [hdr] at hl
        rw [hrest]
        exact Nat.succ.inj hl
      · rw [cntF_succ hsi, cntF_succ hsi]
        show r.length + (cntF enN rs i + s.en.length) = 1 + (cntF beN rs i + s.be.length)
        omega
def txJ : List It → Nat
  | [] => 0
  | .inl i :: r => txtN [i] + txJ r
  | .run d :: r => d.len + txJ r
theorem rdI_txJ {t : List Nat} {p pl : Nat} {its : List It} (h : RdI t p pl its) : pl ≤ p → p + txJ its ≤ t.length := by
  induction h with
  | done => intro _; exact Nat.le_refl _
  | @step p pl c i p' pl' its h1 h2 h3 h4 ih =>
    intro hpl
    obtain ⟨g1, g2, g3⟩ := stI_le h1 hpl
    rw [h3] at g1 g2 g3
    have := ih g3
    have g1' : p < p' := g1
    unfold stI at h3
    split at h3
    · rename_i h96
      subst h96
      obtain ⟨e1, e2⟩ := Prod.mk.inj h3
      obtain ⟨e2, e3⟩ := Prod.mk.inj e2
      subst e1
      show p + ((1 + 0) + txJ its) ≤ _
      omega
    · split at h3
      · obtain ⟨e1, e2⟩ := Prod.mk.inj h3
        obtain ⟨e2, e3⟩ := Prod.mk.inj e2
        subst e1 e2
        show p + (runEnd t p c - p + txJ its) ≤ _
        omega
      · obtain ⟨e1, e2⟩ := Prod.mk.inj h3
        obtain ⟨e2, e3⟩ := Prod.mk.inj e2
        subst e1
        have := st_txt h1 hpl
        show p + (txtN [(stR t p pl c).1] + txJ its) ≤ _
        omega
theorem en_le (l : List Bool) : l.length ≤ sumB l := by
  induction l with
  | nil => exact Nat.le_refl _
  | cons b l ih =>
    rw [sumB_cons, List.length_cons]
    have := manyN_pos b
    omega
theorem fill_sum : ∀ (its : List It) (rs : List RunS), (∀ s ∈ rs, ∃ n : Nat, s.left = (n : Int) ∧ n + sumB s.en + sumB s.be = s.d.len) → rs.map (·.d) = (runsOf its).map (·.d) → ((fillR its rs).map itN).sum ≤ its.length + txJ its
  | [], rs, _, _ => Nat.le_refl _
  | .inl x :: its, rs, h, hd => by
    have ih := fill_sum its rs h hd
    show 1 + txtN [x] + ((fillR its rs).map itN).sum ≤ its.length + 1 + (txtN [x] + txJ its)
    omega
  | .run d :: its, [], h, hd => by cases hd
  | .run d :: its, s :: rs, h, hd => by
    obtain ⟨e1, e2⟩ := List.cons.inj hd
    have ih := fill_sum its rs (fun s' hs' => h s' (List.mem_cons_of_mem _ hs')) e2
    obtain ⟨n, h1, h2⟩ := h s (List.mem_cons_self ..)
    show 1 + s.left.toNat + s.en.length + s.be.length + ((fillR its rs).map itN).sum ≤ its.length + 1 + (d.len + txJ its)
    have e3 : s.d = d := e1
    rw [e3] at h2
    rw [h1, Int.toNat_natCast]
    have := en_le s.en
    have := en_le s.be
    omega
theorem tot_new : ∀ its : List It, tot (runsOf its) 0 ≤ txJ its
  | [] => Nat.le_refl _
  | .inl x :: its => Nat.le_trans (tot_new its) (Nat.le_add_left ..)
  | .run d :: its => by
    have ih := tot_new its
    show d.len + tot (runsOf its) 0 ≤ d.len + txJ its
    omega
theorem runs_new : ∀ its : List It, ∀ s ∈ runsOf its, s.en = [] ∧ s.be = []
  | [], s, h => by cases h
  | .inl x :: its, s, h => runs_new its s h
  | .run d :: its, s, h => by
    rcases List.mem_cons.mp (show s ∈ RunS.new d :: runsOf its from h) with rfl | h
    · exact ⟨rfl, rfl⟩
    · exact runs_new its s h
theorem len_txJ : ∀ its : List It, ∀ s ∈ runsOf its, s.d.len ≤ txJ its
  | [], s, h => by cases h
  | .inl x :: its, s, h => Nat.le_trans (len_txJ its s h) (Nat.le_add_left ..)
  | .run d :: its, s, h => by
    show s.d.len ≤ d.len + txJ its
    rcases List.mem_cons.mp (show s ∈ RunS.new d :: runsOf its from h) with rfl | h
    · exact Nat.le_add_right ..
    · have := len_txJ its s h
      omega
/-- what inlines tells is what the law builds -/
theorem law_outJ {t : List Nat} {ps : List Pc} (nw : Nwl t) (hp : PcsOk ps) (ht : t = flatP ps) (hl : t.length ≤ 1000) : ∃ its rows, RdI t 0 0 its ∧ jnI [] its = jnI [] (itsP t 0 ps) ∧ lawRows t ps = some rows ∧ BOk its (jnR [] (rows.getLast?.getD [])) := by
  obtain ⟨its, h1, h2⟩ := pcs_read nw ps 0 [] hp (Nat.zero_le _) (by rw [List.drop_zero]; exact ht) 0 (Nat.le_refl _)
  have lk := pcs_len (t := t) ps 0 hp (Nat.zero_le _) (by rw [List.drop_zero]; exact ht)
  have er : runsOf its = ((lrP t 0 ps).map (·.d)).map RunS.new := by
    rw [← runs_its, ← runs_jn its [], h2, runs_jn]
  have hnew := new_rel (ds := (lrP t 0 ps).map (·.d)) (sts := stsP 0 ps) (by rw [List.length_map]; exact sts_len ps 0)
  rw [← lr_new ps 0 lk, ← er] at hnew
  have hn : (runsOf its).length = (lrP t 0 ps).length := by rw [er, List.length_map, List.length_map]
  have hpair := pair_rel hnew (runsOf its).length (Nat.le_refl _)
  have hds : (pairR (runsOf its)).map (·.d) = (runsOf its).map (·.d) := pairTo_d _ _
  have hds2 : (pairR (runsOf its)).map (·.d) = (lrP t 0 ps).map (·.d) := by
    rw [hds, er, List.map_map]
    exact List.map_id _
  have ap := apart_of lk hds2
  have same := bld_same hpair ap ps 0 0 [[]] [[]] lk (by rw [List.drop_zero]; exact hds2) (by rw [List.drop_zero]) rfl
  rw [List.drop_zero] at same
  have bs := bld_some hpair.bal (itsP t 0 ps) 0 [[]] (by rw [List.drop_zero, pairTo_len, runs_its, er]) rfl
  rw [List.drop_zero] at bs
  obtain ⟨r, hr⟩ := bs
  have hms : marksP t ps = (spansTo (lrP t 0 ps) (runsOf its).length).2 := by unfold marksP; rw [hn]
  have same' : ORE (lawRows t ps) (bldM (fillR (itsP t 0 ps) (pairR (runsOf its))) [[]]) := by
    unfold lawRows
    rw [hms]
    exact same
  obtain ⟨rows, hrows⟩ : ∃ rows, lawRows t ps = some rows := by
    cases hq : lawRows t ps with
    | some rows => exact ⟨rows, rfl⟩
    | none =>
      unfold ORE at same'
      rw [hq] at same'
      have hr' : bldM (fillR (itsP t 0 ps) (pairR (runsOf its))) [[]] = some r := hr
      rw [hr'] at same'
      cases same'
  have hb : builtM its = some (jnR [] (rows.getLast?.getD [])) := by
    rw [built_jn h2, built_last, show runsOf (itsP t 0 ps) = runsOf its by rw [runs_its, er], ← last_ore same', hrows]
    rfl
  have hlen := rdI_len h1 (Nat.le_refl _)
  have htx := rdI_txJ h1 (Nat.le_refl _)
  have sums : ∀ s ∈ pairR (runsOf its), ∃ n : Nat, s.left = (n : Int) ∧ n + sumB s.en + sumB s.be = s.d.len := fun s hs => by
    obtain ⟨i, hi⟩ := List.getElem?_of_mem hs
    exact hpair.sums hi
  refine ⟨its, rows, h1, h2, hrows, ?_, hb, fun s hs => ?_, ?_⟩
  · refine ⟨0, fun r hr => ?_, ?_⟩
    · obtain ⟨e1, e2⟩ := runs_new its r hr
      rw [e1, e2]
      exact ⟨Nat.le_refl _, Nat.le_refl _⟩
    · have := tot_new its
      omega
  · obtain ⟨n, e1, e2⟩ := sums s hs
    have : s.d ∈ (runsOf its).map (·.d) := by rw [← hds]; exact List.mem_map.mpr ⟨s, hs, rfl⟩
    obtain ⟨s', q1, q2⟩ := List.mem_map.mp this
    have := len_txJ its s' q1
    have q3 : s'.d = s.d := q2
    rw [q3] at this
    omega
  · have := fill_sum its _ sums hds
    omega
theorem law_out {t : List Nat} {ps : List Pc} (nw : Nwl t) (hp : PcsOk ps) (ht : t = flatP ps) (hl : t.length ≤ 1000) : ∃ its rows, RdI t 0 0 its ∧ lawRows t ps = some rows ∧ BOk its (jnR [] (rows.getLast?.getD [])) :=
  let ⟨its, rows, a, _, b, c⟩ := law_outJ nw hp ht hl
  ⟨its, rows, a, b, c⟩
section
variable {X : Cx}
def rEqM (K : PySem.W.Frag) (n : Nat) : R2 := fun x y H Q => ∃ d e, Dp K H x d ∧ Dp K H y e ∧ d.canLay0 = true ∧ e.canLay0 = true ∧ min d.depth e.depth ≤ n ∧ Q (.bl (PyData.eqv d e)) H
def rNeM (K : PySem.W.Frag) (n : Nat) : R2 := fun x y H Q => ∃ d e, Dp K H x d ∧ Dp K H y e ∧ d.canLay0 = true ∧ e.canLay0 = true ∧ min d.depth e.depth ≤ n ∧ Q (.bl (!PyData.eqv d e)) H
theorem op_eqM {n : Nat} (hu : X.A.units + n < cLine) : OpR X (compareOp .Eq) (rEqM X.K n) := by
  intro pins s σ H x y v u Q I rx ry h
  obtain ⟨d, e, hd, he, sd, se, hm, q⟩ := h
  obtain ⟨as, r1⟩ := Dp.reads I d x v hd rx
  obtain ⟨bs, r2⟩ := Dp.reads I e y u he ry
  exact SeqAt.compareEq_reads r1 r2 sd se (by omega) ⟨.bl _, H, I, rfl, q⟩
theorem op_neM {n : Nat} (hu : X.A.units + n < cLine) : OpR X (compareOp .NotEq) (rNeM X.K n) := by
  intro pins s σ H x y v u Q I rx ry h
  obtain ⟨d, e, hd, he, sd, se, hm, q⟩ := h
  obtain ⟨as, r1⟩ := Dp.reads I d x v hd rx
  obtain ⟨bs, r2⟩ := Dp.reads I e y u he ry
  exact SeqAt.compareNe_reads r1 r2 sd se (by omega) ⟨.bl _, H, I, rfl, q⟩
end
theorem room_n {A : Around} {k n : Nat} (hr : Room k A) (h : n ≤ 16 * k + 200) : A.units + n < cLine := by
  have := hr.un
  omega
def Kd.isW (k : Kd) : Bool := !k.nW
def Kd.isP (k : Kd) : Bool := !k.nP
/-- a test that tells so, whatever it lays -/
def AnsT (t : TE) (σ : L2.St) (H : Hp) (c : Bool) : Prop := ∀ H1, Same H H1 → ∀ Q : VK, (∀ H', Same H1 H' → Q (.bl c) H') → t σ H1 Q
theorem AnsT.up {t : TE} {σ : L2.St} {H H1 : Hp} {c : Bool} (h : AnsT t σ H c) (s : Same H H1) : AnsT t σ H1 c := fun H2 s2 => h H2 (s.trans s2)
theorem andT {ta tb : TE} {σ : L2.St} {H : Hp} {a b : Bool} (ha : AnsT ta σ H a) (hb : AnsT tb σ H b) : AnsT (tAndV ta tb) σ H (a && b) := fun H1 s1 Q q => ha H1 s1 _ fun H2 s2 => ⟨a, rfl, by
  cases a with
  | false => exact q H2 s2
  | true => exact hb H2 (s1.trans s2) _ fun H3 s3 => q H3 (s2.trans s3)⟩
theorem orT {ta tb : TE} {σ : L2.St} {H : Hp} {a b : Bool} (ha : AnsT ta σ H a) (hb : AnsT tb σ H b) : AnsT (tOrV ta tb) σ H (a || b) := fun H1 s1 Q q => ha H1 s1 _ fun H2 s2 => ⟨a, rfl, by
  cases a with
  | true => exact q H2 s2
  | false => exact hb H2 (s1.trans s2) _ fun H3 s3 => q H3 (s2.trans s3)⟩
theorem notT {ta : TE} {σ : L2.St} {H : Hp} {a : Bool} (ha : AnsT ta σ H a) : AnsT (tNotV ta) σ H (!a) := fun H1 s1 Q q => ha H1 s1 _ fun H2 s2 => ⟨a, rfl, q H2 s2⟩
theorem varT {σ : L2.St} {H : Hp} {i : Nat} {b : Bool} (hi : σ[i]? = some (some (.bl b))) : AnsT (tVar i) σ H b := fun H1 s1 Q q => ⟨_, hi, q H1 (Same.refl _)⟩
def sp__law_is_white (K : PySem.W.Frag) : Sp := fun vs H Q _ => ∃ l : List Nat, vs = [.str (S l)] ∧ l.length ≤ 1 ∧ (∀ c ∈ l, c < 128) ∧ ∀ H', Same H H' → Q (.bl (kindL l).isW) H'
def sp__law_is_mark (K : PySem.W.Frag) : Sp := fun vs H Q _ => ∃ l : List Nat, vs = [.str (S l)] ∧ l.length ≤ 1 ∧ (∀ c ∈ l, c < 128) ∧ Q (.bl (kindL l).isP) H
theorem white_in : ∀ c < 128, inV (V.str (S [c])) [V.str "", V.str " ", V.str "\t", V.str "\n"] = (kindL [c]).isW := by decide +kernel
theorem mark_in : ∀ c < 128, decide (c ∈ ("!\"#$&'()*+,-./:;<=>?\x40[\\]^_`{|}~" : Str).cps.toList) = (kindL [c]).isP := by decide +kernel
theorem ok__law_is_white {P : Program} {w : World} {K : PySem.W.Frag} {mg : Str → Option Value} {base : Heap} (T : Txt w K mg) : FnOk P w K mg base CX0 1 T.a__law_is_white T.d__law_is_white ["_law_sign"] (sp__law_is_white K) := by
  refine T.f__law_is_white.ok sc__law_is_white (fun vs H Q E h => ?_) (fun cdv A outer s H vs Q E hr h => ?_)
  · obtain ⟨l, rfl, _⟩ := h
    rfl
  · obtain ⟨l, rfl, hl, ha, q⟩ := h
    refine ⟨_, (pss_one (ps_ret (pe_cmpR op_in_seq (pv 0) (pe_tup (pa_cons pe_str (pa_cons pe_str (pa_cons pe_str (pa_cons pe_str pa_nil))))) (by rfl)))), ?_⟩
    refine ⟨_, rfl, (by show 4 ≤ sizeLine; decide), fun p np => ⟨p, _, rfl, .inr (SqT.of upd_same), rfl, rfl, ?_⟩⟩
    have e : inV (V.str (S l)) [V.str "", V.str " ", V.str "\t", V.str "\n"] = (kindL l).isW := by
      cases l with
      | nil => decide +kernel
      | cons c r =>
        cases r with
        | nil => exact white_in c (ha c (List.mem_cons_self ..))
        | cons d r => simp at hl
    show Q (.bl (inV (V.str (S l)) [V.str "", V.str " ", V.str "\t", V.str "\n"])) _
    rw [e]
    exact q _ (same_new np)
theorem ok__law_is_mark {P : Program} {w : World} {K : PySem.W.Frag} {mg : Str → Option Value} {base : Heap} (T : Txt w K mg) : FnOk P w K mg base CX0 1 T.a__law_is_mark T.d__law_is_mark ["_law_sign"] (sp__law_is_mark K) := by
  refine T.f__law_is_mark.ok sc__law_is_mark (fun vs H Q E h => ?_) (fun cdv A outer s H vs Q E hr h => ?_)
  · obtain ⟨l, rfl, _⟩ := h
    rfl
  · obtain ⟨l, rfl, hl, ha, q⟩ := h
    refine ⟨_, (pss_one (ps_ret (pe_and (pe_cmpR op_ne (pv 0) pe_str (nomark _)) (pe_one (pe_cmpR op_in_sign (pv 0) pe_str (by rfl)))))), ?_⟩
    refine ⟨_, rfl, rfl, _, rfl, ?_⟩
    cases l with
    | nil =>
      rw [show (V.str (S []) : V) = V.str (Str.ofString "") by decide +kernel, decide_eq_true rfl]
      exact q
    | cons c r =>
      cases r with
      | cons d r => simp at hl
      | nil =>
        rw [show (Str.ofString "") = S [] by decide +kernel, S_dec, decide_eq_false (by simp : ¬ [c] = [])]
        refine ⟨_, rfl, c, _, rfl, rfl, ?_⟩
        rw [mark_in c (ha c (List.mem_cons_self ..))]
        exact q
theorem callW {K : PySem.W.Frag} {σ : L2.St} {H : Hp} {i : Nat} {l : List Nat} (hi : σ[i]? = some (some (.str (S l)))) (hl : l.length ≤ 1) (ha : ∀ c ∈ l, c < 128) : AnsT (tCall (sp__law_is_white K) [] E0 (tCons (tVar i) tNil)) σ H (kindL l).isW := fun H1 s1 Q q => ⟨_, hi, l, rfl, hl, ha, q⟩
theorem callM {K : PySem.W.Frag} {σ : L2.St} {H : Hp} {i : Nat} {l : List Nat} (hi : σ[i]? = some (some (.str (S l)))) (hl : l.length ≤ 1) (ha : ∀ c ∈ l, c < 128) : AnsT (tCall (sp__law_is_mark K) [] E0 (tCons (tVar i) tNil)) σ H (kindL l).isP := fun H1 s1 Q q => ⟨_, hi, l, rfl, hl, ha, q _ (Same.refl _)⟩
def sp__law_sides (K : PySem.W.Frag) : Sp := fun vs H Q _ => ∃ (t : List Nat) (p e c : Nat), vs = [.str (S t), .int (p : Int), .int (e : Int)] ∧ Asc t ∧ t.length ≤ 100000 ∧ t[p]? = some c ∧ p < e ∧ e ≤ t.length ∧ (c = 42 ∨ c = 95) ∧ ∀ H' a, Same H H' → H' a = some (.tup [.bl (opB c (runA t p) (runZ t e)), .bl (clB c (runA t p) (runZ t e))]) → Q (.ref a) H'
theorem ok__law_sides {P : Program} {w : World} {K : PySem.W.Frag} {mg : Str → Option Value} {base : Heap} (T : Txt w K mg) : FnOk P w K mg base CX0 2 T.a__law_sides T.d__law_sides ["_law_text", "_law_start", "_law_end"] (sp__law_sides K) := by
  refine T.f__law_sides.ok sc__law_sides (fun vs H Q E h => ?_) (fun cdv A outer s H vs Q E hr h => ?_)
  · obtain ⟨t, p, e, c, rfl, _⟩ := h
    rfl
  · obtain ⟨t, p, e, c, rfl, ha, hl, hc, hpe, hel, hcc, q⟩ := h
    refine ⟨_, (pss_cons (ps_par (i := 3) (j := 4) (by rfl) sc__law_sides.nd rfl rfl (by decide) rfl rfl (pa_cons (pe_slice sl_str (pv 0) (po_some (pe_callB (call_max2 rfl) (by rfl) T.z_max (by decide +kernel) (pa_cons pe_int (pa_cons (pe_op op_sub (pv 1) pe_int) pa_nil)))) (po_some (pv 1))) (pa_cons (pe_slice sl_str (pv 0) (po_some (pv 2)) (po_some (pe_op op_add (pv 2) pe_int))) pa_nil)) (by rfl))
        (pss_cons (ps_set (i := 5) sc__law_sides.nd rfl (.inl rfl) (pe_and (pe_not (pe_call (ok__law_is_white T) (hr.mono (by decide)) (by rfl) T.g__law_is_white T.f__law_is_white.kp T.b__law_is_white .nil pass0 (pa_cons (pv 4) pa_nil))) (pe_one (pe_not (pe_call (ok__law_is_mark T) (hr.mono (by decide)) (by rfl) T.g__law_is_mark T.f__law_is_mark.kp T.b__law_is_mark .nil pass0 (pa_cons (pv 4) pa_nil))))))
        (pss_cons (ps_if (pt_val (pe_call (ok__law_is_mark T) (hr.mono (by decide)) (by rfl) T.g__law_is_mark T.f__law_is_mark.kp T.b__law_is_mark .nil pass0 (pa_cons (pv 4) pa_nil))) (pss_one (ps_set (i := 5) sc__law_sides.nd rfl (.inl rfl) (pe_or (pe_call (ok__law_is_white T) (hr.mono (by decide)) (by rfl) T.g__law_is_white T.f__law_is_white.kp T.b__law_is_white .nil pass0 (pa_cons (pv 3) pa_nil)) (pe_one (pe_call (ok__law_is_mark T) (hr.mono (by decide)) (by rfl) T.g__law_is_mark T.f__law_is_mark.kp T.b__law_is_mark .nil pass0 (pa_cons (pv 3) pa_nil)))))) pss_nil)
        (pss_cons (ps_set (i := 6) sc__law_sides.nd rfl (.inl rfl) (pe_and (pe_not (pe_call (ok__law_is_white T) (hr.mono (by decide)) (by rfl) T.g__law_is_white T.f__law_is_white.kp T.b__law_is_white .nil pass0 (pa_cons (pv 3) pa_nil))) (pe_one (pe_not (pe_call (ok__law_is_mark T) (hr.mono (by decide)) (by rfl) T.g__law_is_mark T.f__law_is_mark.kp T.b__law_is_mark .nil pass0 (pa_cons (pv 3) pa_nil))))))
        (pss_cons (ps_if (pt_val (pe_call (ok__law_is_mark T) (hr.mono (by decide)) (by rfl) T.g__law_is_mark T.f__law_is_mark.kp T.b__law_is_mark .nil pass0 (pa_cons (pv 3) pa_nil))) (pss_one (ps_set (i := 6) sc__law_sides.nd rfl (.inl rfl) (pe_or (pe_call (ok__law_is_white T) (hr.mono (by decide)) (by rfl) T.g__law_is_white T.f__law_is_white.kp T.b__law_is_white .nil pass0 (pa_cons (pv 4) pa_nil)) (pe_one (pe_call (ok__law_is_mark T) (hr.mono (by decide)) (by rfl) T.g__law_is_mark T.f__law_is_mark.kp T.b__law_is_mark .nil pass0 (pa_cons (pv 4) pa_nil)))))) pss_nil)
        (pss_cons (ps_if (pt_cmpR op_eq (pe_ix ix_str (pv 0) (pv 1) (fun _ _ => rfl)) pe_str (nomark _)) (pss_one (ps_ret (pe_tup (pa_cons (pv 5) (pa_cons (pv 6) pa_nil))))) pss_nil)
        (pss_one (ps_ret (pe_tup (pa_cons (pe_and (pv 5) (pe_one (pe_or (pe_not (pv 6)) (pe_one (pe_call (ok__law_is_mark T) (hr.mono (by decide)) (by rfl) T.g__law_is_mark T.f__law_is_mark.kp T.b__law_is_mark .nil pass0 (pa_cons (pv 3) pa_nil)))))) (pa_cons (pe_and (pv 6) (pe_one (pe_or (pe_not (pv 5)) (pe_one (pe_call (ok__law_is_mark T) (hr.mono (by decide)) (by rfl) T.g__law_is_mark T.f__law_is_mark.kp T.b__law_is_mark .nil pass0 (pa_cons (pv 4) pa_nil)))))) pa_nil))))))))))), ?_⟩
    have hln : (S t).length ≤ sizeLine := by rw [S_len]; exact Nat.le_trans hl (by decide)
    have emax : (if (p : Int) - 1 > 0 then (p : Int) - 1 else 0) = ((p - 1 : Nat) : Int) := by split <;> omega
    refine ⟨_, rfl, _, rfl, _, _, rfl, rfl, _, _, rfl, _, rfl, _, rfl, _, rfl, _, rfl, hln, ?_⟩
    have cA := S_cut2 t (p - 1) p (by omega)
    have cZ := S_cut2 t e (e + 1) (by omega)
    rw [Nat.add_sub_cancel_left] at cZ
    have cZ' : cutS (S t) (some (e : Int)) (some ((e : Int) + 1)) = S ((t.drop e).take 1) := cZ
    rw [emax, cA]
    refine ⟨_, rfl, _, rfl, _, rfl, _, rfl, _, _, rfl, rfl, _, rfl, _, rfl, hln, ?_⟩
    rw [cZ']
    refine ⟨_, _, rfl, ?_⟩
    have lA : ((t.drop (p - 1)).take (p - (p - 1))).length ≤ 1 := by rw [List.length_take]; omega
    have lZ : ((t.drop e).take 1).length ≤ 1 := by rw [List.length_take]; omega
    have aA : ∀ c ∈ (t.drop (p - 1)).take (p - (p - 1)), c < 128 := fun c hc => ha c (List.mem_of_mem_drop (List.mem_of_mem_take hc))
    have aZ : ∀ c ∈ (t.drop e).take 1, c < 128 := fun c hc => ha c (List.mem_of_mem_drop (List.mem_of_mem_take hc))
    have kA : kindL ((t.drop (p - 1)).take (p - (p - 1))) = runA t p := by
      unfold runA
      congr 2
      split <;> omega
    have kZ : kindL ((t.drop e).take 1) = runZ t e := rfl
    have W3 := fun σ H (h : σ[3]? = some (some (V.str (S ((t.drop (p - 1)).take (p - (p - 1))))))) => callW (K := K) (H := H) h lA aA
    have M3 := fun σ H (h : σ[3]? = some (some (V.str (S ((t.drop (p - 1)).take (p - (p - 1))))))) => callM (K := K) (H := H) h lA aA
    have W4 := fun σ H (h : σ[4]? = some (some (V.str (S ((t.drop e).take 1))))) => callW (K := K) (H := H) h lZ aZ
    have M4 := fun σ H (h : σ[4]? = some (some (V.str (S ((t.drop e).take 1))))) => callM (K := K) (H := H) h lZ aZ
    rw [kA] at W3 M3
    rw [kZ] at W4 M4
    generalize S ((t.drop (p - 1)).take (p - (p - 1))) = tA at W3 M3 ⊢
    generalize S ((t.drop e).take 1) = tZ at W4 M4 ⊢
    generalize runA t p = A at W3 M3 q
    generalize runZ t e = Z at W4 M4 q
    have hst : ∀ (h : c = 42 ∨ c = 95), decide (V.str (S [c]) = V.str (Str.ofString "*")) = decide (c = 42) := fun _ => by
      rw [show (Str.ofString "*") = S [42] by decide +kernel, S_dec]
      exact decide_eq_decide.mpr ⟨fun y => (List.cons.inj y).1, fun y => by rw [y]⟩
    generalize hU : tSeq (tIfS (tTest (tOp rEq (tOp rIxS (tVar 0) (tVar 1)) (tC (V.str (Str.ofString "*"))))) _ tNext) _ = U
    have fin : ∀ (σ : L2.St) (H' : Hp), Same H H' → σ[0]? = some (some (.str (S t))) → σ[1]? = some (some (.int (p : Int))) → σ[3]? = some (some (.str tA)) → σ[4]? = some (some (.str tZ)) → σ[5]? = some (some (.bl (lfB0 A Z))) → σ[6]? = some (some (.bl (rtB0 A Z))) →
        U { nx := fun x H' => Q V.non H', rt := Q } σ H' := fun σ H' s h0 h1 h3 h4 h5 h6 => by
      rw [← hU]
      refine ⟨_, h0, _, h1, S t, p, c, rfl, rfl, hln, atI_nat (j := p) hc, rfl, _, rfl, ?_⟩
      show (if decide (V.str (S [c]) = V.str (Str.ofString "*")) = true then _ else _)
      rw [hst hcc]
      by_cases z : c = 42
      · rw [decide_eq_true z, if_pos rfl]
        refine ⟨_, h5, _, h6, (by show 2 ≤ sizeLine; decide), fun a na => q _ a (s.trans (same_new na)) ?_⟩
        rw [upd_same]
        unfold opB clB
        rw [if_neg (by omega), if_neg (by omega)]
      · rw [decide_eq_false z, if_neg Bool.false_ne_true]
        have z95 : c = 95 := hcc.resolve_left z
        have e8 : opB c A Z = (lfB0 A Z && (!rtB0 A Z || A.isP)) := by
          unfold opB
          rw [if_pos z95]
          rfl
        have e9 : clB c A Z = (rtB0 A Z && (!lfB0 A Z || Z.isP)) := by
          unfold clB
          rw [if_pos z95]
          rfl
        refine (andT (varT h5) (orT (notT (varT h6)) (M3 _ H h3))) _ s _ fun H1 s1 => ?_
        refine (andT (varT h6) (orT (notT (varT h5)) (M4 _ H h4))) _ (s.trans s1) _ fun H2 s2 => ?_
        refine ⟨(by show 2 ≤ sizeLine; decide), fun a na => q _ a (((s.trans s1).trans s2).trans (same_new na)) ?_⟩
        rw [upd_same, e8, e9]
    cases A <;> cases Z
    all_goals
      refine (andT (notT (W4 _ H rfl)) (notT (M4 _ H rfl))) _ (Same.refl _) _ fun H1 s1 => ?_
      refine (M4 _ H rfl) _ s1 _ fun H2 s2 => ⟨_, rfl, ?_⟩
      first
        | (refine iteT ?_
           refine (orT (W3 _ H rfl) (M3 _ H rfl)) _ (s1.trans s2) _ fun H3 s3 => ?_
           have s4 := (s1.trans s2).trans s3
           refine (andT (notT (W3 _ H rfl)) (notT (M3 _ H rfl))) _ s4 _ fun H4 s5 => ?_
           have s6 := s4.trans s5
           refine (M3 _ H rfl) _ s6 _ fun H5 s7 => ⟨_, rfl, ?_⟩
           first
             | (refine iteT ?_
                refine (orT (W4 _ H rfl) (M4 _ H rfl)) _ (s6.trans s7) _ fun H6 s8 => ?_
                exact fin _ _ ((s6.trans s7).trans s8) rfl rfl rfl rfl rfl rfl)
             | (refine iteF ?_
                exact fin _ _ (s6.trans s7) rfl rfl rfl rfl rfl rfl))
        | (refine iteF ?_
           have s4 := s1.trans s2
           refine (andT (notT (W3 _ H rfl)) (notT (M3 _ H rfl))) _ s4 _ fun H4 s5 => ?_
           have s6 := s4.trans s5
           refine (M3 _ H rfl) _ s6 _ fun H5 s7 => ⟨_, rfl, ?_⟩
           first
             | (refine iteT ?_
                refine (orT (W4 _ H rfl) (M4 _ H rfl)) _ (s6.trans s7) _ fun H6 s8 => ?_
                exact fin _ _ ((s6.trans s7).trans s8) rfl rfl rfl rfl rfl rfl)
             | (refine iteF ?_
                exact fin _ _ (s6.trans s7) rfl rfl rfl rfl rfl rfl))
def lrV (a : LR) : List V := [.str (S [a.d.sg]), .int (a.st : Int), .int (a.d.len : Int), .int (a.left : Int), .int (a.gone : Int), .bl a.d.op, .bl a.d.cl]
def sp__law_may (K : PySem.W.Frag) : Sp := fun vs H Q _ => ∃ (p q : Addr) (a b : LR), vs = [.ref p, .ref q] ∧ H p = some (.lst (lrV a)) ∧ H q = some (.lst (lrV b)) ∧ Q (.bl (mayL a b)) H
theorem dec_mod0 {a : Nat} : decide (V.int (((a : Nat) : Int) % 3) = V.int 0) = decide (a % 3 = 0) := by
  rw [dec_int0]
  exact decide_eq_decide.mpr (by omega)
theorem ok__law_may {P : Program} {w : World} {K : PySem.W.Frag} {mg : Str → Option Value} {base : Heap} (T : Txt w K mg) : FnOk P w K mg base CX0 1 T.a__law_may T.d__law_may ["_law_one_here", "_law_other"] (sp__law_may K) := by
  refine T.f__law_may.ok sc__law_may (fun vs H Q E h => ?_) (fun cdv A outer s H vs Q E hr h => ?_)
  · obtain ⟨p, q, a, b, rfl, _⟩ := h
    rfl
  · obtain ⟨p, q0, a, b, rfl, ha, hb, q⟩ := h
    refine ⟨_, (pss_cons (ps_if (PW.pt (pw_or (pt_cmpR op_ne (pe_ix ix_list (pv 0) pe_int (fun _ _ => rfl)) (pe_ix ix_list (pv 1) pe_int (fun _ _ => rfl)) (nomark _)) (pw_or (pt_not (pt_val (pe_ix ix_list (pv 0) pe_int (fun _ _ => rfl)))) (pw_or1 (pt_cmpR op_eq (pe_ix ix_list (pv 0) pe_int (fun _ _ => rfl)) pe_int (nomark _)))))) (pss_one (ps_ret pe_bl)) pss_nil)
        (pss_cons (ps_if (PW.pt (pw_or (pt_val (pe_ix ix_list (pv 0) pe_int (fun _ _ => rfl))) (pw_or1 (pt_val (pe_ix ix_list (pv 1) pe_int (fun _ _ => rfl)))))) (pss_one (ps_ret (pe_or (pe_cmpR op_gt (pe_op op_mod (pe_callTy call_int1 (by rfl) T.z_int (by decide +kernel) (pa_cons (pe_op op_add (pe_ix ix_list (pv 0) pe_int (fun _ _ => rfl)) (pe_ix ix_list (pv 1) pe_int (fun _ _ => rfl))) pa_nil)) pe_int) pe_int (nomark _)) (pe_one (pe_cmpR op_eq (pe_op op_mod (pe_callTy call_int1 (by rfl) T.z_int (by decide +kernel) (pa_cons (pe_ix ix_list (pv 0) pe_int (fun _ _ => rfl)) pa_nil)) pe_int) pe_int (nomark _)))))) pss_nil)
        (pss_one (ps_ret pe_bl)))), ?_⟩
    have A := SqL.of (K := K) ha
    have B := SqL.of (K := K) hb
    refine ⟨_, rfl, p, _, _, _, rfl, rfl, A, atI_nat (j := 0) rfl, _, rfl, q0, _, _, _, rfl, rfl, B, atI_nat (j := 0) rfl, rfl, _, rfl, ?_⟩
    have hd : decide (V.str (S [a.d.sg]) = V.str (S [b.d.sg])) = decide (a.d.sg = b.d.sg) := by
      rw [S_dec]
      exact decide_eq_decide.mpr ⟨fun y => (List.cons.inj y).1, fun y => by rw [y]⟩
    show (if (!decide (V.str (S [a.d.sg]) = V.str (S [b.d.sg]))) = true then _ else _)
    rw [hd]
    unfold mayL at q
    by_cases e1 : a.d.sg = b.d.sg
    · rw [decide_eq_true e1] at q ⊢
      refine iteF ⟨_, rfl, p, _, _, _, rfl, rfl, A, atI_nat (j := 5) rfl, _, rfl, ?_⟩
      cases e2 : a.d.op with
      | false =>
        rw [e2] at q
        exact iteT (iteT q)
      | true =>
        rw [e2] at q
        refine iteF ⟨_, rfl, p, _, _, _, rfl, rfl, A, atI_nat (j := 3) rfl, rfl, _, rfl, ?_⟩
        show (if decide (V.int (a.left : Int) = V.int 0) = true then _ else _)
        rw [dec_int0, show decide ((a.left : Int) = 0) = decide (a.left = 0) from decide_eq_decide.mpr (by omega)]
        by_cases e3 : a.left = 0
        · rw [decide_eq_true e3] at q ⊢
          exact iteT q
        · rw [decide_eq_false e3] at q ⊢
          refine iteF ?_
          replace q : Q (.bl (if (a.d.cl || b.d.op) = true then (decide (0 < (a.d.len + b.d.len) % 3) || decide (a.d.len % 3 = 0)) else true)) H := q
          have tail : ∀ Q2 : VK, Q2 (.bl (decide (0 < (a.d.len + b.d.len) % 3) || decide (a.d.len % 3 = 0))) H → tOrV
                  (tOp (rI0 fun i j => V.bl (decide (j < i)))
                    (tOp (rI (fun x j => 0 < j) fun i j => V.int (i % j))
                      (tCB
                        (fun xs H Q =>
                          (∃ i, xs = [V.int i] ∧ Q (V.int i) H) ∨
                            ∃ k, xs = [V.bl k] ∧ Q (V.int (if k = true then 1 else 0)) H)
                        (tCons
                          (tOp (rI0 fun i j => V.int (i + j))
                            (tOp (rIxL K) (tVar 0) (tC (V.int 2)))
                            (tOp (rIxL K) (tVar 1) (tC (V.int 2))))
                          tNil))
                      (tC (V.int 3)))
                    (tC (V.int 0)))
                  (tOp rEq (tOp (rI (fun x j => 0 < j) fun i j => V.int (i % j))
                      (tCB
                        (fun xs H Q =>
                          (∃ i, xs = [V.int i] ∧ Q (V.int i) H) ∨
                            ∃ k, xs = [V.bl k] ∧ Q (V.int (if k = true then 1 else 0)) H)
                        (tCons (tOp (rIxL K) (tVar 0) (tC (V.int 2))) tNil))
                      (tC (V.int 3))) (tC (V.int 0))) [some (.ref p), some (.ref q0)] H Q2 := fun Q2 q2 => by
            refine (orK (a := decide (0 < (a.d.len + b.d.len) % 3)) (b := decide (a.d.len % 3 = 0)) (fun Q q => ?_) (fun Q q => ?_)) _ q2
            · refine ⟨_, rfl, p, _, _, _, rfl, rfl, A, atI_nat (j := 2) rfl, _, rfl, q0, _, _, _, rfl, rfl, B, atI_nat (j := 2) rfl, _, _, rfl, rfl, .inl ⟨_, rfl, _, _, rfl, rfl, (by show (0 : Int) < 3; decide), _, _, rfl, rfl, ?_⟩⟩
              show Q (.bl (decide ((0 : Int) < (((a.d.len : Nat) : Int) + ((b.d.len : Nat) : Int)) % 3))) H
              rw [show decide ((0 : Int) < (((a.d.len : Nat) : Int) + ((b.d.len : Nat) : Int)) % 3) = decide (0 < (a.d.len + b.d.len) % 3) from decide_eq_decide.mpr (by omega)]
              exact q
            · refine ⟨_, rfl, p, _, _, _, rfl, rfl, A, atI_nat (j := 2) rfl, .inl ⟨_, rfl, _, _, rfl, rfl, (by show (0 : Int) < 3; decide), rfl, ?_⟩⟩
              show Q (.bl (decide (V.int (((a.d.len : Nat) : Int) % 3) = V.int 0))) H
              rw [dec_mod0]
              exact q
          refine ⟨_, rfl, p, _, _, _, rfl, rfl, A, atI_nat (j := 6) rfl, _, rfl, ?_⟩
          cases hcl : a.d.cl with
          | true =>
            rw [hcl] at q
            exact iteT (iteT (tail _ q))
          | false =>
            rw [hcl] at q
            refine iteF ⟨_, rfl, q0, _, _, _, rfl, rfl, B, atI_nat (j := 5) rfl, _, rfl, ?_⟩
            cases hop : b.d.op with
            | true =>
              rw [hop] at q
              exact iteT (tail _ q)
            | false =>
              rw [hop] at q
              exact iteF q
    · rw [decide_eq_false e1] at q ⊢
      exact iteT (iteT q)
/-- the pieces as tuples -/
def offs (ps : List Pc) (i : Nat) : Nat := (flatP (ps.take i)).length
def SaidOk (H : Hp) (v : V) : Pc → Prop
  | .run _ _ => v = .non
  | .txt _ m => v = .str (S m)
  | .brk => ∃ a, v = .ref a ∧ H a = some (.tup [.str "soft"])
def PcAt (H : Hp) (p : Nat) (u : V) (x : Pc) : Prop := ∃ q v, u = .ref q ∧ H q = some (.tup [.int (p : Int), .int ((p + x.w.length : Nat) : Int), v]) ∧ SaidOk H v x
structure PcsAt (H : Hp) (us : List V) (ps : List Pc) : Prop where
  len : us.length = ps.length
  at' : ∀ (i : Nat) x, ps[i]? = some x → ∃ u, us[i]? = some u ∧ PcAt H (offs ps i) u x
theorem SaidOk.same {H H' : Hp} {v : V} {x : Pc} (h : SaidOk H v x) (s : ∀ b xs, H b = some (.tup xs) → H' b = some (.tup xs)) : SaidOk H' v x := by
  cases x with
  | run c n => exact h
  | txt x m => exact h
  | brk => obtain ⟨a, e, h⟩ := h; exact ⟨a, e, s _ _ h⟩
theorem PcsAt.same {H H' : Hp} {us : List V} {ps : List Pc} (h : PcsAt H us ps) (s : ∀ b xs, H b = some (.tup xs) → H' b = some (.tup xs)) : PcsAt H' us ps := ⟨h.len, fun i x hx => let ⟨u, h1, q, v, h2, h3, h4⟩ := h.at' i x hx; ⟨u, h1, q, v, h2, s _ _ h3, h4.same s⟩⟩
theorem offs_succ {ps : List Pc} {i : Nat} {x : Pc} (h : ps[i]? = some x) : offs ps (i + 1) = offs ps i + x.w.length := by
  unfold offs flatP
  rw [List.take_succ, h, List.flatMap_append, List.length_append]
  congr 1
  show ([x].flatMap Pc.w).length = _
  rw [List.flatMap_cons, List.flatMap_nil, List.append_nil]
theorem offs_zero (ps : List Pc) : offs ps 0 = 0 := by unfold offs; rw [List.take_zero]; rfl
theorem flat_cut {ps : List Pc} {i : Nat} {x : Pc} (h : ps[i]? = some x) : (flatP ps).drop (offs ps i) = x.w ++ flatP (ps.drop (i + 1)) := by
  obtain ⟨hi, e⟩ := List.getElem?_eq_some_iff.mp h
  have e1 : ps = ps.take i ++ (x :: ps.drop (i + 1)) := by
    rw [← e, ← List.drop_eq_getElem_cons hi, List.take_append_drop]
  conv => lhs; rw [e1]
  unfold offs flatP
  rw [List.flatMap_append]
  rw [show (ps.take i ++ x :: ps.drop (i + 1)).take i = ps.take i by rw [← e1]]
  rw [List.drop_left, List.flatMap_cons]
theorem lr_app (t : List Nat) : ∀ (a b : List Pc) (p : Nat), lrP t p (a ++ b) = lrP t p a ++ lrP t (p + (flatP a).length) b
  | [], b, p => rfl
  | .run c n :: a, b, p => by
    show _ :: lrP t (p + n) (a ++ b) = _ :: (lrP t (p + n) a ++ _)
    rw [lr_app t a b]
    congr 3
    show p + n + _ = p + (List.replicate n c ++ flatP a).length
    rw [List.length_append, List.length_replicate, Nat.add_assoc]
  | .txt x m :: a, b, p => by
    show lrP t (p + x.length) (a ++ b) = lrP t (p + x.length) a ++ _
    rw [lr_app t a b]
    congr 2
    show p + x.length + _ = p + (x ++ flatP a).length
    rw [List.length_append, Nat.add_assoc]
  | .brk :: a, b, p => by
    show lrP t (p + 1) (a ++ b) = lrP t (p + 1) a ++ _
    rw [lr_app t a b]
    congr 2
    show p + 1 + _ = p + (10 :: flatP a).length
    rw [List.length_cons]
    omega
theorem lr_succ {t : List Nat} {ps : List Pc} {i : Nat} {x : Pc} (h : ps[i]? = some x) : lrP t 0 (ps.take (i + 1)) = lrP t 0 (ps.take i) ++ lrP t (offs ps i) [x] := by
  rw [List.take_succ, h, lr_app, Nat.zero_add]
  rfl
theorem pcs_at : ∀ {ps : List Pc} {i : Nat} {c n : Nat}, PcsOk ps → ps[i]? = some (.run c n) → (c = 42 ∨ c = 95) ∧ 0 < n
  | x :: ps, 0, c, n, h, e => by
    cases e
    exact ⟨h.1, h.2.1⟩
  | .run c' n' :: ps, i + 1, c, n, h, e => pcs_at (ps := ps) (i := i) h.2.2.2 e
  | .txt x m :: ps, i + 1, c, n, h, e => pcs_at (ps := ps) (i := i) h.2 e
  | .brk :: ps, i + 1, c, n, h, e => pcs_at (ps := ps) (i := i) h.2 e
theorem len_at {t : List Nat} : ∀ {ps : List Pc} {i p : Nat} {c n : Nat}, LenOk t p ps → ps[i]? = some (.run c n) → (runOf t (p + offs ps i) c).len = n
  | x :: ps, 0, p, c, n, h, e => by
    cases e
    exact h.1
  | .run c' n' :: ps, i + 1, p, c, n, h, e => by
    have := len_at (ps := ps) (i := i) h.2 e
    have e2 : offs (.run c' n' :: ps) (i + 1) = n' + offs ps i := by
      show (List.replicate n' c' ++ flatP (ps.take i)).length = _
      rw [List.length_append, List.length_replicate]
      rfl
    rw [e2, ← Nat.add_assoc]
    exact this
  | .txt x m :: ps, i + 1, p, c, n, h, e => by
    have := len_at (ps := ps) (i := i) (p := p + x.length) h e
    have e2 : offs (.txt x m :: ps) (i + 1) = x.length + offs ps i := by
      show (x ++ flatP (ps.take i)).length = _
      rw [List.length_append]
      rfl
    rw [e2, ← Nat.add_assoc]
    exact this
  | .brk :: ps, i + 1, p, c, n, h, e => by
    have := len_at (ps := ps) (i := i) (p := p + 1) h e
    have e2 : offs (.brk :: ps) (i + 1) = 1 + offs ps i := by
      show (10 :: flatP (ps.take i)).length = _
      rw [List.length_cons, Nat.add_comm]
      rfl
    rw [e2, ← Nat.add_assoc]
    exact this
/-- the lists of the law's runs -/
structure LRsAt (H : Hp) (RA : List Addr) (l : List LR) : Prop where
  len : RA.length = l.length
  at' : ∀ (i : Nat) a r, RA[i]? = some a → l[i]? = some r → H a = some (.lst (lrV r))
theorem lr_le (t : List Nat) : ∀ (ps : List Pc) (p : Nat), (lrP t p ps).length ≤ ps.length
  | [], _ => Nat.le_refl _
  | .run c n :: r, p => Nat.succ_le_succ (lr_le t r _)
  | .txt x m :: r, p => Nat.le_trans (lr_le t r _) (Nat.le_succ _)
  | .brk :: r, p => Nat.le_trans (lr_le t r _) (Nat.le_succ _)
def sp__law_runs (K : PySem.W.Frag) : Sp := fun vs H Q _ => ∃ (t : List Nat) (ps : List Pc) (a : Addr) (us : List V), vs = [.str (S t), .ref a] ∧ H a = some (.lst us) ∧ PcsAt H us ps ∧ t = flatP ps ∧ PcsOk ps ∧ LenOk t 0 ps ∧ Asc t ∧ t.length ≤ 10000 ∧ ps.length ≤ 1000 ∧
  ∀ H' L RA, Same H H' → H' L = some (.lst (RA.map V.ref)) → LRsAt H' RA (lrP t 0 ps) → (L :: RA).Nodup → (∀ b ∈ L :: RA, H b = none) → Q (.ref L) H'
theorem ok__law_runs {P : Program} {w : World} {K : PySem.W.Frag} {mg : Str → Option Value} {base : Heap} (T : Txt w K mg) : FnOk P w K mg base CX0 3 T.a__law_runs T.d__law_runs ["_law_text", "_law_pieces"] (sp__law_runs K) := by
  refine T.f__law_runs.ok sc__law_runs (fun vs H Q E h => ?_) (fun cdv A outer s H vs Q E hr h => ?_)
  · obtain ⟨t, ps, a, us, rfl, _⟩ := h
    rfl
  · obtain ⟨t, ps, a, us, rfl, ha, hps, ht, hok, hlen, hasc, htl, hpl, q⟩ := h
    refine ⟨_, (pss_cons (ps_set (i := 2) sc__law_runs.nd rfl (.inl rfl) (pe_lst pa_nil))
        (pss_cons (ps_for PassesOwn.never rfl (pi_list (pv 1)) (pg_tup (by rfl) (pgs_cons (pg_name (i := 3) sc__law_runs.nd rfl (.inl rfl)) (pgs_cons (pg_name (i := 4) sc__law_runs.nd rfl (.inl rfl)) (pgs_cons (pg_name (i := 5) sc__law_runs.nd rfl (.inl rfl)) pgs_nil)))) (pss_one (ps_if (pt_cmpR op_isN (pv 5) pe_non (nomark _)) (pss_one (ps_expr (pe_bm PySem.F.plainAttrs_list PySem.F.slot_list_append PySem.F.type_list_append mt_append (pv 2) (pa_cons (pe_op op_cat (pe_lst (pa_cons (pe_ix ix_str (pv 0) (pv 3) (fun _ _ => rfl)) (pa_cons (pv 3) (pa_cons (pe_op op_sub (pv 4) (pv 3)) (pa_cons (pe_op op_sub (pv 4) (pv 3)) (pa_cons pe_int pa_nil)))))) (pe_callTy call_list_of (by rfl) T.z_list (by decide +kernel) (pa_cons (pe_call (ok__law_sides T) (hr.mono (by decide)) (by rfl) T.g__law_sides T.f__law_sides.kp T.b__law_sides .nil pass0 (pa_cons (pv 0) (pa_cons (pv 3) (pa_cons (pv 4) pa_nil)))) pa_nil))) pa_nil)))) pss_nil)))
        (pss_one (ps_ret (pv 2))))), ?_⟩
    refine ⟨(by show 0 ≤ sizeLine; decide), fun L nL => ?_⟩
    have s0 : Same H (upd H L (.lst [])) := same_new nL
    refine ⟨_, rfl, a, rfl, ⟨us, SqL.of (s0 _ _ ha)⟩, ?_⟩
    refine for_list (K := K) (a := a) (xs := us) (fun i σ' H' => ∃ (o3 o4 o5 : Option V) (RA : List Addr), σ' = [some (.str (S t)), some (.ref a), some (.ref L), o3, o4, o5] ∧ Same H H' ∧ H' L = some (.lst (RA.map V.ref)) ∧ LRsAt H' RA (lrP t 0 (ps.take i)) ∧ (L :: RA).Nodup ∧ (∀ b ∈ L :: RA, H b = none)) ?_ ?_ ?_ ?_
    · exact ⟨none, none, none, [], rfl, s0, upd_same, ⟨rfl, fun i a r h => (by cases h)⟩, by simp, fun b hb => by rw [List.mem_singleton.mp hb]; exact nL⟩
    · rintro i σ' H' _ ⟨o3, o4, o5, RA, rfl, s1, _⟩
      exact SqL.of (s1 _ _ ha)
    · rintro i u σ' H' hu ⟨o3, o4, o5, RA, rfl, s1, hL, hRA, nd, nH⟩
      have hi : i < ps.length := by
        rw [← hps.len]
        exact (List.getElem?_eq_some_iff.mp hu).1
      obtain ⟨x, hx⟩ : ∃ x, ps[i]? = some x := ⟨_, List.getElem?_eq_getElem hi⟩
      obtain ⟨u', hu', q1, v, rfl, hq1, hv⟩ := hps.at' i x hx
      rw [hu] at hu'
      cases hu'
      refine ⟨q1, _, rfl, SqT.of (s1 _ _ hq1), rfl, _, _, rfl, _, _, rfl, _, _, rfl, rfl, ?_⟩
      cases x with
      | txt y m =>
        have hv' : v = .str (S m) := hv
        subst hv'
        refine ⟨_, rfl, rfl, _, rfl, ite2 (fun h => absurd (of_decide_eq_true h) (fun e => by cases e)) (fun _ => ⟨_, _, _, RA, rfl, s1, hL, ?_, nd, nH⟩)⟩
        rw [lr_succ hx]
        show LRsAt H' RA (_ ++ [])
        rw [List.append_nil]
        exact hRA
      | brk =>
        obtain ⟨sa, rfl, _⟩ := hv
        refine ⟨_, rfl, rfl, _, rfl, ite2 (fun h => absurd (of_decide_eq_true h) (fun e => by cases e)) (fun _ => ⟨_, _, _, RA, rfl, s1, hL, ?_, nd, nH⟩)⟩
        rw [lr_succ hx]
        show LRsAt H' RA (_ ++ [])
        rw [List.append_nil]
        exact hRA
      | run c n =>
        have hv' : v = .non := hv
        subst hv'
        have hlr : lrP t 0 (ps.take (i + 1)) = lrP t 0 (ps.take i) ++ [⟨runOf t (offs ps i) c, offs ps i, n, 0⟩] := lr_succ hx
        obtain ⟨hc, hn⟩ := pcs_at hok hx
        have hln := len_at hlen hx
        rw [Nat.zero_add] at hln
        have hcut := flat_cut hx
        rw [← ht] at hcut
        have hat : t[offs ps i]? = some c := by
          obtain ⟨n', rfl⟩ : ∃ n', n = n' + 1 := ⟨n - 1, by omega⟩
          exact at_drop (r := List.replicate n' c ++ flatP (ps.drop (i + 1))) hcut
        have hle : offs ps i + n ≤ t.length := by
          have := congrArg List.length hcut
          rw [List.length_drop, List.length_append, show (Pc.run c n).w.length = n from List.length_replicate] at this
          have : offs ps i < t.length := (List.getElem?_eq_some_iff.mp hat).1
          omega
        have hwl : (Pc.run c n).w.length = n := List.length_replicate
        rw [hwl]
        generalize hp : offs ps i = p at *
        have hend : runEnd t p c = p + n := by
          have : runEnd t p c - p = n := hln
          omega
        refine ⟨_, rfl, rfl, _, rfl, ite2 (fun _ => ?_) (fun z => absurd (decide_eq_true rfl) z)⟩
        refine ⟨_, rfl, .inl ⟨rfl, _, SqL.of hL⟩, _, rfl, _, rfl, S t, (p : Int), c, rfl, rfl, by rw [S_len]; exact Nat.le_trans htl (by decide), atI_nat (j := p) hat, _, rfl, _, rfl, _, rfl, _, _, rfl, rfl, _, rfl, _, rfl, _, _, rfl, rfl, (by show 5 ≤ sizeLine; decide), fun A nA => ?_⟩
        refine ⟨_, rfl, _, rfl, _, rfl, t, p, p + n, c, rfl, hasc, by omega, hat, by omega, hle, hc, fun H2 sa s2 hsa => ?_⟩
        refine ⟨sa, _, rfl, .inr (SqT.of hsa), fun l nl => ?_⟩
        have sA : Same H' (upd H' A (.lst [.str (S [c]), .int (p : Int), .int (((p + n : Nat) : Int) - (p : Int)), .int (((p + n : Nat) : Int) - (p : Int)), .int 0])) := same_new nA
        have s3 := same_new (o := .lst [.bl (opB c (runA t p) (runZ t (p + n))), .bl (clB c (runA t p) (runZ t (p + n)))]) nl
        have hA := s3 _ _ (s2 _ _ (show (upd H' A (.lst [.str (S [c]), .int (p : Int), .int (((p + n : Nat) : Int) - (p : Int)), .int (((p + n : Nat) : Int) - (p : Int)), .int 0])) A = _ from upd_same))
        have s4 : Same H' (upd H2 l (.lst [.bl (opB c (runA t p) (runZ t (p + n))), .bl (clB c (runA t p) (runZ t (p + n)))])) := (sA.trans s2).trans s3
        have hl3 : (upd H2 l (.lst [.bl (opB c (runA t p) (runZ t (p + n))), .bl (clB c (runA t p) (runZ t (p + n)))])) l = some (.lst [.bl (opB c (runA t p) (runZ t (p + n))), .bl (clB c (runA t p) (runZ t (p + n)))]) := upd_same
        refine ⟨A, l, _, _, rfl, rfl, hA, hl3, (by show 7 ≤ sizeLine; decide), fun B nB => ?_⟩
        generalize (upd H2 l (.lst [.bl (opB c (runA t p) (runZ t (p + n))), .bl (clB c (runA t p) (runZ t (p + n)))])) = G3 at s4 nB ⊢
        have s5 : Same G3 (upd G3 B (.lst ([.str (S [c]), .int (p : Int), .int (((p + n : Nat) : Int) - (p : Int)), .int (((p + n : Nat) : Int) - (p : Int)), .int 0] ++ [.bl (opB c (runA t p) (runZ t (p + n))), .bl (clB c (runA t p) (runZ t (p + n)))]))) := same_new nB
        have e7 : ([V.str (S [c]), .int (p : Int), .int (((p + n : Nat) : Int) - (p : Int)), .int (((p + n : Nat) : Int) - (p : Int)), .int 0] ++ [.bl (opB c (runA t p) (runZ t (p + n))), .bl (clB c (runA t p) (runZ t (p + n)))]) = lrV ⟨runOf t p c, p, n, 0⟩ := by
          have e8 : ((p + n : Nat) : Int) - (p : Int) = (n : Int) := by omega
          unfold lrV
          rw [e8]
          show _ = [V.str (S [c]), .int (p : Int), .int ((runOf t p c).len : Int), .int (n : Int), .int 0, .bl (opB c (runA t p) (runZ t (runEnd t p c))), .bl (clB c (runA t p) (runZ t (runEnd t p c)))]
          rw [hln, hend]
          rfl
        have hB : (upd G3 B (.lst ([.str (S [c]), .int (p : Int), .int (((p + n : Nat) : Int) - (p : Int)), .int (((p + n : Nat) : Int) - (p : Int)), .int 0] ++ [.bl (opB c (runA t p) (runZ t (p + n))), .bl (clB c (runA t p) (runZ t (p + n)))]))) B = some (.lst (lrV ⟨runOf t p c, p, n, 0⟩)) := by rw [← e7]; exact upd_same
        have s6 := s4.trans s5
        have hRl : RA.length ≤ 1000 := by
          rw [hRA.len]
          exact Nat.le_trans (lr_le t _ _) (Nat.le_trans (by rw [List.length_take]; exact Nat.min_le_right ..) hpl)
        refine ⟨L, _, _, rfl, rfl, s6 _ _ hL, by rw [List.length_map, sizeLine_eq]; omega, ?_⟩
        have nBL : B ≠ L := fun e => by
          rw [e, s4 _ _ hL] at nB
          cases nB
        have nBR : B ∉ RA := fun hm => by
          obtain ⟨j, hj⟩ := List.getElem?_of_mem hm
          have hjl : j < (lrP t 0 (ps.take i)).length := by rw [← hRA.len]; exact (List.getElem?_eq_some_iff.mp hj).1
          have := s4 _ _ (hRA.at' j B _ hj (List.getElem?_eq_getElem hjl))
          rw [this] at nB
          cases nB
        have nHB : H B = none := by
          cases e : H B with
          | none => rfl
          | some o =>
            have := (s1.trans s4) _ _ e
            rw [this] at nB
            cases nB
        refine ⟨_, _, _, RA ++ [B], rfl, ?_, ?_, ?_, ?_, ?_⟩
        · exact fun b o e => by
            rw [upd_ne (ne_of_none e (nH L (List.mem_cons_self ..)))]
            exact (s1.trans s6) _ _ e
        · rw [upd_same, List.map_append]
          rfl
        · rw [hlr]
          refine ⟨by rw [List.length_append, List.length_append, hRA.len]; rfl, fun j b r hb hr => ?_⟩
          have hbL : b ≠ L := fun e => by
            subst e
            rcases List.mem_append.mp (List.mem_of_getElem? hb) with z | z
            · exact (List.nodup_cons.mp nd).1 z
            · exact nBL (List.mem_singleton.mp z).symm
          rw [upd_ne hbL]
          by_cases hj : j < RA.length
          · rw [List.getElem?_append_left hj] at hb
            rw [List.getElem?_append_left (by rw [← hRA.len]; exact hj)] at hr
            exact s6 _ _ (hRA.at' j b r hb hr)
          · rw [List.getElem?_append_right (by omega)] at hb
            rw [List.getElem?_append_right (by rw [← hRA.len]; omega), ← hRA.len] at hr
            have hj0 : j - RA.length = 0 := by
              have := (List.getElem?_eq_some_iff.mp hb).1
              rw [List.length_singleton] at this
              omega
            rw [hj0] at hb hr
            cases hb
            cases hr
            exact hB
        · rw [List.nodup_cons] at nd ⊢
          refine ⟨fun hm => ?_, ?_⟩
          · rcases List.mem_append.mp hm with z | z
            · exact nd.1 z
            · exact nBL (List.mem_singleton.mp z).symm
          · rw [List.nodup_append]
            exact ⟨nd.2, by simp, fun u hu v hv e => nBR (by rw [← List.mem_singleton.mp hv, ← e]; exact hu)⟩
        · intro b hb
          rcases List.mem_cons.mp hb with rfl | hb
          · exact nH _ (List.mem_cons_self ..)
          · rcases List.mem_append.mp hb with z | z
            · exact nH _ (List.mem_cons_of_mem _ z)
            · rw [List.mem_singleton.mp z]
              exact nHB
    · rintro σ' H' ⟨o3, o4, o5, RA, rfl, s1, hL, hRA, nd, nH⟩
      rw [hps.len, List.take_length] at hRA
      exact ⟨_, rfl, q _ L RA s1 hL hRA nd nH⟩
def mkV (m : Mk) : List V := [.int (m.1 : Int), .int (m.2.1 : Int), .int (m.2.2.1 : Int), .int (m.2.2.2 : Int)]
structure MksAt (H : Hp) (us : List V) (ms : List Mk) : Prop where
  len : us.length = ms.length
  at' : ∀ (i : Nat) u m, us[i]? = some u → ms[i]? = some m → ∃ q, u = .ref q ∧ H q = some (.tup (mkV m))
structure SInv (H0 H : Hp) (L F : Addr) (RA : List Addr) (y : LS) (M : Nat) : Prop where
  hL : H L = some (.lst (RA.map V.ref))
  rs : LRsAt H RA y.1
  hF : ∃ us, H F = some (.lst us) ∧ MksAt H us y.2
  fr : ∀ b o, b ∉ RA → H0 b = some o → H b = some o
  nF : H0 F = none
  own : ∀ b ∈ L :: RA, ∃ o, H0 b = some o
  nd : (L :: RA).Nodup
  le : ∀ (i : Nat) a, y.1[i]? = some a → a.left ≤ 1000
  ms : y.2.length ≤ M
theorem MksAt.same {H H' : Hp} {us : List V} {ms : List Mk} (h : MksAt H us ms) (s : ∀ b xs, H b = some (.tup xs) → H' b = some (.tup xs)) : MksAt H' us ms := ⟨h.len, fun i u m h1 h2 => let ⟨q, e, h3⟩ := h.at' i u m h1 h2; ⟨q, e, s _ _ h3⟩⟩
theorem SInv.same {H0 H H' : Hp} {L F : Addr} {RA : List Addr} {y : LS} {M : Nat} (h : SInv H0 H L F RA y M) (s : Same H H') : SInv H0 H' L F RA y M where
  hL := s _ _ h.hL
  rs := ⟨h.rs.len, fun i a r h1 h2 => s _ _ (h.rs.at' i a r h1 h2)⟩
  hF := let ⟨us, h1, h2⟩ := h.hF; ⟨us, s _ _ h1, h2.same fun b xs e => s _ _ e⟩
  fr := fun b o h1 h2 => s _ _ (h.fr b o h1 h2)
  nF := h.nF
  own := h.own
  nd := h.nd
  le := h.le
  ms := h.ms
theorem SInv.up {H0 H : Hp} {L F : Addr} {RA : List Addr} {y : LS} {M M' : Nat} (h : SInv H0 H L F RA y M) (hM : M ≤ M') : SInv H0 H L F RA y M' := ⟨h.hL, h.rs, h.hF, h.fr, h.nF, h.own, h.nd, h.le, Nat.le_trans h.ms hM⟩
theorem SInv.fresh {H0 H : Hp} {L F : Addr} {RA : List Addr} {y : LS} {M : Nat} (h : SInv H0 H L F RA y M) : F ∉ RA := fun hm => by
  obtain ⟨o, e⟩ := h.own F (List.mem_cons_of_mem _ hm)
  rw [h.nF] at e
  cases e
/-- one run is set -/
theorem SInv.setR {H0 H : Hp} {L F : Addr} {RA : List Addr} {y : LS} {M : Nat} (h : SInv H0 H L F RA y M) {i : Nat} {a : Addr} {r : LR} (ha : RA[i]? = some a) (hle : r.left ≤ 1000) : SInv H0 (upd H a (.lst (lrV r))) L F RA (y.1.set i r, y.2) M := by
  have am := List.mem_of_getElem? ha
  have aL : a ≠ L := fun e => (List.nodup_cons.mp h.nd).1 (by rw [← e]; exact am)
  have aF : a ≠ F := fun e => h.fresh (by rw [← e]; exact am)
  obtain ⟨us, h1, h2⟩ := h.hF
  have il : i < RA.length := (List.getElem?_eq_some_iff.mp ha).1
  have hat : ∃ xs, H a = some (.lst xs) := ⟨_, h.rs.at' i a _ ha (List.getElem?_eq_getElem (by rw [← h.rs.len]; exact il))⟩
  refine ⟨by rw [upd_ne (Ne.symm aL)]; exact h.hL, ⟨by rw [List.length_set]; exact h.rs.len, fun j b s hb hs => ?_⟩, ⟨us, by rw [upd_ne (Ne.symm aF)]; exact h1, h2.same fun b xs e => ?_⟩, fun b o hb e => ?_, h.nF, h.own, h.nd, fun j s hs => ?_, h.ms⟩
  · by_cases e : j = i
    · subst e
      rw [ha] at hb
      cases hb
      replace hs : (y.1.set j r)[j]? = some s := hs
      rw [List.getElem?_set_self (by rw [← h.rs.len]; exact il)] at hs
      cases hs
      exact upd_same
    · replace hs : (y.1.set i r)[j]? = some s := hs
      rw [List.getElem?_set_ne (Ne.symm e)] at hs
      have hba : b ≠ a := fun q => e ((List.getElem?_inj (by exact (List.getElem?_eq_some_iff.mp hb).1) (List.nodup_cons.mp h.nd).2).mp (by rw [hb, ha, q]))
      rw [upd_ne hba]
      exact h.rs.at' j b s hb hs
  · obtain ⟨xs', hx⟩ := hat
    rw [upd_ne]
    · exact e
    · intro q
      rw [q, hx] at e
      cases e
  · rw [upd_ne]
    · exact h.fr b o hb e
    · intro q
      exact hb (by rw [q]; exact am)
  · replace hs : (y.1.set i r)[j]? = some s := hs
    rcases List.mem_or_eq_of_mem_set (List.mem_of_getElem? hs) with q | q
    · obtain ⟨j', hj'⟩ := List.getElem?_of_mem q
      exact h.le j' s hj'
    · rw [q]
      exact hle
/-- one mark more -/
theorem SInv.mark {H0 H : Hp} {L F : Addr} {RA : List Addr} {y : LS} {M : Nat} (h : SInv H0 H L F RA y M) {us : List V} {q : Addr} {m : Mk} (hF : H F = some (.lst us)) (hq : H q = some (.tup (mkV m))) : SInv H0 (upd H F (.lst (us ++ [.ref q]))) L F RA (y.1, y.2 ++ [m]) (M + 1) := by
  have aL : L ≠ F := fun e => by
    obtain ⟨o, e2⟩ := h.own L (List.mem_cons_self ..)
    rw [e, h.nF] at e2
    cases e2
  have tup : ∀ b xs, H b = some (.tup xs) → (upd H F (.lst (us ++ [.ref q]))) b = some (.tup xs) := fun b xs e => by
    rw [upd_ne]
    · exact e
    · intro z
      rw [z, hF] at e
      cases e
  refine ⟨by rw [upd_ne aL]; exact h.hL, ⟨h.rs.len, fun i a r h1 h2 => ?_⟩, ⟨_, upd_same, ?_⟩, fun b o hb e => ?_, h.nF, h.own, h.nd, h.le, ?_⟩
  · rw [upd_ne]
    · exact h.rs.at' i a r h1 h2
    · intro z
      exact h.fresh (by rw [← z]; exact List.mem_of_getElem? h1)
  · obtain ⟨us', h1, h2⟩ := h.hF
    rw [hF] at h1
    cases h1
    have h3 := h2.same tup
    refine ⟨by rw [List.length_append, List.length_append, h3.len]; rfl, fun i u m' h4 h5 => ?_⟩
    by_cases c : i < us.length
    · rw [List.getElem?_append_left c] at h4
      rw [List.getElem?_append_left (by rw [← h3.len]; exact c)] at h5
      exact h3.at' i u m' h4 h5
    · have hi : i = us.length := by
        have := (List.getElem?_eq_some_iff.mp h4).1
        rw [List.length_append, List.length_singleton] at this
        omega
      subst hi
      rw [List.getElem?_append_right (Nat.le_refl _), Nat.sub_self] at h4
      rw [h3.len, List.getElem?_append_right (Nat.le_refl _), Nat.sub_self] at h5
      cases h4
      cases h5
      exact ⟨q, rfl, tup _ _ hq⟩
  · rw [upd_ne]
    · exact h.fr b o hb e
    · intro z
      rw [z, h.nF] at e
      cases e
  · rw [List.length_append, List.length_singleton]
    have := h.ms
    omega
theorem lay_ints : ∀ ns : List Nat, PyData.canLayAll0 (ns.map fun n : Nat => PyData.int (n : Int)) = true
  | [] => rfl
  | n :: ns => by
    show (PyData.canLay0 (.int (n : Int)) && PyData.canLayAll0 (ns.map fun n : Nat => PyData.int (n : Int))) = true
    rw [lay_ints ns]
    rfl
theorem eqv_nilL (ds : List PyData) : PyData.eqv (.list ds) (.list []) = ds.isEmpty := by cases ds <;> rfl
theorem dp_ints {K : PySem.W.Frag} {H : Hp} : ∀ ns : List Nat, DpAll K H (intsV ns) (ns.map fun n : Nat => PyData.int (n : Int))
  | [] => .nil
  | n :: ns => .cons (.int _) (dp_ints ns)
theorem cand_succ (l : List LR) (r : LR) (i : Nat) : candL l r (i + 1) = candL l r i ++ if candAt l r i = true then [i] else [] := by
  unfold candL
  rw [List.range_succ, List.filter_append]
  congr 1
  by_cases c : candAt l r i = true
  · rw [if_pos c, List.filter_cons, if_pos c]
    rfl
  · rw [if_neg c, List.filter_cons, if_neg c]
    rfl
theorem cand_len (l : List LR) (r : LR) (i : Nat) : (candL l r i).length ≤ i := by
  unfold candL
  have := List.length_filter_le (candAt l r) (List.range i)
  rw [List.length_range] at this
  exact this
theorem many_le {r o : LR} (h1 : 0 < r.left) (h2 : o.left ≠ 0) : manyL r o ≤ r.left ∧ manyL r o ≤ o.left ∧ 1 ≤ manyL r o := by
  unfold manyL
  split <;> omega
theorem same_upd1 {D : Addr} {H H' : Hp} {o : HO} (k : Same H H') (n : H D = none) : Same H (upd H' D o) := fun b x e => by
  rw [upd_ne (ne_of_none e n)]
  exact k b x e
theorem zero_nil (a : Nat) (l : List LR) : zeroL a (a + 0) l = l := by
  apply List.ext_getElem?
  intro i
  rw [zero_at]
  cases l[i]? with
  | none => rfl
  | some z =>
    show some (zeroZ a (a + 0) i z) = some z
    unfold zeroZ
    rw [if_neg (by omega)]
theorem zero_succ {a i : Nat} {l : List LR} {z : LR} (h : l[a + i]? = some z) : (zeroL a (a + i) l).set (a + i) { z with left := 0 } = zeroL a (a + (i + 1)) l := by
  apply List.ext_getElem?
  intro j
  have hl : (zeroL a (a + i) l).length = l.length := by
    unfold zeroL
    rw [List.length_mapIdx]
  rw [List.getElem?_set, zero_at, zero_at, hl]
  by_cases e : a + i = j
  · subst e
    rw [if_pos rfl, if_pos (List.getElem?_eq_some_iff.mp h).1, h]
    show _ = some (zeroZ a (a + (i + 1)) (a + i) z)
    unfold zeroZ
    rw [if_pos (by omega)]
  · rw [if_neg e]
    cases l[j]? with
    | none => rfl
    | some w =>
      show some (zeroZ a (a + i) j w) = some (zeroZ a (a + (i + 1)) j w)
      unfold zeroZ
      by_cases c : a ≤ j ∧ j < a + i
      · rw [if_pos c, if_pos (by omega)]
      · rw [if_neg c, if_neg (by omega)]
theorem ends_gen {t : TS} {D : Ends} {σ : L2.St} {H : Hp} (h : ∀ D' : Ends, (∀ σ H, D.nx σ H → D'.nx σ H) → (∀ σ H, D.bk σ H → D'.bk σ H) → t D' σ H) : t D σ H := h D (fun _ _ x => x) (fun _ _ x => x)
def sp__law_spans (K : PySem.W.Frag) : Sp := fun vs H Q _ => ∃ (L : Addr) (RA : List Addr) (l : List LR), vs = [.ref L] ∧ H L = some (.lst (RA.map V.ref)) ∧ LRsAt H RA l ∧ (L :: RA).Nodup ∧ l.length ≤ 200 ∧ (∀ (i : Nat) a, l[i]? = some a → a.left ≤ 1000) ∧
  ∀ H' F us, H' F = some (.lst us) → MksAt H' us (spansTo l l.length).2 → (spansTo l l.length).2.length ≤ 1000 * l.length → (∀ b o, b ∉ RA → H b = some o → H' b = some o) → H F = none → Q (.ref F) H'
theorem ok__law_spans {P : Program} {w : World} {K : PySem.W.Frag} {mg : Str → Option Value} {base : Heap} (T : Txt w K mg) : FnOk P w K mg base CX0 2 T.a__law_spans T.d__law_spans ["_law_runs_here"] (sp__law_spans K) := by
  refine T.f__law_spans.ok sc__law_spans (fun vs H Q E h => ?_) (fun cdv A outer s H vs Q E hr h => ?_)
  · obtain ⟨L, RA, l, rfl, _⟩ := h
    rfl
  · obtain ⟨L, RA, l, rfl, hL, hRA, nd, hsz, hle, q⟩ := h
    refine ⟨_, (pss_cons (ps_set (i := 1) sc__law_spans.nd rfl (.inl rfl) (pe_lst pa_nil))
        (pss_cons (ps_for PassesOwn.never rfl (pi_enum (by rfl) T.z_enumerate (pa_cons (pv 0) pa_nil)) (pg_tup (by rfl) (pgs_cons (pg_name (i := 2) sc__law_spans.nd rfl (.inl rfl)) (pgs_cons (pg_name (i := 3) sc__law_spans.nd rfl (.inr rfl)) pgs_nil))) (pss_one (ps_while PassesOwn.never (PW.pt (pw_and (pt_val (pe_ix ix_list (pv 3) pe_int (fun _ _ => rfl))) (pw_and1 (pt_cmpR op_gt (pe_ix ix_list (pv 3) pe_int (fun _ _ => rfl)) pe_int (nomark _))))) (pss_cons (ps_setLc (i := 5) (own := [("_law_k", 4)]) (g := (gName 4)) (tt := _) (by rfl) sc__law_spans.nd rfl rfl (sw_true rfl rfl rfl (by decide +kernel)) (pi_range1 (by rfl) T.z_range (pa_cons (pv 2) pa_nil)) (blkOk_by (own := [("_law_k", 4)]) (N := ["_law_runs_here", "_law_found", "_law_at", "_law_run", "_law_k", "_law_some", "_law_other", "_law_many", "_law_inner", "_law_spot"]) (sc := defScope s__law_spans) (by decide +kernel)) (fun _ _ _ _ _ => (pg_name (i := 4) sc__law_spans.nd rfl (Or.inl rfl))) (fun _ _ _ _ _ => (pts_one (pt_val (pe_call (ok__law_may T) (hr.mono (by decide)) (by rfl) T.g__law_may T.f__law_may.kp T.b__law_may .nil pass0 (pa_cons (pe_ix (show IxR _ (rIxL K) from ix_list) (pv 0) (pv 4) (fun _ _ => rfl)) (pa_cons (pv 3) pa_nil)))))) (fun _ _ _ _ _ => (pv 4)))
        (pss_cons (ps_if (pt_cmpR (op_eqM (room_n (n := 64) hr (by omega))) (pv 5) (pe_lst pa_nil) (nomark _)) (pss_one ps_break) pss_nil)
        (pss_cons (ps_set (i := 6) sc__law_spans.nd rfl (.inl rfl) (pe_ix ix_list (pv 0) (pe_ix ix_list (pv 5) (pe_un un_neg pe_int) (fun _ _ => rfl)) (fun _ _ => rfl)))
        (pss_cons (ps_set (i := 7) sc__law_spans.nd rfl (.inl rfl) (pe_ifExp (pt_cmpR op_gt (pe_callB (call_min2 rfl) (by rfl) T.z_min (by decide +kernel) (pa_cons (pe_ix ix_list (pv 3) pe_int (fun _ _ => rfl)) (pa_cons (pe_ix ix_list (pv 6) pe_int (fun _ _ => rfl)) pa_nil))) pe_int (nomark _)) pe_int pe_int))
        (pss_cons (ps_set (i := 8) sc__law_spans.nd rfl (.inl rfl) (pe_op op_add (pe_op op_add (pe_ix ix_list (pv 6) pe_int (fun _ _ => rfl)) (pe_ix ix_list (pv 6) pe_int (fun _ _ => rfl))) (pe_ix ix_list (pv 6) pe_int (fun _ _ => rfl))))
        (pss_cons (ps_set (i := 9) sc__law_spans.nd rfl (.inl rfl) (pe_op op_add (pe_ix ix_list (pv 3) pe_int (fun _ _ => rfl)) (pe_ix ix_list (pv 3) pe_int (fun _ _ => rfl))))
        (pss_cons (ps_expr (pe_bm PySem.F.plainAttrs_list PySem.F.slot_list_append PySem.F.type_list_append mt_append (pv 1) (pa_cons (pe_tup (pa_cons (pe_op op_sub (pv 8) (pv 7)) (pa_cons (pv 8) (pa_cons (pv 9) (pa_cons (pe_op op_add (pv 9) (pv 7)) pa_nil))))) pa_nil)))
        (pss_cons (ps_asg (pe_op op_sub (pe_ix ix_list (pv 6) pe_int (fun _ _ => rfl)) (pv 7)) (pg_sub (pv 6) pe_int set_list))
        (pss_cons (ps_asg (pe_tup (pa_cons (pe_op op_sub (pe_ix ix_list (pv 3) pe_int (fun _ _ => rfl)) (pv 7)) (pa_cons (pe_op op_add (pe_ix ix_list (pv 3) pe_int (fun _ _ => rfl)) (pv 7)) pa_nil))) (pg_tup (by rfl) (pgs_cons (pg_sub (pv 3) pe_int set_list) (pgs_cons (pg_sub (pv 3) pe_int set_list) pgs_nil))))
        (pss_one (ps_for PassesOwn.never rfl (pi_range2 (by rfl) T.z_range (pa_cons (pe_op op_add (pe_ix ix_list (pv 5) (pe_un un_neg pe_int) (fun _ _ => rfl)) pe_int) (pa_cons (pv 2) pa_nil))) (pg_name (i := 4) sc__law_spans.nd rfl (.inl rfl)) (pss_one (ps_asg pe_int (pg_sub (pe_ix ix_list (pv 0) (pv 4) (fun _ _ => rfl)) pe_int set_list)))))))))))))))))
        (pss_one (ps_ret (pv 1))))), ?_⟩
    refine ⟨(by show 0 ≤ sizeLine; decide), fun F nF => ?_⟩
    have s0 : Same H (upd H F (.lst [])) := same_new nF
    have i0 : SInv H (upd H F (.lst [])) L F RA (spansTo l 0) 0 := by
      refine ⟨s0 _ _ hL, ⟨hRA.len, fun i a r h1 h2 => s0 _ _ (hRA.at' i a r h1 h2)⟩, ⟨[], upd_same, rfl, fun i u m h => (by cases h)⟩, fun b o _ e => s0 _ _ e, nF, fun b hb => ?_, nd, hle, Nat.le_refl _⟩
      rcases List.mem_cons.mp hb with rfl | hb
      · exact ⟨_, hL⟩
      · obtain ⟨j, hj⟩ := List.getElem?_of_mem hb
        exact ⟨_, hRA.at' j b _ hj (List.getElem?_eq_getElem (by rw [← hRA.len]; exact (List.getElem?_eq_some_iff.mp hj).1))⟩
    refine ⟨_, rfl, L, _, rfl, SqL.of (s0 _ _ hL), for_it (walk_enum (K := K)) (fun k σ' H' => ∃ (v2 v3 v4 v5 v6 v7 v8 v9 : Option V), σ' = [some (.ref L), some (.ref F), v2, v3, v4, v5, v6, v7, v8, v9] ∧ SInv H H' L F RA (spansTo l k) (1000 * k) ∧ (spansTo l k).1.length = l.length) ⟨_, _, _, _, _, _, _, _, rfl, i0, rfl⟩ (fun k σ' H' _ ⟨_, _, _, _, _, _, _, _, _, h, _⟩ => SqL.of h.hL) ?_ ?_⟩
    · rintro k x σ' H1 H2 hk ⟨v2, v3, v4, v5, v6, v7, v8, v9, rfl, si, hll⟩ yy
      obtain ⟨T0, xk, a0, rfl, nT, rfl, hxk, ha0⟩ := yy
      cases hxk
      rw [List.length_map] at hk
      obtain ⟨a, ha⟩ : ∃ a, RA[k]? = some a := ⟨_, List.getElem?_eq_getElem hk⟩
      have e0 : a0 = .ref a := by
        have z : (RA.map V.ref)[k]? = some a0 := ha0
        rw [List.getElem?_map, ha] at z
        exact (Option.some.inj z).symm
      subst e0
      refine ⟨T0, _, rfl, SqT.of upd_same, rfl, _, _, rfl, _, _, rfl, rfl, ?_⟩
      replace si := si.same (same_new nT (o := .tup [.int (k : Nat), .ref a]))
      generalize (upd H1 T0 (.tup [.int (k : Nat), .ref a])) = H2 at si ⊢
      have hkl : k < (spansTo l k).1.length := by rw [hll, ← hRA.len]; exact hk
      obtain ⟨r0, hr0⟩ : ∃ r, (spansTo l k).1[k]? = some r := ⟨_, List.getElem?_eq_getElem hkl⟩
      have hX : spansTo l (k + 1) = whileL k r0.left (spansTo l k) := by
        show stepL k (spansTo l k) = _
        unfold stepL
        rw [hr0]
      have hr0l := si.le k r0 hr0
      refine ⟨fun m σ' H' => ∃ (v4 v5 v6 v7 v8 v9 : Option V) (y : LS) (r : LR) (f : Nat), σ' = [some (.ref L), some (.ref F), some (.int (k : Nat)), some (.ref a), v4, v5, v6, v7, v8, v9] ∧ SInv H H' L F RA y (1000 * k + (r0.left - r.left)) ∧ y.1.length = l.length ∧ y.1[k]? = some r ∧ r.left ≤ r0.left ∧ r.left ≤ f ∧ spansTo l (k + 1) = whileL k f y ∧ m = r.left, ⟨_, v4, v5, v6, v7, v8, v9, _, r0, _, rfl, by rw [Nat.sub_self]; exact si, hll, hr0, Nat.le_refl _, Nat.le_refl _, hX, rfl⟩, ?_⟩
      clear hX hr0 si hll hkl v2 v3 v4 v5 v6 v7 v8 v9
      rintro m σ' H3 ⟨v4, v5, v6, v7, v8, v9, y, r, f, rfl, si, hll, hr, hrr, hf, hX, rfl⟩
      have hA := si.rs.at' k a r ha hr
      have out : ¬ (r.d.cl = true ∧ 0 < r.left) → whileL k f y = y := fun n => by
        cases f with
        | zero => rfl
        | succ f =>
          rw [whileL_one hr, if_neg n]
      have hex : whileL k f y = y → SInv H H3 L F RA (spansTo l (k + 1)) (1000 * (k + 1)) ∧ (spansTo l (k + 1)).1.length = l.length := fun e => by
        rw [hX, e]
        exact ⟨si.up (by omega), hll⟩
      refine ⟨_, rfl, a, _, _, _, rfl, rfl, SqL.of hA, atI_nat (j := 6) rfl, _, rfl, ?_⟩
      show (if r.d.cl = true then _ else _)
      cases hcl : r.d.cl with
      | false =>
        obtain ⟨e1, e2⟩ := hex (out (fun z => by rw [hcl] at z; exact Bool.false_ne_true z.1))
        exact iteF (iteF ⟨_, _, v4, v5, v6, v7, v8, v9, rfl, e1, e2⟩)
      | true =>
        refine iteT ⟨_, rfl, a, _, _, _, rfl, rfl, SqL.of hA, atI_nat (j := 3) rfl, _, _, rfl, rfl, _, rfl, ite2 (fun hlt => ?_) (fun hge => ?_)⟩
        · have hl : 0 < r.left := by
            have : (0 : Int) < (r.left : Int) := of_decide_eq_true hlt
            omega
          obtain ⟨f, rfl⟩ : ∃ f', f = f' + 1 := ⟨f - 1, by omega⟩
          have hW : whileL k (f + 1) y = match turnL k y with | none => y | some y' => whileL k f y' := by
            rw [whileL_one hr, if_pos ⟨hcl, hl⟩]
            all_goals rfl
          refine ⟨_, fun _ _ z => z, ?_⟩
          refine ends_gen fun D' hn' hb' => ?_
          have hk2 : RA.length ≤ 200 := by rw [hRA.len]; exact hsz
          refine ⟨_, rfl, _, rfl, by omega, by omega, fun D nD => ?_⟩
          refine lc_range (lo := 0) (n := ((k : Nat) : Int).toNat) (fun i H' => Same H3 H' ∧ H' D = some (.lst (intsV (candL y.1 r i)))) ?_ ?_ ?_
          · exact ⟨same_new nD, upd_same⟩
          · rintro i H4 hi ⟨s4, hD⟩
            rw [Int.toNat_natCast] at hi
            have si4 := si.same s4
            obtain ⟨b, hb⟩ : ∃ b, RA[i]? = some b := ⟨_, List.getElem?_eq_getElem (by omega)⟩
            obtain ⟨z, hz⟩ : ∃ z, y.1[i]? = some z := ⟨_, List.getElem?_eq_getElem (by rw [← si.rs.len]; omega)⟩
            have hbV : (RA.map V.ref)[i]? = some (.ref b) := by rw [List.getElem?_map, hb]; rfl
            have ei : (0 : Int) + (i : Int) = (i : Int) := Int.zero_add _
            refine ⟨rfl, ?_⟩
            rw [ei]
            refine ⟨_, rfl, _, rfl, L, _, _, _, rfl, rfl, SqL.of si4.hL, atI_nat (j := i) hbV, _, rfl, b, a, z, r, rfl, si4.rs.at' i b z hb hz, s4 _ _ hA, _, rfl, ?_⟩
            show (if mayL z r = true then _ else _)
            have hca : candAt y.1 r i = mayL z r := by
              unfold candAt
              rw [hz]
            cases hm : mayL z r with
            | true =>
              refine iteT ⟨_, rfl, _, hD, ?_, ?_, ?_⟩
              · unfold intsV
                rw [List.length_map, sizeLine_eq]
                have := cand_len y.1 r i
                omega
              · exact same_upd1 s4 nD
              · rw [upd_same, cand_succ, hca, hm, if_pos rfl, intsV_app]
                rfl
            | false =>
              refine iteF ⟨s4, ?_⟩
              rw [cand_succ, hca, hm, if_neg Bool.false_ne_true, List.append_nil]
              exact hD
          · rintro H4 ⟨s4, hD⟩
            rw [Int.toNat_natCast] at hD
            have hA4 := s4 _ _ hA
            have hF3 : ∃ us, H3 F = some (.lst us) := let ⟨us, h, _⟩ := si.hF; ⟨us, h⟩
            obtain ⟨us3, hF3⟩ := hF3
            have hDR : D ∉ RA := fun hm => by
              obtain ⟨j, hj⟩ := List.getElem?_of_mem hm
              have := si.rs.at' j D _ hj (List.getElem?_eq_getElem (by rw [← si.rs.len]; exact (List.getElem?_eq_some_iff.mp hj).1))
              rw [nD] at this
              cases this
            replace si := si.same s4
            refine ⟨_, rfl, (by show 0 ≤ sizeLine; decide), fun pn npn => ?_⟩
            have s5 : Same H4 (upd H4 pn (.lst [])) := same_new npn
            have hD5 := s5 _ _ hD
            have hA5 := s5 _ _ hA4
            replace si := si.same s5
            have hpn : (upd H4 pn (.lst [])) pn = some (.lst []) := upd_same
            generalize (upd H4 pn (.lst [])) = H5 at hD5 hA5 si hpn ⊢
            refine ⟨_, _, .lst (SqL.of hD5) (dp_ints _), .lst (SqL.of hpn) .nil, lay_ints _, rfl, (by show min _ 1 ≤ 64; omega), _, rfl, ?_⟩
            rw [eqv_nilL]
            cases hg : (candL y.1 r k).getLast? with
            | none =>
              have hc0 := List.getLast?_eq_none_iff.mp hg
              rw [hc0]
              have hT : turnL k y = none := by
                unfold turnL
                rw [hr]
                dsimp only
                rw [hc0]
                rfl
              refine iteT (hb' _ _ ⟨_, _, v4, _, v6, v7, v8, v9, rfl, ?_, ?_⟩)
              · rw [hX, hW, hT]
                exact si.up (by omega)
              · rw [hX, hW, hT]
                exact hll
            | some p =>
              obtain ⟨ini, hini⟩ := List.getLast?_eq_some_iff.mp hg
              rw [hini] at hD5 ⊢
              rw [show (List.map (fun n : Nat => PyData.int (n : Int)) (ini ++ [p])).isEmpty = false by cases ini <;> rfl]
              obtain ⟨hpk, o, ho, hmo⟩ := cand_mem.mp (show p ∈ candL y.1 r k by rw [hini]; simp)
              obtain ⟨_, hne⟩ := may_on hmo
              obtain ⟨b, hb⟩ : ∃ b, RA[p]? = some b := ⟨_, List.getElem?_eq_getElem (by omega)⟩
              have hbV : (RA.map V.ref)[p]? = some (.ref b) := by rw [List.getElem?_map, hb]; rfl
              rw [intsV_app, show intsV [p] = [V.int (p : Int)] from rfl] at hD5
              refine iteF ⟨_, rfl, _, rfl, _, rfl, D, _, _, _, rfl, rfl, SqL.of hD5, atI_last _ _, L, _, _, _, rfl, rfl, SqL.of si.hL, atI_nat (j := p) hbV, ?_⟩
              have hB := si.rs.at' p b o hb ho
              obtain ⟨m1, m2, m3⟩ := many_le hl hne
              refine asg_if_g (fun v H' => H' = H5 ∧ v = .int (manyL r o : Nat)) (decide (1 < min r.left o.left)) (fun Qb qb => ?_) (fun hm Qv qv => ?_) (fun hm Qv qv => ?_) ?_
              · refine ⟨_, rfl, a, _, _, _, rfl, rfl, SqL.of hA5, atI_nat (j := 3) rfl, _, rfl, b, _, _, _, rfl, rfl, SqL.of hB, atI_nat (j := 3) rfl, _, _, rfl, _, _, rfl, rfl, _, rfl, ?_⟩
                rw [show decide ((1 : Int) < (if (o.left : Int) < (r.left : Int) then (o.left : Int) else (r.left : Int))) = decide (1 < min r.left o.left) from decide_eq_decide.mpr (by split <;> omega)]
                exact qb
              · refine qv _ _ ⟨rfl, ?_⟩
                unfold manyL
                rw [if_pos (of_decide_eq_true hm)]
                rfl
              · refine qv _ _ ⟨rfl, ?_⟩
                unfold manyL
                rw [if_neg (of_decide_eq_false hm)]
                rfl
              · rintro v H' ⟨rfl, rfl⟩
                refine ⟨_, rfl, b, _, _, _, rfl, rfl, SqL.of hB, atI_nat (j := 1) rfl, _, rfl, b, _, _, _, rfl, rfl, SqL.of hB, atI_nat (j := 4) rfl, _, _, rfl, rfl, _, rfl, b, _, _, _, rfl, rfl, SqL.of hB, atI_nat (j := 3) rfl, _, _, rfl, rfl, ?_⟩
                refine ⟨_, rfl, a, _, _, _, rfl, rfl, SqL.of hA5, atI_nat (j := 1) rfl, _, rfl, a, _, _, _, rfl, rfl, SqL.of hA5, atI_nat (j := 4) rfl, _, _, rfl, rfl, ?_⟩
                obtain ⟨us, hF, hus⟩ := si.hF
                refine ⟨_, rfl, .inl ⟨rfl, _, SqL.of hF⟩, _, rfl, _, rfl, _, _, rfl, rfl, _, rfl, _, rfl, _, rfl, _, rfl, _, _, rfl, rfl, (by show 4 ≤ sizeLine; decide), fun q1 nq => ?_⟩
                have e4 : ([.int ((o.st : Int) + (o.gone : Int) + (o.left : Int) - ((manyL r o : Nat) : Int)), .int ((o.st : Int) + (o.gone : Int) + (o.left : Int)), .int ((r.st : Int) + (r.gone : Int)), .int ((r.st : Int) + (r.gone : Int) + ((manyL r o : Nat) : Int))] : List V) = mkV (markL o r) := by
                  show _ = [V.int ((o.st + o.gone + o.left - manyL r o : Nat) : Int), V.int ((o.st + o.gone + o.left : Nat) : Int), V.int ((r.st + r.gone : Nat) : Int), V.int ((r.st + r.gone + manyL r o : Nat) : Int)]
                  rw [show (o.st : Int) + (o.gone : Int) + (o.left : Int) - ((manyL r o : Nat) : Int) = ((o.st + o.gone + o.left - manyL r o : Nat) : Int) by omega]
                  rfl
                have s6 : Same H' (upd H' q1 (.tup (mkV (markL o r)))) := same_new nq
                rw [show (upd H' q1 (.tup [.int ((o.st : Int) + (o.gone : Int) + (o.left : Int) - ((manyL r o : Nat) : Int)), .int ((o.st : Int) + (o.gone : Int) + (o.left : Int)), .int ((r.st : Int) + (r.gone : Int)), .int ((r.st : Int) + (r.gone : Int) + ((manyL r o : Nat) : Int))])) = upd H' q1 (.tup (mkV (markL o r))) by rw [e4]]
                have hq1 : (upd H' q1 (.tup (mkV (markL o r)))) q1 = some (.tup (mkV (markL o r))) := upd_same
                replace si := si.same s6
                have hF6 := s6 _ _ hF
                have hD6 := s6 _ _ hD5
                generalize (upd H' q1 (.tup (mkV (markL o r)))) = H6 at hq1 si hF6 hD6 ⊢
                have hDF : D ≠ F := fun e => by
                  subst e
                  have := (Same.refl H3) _ _ (show H3 D = some _ from hF3)
                  rw [nD] at this
                  cases this
                refine ⟨F, us, _, rfl, rfl, hF6, ?_, ?_⟩
                · rw [hus.len, sizeLine_eq]
                  have := si.ms
                  omega
                replace si := si.mark hF6 hq1
                have hD7 : (upd H6 F (.lst (us ++ [.ref q1]))) D = some (.lst (intsV ini ++ [V.int (p : Int)])) := by rw [upd_ne hDF]; exact hD6
                generalize (upd H6 F (.lst (us ++ [.ref q1]))) = H7 at si hD7 ⊢
                have hB7 := si.rs.at' p b o hb ho
                have hpk' : p ≠ k := Nat.ne_of_lt hpk
                have hbD : b ≠ D := fun e => hDR (by rw [← e]; exact List.mem_of_getElem? hb)
                have haD : a ≠ D := fun e => hDR (by rw [← e]; exact List.mem_of_getElem? ha)
                refine ⟨_, rfl, b, _, _, _, rfl, rfl, SqL.of hB7, atI_nat (j := 3) rfl, _, rfl, _, _, rfl, rfl, _, rfl, b, _, _, 3, rfl, rfl, hB7, rfl, ?_⟩
                have e5 : (lrV o).set 3 (.int ((o.left : Int) - ((manyL r o : Nat) : Int))) = lrV (giveL o r) := by
                  show [_, _, _, V.int _, _, _, _] = [_, _, _, V.int _, _, _, _]
                  rw [show (o.left : Int) - ((manyL r o : Nat) : Int) = ((o.left - manyL r o : Nat) : Int) by omega]
                  rfl
                have e5' : (upd H7 b (.lst ((lrV o).set 3 (.int ((o.left : Int) - ((manyL r o : Nat) : Int)))))) = upd H7 b (.lst (lrV (giveL o r))) := by rw [e5]
                replace si := si.setR hb (r := giveL o r) (by show o.left - manyL r o ≤ 1000; have := si.le p o ho; omega)
                have hD8 : (upd H7 b (.lst (lrV (giveL o r)))) D = some (.lst (intsV ini ++ [V.int (p : Int)])) := by rw [upd_ne (Ne.symm hbD)]; exact hD7
                show tSeq _ _ _ _ (upd H7 b (.lst ((lrV o).set 3 (.int ((o.left : Int) - ((manyL r o : Nat) : Int))))))
                rw [e5']
                generalize (upd H7 b (.lst (lrV (giveL o r)))) = H8 at si hD8 ⊢
                have hA8 := si.rs.at' k a r ha (by show (y.1.set p (giveL o r))[k]? = some r; rw [List.getElem?_set_ne hpk']; exact hr)
                refine ⟨_, rfl, a, _, _, _, rfl, rfl, SqL.of hA8, atI_nat (j := 3) rfl, _, rfl, _, _, rfl, rfl, _, rfl, a, _, _, _, rfl, rfl, SqL.of hA8, atI_nat (j := 4) rfl, _, rfl, _, _, rfl, rfl, (by show 2 ≤ sizeLine; decide), fun tq ntq => ?_⟩
                refine ⟨tq, _, rfl, SqT.of upd_same, rfl, ?_⟩
                have s9 := same_new (o := .tup [.int ((r.left : Int) - ((manyL r o : Nat) : Int)), .int ((r.gone : Int) + ((manyL r o : Nat) : Int))]) ntq
                have hA9 := s9 _ _ hA8
                have hD9 := s9 _ _ hD8
                replace si := si.same s9
                have eT : (upd H8 tq (.tup [.int ((r.left : Int) - ((manyL r o : Nat) : Int)), .int ((r.gone : Int) + ((manyL r o : Nat) : Int))])) = (upd H8 tq (.tup [(fun i j : Int => V.int (i - j)) (r.left : Int) ((manyL r o : Nat) : Int), (fun i j : Int => V.int (i + j)) (r.gone : Int) ((manyL r o : Nat) : Int)])) := rfl
                rw [← eT]
                generalize (upd H8 tq (.tup [.int ((r.left : Int) - ((manyL r o : Nat) : Int)), .int ((r.gone : Int) + ((manyL r o : Nat) : Int))])) = H9 at si hA9 hD9 ⊢
                refine ⟨_, _, rfl, _, rfl, a, _, _, 3, rfl, rfl, hA9, rfl, _, _, rfl, _, rfl, a, _, _, 4, rfl, rfl, upd_same, rfl, rfl, ?_⟩
                have e6 : ((lrV r).set 3 (.int ((r.left : Int) - ((manyL r o : Nat) : Int)))).set 4 (.int ((r.gone : Int) + ((manyL r o : Nat) : Int))) = lrV (takeL o r) := by
                  show [_, _, _, V.int _, V.int _, _, _] = [_, _, _, V.int _, V.int _, _, _]
                  rw [show (r.left : Int) - ((manyL r o : Nat) : Int) = ((r.left - manyL r o : Nat) : Int) by omega]
                  rfl
                rw [L2.upd_upd]
                have e7 : (upd H9 a (.lst (((lrV r).set 3 ((fun i j : Int => V.int (i - j)) (r.left : Int) ((manyL r o : Nat) : Int))).set 4 ((fun i j : Int => V.int (i + j)) (r.gone : Int) ((manyL r o : Nat) : Int))))) = upd H9 a (.lst (lrV (takeL o r))) := by rw [← e6]
                rw [e7]
                replace si := si.setR ha (r := takeL o r) (by show r.left - manyL r o ≤ 1000; have := si.le k r (by show (y.1.set p (giveL o r))[k]? = some r; rw [List.getElem?_set_ne hpk']; exact hr); omega)
                have hD10 : (upd H9 a (.lst (lrV (takeL o r)))) D = some (.lst (intsV ini ++ [V.int (p : Int)])) := by rw [upd_ne (Ne.symm haD)]; exact hD9
                generalize (upd H9 a (.lst (lrV (takeL o r)))) = H10 at si hD10 ⊢
                refine ⟨_, rfl, _, rfl, D, _, _, _, rfl, rfl, SqL.of hD10, atI_last _ _, _, _, rfl, rfl, _, rfl, ?_⟩
                have hll2 : ((y.1.set p (giveL o r)).set k (takeL o r)).length = l.length := by rw [List.length_set, List.length_set]; exact hll
                have hkl : k < ((y.1.set p (giveL o r)).set k (takeL o r)).length := by rw [hll2, ← hRA.len]; exact hk
                have hkk : ((y.1.set p (giveL o r)).set k (takeL o r))[k]? = some (takeL o r) := List.getElem?_set_self (by rw [List.length_set, hll, ← hRA.len]; exact hk)
                have hT : turnL k y = some (zeroL (p + 1) k ((y.1.set p (giveL o r)).set k (takeL o r)), y.2 ++ [markL o r]) := by
                  unfold turnL
                  rw [hr]
                  dsimp only
                  rw [hg]
                  dsimp only
                  rw [ho]
                generalize (y.1.set p (giveL o r)).set k (takeL o r) = l2 at si hll2 hkl hkk hT ⊢
                refine ⟨_, _, rfl, ⟨by omega, by omega, by omega, by omega⟩, for_range (lo := (p : Int) + 1) (n := ((k : Int) - ((p : Int) + 1)).toNat) (fun i σ' H' => ∃ (o4 : Option V), σ' = [some (.ref L), some (.ref F), some (.int (k : Nat)), some (.ref a), o4, some (.ref D), some (.ref b), some (.int (manyL r o : Nat)), some (.int ((o.st : Int) + (o.gone : Int) + (o.left : Int))), some (.int ((r.st : Int) + (r.gone : Int)))] ∧ SInv H H' L F RA (zeroL (p + 1) (p + 1 + i) l2, y.2 ++ [markL o r]) (1000 * k + (r0.left - r.left) + 1)) ⟨_, rfl, by rw [zero_nil]; exact si⟩ ?_ ?_⟩
                · rintro i σ' H11 hi ⟨o4, rfl, si⟩
                  have hi' : p + 1 + i < k := by omega
                  obtain ⟨c, hc⟩ : ∃ c, RA[p + 1 + i]? = some c := ⟨_, List.getElem?_eq_getElem (by omega)⟩
                  obtain ⟨z, hz⟩ : ∃ z, l2[p + 1 + i]? = some z := ⟨_, List.getElem?_eq_getElem (by omega)⟩
                  have hzz : (zeroL (p + 1) (p + 1 + i) l2)[p + 1 + i]? = some z := by
                    rw [zero_at, hz]
                    show some (zeroZ (p + 1) (p + 1 + i) (p + 1 + i) z) = _
                    unfold zeroZ
                    rw [if_neg (by omega)]
                  have hcV : (RA.map V.ref)[p + 1 + i]? = some (.ref c) := by rw [List.getElem?_map, hc]; rfl
                  have hC := si.rs.at' _ c z hc hzz
                  have ei : (p : Int) + 1 + (i : Int) = ((p + 1 + i : Nat) : Int) := by omega
                  rw [ei]
                  refine ⟨_, rfl, _, rfl, L, _, _, _, rfl, rfl, SqL.of si.hL, atI_nat (j := p + 1 + i) hcV, c, _, _, 3, rfl, rfl, hC, rfl, ?_⟩
                  have si2 := si.setR hc (r := { z with left := 0 }) (Nat.zero_le _)
                  rw [show ((zeroL (p + 1) (p + 1 + i) l2, y.2 ++ [markL o r]) : LS).1.set (p + 1 + i) { z with left := 0 } = zeroL (p + 1) (p + 1 + (i + 1)) l2 from zero_succ hz] at si2
                  exact ⟨_, rfl, si2⟩
                · rintro σ' H11 ⟨o4, rfl, si⟩
                  have en : p + 1 + ((k : Int) - ((p : Int) + 1)).toNat = k := by omega
                  rw [en] at si
                  refine hn' _ _ ⟨(takeL o r).left, by show r.left - manyL r o < r.left; omega, _, _, _, _, _, _, _, takeL o r, f, rfl, si.up ?_, ?_, ?_, ?_, ?_, ?_, rfl⟩
                  · show 1000 * k + (r0.left - r.left) + 1 ≤ 1000 * k + (r0.left - (r.left - manyL r o))
                    omega
                  · show (zeroL (p + 1) k l2).length = _
                    unfold zeroL
                    rw [List.length_mapIdx]
                    exact hll2
                  · show (zeroL (p + 1) k l2)[k]? = _
                    rw [zero_at, hkk]
                    show some (zeroZ (p + 1) k k (takeL o r)) = _
                    unfold zeroZ
                    rw [if_neg (by omega)]
                  · show r.left - manyL r o ≤ _
                    omega
                  · show r.left - manyL r o ≤ _
                    omega
                  · rw [hX, hW, hT]
        · obtain ⟨e1, e2⟩ := hex (out (fun z => hge (decide_eq_true (by omega))))
          exact ⟨_, _, v4, v5, v6, v7, v8, v9, rfl, e1, e2⟩
    · rintro σ' H1 ⟨v2, v3, v4, v5, v6, v7, v8, v9, rfl, si, hll⟩
      rw [List.length_map, hRA.len] at si
      obtain ⟨us, h1, h2⟩ := si.hF
      exact ⟨_, rfl, q _ F us h1 h2 si.ms si.fr nF⟩
theorem eqv_nil (ps : List Inl) : PyData.eqv (.list (rowD ps)) (.list []) = ps.isEmpty := by cases ps <;> rfl
theorem dp_split {K : PySem.W.Frag} {G : Hp} : ∀ {us : List V} {ds : List PyData} {d : PyData}, DpAll K G us (ds ++ [d]) → ∃ us0 v, us = us0 ++ [v] ∧ DpAll K G us0 ds ∧ Dp K G v d
  | _, [], _, h => by
    cases h with
    | cons a b => cases b; exact ⟨[], _, rfl, .nil, a⟩
  | _, e :: ds, d, h => by
    cases h with
    | cons a b =>
      obtain ⟨us0, v, rfl, h1, h2⟩ := dp_split b
      exact ⟨_ :: us0, v, rfl, .cons a h1, h2⟩
theorem txtI_ne {w : List Nat} (h : w ≠ []) : txtI w = [.text w] := if_neg h
theorem name_text {x : Inl} (h : isT x = false) : decide (V.str (nameI x) = V.str ("text" : Str)) = false := by
  cases x with
  | text t => cases h
  | code t => exact (by decide +kernel : decide (V.str ("code" : Str) = V.str ("text" : Str)) = false)
  | html t => exact (by decide +kernel : decide (V.str ("html" : Str) = V.str ("text" : Str)) = false)
  | soft => exact (by decide +kernel : decide (V.str ("soft" : Str) = V.str ("text" : Str)) = false)
  | hard => exact (by decide +kernel : decide (V.str ("hard" : Str) = V.str ("text" : Str)) = false)
  | emph r => exact (by decide +kernel : decide (V.str ("emph" : Str) = V.str ("text" : Str)) = false)
  | strong r => exact (by decide +kernel : decide (V.str ("strong" : Str) = V.str ("text" : Str)) = false)
  | link d t r => exact (by decide +kernel : decide (V.str ("link" : Str) = V.str ("text" : Str)) = false)
  | image d t r => exact (by decide +kernel : decide (V.str ("image" : Str) = V.str ("text" : Str)) = false)
def sp__law_put (K : PySem.W.Frag) : Sp := fun vs H Q _ => ∃ (r : Addr) (us : List V) (done : List Inl) (w said : List Nat), vs = [.ref r, .str (S said)] ∧ H r = some (.lst us) ∧ DpAll K H us (rowD (done ++ txtI w)) ∧ noT done ∧ PyData.canLayAll0 (rowD (done ++ txtI w)) = true ∧ w.length + said.length ≤ 4000000 ∧ done.length ≤ 4000000 ∧
  ∀ H' us', Keeps r H H' → H' r = some (.lst us') → DpAll K H' us' (rowD (done ++ txtI (w ++ said))) → Q .non H'
theorem ok__law_put {P : Program} {w : World} {K : PySem.W.Frag} {mg : Str → Option Value} {base : Heap} (T : Txt w K mg) : FnOk P w K mg base CX0 1 T.a__law_put T.d__law_put ["_law_row", "_law_said"] (sp__law_put K) := by
  refine T.f__law_put.ok sc__law_put (fun vs H Q E h => ?_) (fun cdv A outer s H vs Q E hr h => ?_)
  · obtain ⟨r, us, done, w, said, rfl, _⟩ := h
    rfl
  · obtain ⟨r, us, done, w, said, rfl, hr0, hd, hnt, hsi, hl, hn, q⟩ := h
    refine ⟨_, (pss_cons (ps_if (pt_cmpR op_eq (pv 1) pe_str (nomark _)) (pss_one ps_retN) pss_nil)
        (pss_one (ps_if (PW.pt (pw_and (pt_cmpR (op_neM (room_n (n := 64) hr (by omega))) (pv 0) (pe_lst pa_nil) (nomark _)) (pw_and1 (pt_cmpR op_eq (pe_ix ix_tup (pe_ix ix_list (pv 0) (pe_un un_neg pe_int) (fun _ _ => rfl)) pe_int (fun _ _ => rfl)) pe_str (nomark _))))) (pss_one (ps_asg (pe_tup (pa_cons pe_str (pa_cons (pe_op op_add_str (pe_ix ix_tup (pe_ix ix_list (pv 0) (pe_un un_neg pe_int) (fun _ _ => rfl)) pe_int (fun _ _ => rfl)) (pv 1)) pa_nil))) (pg_sub (pv 0) (pe_un un_neg pe_int) set_list))) (pss_one (ps_expr (pe_bm PySem.F.plainAttrs_list PySem.F.slot_list_append PySem.F.type_list_append mt_append (pv 0) (pa_cons (pe_tup (pa_cons pe_str (pa_cons (pv 1) pa_nil))) pa_nil))))))), ?_⟩
    refine ⟨_, rfl, rfl, _, rfl, ?_⟩
    rw [show (Str.ofString "") = S [] by decide +kernel, S_dec]
    by_cases hsd : said = []
    · rw [decide_eq_true hsd]
      subst hsd
      refine iteT (q H us (fun _ _ _ z => z) hr0 ?_)
      rw [List.append_nil]
      exact hd
    rw [decide_eq_false hsd]
    refine iteF ?_
    refine ⟨_, rfl, (by show 0 ≤ sizeLine; decide), fun p np => ?_⟩
    have s0 : Same H (upd H p (.lst [])) := same_new np
    have k0 : Keeps r H (upd H p (.lst [])) := .of s0
    have hr1 := s0 _ _ hr0
    have d1 := dpAll_same s0 hd
    have hp1 : (upd H p (.lst [])) p = some (.lst []) := upd_same
    generalize (upd H p (.lst [])) = H1 at k0 hr1 d1 hp1 ⊢
    have lus : us.length = (done ++ txtI w).length := by rw [(dpAll_all2 hd).1, rowD_map, List.length_map]
    have ltx : (txtI w).length ≤ 1 := by
      unfold txtI
      split
      · exact Nat.zero_le _
      · exact Nat.le_refl _
    rw [List.length_append] at lus
    refine ⟨_, _, .lst (SqL.of hr1) d1, .lst (SqL.of hp1) .nil, hsi, rfl, (by show min _ 1 ≤ 64; omega), ?_⟩
    rw [eqv_nil]
    -- one more in the row
    have app : w = [] → tDrop (tBM K "list" rAppend (tVar 0) (tCons (tTup (tCons (tC (.str "text")) (tCons (tVar 1) tNil))) tNil)) { nx := fun x H' => Q V.non H', rt := Q } [some (.ref r), some (.str (S said))] H1 := fun hw => by
      subst hw
      refine ⟨_, rfl, .inl ⟨rfl, _, SqL.of hr1⟩, _, rfl, (by show 2 ≤ sizeLine; decide), fun c nc => ?_⟩
      have s2 := same_new (o := .tup [.str "text", .str (S said)]) nc
      refine ⟨r, us, _, rfl, rfl, s2 _ _ hr1, by rw [sizeLine_eq]; omega, ?_⟩
      refine q _ (us ++ [.ref c]) ((k0.trans (.of s2)).trans .at) upd_same ?_
      have e1 : rowD (done ++ txtI ([] ++ said)) = rowD (done ++ txtI []) ++ [(Inl.text said).toD] := by
        rw [List.nil_append, txtI_ne hsd, show txtI [] = [] from rfl, List.append_nil, rowD_app]
        rfl
      rw [e1]
      refine dpAll_keep (L := r) Keeps.at ⟨us, s2 _ _ hr1⟩ (by rw [← e1]; exact noList_row _) (dpAll_app (dpAll_same s2 d1) (.cons (dp_text upd_same) .nil))
    by_cases hw : w = []
    · have e0 : (done ++ txtI w) = done := by rw [hw]; exact List.append_nil _
      cases hg : done.getLast? with
      | none =>
        have hdn := List.getLast?_eq_none_iff.mp hg
        rw [e0, hdn]
        refine ⟨_, rfl, iteF (iteF ?_)⟩
        exact app hw
      | some x =>
        obtain ⟨ini, hini⟩ := List.getLast?_eq_some_iff.mp hg
        have hx := hnt x hg
        rw [e0] at d1
        have d2 := d1
        rw [hini, show rowD (ini ++ [x]) = rowD ini ++ [x.toD] by rw [rowD_app]; rfl] at d2
        obtain ⟨us0, v0, hus, dd0, dv⟩ := dp_split d2
        obtain ⟨b, ub, rfl, sq⟩ := inl_name dv
        rw [e0, hini, show (ini ++ [x]).isEmpty = false by cases ini <;> rfl]
        rw [hus] at hr1
        refine ⟨_, rfl, iteT ?_⟩
        refine ⟨_, rfl, _, rfl, r, _, _, _, rfl, rfl, SqL.of hr1, atI_last us0 _, b, _, _, _, rfl, rfl, sq, atI_nat (j := 0) rfl, rfl, _, rfl, ?_⟩
        show (if decide (V.str (nameI x) = V.str ("text" : Str)) = true then _ else _)
        rw [name_text hx, if_neg Bool.false_ne_true]
        exact app hw
    · have e0 : rowD (done ++ txtI w) = rowD done ++ [(Inl.text w).toD] := by rw [txtI_ne hw, rowD_app]; rfl
      rw [e0] at d1
      obtain ⟨us0, v0, rfl, dd0, dv⟩ := dp_split d1
      obtain ⟨b', rfl, sq'⟩ := text_at dv
      rw [show (done ++ txtI w).isEmpty = false by rw [txtI_ne hw]; cases done <;> rfl]
      refine ⟨_, rfl, iteT ?_⟩
      refine ⟨_, rfl, _, rfl, r, _, _, _, rfl, rfl, SqL.of hr1, atI_last us0 _, b', _, _, _, rfl, rfl, sq', atI_nat (j := 0) rfl, rfl, _, rfl, ite2 (fun _ => ?_) (fun h9 => absurd (decide_eq_true rfl) h9)⟩
      refine ⟨_, rfl, _, rfl, r, _, _, _, rfl, rfl, SqL.of hr1, atI_last us0 _, b', _, _, _, rfl, rfl, sq', atI_nat (j := 1) rfl, _, rfl, _, _, rfl, rfl, by rw [S_len, S_len, sizeLine_eq]; omega, ?_⟩
      rw [S_app]
      refine ⟨(by show 2 ≤ sizeLine; decide), fun c nc => ?_⟩
      have s2 := same_new (o := .tup [.str "text", .str (S (w ++ said))]) nc
      have hix : ixN (us0 ++ [V.ref b']).length (-1) = some us0.length := by
        have hl : (us0 ++ [V.ref b']).length = us0.length + 1 := by simp
        unfold ixN
        rw [hl, if_neg (by decide), if_pos (by omega)]
        congr 1
        omega
      refine ⟨_, rfl, _, rfl, r, _, _, us0.length, rfl, rfl, s2 _ _ hr1, hix, ?_⟩
      rw [show (us0 ++ [V.ref b']).set us0.length (.ref c) = us0 ++ [.ref c] by simp]
      refine q _ (us0 ++ [.ref c]) ((k0.trans (.of s2)).trans .at) upd_same ?_
      have e1 : rowD (done ++ txtI (w ++ said)) = rowD done ++ [(Inl.text (w ++ said)).toD] := by
        rw [txtI_ne (fun e => hw (List.append_eq_nil_iff.mp e).1), rowD_app]
        rfl
      rw [e1]
      exact dpAll_keep (L := r) Keeps.at ⟨_, s2 _ _ hr1⟩ (by rw [← e1]; exact noList_row _) (dpAll_app (dpAll_same s2 dd0) (.cons (dp_text upd_same) .nil))
theorem strOk_iff {l : List Nat} : PyData.strOk (S l) = true ↔ Sm l := by
  refine ⟨fun h c hc => ?_, fun h => h.ok⟩
  have h' : (S l).cps.all (· < 0x110000) = true := h
  rw [Array.all_eq_true_iff_forall_mem] at h'
  have := h' c (by simpa [S] using hc)
  simpa using this
theorem lay_app : ∀ (a b : List PyData), PyData.canLayAll0 (a ++ b) = (PyData.canLayAll0 a && PyData.canLayAll0 b)
  | [], b => (Bool.true_and _).symm
  | x :: a, b => by
    show (PyData.canLay0 x && PyData.canLayAll0 (a ++ b)) = (PyData.canLay0 x && PyData.canLayAll0 a && PyData.canLayAll0 b)
    rw [lay_app a b, Bool.and_assoc]
theorem dep_app : ∀ (a b : List PyData), PyData.depthAll (a ++ b) = max (PyData.depthAll a) (PyData.depthAll b)
  | [], b => (Nat.zero_max _).symm
  | x :: a, b => by
    show max (PyData.depth x) (PyData.depthAll (a ++ b)) = max (max (PyData.depth x) (PyData.depthAll a)) (PyData.depthAll b)
    rw [dep_app a b]
    omega
theorem lay_txt {w : List Nat} : PyData.canLayAll0 (rowD (txtI w)) = true ↔ Sm w := by
  unfold txtI
  split
  · rename_i e
    subst e
    exact ⟨fun _ c hc => (by cases hc), fun _ => rfl⟩
  · show (PyData.strOk _ && (PyData.strOk (S w) && true) && true) = true ↔ Sm w
    rw [show PyData.strOk ("text" : Str) = true by decide +kernel, Bool.true_and, Bool.and_true, Bool.and_true]
    exact strOk_iff
theorem dep_txt (w : List Nat) : PyData.depthAll (rowD (txtI w)) ≤ 1 := by
  unfold txtI
  split
  · exact Nat.zero_le _
  · exact Nat.le_refl _
def LayR (r : List Inl) : Prop := PyData.canLayAll0 (rowD (jnR [] r)) = true
def DepR (r : List Inl) : Nat := PyData.depthAll (rowD (jnR [] r))
theorem layR_put {r : List Inl} {m : List Nat} (h : LayR r) (hm : Sm m) : LayR (r ++ [.text m]) ∧ DepR (r ++ [.text m]) ≤ max 1 (DepR r) := by
  unfold LayR DepR at *
  have e : jnR [] (r ++ [.text m]) = (spl [] r).1 ++ txtI ((spl [] r).2 ++ m) := jn_spl r [] [.text m]
  rw [e]
  rw [jn_split [] r] at h ⊢
  rw [rowD_app, lay_app, Bool.and_eq_true] at h
  rw [rowD_app, lay_app, rowD_app, dep_app, dep_app]
  refine ⟨?_, ?_⟩
  · rw [h.1, Bool.true_and]
    refine lay_txt.mpr fun c hc => ?_
    rcases List.mem_append.mp hc with hc | hc
    · exact lay_txt.mp h.2 c hc
    · exact hm c hc
  · have := dep_txt ((spl [] r).2 ++ m)
    omega
theorem jn_add {i : Inl} (hi : isT i = false) (r : List Inl) : jnR [] (r ++ [i]) = jnR [] r ++ [i] := by
  rw [jn_spl, jn_split [] r, jn_other hi, List.append_assoc]
  rfl
theorem layR_add {r : List Inl} {i : Inl} (hi : isT i = false) (h : LayR r) (hl : PyData.canLay0 i.toD = true) : LayR (r ++ [i]) ∧ DepR (r ++ [i]) = max (DepR r) (PyData.depth i.toD) := by
  unfold LayR DepR at *
  rw [jn_add hi, rowD_app, lay_app, dep_app, h]
  refine ⟨?_, ?_⟩
  · show (true && (PyData.canLay0 i.toD && true)) = true
    rw [hl]
    rfl
  · show max _ (max (PyData.depth i.toD) 0) = _
    omega
theorem isT_mk (st : Bool) (r : List Inl) : isT (mkI st r) = false := by cases st <;> rfl
theorem lay_mk {st : Bool} {r : List Inl} (h : LayR r) : PyData.canLay0 (mkI st (jnR [] r)).toD = true ∧ PyData.depth (mkI st (jnR [] r)).toD = DepR r + 2 := by
  unfold LayR DepR at *
  cases st
  · refine ⟨?_, ?_⟩
    · show (PyData.strOk _ && (PyData.canLayAll0 (rowD (jnR [] r)) && true)) = true
      rw [h]
      decide +kernel
    · show max 0 (max (PyData.depthAll (rowD (jnR [] r)) + 1) 0) + 1 = _
      omega
  · refine ⟨?_, ?_⟩
    · show (PyData.strOk _ && (PyData.canLayAll0 (rowD (jnR [] r)) && true)) = true
      rw [h]
      decide +kernel
    · show max 0 (max (PyData.depthAll (rowD (jnR [] r)) + 1) 0) + 1 = _
      omega
structure RB (p i : Nat) (rows : List (List Inl)) : Prop where
  lay : ∀ r ∈ rows, LayR r ∧ DepR r ≤ 2 * p + 1
  siz : rowsN rows ≤ 1 + 1001 * i + 2 * p
theorem RB.up {p i p' i' : Nat} {rows : List (List Inl)} (h : RB p i rows) (h1 : p ≤ p') (h2 : i ≤ i') : RB p' i' rows := ⟨fun r hr => ⟨(h.lay r hr).1, by have := (h.lay r hr).2; omega⟩, by have := h.siz; omega⟩
theorem rb_txt {p i : Nat} {rows : List (List Inl)} (h : RB p i rows) {m : List Nat} (hm : Sm m) (hl : m.length ≤ 1000) : RB p (i + 1) (addM (.text m) rows) := by
  refine ⟨fun r hr => ?_, ?_⟩
  · cases rows with
    | nil => cases hr
    | cons x rows =>
      rcases List.mem_cons.mp (show r ∈ (x ++ [.text m]) :: rows from hr) with rfl | hr
      · obtain ⟨h1, h2⟩ := h.lay x (List.mem_cons_self ..)
        obtain ⟨h3, h4⟩ := layR_put h1 hm
        exact ⟨h3, by omega⟩
      · exact h.lay r (List.mem_cons_of_mem _ hr)
  · have h1 := addM_N (i := .text m) (rows := rows)
    have h2 := h.siz
    have h3 : txtN [Inl.text m] = m.length := rfl
    omega
theorem rb_soft {p i : Nat} {rows : List (List Inl)} (h : RB p i rows) : RB p (i + 1) (addM .soft rows) := by
  refine ⟨fun r hr => ?_, ?_⟩
  · cases rows with
    | nil => cases hr
    | cons x rows =>
      rcases List.mem_cons.mp (show r ∈ (x ++ [.soft]) :: rows from hr) with rfl | hr
      · obtain ⟨h1, h2⟩ := h.lay x (List.mem_cons_self ..)
        obtain ⟨h3, h4⟩ := layR_add (i := .soft) rfl h1 (by decide +kernel)
        have h5 : PyData.depth Inl.soft.toD = 1 := by decide +kernel
        exact ⟨h3, by omega⟩
      · exact h.lay r (List.mem_cons_of_mem _ hr)
  · have h1 := addM_N (i := .soft) (rows := rows)
    have h2 := h.siz
    have h3 : txtN [Inl.soft] = 0 := rfl
    omega
theorem rb_pos {ms : List Mk} {c k p i : Nat} {rows rows' : List (List Inl)} (h : RB p i rows) (hc : c < 128) (hp : posStep ms c k rows = some rows') : RB (p + 1) i rows' := by
  unfold posStep at hp
  cases hb : begAt ms k with
  | some m =>
    rw [hb] at hp
    have hp' := Option.some.inj hp
    split at hp'
    · subst hp'
      refine ⟨fun r hr => ?_, ?_⟩
      · rcases List.mem_cons.mp hr with rfl | hr
        · exact ⟨rfl, Nat.zero_le _⟩
        · exact (h.up (Nat.le_succ p) (Nat.le_refl _)).lay r hr
      · have := h.siz
        show 0 + 0 + 1 + rowsN rows ≤ _
        omega
    · subst hp'
      exact h.up (Nat.le_succ p) (Nat.le_refl _)
  | none =>
    rw [hb] at hp
    dsimp only at hp
    cases he : endAt ms k with
    | some m =>
      rw [he] at hp
      dsimp only at hp
      split at hp
      · have hN := endM_N hp
        refine ⟨fun r hr => ?_, by have := h.siz; omega⟩
        match rows, hp with
        | top :: nxt :: rest, hp =>
          have hp' := Option.some.inj hp
          subst hp'
          obtain ⟨a1, a2⟩ := h.lay top (List.mem_cons_self ..)
          obtain ⟨b1, b2⟩ := h.lay nxt (List.mem_cons_of_mem _ (List.mem_cons_self ..))
          rcases List.mem_cons.mp hr with rfl | hr
          · obtain ⟨m1, m2⟩ := lay_mk (st := decide (m.2.2.2 - m.2.2.1 = 2)) a1
            obtain ⟨h3, h4⟩ := layR_add (isT_mk _ _) b1 m1
            exact ⟨h3, by omega⟩
          · have := h.lay r (List.mem_cons_of_mem _ (List.mem_cons_of_mem _ hr))
            exact ⟨this.1, by omega⟩
      · have hp' := Option.some.inj hp
        subst hp'
        exact h.up (Nat.le_succ p) (Nat.le_refl _)
    | none =>
      rw [he] at hp
      have hp' := Option.some.inj hp
      subst hp'
      have hm : Sm [c] := fun x hx => by
        rw [List.mem_singleton.mp hx]
        omega
      refine ⟨fun r hr => ?_, ?_⟩
      · cases rows with
        | nil => cases hr
        | cons x rows =>
          rcases List.mem_cons.mp (show r ∈ (x ++ [.text [c]]) :: rows from hr) with rfl | hr
          · obtain ⟨h1, h2⟩ := h.lay x (List.mem_cons_self ..)
            obtain ⟨h3, h4⟩ := layR_put h1 hm
            exact ⟨h3, by omega⟩
          · exact (h.up (Nat.le_succ p) (Nat.le_refl _)).lay r (List.mem_cons_of_mem _ hr)
      · have h1 := addM_N (i := .text [c]) (rows := rows)
        have h2 := h.siz
        have h3 : txtN [Inl.text [c]] = 1 := rfl
        omega
theorem rb_posR {ms : List Mk} {c i : Nat} (hc : c < 128) : ∀ (n k p : Nat) {rows rows' : List (List Inl)}, RB p i rows → posR ms c k n rows = some rows' → RB (p + n) i rows'
  | 0, k, p, rows, rows', h, e => by
    cases e
    exact h
  | n + 1, k, p, rows, rows', h, e => by
    have e' : (posStep ms c k rows).bind (posR ms c (k + 1) n) = some rows' := e
    obtain ⟨r, h1, h2⟩ := Option.bind_eq_some_iff.mp e'
    have := rb_posR hc n (k + 1) (p + 1) (rb_pos h hc h1) h2
    rw [show p + (n + 1) = p + 1 + n by omega]
    exact this
def PcSm (ps : List Pc) : Prop := ∀ x ∈ ps, match x with
  | .run c _ => c < 128
  | .txt _ m => Sm m ∧ m.length ≤ 1000
  | .brk => True
theorem rb_bld {ms : List Mk} : ∀ (ps : List Pc) (p i : Nat) {rows rows' : List (List Inl)}, PcSm ps → RB p i rows → bldL ms p ps rows = some rows' → RB (p + (flatP ps).length) (i + ps.length) rows'
  | [], p, i, rows, rows', _, h, e => by
    cases e
    exact h
  | .run c n :: ps, p, i, rows, rows', hs, h, e => by
    have e' : (posR ms c p n rows).bind (bldL ms (p + n) ps) = some rows' := e
    obtain ⟨r, h1, h2⟩ := Option.bind_eq_some_iff.mp e'
    have g := rb_posR (hs _ (List.mem_cons_self ..)) n p p h h1
    have := rb_bld ps (p + n) i (fun x hx => hs x (List.mem_cons_of_mem _ hx)) g h2
    have el : (flatP (.run c n :: ps)).length = n + (flatP ps).length := by
      show (List.replicate n c ++ flatP ps).length = _
      rw [List.length_append, List.length_replicate]
    rw [el, ← Nat.add_assoc]
    exact this.up (Nat.le_refl _) (by rw [List.length_cons]; omega)
  | .txt x m :: ps, p, i, rows, rows', hs, h, e => by
    obtain ⟨s1, s2⟩ := hs _ (List.mem_cons_self ..)
    have := rb_bld ps (p + x.length) (i + 1) (fun x hx => hs x (List.mem_cons_of_mem _ hx)) ((rb_txt h s1 s2).up (Nat.le_add_right ..) (Nat.le_refl _)) e
    have el : (flatP (.txt x m :: ps)).length = x.length + (flatP ps).length := by
      show (x ++ flatP ps).length = _
      rw [List.length_append]
    rw [el, ← Nat.add_assoc]
    exact this.up (Nat.le_refl _) (by rw [List.length_cons]; omega)
  | .brk :: ps, p, i, rows, rows', hs, h, e => by
    have := rb_bld ps (p + 1) (i + 1) (fun x hx => hs x (List.mem_cons_of_mem _ hx)) ((rb_soft h).up (Nat.le_add_right ..) (Nat.le_refl _)) e
    have el : (flatP (.brk :: ps)).length = 1 + (flatP ps).length := by
      show (10 :: flatP ps).length = _
      rw [List.length_cons, Nat.add_comm]
    rw [el, ← Nat.add_assoc]
    exact this.up (Nat.le_refl _) (by rw [List.length_cons]; omega)
theorem rb_zero : RB 0 0 [[]] := ⟨fun r hr => by rw [List.mem_singleton.mp hr]; exact ⟨rfl, Nat.zero_le _⟩, Nat.le_refl _⟩
def DMk (H : Hp) (D : Addr) (g : Nat → Option Mk) (M : Nat) : Prop := ∃ kvs : List (Key × V), H D = some (.dK kvs) ∧ kvs.length ≤ M ∧ ∀ k : Nat, match g k with
  | none => valV kvs (.inl (k : Int)) = none
  | some m => ∃ q, valV kvs (.inl (k : Int)) = some (.ref q) ∧ H q = some (.tup (mkV m))
theorem DMk.same {H H' : Hp} {D : Addr} {g : Nat → Option Mk} {M : Nat} (h : DMk H D g M) (s : Same H H') : DMk H' D g M := by
  obtain ⟨kvs, h1, h2, h3⟩ := h
  refine ⟨kvs, s _ _ h1, h2, fun k => ?_⟩
  have := h3 k
  cases e : g k with
  | none => rw [e] at this; exact this
  | some m =>
    rw [e] at this
    obtain ⟨q, q1, q2⟩ := this
    exact ⟨q, q1, s _ _ q2⟩
theorem put_len (c : List (Key × V)) (k : Key) (x : V) : (putK c k x).length ≤ c.length + 1 := by
  unfold putK
  split
  · rw [List.length_map]
    omega
  · rw [List.length_append]
    exact Nat.le_refl _
theorem DMk.put {H : Hp} {D q : Addr} {g : Nat → Option Mk} {M k : Nat} {m : Mk} {kvs : List (Key × V)} (hD : H D = some (.dK kvs)) (hl : kvs.length ≤ M) (h3 : ∀ k : Nat, match g k with
  | none => valV kvs (.inl (k : Int)) = none
  | some m => ∃ q, valV kvs (.inl (k : Int)) = some (.ref q) ∧ H q = some (.tup (mkV m))) (hq : H q = some (.tup (mkV m))) : DMk (upd H D (.dK (putK kvs (.inl (k : Int)) (.ref q)))) D (fun j => if j = k then some m else g j) (M + 1) := by
  have tup : ∀ b xs, H b = some (.tup xs) → (upd H D (.dK (putK kvs (.inl (k : Int)) (.ref q)))) b = some (.tup xs) := fun b xs e => by
    rw [upd_ne]
    · exact e
    · intro z
      rw [z, hD] at e
      cases e
  refine ⟨_, upd_same, Nat.le_trans (put_len _ _ _) (by omega), fun j => ?_⟩
  rw [valV_put]
  by_cases e : j = k
  · subst e
    rw [if_pos rfl]
    dsimp only
    rw [if_pos rfl]
    exact ⟨q, rfl, tup _ _ hq⟩
  · have e' : ¬ ((Sum.inl (j : Int) : Key) = Sum.inl (k : Int)) := fun z => e (by have := Sum.inl.inj z; omega)
    rw [if_neg e']
    dsimp only
    rw [if_neg e]
    have := h3 j
    cases hg : g j with
    | none => rw [hg] at this; exact this
    | some m' =>
      rw [hg] at this
      obtain ⟨q', q1, q2⟩ := this
      exact ⟨q', q1, tup _ _ q2⟩
theorem DMk.congr {H : Hp} {D : Addr} {g g' : Nat → Option Mk} {M : Nat} (h : DMk H D g M) (e : ∀ k, g k = g' k) : DMk H D g' M := by
  have : g = g' := funext e
  rw [← this]
  exact h
/-- the other dict, or a list, is changed -/
theorem DMk.other {H : Hp} {D b : Addr} {g : Nat → Option Mk} {M : Nat} {o : HO} (h : DMk H D g M) (hb : D ≠ b) (ht : ∀ xs, H b ≠ some (.tup xs)) : DMk (upd H b o) D g M := by
  obtain ⟨kvs, h1, h2, h3⟩ := h
  refine ⟨kvs, by rw [upd_ne hb]; exact h1, h2, fun k => ?_⟩
  have := h3 k
  cases e : g k with
  | none => rw [e] at this; exact this
  | some m =>
    rw [e] at this
    obtain ⟨q, q1, q2⟩ := this
    refine ⟨q, q1, ?_⟩
    rw [upd_ne]
    · exact q2
    · intro z
      exact ht _ (by rw [← z]; exact q2)
theorem beg_snoc (ms : List Mk) (m : Mk) (k : Nat) : begAt (ms ++ [m]) k = if inB k m = true then some m else begAt ms k := by
  unfold begAt
  rw [List.reverse_append, List.reverse_singleton, List.singleton_append, List.find?_cons]
  cases inB k m <;> rfl
theorem end_snoc (ms : List Mk) (m : Mk) (k : Nat) : endAt (ms ++ [m]) k = if inE k m = true then some m else endAt ms k := by
  unfold endAt
  rw [List.reverse_append, List.reverse_singleton, List.singleton_append, List.find?_cons]
  cases inE k m <;> rfl
theorem addM_ne {i : Inl} {rows : List (List Inl)} (h : rows ≠ []) : addM i rows ≠ [] := by
  cases rows with
  | nil => exact absurd rfl h
  | cons x r => exact fun e => by cases e
theorem pos_ne {ms : List Mk} {c k : Nat} {rows rows' : List (List Inl)} (h : rows ≠ []) (e : posStep ms c k rows = some rows') : rows' ≠ [] := by
  unfold posStep at e
  cases hb : begAt ms k with
  | some m =>
    rw [hb] at e
    have e' := Option.some.inj e
    split at e'
    · rw [← e']
      exact fun z => by cases z
    · rw [← e']
      exact h
  | none =>
    rw [hb] at e
    dsimp only at e
    cases he : endAt ms k with
    | some m =>
      rw [he] at e
      dsimp only at e
      split at e
      · match rows, e with
        | top :: nxt :: rest, e =>
          rw [← Option.some.inj e]
          exact fun z => by cases z
      · rw [← Option.some.inj e]
        exact h
    | none =>
      rw [he] at e
      rw [← Option.some.inj e]
      exact addM_ne h
/-- the last row is another one now -/
theorem BInv.top {K : PySem.W.Frag} {H1 H H2 : Hp} {L t : Addr} {R' : List Addr} {top top' : List Inl} {r : List (List Inl)} {us' : List V} (h : BInv K H1 H L (t :: R') (top :: r)) (k : Keeps t H H2) (e : H2 t = some (.lst us')) (d : DpAll K H2 us' (rowD top')) : BInv K H1 H2 L (t :: R') (top' :: r) := by
  have nd := h.nd
  rw [List.nodup_cons, List.nodup_cons] at nd
  have hLt : L ≠ t := fun z => nd.1 (by rw [z]; exact List.mem_cons_self ..)
  obtain ⟨us0, e0, d0⟩ := h.at' 0 t top rfl rfl
  refine ⟨fun b o q => k b o (ne_of_none q (h.nR t (List.mem_cons_self ..))) (h.sm _ _ q), k L _ hLt h.hL, h.nL, h.nR, h.nd, h.len, fun j a ps ha hp => ?_⟩
  cases j with
  | zero =>
    cases ha
    cases hp
    exact ⟨us', e, d⟩
  | succ j =>
    obtain ⟨us2, e2, d2⟩ := h.at' (j + 1) a ps ha hp
    refine ⟨us2, k a _ (fun z => nd.2.1 (by rw [← z]; exact List.mem_of_getElem? (i := j) ha)) e2, dpAll_keep (L := t) k ⟨us0, e0⟩ (noList_row ps) d2⟩
theorem spl_len : ∀ (r : List Inl) (w : List Nat), (spl w r).1.length ≤ 2 * r.length ∧ (spl w r).2.length ≤ w.length + txtN r
  | [], w => ⟨Nat.le_refl _, Nat.le_refl _⟩
  | x :: r, w => by
    by_cases h : isT x = true
    · obtain ⟨t, rfl⟩ := isT_is h
      obtain ⟨h1, h2⟩ := spl_len r (w ++ t)
      rw [List.length_append] at h2
      refine ⟨?_, ?_⟩
      · show (spl (w ++ t) r).1.length ≤ 2 * (r.length + 1)
        omega
      · show (spl (w ++ t) r).2.length ≤ w.length + (t.length + txtN r)
        omega
    · have h' : isT x = false := by simpa using h
      obtain ⟨h1, h2⟩ := spl_len r []
      have ltx : (txtI w).length ≤ 1 := by
        unfold txtI
        split
        · exact Nat.zero_le _
        · exact Nat.le_refl _
      have e : txtN (x :: r) = txtN r := by cases x <;> first | rfl | cases h'
      rw [spl_other h', e]
      refine ⟨?_, ?_⟩
      · rw [List.length_append, List.length_cons, List.length_cons]
        omega
      · have : (spl [] r).2.length ≤ 0 + txtN r := h2
        show (spl [] r).2.length ≤ _
        omega
theorem put_top {K : PySem.W.Frag} {Hd H' : Hp} {W tp : Addr} {R' : List Addr} {x : List Inl} {r : List (List Inl)} {m : List Nat} {p i : Nat} (bi : BInv K Hd H' W (tp :: R') (nrm (x :: r))) (rb : RB p i (x :: r)) (hm : m.length ≤ 1000) (hp : p ≤ 10000) (hi : i ≤ 1000) :
    ∃ us dn w, H' tp = some (.lst us) ∧ DpAll K H' us (rowD (dn ++ txtI w)) ∧ noT dn ∧ PyData.canLayAll0 (rowD (dn ++ txtI w)) = true ∧ w.length + m.length ≤ 4000000 ∧ dn.length ≤ 4000000 ∧ ∀ H2 us', Keeps tp H' H2 → H2 tp = some (.lst us') → DpAll K H2 us' (rowD (dn ++ txtI (w ++ m))) → BInv K Hd H2 W (tp :: R') (nrm (addM (.text m) (x :: r))) := by
  obtain ⟨us, e, d⟩ := bi.at' 0 tp (jnR [] x) rfl rfl
  have hsz : x.length + txtN x + 1 ≤ rowsN (x :: r) := rowsN_at (rows := x :: r) (i := 0) rfl
  have := rb.siz
  obtain ⟨l1, l2⟩ := spl_len x []
  have l2' : (spl [] x).2.length ≤ 0 + txtN x := l2
  have hlay := (rb.lay x (List.mem_cons_self ..)).1
  unfold LayR at hlay
  rw [jn_split] at d hlay
  refine ⟨us, (spl [] x).1, (spl [] x).2, e, d, spl_noT _ _, hlay, by omega, by omega, fun H2 us' k e2 d2 => ?_⟩
  refine (bi.top k e2 (top' := jnR [] (x ++ [.text m])) ?_)
  rw [jn_spl]
  exact d2
theorem offs_le (ps : List Pc) (i : Nat) : offs ps i ≤ (flatP ps).length := by
  unfold offs flatP
  conv => rhs; rw [← List.take_append_drop i ps, List.flatMap_append, List.length_append]
  omega
theorem jn_len (r : List Inl) : (jnR [] r).length ≤ 2 * r.length + 1 := by
  rw [jn_split, List.length_append]
  have := (spl_len r []).1
  have ltx : (txtI (spl [] r).2).length ≤ 1 := by
    unfold txtI
    split
    · exact Nat.zero_le _
    · exact Nat.le_refl _
  omega
def MkOk (m : Mk) : Prop := m.1 ≤ m.2.1 ∧ m.2.1 ≤ m.1 + 2 ∧ m.2.1 ≤ 100000 ∧ m.2.2.1 ≤ m.2.2.2 ∧ m.2.2.2 ≤ m.2.2.1 + 2 ∧ m.2.2.2 ≤ 100000
def sp__law_built (K : PySem.W.Frag) : Sp := fun vs H Q _ => ∃ (t : List Nat) (pa ma : Addr) (us : List V) (ps : List Pc) (um : List V) (ms : List Mk) (rows : List (List Inl)), vs = [.str (S t), .ref pa, .ref ma] ∧ H pa = some (.lst us) ∧ PcsAt H us ps ∧ t = flatP ps ∧ PcSm ps ∧ t.length ≤ 10000 ∧ ps.length ≤ 1000 ∧ H ma = some (.lst um) ∧ MksAt H um ms ∧ (∀ m ∈ ms, MkOk m) ∧ ms.length ≤ 1000000 ∧ bldL ms 0 ps [[]] = some rows ∧
  ∀ H' v, Same H H' → Dp K H' v (.tuple (rowD (jnR [] (rows.getLast?.getD [])))) → Q v H'
theorem ok__law_built {P : Program} {w : World} {K : PySem.W.Frag} {mg : Str → Option Value} {base : Heap} (T : Txt w K mg) : FnOk P w K mg base CX0 2 T.a__law_built T.d__law_built ["_law_text", "_law_pieces", "_law_marks"] (sp__law_built K) := by
  refine T.f__law_built.ok sc__law_built (fun vs H Q E h => ?_) (fun cdv A outer s H vs Q E hr h => ?_)
  · obtain ⟨t, pa, ma, us, ps, um, ms, rows, rfl, _⟩ := h
    rfl
  · obtain ⟨t, pa, ma, us, ps, um, ms, rows, rfl, hpa, hps, ht, hsm, htl, hpl, hma, hms, hmk, hml, hb, q⟩ := h
    refine ⟨_, (pss_cons (ps_par (i := 3) (j := 4) (by rfl) sc__law_built.nd rfl rfl (by decide) rfl rfl (pa_cons pe_dnewK (pa_cons pe_dnewK pa_nil)) (by rfl))
        (pss_cons (ps_for PassesOwn.never rfl (pi_list (pv 2)) (pg_name (i := 5) sc__law_built.nd rfl (.inl rfl)) (pss_cons (ps_for PassesOwn.never rfl (pi_range2 (by rfl) T.z_range (pa_cons (pe_ix ix_tup (pv 5) pe_int (fun _ _ => rfl)) (pa_cons (pe_ix ix_tup (pv 5) pe_int (fun _ _ => rfl)) pa_nil))) (pg_name (i := 6) sc__law_built.nd rfl (.inl rfl)) (pss_one (ps_asg (pv 5) (pg_sub (pv 3) (pv 6) (set_dict (hu_of hr))))))
        (pss_one (ps_for PassesOwn.never rfl (pi_range2 (by rfl) T.z_range (pa_cons (pe_ix ix_tup (pv 5) pe_int (fun _ _ => rfl)) (pa_cons (pe_ix ix_tup (pv 5) pe_int (fun _ _ => rfl)) pa_nil))) (pg_name (i := 6) sc__law_built.nd rfl (.inl rfl)) (pss_one (ps_asg (pv 5) (pg_sub (pv 4) (pv 6) (set_dict (hu_of hr)))))))))
        (pss_cons (ps_set (i := 7) sc__law_built.nd rfl (.inl rfl) (pe_lst (pa_cons (pe_lst pa_nil) pa_nil)))
        (pss_cons (ps_for PassesOwn.never rfl (pi_list (pv 1)) (pg_tup (by rfl) (pgs_cons (pg_name (i := 8) sc__law_built.nd rfl (.inl rfl)) (pgs_cons (pg_name (i := 9) sc__law_built.nd rfl (.inl rfl)) (pgs_cons (pg_name (i := 10) sc__law_built.nd rfl (.inl rfl)) pgs_nil)))) (pss_cons (ps_if (pt_cmpR op_notN (pv 10) pe_non (nomark _)) (pss_cons (ps_if (pt_val (pe_callB call_isi (by rfl) T.z_isinstance (by decide +kernel) (pa_cons (pv 10) (pa_cons (pe_bltn (v := .ty "tuple") (by rfl) T.z_tuple (by decide +kernel) rfl) pa_nil)))) (pss_one (ps_expr (pe_bm PySem.F.plainAttrs_list PySem.F.slot_list_append PySem.F.type_list_append mt_append (pe_ix ix_list (pv 7) (pe_un un_neg pe_int) (fun _ _ => rfl)) (pa_cons (pv 10) pa_nil)))) (pss_one (ps_expr (pe_call (ok__law_put T) (hr.mono (by decide)) (by rfl) T.g__law_put T.f__law_put.kp T.b__law_put .nil pass0 (pa_cons (pe_ix ix_list (pv 7) (pe_un un_neg pe_int) (fun _ _ => rfl)) (pa_cons (pv 10) pa_nil))))))
        (pss_one ps_continue)) pss_nil)
        (pss_one (ps_for PassesOwn.never rfl (pi_range2 (by rfl) T.z_range (pa_cons (pv 8) (pa_cons (pv 9) pa_nil))) (pg_name (i := 6) sc__law_built.nd rfl (.inl rfl)) (pss_one (ps_if (pt_cmp (pc_din (hu_of hr) (pv 6) (pv 3)) (by rfl)) (pss_one (ps_if (pt_cmpR op_eq (pv 6) (pe_ix ix_tup (pe_dget (hu_of hr) (pv 3) (pv 6) (fun _ _ => rfl)) pe_int (fun _ _ => rfl)) (nomark _)) (pss_one (ps_expr (pe_bm PySem.F.plainAttrs_list PySem.F.slot_list_append PySem.F.type_list_append mt_append (pv 7) (pa_cons (pe_lst pa_nil) pa_nil)))) pss_nil)) (pss_one (ps_if (pt_cmp (pc_din (hu_of hr) (pv 6) (pv 4)) (by rfl)) (pss_one (ps_if (pt_cmpR op_eq (pe_op op_add (pv 6) pe_int) (pe_ix ix_tup (pe_dget (hu_of hr) (pv 4) (pv 6) (fun _ _ => rfl)) pe_int (fun _ _ => rfl)) (nomark _)) (pss_cons (ps_set (i := 11) sc__law_built.nd rfl (.inl rfl) (pe_callTy call_tuple_of (by rfl) T.z_tuple (by decide +kernel) (pa_cons (pe_bm0 PySem.F.plainAttrs_list PySem.F.slot_list_pop PySem.F.type_list_pop mt_pop (pv 7)) pa_nil)))
        (pss_one (ps_expr (pe_bm PySem.F.plainAttrs_list PySem.F.slot_list_append PySem.F.type_list_append mt_append (pe_ix ix_list (pv 7) (pe_un un_neg pe_int) (fun _ _ => rfl)) (pa_cons (pe_tup (pa_cons (pe_ifExp (pt_cmpR op_eq (pe_op op_sub (pe_ix ix_tup (pe_dget (hu_of hr) (pv 4) (pv 6) (fun _ _ => rfl)) pe_int (fun _ _ => rfl)) (pe_ix ix_tup (pe_dget (hu_of hr) (pv 4) (pv 6) (fun _ _ => rfl)) pe_int (fun _ _ => rfl))) pe_int (nomark _)) pe_str pe_str) (pa_cons (pv 11) pa_nil))) pa_nil))))) pss_nil)) (pss_one (ps_expr (pe_call (ok__law_put T) (hr.mono (by decide)) (by rfl) T.g__law_put T.f__law_put.kp T.b__law_put .nil pass0 (pa_cons (pe_ix ix_list (pv 7) (pe_un un_neg pe_int) (fun _ _ => rfl)) (pa_cons (pe_ix ix_str (pv 0) (pv 6) (fun _ _ => rfl)) pa_nil)))))))))))))
        (pss_one (ps_ret (pe_callTy call_tuple_of (by rfl) T.z_tuple (by decide +kernel) (pa_cons (pe_ix ix_list (pv 7) pe_int (fun _ _ => rfl)) pa_nil)))))))), ?_⟩
    refine fun D1 nD1 => fun D2 nD2 => ⟨_, _, rfl, ?_⟩
    have s0 : Same H (upd (upd H D1 (.dK [])) D2 (.dK [])) := (same_new nD1).trans (same_new nD2)
    have hD1 : (upd (upd H D1 (.dK [])) D2 (.dK [])) D1 = some (.dK []) := same_new nD2 _ _ upd_same
    have hD2 : (upd (upd H D1 (.dK [])) D2 (.dK [])) D2 = some (.dK []) := upd_same
    have d12 : D1 ≠ D2 := ne_of_none (show (upd H D1 (.dK [])) D1 = some (.dK []) from upd_same) nD2
    have nD2' : H D2 = none := by
      rw [upd_ne d12.symm] at nD2
      exact nD2
    generalize (upd (upd H D1 (.dK [])) D2 (.dK [])) = H0 at s0 hD1 hD2 ⊢
    refine ⟨_, rfl, ma, rfl, ⟨um, SqL.of (s0 _ _ hma)⟩, ?_⟩
    refine for_list (K := K) (a := ma) (xs := um) (fun i σ' H' => ∃ (o5 o6 : Option V), σ' = [some (.str (S t)), some (.ref pa), some (.ref ma), some (.ref D1), some (.ref D2), o5, o6, none, none, none, none, none] ∧ Same H H' ∧ DMk H' D1 (begAt (ms.take i)) (2 * i) ∧ DMk H' D2 (endAt (ms.take i)) (2 * i)) ?_ ?_ ?_ ?_
    · exact ⟨none, none, rfl, s0, ⟨[], hD1, Nat.le_refl _, fun k => rfl⟩, ⟨[], hD2, Nat.le_refl _, fun k => rfl⟩⟩
    · rintro i σ' H' _ ⟨o5, o6, rfl, s1, _⟩
      exact SqL.of (s1 _ _ hma)
    · rintro i u σ' H' hu ⟨o5, o6, rfl, s1, b1, b2⟩
      have hi : i < ms.length := by
        rw [← hms.len]
        exact (List.getElem?_eq_some_iff.mp hu).1
      obtain ⟨m, hm⟩ : ∃ m, ms[i]? = some m := ⟨_, List.getElem?_eq_getElem hi⟩
      obtain ⟨q1, rfl, hq1⟩ := hms.at' i u m hu hm
      obtain ⟨k1, k2, k3, k4, k5, k6⟩ := hmk m (List.mem_of_getElem? hm)
      have hts : ms.take (i + 1) = ms.take i ++ [m] := by
        rw [List.take_succ, hm]
        rfl
      refine ⟨_, rfl, q1, _, _, _, rfl, rfl, SqT.of (s1 _ _ hq1), atI_nat (j := 0) rfl, _, rfl, q1, _, _, _, rfl, rfl, SqT.of (s1 _ _ hq1), atI_nat (j := 1) rfl, _, _, rfl, ⟨by omega, by omega, by omega, by omega⟩, ?_⟩
      refine for_range (lo := ((m.1 : Nat) : Int)) (n := (((m.2.1 : Nat) : Int) - ((m.1 : Nat) : Int)).toNat) (fun j σ' H' => ∃ (o6 : Option V), σ' = [some (.str (S t)), some (.ref pa), some (.ref ma), some (.ref D1), some (.ref D2), some (.ref q1), o6, none, none, none, none, none] ∧ Same H H' ∧ DMk H' D1 (fun k => if m.1 ≤ k ∧ k < m.1 + j then some m else begAt (ms.take i) k) (2 * i + j) ∧ DMk H' D2 (endAt (ms.take i)) (2 * i)) ?_ ?_ ?_
      · exact ⟨_, rfl, s1, b1.congr fun k => by rw [if_neg (by omega)], b2⟩
      · rintro j σ' H2 hj ⟨o6, rfl, s2, c1, c2⟩
        obtain ⟨kvs, e1, e2, e3⟩ := c1
        have ek : ((m.1 : Nat) : Int) + (j : Int) = ((m.1 + j : Nat) : Int) := by omega
        rw [ek]
        have p1 := DMk.put (k := m.1 + j) e1 e2 e3 (s2 _ _ hq1)
        refine ⟨_, rfl, _, rfl, _, rfl, D1, _, rfl, DPut.k (k := Sum.inl ((m.1 + j : Nat) : Int)) e1 (by rw [sizeLine_eq]; omega), ?_⟩
        refine ⟨_, rfl, same_upd1 s2 nD1, ?_, c2.other d12.symm (fun xs z => by rw [e1] at z; cases z)⟩
        refine (show DMk _ D1 _ (2 * i + (j + 1)) from p1).congr fun k => ?_
        by_cases z : k = m.1 + j
        · rw [if_pos z, if_pos (by omega)]
        · rw [if_neg z]
          by_cases z2 : m.1 ≤ k ∧ k < m.1 + j
          · rw [if_pos z2, if_pos (by omega)]
          · rw [if_neg z2, if_neg (by omega)]
      · rintro σ' H2 ⟨o6, rfl, s2, c1, c2⟩
        have en : m.1 + (((m.2.1 : Nat) : Int) - ((m.1 : Nat) : Int)).toNat = m.2.1 := by omega
        rw [en] at c1
        replace c1 : DMk H2 D1 (begAt (ms.take (i + 1))) (2 * (i + 1)) := by
          obtain ⟨kvs, e1, e2, e3⟩ := c1
          refine DMk.congr ⟨kvs, e1, by omega, e3⟩ fun k => ?_
          rw [hts, beg_snoc]
          by_cases z : inB k m = true
          · rw [if_pos z, if_pos (inB_iff.mp z)]
          · rw [if_neg z, if_neg (fun y => z (inB_iff.mpr y))]
        refine ⟨_, rfl, q1, _, _, _, rfl, rfl, SqT.of (s2 _ _ hq1), atI_nat (j := 2) rfl, _, rfl, q1, _, _, _, rfl, rfl, SqT.of (s2 _ _ hq1), atI_nat (j := 3) rfl, _, _, rfl, ⟨by omega, by omega, by omega, by omega⟩, ?_⟩
        refine for_range (lo := ((m.2.2.1 : Nat) : Int)) (n := (((m.2.2.2 : Nat) : Int) - ((m.2.2.1 : Nat) : Int)).toNat) (fun j σ' H' => ∃ (o6 : Option V), σ' = [some (.str (S t)), some (.ref pa), some (.ref ma), some (.ref D1), some (.ref D2), some (.ref q1), o6, none, none, none, none, none] ∧ Same H H' ∧ DMk H' D2 (fun k => if m.2.2.1 ≤ k ∧ k < m.2.2.1 + j then some m else endAt (ms.take i) k) (2 * i + j) ∧ DMk H' D1 (begAt (ms.take (i + 1))) (2 * (i + 1))) ?_ ?_ ?_
        · exact ⟨_, rfl, s2, c2.congr fun k => by rw [if_neg (by omega)], c1⟩
        · rintro j σ' H2 hj ⟨o6, rfl, s2, c2, c1⟩
          obtain ⟨kvs, e1, e2, e3⟩ := c2
          have ek : ((m.2.2.1 : Nat) : Int) + (j : Int) = ((m.2.2.1 + j : Nat) : Int) := by omega
          rw [ek]
          have p1 := DMk.put (k := m.2.2.1 + j) e1 e2 e3 (s2 _ _ hq1)
          refine ⟨_, rfl, _, rfl, _, rfl, D2, _, rfl, DPut.k (k := Sum.inl ((m.2.2.1 + j : Nat) : Int)) e1 (by rw [sizeLine_eq]; omega), ?_⟩
          refine ⟨_, rfl, same_upd1 s2 nD2', ?_, c1.other d12 (fun xs z => by rw [e1] at z; cases z)⟩
          refine (show DMk _ D2 _ (2 * i + (j + 1)) from p1).congr fun k => ?_
          by_cases z : k = m.2.2.1 + j
          · rw [if_pos z, if_pos (by omega)]
          · rw [if_neg z]
            by_cases z2 : m.2.2.1 ≤ k ∧ k < m.2.2.1 + j
            · rw [if_pos z2, if_pos (by omega)]
            · rw [if_neg z2, if_neg (by omega)]
        · rintro σ' H2 ⟨o6, rfl, s2, c2, c1⟩
          have en : m.2.2.1 + (((m.2.2.2 : Nat) : Int) - ((m.2.2.1 : Nat) : Int)).toNat = m.2.2.2 := by omega
          rw [en] at c2
          refine ⟨_, _, rfl, s2, c1, ?_⟩
          obtain ⟨kvs, e1, e2, e3⟩ := c2
          refine DMk.congr ⟨kvs, e1, by omega, e3⟩ fun k => ?_
          rw [hts, end_snoc]
          by_cases z : inE k m = true
          · rw [if_pos z, if_pos (inE_iff.mp z)]
          · rw [if_neg z, if_neg (fun y => z (inE_iff.mpr y))]
    · rintro σ' Hd ⟨o5, o6, rfl, s1, b1, b2⟩
      rw [hms.len, List.take_length] at b1 b2
      refine ⟨(by show 0 ≤ sizeLine; decide), fun r0 nr0 => ⟨(by show 1 ≤ sizeLine; decide), fun W nW => ?_⟩⟩
      have nrW : r0 ≠ W := ne_of_none (show (upd Hd r0 (.lst [])) r0 = some (.lst []) from upd_same) nW
      have nW0 : Hd W = none := by
        rw [upd_ne nrW.symm] at nW
        exact nW
      have bi0 : BInv K Hd (upd (upd Hd r0 (.lst [])) W (.lst [.ref r0])) W [r0] (nrm [[]]) := by
        refine ⟨(same_new nr0).trans (same_new nW), upd_same, nW0, fun a ha => by rw [List.mem_singleton.mp ha]; exact nr0, by simp [nrW.symm], rfl, fun i a ps ha hp => ?_⟩
        cases i with
        | zero =>
          cases ha
          cases hp
          exact ⟨[], by rw [upd_ne nrW]; exact upd_same, .nil⟩
        | succ i => cases ha
      have hpa' := bi0.sm _ _ (s1 _ _ hpa)
      generalize (upd (upd Hd r0 (.lst [])) W (.lst [.ref r0])) = H1 at bi0 hpa' ⊢
      have hpsd := hps.same (fun b xs e => s1 b _ e)
      have hpad := s1 _ _ hpa
      refine ⟨_, rfl, pa, rfl, ⟨us, SqL.of hpa'⟩, ?_⟩
      refine for_list (K := K) (a := pa) (xs := us) (fun i σ' H' => ∃ (o6 o8 o9 o10 o11 : Option V) (R : List Addr) (rws : List (List Inl)), σ' = [some (.str (S t)), some (.ref pa), some (.ref ma), some (.ref D1), some (.ref D2), o5, o6, some (.ref W), o8, o9, o10, o11] ∧ BInv K Hd H' W R (nrm rws) ∧ bldL ms (offs ps i) (ps.drop i) rws = some rows ∧ RB (offs ps i) i rws ∧ rws ≠ []) ?_ ?_ ?_ ?_
      · exact ⟨_, _, _, _, _, _, _, rfl, bi0, by rw [offs_zero, List.drop_zero]; exact hb, by rw [offs_zero]; exact rb_zero, by simp⟩
      · rintro i σ' H' _ ⟨o6, o8, o9, o10, o11, R, rws, rfl, bi, _⟩
        exact SqL.of (bi.sm _ _ hpad)
      · rintro i u σ' H' hu ⟨o6, o8, o9, o10, o11, R, rws, rfl, bi, hbl, rb, hne⟩
        have hi : i < ps.length := by
          rw [← hps.len]
          exact (List.getElem?_eq_some_iff.mp hu).1
        obtain ⟨x, hx⟩ : ∃ x, ps[i]? = some x := ⟨_, List.getElem?_eq_getElem hi⟩
        have hdr : ps.drop i = x :: ps.drop (i + 1) := by
          obtain ⟨_, e⟩ := List.getElem?_eq_some_iff.mp hx
          rw [← e]
          exact List.drop_eq_getElem_cons hi
        obtain ⟨u', hu', q1, v, rfl, hq1, hv⟩ := hpsd.at' i x hx
        rw [hu] at hu'
        cases hu'
        have hov := offs_succ hx
        rw [hdr] at hbl
        refine ⟨q1, _, rfl, SqT.of (bi.sm _ _ hq1), rfl, _, _, rfl, _, _, rfl, _, _, rfl, rfl, ?_⟩
        cases x with
        | txt y m =>
          have hv' : v = .str (S m) := hv
          subst hv'
          obtain ⟨sm1, sm2⟩ := hsm _ (List.mem_of_getElem? hx)
          obtain ⟨row, rest, rfl⟩ : ∃ a b, rws = a :: b := by
            cases rws with
            | nil => exact absurd rfl hne
            | cons a b => exact ⟨a, b, rfl⟩
          obtain ⟨tp, R', rfl⟩ : ∃ a b, R = a :: b := by
            cases R with
            | nil => exact absurd bi.len (by simp [nrm])
            | cons a b => exact ⟨a, b, rfl⟩
          refine ⟨_, rfl, rfl, _, rfl, ite2 (fun _ => ?_) (fun z => absurd (show (!decide (V.str (S m) = V.non)) = true by rw [decide_eq_false (fun e => by cases e)]; rfl) z)⟩
          refine ⟨_, rfl, .str (S m), .ty "tuple", _, _, false, rfl, .ty "tuple", .base (.str (S m)), kit_ty (by decide +kernel : kitB "str" "tuple" = some false), _, rfl, iteF ?_⟩
          have hWl := bi.hL
          rw [List.reverse_cons, List.map_append] at hWl
          refine ⟨_, rfl, _, rfl, W, _, _, _, rfl, rfl, SqL.of hWl, atI_last _ _, _, rfl, ?_⟩
          have hpo : offs ps i ≤ 10000 := Nat.le_trans (offs_le ps i) (by rw [← ht]; exact htl)
          obtain ⟨us2, dn, w2, e1, e2, e3, e4, e5, e6, hk⟩ := put_top (m := m) bi rb sm2 hpo (by omega)
          refine ⟨tp, us2, dn, w2, m, rfl, e1, e2, e3, e4, e5, e6, fun H2 us' kk e7 e8 => ?_⟩
          have bi2 := hk H2 us' kk e7 e8
          refine ⟨_, _, _, _, _, _, addM (.text m) (row :: rest), rfl, bi2, ?_, ?_, addM_ne (by simp)⟩
          · rw [hov]
            exact hbl
          · exact (rb_txt rb sm1 sm2).up (by omega) (Nat.le_refl _)
        | brk =>
          obtain ⟨sa, rfl, hsa⟩ := hv
          obtain ⟨row, rest, rfl⟩ : ∃ a b, rws = a :: b := by
            cases rws with
            | nil => exact absurd rfl hne
            | cons a b => exact ⟨a, b, rfl⟩
          obtain ⟨tp, R', rfl⟩ : ∃ a b, R = a :: b := by
            cases R with
            | nil => exact absurd bi.len (by simp [nrm])
            | cons a b => exact ⟨a, b, rfl⟩
          refine ⟨_, rfl, rfl, _, rfl, ite2 (fun _ => ?_) (fun z => absurd (show (!decide (V.ref sa = V.non)) = true by rw [decide_eq_false (fun e => by cases e)]; rfl) z)⟩
          have hsa' := bi.sm _ _ hsa
          refine ⟨_, rfl, .ref sa, .ty "tuple", _, _, true, rfl, .ty "tuple", .base (.tup hsa'), kit_ty (by decide +kernel : kitB "tuple" "tuple" = some true), _, rfl, iteT ?_⟩
          have hWl := bi.hL
          rw [List.reverse_cons, List.map_append] at hWl
          obtain ⟨us2, e2, l2, bi2⟩ := BInv.add (top := jnR [] row) (r := nrm rest) bi (dp_soft hsa')
          have hrl : (jnR [] row).length ≤ 4000000 := by
            have hsz : row.length + txtN row + 1 ≤ rowsN (row :: rest) := rowsN_at (rows := row :: rest) (i := 0) rfl
            have := rb.siz
            have hpo : offs ps i ≤ 10000 := Nat.le_trans (offs_le ps i) (by rw [← ht]; exact htl)
            have := jn_len row
            omega
          refine ⟨_, rfl, _, rfl, W, _, _, _, rfl, rfl, SqL.of hWl, atI_last _ _, .inl ⟨rfl, _, SqL.of e2⟩, _, rfl, tp, us2, _, rfl, rfl, e2, by rw [l2, sizeLine_eq]; omega, ?_⟩
          refine ⟨_, _, _, _, _, tp :: R', addM .soft (row :: rest), rfl, ?_, ?_, ?_, addM_ne (by simp)⟩
          · have : nrm (addM .soft (row :: rest)) = (jnR [] row ++ [.soft]) :: nrm rest := by
              show jnR [] (row ++ [.soft]) :: nrm rest = _
              rw [jn_add rfl]
            rw [this]
            exact bi2
          · rw [hov]
            exact hbl
          · exact (rb_soft rb).up (by omega) (Nat.le_refl _)
        | run c n =>
          have hv' : v = .non := hv
          subst hv'
          obtain ⟨mid, hpos, hrest⟩ := Option.bind_eq_some_iff.mp (show (posR ms c (offs ps i) n rws).bind (bldL ms (offs ps i + n) (ps.drop (i + 1))) = some rows from hbl)
          have hwl : (Pc.run c n).w.length = n := List.length_replicate
          rw [hwl] at hov ⊢
          have hoe := offs_le ps (i + 1)
          rw [hov, ← ht] at hoe
          have hcs := hsm _ (List.mem_of_getElem? hx)
          have hcut := flat_cut hx
          rw [← ht] at hcut
          have hcut' : t.drop (offs ps i) = List.replicate n c ++ flatP (ps.drop (i + 1)) := hcut
          clear hcut
          generalize offs ps i = p at *
          refine ⟨_, rfl, rfl, _, rfl, ite2 (fun h => absurd h (by rw [decide_eq_true rfl]; exact Bool.false_ne_true)) (fun _ => ?_)⟩
          refine ⟨_, rfl, _, rfl, _, _, rfl, ⟨by omega, by omega, by omega, by omega⟩, ?_⟩
          refine for_range (lo := (p : Int)) (n := (((p + n : Nat) : Int) - (p : Int)).toNat) (fun j σ' H' => ∃ (o6 o11 : Option V) (R : List Addr) (rws : List (List Inl)), σ' = [some (.str (S t)), some (.ref pa), some (.ref ma), some (.ref D1), some (.ref D2), o5, o6, some (.ref W), some (.int (p : Int)), some (.int ((p + n : Nat) : Int)), some .non, o11] ∧ BInv K Hd H' W R (nrm rws) ∧ posR ms c (p + j) (n - j) rws = some mid ∧ RB (p + j) i rws ∧ rws ≠ []) ?_ ?_ ?_
          · exact ⟨_, _, _, _, rfl, bi, hpos, rb, hne⟩
          · clear hpos rb hne bi
            rintro j σ' H2 hj ⟨o6', o11', R, rws, rfl, bi, hpos, rb, hne⟩
            have hjn : j < n := by omega
            obtain ⟨n', hn'⟩ : ∃ n', n - j = n' + 1 := ⟨n - j - 1, by omega⟩
            rw [hn'] at hpos
            obtain ⟨rw2, hstep, hnext⟩ := Option.bind_eq_some_iff.mp (show (posStep ms c (p + j) rws).bind (posR ms c (p + j + 1) n') = some mid from hpos)
            have hnext' : posR ms c (p + (j + 1)) (n - (j + 1)) rw2 = some mid := by
              rw [show p + (j + 1) = p + j + 1 by omega, show n - (j + 1) = n' by omega]
              exact hnext
            have rb2 := rb_pos rb hcs hstep
            have ne2 := pos_ne hne hstep
            have ek : (p : Int) + (j : Int) = ((p + j : Nat) : Int) := by omega
            rw [ek]
            obtain ⟨row, rest, rfl⟩ : ∃ a b, rws = a :: b := by
              cases rws with
              | nil => exact absurd rfl hne
              | cons a b => exact ⟨a, b, rfl⟩
            obtain ⟨tp, R', rfl⟩ : ∃ a b, R = a :: b := by
              cases R with
              | nil => exact absurd bi.len (by simp [nrm])
              | cons a b => exact ⟨a, b, rfl⟩
            obtain ⟨kv1, f1, _, f3⟩ := b1.same bi.sm
            obtain ⟨kv2, g1, _, g3⟩ := b2.same bi.sm
            replace f3 := f3 (p + j)
            replace g3 := g3 (p + j)
            refine ⟨_, rfl, _, rfl, D1, _, rfl, DGet.k (k := Sum.inl ((p + j : Nat) : Int)) f1, _, rfl, ?_⟩
            unfold posStep at hstep
            have hpo : p + j ≤ 10000 := by omega
            cases hb : begAt ms (p + j) with
            | some m =>
              rw [hb] at hstep f3
              dsimp only at hstep f3
              obtain ⟨q, q1, q2⟩ := f3
              have hG := DGet.k (k := Sum.inl ((p + j : Nat) : Int)) f1
              rw [q1] at hG
              show (if (valV kv1 (Sum.inl ((p + j : Nat) : Int))).isSome = true then _ else _)
              rw [q1]
              refine iteT ⟨_, rfl, _, rfl, _, rfl, D1, _, rfl, hG, q, _, _, _, rfl, rfl, SqT.of q2, atI_nat (j := 0) rfl, rfl, _, rfl, ?_⟩
              show (if decide (V.int ((p + j : Nat) : Int) = V.int ((m.1 : Nat) : Int)) = true then _ else _)
              have hst := Option.some.inj hstep
              by_cases z : p + j = m.1
              · rw [decide_eq_true (by rw [z])]
                rw [if_pos z] at hst
                subst hst
                refine iteT ⟨_, rfl, .inl ⟨rfl, _, SqL.of bi.hL⟩, (by show 0 ≤ sizeLine; decide), fun r1 nr1 => ?_⟩
                have s3 : Same H2 (upd H2 r1 (.lst [])) := same_new nr1
                have bi1 := bi.same s3
                have hr1 : (upd H2 r1 (.lst [])) r1 = some (.lst []) := upd_same
                have nr0 : Hd r1 = none := by
                  cases e : Hd r1 with
                  | none => rfl
                  | some o =>
                    have := bi.sm _ _ e
                    rw [nr1] at this
                    cases this
                have nrR : r1 ∉ W :: (tp :: R') := fun hm => by
                  rcases List.mem_cons.mp hm with e | hm
                  · rw [e, bi.hL] at nr1
                    cases nr1
                  · obtain ⟨i0, hi0⟩ := List.getElem?_of_mem hm
                    obtain ⟨us9, e9, _⟩ := bi.at' i0 r1 _ hi0 (List.getElem?_eq_getElem (by rw [← bi.len]; exact (List.getElem?_eq_some_iff.mp hi0).1))
                    rw [e9] at nr1
                    cases nr1
                have bi2 := bi1.push (Ts := [r1]) (fun a ha => by rw [List.mem_singleton.mp ha]; exact hr1) (fun a ha => by rw [List.mem_singleton.mp ha]; exact nr0) (by
                  have nd := bi.nd
                  rw [List.nodup_cons] at nd ⊢
                  rw [List.reverse_singleton, List.singleton_append, List.nodup_cons]
                  refine ⟨fun hm => ?_, fun hm => nrR (List.mem_cons_of_mem _ hm), nd.2⟩
                  rcases List.mem_cons.mp hm with e | hm
                  · exact nrR (by rw [← e]; exact List.mem_cons_self ..)
                  · exact nd.1 hm)
                have hRl : (tp :: R').length ≤ 4000000 := by
                  rw [bi.len]
                  have h1 := rows_len (row :: rest)
                  have h2 := rb.siz
                  have h3 : (nrm (row :: rest)).length = (row :: rest).length := List.length_map ..
                  omega
                refine ⟨W, _, _, rfl, rfl, s3 _ _ bi.hL, by rw [List.length_map, List.length_reverse, sizeLine_eq]; omega, ?_⟩
                exact ⟨_, _, r1 :: tp :: R', [] :: row :: rest, rfl, bi2, hnext', rb2, ne2⟩
              · rw [decide_eq_false (fun e => z (by have := V.int.inj e; omega))]
                rw [if_neg z] at hst
                subst hst
                exact iteF ⟨_, _, _, _, rfl, bi, hnext', rb2, ne2⟩
            | none =>
              rw [hb] at hstep f3
              dsimp only at hstep f3
              show (if (valV kv1 (Sum.inl ((p + j : Nat) : Int))).isSome = true then _ else _)
              rw [f3]
              refine iteF ⟨_, rfl, _, rfl, D2, _, rfl, DGet.k (k := Sum.inl ((p + j : Nat) : Int)) g1, _, rfl, ?_⟩
              cases he : endAt ms (p + j) with
              | some m =>
                rw [he] at hstep g3
                dsimp only at hstep g3
                obtain ⟨q, q1, q2⟩ := g3
                have hG := DGet.k (k := Sum.inl ((p + j : Nat) : Int)) g1
                rw [q1] at hG
                show (if (valV kv2 (Sum.inl ((p + j : Nat) : Int))).isSome = true then _ else _)
                rw [q1]
                refine iteT ⟨_, rfl, _, _, rfl, rfl, _, rfl, _, rfl, D2, _, rfl, hG, q, _, _, _, rfl, rfl, SqT.of q2, atI_nat (j := 3) rfl, rfl, _, rfl, ?_⟩
                show (if decide (V.int (((p + j : Nat) : Int) + 1) = V.int ((m.2.2.2 : Nat) : Int)) = true then _ else _)
                by_cases z : p + j + 1 = m.2.2.2
                · rw [decide_eq_true (by rw [← z]; rfl)]
                  rw [if_pos z] at hstep
                  obtain ⟨nxt, rest2, rfl⟩ : ∃ a b, rest = a :: b := by
                    cases rest with
                    | nil => cases hstep
                    | cons a b => exact ⟨a, b, rfl⟩
                  have hst := Option.some.inj hstep
                  obtain ⟨tn, R2, rfl⟩ : ∃ a b, R' = a :: b := by
                    cases R' with
                    | nil => exact absurd bi.len (by simp [nrm])
                    | cons a b => exact ⟨a, b, rfl⟩
                  obtain ⟨ustop, et, dt⟩ := bi.at' 0 tp (jnR [] row) rfl rfl
                  have nd := bi.nd
                  rw [List.nodup_cons, List.nodup_cons] at nd
                  have hWt : W ≠ tp := fun e => nd.1 (by rw [e]; exact List.mem_cons_self ..)
                  have hWl := bi.hL
                  rw [List.reverse_cons, List.map_append] at hWl
                  have bi1 := BInv.pop (top := jnR [] row) (r := nrm (nxt :: rest2)) bi
                  have hml : (List.map V.ref (tn :: R2).reverse ++ List.map V.ref [tp])[(List.map V.ref (tn :: R2).reverse ++ List.map V.ref [tp]).length - 1]? = some (.ref tp) := by simp
                  refine iteT ⟨_, rfl, .inl ⟨rfl, _, SqL.of hWl⟩, W, _, _, rfl, rfl, hWl, hml, ?_⟩
                  have edl : (List.map V.ref (tn :: R2).reverse ++ List.map V.ref [tp]).dropLast = List.map V.ref (tn :: R2).reverse := List.dropLast_concat
                  rw [edl]
                  have et1 : (upd H2 W (.lst (List.map V.ref (tn :: R2).reverse))) tp = some (.lst ustop) := by rw [upd_ne hWt.symm]; exact et
                  have dt1 := dpAll_row (a := W) (o := .lst (List.map V.ref (tn :: R2).reverse)) bi.hL dt
                  generalize (upd H2 W (.lst (List.map V.ref (tn :: R2).reverse))) = H3 at bi1 et1 dt1 ⊢
                  refine ⟨tp, ustop, rfl, .inl ⟨SqL.of et1, fun tq ntq => ?_⟩⟩
                  have s4 : Same H3 (upd H3 tq (.tup ustop)) := same_new ntq
                  have hq4 : (upd H3 tq (.tup ustop)) tq = some (.tup ustop) := upd_same
                  have dt4 := dpAll_same s4 dt1
                  have bi4 := bi1.same s4
                  generalize (upd H3 tq (.tup ustop)) = H4 at bi4 hq4 dt4 ⊢
                  obtain ⟨kv3, g1', _, g3'⟩ := b2.same bi4.sm
                  replace g3' := g3' (p + j)
                  rw [he] at g3'
                  dsimp only at g3'
                  obtain ⟨q', q1', q2'⟩ := g3'
                  have hG' := DGet.k (k := Sum.inl ((p + j : Nat) : Int)) g1'
                  rw [q1'] at hG'
                  obtain ⟨usn, en, dn⟩ := bi4.at' 0 tn (jnR [] nxt) rfl rfl
                  have hWl4 := bi4.hL
                  rw [List.reverse_cons, List.map_append] at hWl4
                  have hnl : (jnR [] nxt).length ≤ 4000000 := by
                    have hsz : nxt.length + txtN nxt + 1 ≤ rowsN (row :: nxt :: rest2) := rowsN_at (rows := row :: nxt :: rest2) (i := 1) rfl
                    have := rb.siz
                    have := jn_len nxt
                    omega
                  have fin : ∀ (b : Bool), decide (m.2.2.2 - m.2.2.1 = 2) = b → ∀ tt, H4 tt = none → ∃ us6, (upd H4 tt (.tup [.str (wordB b), .ref tq])) tn = some (.lst us6) ∧ us6.length < sizeLine ∧ BInv K Hd (upd (upd H4 tt (.tup [.str (wordB b), .ref tq])) tn (.lst (us6 ++ [.ref tt]))) W (tn :: R2) (nrm rw2) := fun b hb2 tt ntt => by
                    have s5 : Same H4 (upd H4 tt (.tup [.str (wordB b), .ref tq])) := same_new ntt
                    have ht5 : (upd H4 tt (.tup [.str (wordB b), .ref tq])) tt = some (.tup [.str (wordB b), .ref tq]) := upd_same
                    have bi5 := bi4.same s5
                    have hq5 := s5 _ _ hq4
                    have dt5 := dpAll_same s5 dt4
                    generalize (upd H4 tt (.tup [.str (wordB b), .ref tq])) = H5 at ht5 bi5 hq5 dt5 ⊢
                    have hdp : Dp K H5 (.ref tt) (mkI b (jnR [] row)).toD := by
                      cases b
                      · exact .tup (SqT.of ht5) (.cons (.str _) (.cons (.tup (SqT.of hq5) dt5) .nil))
                      · exact .tup (SqT.of ht5) (.cons (.str _) (.cons (.tup (SqT.of hq5) dt5) .nil))
                    obtain ⟨us6, e6, l6, bi6⟩ := BInv.add (top := jnR [] nxt) (r := nrm rest2) bi5 hdp
                    refine ⟨us6, e6, by rw [l6, sizeLine_eq]; omega, ?_⟩
                    have : nrm rw2 = (jnR [] nxt ++ [mkI b (jnR [] row)]) :: nrm rest2 := by
                      rw [← hst, hb2]
                      show jnR [] (nxt ++ [mkI b (jnR [] row)]) :: nrm rest2 = _
                      rw [jn_add (isT_mk _ _)]
                    rw [this]
                    exact bi6
                  refine ⟨_, rfl, _, rfl, W, _, _, _, rfl, rfl, SqL.of hWl4, atI_last _ _, .inl ⟨rfl, _, SqL.of en⟩, ?_⟩
                  refine ⟨_, rfl, _, rfl, D2, _, rfl, hG', q', _, _, _, rfl, rfl, SqT.of q2', atI_nat (j := 3) rfl, _, rfl, _, rfl, D2, _, rfl, hG', q', _, _, _, rfl, rfl, SqT.of q2', atI_nat (j := 2) rfl, _, _, rfl, rfl, rfl, _, rfl, ?_⟩
                  obtain ⟨_, _, _, k4, k5, k6⟩ := hmk m (by
                    have := List.mem_of_find?_eq_some he
                    exact List.mem_reverse.mp this)
                  show (if decide (V.int (((m.2.2.2 : Nat) : Int) - ((m.2.2.1 : Nat) : Int)) = V.int 2) = true then _ else _)
                  by_cases z2 : m.2.2.2 - m.2.2.1 = 2
                  · rw [decide_eq_true (show V.int (((m.2.2.2 : Nat) : Int) - ((m.2.2.1 : Nat) : Int)) = V.int 2 by congr 1; omega)]
                    refine iteT ⟨_, rfl, (by show 2 ≤ sizeLine; decide), fun tt ntt => ?_⟩
                    obtain ⟨us6, e6, l6, bi7⟩ := fin true (decide_eq_true z2) tt ntt
                    exact ⟨tn, us6, _, rfl, rfl, e6, l6, _, _, tn :: R2, rw2, rfl, bi7, hnext', rb2, ne2⟩
                  · rw [decide_eq_false (show ¬ V.int (((m.2.2.2 : Nat) : Int) - ((m.2.2.1 : Nat) : Int)) = V.int 2 from fun e => z2 (by have := V.int.inj e; omega))]
                    refine iteF ⟨_, rfl, (by show 2 ≤ sizeLine; decide), fun tt ntt => ?_⟩
                    obtain ⟨us6, e6, l6, bi7⟩ := fin false (decide_eq_false z2) tt ntt
                    exact ⟨tn, us6, _, rfl, rfl, e6, l6, _, _, tn :: R2, rw2, rfl, bi7, hnext', rb2, ne2⟩
                · rw [decide_eq_false (fun e => z (by have := V.int.inj e; omega))]
                  rw [if_neg z] at hstep
                  have hst := Option.some.inj hstep
                  subst hst
                  exact iteF ⟨_, _, _, _, rfl, bi, hnext', rb2, ne2⟩
              | none =>
                rw [he] at hstep g3
                dsimp only at hstep g3
                have hst := Option.some.inj hstep
                subst hst
                show (if (valV kv2 (Sum.inl ((p + j : Nat) : Int))).isSome = true then _ else _)
                rw [g3]
                have hWl := bi.hL
                rw [List.reverse_cons, List.map_append] at hWl
                have hat : t[p + j]? = some c := by
                  have h1 : (t.drop p)[j]? = some c := by
                    rw [hcut', List.getElem?_append_left (by rw [List.length_replicate]; exact hjn), List.getElem?_replicate, if_pos hjn]
                  rw [List.getElem?_drop] at h1
                  exact h1
                obtain ⟨us2, dn, w2, e1, e2, e3, e4, e5, e6, hk⟩ := put_top (m := [c]) bi rb (by show 1 ≤ 1000; omega) hpo (by omega)
                refine iteF ⟨_, rfl, _, rfl, W, _, _, _, rfl, rfl, SqL.of hWl, atI_last _ _, _, rfl, _, rfl, S t, _, c, rfl, rfl, by rw [S_len]; exact Nat.le_trans htl (by decide), atI_nat (j := p + j) hat, ?_⟩
                refine ⟨tp, us2, dn, w2, [c], rfl, e1, e2, e3, e4, e5, e6, fun H3 us' kk e7 e8 => ?_⟩
                exact ⟨_, _, _, _, rfl, hk H3 us' kk e7 e8, hnext', rb2, ne2⟩
          · rintro σ' H2 ⟨o6, o11, R, rws, rfl, bi, hpos, rb, hne⟩
            have en : (((p + n : Nat) : Int) - (p : Int)).toNat = n := by omega
            rw [en, Nat.sub_self] at hpos
            rw [en] at rb
            cases hpos
            refine ⟨_, _, _, _, _, _, _, rfl, bi, ?_, ?_, hne⟩
            · rw [hov]
              exact hrest
            · rw [hov]
              exact rb.up (Nat.le_refl _) (Nat.le_succ _)
      · rintro σ' H' ⟨o6, o8, o9, o10, o11, R, rws, rfl, bi, hbl, rb, hne⟩
        rw [hps.len, List.drop_length] at hbl
        cases hbl
        obtain ⟨bot, hbot⟩ : ∃ b, R.getLast? = some b := by
          cases hg : R.getLast? with
          | some b => exact ⟨b, rfl⟩
          | none =>
            have := bi.len
            rw [List.getLast?_eq_none_iff.mp hg] at this
            cases rows with
            | nil => exact absurd rfl hne
            | cons a b => cases this
        obtain ⟨ini, rfl⟩ := List.getLast?_eq_some_iff.mp hbot
        have hWl := bi.hL
        rw [List.reverse_append, List.reverse_singleton, List.singleton_append, List.map_cons] at hWl
        obtain ⟨fin, hfin⟩ : ∃ r, rows.getLast? = some r := by
          cases hg : rows.getLast? with
          | some b => exact ⟨b, rfl⟩
          | none => exact absurd (List.getLast?_eq_none_iff.mp hg) hne
        obtain ⟨ini2, rfl⟩ := List.getLast?_eq_some_iff.mp hfin
        have hl := bi.len
        unfold nrm at hl
        rw [List.length_append, List.length_map, List.length_append] at hl
        have hlen : ini.length = ini2.length := Nat.succ.inj hl
        obtain ⟨us2, e2, d2⟩ := bi.at' ini.length bot (jnR [] fin) (by rw [List.getElem?_append_right (Nat.le_refl _), Nat.sub_self]; rfl) (by unfold nrm; rw [List.map_append, List.getElem?_append_right (by rw [List.length_map]; omega), List.length_map, hlen, Nat.sub_self]; rfl)
        refine ⟨_, rfl, W, _, _, _, rfl, rfl, SqL.of hWl, atI_nat (j := 0) rfl, bot, us2, rfl, .inl ⟨SqL.of e2, fun tp ntp => ?_⟩⟩
        have s3 := same_new (o := .tup us2) ntp
        refine q _ _ ((s1.trans bi.sm).trans s3) ?_
        rw [hfin]
        exact .tup (SqT.of upd_same) (dpAll_same s3 d2)
theorem grpE_two : ∀ {l : List Bool} {s : Nat} {g : Nat × Nat}, g ∈ grpE s l → g.2 ≤ g.1 + 2
  | b :: l, s, g, h => by
    rcases List.mem_cons.mp (show g ∈ (s, s + manyN b) :: grpE (s + manyN b) l from h) with rfl | h
    · cases b
      · show s + 1 ≤ s + 2; omega
      · exact Nat.le_refl _
    · exact grpE_two h
theorem grpB_two : ∀ {l : List Bool} {e : Nat} {g : Nat × Nat}, g ∈ grpB e l → g.2 ≤ g.1 + 2
  | b :: l, e, g, h => by
    rcases List.mem_cons.mp (show g ∈ (e - manyN b, e) :: grpB (e - manyN b) l from h) with rfl | h
    · cases b
      · show e ≤ e - 1 + 2; omega
      · show e ≤ e - 2 + 2; omega
    · exact grpB_two h
theorem sts_end {t : List Nat} : ∀ (ps : List Pc) (p : Nat), LenOk t p ps → ∀ (i : Nat) d n, ((lrP t p ps).map (·.d))[i]? = some d → (stsP p ps)[i]? = some n → n + d.len ≤ p + (flatP ps).length
  | [], p, _, i, d, n, h, _ => by cases h
  | .run c m :: r, p, hl, i, d, n, h1, h2 => by
    have el : (flatP (.run c m :: r)).length = m + (flatP r).length := by
      show (List.replicate m c ++ flatP r).length = _
      rw [List.length_append, List.length_replicate]
    rw [el]
    cases i with
    | zero =>
      have e1 : runOf t p c = d := Option.some.inj h1
      have e2 : p = n := Option.some.inj h2
      subst e1 e2
      rw [hl.1]
      omega
    | succ i =>
      have := sts_end r (p + m) hl.2 i d n h1 h2
      omega
  | .txt x m :: r, p, hl, i, d, n, h1, h2 => by
    have el : (flatP (.txt x m :: r)).length = x.length + (flatP r).length := by
      show (x ++ flatP r).length = _
      rw [List.length_append]
    rw [el]
    have := sts_end r (p + x.length) hl i d n h1 h2
    omega
  | .brk :: r, p, hl, i, d, n, h1, h2 => by
    have el : (flatP (.brk :: r)).length = 1 + (flatP r).length := by
      show (10 :: flatP r).length = _
      rw [List.length_cons, Nat.add_comm]
    rw [el]
    have := sts_end r (p + 1) hl i d n h1 h2
    omega
theorem marks_ok {t : List Nat} {ps : List Pc} (hp : PcsOk ps) (ht : t = flatP ps) (hl : t.length ≤ 10000) : ∀ m ∈ marksP t ps, MkOk m := by
  have lk := pcs_len (t := t) ps 0 hp (Nat.zero_le _) (by rw [List.drop_zero]; exact ht)
  have hnew := new_rel (ds := (lrP t 0 ps).map (·.d)) (sts := stsP 0 ps) (by rw [List.length_map]; exact sts_len ps 0)
  rw [← lr_new ps 0 lk] at hnew
  have hpair := pair_rel hnew (lrP t 0 ps).length (by rw [List.length_map, List.length_map]; exact Nat.le_refl _)
  have hd := pairTo_d (((lrP t 0 ps).map (·.d)).map RunS.new) (lrP t 0 ps).length
  have hd2 : ((((lrP t 0 ps).map (·.d)).map RunS.new).map (·.d)) = (lrP t 0 ps).map (·.d) := by
    rw [List.map_map]
    exact List.map_id _
  rw [hd2] at hd
  have fin : ∀ (i : Nat) (s : RunS) (n : Nat), (pairTo (((lrP t 0 ps).map (·.d)).map RunS.new) (lrP t 0 ps).length).rs[i]? = some s → (stsP 0 ps)[i]? = some n → n + s.d.len ≤ t.length := fun i s n h1 h2 => by
    have := sts_end ps 0 lk i s.d n (by rw [← hd, List.getElem?_map, h1]; rfl) h2
    rw [ht]
    omega
  intro m hm
  obtain ⟨⟨i, s, n, g1, g2, g3⟩, ⟨i', s', n', g4, g5, g6⟩⟩ := hpair.m1 m hm
  obtain ⟨l1, _, l2⟩ := hpair.sums g1
  obtain ⟨l1', _, l2'⟩ := hpair.sums g4
  have f1 := fin i s n g1 g2
  have f2 := fin i' s' n' g4 g5
  have b1 := grpB_in (by omega) g3
  have b2 := grpB_two g3
  have e1 := grpE_in g6
  have e2 := grpE_two g6
  have b1' : n + s.d.len - sumB s.be ≤ m.1 ∧ m.1 < m.2.1 ∧ m.2.1 ≤ n + s.d.len := b1
  have b2' : m.2.1 ≤ m.1 + 2 := b2
  have e1' : n' ≤ m.2.2.1 ∧ m.2.2.1 < m.2.2.2 ∧ m.2.2.2 ≤ n' + sumB s'.en := e1
  have e2' : m.2.2.2 ≤ m.2.2.1 + 2 := e2
  exact ⟨by omega, by omega, by omega, by omega, by omega, by omega⟩
theorem rows_ok {t : List Nat} {ps : List Pc} {rows : List (List Inl)} (ht : t = flatP ps) (hsm : PcSm ps) (h : lawRows t ps = some rows) : PyData.canLay0 (.tuple (rowD (jnR [] (rows.getLast?.getD [])))) = true ∧ PyData.depth (.tuple (rowD (jnR [] (rows.getLast?.getD [])))) ≤ 2 * t.length + 2 := by
  have rb := rb_bld ps 0 0 hsm rb_zero h
  rw [Nat.zero_add, ← ht] at rb
  cases hg : rows.getLast? with
  | none => exact ⟨rfl, by show 0 + 1 ≤ _; omega⟩
  | some r =>
    obtain ⟨h1, h2⟩ := rb.lay r (List.mem_of_getLast? hg)
    refine ⟨h1, ?_⟩
    show PyData.depthAll (rowD (jnR [] r)) + 1 ≤ _
    have h2' : PyData.depthAll (rowD (jnR [] r)) ≤ 2 * t.length + 1 := h2
    omega
theorem asc_pcs {ps : List Pc} (h : ∀ x ∈ ps, ∀ c ∈ x.w, c < 128) : Asc (flatP ps) := fun c hc => by
  obtain ⟨x, hx, hcx⟩ := List.mem_flatMap.mp hc
  exact h x hx c hcx
theorem at0 (x y z : Int) : atI [V.int x, V.int y, V.int z] 0 = some (.int x) := atI_nat (j := 0) rfl
theorem at1 (x y z : Int) : atI [V.int x, V.int y, V.int z] 1 = some (.int y) := atI_nat (j := 1) rfl
theorem at2 (x y z : Int) : atI [V.int x, V.int y, V.int z] 2 = some (.int z) := atI_nat (j := 2) rfl
def sp__law_state (K : PySem.W.Frag) : Sp := fun vs H Q _ => ∃ (a : Addr) (ns : List Int) (k : Nat), vs = [.ref a, .int (k : Nat)] ∧ SqL K H a (ns.map V.int) ∧ ns.length ≤ 63 ∧ k ≤ 100 ∧ ∀ H' p, Same H H' → H p = none → Well3 H' p → Q (.ref p) H'
theorem ok__law_state {P : Program} {w : World} {K : PySem.W.Frag} {mg : Str → Option Value} {base : Heap} (T : Txt w K mg) : FnOk P w K mg base CX0 1 T.a__law_state T.d__law_state ["_law_script", "_law_k"] (sp__law_state K) := by
  refine T.f__law_state.ok sc__law_state (fun vs H Q E h => ?_) (fun cdv A outer s H vs Q E hr h => ?_)
  · obtain ⟨a, ns, k, rfl, _⟩ := h
    rfl
  · obtain ⟨a, ns, k, rfl, ha, hl, hk, q⟩ := h
    refine ⟨_, (pss_cons (ps_set (i := 2) sc__law_state.nd rfl (.inl rfl) (pe_ifExp (pt_cmpR op_lt (pv 1) (pe_callB call_len_seq (by rfl) T.z_len PySem.boot_len (pa_cons (pv 0) pa_nil)) (nomark _)) (pe_ix ix_list (pv 0) (pv 1) (fun _ _ => rfl)) (pe_op op_add (pe_op op_mul pe_int (pv 1)) pe_int)))
        (pss_one (ps_ret (pe_lst (pa_cons (pe_callB call_abs (by rfl) T.z_abs (by decide +kernel) (pa_cons (pv 2) pa_nil)) (pa_cons (pe_op op_add (pe_callB call_abs (by rfl) T.z_abs (by decide +kernel) (pa_cons (pv 2) pa_nil)) (pe_op op_mul pe_int (pv 1))) (pa_cons pe_int pa_nil))))))), ?_⟩
    refine asg_if (fun v H' => H' = H ∧ ∃ n : Int, v = .int n) (decide (k < ns.length)) (fun Qb qb => ⟨_, rfl, _, rfl, a, ns.map V.int, rfl, .inl ha, _, _, rfl, rfl, _, rfl, by rw [show decide ((k : Int) < ((ns.map V.int).length : Int)) = decide (k < ns.length) from decide_eq_decide.mpr (by rw [List.length_map]; omega)]; exact qb⟩) (fun h Qv qv => ?_) (fun h Qv qv => ?_) ?_
    · have hk2 := of_decide_eq_true h
      exact ⟨_, rfl, _, rfl, a, ns.map V.int, (k : Int), .int ns[k], rfl, rfl, ha, atI_nat (j := k) (by rw [List.getElem?_map, List.getElem?_eq_getElem hk2]; rfl), qv _ _ ⟨rfl, _, rfl⟩⟩
    · exact ⟨_, rfl, _, _, rfl, rfl, .inl (by constructor <;> omega), _, _, rfl, rfl, qv _ _ ⟨rfl, _, rfl⟩⟩
    · rintro v H' ⟨rfl, n, rfl⟩
      refine ⟨_, rfl, n, rfl, _, rfl, n, rfl, _, rfl, _, _, rfl, rfl, .inl (by constructor <;> omega), _, _, rfl, rfl, (by show 3 ≤ sizeLine; decide), fun p np => q _ p (same_new np) np ⟨_, _, _, upd_same⟩⟩
def sp__law_draw (K : PySem.W.Frag) : Sp := fun vs H Q _ => ∃ (L : Addr) (m : Int), vs = [.ref L, .int m] ∧ 0 < m ∧ m < 1000000 ∧ Well3 H L ∧
  ∀ H' d, Keeps L H H' → Well3 H' L → 0 ≤ d → d < m → Q (.int d) H'
theorem ok__law_draw {P : Program} {w : World} {K : PySem.W.Frag} {mg : Str → Option Value} {base : Heap} (T : Txt w K mg) : FnOk P w K mg base CX0 1 T.a__law_draw T.d__law_draw ["_law_well", "_law_many"] (sp__law_draw K) := by
  refine T.f__law_draw.ok sc__law_draw (fun vs H Q E h => ?_) (fun cdv A outer s H vs Q E hr h => ?_)
  · obtain ⟨L, m, rfl, _⟩ := h
    rfl
  · obtain ⟨L, m, rfl, hm0, hm1, ⟨x, y, z, hL⟩, q⟩ := h
    refine ⟨_, (pss_cons (ps_if (pt_cmpR op_ge (pe_ix ix_list (pv 0) pe_int (fun _ _ => rfl)) (pe_op op_pow pe_int pe_int) (nomark _)) (pss_cons (ps_set (i := 2) sc__law_draw.nd rfl (.inl rfl) (pe_op op_mod (pe_callTy call_int1 (by rfl) T.z_int (by decide +kernel) (pa_cons (pe_ix ix_list (pv 0) pe_int (fun _ _ => rfl)) pa_nil)) (pv 1)))
        (pss_cons (ps_asg (pe_op op_fdivW (pe_ix ix_list (pv 0) pe_int (fun _ _ => rfl)) (pv 1)) (pg_sub (pv 0) pe_int set_list))
        (pss_one (ps_ret (pv 2))))) pss_nil)
        (pss_cons (ps_asg (pe_op op_add (pe_ix ix_list (pv 0) pe_int (fun _ _ => rfl)) pe_int) (pg_sub (pv 0) pe_int set_list))
        (pss_cons (ps_set (i := 3) sc__law_draw.nd rfl (.inl rfl) (pe_op op_mod (pe_callTy call_int1 (by rfl) T.z_int (by decide +kernel) (pa_cons (pe_op op_mul (pe_op op_add (pe_op op_add (pe_op op_mod (pe_callTy call_int1 (by rfl) T.z_int (by decide +kernel) (pa_cons (pe_ix ix_list (pv 0) pe_int (fun _ _ => rfl)) pa_nil)) pe_int) (pe_op op_mul pe_int (pe_ix ix_list (pv 0) pe_int (fun _ _ => rfl)))) pe_int) pe_int) pa_nil)) pe_int))
        (pss_cons (ps_set (i := 3) sc__law_draw.nd rfl (.inl rfl) (pe_op op_mod (pe_callTy call_int1 (by rfl) T.z_int (by decide +kernel) (pa_cons (pe_op op_mul (pv 3) (pe_op op_add (pe_op op_fdivW (pv 3) pe_int) pe_int)) pa_nil)) pe_int))
        (pss_one (ps_ret (pe_op op_mod (pe_op op_mod (pe_callTy call_int1 (by rfl) T.z_int (by decide +kernel) (pa_cons (pe_op op_mul (pv 3) (pe_op op_add (pe_op op_fdivW (pv 3) pe_int) pe_int)) pa_nil)) pe_int) (pv 1)))))))), ?_⟩
    have wd : ∀ i j : Int, 0 < j → j < 10000000000 → CDivW i j := fun i j h1 h2 => wide_div (b := 40) h1 (by omega) (by decide) (by decide)
    refine ⟨_, rfl, L, _, _, _, rfl, rfl, SqL.of hL, at0 x y z, _, _, rfl, rfl, (by refine ⟨?_, ?_, ?_⟩ <;> decide), _, _, rfl, rfl, _, rfl, ite2 (fun _ => ?_) (fun _ => ?_)⟩
    · refine ⟨_, rfl, L, _, _, _, rfl, rfl, SqL.of hL, at0 x y z, .inl ⟨_, rfl, _, rfl, _, _, rfl, rfl, hm0, ?_⟩⟩
      refine ⟨_, rfl, L, _, _, _, rfl, rfl, SqL.of hL, at0 x y z, _, rfl, _, _, rfl, rfl, wd _ _ hm0 (by omega), _, rfl, L, _, _, 0, rfl, rfl, hL, rfl, ?_⟩
      exact ⟨_, rfl, q _ _ .at ⟨_, _, _, upd_same⟩ (Int.emod_nonneg _ (by omega)) (Int.emod_lt_of_pos _ hm0)⟩
    · -- well[2] = well[2] + 1
      refine ⟨_, rfl, L, _, _, _, rfl, rfl, SqL.of hL, at2 x y z, _, _, rfl, rfl, _, rfl, L, _, _, 2, rfl, rfl, hL, rfl, ?_⟩
      have k2 : Keeps L H (upd H L (.lst ([V.int x, V.int y, V.int z].set 2 (.int (z + 1))))) := .at
      have hL2 : (upd H L (.lst ([V.int x, V.int y, V.int z].set 2 (.int (z + 1))))) L = some (.lst [V.int x, V.int y, V.int (z + 1)]) := upd_same
      generalize (upd H L (.lst ([V.int x, V.int y, V.int z].set 2 (.int (z + 1))))) = H2 at hL2 k2 ⊢
      refine ⟨_, rfl, L, _, _, _, rfl, rfl, SqL.of hL2, at1 _ _ _, .inl ⟨_, rfl, _, _, rfl, rfl, (by show (0 : Int) < _; decide), _, rfl, L, _, _, _, rfl, rfl, SqL.of hL2, at2 _ _ _, _, _, rfl, rfl, .inl (by constructor <;> decide), _, _, rfl, rfl, _, _, rfl, rfl, _, _, rfl, rfl, .inr (by constructor <;> decide),
        .inl ⟨_, rfl, _, _, rfl, rfl, (by show (0 : Int) < _; decide), ?_⟩⟩⟩
      refine ⟨_, rfl, _, rfl, _, _, rfl, rfl, wd _ _ (by decide) (by decide), _, _, rfl, rfl, _, _, rfl, rfl, .inl (by constructor <;> omega), .inl ⟨_, rfl, _, _, rfl, rfl, (by show (0 : Int) < _; decide), ?_⟩⟩
      refine ⟨_, rfl, _, rfl, _, _, rfl, rfl, wd _ _ (by decide) (by decide), _, _, rfl, rfl, _, _, rfl, rfl, .inl (by constructor <;> omega), .inl ⟨_, rfl, _, _, rfl, rfl, (by show (0 : Int) < _; decide), _, rfl, _, _, rfl, rfl, hm0, ?_⟩⟩
      exact q _ _ k2 ⟨_, _, _, hL2⟩ (Int.emod_nonneg _ (by omega)) (Int.emod_lt_of_pos _ hm0)
def sp__law_one (K : PySem.W.Frag) : Sp := fun vs H Q _ => ∃ (L a : Addr) (xs : List V), vs = [.ref L, .ref a] ∧ SqL K H a xs ∧ a ≠ L ∧ xs ≠ [] ∧ xs.length < 1000000 ∧ Well3 H L ∧
  ∀ H' v, Keeps L H H' → Well3 H' L → v ∈ xs → Q v H'
theorem ok__law_one {P : Program} {w : World} {K : PySem.W.Frag} {mg : Str → Option Value} {base : Heap} (T : Txt w K mg) : FnOk P w K mg base CX0 2 T.a__law_one T.d__law_one ["_law_well", "_law_some"] (sp__law_one K) := by
  refine T.f__law_one.ok sc__law_one (fun vs H Q E h => ?_) (fun cdv A outer s H vs Q E hr h => ?_)
  · obtain ⟨L, a, xs, rfl, _⟩ := h
    rfl
  · obtain ⟨L, a, xs, rfl, hS, ha, hne, hlen, hW, q⟩ := h
    refine ⟨_, (pss_one (ps_ret (pe_ix ix_list (pv 1) (pe_call (ok__law_draw T) (hr.mono (by decide)) (by rfl) T.g__law_draw T.f__law_draw.kp T.b__law_draw .nil pass0 (pa_cons (pv 0) (pa_cons (pe_callB call_len_seq (by rfl) T.z_len PySem.boot_len (pa_cons (pv 1) pa_nil)) pa_nil))) (fun _ _ => rfl)))), ?_⟩
    have hpos : 0 < xs.length := List.length_pos_iff.mpr hne
    refine ⟨_, rfl, _, rfl, _, rfl, a, xs, rfl, .inl hS, L, _, rfl, by omega, by omega, hW, fun H' d k w h0 h1 => ?_⟩
    obtain ⟨j, rfl⟩ := Int.eq_ofNat_of_zero_le h0
    have hj : j < xs.length := by omega
    exact ⟨a, xs, _, xs[j], rfl, rfl, k.seq ha hS, atI_nat (List.getElem?_eq_getElem hj), q _ _ k w (List.getElem_mem hj)⟩
theorem tup_ne {H : Hp} {f L : Addr} {xs : List V} (h : H f = some (.tup xs)) (w : Well3 H L) : f ≠ L := by
  obtain ⟨x, y, z0, e⟩ := w
  exact ne_of h e fun z => by cases z
theorem keeps_upd {L D : Addr} {H H' : Hp} {o : HO} (k : Keeps L H H') (n : H D = none) : Keeps L H (upd H' D o) := fun b x hb e => by
  rw [upd_ne (ne_of_none e n)]
  exact k b x hb e
theorem well_upd {L D : Addr} {H : Hp} {o : HO} (w : Well3 H L) (n : D ≠ L) : Well3 (upd H D o) L := by
  obtain ⟨x, y, z0, e⟩ := w
  exact ⟨x, y, z0, by rw [upd_ne n.symm]; exact e⟩
def conT : List V → TA
  | [] => tNil
  | v :: vs => tCons (tC v) (conT vs)
theorem con_read : ∀ (vs : List V) (σ : L2.St) (H : Hp) (P : List V → Hp → Prop), P vs H → conT vs σ H P
  | [], _, _, _, h => h
  | v :: vs, σ, H, P, h => con_read vs σ H (fun xs H2 => P (v :: xs) H2) h
def menuT : List (List V) → TA
  | [] => tNil
  | p :: ms => tCons (tTup (conT p)) (menuT ms)
def MAt (H : Hp) (v : V) (p : List V) : Prop := ∃ r, v = .ref r ∧ H r = some (.tup p)
def Menu (H : Hp) (xs : List V) (ms : List (List V)) : Prop := ∀ v ∈ xs, ∃ p ∈ ms, MAt H v p
theorem MAt.same {H H' : Hp} {v : V} {p : List V} (h : MAt H v p) (sm : Same H H') : MAt H' v p := by
  obtain ⟨r, e, h⟩ := h
  exact ⟨r, e, sm _ _ h⟩
theorem Menu.same {H H' : Hp} {xs : List V} {ms : List (List V)} (h : Menu H xs ms) (sm : Same H H') : Menu H' xs ms := fun v hv => by
  obtain ⟨p, hp, h⟩ := h v hv
  exact ⟨p, hp, h.same sm⟩
theorem Menu.keep {L : Addr} {H H' : Hp} {xs : List V} {ms : List (List V)} (h : Menu H xs ms) (w : Well3 H L) (k : Keeps L H H') : Menu H' xs ms := fun v hv => by
  obtain ⟨p, hp, r, e, h⟩ := h v hv
  exact ⟨p, hp, r, e, k _ _ (tup_ne h w) h⟩
theorem Menu.app {H : Hp} {xs ys : List V} {ms ns : List (List V)} (h : Menu H xs ms) (g : Menu H ys ns) : Menu H (xs ++ ys) (ms ++ ns) := fun v hv => by
  rcases List.mem_append.mp hv with hv | hv
  · obtain ⟨p, hp, h⟩ := h v hv
    exact ⟨p, List.mem_append_left _ hp, h⟩
  · obtain ⟨p, hp, h⟩ := g v hv
    exact ⟨p, List.mem_append_right _ hp, h⟩
theorem menu_read : ∀ (ms : List (List V)) (_ : ∀ p ∈ ms, p.length ≤ 10) (σ : L2.St) (H : Hp) (P : List V → Hp → Prop), (∀ H' xs, Same H H' → Menu H' xs ms → xs.length = ms.length → P xs H') → menuT ms σ H P
  | [], _, σ, H, P, h => h H [] (Same.refl _) (fun _ hv => by cases hv) rfl
  | p :: ms, hs, σ, H, P, h => by
    refine con_read p σ H _ ⟨by have := hs p (List.mem_cons_self ..); rw [sizeLine_eq]; omega, fun r nr => ?_⟩
    refine menu_read ms (fun q hq => hs q (List.mem_cons_of_mem _ hq)) σ _ _ fun H' xs sm hm hl => ?_
    refine h H' (.ref r :: xs) ((same_new nr).trans sm) (fun v hv => ?_) (by rw [List.length_cons, hl, List.length_cons])
    rcases List.mem_cons.mp hv with rfl | hv
    · exact ⟨p, List.mem_cons_self .., r, rfl, sm _ _ upd_same⟩
    · obtain ⟨q, hq, h'⟩ := hm v hv
      exact ⟨q, List.mem_cons_of_mem _ hq, h'⟩
def MsOk (ms : List (List V)) : Prop := ms.length ≤ 100 ∧ ∀ p ∈ ms, p.length ≤ 10
instance (ms : List (List V)) : Decidable (MsOk ms) := inferInstanceAs (Decidable (_ ∧ _))
/-- the list of a menu -/
theorem menu_list (ms : List (List V)) (hs : MsOk ms) (σ : L2.St) (H : Hp) (Q : VK) (h : ∀ H' a xs, Same H H' → H' a = some (.lst xs) → H a = none → Menu H' xs ms → xs.length = ms.length → Q (.ref a) H') : tLst (menuT ms) σ H Q := by
  refine menu_read ms hs.2 σ H _ fun H' xs sm hm hl => ⟨by rw [hl]; exact Nat.le_trans hs.1 (by decide), fun a na => ?_⟩
  refine h _ a xs (sm.trans (same_new na)) upd_same ?_ (hm.same (same_new na)) hl
  cases e : H a with
  | none => rfl
  | some o => rw [sm _ _ e] at na; cases na
theorem one_text {K : PySem.W.Frag} (ms : List (List Nat)) {vs : List V} (e : vs = ms.map fun s => V.str (S s)) (h0 : ms ≠ []) (hs : ms.length ≤ 100) {σ : L2.St} {H : Hp} {Q : VK} {L : Addr} (w : Well3 H L) {i : Nat} (hi : σ[i]? = some (some (.ref L)))
    (h : ∀ H' s, Keeps L H H' → Well3 H' L → s ∈ ms → Q (.str (S s)) H') :
    tCall (sp__law_one K) [] E0 (tCons (tVar i) (tCons (tLst (conT vs)) tNil)) σ H Q := by
  subst e
  refine ⟨_, hi, con_read _ σ H _ ⟨by rw [List.length_map]; exact Nat.le_trans hs (by decide), fun a na => ?_⟩⟩
  refine ⟨L, a, _, rfl, SqL.of upd_same, w.ne na, by simpa using h0, by rw [List.length_map]; omega, w.new na, fun H2 v k2 w2 hv => ?_⟩
  obtain ⟨s, hs, rfl⟩ := List.mem_map.mp hv
  exact h H2 s ((Keeps.new na).trans k2) w2 hs
theorem p0 (x y : V) : atI [x, y] 0 = some x := atI_nat (j := 0) rfl
theorem p1 (x y : V) : atI [x, y] 1 = some y := atI_nat (j := 1) rfl
/-- the draw of a number -/
theorem one_draw {K : PySem.W.Frag} {σ : L2.St} {H : Hp} {Q : VK} {L : Addr} (m : Nat) (hm : 0 < m ∧ m < 1000000) (w : Well3 H L) {i : Nat} (hi : σ[i]? = some (some (.ref L)))
    (h : ∀ H' (d : Nat), Keeps L H H' → Well3 H' L → d < m → Q (.int (d : Nat)) H') :
    tCall (sp__law_draw K) [] E0 (tCons (tVar i) (tCons (tC (.int (m : Nat))) tNil)) σ H Q :=
  ⟨_, hi, L, (m : Int), rfl, by omega, by omega, w, fun H' d k w' h0 h1 => by
    obtain ⟨j, rfl⟩ := Int.eq_ofNat_of_zero_le h0
    exact h H' j k w' (by omega)⟩
theorem seq_if_g {c : TT} {a b u : TS} {D : Ends} {σ : L2.St} {H : Hp} {i : Nat} {x : V} (P : L2.St → Hp → Prop) (h1 : ∀ N : L2.St → Hp → Prop, (∀ σ' H', P σ' H' → N σ' H') → tIfS c a b { D with nx := N } (σ.set i (some x)) H) (h2 : ∀ σ' H', P σ' H' → u D σ' H') :
    gName i x σ H { D with nx := tSeq (tIfS c a b) u D }.nx := h1 _ h2
theorem asg_if_g {t : TT} {ta tb : TE} {g : TG} {u : TS} {D : Ends} {σ : L2.St} {H : Hp} {i : Nat} {x : V} (P : V → Hp → Prop) (b : Bool) (ht : AnsB t (σ.set i (some x)) H b) (ha : b = true → ValB ta (σ.set i (some x)) H P) (hb : b = false → ValB tb (σ.set i (some x)) H P)
    (hq : ∀ v H', P v H' → g v (σ.set i (some x)) H' (u D)) : gName i x σ H { D with nx := tSeq (tAsg (tIf t ta tb) g) u D }.nx := asg_if P b ht ha hb hq
theorem fund_bindsF {K : PySem.W.Frag} {x qual : Str} {st : Stmt} {f : Addr} {fd : FuncData} {ps : List Str} (F : FunD K x qual (defArgs st) (defBody st) (defScope st) [.non] [] f fd) (n : Nat)
    (h : ∀ (T : Addr) (kV doc pm : Value) (an : Option Addr) (cdv ct : Value) (us its : List Value), us.length = n → its.length = [V.non].length →
      ∃ k, bindArgs (PySem.W.fnOf x qual (defArgs st) (defBody st) (defScope st) (.ref T) kV doc pm an cdv ct) ⟨us, []⟩ = seqItems? (.ref T) >>= k ∧ k (some its.toArray) = pure (ps.zip (us ++ its.drop 1))) (hn : n = ps.length := by rfl) : Binds K fd ps [] := by
  obtain ⟨ds, hv, hb⟩ := F.binds1 n 1 (by simp) (by show n + 0 = _; omega) h
  cases hv
  exact hb
theorem bf_inlines {w : World} {K : PySem.W.Frag} {mg : Str → Option Value} (T : Txt w K mg) : Binds K T.d_inlines ["content", "known"] [] :=
  fund_bindsF T.f_inlines 2 fun _ _ _ _ _ _ _ us its hu hi => match us, its, hu, hi with | [_, _], [_], _, _ => ⟨_, rfl, rfl⟩
structure ContOk (t : List Nat) (ps : List Pc) : Prop where
  eq : t = flatP ps
  ok : PcsOk ps
  sm : PcSm ps
  asc : Asc t
  nw : Nwl t
  len : t.length ≤ 400
  num : ps.length ≤ 100
theorem flat_len (m : Nat) : ∀ PL : List Pc, (∀ x ∈ PL, x.w.length ≤ m) → (flatP PL).length ≤ m * PL.length
  | [], _ => Nat.zero_le _
  | x :: PL, h => by
    have ih := flat_len m PL fun y hy => h y (List.mem_cons_of_mem _ hy)
    have h1 := h x (List.mem_cons_self ..)
    show (x.w ++ flatP PL).length ≤ m * (PL.length + 1)
    rw [List.length_append, Nat.mul_add, Nat.mul_one]
    omega
theorem PcsAt.snoc {H : Hp} {us : List V} {ps : List Pc} {u : V} {x : Pc} (h : PcsAt H us ps) (hu : PcAt H (flatP ps).length u x) : PcsAt H (us ++ [u]) (ps ++ [x]) := by
  refine ⟨by rw [List.length_append, List.length_append, h.len]; rfl, fun i y hy => ?_⟩
  by_cases c : i < ps.length
  · rw [List.getElem?_append_left c] at hy
    obtain ⟨v, hv, hp⟩ := h.at' i y hy
    have e : offs (ps ++ [x]) i = offs ps i := by
      unfold offs
      rw [List.take_append_of_le_length (Nat.le_of_lt c)]
    exact ⟨v, by rw [List.getElem?_append_left (by rw [h.len]; exact c)]; exact hv, by rw [e]; exact hp⟩
  · have hi : i = ps.length := by
      have := (List.getElem?_eq_some_iff.mp hy).1
      rw [List.length_append, List.length_singleton] at this
      omega
    subst hi
    rw [List.getElem?_append_right (Nat.le_refl _), Nat.sub_self] at hy
    cases hy
    have e : offs (ps ++ [x]) ps.length = (flatP ps).length := by
      unfold offs
      rw [List.take_append_of_le_length (Nat.le_refl _), List.take_length]
    exact ⟨u, by rw [List.getElem?_append_right (by rw [h.len]; exact Nat.le_refl _), h.len, Nat.sub_self]; rfl, by rw [e]; exact hu⟩
theorem add_line1 {a b : List Nat} (h : a.length + b.length ≤ 100000) : (S a).length + (S b).length ≤ sizeLine := by
  rw [S_len, S_len, sizeLine_eq]
  omega
theorem atI_m1 {α : Type} {xs : List α} {v : α} (h : xs[xs.length - 1]? = some v) : atI xs (-1) = some v := by
  have hp : 0 < xs.length := by
    have := (List.getElem?_eq_some_iff.mp h).1
    omega
  unfold atI ixN
  rw [if_neg (by decide), if_pos (by omega)]
  show xs[((-1 : Int) + (xs.length : Int)).toNat]? = _
  rw [show ((-1 : Int) + (xs.length : Int)).toNat = xs.length - 1 by omega]
  exact h
def EachOk : Pc → Prop
  | .run c n => (c = 42 ∨ c = 95) ∧ 0 < n ∧ n ≤ 4
  | .txt y m => TxOk y m ∧ (∃ d r, y = d :: r ∧ d ≠ 42 ∧ d ≠ 95 ∧ d ≠ 10) ∧ (∀ c ∈ y, c < 128 ∧ c ≠ 10) ∧ y.length ≤ 6 ∧ Sm m ∧ m.length ≤ 6
  | .brk => True
def LastNW (T : List Nat) : Prop := ∃ a c, T = a ++ [c] ∧ c ≠ 32 ∧ c ≠ 9 ∧ c ≠ 10
def NextOk (T R : List Nat) : Pc → Prop
  | .run c _ => R ≠ [c]
  | .txt y _ => (y = [32] ∧ LastNW T) ∨ ∃ d r, y = d :: r ∧ WhL.contains d = false
  | .brk => LastNW T
def AdjOk (x y : Pc) : Prop := match x with
  | .run c _ => y.w.head? ≠ some c
  | .txt _ _ => True
  | .brk => ∃ d, y.w.head? = some d ∧ WhL.contains d = false
structure SoupI (ps : List Pc) : Prop where
  each : ∀ x ∈ ps, EachOk x
  adj : ∀ (j : Nat) x y, ps[j]? = some x → ps[j + 1]? = some y → AdjOk x y
  nw : Nwl (flatP ps)
theorem each_ne {x : Pc} (h : EachOk x) : x.w ≠ [] := by
  cases x with
  | run c n =>
    obtain ⟨_, h2, _⟩ := h
    obtain ⟨k, rfl⟩ : ∃ k, n = k + 1 := ⟨n - 1, by omega⟩
    exact fun e => by cases e
  | txt y m =>
    obtain ⟨_, ⟨d, r, rfl, _⟩, _⟩ := h
    exact fun e => by cases e
  | brk => exact fun e => by cases e
theorem each_asc {x : Pc} (h : EachOk x) : (∀ c ∈ x.w, c < 128) ∧ x.w.length ≤ 6 ∧ (10 ∈ x.w → x = .brk) := by
  cases x with
  | run c n =>
    obtain ⟨h1, _, h3⟩ := h
    refine ⟨fun d hd => ?_, by show (List.replicate n c).length ≤ 6; rw [List.length_replicate]; omega, fun hm => ?_⟩
    · rw [List.eq_of_mem_replicate hd]
      rcases h1 with rfl | rfl <;> decide
    · have := List.eq_of_mem_replicate hm
      subst this
      rcases h1 with e | e <;> cases e
  | txt y m =>
    obtain ⟨_, _, h3, h4, _⟩ := h
    exact ⟨fun c hc => (h3 c hc).1, h4, fun hm => absurd rfl (h3 10 hm).2⟩
  | brk => exact ⟨fun c hc => by rw [List.mem_singleton.mp hc]; decide, by decide, fun _ => rfl⟩
theorem flat_snoc (ps : List Pc) (x : Pc) : flatP (ps ++ [x]) = flatP ps ++ x.w := by
  unfold flatP
  rw [List.flatMap_append, List.flatMap_cons, List.flatMap_nil, List.append_nil]
theorem SoupI.snoc {ps : List Pc} {R : List Nat} {x : Pc} (h : SoupI ps) (hx : EachOk x) (hn : NextOk (flatP ps) R x) (hR : ∀ c n, ps.getLast? = some (.run c n) → R = [c]) : SoupI (ps ++ [x]) := by
  refine ⟨fun y hy => ?_, fun j y z hy hz => ?_, ?_⟩
  · rcases List.mem_append.mp hy with hy | hy
    · exact h.each y hy
    · rw [List.mem_singleton.mp hy]
      exact hx
  · by_cases c : j + 1 < ps.length
    · rw [List.getElem?_append_left (by omega)] at hy
      rw [List.getElem?_append_left c] at hz
      exact h.adj j y z hy hz
    · have hj : j + 1 = ps.length := by
        have := (List.getElem?_eq_some_iff.mp hz).1
        rw [List.length_append, List.length_singleton] at this
        omega
      rw [List.getElem?_append_left (by omega)] at hy
      rw [List.getElem?_append_right (by omega), hj, Nat.sub_self] at hz
      cases hz
      have hl : ps.getLast? = some y := by
        rw [List.getLast?_eq_getElem?, ← hj]
        exact hy
      obtain ⟨ini, rfl⟩ := List.getLast?_eq_some_iff.mp hl
      have ey := h.each y (by simp)
      cases y with
      | txt a b => trivial
      | run d n =>
        show x.w.head? ≠ some d
        obtain ⟨h1, h2, _⟩ := ey
        cases x with
        | run d' n' =>
          obtain ⟨_, h2', _⟩ := hx
          obtain ⟨k, rfl⟩ : ∃ k, n' = k + 1 := ⟨n' - 1, by omega⟩
          have hne : R ≠ [d'] := hn
          have := hR d n hl
          intro e
          have e' : some d' = some d := e
          exact hne (by rw [this, Option.some.inj e'])
        | txt a b =>
          obtain ⟨_, ⟨f, r, rfl, q1, q2, _⟩, _⟩ := hx
          intro e
          have e' : some f = some d := e
          have := Option.some.inj e'
          omega
        | brk =>
          intro e
          have e' : some 10 = some d := e
          have := Option.some.inj e'
          omega
      | brk =>
        have no : ¬ LastNW (flatP (ini ++ [.brk])) := by
          rintro ⟨a, c, e, _, _, h10⟩
          rw [flat_snoc] at e
          have := (List.append_inj' e rfl).2
          exact h10 (List.cons.inj this).1.symm
        cases x with
        | run d' n' =>
          obtain ⟨h1', h2', _⟩ := hx
          obtain ⟨k, rfl⟩ : ∃ k, n' = k + 1 := ⟨n' - 1, by omega⟩
          refine ⟨d', rfl, ?_⟩
          rcases h1' with rfl | rfl <;> decide
        | txt a b =>
          rcases hn with ⟨_, q⟩ | ⟨f, r, rfl, q⟩
          · exact absurd q no
          · exact ⟨f, rfl, q⟩
        | brk => exact absurd hn no
  · rw [flat_snoc]
    intro k c hk h10
    by_cases q : k + 1 < (flatP ps).length
    · rw [List.getElem?_append_left (by omega)] at hk
      rw [List.getElem?_append_left q] at h10
      exact h.nw k c hk h10
    · rw [List.getElem?_append_right (by omega)] at h10
      have hb := (each_asc hx).2.2 (List.mem_of_getElem? h10)
      subst hb
      have hk1 : k + 1 - (flatP ps).length = 0 := by
        have := (List.getElem?_eq_some_iff.mp h10).1
        have e : (Pc.brk).w.length = 1 := rfl
        omega
      have hkl : k + 1 = (flatP ps).length := by omega
      rw [List.getElem?_append_left (by omega)] at hk
      obtain ⟨a, d, e, n1, n2, n3⟩ := (show LastNW (flatP ps) from hn)
      rw [e] at hk hkl
      rw [List.length_append, List.length_singleton] at hkl
      rw [List.getElem?_append_right (by omega), show k - a.length = 0 by omega] at hk
      cases hk
      simp [WhL, n1, n2]
theorem soup_pcs : ∀ (ps : List Pc), (∀ x ∈ ps, EachOk x) → (∀ (j : Nat) x y, ps[j]? = some x → ps[j + 1]? = some y → AdjOk x y) → ps.getLast? ≠ some .brk → PcsOk ps
  | [], _, _, _ => trivial
  | x :: r, he, ha, hl => by
    have ih : r.getLast? ≠ some .brk → PcsOk r := soup_pcs r (fun y hy => he y (List.mem_cons_of_mem _ hy)) (fun j y z hy hz => ha (j + 1) y z hy hz)
    have hd : ∀ y r', r = y :: r' → (flatP r).head? = y.w.head? := fun y r' e => by
      subst e
      have := each_ne (he y (by simp))
      show (y.w ++ flatP r').head? = _
      cases hy : y.w with
      | nil => exact absurd hy this
      | cons a b => rfl
    have hlr : r ≠ [] → r.getLast? ≠ some .brk := fun hr => by
      cases r with
      | nil => exact absurd rfl hr
      | cons y r' => exact hl
    have h0 := he x (List.mem_cons_self ..)
    cases x with
    | run c n =>
      refine ⟨h0.1, h0.2.1, ?_, ?_⟩
      · cases r with
        | nil => exact fun e => by cases e
        | cons y r' =>
          rw [hd y r' rfl]
          exact ha 0 _ y rfl rfl
      · cases r with
        | nil => trivial
        | cons y r' => exact ih (hlr (by simp))
    | txt y m =>
      refine ⟨h0.1, ?_⟩
      cases r with
      | nil => trivial
      | cons z r' => exact ih (hlr (by simp))
    | brk =>
      cases r with
      | nil => exact absurd rfl hl
      | cons y r' =>
        refine ⟨?_, ih (hlr (by simp))⟩
        rw [hd y r' rfl]
        exact ha 0 _ y rfl rfl
theorem SoupI.cont {ps : List Pc} (h : SoupI ps) (hl : ps.getLast? ≠ some .brk) (hn : ps.length ≤ 32) : ContOk (flatP ps) ps := by
  refine ⟨rfl, soup_pcs ps h.each h.adj hl, fun x hx => ?_, asc_pcs fun x hx c hc => (each_asc (h.each x hx)).1 c hc, h.nw, ?_, by omega⟩
  · have := h.each x hx
    cases x with
    | run c n =>
      show c < 128
      rcases this.1 with rfl | rfl <;> decide
    | txt y m => exact ⟨this.2.2.2.2.1, by have := this.2.2.2.2.2; omega⟩
    | brk => trivial
  · have := flat_len 6 ps fun x hx => (each_asc (h.each x hx)).2.1
    omega
theorem soup_nil : SoupI [] := ⟨fun x h => (by cases h), fun j x y h => (by cases h), fun k c h => (by cases h)⟩
/-- the tokens of a soup -/
def EscL : List (List Nat × List Nat) := [([92, 42], [42]), ([92, 95], [95]), ([38, 97, 115, 116, 59], [42]), ([38, 35, 57, 53, 59], [95]), ([92, 92], [92]), ([38, 97, 109, 112, 59], [38])]
def PunS : List (List Nat) := [[46], [44], [40], [41], [45], [43], [63], [39], [34], [58], [47], [126], [94], [35], [61]]
def WrdS : List (List Nat) := [[97], [98], [99, 100], [55], [120]]
theorem each_plain {y : List Nat} (h : y.all (fun x => !StepL.contains x) = true) (hne : y ≠ []) (ha : ∀ c ∈ y, c < 128 ∧ c ≠ 10) (hl : y.length ≤ 6) (hd : ∃ d r, y = d :: r ∧ d ≠ 42 ∧ d ≠ 95 ∧ d ≠ 10) : EachOk (.txt y y) := ⟨tx_plain h hne, hd, ha, hl, fun c hc => by have := (ha c hc).1; omega, hl⟩
theorem each_pun : ∀ y ∈ PunS, EachOk (.txt y y) ∧ ∃ d r, y = d :: r ∧ WhL.contains d = false := by
  have h : ∀ y ∈ PunS, (y.all (fun x => !StepL.contains x) && decide (y.length ≤ 6) && y.all (fun c => decide (c < 128) && decide (c ≠ 10)) && (match y with | d :: _ => decide (d ≠ 42) && decide (d ≠ 95) && decide (d ≠ 10) && !WhL.contains d | [] => false)) = true := by decide +kernel
  intro y hy
  have := h y hy
  simp only [Bool.and_eq_true, List.all_eq_true, decide_eq_true_eq] at this
  obtain ⟨⟨⟨h1, h2⟩, h3⟩, h4⟩ := this
  cases y with
  | nil => cases h4
  | cons d r =>
    simp only [Bool.and_eq_true, decide_eq_true_eq, Bool.not_eq_true'] at h4
    exact ⟨each_plain (by rw [List.all_eq_true]; exact h1) (by simp) h3 h2 ⟨d, r, rfl, h4.1.1.1, h4.1.1.2, h4.1.2⟩, d, r, rfl, h4.2⟩
theorem each_wrd : ∀ y ∈ WrdS, EachOk (.txt y y) ∧ ∃ d r, y = d :: r ∧ WhL.contains d = false := by
  have h : ∀ y ∈ WrdS, (y.all (fun x => !StepL.contains x) && decide (y.length ≤ 6) && y.all (fun c => decide (c < 128) && decide (c ≠ 10)) && (match y with | d :: _ => decide (d ≠ 42) && decide (d ≠ 95) && decide (d ≠ 10) && !WhL.contains d | [] => false)) = true := by decide +kernel
  intro y hy
  have := h y hy
  simp only [Bool.and_eq_true, List.all_eq_true, decide_eq_true_eq] at this
  obtain ⟨⟨⟨h1, h2⟩, h3⟩, h4⟩ := this
  cases y with
  | nil => cases h4
  | cons d r =>
    simp only [Bool.and_eq_true, decide_eq_true_eq, Bool.not_eq_true'] at h4
    exact ⟨each_plain (by rw [List.all_eq_true]; exact h1) (by simp) h3 h2 ⟨d, r, rfl, h4.1.1.1, h4.1.1.2, h4.1.2⟩, d, r, rfl, h4.2⟩
theorem each_esc : ∀ z ∈ EscL, EachOk (.txt z.1 z.2) ∧ ∃ d r, z.1 = d :: r ∧ WhL.contains d = false := by
  have mk : ∀ {y m : List Nat} {d : Nat} {r : List Nat}, TxOk y m → y = d :: r → d ≠ 42 → d ≠ 95 → d ≠ 10 → WhL.contains d = false → (y.all fun c => decide (c < 128) && decide (c ≠ 10)) = true → y.length ≤ 6 → (m.all fun c => decide (c < 1114112)) = true → m.length ≤ 6 → EachOk (.txt y m) ∧ ∃ d r, y = d :: r ∧ WhL.contains d = false := fun h1 h2 h3 h4 h5 h6 h7 h8 h9 h10 => by
    refine ⟨⟨h1, ⟨_, _, h2, h3, h4, h5⟩, fun c hc => ?_, h8, fun c hc => ?_, h10⟩, _, _, h2, h6⟩
    · have := List.all_eq_true.mp h7 c hc
      rw [Bool.and_eq_true] at this
      exact ⟨of_decide_eq_true this.1, of_decide_eq_true this.2⟩
    · exact of_decide_eq_true (List.all_eq_true.mp h9 c hc)
  intro z hz
  simp only [EscL, List.mem_cons, List.not_mem_nil, or_false] at hz
  rcases hz with rfl | rfl | rfl | rfl | rfl | rfl
  · exact mk (tx_esc (by decide)) rfl (by decide) (by decide) (by decide) (by decide) (by decide) (by decide) (by decide) (by decide)
  · exact mk (tx_esc (by decide)) rfl (by decide) (by decide) (by decide) (by decide) (by decide) (by decide) (by decide) (by decide)
  · exact mk (tx_ref (a := [97, 115, 116]) (refOk_of (by decide +kernel))) rfl (by decide) (by decide) (by decide) (by decide) (by decide) (by decide) (by decide) (by decide)
  · exact mk (tx_ref (a := [35, 57, 53]) (refOk_of (by decide +kernel))) rfl (by decide) (by decide) (by decide) (by decide) (by decide) (by decide) (by decide) (by decide)
  · exact mk (tx_esc (by decide)) rfl (by decide) (by decide) (by decide) (by decide) (by decide) (by decide) (by decide) (by decide)
  · exact mk (tx_ref (a := [97, 109, 112]) (refOk_of (by decide +kernel))) rfl (by decide) (by decide) (by decide) (by decide) (by decide) (by decide) (by decide) (by decide)
theorem each_blank : EachOk (.txt [32] [32]) := each_plain (by decide) (by simp) (fun c hc => by rw [List.mem_singleton.mp hc]; decide) (by decide) ⟨32, [], rfl, by decide, by decide, by decide⟩
theorem each_e : EachOk (.txt [101] [101]) := each_plain (by decide) (by simp) (fun c hc => by rw [List.mem_singleton.mp hc]; decide) (by decide) ⟨101, [], rfl, by decide, by decide, by decide⟩
theorem S_cut_m1 (l : List Nat) : cutS (S l) (some (-1)) none = S (l.drop (l.length - 1)) := by
  unfold cutS
  rw [HT.sIx_none, S_len, S_tl]
  show S _ = S _
  have e : HT.sIx l.length 0 (some (-1)) = l.length - 1 := by
    show (if (-1 : Int) < 0 then ((-1 : Int) + (l.length : Int)).toNat else min (-1 : Int).toNat l.length) = _
    rw [if_pos (by decide)]
    omega
  rw [e]
  congr 1
  rw [List.take_of_length_le (by rw [List.length_drop]; omega)]
theorem one_int1 {K : PySem.W.Frag} (ms : List Nat) {vs : List V} (e : vs = ms.map fun s : Nat => V.int ((s : Nat) : Int)) (h0 : ms ≠ []) (hs : ms.length ≤ 100) {σ : L2.St} {H : Hp} {Q : VK} {L : Addr} (w : Well3 H L) {i : Nat} (hi : σ[i]? = some (some (.ref L)))
    (h : ∀ H' (s : Nat), Keeps L H H' → Well3 H' L → s ∈ ms → Q (.int ((s : Nat) : Int)) H') :
    tCall (sp__law_one K) [] E0 (tCons (tVar i) (tCons (tLst (conT vs)) tNil)) σ H Q := by
  subst e
  refine ⟨_, hi, con_read _ σ H _ ⟨by rw [List.length_map]; exact Nat.le_trans hs (by decide), fun a na => ?_⟩⟩
  refine ⟨L, a, _, rfl, SqL.of upd_same, w.ne na, by simpa using h0, by rw [List.length_map]; omega, w.new na, fun H2 v k2 w2 hv => ?_⟩
  obtain ⟨s, hs, rfl⟩ := List.mem_map.mp hv
  exact h H2 s ((Keeps.new na).trans k2) w2 hs
theorem white_last {T : List Nat} (h : (kindL (T.drop (T.length - 1))).isW = false) : LastNW T := by
  cases hT : T.getLast? with
  | none =>
    rw [List.getLast?_eq_none_iff.mp hT] at h
    cases h
  | some c =>
    obtain ⟨a, rfl⟩ := List.getLast?_eq_some_iff.mp hT
    rw [List.length_append, List.length_singleton, Nat.add_sub_cancel, List.drop_left] at h
    have h' : (if c = 32 ∨ c = 9 ∨ c = 10 then Kd.w else if PunL.contains c = true then .p else .o).isW = false := h
    by_cases q : c = 32 ∨ c = 9 ∨ c = 10
    · rw [if_pos q] at h'
      cases h'
    · exact ⟨a, c, rfl, fun e => q (.inl e), fun e => q (.inr (.inl e)), fun e => q (.inr (.inr e))⟩
def SnL : List (List Nat) := [[42], [42], [95]]
theorem sn_lit : ([.str "*", .str "*", .str "_"] : List V) = SnL.map fun s => V.str (S s) := by decide +kernel
theorem pun_lit : ([.str ".", .str ",", .str "(", .str ")", .str "-", .str "+", .str "?", .str "'", .str "\"", .str ":", .str "/", .str "~", .str "^", .str "#", .str "="] : List V) = PunS.map fun s => V.str (S s) := by decide +kernel
theorem wrd_lit : ([.str "a", .str "b", .str "cd", .str "7", .str "x"] : List V) = WrdS.map fun s => V.str (S s) := by decide +kernel
def EscV : List (List V) := [[.str "\\*", .str "*"], [.str "\\_", .str "_"], [.str "&ast;", .str "*"], [.str "&#95;", .str "_"], [.str "\\\\", .str "\\"], [.str "&amp;", .str "&"]]
theorem esc_lit : EscV = EscL.map fun z => [V.str (S z.1), V.str (S z.2)] := by decide +kernel
theorem esc_mo : MsOk EscV := ⟨by decide, by decide⟩
def sp__law_piece (K : PySem.W.Frag) : Sp := fun vs H Q _ => ∃ (L : Addr) (T R : List Nat), vs = [.ref L, .str (S T), .str (S R)] ∧ Well3 H L ∧ Asc T ∧ T.length ≤ 10000 ∧ ∀ H' r x v, Keeps L H H' → Well3 H' L → H' r = some (.tup [.str (S x.w), v]) → SaidOk H' v x → EachOk x → NextOk T R x → Q (.ref r) H'
theorem ok__law_piece {P : Program} {w : World} {K : PySem.W.Frag} {mg : Str → Option Value} {base : Heap} (T : Txt w K mg) : FnOk P w K mg base CX0 3 T.a__law_piece T.d__law_piece ["_law_well", "_law_last", "_law_run"] (sp__law_piece K) := by
  refine T.f__law_piece.ok sc__law_piece (fun vs H Q E h => ?_) (fun cdv A outer s H vs Q E hr h => ?_)
  · obtain ⟨L, T', R, rfl, _⟩ := h
    rfl
  · obtain ⟨L, T', R, rfl, hW, hasc, htl, q⟩ := h
    refine ⟨_, (pss_cons (ps_set (i := 3) sc__law_piece.nd rfl (.inl rfl) (pe_call (ok__law_draw T) (hr.mono (by decide)) (by rfl) T.g__law_draw T.f__law_draw.kp T.b__law_draw .nil pass0 (pa_cons (pv 0) (pa_cons pe_int pa_nil))))
        (pss_cons (ps_if (pt_cmpR op_lt (pv 3) pe_int (nomark _)) (pss_cons (ps_set (i := 4) sc__law_piece.nd rfl (.inl rfl) (pe_call (ok__law_one T) (hr.mono (by decide)) (by rfl) T.g__law_one T.f__law_one.kp T.b__law_one .nil pass0 (pa_cons (pv 0) (pa_cons (pe_lst (pa_cons pe_str (pa_cons pe_str (pa_cons pe_str pa_nil)))) pa_nil))))
        (pss_one (ps_if (pt_cmpR op_ne (pv 4) (pv 2) (nomark _)) (pss_one (ps_ret (pe_tup (pa_cons (pe_op op_mul_txt (pv 4) (pe_call (ok__law_one T) (hr.mono (by decide)) (by rfl) T.g__law_one T.f__law_one.kp T.b__law_one .nil pass0 (pa_cons (pv 0) (pa_cons (pe_lst (pa_cons pe_int (pa_cons pe_int (pa_cons pe_int (pa_cons pe_int (pa_cons pe_int (pa_cons pe_int (pa_cons pe_int pa_nil)))))))) pa_nil)))) (pa_cons pe_non pa_nil))))) pss_nil))) pss_nil)
        (pss_cons (ps_if (PW.pt (pw_and (pt_cmpR op_eq (pv 3) pe_int (nomark _)) (pw_and1 (pt_not (pt_val (pe_call (ok__law_is_white T) (hr.mono (by decide)) (by rfl) T.g__law_is_white T.f__law_is_white.kp T.b__law_is_white .nil pass0 (pa_cons (pe_slice sl_str (pv 1) (po_some (pe_un un_neg pe_int)) po_none) pa_nil))))))) (pss_one (ps_ret (pe_call (ok__law_one T) (hr.mono (by decide)) (by rfl) T.g__law_one T.f__law_one.kp T.b__law_one .nil pass0 (pa_cons (pv 0) (pa_cons (pe_lst (pa_cons (pe_tup (pa_cons pe_str (pa_cons pe_str pa_nil))) (pa_cons (pe_tup (pa_cons pe_str (pa_cons pe_str pa_nil))) (pa_cons (pe_tup (pa_cons pe_str (pa_cons (pe_tup (pa_cons pe_str pa_nil)) pa_nil))) pa_nil)))) pa_nil))))) pss_nil)
        (pss_cons (ps_if (pt_cmpR op_eq (pv 3) pe_int (nomark _)) (pss_cons (ps_set (i := 5) sc__law_piece.nd rfl (.inl rfl) (pe_lst (pa_cons (pe_tup (pa_cons pe_str (pa_cons pe_str pa_nil))) (pa_cons (pe_tup (pa_cons pe_str (pa_cons pe_str pa_nil))) (pa_cons (pe_tup (pa_cons pe_str (pa_cons pe_str pa_nil))) (pa_cons (pe_tup (pa_cons pe_str (pa_cons pe_str pa_nil))) (pa_cons (pe_tup (pa_cons pe_str (pa_cons pe_str pa_nil))) (pa_cons (pe_tup (pa_cons pe_str (pa_cons pe_str pa_nil))) pa_nil))))))))
        (pss_one (ps_ret (pe_call (ok__law_one T) (hr.mono (by decide)) (by rfl) T.g__law_one T.f__law_one.kp T.b__law_one .nil pass0 (pa_cons (pv 0) (pa_cons (pv 5) pa_nil)))))) pss_nil)
        (pss_cons (ps_if (pt_cmpR op_eq (pv 3) pe_int (nomark _)) (pss_cons (ps_set (i := 6) sc__law_piece.nd rfl (.inl rfl) (pe_call (ok__law_one T) (hr.mono (by decide)) (by rfl) T.g__law_one T.f__law_one.kp T.b__law_one .nil pass0 (pa_cons (pv 0) (pa_cons (pe_lst (pa_cons pe_str (pa_cons pe_str (pa_cons pe_str (pa_cons pe_str (pa_cons pe_str (pa_cons pe_str (pa_cons pe_str (pa_cons pe_str (pa_cons pe_str (pa_cons pe_str (pa_cons pe_str (pa_cons pe_str (pa_cons pe_str (pa_cons pe_str (pa_cons pe_str pa_nil)))))))))))))))) pa_nil))))
        (pss_one (ps_ret (pe_tup (pa_cons (pv 6) (pa_cons (pv 6) pa_nil)))))) pss_nil)
        (pss_cons (ps_set (i := 6) sc__law_piece.nd rfl (.inl rfl) (pe_call (ok__law_one T) (hr.mono (by decide)) (by rfl) T.g__law_one T.f__law_one.kp T.b__law_one .nil pass0 (pa_cons (pv 0) (pa_cons (pe_lst (pa_cons pe_str (pa_cons pe_str (pa_cons pe_str (pa_cons pe_str (pa_cons pe_str pa_nil)))))) pa_nil))))
        (pss_one (ps_ret (pe_tup (pa_cons (pv 6) (pa_cons (pv 6) pa_nil))))))))))), ?_⟩
    refine one_draw 9 (by decide) hW rfl fun H1 d k1 w1 hd => ?_
    refine seq_if_g (fun σ' H' => ∃ o4, σ' = [some (.ref L), some (.str (S T')), some (.str (S R)), some (.int (d : Nat)), o4, none, none] ∧ Keeps L H H' ∧ Well3 H' L) (fun N hN => ?_) ?_
    · refine ⟨_, rfl, _, _, rfl, rfl, _, rfl, ite2 (fun hway => ?_) (fun hway => hN _ _ ⟨_, rfl, k1, w1⟩)⟩
      refine one_text SnL sn_lit (by decide) (by decide) w1 rfl fun H2 sg k2 w2 hsg => ?_
      obtain ⟨c, rfl, hc⟩ : ∃ c, sg = [c] ∧ (c = 42 ∨ c = 95) := by
        simp only [SnL, List.mem_cons, List.not_mem_nil, or_false] at hsg
        rcases hsg with rfl | rfl | rfl
        · exact ⟨42, rfl, .inl rfl⟩
        · exact ⟨42, rfl, .inl rfl⟩
        · exact ⟨95, rfl, .inr rfl⟩
      refine ⟨_, rfl, _, rfl, rfl, _, rfl, ?_⟩
      show (if (!decide (V.str (S [c]) = V.str (S R))) = true then _ else _)
      rw [S_dec]
      by_cases hR : [c] = R
      · rw [decide_eq_true hR]
        exact iteF (hN _ _ ⟨_, rfl, k1.trans k2, w2⟩)
      · rw [decide_eq_false hR]
        refine iteT ⟨_, rfl, ?_⟩
        refine one_int1 [1, 1, 1, 2, 2, 3, 4] rfl (by decide) (by decide) w2 rfl fun H3 n k3 w3 hn => ?_
        have hn4 : 0 < n ∧ n ≤ 4 := by
          simp only [List.mem_cons, List.not_mem_nil, or_false] at hn
          omega
        refine ⟨[c], n, rfl, rfl, Nat.le_refl _, (by show 1 ≤ 1000; omega), by omega, ?_⟩
        rw [rep1]
        refine ⟨(by show 2 ≤ sizeLine; decide), fun r nr => q _ r (.run c n) .non (((k1.trans k2).trans k3).trans (Keeps.new nr)) (w3.new nr) upd_same rfl ⟨hc, hn4.1, hn4.2⟩ (fun e => hR e.symm)⟩
    · rintro σ' H2 ⟨o4, rfl, k2, w2⟩
      -- white
      have lT : (S T').length ≤ sizeLine := by rw [S_len, sizeLine_eq]; omega
      refine seq_ifK (fun σ' H' => σ' = [some (.ref L), some (.str (S T')), some (.str (S R)), some (.int (d : Nat)), o4, none, none] ∧ Keeps L H H' ∧ Well3 H' L) (fun N hN => ?_) ?_
      · refine ⟨_, rfl, rfl, _, rfl, ite2 (fun h4 => ?_) (fun h4 => iteF (hN _ _ ⟨rfl, k2, w2⟩))⟩
        refine ⟨_, rfl, _, rfl, _, rfl, _, rfl, lT, ?_⟩
        rw [S_cut_m1]
        refine ⟨T'.drop (T'.length - 1), rfl, by rw [List.length_drop]; omega, fun c hc => hasc c (List.mem_of_mem_drop hc), fun H3 s3 => ⟨_, rfl, ?_⟩⟩
        show (if (!(kindL (T'.drop (T'.length - 1))).isW) = true then _ else _)
        have k3 := k2.trans (Keeps.of (L := L) s3)
        have w3 := w2.same s3
        cases hw : (kindL (T'.drop (T'.length - 1))).isW with
        | true => exact iteF (hN _ _ ⟨rfl, k3, w3⟩)
        | false =>
          have lnw := white_last hw
          refine iteT ⟨_, rfl, (by show 2 ≤ sizeLine; decide), fun r1 n1 => ⟨(by show 2 ≤ sizeLine; decide), fun r2 n2 => ⟨(by show 1 ≤ sizeLine; decide), fun r3 n3 => ⟨(by show 2 ≤ sizeLine; decide), fun r4 n4 => ⟨(by show 3 ≤ sizeLine; decide), fun a na => ?_⟩⟩⟩⟩⟩
          have t1 := same_new (o := .tup [.str " ", .str " "]) n1
          have h1 : (upd H3 r1 (.tup [.str " ", .str " "])) r1 = some (.tup [.str " ", .str " "]) := upd_same
          generalize (upd H3 r1 (.tup [.str " ", .str " "])) = G1 at t1 h1 n2 n3 n4 na ⊢
          have t2 := same_new (o := .tup [.str " ", .str " "]) n2
          have h2 : (upd G1 r2 (.tup [.str " ", .str " "])) r2 = some (.tup [.str " ", .str " "]) := upd_same
          generalize (upd G1 r2 (.tup [.str " ", .str " "])) = G2 at t2 h2 n3 n4 na ⊢
          have t3 := same_new (o := .tup [.str "soft"]) n3
          have h3 : (upd G2 r3 (.tup [.str "soft"])) r3 = some (.tup [.str "soft"]) := upd_same
          generalize (upd G2 r3 (.tup [.str "soft"])) = G3 at t3 h3 n4 na ⊢
          have t4 := same_new (o := .tup [.str "\n", .ref r3]) n4
          have h4' : (upd G3 r4 (.tup [.str "\n", .ref r3])) r4 = some (.tup [.str "\n", .ref r3]) := upd_same
          generalize (upd G3 r4 (.tup [.str "\n", .ref r3])) = G4 at t4 h4' na ⊢
          have w4 := w3.same (((t1.trans t2).trans t3).trans t4)
          refine ⟨L, a, _, rfl, SqL.of upd_same, w4.ne na, by simp, (by show 3 < 1000000; decide), w4.new na, fun H5 v k5 w5 hv => ?_⟩
          have ta := same_new (o := .lst [.ref r1, .ref r2, .ref r4]) na
          have kk : Keeps L H H5 := (k3.trans (.of ((((t1.trans t2).trans t3).trans t4).trans ta))).trans k5
          have up : ∀ b xs, G4 b = some (.tup xs) → H5 b = some (.tup xs) := fun b xs e => by
            have e2 := ta _ _ e
            exact k5 b _ (tup_ne e2 (w4.new na)) e2
          have lsp : (" " : Str) = S [32] := by decide +kernel
          have lnl : ("\n" : Str) = S [10] := by decide +kernel
          have blank : ∀ r, H5 r = some (.tup [.str " ", .str " "]) → Q (.ref r) H5 := fun r hr => q H5 r (.txt [32] [32]) (.str (S [32])) kk w5 (by rw [lsp] at hr; exact hr) rfl each_blank (.inl ⟨rfl, lnw⟩)
          simp only [List.mem_cons, List.not_mem_nil, or_false] at hv
          rcases hv with rfl | rfl | rfl
          · exact blank r1 (up _ _ (t4 _ _ (t3 _ _ (t2 _ _ h1))))
          · exact blank r2 (up _ _ (t4 _ _ (t3 _ _ h2)))
          · exact q H5 r4 .brk (.ref r3) kk w5 (by rw [lnl] at h4'; exact up _ _ h4') ⟨r3, rfl, up _ _ (t4 _ _ h3)⟩ trivial lnw
      · rintro σ' H3 ⟨rfl, k3, w3⟩
        -- what is escaped, a reference
        refine ⟨_, rfl, rfl, _, rfl, ite2 (fun h5 => ?_) (fun h5 => ?_)⟩
        · show tAsg (tLst (menuT EscV)) (gName 5) _ _ _
          show tLst (menuT EscV) _ _ _
          refine menu_list EscV esc_mo _ _ _ fun H4 a xs sm ha na hm hl => ?_
          have w4 := w3.same sm
          have hl6 : xs.length = 6 := hl
          refine ⟨_, rfl, _, rfl, L, a, xs, rfl, SqL.of ha, w3.ne na, (by intro z; rw [z] at hl6; cases hl6), by omega, w4, fun H5 v k5 w5 hv => ?_⟩
          obtain ⟨p, hp, r, rfl, hr⟩ := (hm.keep w4 k5) v hv
          rw [esc_lit] at hp
          obtain ⟨z, hz, rfl⟩ := List.mem_map.mp hp
          obtain ⟨e1, e2⟩ := each_esc z hz
          exact q H5 r (.txt z.1 z.2) (.str (S z.2)) ((k3.trans (.of sm)).trans k5) w5 hr rfl e1 (.inr e2)
        · -- punctuation
          refine ⟨_, rfl, rfl, _, rfl, ite2 (fun h6 => ?_) (fun h6 => ?_)⟩
          · refine one_text PunS pun_lit (by decide) (by decide) w3 rfl fun H4 y k4 w4 hy => ?_
            obtain ⟨e1, e2⟩ := each_pun y hy
            exact ⟨_, rfl, _, rfl, (by show 2 ≤ sizeLine; decide), fun r nr => q _ r (.txt y y) (.str (S y)) ((k3.trans k4).trans (Keeps.new nr)) (w4.new nr) upd_same rfl e1 (.inr e2)⟩
          · refine one_text WrdS wrd_lit (by decide) (by decide) w3 rfl fun H4 y k4 w4 hy => ?_
            obtain ⟨e1, e2⟩ := each_wrd y hy
            exact ⟨_, rfl, _, rfl, (by show 2 ≤ sizeLine; decide), fun r nr => q _ r (.txt y y) (.str (S y)) ((k3.trans k4).trans (Keeps.new nr)) (w4.new nr) upd_same rfl e1 (.inr e2)⟩
theorem pcs_dp {K : PySem.W.Frag} {H : Hp} : ∀ (ps : List Pc) (us : List V), us.length = ps.length → (∀ (i : Nat) x, ps[i]? = some x → ∃ u p, us[i]? = some u ∧ PcAt H p u x ∧ EachOk x) → ∃ ds, DpAll K H us ds ∧ PyData.canLayAll0 ds = true ∧ ds.isEmpty = us.isEmpty
  | [], [], _, _ => ⟨[], .nil, rfl, rfl⟩
  | [], _ :: _, h, _ => by cases h
  | _ :: _, [], h, _ => by cases h
  | x :: ps, u :: us, hl, h => by
    obtain ⟨ds, h1, h2, _⟩ := pcs_dp (K := K) (H := H) ps us (Nat.succ.inj hl) fun i y hy => h (i + 1) y hy
    obtain ⟨u', p, hu, ⟨q, v, e, hq, hs⟩, he⟩ := h 0 x rfl
    cases hu
    subst e
    obtain ⟨d, hd, hc⟩ : ∃ d, Dp K H v d ∧ PyData.canLay0 d = true := by
      cases x with
      | run c n =>
        have : v = .non := hs
        subst this
        exact ⟨.none, .non, rfl⟩
      | txt y m =>
        have : v = .str (S m) := hs
        subst this
        exact ⟨.str (S m), .str _, strOk_iff.mpr he.2.2.2.2.1⟩
      | brk =>
        obtain ⟨a, rfl, ha⟩ := hs
        exact ⟨.tuple [.str "soft"], .tup (SqT.of ha) (.cons (.str _) .nil), by decide +kernel⟩
    refine ⟨.tuple [.int (p : Int), .int ((p + x.w.length : Nat) : Int), d] :: ds, .cons (.tup (SqT.of hq) (.cons (.int _) (.cons (.int _) (.cons hd .nil)))) h1, ?_, rfl⟩
    show (PyData.canLayAll0 [.int (p : Int), .int ((p + x.w.length : Nat) : Int), d] && PyData.canLayAll0 ds) = true
    rw [h2, Bool.and_true]
    show (true && (true && (PyData.canLay0 d && true))) = true
    rw [hc]
    rfl
theorem last_run (ps : List Pc) : ∃ R : List Nat, ∀ c n, ps.getLast? = some (.run c n) → R = [c] := by
  cases h : ps.getLast? with
  | none => exact ⟨[], fun c n e => by cases e⟩
  | some x =>
    cases x with
    | run c n => exact ⟨[c], fun c' n' e => by cases e; rfl⟩
    | txt y m => exact ⟨[], fun c n e => by cases e⟩
    | brk => exact ⟨[], fun c n e => by cases e⟩
theorem not_brk {ps : List Pc} (h : LastNW (flatP ps)) : ps.getLast? ≠ some .brk := fun e => by
  obtain ⟨ini, rfl⟩ := List.getLast?_eq_some_iff.mp e
  rw [flat_snoc] at h
  obtain ⟨a, c, e, _, _, h10⟩ := h
  have := (List.append_inj' e rfl).2
  exact h10 (List.cons.inj this).1.symm
theorem soup_asc {ps : List Pc} (h : SoupI ps) : Asc (flatP ps) := asc_pcs fun x hx c hc => (each_asc (h.each x hx)).1 c hc
def sp__law_soup (K : PySem.W.Frag) : Sp := fun vs H Q _ => ∃ L : Addr, vs = [.ref L] ∧ Well3 H L ∧ ∀ H' r t qa us ps, Keeps L H H' → Well3 H' L → H' r = some (.tup [.str (S t), .ref qa]) → H' qa = some (.lst us) → qa ≠ L → PcsAt H' us ps → ContOk t ps → Q (.ref r) H'
theorem ok__law_soup {P : Program} {w : World} {K : PySem.W.Frag} {mg : Str → Option Value} {base : Heap} (T : Txt w K mg) : FnOk P w K mg base CX0 4 T.a__law_soup T.d__law_soup ["_law_well"] (sp__law_soup K) := by
  refine T.f__law_soup.ok sc__law_soup (fun vs H Q E h => ?_) (fun cdv A outer s H vs Q E hr h => ?_)
  · obtain ⟨L, rfl, _⟩ := h
    rfl
  · obtain ⟨L, rfl, hW, q⟩ := h
    refine ⟨_, (pss_cons (ps_par (i := 1) (j := 2) (by rfl) sc__law_soup.nd rfl rfl (by decide) rfl rfl (pa_cons pe_str (pa_cons (pe_lst pa_nil) pa_nil)) (by rfl))
        (pss_cons (ps_for PassesOwn.never rfl (pi_range1 (by rfl) T.z_range (pa_cons (pe_op op_add pe_int (pe_call (ok__law_draw T) (hr.mono (by decide)) (by rfl) T.g__law_draw T.f__law_draw.kp T.b__law_draw .nil pass0 (pa_cons (pv 0) (pa_cons pe_int pa_nil)))) pa_nil)) (pg_name (i := 3) sc__law_soup.nd rfl (.inl rfl)) (pss_cons (ps_set (i := 4) sc__law_soup.nd rfl (.inl rfl) (pe_ifExp (PW.pt (pw_and (pt_cmpR (op_neM (room_n (n := 64) hr (by omega))) (pv 2) (pe_lst pa_nil) (nomark _)) (pw_and1 (pt_cmpR op_isN (pe_ix ix_tup (pe_ix ix_list (pv 2) (pe_un un_neg pe_int) (fun _ _ => rfl)) pe_int (fun _ _ => rfl)) pe_non (nomark _))))) (pe_ix ix_str (pv 1) (pe_un un_neg pe_int) (fun _ _ => rfl)) pe_str))
        (pss_cons (ps_asg (pe_call (ok__law_piece T) (hr.mono (by decide)) (by rfl) T.g__law_piece T.f__law_piece.kp T.b__law_piece .nil pass0 (pa_cons (pv 0) (pa_cons (pv 1) (pa_cons (pv 4) pa_nil)))) (pg_tup (by rfl) (pgs_cons (pg_name (i := 5) sc__law_soup.nd rfl (.inl rfl)) (pgs_cons (pg_name (i := 6) sc__law_soup.nd rfl (.inl rfl)) pgs_nil))))
        (pss_cons (ps_expr (pe_bm PySem.F.plainAttrs_list PySem.F.slot_list_append PySem.F.type_list_append mt_append (pv 2) (pa_cons (pe_tup (pa_cons (pe_callB call_len_str (by rfl) T.z_len PySem.boot_len (pa_cons (pv 1) pa_nil)) (pa_cons (pe_op op_add (pe_callB call_len_str (by rfl) T.z_len PySem.boot_len (pa_cons (pv 1) pa_nil)) (pe_callB call_len_str (by rfl) T.z_len PySem.boot_len (pa_cons (pv 5) pa_nil))) (pa_cons (pv 6) pa_nil)))) pa_nil)))
        (pss_one (ps_set (i := 1) sc__law_soup.nd rfl (.inl rfl) (pe_op op_add_str (pv 1) (pv 5))))))))
        (pss_cons (ps_if (pt_val (pe_call (ok__law_is_white T) (hr.mono (by decide)) (by rfl) T.g__law_is_white T.f__law_is_white.kp T.b__law_is_white .nil pass0 (pa_cons (pe_slice sl_str (pv 1) (po_some (pe_un un_neg pe_int)) po_none) pa_nil))) (pss_cons (ps_expr (pe_bm PySem.F.plainAttrs_list PySem.F.slot_list_append PySem.F.type_list_append mt_append (pv 2) (pa_cons (pe_tup (pa_cons (pe_callB call_len_str (by rfl) T.z_len PySem.boot_len (pa_cons (pv 1) pa_nil)) (pa_cons (pe_op op_add (pe_callB call_len_str (by rfl) T.z_len PySem.boot_len (pa_cons (pv 1) pa_nil)) pe_int) (pa_cons pe_str pa_nil)))) pa_nil)))
        (pss_one (ps_set (i := 1) sc__law_soup.nd rfl (.inl rfl) (pe_op op_add_str (pv 1) pe_str)))) pss_nil)
        (pss_one (ps_ret (pe_tup (pa_cons (pv 1) (pa_cons (pv 2) pa_nil)))))))), ?_⟩
    refine ⟨(by show 0 ≤ sizeLine; decide), fun qa nqa => ⟨_, _, rfl, ?_⟩⟩
    have qaL := hW.ne nqa
    have k0 := Keeps.new (L := L) nqa (o := .lst [])
    have w0 := hW.new (o := .lst []) nqa
    have hq0 : (upd H qa (.lst [])) qa = some (.lst []) := upd_same
    generalize (upd H qa (.lst [])) = H0 at k0 w0 hq0 ⊢
    have le0 : ("" : Str) = S [] := by decide +kernel
    refine one_draw 30 (by decide) w0 rfl fun H1 d k1 w1 hd => ?_
    have hq1 := k1 _ _ qaL hq0
    refine ⟨_, _, rfl, rfl, _, rfl, by omega, by omega, for_range (lo := 0) (n := ((1 : Int) + (d : Int)).toNat) (fun i σ' H' => ∃ (o3 o4 o5 o6 : Option V) (ps : List Pc) (us : List V), σ' = [some (.ref L), some (.str (S (flatP ps))), some (.ref qa), o3, o4, o5, o6] ∧ Keeps L H H' ∧ Well3 H' L ∧ H' qa = some (.lst us) ∧ PcsAt H' us ps ∧ SoupI ps ∧ ps.length = i) ⟨_, _, _, _, [], [], by rw [le0]; rfl, k0.trans k1, w1, hq1, ⟨rfl, fun i x h => (by cases h)⟩, soup_nil, rfl⟩ ?_ ?_⟩
    · rintro i σ' H2 hi ⟨o3, o4, o5, o6, ps, us, rfl, k2, w2, hq2, pc, si, hpl⟩
      have hi30 : i ≤ 30 := by omega
      have htl : (flatP ps).length ≤ 200 := by
        have := flat_len 6 ps fun x hx => (each_asc (si.each x hx)).2.1
        omega
      obtain ⟨ds, d1, d2, d3⟩ := pcs_dp (K := K) (H := H2) ps us pc.len fun i x hx => by
        obtain ⟨u, h1, h2⟩ := pc.at' i x hx
        exact ⟨u, _, h1, h2, si.each x (List.mem_of_getElem? hx)⟩
      refine asg_ifS (fun v H' => ∃ R : List Nat, v = .str (S R) ∧ Same H2 H' ∧ ∀ c n, ps.getLast? = some (.run c n) → R = [c]) (fun b => (b = true → ∃ c n, ps.getLast? = some (.run c n)) ∧ (b = false → ∀ c n, ps.getLast? ≠ some (.run c n))) (fun Qb qb => ?_) (fun H3 s3 hb Qv qv => ?_) (fun H3 s3 hb Qv qv => ?_) ?_
      · refine ⟨_, rfl, (by show 0 ≤ sizeLine; decide), fun p np => ?_⟩
        have s3 := same_new (o := .lst []) np
        have hq3 := s3 _ _ hq2
        refine ⟨_, _, .lst (SqL.of hq3) (dpAll_same s3 d1), .lst (SqL.of upd_same) .nil, d2, rfl, (by show min _ 1 ≤ 64; omega), _, rfl, ?_⟩
        rw [eqv_nilL, d3]
        cases hg : ps.getLast? with
        | none =>
          have e0 := List.getLast?_eq_none_iff.mp hg
          have eu : us = [] := List.eq_nil_of_length_eq_zero (by rw [pc.len, e0]; rfl)
          rw [eu]
          exact iteF (qb _ _ s3 ⟨fun e => (by cases e), fun _ c n => by rw [hg]; exact fun e => by cases e⟩)
        | some x =>
          obtain ⟨ini, rfl⟩ := List.getLast?_eq_some_iff.mp hg
          obtain ⟨u, hu, q1, v, rfl, hq1', hv⟩ := pc.at' ini.length x (by rw [List.getElem?_append_right (Nat.le_refl _), Nat.sub_self]; rfl)
          have hul : us.length = ini.length + 1 := by rw [pc.len, List.length_append]; rfl
          have hul1 : us[us.length - 1]? = some (.ref q1) := by rw [hul, Nat.add_sub_cancel]; exact hu
          rw [show us.isEmpty = false by cases us with
            | nil => cases hul
            | cons a b => rfl]
          refine iteT ⟨_, rfl, _, rfl, qa, _, _, _, rfl, rfl, SqL.of hq3, atI_m1 hul1, q1, _, _, _, rfl, rfl, SqT.of (s3 _ _ hq1'), atI_nat (j := 2) rfl, rfl, _, rfl, ?_⟩
          cases x with
          | run c n =>
            have : v = .non := hv
            subst this
            rw [decide_eq_true rfl]
            exact qb _ _ s3 ⟨fun _ => ⟨c, n, hg⟩, fun e => by cases e⟩
          | txt y m =>
            have : v = .str (S m) := hv
            subst this
            rw [decide_eq_false (fun e => by cases e)]
            exact qb _ _ s3 ⟨fun e => (by cases e), fun _ c n => by rw [hg]; exact fun e => by cases e⟩
          | brk =>
            obtain ⟨sa, rfl, _⟩ := hv
            rw [decide_eq_false (fun e => by cases e)]
            exact qb _ _ s3 ⟨fun e => (by cases e), fun _ c n => by rw [hg]; exact fun e => by cases e⟩
      · obtain ⟨c, n, hg⟩ := hb.1 rfl
        obtain ⟨ini, rfl⟩ := List.getLast?_eq_some_iff.mp hg
        have hen := si.each (.run c n) (by simp)
        obtain ⟨k, rfl⟩ : ∃ k, n = k + 1 := ⟨n - 1, by have := hen.2.1; omega⟩
        have hlast : (flatP (ini ++ [.run c (k + 1)]))[(flatP (ini ++ [.run c (k + 1)])).length - 1]? = some c := by
          rw [flat_snoc]
          show (flatP ini ++ List.replicate (k + 1) c)[(flatP ini ++ List.replicate (k + 1) c).length - 1]? = some c
          rw [List.length_append, List.length_replicate, show (flatP ini).length + (k + 1) - 1 = (flatP ini).length + k by omega, List.getElem?_append_right (by omega), Nat.add_sub_cancel_left, List.getElem?_replicate, if_pos (by omega)]
        refine ⟨_, rfl, _, rfl, S _, _, c, rfl, rfl, by rw [S_len, sizeLine_eq]; omega, atI_m1 hlast, qv _ _ ⟨[c], rfl, s3, fun c' n' e => ?_⟩⟩
        rw [hg] at e
        cases e
        rfl
      · refine qv _ _ ⟨[], by rw [le0], s3, fun c n e => absurd e (hb.2 rfl c n)⟩
      · rintro v H3 ⟨R, rfl, s3, hR⟩
        have k3 := k2.trans (Keeps.of (L := L) s3)
        have w3 := w2.same s3
        have hq3 := s3 _ _ hq2
        replace pc := pc.same fun b xs e => s3 b _ e
        refine ⟨_, rfl, _, rfl, _, rfl, L, flatP ps, R, rfl, w3, soup_asc si, by omega, fun H4 r x v k4 w4 hr hsaid heach hnext => ?_⟩
        have hq4 := k4 _ _ qaL hq3
        have tupL : ∀ b xs, H3 b = some (.tup xs) → H4 b = some (.tup xs) := fun b xs e => k4 b _ (tup_ne e w3) e
        replace pc := pc.same tupL
        refine ⟨r, _, rfl, SqT.of hr, rfl, _, _, rfl, _, _, rfl, rfl, ?_⟩
        have lw : (S x.w).length ≤ sizeLine := by rw [S_len, sizeLine_eq]; have := (each_asc heach).2.1; omega
        have lt : (S (flatP ps)).length ≤ sizeLine := by rw [S_len, sizeLine_eq]; omega
        refine ⟨_, rfl, .inl ⟨rfl, _, SqL.of hq4⟩, _, rfl, _, rfl, lt, _, rfl, _, rfl, lt, _, rfl, _, rfl, lw, _, _, rfl, rfl, _, rfl, (by show 3 ≤ sizeLine; decide), fun q1 nq1 => ?_⟩
        have e4 : (upd H4 q1 (.tup [.int ((S (flatP ps)).length : Nat), .int (((S (flatP ps)).length : Nat) + ((S x.w).length : Nat)), v])) = upd H4 q1 (.tup [.int (((flatP ps).length : Nat) : Int), .int (((flatP ps).length + x.w.length : Nat) : Int), v]) := by
          rw [S_len, S_len]
          rfl
        rw [e4]
        have s5 := same_new (o := .tup [.int (((flatP ps).length : Nat) : Int), .int (((flatP ps).length + x.w.length : Nat) : Int), v]) nq1
        have hq5 := s5 _ _ hq4
        have hq1 : (upd H4 q1 (.tup [.int (((flatP ps).length : Nat) : Int), .int (((flatP ps).length + x.w.length : Nat) : Int), v])) q1 = some (.tup [.int (((flatP ps).length : Nat) : Int), .int (((flatP ps).length + x.w.length : Nat) : Int), v]) := upd_same
        have k5 := (k3.trans k4).trans (Keeps.of (L := L) s5)
        have w5 := w4.same s5
        replace pc := pc.same fun b xs e => s5 b _ e
        have hsaid5 := hsaid.same (x := x) fun b xs e => s5 b _ e
        generalize (upd H4 q1 (.tup [.int (((flatP ps).length : Nat) : Int), .int (((flatP ps).length + x.w.length : Nat) : Int), v])) = H5 at k5 w5 hq5 hq1 pc hsaid5 ⊢
        have hul : us.length ≤ 31 := by rw [pc.len]; omega
        refine ⟨qa, us, _, rfl, rfl, hq5, by rw [sizeLine_eq]; omega, ?_⟩
        refine ⟨_, rfl, _, rfl, _, _, rfl, rfl, by rw [S_len, S_len, sizeLine_eq]; have := (each_asc heach).2.1; omega, ?_⟩
        have tup : ∀ b xs, H5 b = some (.tup xs) → (upd H5 qa (.lst (us ++ [.ref q1]))) b = some (.tup xs) := fun b xs e => by
          rw [upd_ne]
          · exact e
          · intro z
            rw [z, hq5] at e
            cases e
        refine ⟨some (.int (0 + (i : Int))), some (.str (S R)), some (.str (S x.w)), some v, ps ++ [x], us ++ [.ref q1], ?_, keeps_upd k5 nqa, well_upd w5 qaL, upd_same, (pc.same tup).snoc ⟨q1, v, rfl, tup _ _ hq1, hsaid5.same tup⟩, si.snoc heach hnext hR, by rw [List.length_append, hpl]; rfl⟩
        rw [flat_snoc, ← S_app]
        rfl
    · rintro σ' H2 ⟨o3, o4, o5, o6, ps, us, rfl, k2, w2, hq2, pc, si, hpl⟩
      have hp31 : ps.length ≤ 31 := by omega
      have htl : (flatP ps).length ≤ 200 := by
        have := flat_len 6 ps fun x hx => (each_asc (si.each x hx)).2.1
        omega
      have lt : (S (flatP ps)).length ≤ sizeLine := by rw [S_len, sizeLine_eq]; omega
      refine ⟨_, rfl, _, rfl, _, rfl, _, rfl, lt, ?_⟩
      rw [S_cut_m1]
      refine ⟨_, rfl, by rw [List.length_drop]; omega, fun c hc => soup_asc si c (List.mem_of_mem_drop hc), fun H3 s3 => ⟨_, rfl, ?_⟩⟩
      show (if (kindL ((flatP ps).drop ((flatP ps).length - 1))).isW = true then _ else _)
      have k3 := k2.trans (Keeps.of (L := L) s3)
      have w3 := w2.same s3
      have hq3 := s3 _ _ hq2
      replace pc := pc.same fun b xs e => s3 b _ e
      cases hw : (kindL ((flatP ps).drop ((flatP ps).length - 1))).isW with
      | false =>
        have cont := si.cont (not_brk (white_last hw)) (by omega)
        refine iteF ⟨_, rfl, _, rfl, (by show 2 ≤ sizeLine; decide), fun r nr => ?_⟩
        have s4 := same_new (o := .tup [.str (S (flatP ps)), .ref qa]) nr
        exact q _ r (flatP ps) qa us ps (k3.trans (.of s4)) (w3.same s4) upd_same (s4 _ _ hq3) qaL (pc.same fun b xs e => s4 b _ e) cont
      | true =>
        have le : ("e" : Str) = S [101] := by decide +kernel
        obtain ⟨R, hR⟩ := last_run ps
        have si2 := si.snoc (x := .txt [101] [101]) each_e (.inr ⟨101, [], rfl, by decide⟩) hR
        have cont := si2.cont (by rw [List.getLast?_append]; exact fun e => by cases e) (by rw [List.length_append]; show ps.length + 1 ≤ 32; omega)
        refine iteT ⟨_, rfl, .inl ⟨rfl, _, SqL.of hq3⟩, _, rfl, _, rfl, lt, _, rfl, _, rfl, lt, _, _, rfl, rfl, (by show 3 ≤ sizeLine; decide), fun q1 nq1 => ?_⟩
        have e4 : (upd H3 q1 (.tup [.int ((S (flatP ps)).length : Nat), .int (((S (flatP ps)).length : Nat) + 1), .str "e"])) = upd H3 q1 (.tup [.int (((flatP ps).length : Nat) : Int), .int (((flatP ps).length + (Pc.txt [101] [101]).w.length : Nat) : Int), .str (S [101])]) := by
          rw [S_len, le]
          rfl
        rw [e4]
        have s5 := same_new (o := .tup [.int (((flatP ps).length : Nat) : Int), .int (((flatP ps).length + (Pc.txt [101] [101]).w.length : Nat) : Int), .str (S [101])]) nq1
        have hq5 := s5 _ _ hq3
        have hq1 : (upd H3 q1 (.tup [.int (((flatP ps).length : Nat) : Int), .int (((flatP ps).length + (Pc.txt [101] [101]).w.length : Nat) : Int), .str (S [101])])) q1 = some (.tup [.int (((flatP ps).length : Nat) : Int), .int (((flatP ps).length + (Pc.txt [101] [101]).w.length : Nat) : Int), .str (S [101])]) := upd_same
        have k5 := k3.trans (Keeps.of (L := L) s5)
        have w5 := w3.same s5
        replace pc := pc.same fun b xs e => s5 b _ e
        generalize (upd H3 q1 (.tup [.int (((flatP ps).length : Nat) : Int), .int (((flatP ps).length + (Pc.txt [101] [101]).w.length : Nat) : Int), .str (S [101])])) = H5 at k5 w5 hq5 hq1 pc ⊢
        have hul : us.length ≤ 31 := by rw [pc.len]; omega
        refine ⟨qa, us, _, rfl, rfl, hq5, by rw [sizeLine_eq]; omega, ?_⟩
        refine ⟨_, rfl, _, _, rfl, rfl, by rw [le]; exact add_line1 (a := flatP ps) (b := [101]) (by show (flatP ps).length + 1 ≤ _; omega), ?_⟩
        have tup : ∀ b xs, H5 b = some (.tup xs) → (upd H5 qa (.lst (us ++ [.ref q1]))) b = some (.tup xs) := fun b xs e => by
          rw [upd_ne]
          · exact e
          · intro z
            rw [z, hq5] at e
            cases e
        have pc6 := (pc.same tup).snoc (x := .txt [101] [101]) ⟨q1, _, rfl, tup _ _ hq1, rfl⟩
        have k6 := keeps_upd (o := .lst (us ++ [.ref q1])) k5 nqa
        have w6 := well_upd (o := .lst (us ++ [.ref q1])) w5 qaL
        have hq6 : (upd H5 qa (.lst (us ++ [.ref q1]))) qa = some (.lst (us ++ [.ref q1])) := upd_same
        generalize (upd H5 qa (.lst (us ++ [.ref q1]))) = H6 at pc6 k6 w6 hq6 ⊢
        refine ⟨_, rfl, _, rfl, (by show 2 ≤ sizeLine; decide), fun r nr => ?_⟩
        have eT : S (flatP ps) ++ ("e" : Str) = S (flatP (ps ++ [.txt [101] [101]])) := by
          rw [le, S_app, flat_snoc]
          rfl
        rw [show (S (flatP ps) ++ Str.ofString "e") = S (flatP (ps ++ [.txt [101] [101]])) from eT]
        have s7 := same_new (o := .tup [.str (S (flatP (ps ++ [.txt [101] [101]]))), .ref qa]) nr
        exact q _ r _ qa _ _ (k6.trans (.of s7)) (w6.same s7) upd_same (s7 _ _ hq6) qaL (pc6.same fun b xs e => s7 b _ e) cont
mutual
def eqI : Inl → Inl → Bool
  | .text a, .text b => decide (a = b)
  | .code a, .code b => decide (a = b)
  | .html a, .html b => decide (a = b)
  | .soft, .soft => true
  | .hard, .hard => true
  | .emph a, .emph b => eqR a b
  | .strong a, .strong b => eqR a b
  | _, _ => false
def eqR : List Inl → List Inl → Bool
  | [], [] => true
  | x :: a, y :: b => eqI x y && eqR a b
  | _, _ => false
end
mutual
theorem eqI_eq : ∀ {a b : Inl}, eqI a b = true → a = b
  | .text a, b, h => by
    cases b with
    | text b => rw [of_decide_eq_true h]
    | _ => cases h
  | .code a, b, h => by
    cases b with
    | code b => rw [of_decide_eq_true h]
    | _ => cases h
  | .html a, b, h => by
    cases b with
    | html b => rw [of_decide_eq_true h]
    | _ => cases h
  | .soft, b, h => by
    cases b with
    | soft => rfl
    | _ => cases h
  | .hard, b, h => by
    cases b with
    | hard => rfl
    | _ => cases h
  | .emph a, b, h => by
    cases b with
    | emph b => rw [eqR_eq (show eqR a b = true from h)]
    | _ => cases h
  | .strong a, b, h => by
    cases b with
    | strong b => rw [eqR_eq (show eqR a b = true from h)]
    | _ => cases h
  | .link _ _ _, b, h => by cases b <;> cases h
  | .image _ _ _, b, h => by cases b <;> cases h
theorem eqR_eq : ∀ {a b : List Inl}, eqR a b = true → a = b
  | [], b, h => by
    cases b with
    | nil => rfl
    | cons y b => cases h
  | x :: a, b, h => by
    cases b with
    | nil => cases h
    | cons y b =>
      have h' : (eqI x y && eqR a b) = true := h
      rw [Bool.and_eq_true] at h'
      rw [eqI_eq h'.1, eqR_eq h'.2]
end
def pcsB : List Pc → Bool
  | [] => true
  | .run c n :: r => (decide (c = 42) || decide (c = 95)) && decide (0 < n) && decide ((flatP r).head? ≠ some c) && pcsB r
  | .txt x m :: r => (match x with
      | [] => false
      | 92 :: c :: [] => PunL.contains c && decide (m = [c])
      | x => x.all (fun c => !StepL.contains c) && decide (m = x)) && pcsB r
  | .brk :: r => (match (flatP r).head? with
      | none => false
      | some c => !WhL.contains c) && pcsB r
theorem pcsB_ok : ∀ {ps : List Pc}, pcsB ps = true → PcsOk ps
  | [], _ => trivial
  | .run c n :: r, h => by
    have h' : ((decide (c = 42) || decide (c = 95)) && decide (0 < n) && decide ((flatP r).head? ≠ some c) && pcsB r) = true := h
    simp only [Bool.and_eq_true, Bool.or_eq_true, decide_eq_true_eq] at h'
    exact ⟨h'.1.1.1, h'.1.1.2, h'.1.2, pcsB_ok h'.2⟩
  | .txt x m :: r, h => by
    unfold pcsB at h
    rw [Bool.and_eq_true] at h
    refine ⟨?_, pcsB_ok h.2⟩
    have h1 := h.1
    split at h1
    · cases h1
    · rw [Bool.and_eq_true] at h1
      rw [of_decide_eq_true h1.2]
      exact tx_esc h1.1
    · rename_i n1 n2
      rw [Bool.and_eq_true] at h1
      rw [of_decide_eq_true h1.2]
      exact tx_plain h1.1 n1
  | .brk :: r, h => by
    unfold pcsB at h
    rw [Bool.and_eq_true] at h
    refine ⟨?_, pcsB_ok h.2⟩
    have h1 := h.1
    cases e : (flatP r).head? with
    | none => rw [e] at h1; cases h1
    | some c =>
      rw [e] at h1
      exact ⟨c, rfl, by simpa using h1⟩
def nwB : List Nat → Bool
  | a :: b :: r => !(decide (b = 10) && WhL.contains a) && nwB (b :: r)
  | _ => true
theorem nwB_ok : ∀ {t : List Nat}, nwB t = true → Nwl t
  | [], _ => fun k c h => by cases h
  | [a], _ => fun k c _ h => by cases h
  | a :: b :: r, h => fun k c h1 h2 => by
    have h' : (!(decide (b = 10) && WhL.contains a) && nwB (b :: r)) = true := h
    rw [Bool.and_eq_true] at h'
    cases k with
    | zero =>
      cases h1
      have e : b = 10 := Option.some.inj h2
      have := h'.1
      rw [e] at this
      simpa using this
    | succ k => exact nwB_ok h'.2 k c h1 h2
def jnP : List Inl → List Nat × List Inl
  | [] => ([], [])
  | .text t :: r => (t ++ (jnP r).1, (jnP r).2)
  | x :: r => ([], x :: (txtI (jnP r).1 ++ (jnP r).2))
def jnF (r : List Inl) : List Inl := txtI (jnP r).1 ++ (jnP r).2
theorem jnP_other {x : Inl} (h : isT x = false) (r : List Inl) : jnP (x :: r) = ([], x :: (txtI (jnP r).1 ++ (jnP r).2)) := by cases x <;> first | rfl | cases h
theorem jnF_eq : ∀ (r : List Inl) (w : List Nat), jnR w r = txtI (w ++ (jnP r).1) ++ (jnP r).2
  | [], w => by
    show txtI w = txtI (w ++ []) ++ []
    rw [List.append_nil, List.append_nil]
  | x :: r, w => by
    by_cases h : isT x = true
    · obtain ⟨t, rfl⟩ := isT_is h
      show jnR (w ++ t) r = txtI (w ++ (t ++ (jnP r).1)) ++ (jnP r).2
      rw [jnF_eq r, List.append_assoc]
    · have h' : isT x = false := by simpa using h
      rw [jn_other h', jnP_other h', jnF_eq r [], List.nil_append, List.append_nil]
theorem jnF_is (r : List Inl) : jnR [] r = jnF r := by rw [jnF_eq, List.nil_append]; rfl
def endF (st : Bool) : List (List Inl) → Option (List (List Inl))
  | top :: nxt :: r => some ((nxt ++ [mkI st (jnF top)]) :: r)
  | _ => none
def endsF : List Bool → List (List Inl) → Option (List (List Inl))
  | [], rows => some rows
  | b :: bs, rows => match endF b rows with
    | none => none
    | some rows' => endsF bs rows'
def runF (s : RunS) (rows : List (List Inl)) : Option (List (List Inl)) :=
  match endsF s.en rows with
  | none => none
  | some rows' => some (List.replicate s.be.length [] ++ addM (.text (List.replicate s.left.toNat s.d.sg)) rows')
def bldF : List ItR → List (List Inl) → Option (List (List Inl))
  | [], rows => some rows
  | .inl i :: r, rows => bldF r (addM i rows)
  | .run s :: r, rows => match runF s rows with
    | none => none
    | some rows' => bldF r rows'
def builtF (its : List It) : Option (List Inl) :=
  match bldF (fillR its (pairR (runsOf its))) [[]] with
  | none => none
  | some rows => some (jnF (rows.getLast?.getD []))
theorem endF_eq (st : Bool) (rows : List (List Inl)) : endM st rows = endF st rows := by
  match rows with
  | [] => rfl
  | [x] => rfl
  | top :: nxt :: r =>
    show some ((nxt ++ [mkI st (jnR [] top)]) :: r) = some ((nxt ++ [mkI st (jnF top)]) :: r)
    rw [jnF_is]
theorem endsF_eq : ∀ (bs : List Bool) (rows : List (List Inl)), endsM bs rows = endsF bs rows
  | [], rows => rfl
  | b :: bs, rows => by
    unfold endsM endsF
    rw [endF_eq]
    cases endF b rows with
    | none => rfl
    | some r => exact endsF_eq bs r
theorem runF_eq (s : RunS) (rows : List (List Inl)) : runM s rows = runF s rows := by
  unfold runM runF
  rw [endsF_eq]
  all_goals (cases endsF s.en rows <;> rfl)
theorem bldF_eq : ∀ (l : List ItR) (rows : List (List Inl)), bldM l rows = bldF l rows
  | [], rows => rfl
  | .inl i :: r, rows => bldF_eq r (addM i rows)
  | .run s :: r, rows => by
    unfold bldM bldF
    rw [runF_eq]
    cases runF s rows with
    | none => rfl
    | some r' => exact bldF_eq r r'
theorem builtF_eq (its : List It) : builtM its = builtF its := by
  unfold builtM builtF
  rw [bldF_eq]
  cases bldF (fillR its (pairR (runsOf its))) [[]] with
  | none => rfl
  | some r =>
    show some (jnR [] _) = some (jnF _)
    rw [jnF_is]
def smB : List Pc → Bool
  | [] => true
  | .run c _ :: r => decide (c < 128) && smB r
  | .txt _ m :: r => m.all (fun c => decide (c < 128)) && decide (m.length ≤ 1000) && smB r
  | .brk :: r => smB r
theorem smB_ok : ∀ {ps : List Pc}, smB ps = true → PcSm ps
  | [], _ => fun x hx => by cases hx
  | x :: r, h => fun y hy => by
    cases x with
    | run c n =>
      have h' : (decide (c < 128) && smB r) = true := h
      rw [Bool.and_eq_true] at h'
      rcases List.mem_cons.mp hy with rfl | hy
      · exact of_decide_eq_true h'.1
      · exact smB_ok h'.2 y hy
    | txt a m =>
      have h' : (m.all (fun c => decide (c < 128)) && decide (m.length ≤ 1000) && smB r) = true := h
      simp only [Bool.and_eq_true, List.all_eq_true, decide_eq_true_eq] at h'
      rcases List.mem_cons.mp hy with rfl | hy
      · exact ⟨fun c hc => by have := h'.1.1 c hc; omega, h'.1.2⟩
      · exact smB_ok h'.2 y hy
    | brk =>
      rcases List.mem_cons.mp hy with rfl | hy
      · trivial
      · exact smB_ok (show smB r = true from h) y hy
def chkO (ps : List Pc) (o : List Inl) : Bool :=
  pcsB ps && nwB (flatP ps) && decide ((flatP ps).length ≤ 400) && (flatP ps).all (fun c => decide (c < 128)) && smB ps && (match builtF (itsP (flatP ps) 0 ps) with
    | none => false
    | some r => eqR r o)
structure OutOk (t : List Nat) (o : List Inl) : Prop where
  rd : ∃ its, RdI t 0 0 its ∧ BOk its o
  asc : Asc t
  len : t.length ≤ 400
  lay : PyData.canLay0 (.tuple (rowD o)) = true
  dep : PyData.depth (.tuple (rowD o)) ≤ 1000
theorem chkO_ok {ps : List Pc} {o : List Inl} (h : chkO ps o = true) : OutOk (flatP ps) o := by
  unfold chkO at h
  simp only [Bool.and_eq_true, decide_eq_true_eq, List.all_eq_true] at h
  obtain ⟨⟨⟨⟨⟨h1, h2⟩, h3⟩, h4⟩, h6⟩, h5⟩ := h
  obtain ⟨its, rows, a, jj, c, d⟩ := law_outJ (nwB_ok h2) (pcsB_ok h1) rfl (Nat.le_trans h3 (by decide))
  cases e : builtF (itsP (flatP ps) 0 ps) with
  | none => rw [e] at h5; cases h5
  | some r =>
    rw [e] at h5
    have eo := d.out
    rw [built_jn jj, builtF_eq, e, eqR_eq h5] at eo
    have eo' := Option.some.inj eo
    obtain ⟨l1, l2⟩ := rows_ok rfl (smB_ok h6) c
    rw [← eo'] at d l1 l2
    exact ⟨⟨its, a, d⟩, h4, h3, l1, by omega⟩
def sgD (k : Nat) : Pc := match k % 4 with
  | 0 => .run 42 1
  | 1 => .run 42 2
  | 2 => .run 95 1
  | _ => .run 95 2
def psD : Nat → List Pc
  | 0 => [.txt [122] [122]]
  | k + 1 => sgD k :: .txt [120] [120] :: .brk :: (psD k ++ [.brk, .txt [121] [121], sgD k])
def dueD : Nat → List Inl
  | 0 => [.text [122]]
  | k + 1 => [mkI (decide (k % 4 = 1) || decide (k % 4 = 3)) (.text [120] :: .soft :: (dueD k ++ [.soft, .text [121]]))]
def psF (s : List Pc) (n : Nat) : List Pc := [.run 42 1, .txt [97] [97]] ++ ((List.replicate n s).flatten ++ [.txt [122] [122], .run 42 1])
def dueF (m : List Nat) (n : Nat) : List Inl := [.emph [.text ([97] ++ ((List.replicate n m).flatten ++ [122]))]]
def psS (n : Nat) : List Pc := [.run 42 2, .txt [97] [97]] ++ ((List.replicate n [Pc.txt [32] [32], .run 95 1, .txt [98] [98]]).flatten ++ [.txt [32, 99] [32, 99], .run 42 2])
def dueS (n : Nat) : List Inl := [.strong [.text ([97] ++ ((List.replicate n [32, 95, 98]).flatten ++ [32, 99]))]]
def psN (n : Nat) : List Pc := (List.replicate n [Pc.run 95 1, .txt [97] [97], .brk]).flatten ++ [.txt [122] [122]]
def dueN (n : Nat) : List Inl := (List.replicate n [Inl.text [95, 97], .soft]).flatten ++ [.text [122]]
theorem all_none {P : Nat → Prop} : ∀ m < 0, P m := fun m h => absurd h (Nat.not_lt_zero m)
theorem all_next {P : Nat → Prop} {n : Nat} (h : ∀ m < n, P m) (g : P n) : ∀ m < n + 1, P m := fun m hm => by
  rcases Nat.lt_succ_iff_lt_or_eq.mp hm with q | q
  · exact h m q
  · rw [q]
    exact g
def dp (m : Nat) : Bool := chkO (psD m) (dueD m)
theorem dp0 : dp 0 = true := by decide +kernel
theorem dp1 : dp 1 = true := by decide +kernel
theorem dp2 : dp 2 = true := by decide +kernel
theorem dp3 : dp 3 = true := by decide +kernel
theorem dp4 : dp 4 = true := by decide +kernel
theorem dp5 : dp 5 = true := by decide +kernel
theorem dp6 : dp 6 = true := by decide +kernel
theorem dp7 : dp 7 = true := by decide +kernel
theorem dp8 : dp 8 = true := by decide +kernel
theorem dp9 : dp 9 = true := by decide +kernel
theorem dp10 : dp 10 = true := by decide +kernel
theorem dp11 : dp 11 = true := by decide +kernel
theorem dp12 : dp 12 = true := by decide +kernel
theorem dp13 : dp 13 = true := by decide +kernel
theorem dp14 : dp 14 = true := by decide +kernel
theorem dp15 : dp 15 = true := by decide +kernel
theorem dp16 : dp 16 = true := by decide +kernel
theorem dp17 : dp 17 = true := by decide +kernel
theorem dp18 : dp 18 = true := by decide +kernel
theorem dp19 : dp 19 = true := by decide +kernel
theorem dp20 : dp 20 = true := by decide +kernel
theorem dp21 : dp 21 = true := by decide +kernel
theorem dp22 : dp 22 = true := by decide +kernel
theorem dp23 : dp 23 = true := by decide +kernel
theorem dp24 : dp 24 = true := by decide +kernel
theorem dp25 : dp 25 = true := by decide +kernel
theorem dp26 : dp 26 = true := by decide +kernel
theorem dp27 : dp 27 = true := by decide +kernel
theorem dp28 : dp 28 = true := by decide +kernel
theorem dp29 : dp 29 = true := by decide +kernel
theorem dp30 : dp 30 = true := by decide +kernel
theorem dp31 : dp 31 = true := by decide +kernel
theorem dp32 : dp 32 = true := by decide +kernel
theorem dp33 : dp 33 = true := by decide +kernel
theorem dp34 : dp 34 = true := by decide +kernel
theorem dp35 : dp 35 = true := by decide +kernel
theorem dp36 : dp 36 = true := by decide +kernel
theorem dp37 : dp 37 = true := by decide +kernel
theorem dp38 : dp 38 = true := by decide +kernel
theorem dp_to10 : ∀ m < 10, dp m = true := (all_next (all_next (all_next (all_next (all_next (all_next (all_next (all_next (all_next (all_next all_none dp0) dp1) dp2) dp3) dp4) dp5) dp6) dp7) dp8) dp9)
theorem dp_to20 : ∀ m < 20, dp m = true := (all_next (all_next (all_next (all_next (all_next (all_next (all_next (all_next (all_next (all_next dp_to10 dp10) dp11) dp12) dp13) dp14) dp15) dp16) dp17) dp18) dp19)
theorem dp_to30 : ∀ m < 30, dp m = true := (all_next (all_next (all_next (all_next (all_next (all_next (all_next (all_next (all_next (all_next dp_to20 dp20) dp21) dp22) dp23) dp24) dp25) dp26) dp27) dp28) dp29)
theorem dp_to39 : ∀ m < 39, dp m = true := (all_next (all_next (all_next (all_next (all_next (all_next (all_next (all_next (all_next dp_to30 dp30) dp31) dp32) dp33) dp34) dp35) dp36) dp37) dp38)
theorem deep_chk : ∀ m < 39, chkO (psD m) (dueD m) = true := dp_to39
def fa (m : Nat) : Bool := chkO (psF [.txt [92, 46] [46]] m) (dueF [46] m)
theorem fa0 : fa 0 = true := by decide +kernel
theorem fa1 : fa 1 = true := by decide +kernel
theorem fa2 : fa 2 = true := by decide +kernel
theorem fa3 : fa 3 = true := by decide +kernel
theorem fa4 : fa 4 = true := by decide +kernel
theorem fa5 : fa 5 = true := by decide +kernel
theorem fa6 : fa 6 = true := by decide +kernel
theorem fa7 : fa 7 = true := by decide +kernel
theorem fa8 : fa 8 = true := by decide +kernel
theorem fa9 : fa 9 = true := by decide +kernel
theorem fa10 : fa 10 = true := by decide +kernel
theorem fa11 : fa 11 = true := by decide +kernel
theorem fa12 : fa 12 = true := by decide +kernel
theorem fa13 : fa 13 = true := by decide +kernel
theorem fa14 : fa 14 = true := by decide +kernel
theorem fa15 : fa 15 = true := by decide +kernel
theorem fa16 : fa 16 = true := by decide +kernel
theorem fa17 : fa 17 = true := by decide +kernel
theorem fa18 : fa 18 = true := by decide +kernel
theorem fa19 : fa 19 = true := by decide +kernel
theorem fa20 : fa 20 = true := by decide +kernel
theorem fa21 : fa 21 = true := by decide +kernel
theorem fa22 : fa 22 = true := by decide +kernel
theorem fa23 : fa 23 = true := by decide +kernel
theorem fa24 : fa 24 = true := by decide +kernel
theorem fa25 : fa 25 = true := by decide +kernel
theorem fa26 : fa 26 = true := by decide +kernel
theorem fa27 : fa 27 = true := by decide +kernel
theorem fa28 : fa 28 = true := by decide +kernel
theorem fa29 : fa 29 = true := by decide +kernel
theorem fa30 : fa 30 = true := by decide +kernel
theorem fa31 : fa 31 = true := by decide +kernel
theorem fa32 : fa 32 = true := by decide +kernel
theorem fa33 : fa 33 = true := by decide +kernel
theorem fa34 : fa 34 = true := by decide +kernel
theorem fa35 : fa 35 = true := by decide +kernel
theorem fa36 : fa 36 = true := by decide +kernel
theorem fa37 : fa 37 = true := by decide +kernel
theorem fa38 : fa 38 = true := by decide +kernel
theorem fa39 : fa 39 = true := by decide +kernel
theorem fa40 : fa 40 = true := by decide +kernel
theorem fa41 : fa 41 = true := by decide +kernel
theorem fa42 : fa 42 = true := by decide +kernel
theorem fa43 : fa 43 = true := by decide +kernel
theorem fa44 : fa 44 = true := by decide +kernel
theorem fa45 : fa 45 = true := by decide +kernel
theorem fa46 : fa 46 = true := by decide +kernel
theorem fa47 : fa 47 = true := by decide +kernel
theorem fa48 : fa 48 = true := by decide +kernel
theorem fa49 : fa 49 = true := by decide +kernel
theorem fa50 : fa 50 = true := by decide +kernel
theorem fa51 : fa 51 = true := by decide +kernel
theorem fa52 : fa 52 = true := by decide +kernel
theorem fa53 : fa 53 = true := by decide +kernel
theorem fa54 : fa 54 = true := by decide +kernel
theorem fa55 : fa 55 = true := by decide +kernel
theorem fa56 : fa 56 = true := by decide +kernel
theorem fa57 : fa 57 = true := by decide +kernel
theorem fa58 : fa 58 = true := by decide +kernel
theorem fa59 : fa 59 = true := by decide +kernel
theorem fa60 : fa 60 = true := by decide +kernel
theorem fa61 : fa 61 = true := by decide +kernel
theorem fa62 : fa 62 = true := by decide +kernel
theorem fa63 : fa 63 = true := by decide +kernel
theorem fa64 : fa 64 = true := by decide +kernel
theorem fa65 : fa 65 = true := by decide +kernel
theorem fa66 : fa 66 = true := by decide +kernel
theorem fa67 : fa 67 = true := by decide +kernel
theorem fa68 : fa 68 = true := by decide +kernel
theorem fa69 : fa 69 = true := by decide +kernel
theorem fa70 : fa 70 = true := by decide +kernel
theorem fa71 : fa 71 = true := by decide +kernel
theorem fa72 : fa 72 = true := by decide +kernel
theorem fa73 : fa 73 = true := by decide +kernel
theorem fa74 : fa 74 = true := by decide +kernel
theorem fa75 : fa 75 = true := by decide +kernel
theorem fa76 : fa 76 = true := by decide +kernel
theorem fa77 : fa 77 = true := by decide +kernel
theorem fa78 : fa 78 = true := by decide +kernel
theorem fa79 : fa 79 = true := by decide +kernel
theorem fa80 : fa 80 = true := by decide +kernel
theorem fa81 : fa 81 = true := by decide +kernel
theorem fa82 : fa 82 = true := by decide +kernel
theorem fa83 : fa 83 = true := by decide +kernel
theorem fa84 : fa 84 = true := by decide +kernel
theorem fa85 : fa 85 = true := by decide +kernel
theorem fa86 : fa 86 = true := by decide +kernel
theorem fa87 : fa 87 = true := by decide +kernel
theorem fa88 : fa 88 = true := by decide +kernel
theorem fa89 : fa 89 = true := by decide +kernel
theorem fa90 : fa 90 = true := by decide +kernel
theorem fa91 : fa 91 = true := by decide +kernel
theorem fa92 : fa 92 = true := by decide +kernel
theorem fa93 : fa 93 = true := by decide +kernel
theorem fa94 : fa 94 = true := by decide +kernel
theorem fa95 : fa 95 = true := by decide +kernel
theorem fa96 : fa 96 = true := by decide +kernel
theorem fa97 : fa 97 = true := by decide +kernel
theorem fa_to10 : ∀ m < 10, fa m = true := (all_next (all_next (all_next (all_next (all_next (all_next (all_next (all_next (all_next (all_next all_none fa0) fa1) fa2) fa3) fa4) fa5) fa6) fa7) fa8) fa9)
theorem fa_to20 : ∀ m < 20, fa m = true := (all_next (all_next (all_next (all_next (all_next (all_next (all_next (all_next (all_next (all_next fa_to10 fa10) fa11) fa12) fa13) fa14) fa15) fa16) fa17) fa18) fa19)
theorem fa_to30 : ∀ m < 30, fa m = true := (all_next (all_next (all_next (all_next (all_next (all_next (all_next (all_next (all_next (all_next fa_to20 fa20) fa21) fa22) fa23) fa24) fa25) fa26) fa27) fa28) fa29)
theorem fa_to40 : ∀ m < 40, fa m = true := (all_next (all_next (all_next (all_next (all_next (all_next (all_next (all_next (all_next (all_next fa_to30 fa30) fa31) fa32) fa33) fa34) fa35) fa36) fa37) fa38) fa39)
theorem fa_to50 : ∀ m < 50, fa m = true := (all_next (all_next (all_next (all_next (all_next (all_next (all_next (all_next (all_next (all_next fa_to40 fa40) fa41) fa42) fa43) fa44) fa45) fa46) fa47) fa48) fa49)
theorem fa_to60 : ∀ m < 60, fa m = true := (all_next (all_next (all_next (all_next (all_next (all_next (all_next (all_next (all_next (all_next fa_to50 fa50) fa51) fa52) fa53) fa54) fa55) fa56) fa57) fa58) fa59)
theorem fa_to70 : ∀ m < 70, fa m = true := (all_next (all_next (all_next (all_next (all_next (all_next (all_next (all_next (all_next (all_next fa_to60 fa60) fa61) fa62) fa63) fa64) fa65) fa66) fa67) fa68) fa69)
theorem fa_to80 : ∀ m < 80, fa m = true := (all_next (all_next (all_next (all_next (all_next (all_next (all_next (all_next (all_next (all_next fa_to70 fa70) fa71) fa72) fa73) fa74) fa75) fa76) fa77) fa78) fa79)
theorem fa_to90 : ∀ m < 90, fa m = true := (all_next (all_next (all_next (all_next (all_next (all_next (all_next (all_next (all_next (all_next fa_to80 fa80) fa81) fa82) fa83) fa84) fa85) fa86) fa87) fa88) fa89)
theorem fa_to98 : ∀ m < 98, fa m = true := (all_next (all_next (all_next (all_next (all_next (all_next (all_next (all_next fa_to90 fa90) fa91) fa92) fa93) fa94) fa95) fa96) fa97)
theorem far1_chk : ∀ m < 98, chkO (psF [.txt [92, 46] [46]] m) (dueF [46] m) = true := fa_to98
def fb (m : Nat) : Bool := chkO (psF [.run 95 1, .txt [98] [98]] m) (dueF [95, 98] m)
theorem fb0 : fb 0 = true := by decide +kernel
theorem fb1 : fb 1 = true := by decide +kernel
theorem fb2 : fb 2 = true := by decide +kernel
theorem fb3 : fb 3 = true := by decide +kernel
theorem fb4 : fb 4 = true := by decide +kernel
theorem fb5 : fb 5 = true := by decide +kernel
theorem fb6 : fb 6 = true := by decide +kernel
theorem fb7 : fb 7 = true := by decide +kernel
theorem fb8 : fb 8 = true := by decide +kernel
theorem fb9 : fb 9 = true := by decide +kernel
theorem fb10 : fb 10 = true := by decide +kernel
theorem fb11 : fb 11 = true := by decide +kernel
theorem fb12 : fb 12 = true := by decide +kernel
theorem fb13 : fb 13 = true := by decide +kernel
theorem fb14 : fb 14 = true := by decide +kernel
theorem fb15 : fb 15 = true := by decide +kernel
theorem fb16 : fb 16 = true := by decide +kernel
theorem fb17 : fb 17 = true := by decide +kernel
theorem fb18 : fb 18 = true := by decide +kernel
theorem fb19 : fb 19 = true := by decide +kernel
theorem fb20 : fb 20 = true := by decide +kernel
theorem fb21 : fb 21 = true := by decide +kernel
theorem fb22 : fb 22 = true := by decide +kernel
theorem fb23 : fb 23 = true := by decide +kernel
theorem fb24 : fb 24 = true := by decide +kernel
theorem fb25 : fb 25 = true := by decide +kernel
theorem fb26 : fb 26 = true := by decide +kernel
theorem fb27 : fb 27 = true := by decide +kernel
theorem fb28 : fb 28 = true := by decide +kernel
theorem fb29 : fb 29 = true := by decide +kernel
theorem fb30 : fb 30 = true := by decide +kernel
theorem fb31 : fb 31 = true := by decide +kernel
theorem fb32 : fb 32 = true := by decide +kernel
theorem fb33 : fb 33 = true := by decide +kernel
theorem fb34 : fb 34 = true := by decide +kernel
theorem fb35 : fb 35 = true := by decide +kernel
theorem fb36 : fb 36 = true := by decide +kernel
theorem fb37 : fb 37 = true := by decide +kernel
theorem fb38 : fb 38 = true := by decide +kernel
theorem fb39 : fb 39 = true := by decide +kernel
theorem fb40 : fb 40 = true := by decide +kernel
theorem fb41 : fb 41 = true := by decide +kernel
theorem fb42 : fb 42 = true := by decide +kernel
theorem fb43 : fb 43 = true := by decide +kernel
theorem fb44 : fb 44 = true := by decide +kernel
theorem fb45 : fb 45 = true := by decide +kernel
theorem fb46 : fb 46 = true := by decide +kernel
theorem fb47 : fb 47 = true := by decide +kernel
theorem fb48 : fb 48 = true := by decide +kernel
theorem fb49 : fb 49 = true := by decide +kernel
theorem fb50 : fb 50 = true := by decide +kernel
theorem fb51 : fb 51 = true := by decide +kernel
theorem fb52 : fb 52 = true := by decide +kernel
theorem fb53 : fb 53 = true := by decide +kernel
theorem fb54 : fb 54 = true := by decide +kernel
theorem fb55 : fb 55 = true := by decide +kernel
theorem fb56 : fb 56 = true := by decide +kernel
theorem fb57 : fb 57 = true := by decide +kernel
theorem fb58 : fb 58 = true := by decide +kernel
theorem fb59 : fb 59 = true := by decide +kernel
theorem fb60 : fb 60 = true := by decide +kernel
theorem fb61 : fb 61 = true := by decide +kernel
theorem fb62 : fb 62 = true := by decide +kernel
theorem fb63 : fb 63 = true := by decide +kernel
theorem fb64 : fb 64 = true := by decide +kernel
theorem fb65 : fb 65 = true := by decide +kernel
theorem fb66 : fb 66 = true := by decide +kernel
theorem fb67 : fb 67 = true := by decide +kernel
theorem fb68 : fb 68 = true := by decide +kernel
theorem fb69 : fb 69 = true := by decide +kernel
theorem fb70 : fb 70 = true := by decide +kernel
theorem fb71 : fb 71 = true := by decide +kernel
theorem fb72 : fb 72 = true := by decide +kernel
theorem fb73 : fb 73 = true := by decide +kernel
theorem fb74 : fb 74 = true := by decide +kernel
theorem fb75 : fb 75 = true := by decide +kernel
theorem fb76 : fb 76 = true := by decide +kernel
theorem fb77 : fb 77 = true := by decide +kernel
theorem fb78 : fb 78 = true := by decide +kernel
theorem fb79 : fb 79 = true := by decide +kernel
theorem fb80 : fb 80 = true := by decide +kernel
theorem fb81 : fb 81 = true := by decide +kernel
theorem fb82 : fb 82 = true := by decide +kernel
theorem fb83 : fb 83 = true := by decide +kernel
theorem fb84 : fb 84 = true := by decide +kernel
theorem fb85 : fb 85 = true := by decide +kernel
theorem fb86 : fb 86 = true := by decide +kernel
theorem fb87 : fb 87 = true := by decide +kernel
theorem fb88 : fb 88 = true := by decide +kernel
theorem fb89 : fb 89 = true := by decide +kernel
theorem fb90 : fb 90 = true := by decide +kernel
theorem fb91 : fb 91 = true := by decide +kernel
theorem fb92 : fb 92 = true := by decide +kernel
theorem fb93 : fb 93 = true := by decide +kernel
theorem fb94 : fb 94 = true := by decide +kernel
theorem fb95 : fb 95 = true := by decide +kernel
theorem fb96 : fb 96 = true := by decide +kernel
theorem fb97 : fb 97 = true := by decide +kernel
theorem fb_to10 : ∀ m < 10, fb m = true := (all_next (all_next (all_next (all_next (all_next (all_next (all_next (all_next (all_next (all_next all_none fb0) fb1) fb2) fb3) fb4) fb5) fb6) fb7) fb8) fb9)
theorem fb_to20 : ∀ m < 20, fb m = true := (all_next (all_next (all_next (all_next (all_next (all_next (all_next (all_next (all_next (all_next fb_to10 fb10) fb11) fb12) fb13) fb14) fb15) fb16) fb17) fb18) fb19)
theorem fb_to30 : ∀ m < 30, fb m = true := (all_next (all_next (all_next (all_next (all_next (all_next (all_next (all_next (all_next (all_next fb_to20 fb20) fb21) fb22) fb23) fb24) fb25) fb26) fb27) fb28) fb29)
theorem fb_to40 : ∀ m < 40, fb m = true := (all_next (all_next (all_next (all_next (all_next (all_next (all_next (all_next (all_next (all_next fb_to30 fb30) fb31) fb32) fb33) fb34) fb35) fb36) fb37) fb38) fb39)
theorem fb_to50 : ∀ m < 50, fb m = true := (all_next (all_next (all_next (all_next (all_next (all_next (all_next (all_next (all_next (all_next fb_to40 fb40) fb41) fb42) fb43) fb44) fb45) fb46) fb47) fb48) fb49)
theorem fb_to60 : ∀ m < 60, fb m = true := (all_next (all_next (all_next (all_next (all_next (all_next (all_next (all_next (all_next (all_next fb_to50 fb50) fb51) fb52) fb53) fb54) fb55) fb56) fb57) fb58) fb59)
theorem fb_to70 : ∀ m < 70, fb m = true := (all_next (all_next (all_next (all_next (all_next (all_next (all_next (all_next (all_next (all_next fb_to60 fb60) fb61) fb62) fb63) fb64) fb65) fb66) fb67) fb68) fb69)
theorem fb_to80 : ∀ m < 80, fb m = true := (all_next (all_next (all_next (all_next (all_next (all_next (all_next (all_next (all_next (all_next fb_to70 fb70) fb71) fb72) fb73) fb74) fb75) fb76) fb77) fb78) fb79)
theorem fb_to90 : ∀ m < 90, fb m = true := (all_next (all_next (all_next (all_next (all_next (all_next (all_next (all_next (all_next (all_next fb_to80 fb80) fb81) fb82) fb83) fb84) fb85) fb86) fb87) fb88) fb89)
theorem fb_to98 : ∀ m < 98, fb m = true := (all_next (all_next (all_next (all_next (all_next (all_next (all_next (all_next fb_to90 fb90) fb91) fb92) fb93) fb94) fb95) fb96) fb97)
theorem far2_chk : ∀ m < 98, chkO (psF [.run 95 1, .txt [98] [98]] m) (dueF [95, 98] m) = true := fb_to98
def fc (m : Nat) : Bool := chkO (psF [.txt [45, 43] [45, 43]] m) (dueF [45, 43] m)
theorem fc0 : fc 0 = true := by decide +kernel
theorem fc1 : fc 1 = true := by decide +kernel
theorem fc2 : fc 2 = true := by decide +kernel
theorem fc3 : fc 3 = true := by decide +kernel
theorem fc4 : fc 4 = true := by decide +kernel
theorem fc5 : fc 5 = true := by decide +kernel
theorem fc6 : fc 6 = true := by decide +kernel
theorem fc7 : fc 7 = true := by decide +kernel
theorem fc8 : fc 8 = true := by decide +kernel
theorem fc9 : fc 9 = true := by decide +kernel
theorem fc10 : fc 10 = true := by decide +kernel
theorem fc11 : fc 11 = true := by decide +kernel
theorem fc12 : fc 12 = true := by decide +kernel
theorem fc13 : fc 13 = true := by decide +kernel
theorem fc14 : fc 14 = true := by decide +kernel
theorem fc15 : fc 15 = true := by decide +kernel
theorem fc16 : fc 16 = true := by decide +kernel
theorem fc17 : fc 17 = true := by decide +kernel
theorem fc18 : fc 18 = true := by decide +kernel
theorem fc19 : fc 19 = true := by decide +kernel
theorem fc20 : fc 20 = true := by decide +kernel
theorem fc21 : fc 21 = true := by decide +kernel
theorem fc22 : fc 22 = true := by decide +kernel
theorem fc23 : fc 23 = true := by decide +kernel
theorem fc24 : fc 24 = true := by decide +kernel
theorem fc25 : fc 25 = true := by decide +kernel
theorem fc26 : fc 26 = true := by decide +kernel
theorem fc27 : fc 27 = true := by decide +kernel
theorem fc28 : fc 28 = true := by decide +kernel
theorem fc29 : fc 29 = true := by decide +kernel
theorem fc30 : fc 30 = true := by decide +kernel
theorem fc31 : fc 31 = true := by decide +kernel
theorem fc32 : fc 32 = true := by decide +kernel
theorem fc33 : fc 33 = true := by decide +kernel
theorem fc34 : fc 34 = true := by decide +kernel
theorem fc35 : fc 35 = true := by decide +kernel
theorem fc36 : fc 36 = true := by decide +kernel
theorem fc37 : fc 37 = true := by decide +kernel
theorem fc38 : fc 38 = true := by decide +kernel
theorem fc39 : fc 39 = true := by decide +kernel
theorem fc40 : fc 40 = true := by decide +kernel
theorem fc41 : fc 41 = true := by decide +kernel
theorem fc42 : fc 42 = true := by decide +kernel
theorem fc43 : fc 43 = true := by decide +kernel
theorem fc44 : fc 44 = true := by decide +kernel
theorem fc45 : fc 45 = true := by decide +kernel
theorem fc46 : fc 46 = true := by decide +kernel
theorem fc47 : fc 47 = true := by decide +kernel
theorem fc48 : fc 48 = true := by decide +kernel
theorem fc49 : fc 49 = true := by decide +kernel
theorem fc50 : fc 50 = true := by decide +kernel
theorem fc51 : fc 51 = true := by decide +kernel
theorem fc52 : fc 52 = true := by decide +kernel
theorem fc53 : fc 53 = true := by decide +kernel
theorem fc54 : fc 54 = true := by decide +kernel
theorem fc55 : fc 55 = true := by decide +kernel
theorem fc56 : fc 56 = true := by decide +kernel
theorem fc57 : fc 57 = true := by decide +kernel
theorem fc58 : fc 58 = true := by decide +kernel
theorem fc59 : fc 59 = true := by decide +kernel
theorem fc60 : fc 60 = true := by decide +kernel
theorem fc61 : fc 61 = true := by decide +kernel
theorem fc62 : fc 62 = true := by decide +kernel
theorem fc63 : fc 63 = true := by decide +kernel
theorem fc64 : fc 64 = true := by decide +kernel
theorem fc65 : fc 65 = true := by decide +kernel
theorem fc66 : fc 66 = true := by decide +kernel
theorem fc67 : fc 67 = true := by decide +kernel
theorem fc68 : fc 68 = true := by decide +kernel
theorem fc69 : fc 69 = true := by decide +kernel
theorem fc70 : fc 70 = true := by decide +kernel
theorem fc71 : fc 71 = true := by decide +kernel
theorem fc72 : fc 72 = true := by decide +kernel
theorem fc73 : fc 73 = true := by decide +kernel
theorem fc74 : fc 74 = true := by decide +kernel
theorem fc75 : fc 75 = true := by decide +kernel
theorem fc76 : fc 76 = true := by decide +kernel
theorem fc77 : fc 77 = true := by decide +kernel
theorem fc78 : fc 78 = true := by decide +kernel
theorem fc79 : fc 79 = true := by decide +kernel
theorem fc80 : fc 80 = true := by decide +kernel
theorem fc81 : fc 81 = true := by decide +kernel
theorem fc82 : fc 82 = true := by decide +kernel
theorem fc83 : fc 83 = true := by decide +kernel
theorem fc84 : fc 84 = true := by decide +kernel
theorem fc85 : fc 85 = true := by decide +kernel
theorem fc86 : fc 86 = true := by decide +kernel
theorem fc87 : fc 87 = true := by decide +kernel
theorem fc88 : fc 88 = true := by decide +kernel
theorem fc89 : fc 89 = true := by decide +kernel
theorem fc90 : fc 90 = true := by decide +kernel
theorem fc91 : fc 91 = true := by decide +kernel
theorem fc92 : fc 92 = true := by decide +kernel
theorem fc93 : fc 93 = true := by decide +kernel
theorem fc94 : fc 94 = true := by decide +kernel
theorem fc95 : fc 95 = true := by decide +kernel
theorem fc96 : fc 96 = true := by decide +kernel
theorem fc97 : fc 97 = true := by decide +kernel
theorem fc_to10 : ∀ m < 10, fc m = true := (all_next (all_next (all_next (all_next (all_next (all_next (all_next (all_next (all_next (all_next all_none fc0) fc1) fc2) fc3) fc4) fc5) fc6) fc7) fc8) fc9)
theorem fc_to20 : ∀ m < 20, fc m = true := (all_next (all_next (all_next (all_next (all_next (all_next (all_next (all_next (all_next (all_next fc_to10 fc10) fc11) fc12) fc13) fc14) fc15) fc16) fc17) fc18) fc19)
theorem fc_to30 : ∀ m < 30, fc m = true := (all_next (all_next (all_next (all_next (all_next (all_next (all_next (all_next (all_next (all_next fc_to20 fc20) fc21) fc22) fc23) fc24) fc25) fc26) fc27) fc28) fc29)
theorem fc_to40 : ∀ m < 40, fc m = true := (all_next (all_next (all_next (all_next (all_next (all_next (all_next (all_next (all_next (all_next fc_to30 fc30) fc31) fc32) fc33) fc34) fc35) fc36) fc37) fc38) fc39)
theorem fc_to50 : ∀ m < 50, fc m = true := (all_next (all_next (all_next (all_next (all_next (all_next (all_next (all_next (all_next (all_next fc_to40 fc40) fc41) fc42) fc43) fc44) fc45) fc46) fc47) fc48) fc49)
theorem fc_to60 : ∀ m < 60, fc m = true := (all_next (all_next (all_next (all_next (all_next (all_next (all_next (all_next (all_next (all_next fc_to50 fc50) fc51) fc52) fc53) fc54) fc55) fc56) fc57) fc58) fc59)
theorem fc_to70 : ∀ m < 70, fc m = true := (all_next (all_next (all_next (all_next (all_next (all_next (all_next (all_next (all_next (all_next fc_to60 fc60) fc61) fc62) fc63) fc64) fc65) fc66) fc67) fc68) fc69)
theorem fc_to80 : ∀ m < 80, fc m = true := (all_next (all_next (all_next (all_next (all_next (all_next (all_next (all_next (all_next (all_next fc_to70 fc70) fc71) fc72) fc73) fc74) fc75) fc76) fc77) fc78) fc79)
theorem fc_to90 : ∀ m < 90, fc m = true := (all_next (all_next (all_next (all_next (all_next (all_next (all_next (all_next (all_next (all_next fc_to80 fc80) fc81) fc82) fc83) fc84) fc85) fc86) fc87) fc88) fc89)
theorem fc_to98 : ∀ m < 98, fc m = true := (all_next (all_next (all_next (all_next (all_next (all_next (all_next (all_next fc_to90 fc90) fc91) fc92) fc93) fc94) fc95) fc96) fc97)
theorem far3_chk : ∀ m < 98, chkO (psF [.txt [45, 43] [45, 43]] m) (dueF [45, 43] m) = true := fc_to98
def fd (m : Nat) : Bool := chkO (psF [.txt [97, 32] [97, 32]] m) (dueF [97, 32] m)
theorem fd0 : fd 0 = true := by decide +kernel
theorem fd1 : fd 1 = true := by decide +kernel
theorem fd2 : fd 2 = true := by decide +kernel
theorem fd3 : fd 3 = true := by decide +kernel
theorem fd4 : fd 4 = true := by decide +kernel
theorem fd5 : fd 5 = true := by decide +kernel
theorem fd6 : fd 6 = true := by decide +kernel
theorem fd7 : fd 7 = true := by decide +kernel
theorem fd8 : fd 8 = true := by decide +kernel
theorem fd9 : fd 9 = true := by decide +kernel
theorem fd10 : fd 10 = true := by decide +kernel
theorem fd11 : fd 11 = true := by decide +kernel
theorem fd12 : fd 12 = true := by decide +kernel
theorem fd13 : fd 13 = true := by decide +kernel
theorem fd14 : fd 14 = true := by decide +kernel
theorem fd15 : fd 15 = true := by decide +kernel
theorem fd16 : fd 16 = true := by decide +kernel
theorem fd17 : fd 17 = true := by decide +kernel
theorem fd18 : fd 18 = true := by decide +kernel
theorem fd19 : fd 19 = true := by decide +kernel
theorem fd20 : fd 20 = true := by decide +kernel
theorem fd21 : fd 21 = true := by decide +kernel
theorem fd22 : fd 22 = true := by decide +kernel
theorem fd23 : fd 23 = true := by decide +kernel
theorem fd24 : fd 24 = true := by decide +kernel
theorem fd25 : fd 25 = true := by decide +kernel
theorem fd26 : fd 26 = true := by decide +kernel
theorem fd27 : fd 27 = true := by decide +kernel
theorem fd28 : fd 28 = true := by decide +kernel
theorem fd29 : fd 29 = true := by decide +kernel
theorem fd30 : fd 30 = true := by decide +kernel
theorem fd31 : fd 31 = true := by decide +kernel
theorem fd32 : fd 32 = true := by decide +kernel
theorem fd33 : fd 33 = true := by decide +kernel
theorem fd34 : fd 34 = true := by decide +kernel
theorem fd35 : fd 35 = true := by decide +kernel
theorem fd36 : fd 36 = true := by decide +kernel
theorem fd37 : fd 37 = true := by decide +kernel
theorem fd38 : fd 38 = true := by decide +kernel
theorem fd39 : fd 39 = true := by decide +kernel
theorem fd40 : fd 40 = true := by decide +kernel
theorem fd41 : fd 41 = true := by decide +kernel
theorem fd42 : fd 42 = true := by decide +kernel
theorem fd43 : fd 43 = true := by decide +kernel
theorem fd44 : fd 44 = true := by decide +kernel
theorem fd45 : fd 45 = true := by decide +kernel
theorem fd46 : fd 46 = true := by decide +kernel
theorem fd47 : fd 47 = true := by decide +kernel
theorem fd48 : fd 48 = true := by decide +kernel
theorem fd49 : fd 49 = true := by decide +kernel
theorem fd50 : fd 50 = true := by decide +kernel
theorem fd51 : fd 51 = true := by decide +kernel
theorem fd52 : fd 52 = true := by decide +kernel
theorem fd53 : fd 53 = true := by decide +kernel
theorem fd54 : fd 54 = true := by decide +kernel
theorem fd55 : fd 55 = true := by decide +kernel
theorem fd56 : fd 56 = true := by decide +kernel
theorem fd57 : fd 57 = true := by decide +kernel
theorem fd58 : fd 58 = true := by decide +kernel
theorem fd59 : fd 59 = true := by decide +kernel
theorem fd60 : fd 60 = true := by decide +kernel
theorem fd61 : fd 61 = true := by decide +kernel
theorem fd62 : fd 62 = true := by decide +kernel
theorem fd63 : fd 63 = true := by decide +kernel
theorem fd64 : fd 64 = true := by decide +kernel
theorem fd65 : fd 65 = true := by decide +kernel
theorem fd66 : fd 66 = true := by decide +kernel
theorem fd67 : fd 67 = true := by decide +kernel
theorem fd68 : fd 68 = true := by decide +kernel
theorem fd69 : fd 69 = true := by decide +kernel
theorem fd70 : fd 70 = true := by decide +kernel
theorem fd71 : fd 71 = true := by decide +kernel
theorem fd72 : fd 72 = true := by decide +kernel
theorem fd73 : fd 73 = true := by decide +kernel
theorem fd74 : fd 74 = true := by decide +kernel
theorem fd75 : fd 75 = true := by decide +kernel
theorem fd76 : fd 76 = true := by decide +kernel
theorem fd77 : fd 77 = true := by decide +kernel
theorem fd78 : fd 78 = true := by decide +kernel
theorem fd79 : fd 79 = true := by decide +kernel
theorem fd80 : fd 80 = true := by decide +kernel
theorem fd81 : fd 81 = true := by decide +kernel
theorem fd82 : fd 82 = true := by decide +kernel
theorem fd83 : fd 83 = true := by decide +kernel
theorem fd84 : fd 84 = true := by decide +kernel
theorem fd85 : fd 85 = true := by decide +kernel
theorem fd86 : fd 86 = true := by decide +kernel
theorem fd87 : fd 87 = true := by decide +kernel
theorem fd88 : fd 88 = true := by decide +kernel
theorem fd89 : fd 89 = true := by decide +kernel
theorem fd90 : fd 90 = true := by decide +kernel
theorem fd91 : fd 91 = true := by decide +kernel
theorem fd92 : fd 92 = true := by decide +kernel
theorem fd93 : fd 93 = true := by decide +kernel
theorem fd94 : fd 94 = true := by decide +kernel
theorem fd95 : fd 95 = true := by decide +kernel
theorem fd96 : fd 96 = true := by decide +kernel
theorem fd97 : fd 97 = true := by decide +kernel
theorem fd_to10 : ∀ m < 10, fd m = true := (all_next (all_next (all_next (all_next (all_next (all_next (all_next (all_next (all_next (all_next all_none fd0) fd1) fd2) fd3) fd4) fd5) fd6) fd7) fd8) fd9)
theorem fd_to20 : ∀ m < 20, fd m = true := (all_next (all_next (all_next (all_next (all_next (all_next (all_next (all_next (all_next (all_next fd_to10 fd10) fd11) fd12) fd13) fd14) fd15) fd16) fd17) fd18) fd19)
theorem fd_to30 : ∀ m < 30, fd m = true := (all_next (all_next (all_next (all_next (all_next (all_next (all_next (all_next (all_next (all_next fd_to20 fd20) fd21) fd22) fd23) fd24) fd25) fd26) fd27) fd28) fd29)
theorem fd_to40 : ∀ m < 40, fd m = true := (all_next (all_next (all_next (all_next (all_next (all_next (all_next (all_next (all_next (all_next fd_to30 fd30) fd31) fd32) fd33) fd34) fd35) fd36) fd37) fd38) fd39)
theorem fd_to50 : ∀ m < 50, fd m = true := (all_next (all_next (all_next (all_next (all_next (all_next (all_next (all_next (all_next (all_next fd_to40 fd40) fd41) fd42) fd43) fd44) fd45) fd46) fd47) fd48) fd49)
theorem fd_to60 : ∀ m < 60, fd m = true := (all_next (all_next (all_next (all_next (all_next (all_next (all_next (all_next (all_next (all_next fd_to50 fd50) fd51) fd52) fd53) fd54) fd55) fd56) fd57) fd58) fd59)
theorem fd_to70 : ∀ m < 70, fd m = true := (all_next (all_next (all_next (all_next (all_next (all_next (all_next (all_next (all_next (all_next fd_to60 fd60) fd61) fd62) fd63) fd64) fd65) fd66) fd67) fd68) fd69)
theorem fd_to80 : ∀ m < 80, fd m = true := (all_next (all_next (all_next (all_next (all_next (all_next (all_next (all_next (all_next (all_next fd_to70 fd70) fd71) fd72) fd73) fd74) fd75) fd76) fd77) fd78) fd79)
theorem fd_to90 : ∀ m < 90, fd m = true := (all_next (all_next (all_next (all_next (all_next (all_next (all_next (all_next (all_next (all_next fd_to80 fd80) fd81) fd82) fd83) fd84) fd85) fd86) fd87) fd88) fd89)
theorem fd_to98 : ∀ m < 98, fd m = true := (all_next (all_next (all_next (all_next (all_next (all_next (all_next (all_next fd_to90 fd90) fd91) fd92) fd93) fd94) fd95) fd96) fd97)
theorem far4_chk : ∀ m < 98, chkO (psF [.txt [97, 32] [97, 32]] m) (dueF [97, 32] m) = true := fd_to98
def fe (m : Nat) : Bool := chkO (psS m) (dueS m)
theorem fe0 : fe 0 = true := by decide +kernel
theorem fe1 : fe 1 = true := by decide +kernel
theorem fe2 : fe 2 = true := by decide +kernel
theorem fe3 : fe 3 = true := by decide +kernel
theorem fe4 : fe 4 = true := by decide +kernel
theorem fe5 : fe 5 = true := by decide +kernel
theorem fe6 : fe 6 = true := by decide +kernel
theorem fe7 : fe 7 = true := by decide +kernel
theorem fe8 : fe 8 = true := by decide +kernel
theorem fe9 : fe 9 = true := by decide +kernel
theorem fe10 : fe 10 = true := by decide +kernel
theorem fe11 : fe 11 = true := by decide +kernel
theorem fe12 : fe 12 = true := by decide +kernel
theorem fe13 : fe 13 = true := by decide +kernel
theorem fe14 : fe 14 = true := by decide +kernel
theorem fe15 : fe 15 = true := by decide +kernel
theorem fe16 : fe 16 = true := by decide +kernel
theorem fe17 : fe 17 = true := by decide +kernel
theorem fe18 : fe 18 = true := by decide +kernel
theorem fe19 : fe 19 = true := by decide +kernel
theorem fe20 : fe 20 = true := by decide +kernel
theorem fe21 : fe 21 = true := by decide +kernel
theorem fe22 : fe 22 = true := by decide +kernel
theorem fe23 : fe 23 = true := by decide +kernel
theorem fe24 : fe 24 = true := by decide +kernel
theorem fe25 : fe 25 = true := by decide +kernel
theorem fe26 : fe 26 = true := by decide +kernel
theorem fe27 : fe 27 = true := by decide +kernel
theorem fe28 : fe 28 = true := by decide +kernel
theorem fe29 : fe 29 = true := by decide +kernel
theorem fe30 : fe 30 = true := by decide +kernel
theorem fe31 : fe 31 = true := by decide +kernel
theorem fe32 : fe 32 = true := by decide +kernel
theorem fe33 : fe 33 = true := by decide +kernel
theorem fe34 : fe 34 = true := by decide +kernel
theorem fe35 : fe 35 = true := by decide +kernel
theorem fe36 : fe 36 = true := by decide +kernel
theorem fe37 : fe 37 = true := by decide +kernel
theorem fe38 : fe 38 = true := by decide +kernel
theorem fe39 : fe 39 = true := by decide +kernel
theorem fe40 : fe 40 = true := by decide +kernel
theorem fe41 : fe 41 = true := by decide +kernel
theorem fe42 : fe 42 = true := by decide +kernel
theorem fe43 : fe 43 = true := by decide +kernel
theorem fe44 : fe 44 = true := by decide +kernel
theorem fe45 : fe 45 = true := by decide +kernel
theorem fe46 : fe 46 = true := by decide +kernel
theorem fe47 : fe 47 = true := by decide +kernel
theorem fe48 : fe 48 = true := by decide +kernel
theorem fe49 : fe 49 = true := by decide +kernel
theorem fe50 : fe 50 = true := by decide +kernel
theorem fe51 : fe 51 = true := by decide +kernel
theorem fe52 : fe 52 = true := by decide +kernel
theorem fe53 : fe 53 = true := by decide +kernel
theorem fe54 : fe 54 = true := by decide +kernel
theorem fe55 : fe 55 = true := by decide +kernel
theorem fe56 : fe 56 = true := by decide +kernel
theorem fe57 : fe 57 = true := by decide +kernel
theorem fe58 : fe 58 = true := by decide +kernel
theorem fe59 : fe 59 = true := by decide +kernel
theorem fe60 : fe 60 = true := by decide +kernel
theorem fe_to10 : ∀ m < 10, fe m = true := (all_next (all_next (all_next (all_next (all_next (all_next (all_next (all_next (all_next (all_next all_none fe0) fe1) fe2) fe3) fe4) fe5) fe6) fe7) fe8) fe9)
theorem fe_to20 : ∀ m < 20, fe m = true := (all_next (all_next (all_next (all_next (all_next (all_next (all_next (all_next (all_next (all_next fe_to10 fe10) fe11) fe12) fe13) fe14) fe15) fe16) fe17) fe18) fe19)
theorem fe_to30 : ∀ m < 30, fe m = true := (all_next (all_next (all_next (all_next (all_next (all_next (all_next (all_next (all_next (all_next fe_to20 fe20) fe21) fe22) fe23) fe24) fe25) fe26) fe27) fe28) fe29)
theorem fe_to40 : ∀ m < 40, fe m = true := (all_next (all_next (all_next (all_next (all_next (all_next (all_next (all_next (all_next (all_next fe_to30 fe30) fe31) fe32) fe33) fe34) fe35) fe36) fe37) fe38) fe39)
theorem fe_to50 : ∀ m < 50, fe m = true := (all_next (all_next (all_next (all_next (all_next (all_next (all_next (all_next (all_next (all_next fe_to40 fe40) fe41) fe42) fe43) fe44) fe45) fe46) fe47) fe48) fe49)
theorem fe_to60 : ∀ m < 60, fe m = true := (all_next (all_next (all_next (all_next (all_next (all_next (all_next (all_next (all_next (all_next fe_to50 fe50) fe51) fe52) fe53) fe54) fe55) fe56) fe57) fe58) fe59)
theorem fe_to61 : ∀ m < 61, fe m = true := (all_next fe_to60 fe60)
theorem far5_chk : ∀ m < 61, chkO (psS m) (dueS m) = true := fe_to61
def ff (m : Nat) : Bool := chkO (psN m) (dueN m)
theorem ff0 : ff 0 = true := by decide +kernel
theorem ff1 : ff 1 = true := by decide +kernel
theorem ff2 : ff 2 = true := by decide +kernel
theorem ff3 : ff 3 = true := by decide +kernel
theorem ff4 : ff 4 = true := by decide +kernel
theorem ff5 : ff 5 = true := by decide +kernel
theorem ff6 : ff 6 = true := by decide +kernel
theorem ff7 : ff 7 = true := by decide +kernel
theorem ff8 : ff 8 = true := by decide +kernel
theorem ff9 : ff 9 = true := by decide +kernel
theorem ff10 : ff 10 = true := by decide +kernel
theorem ff11 : ff 11 = true := by decide +kernel
theorem ff12 : ff 12 = true := by decide +kernel
theorem ff13 : ff 13 = true := by decide +kernel
theorem ff14 : ff 14 = true := by decide +kernel
theorem ff15 : ff 15 = true := by decide +kernel
theorem ff16 : ff 16 = true := by decide +kernel
theorem ff17 : ff 17 = true := by decide +kernel
theorem ff18 : ff 18 = true := by decide +kernel
theorem ff19 : ff 19 = true := by decide +kernel
theorem ff20 : ff 20 = true := by decide +kernel
theorem ff21 : ff 21 = true := by decide +kernel
theorem ff22 : ff 22 = true := by decide +kernel
theorem ff23 : ff 23 = true := by decide +kernel
theorem ff24 : ff 24 = true := by decide +kernel
theorem ff25 : ff 25 = true := by decide +kernel
theorem ff26 : ff 26 = true := by decide +kernel
theorem ff27 : ff 27 = true := by decide +kernel
theorem ff28 : ff 28 = true := by decide +kernel
theorem ff29 : ff 29 = true := by decide +kernel
theorem ff30 : ff 30 = true := by decide +kernel
theorem ff31 : ff 31 = true := by decide +kernel
theorem ff32 : ff 32 = true := by decide +kernel
theorem ff33 : ff 33 = true := by decide +kernel
theorem ff34 : ff 34 = true := by decide +kernel
theorem ff35 : ff 35 = true := by decide +kernel
theorem ff36 : ff 36 = true := by decide +kernel
theorem ff37 : ff 37 = true := by decide +kernel
theorem ff38 : ff 38 = true := by decide +kernel
theorem ff39 : ff 39 = true := by decide +kernel
theorem ff40 : ff 40 = true := by decide +kernel
theorem ff41 : ff 41 = true := by decide +kernel
theorem ff42 : ff 42 = true := by decide +kernel
theorem ff43 : ff 43 = true := by decide +kernel
theorem ff44 : ff 44 = true := by decide +kernel
theorem ff45 : ff 45 = true := by decide +kernel
theorem ff46 : ff 46 = true := by decide +kernel
theorem ff47 : ff 47 = true := by decide +kernel
theorem ff48 : ff 48 = true := by decide +kernel
theorem ff49 : ff 49 = true := by decide +kernel
theorem ff50 : ff 50 = true := by decide +kernel
theorem ff51 : ff 51 = true := by decide +kernel
theorem ff52 : ff 52 = true := by decide +kernel
theorem ff53 : ff 53 = true := by decide +kernel
theorem ff54 : ff 54 = true := by decide +kernel
theorem ff55 : ff 55 = true := by decide +kernel
theorem ff56 : ff 56 = true := by decide +kernel
theorem ff57 : ff 57 = true := by decide +kernel
theorem ff58 : ff 58 = true := by decide +kernel
theorem ff59 : ff 59 = true := by decide +kernel
theorem ff60 : ff 60 = true := by decide +kernel
theorem ff61 : ff 61 = true := by decide +kernel
theorem ff62 : ff 62 = true := by decide +kernel
theorem ff63 : ff 63 = true := by decide +kernel
theorem ff64 : ff 64 = true := by decide +kernel
theorem ff65 : ff 65 = true := by decide +kernel
theorem ff66 : ff 66 = true := by decide +kernel
theorem ff67 : ff 67 = true := by decide +kernel
theorem ff68 : ff 68 = true := by decide +kernel
theorem ff69 : ff 69 = true := by decide +kernel
theorem ff70 : ff 70 = true := by decide +kernel
theorem ff71 : ff 71 = true := by decide +kernel
theorem ff72 : ff 72 = true := by decide +kernel
theorem ff73 : ff 73 = true := by decide +kernel
theorem ff74 : ff 74 = true := by decide +kernel
theorem ff75 : ff 75 = true := by decide +kernel
theorem ff76 : ff 76 = true := by decide +kernel
theorem ff77 : ff 77 = true := by decide +kernel
theorem ff78 : ff 78 = true := by decide +kernel
theorem ff79 : ff 79 = true := by decide +kernel
theorem ff80 : ff 80 = true := by decide +kernel
theorem ff81 : ff 81 = true := by decide +kernel
theorem ff82 : ff 82 = true := by decide +kernel
theorem ff83 : ff 83 = true := by decide +kernel
theorem ff84 : ff 84 = true := by decide +kernel
theorem ff85 : ff 85 = true := by decide +kernel
theorem ff86 : ff 86 = true := by decide +kernel
theorem ff87 : ff 87 = true := by decide +kernel
theorem ff88 : ff 88 = true := by decide +kernel
theorem ff89 : ff 89 = true := by decide +kernel
theorem ff90 : ff 90 = true := by decide +kernel
theorem ff91 : ff 91 = true := by decide +kernel
theorem ff92 : ff 92 = true := by decide +kernel
theorem ff93 : ff 93 = true := by decide +kernel
theorem ff94 : ff 94 = true := by decide +kernel
theorem ff95 : ff 95 = true := by decide +kernel
theorem ff96 : ff 96 = true := by decide +kernel
theorem ff97 : ff 97 = true := by decide +kernel
theorem ff_to10 : ∀ m < 10, ff m = true := (all_next (all_next (all_next (all_next (all_next (all_next (all_next (all_next (all_next (all_next all_none ff0) ff1) ff2) ff3) ff4) ff5) ff6) ff7) ff8) ff9)
theorem ff_to20 : ∀ m < 20, ff m = true := (all_next (all_next (all_next (all_next (all_next (all_next (all_next (all_next (all_next (all_next ff_to10 ff10) ff11) ff12) ff13) ff14) ff15) ff16) ff17) ff18) ff19)
theorem ff_to30 : ∀ m < 30, ff m = true := (all_next (all_next (all_next (all_next (all_next (all_next (all_next (all_next (all_next (all_next ff_to20 ff20) ff21) ff22) ff23) ff24) ff25) ff26) ff27) ff28) ff29)
theorem ff_to40 : ∀ m < 40, ff m = true := (all_next (all_next (all_next (all_next (all_next (all_next (all_next (all_next (all_next (all_next ff_to30 ff30) ff31) ff32) ff33) ff34) ff35) ff36) ff37) ff38) ff39)
theorem ff_to50 : ∀ m < 50, ff m = true := (all_next (all_next (all_next (all_next (all_next (all_next (all_next (all_next (all_next (all_next ff_to40 ff40) ff41) ff42) ff43) ff44) ff45) ff46) ff47) ff48) ff49)
theorem ff_to60 : ∀ m < 60, ff m = true := (all_next (all_next (all_next (all_next (all_next (all_next (all_next (all_next (all_next (all_next ff_to50 ff50) ff51) ff52) ff53) ff54) ff55) ff56) ff57) ff58) ff59)
theorem ff_to70 : ∀ m < 70, ff m = true := (all_next (all_next (all_next (all_next (all_next (all_next (all_next (all_next (all_next (all_next ff_to60 ff60) ff61) ff62) ff63) ff64) ff65) ff66) ff67) ff68) ff69)
theorem ff_to80 : ∀ m < 80, ff m = true := (all_next (all_next (all_next (all_next (all_next (all_next (all_next (all_next (all_next (all_next ff_to70 ff70) ff71) ff72) ff73) ff74) ff75) ff76) ff77) ff78) ff79)
theorem ff_to90 : ∀ m < 90, ff m = true := (all_next (all_next (all_next (all_next (all_next (all_next (all_next (all_next (all_next (all_next ff_to80 ff80) ff81) ff82) ff83) ff84) ff85) ff86) ff87) ff88) ff89)
theorem ff_to98 : ∀ m < 98, ff m = true := (all_next (all_next (all_next (all_next (all_next (all_next (all_next (all_next ff_to90 ff90) ff91) ff92) ff93) ff94) ff95) ff96) ff97)
theorem far6_chk : ∀ m < 98, chkO (psN m) (dueN m) = true := ff_to98
section
open PySem PySem.Spec PyProof.Rows L2
variable {X : Cx}
theorem tuple_mulOne (l : Addr) (items : Array Value) (n : Nat) (dd : Option Addr) (sl : Array (Option Value)) (x : Int) (u : Tok) (c0 : (decide (x < -(2 ^ 63)) || decide (x ≥ 2 ^ 63)) = false) (c1 : (items.isEmpty || x == 1) = true) :
    Meets (Builtin.«tuple.__mul__» ⟨[.ref l, .int x u], []⟩) (fun _ R s => s.heap.get? l = some { cls := .type "tuple", dict := dd, data := .seq items n, slots := sl } ∧
      R (.ok (.ret (Value.ref l))) s) :=
  .of_wp fun prog w A R s h => by
    obtain ⟨hp, g, d, tk, os⟩ := s
    obtain ⟨hl, h⟩ := h
    have f1 := AutoSeq1.idx_int
    wp_walk using wpAny_loadPart' hl
    repeat (first
      | (refine wpAny_ite_false (decide_eq_false (by rw [c0]; exact Bool.false_ne_true)) ?_; wp_walk using wpAny_loadPart' hl)
      | (refine wpAny_ite_true (decide_eq_true (by rw [c1])) ?_; wp_walk using wpAny_loadPart' hl))
    exact ⟨_, rfl, h⟩
def rRepA (K : PySem.W.Frag) : R2 := fun x y H Q => ∃ (l : Addr) (k : Int) (xs : List V), x = .ref l ∧ y = .int k ∧ SqT K H l xs ∧ xs ≠ [] ∧ 1 ≤ k ∧ k ≤ 1000 ∧ xs.length ≤ 1000 ∧ (k = 1 → Q (.ref l) H) ∧ (2 ≤ k → ∀ p, H p = none → Q (.ref p) (upd H p (.tup (List.replicate k.toNat xs).flatten)))
theorem op_repA : OpR X (binaryOp .Mult) (rRepA X.K) := by
  intro pins s σ H x y v u Q I rx ry h
  obtain ⟨l, k, xs, rfl, rfl, hT, hne, h1, h2, hz, q1, q2⟩ := h
  by_cases hk : k = 1
  · subst hk
    cases rx
    obtain ⟨t, rfl⟩ := ry
    obtain ⟨its, r, ⟨⟨cls, dd, data, sl⟩, ho, hc, n, hd⟩, hs⟩ := I.tuple hT
    simp only at hc hd
    subst hc hd
    refine wpAny_binaryOp_repeat_ref (T := "tuple") (U := "int") (by decide) ⟨_, ho, rfl⟩ (fun s' => typeIs_int s' 1 t) noFill_tuple_mul F.fills_int_mul F.slot_int_rmul repeat_tuple F.slot_int_index.lookup
      (call_meets F.slot_int_rmul (typeIs_int s 1 t) F.entry_int_rmul (F.args_int_rmul_2 _ _) (int_rmul_tuple 1 t l its.toArray n dd sl)
        ⟨ho, rfl, ⟨_, ho, rfl⟩, call_meets F.slot_tuple_mul ⟨_, ho, rfl⟩ F.entry_tuple_mul (F.args_tuple_mul_2 _ _) (tuple_mulOne l its.toArray n dd sl 1 t (by decide) (by rw [Bool.or_eq_true]; exact .inr (by decide))) ⟨ho, ?_⟩⟩)
    exact ⟨.ref l, H, I, rfl, q1 rfl⟩
  · exact op_repT (X := X) pins s σ H _ _ v u Q I rx ry ⟨l, k, xs, rfl, rfl, hT, hne, by omega, h2, hz, q2 (by omega)⟩
end
theorem flat_app (a b : List Pc) : flatP (a ++ b) = flatP a ++ flatP b := by
  unfold flatP
  rw [List.flatMap_append]
theorem flat_rep (s : List Pc) : ∀ n : Nat, flatP (List.replicate n s).flatten = (List.replicate n (flatP s)).flatten
  | 0 => rfl
  | n + 1 => by
    rw [List.replicate_succ, List.replicate_succ, List.flatten_cons, List.flatten_cons, flat_app, flat_rep s n]
theorem flatD (k : Nat) : flatP (psD (k + 1)) = (sgD k).w ++ [120, 10] ++ flatP (psD k) ++ [10, 121] ++ (sgD k).w := by
  show flatP (sgD k :: .txt [120] [120] :: .brk :: (psD k ++ [.brk, .txt [121] [121], sgD k])) = _
  have e : flatP (sgD k :: .txt [120] [120] :: .brk :: (psD k ++ [.brk, .txt [121] [121], sgD k])) = (sgD k).w ++ ([120] ++ ([10] ++ flatP (psD k ++ [.brk, .txt [121] [121], sgD k]))) := rfl
  have e2 : flatP [.brk, .txt [121] [121], sgD k] = [10] ++ ([121] ++ ((sgD k).w ++ [])) := rfl
  rw [e, flat_app, e2]
  simp
theorem sgD_len (k : Nat) : (sgD k).w.length ≤ 2 ∧ decide ((sgD k).w.length = 2) = (decide (k % 4 = 1) || decide (k % 4 = 3)) := by
  unfold sgD
  have h4 : k % 4 < 4 := Nat.mod_lt _ (by decide)
  rcases (show k % 4 = 0 ∨ k % 4 = 1 ∨ k % 4 = 2 ∨ k % 4 = 3 by omega) with e | e | e | e <;> rw [e] <;> decide
theorem sg_at (k : Nat) : atI [V.str "*", V.str "**", V.str "_", V.str "__"] (((k % 4 : Nat) : Int)) = some (.str (S (sgD k).w)) := by
  unfold sgD
  have h4 : k % 4 < 4 := Nat.mod_lt _ (by decide)
  rcases (show k % 4 = 0 ∨ k % 4 = 1 ∨ k % 4 = 2 ∨ k % 4 = 3 by omega) with e | e | e | e <;> rw [e] <;> decide +kernel
theorem deep_ok {m : Nat} (h : m < 39) : OutOk (flatP (psD m)) (dueD m) := chkO_ok (deep_chk m h)
theorem due_ne (k : Nat) : dueD k ≠ [] := by cases k <;> exact fun e => by cases e
theorem sqT_same {K : PySem.W.Frag} {H H' : Hp} {a : Addr} {xs : List V} (s : Same H H') (h : SqT K H a xs) : SqT K H' a xs := by
  rcases h with (h | ⟨o, h⟩) | h
  · exact .inl (.inl (s _ _ h))
  · exact .inl (.inr ⟨o, s _ _ h⟩)
  · exact .inr h
def sp__law_deep_right (K : PySem.W.Frag) : Sp := fun vs H Q _ => ∃ m : Nat, vs = [.int (m : Int)] ∧ m < 39 ∧ ∀ H', Same H H' → Q (.bl true) H'
theorem ok__law_deep_right {P : Program} {w : World} {K : PySem.W.Frag} {mg : Str → Option Value} {base : Heap} (T : Txt w K mg) : FnOk P w K mg base CX0 60 T.a__law_deep_right T.d__law_deep_right ["_law_many"] (sp__law_deep_right K) := by
  refine T.f__law_deep_right.ok sc__law_deep_right (fun vs H Q E h => ?_) (fun cdv A outer s H vs Q E hr h => ?_)
  · obtain ⟨m, rfl, _⟩ := h
    rfl
  · obtain ⟨m, rfl, hm, q⟩ := h
    refine ⟨_, (pss_cons (ps_asg (pe_tup (pa_cons pe_str (pa_cons (pe_tup (pa_cons (pe_tup (pa_cons pe_str (pa_cons pe_str pa_nil))) pa_nil)) pa_nil))) (pg_tup (by rfl) (pgs_cons (pg_name (i := 1) sc__law_deep_right.nd rfl (.inl rfl)) (pgs_cons (pg_name (i := 2) sc__law_deep_right.nd rfl (.inl rfl)) pgs_nil))))
        (pss_cons (ps_for PassesOwn.never rfl (pi_range1 (by rfl) T.z_range (pa_cons (pv 0) pa_nil)) (pg_name (i := 3) sc__law_deep_right.nd rfl (.inl rfl)) (pss_cons (ps_set (i := 4) sc__law_deep_right.nd rfl (.inl rfl) (pe_ix ix_list (pe_lst (pa_cons pe_str (pa_cons pe_str (pa_cons pe_str (pa_cons pe_str pa_nil))))) (pe_op op_mod (pe_callTy call_int1 (by rfl) T.z_int (by decide +kernel) (pa_cons (pv 3) pa_nil)) pe_int) (fun _ _ => rfl)))
        (pss_cons (ps_set (i := 1) sc__law_deep_right.nd rfl (.inl rfl) (pe_op op_add_str (pe_op op_add_str (pe_op op_add_str (pe_op op_add_str (pv 4) pe_str) (pv 1)) pe_str) (pv 4)))
        (pss_cons (ps_set (i := 2) sc__law_deep_right.nd rfl (.inl rfl) (pe_op op_catT (pe_op op_catT (pe_tup (pa_cons (pe_tup (pa_cons pe_str (pa_cons pe_str pa_nil))) (pa_cons (pe_tup (pa_cons pe_str pa_nil)) pa_nil))) (pv 2)) (pe_tup (pa_cons (pe_tup (pa_cons pe_str pa_nil)) (pa_cons (pe_tup (pa_cons pe_str (pa_cons pe_str pa_nil))) pa_nil)))))
        (pss_one (ps_set (i := 2) sc__law_deep_right.nd rfl (.inl rfl) (pe_tup (pa_cons (pe_tup (pa_cons (pe_ifExp (pt_cmpR op_eq (pe_callB call_len_str (by rfl) T.z_len PySem.boot_len (pa_cons (pv 4) pa_nil)) pe_int (nomark _)) pe_str pe_str) (pa_cons (pv 2) pa_nil))) pa_nil))))))))
        (pss_one (ps_ret (pe_cmpR (op_eqM (room_n (n := 1000) hr (by decide))) (pe_call (ok_inlines T) (hr.mono (by decide)) (by rfl) T.g_inlines T.f_inlines.kp T.bd_inlines (.cons (show RelV V.non Value.none from rfl) .nil) pass0 (pa_cons (pv 1) pa_nil)) (pv 2) (nomark _)))))), ?_⟩
    refine ⟨(by show 2 ≤ sizeLine; decide), fun p1 np1 => ⟨(by show 1 ≤ sizeLine; decide), fun p2 np2 => ⟨(by show 2 ≤ sizeLine; decide), fun p3 np3 => ?_⟩⟩⟩
    have t1 := same_new (o := .tup [.str "text", .str "z"]) np1
    have h1 : (upd H p1 (.tup [.str "text", .str "z"])) p1 = some (.tup [.str "text", .str "z"]) := upd_same
    generalize (upd H p1 (.tup [.str "text", .str "z"])) = H1 at t1 h1 np2 np3 ⊢
    have t2 := same_new (o := .tup [.ref p1]) np2
    have h2 : (upd H1 p2 (.tup [.ref p1])) p2 = some (.tup [.ref p1]) := upd_same
    generalize (upd H1 p2 (.tup [.ref p1])) = H2 at t2 h2 np3 ⊢
    have t3 := same_new (o := .tup [.str "z", .ref p2]) np3
    have h3 : (upd H2 p3 (.tup [.str "z", .ref p2])) p3 = some (.tup [.str "z", .ref p2]) := upd_same
    generalize (upd H2 p3 (.tup [.str "z", .ref p2])) = H3 at t3 h3 ⊢
    have lz : ("z" : Str) = S [122] := by decide +kernel
    refine ⟨p3, _, rfl, SqT.of h3, rfl, _, _, rfl, _, _, rfl, rfl, ?_⟩
    have d0 : Dp K H3 (.ref p2) (.tuple (rowD (dueD 0))) := by
      rw [lz] at h1
      exact .tup (SqT.of (t3 _ _ h2)) (.cons (.tup (SqT.of (t3 _ _ (t2 _ _ h1))) (.cons (.str _) (.cons (.str _) .nil))) .nil)
    refine ⟨_, rfl, _, rfl, by omega, by omega, for_range (lo := 0) (n := ((m : Nat) : Int).toNat) (fun i σ' H' => ∃ (o3 o4 : Option V) (v : V), σ' = [some (.int (m : Int)), some (.str (S (flatP (psD i)))), some v, o3, o4] ∧ Same H H' ∧ Dp K H' v (.tuple (rowD (dueD i)))) ⟨none, none, .ref p2, by rw [lz]; rfl, (t1.trans t2).trans t3, d0⟩ ?_ ?_⟩
    · rintro i σ' H4 hi ⟨o3, o4, v, rfl, s4, dv⟩
      rw [Int.toNat_natCast] at hi
      have hlen := (deep_ok (m := i) (by omega)).len
      obtain ⟨hsl, hs2⟩ := sgD_len i
      have eix : (0 + (i : Int)) % 4 = ((i % 4 : Nat) : Int) := by omega
      refine ⟨(by show 4 ≤ sizeLine; decide), fun a na => ?_⟩
      refine ⟨_, rfl, .inl ⟨_, rfl, _, _, rfl, rfl, (by show (0 : Int) < 4; decide), a, _, _, _, rfl, rfl, SqL.of upd_same, (by rw [eix]; exact sg_at i), ?_⟩⟩
      have s5 := same_new (o := .lst [.str "*", .str "**", .str "_", .str "__"]) na
      have dv5 := dp_same s5 dv
      replace s5 := s4.trans s5
      generalize (upd H4 a (.lst [.str "*", .str "**", .str "_", .str "__"])) = H5 at s5 dv5 ⊢
      have lx : ("x\n" : Str) = S [120, 10] := by decide +kernel
      have ly : ("\ny" : Str) = S [10, 121] := by decide +kernel
      refine ⟨_, rfl, _, _, rfl, rfl, by rw [lx]; exact add_line1 (a := (sgD i).w) (b := [120, 10]) (by show _ + 2 ≤ _; omega), _, rfl, _, _, rfl, rfl, by rw [lx, S_app]; exact add_line1 (by rw [List.length_append]; show _ + 2 + _ ≤ _; omega), _, _, rfl, rfl, by rw [lx, ly, S_app, S_app]; exact add_line1 (by rw [List.length_append, List.length_append]; show _ + 2 + _ + 2 ≤ _; omega), _, rfl, _, _, rfl, rfl, by rw [lx, ly, S_app, S_app, S_app]; exact add_line1 (by rw [List.length_append, List.length_append, List.length_append]; show _ + 2 + _ + 2 + _ ≤ _; omega), ?_⟩
      have eT : S (sgD i).w ++ Str.ofString "x\n" ++ S (flatP (psD i)) ++ Str.ofString "\ny" ++ S (sgD i).w = S (flatP (psD (i + 1))) := by
        rw [flatD, show Str.ofString "x\n" = S [120, 10] from lx, show Str.ofString "\ny" = S [10, 121] from ly, S_app, S_app, S_app, S_app]
      rw [eT]
      obtain ⟨da, us, rfl, sqd, dus⟩ := dp_tup2 dv5
      have une : us ≠ [] := fun e => by
        have := (dpAll_all2 dus).1
        rw [e, rowD_map, List.length_map] at this
        exact due_ne i (List.eq_nil_of_length_eq_zero this.symm)
      have usl : us.length ≤ 1 := by
        rw [(dpAll_all2 dus).1, rowD_map, List.length_map]
        cases i <;> exact Nat.le_refl _
      refine ⟨(by show 2 ≤ sizeLine; decide), fun a1 n1 => ⟨(by show 1 ≤ sizeLine; decide), fun a2 n2 => ⟨(by show 2 ≤ sizeLine; decide), fun a3 n3 => ?_⟩⟩⟩
      have u1 := same_new (o := .tup [.str "text", .str "x"]) n1
      have g1 : (upd H5 a1 (.tup [.str "text", .str "x"])) a1 = some (.tup [.str "text", .str "x"]) := upd_same
      generalize (upd H5 a1 (.tup [.str "text", .str "x"])) = G1 at u1 g1 n2 n3 ⊢
      have u2 := same_new (o := .tup [.str "soft"]) n2
      have g2 : (upd G1 a2 (.tup [.str "soft"])) a2 = some (.tup [.str "soft"]) := upd_same
      generalize (upd G1 a2 (.tup [.str "soft"])) = G2 at u2 g2 n3 ⊢
      have u3 := same_new (o := .tup [.ref a1, .ref a2]) n3
      have g3 : (upd G2 a3 (.tup [.ref a1, .ref a2])) a3 = some (.tup [.ref a1, .ref a2]) := upd_same
      generalize (upd G2 a3 (.tup [.ref a1, .ref a2])) = G3 at u3 g3 ⊢
      have u13 := (u1.trans u2).trans u3
      have dus3 := dpAll_same u13 dus
      have sq3 := sqT_same u13 sqd
      refine ⟨_, rfl, a3, da, _, us, rfl, rfl, SqT.of g3, sq3, by simp, (by show 2 + us.length ≤ sizeLine; rw [sizeLine_eq]; omega), fun e => absurd e une, fun _ p np => ?_⟩
      have u4 := same_new (o := .tup ([.ref a1, .ref a2] ++ us)) np
      have g4 : (upd G3 p (.tup ([.ref a1, .ref a2] ++ us))) p = some (.tup ([.ref a1, .ref a2] ++ us)) := upd_same
      generalize (upd G3 p (.tup ([.ref a1, .ref a2] ++ us))) = G4 at u4 g4 ⊢
      refine ⟨(by show 1 ≤ sizeLine; decide), fun b1 m1 => ⟨(by show 2 ≤ sizeLine; decide), fun b2 m2 => ⟨(by show 2 ≤ sizeLine; decide), fun b3 m3 => ?_⟩⟩⟩
      have u5 := same_new (o := .tup [.str "soft"]) m1
      have g5 : (upd G4 b1 (.tup [.str "soft"])) b1 = some (.tup [.str "soft"]) := upd_same
      generalize (upd G4 b1 (.tup [.str "soft"])) = G5 at u5 g5 m2 m3 ⊢
      have u6 := same_new (o := .tup [.str "text", .str "y"]) m2
      have g6 : (upd G5 b2 (.tup [.str "text", .str "y"])) b2 = some (.tup [.str "text", .str "y"]) := upd_same
      generalize (upd G5 b2 (.tup [.str "text", .str "y"])) = G6 at u6 g6 m3 ⊢
      have u7 := same_new (o := .tup [.ref b1, .ref b2]) m3
      have g7 : (upd G6 b3 (.tup [.ref b1, .ref b2])) b3 = some (.tup [.ref b1, .ref b2]) := upd_same
      generalize (upd G6 b3 (.tup [.ref b1, .ref b2])) = G7 at u7 g7 ⊢
      have u57 := (u5.trans u6).trans u7
      refine ⟨p, b3, _, _, rfl, rfl, SqT.of (u57 _ _ g4), SqT.of g7, by simp, (by rw [List.length_append]; show 2 + us.length + 2 ≤ _; rw [sizeLine_eq]; omega), fun e => (by cases e), fun _ p2 np2 => ?_⟩
      have u8 := same_new (o := .tup ([.ref a1, .ref a2] ++ us ++ [.ref b1, .ref b2])) np2
      have g8 : (upd G7 p2 (.tup ([.ref a1, .ref a2] ++ us ++ [.ref b1, .ref b2]))) p2 = some (.tup ([.ref a1, .ref a2] ++ us ++ [.ref b1, .ref b2])) := upd_same
      generalize (upd G7 p2 (.tup ([.ref a1, .ref a2] ++ us ++ [.ref b1, .ref b2]))) = G8 at u8 g8 ⊢
      have u38 := (u4.trans u57).trans u8
      have lxx : ("x" : Str) = S [120] := by decide +kernel
      have lyy : ("y" : Str) = S [121] := by decide +kernel
      rw [lxx] at g1
      rw [lyy] at g6
      have dx : Dp K G8 (.ref a1) (Inl.text [120]).toD := dp_text (u38 _ _ (u3 _ _ (u2 _ _ g1)))
      have ds1 : Dp K G8 (.ref a2) Inl.soft.toD := dp_soft (u38 _ _ (u3 _ _ g2))
      have ds2 : Dp K G8 (.ref b1) Inl.soft.toD := dp_soft (u8 _ _ (u7 _ _ (u6 _ _ g5)))
      have dy : Dp K G8 (.ref b2) (Inl.text [121]).toD := dp_text (u8 _ _ (u7 _ _ g6))
      have dall : DpAll K G8 ([.ref a1, .ref a2] ++ us ++ [.ref b1, .ref b2]) (rowD (.text [120] :: .soft :: (dueD i ++ [.soft, .text [121]]))) := by
        have e : rowD (.text [120] :: .soft :: (dueD i ++ [.soft, .text [121]])) = [(Inl.text [120]).toD, Inl.soft.toD] ++ rowD (dueD i) ++ [Inl.soft.toD, (Inl.text [121]).toD] := by
          show (Inl.text [120]).toD :: Inl.soft.toD :: rowD (dueD i ++ [.soft, .text [121]]) = _
          rw [rowD_app]
          simp
          rfl
        rw [e]
        exact dpAll_app (dpAll_app (.cons dx (.cons ds1 .nil)) (dpAll_same u38 dus3)) (.cons ds2 (.cons dy .nil))
      have u5all := (s5.trans u13).trans u38
      -- the tuple of one
      refine ⟨_, rfl, _, rfl, by rw [S_len, sizeLine_eq]; omega, rfl, _, rfl, ?_⟩
      have fin : ∀ b : Bool, (decide (i % 4 = 1) || decide (i % 4 = 3)) = b → ∀ r1 r2, G8 r1 = none → (upd G8 r1 (.tup [.str (wordB b), .ref p2])) r2 = none → Same H (upd (upd G8 r1 (.tup [.str (wordB b), .ref p2])) r2 (.tup [.ref r1])) ∧ Dp K (upd (upd G8 r1 (.tup [.str (wordB b), .ref p2])) r2 (.tup [.ref r1])) (.ref r2) (.tuple (rowD (dueD (i + 1)))) := fun b hb r1 r2 nr1 nr2 => by
        have v1 := same_new (o := .tup [.str (wordB b), .ref p2]) nr1
        have v2 := same_new (o := .tup [.ref r1]) nr2
        refine ⟨(u5all.trans v1).trans v2, .tup (SqT.of upd_same) (.cons ?_ .nil)⟩
        show Dp K _ (.ref r1) (mkI (decide (i % 4 = 1) || decide (i % 4 = 3)) (.text [120] :: .soft :: (dueD i ++ [.soft, .text [121]]))).toD
        rw [hb]
        cases b
        · exact .tup (SqT.of (v2 _ _ upd_same)) (.cons (.str _) (.cons (.tup (SqT.of (v2 _ _ (v1 _ _ g8))) (dpAll_same (v1.trans v2) dall)) .nil))
        · exact .tup (SqT.of (v2 _ _ upd_same)) (.cons (.str _) (.cons (.tup (SqT.of (v2 _ _ (v1 _ _ g8))) (dpAll_same (v1.trans v2) dall)) .nil))
      show (if decide (V.int ((S (sgD i).w).length : Nat) = V.int 2) = true then _ else _)
      rw [show decide (V.int ((S (sgD i).w).length : Nat) = V.int 2) = (decide (i % 4 = 1) || decide (i % 4 = 3)) by
        rw [← hs2, S_len]
        exact decide_eq_decide.mpr ⟨fun e => by have := V.int.inj e; omega, fun e => by rw [e]; rfl⟩]
      cases hb : (decide (i % 4 = 1) || decide (i % 4 = 3)) with
      | true =>
        refine iteT ⟨_, rfl, (by show 2 ≤ sizeLine; decide), fun r1 nr1 => ⟨(by show 1 ≤ sizeLine; decide), fun r2 nr2 => ?_⟩⟩
        obtain ⟨w1, w2⟩ := fin true hb r1 r2 nr1 nr2
        exact ⟨_, _, _, rfl, w1, w2⟩
      | false =>
        refine iteF ⟨_, rfl, (by show 2 ≤ sizeLine; decide), fun r1 nr1 => ⟨(by show 1 ≤ sizeLine; decide), fun r2 nr2 => ?_⟩⟩
        obtain ⟨w1, w2⟩ := fin false hb r1 r2 nr1 nr2
        exact ⟨_, _, _, rfl, w1, w2⟩
    · rintro σ' H4 ⟨o3, o4, v, rfl, s4, dv⟩
      rw [Int.toNat_natCast] at dv ⊢
      obtain ⟨⟨its, rd, bok⟩, asc, len, lay, dep⟩ := deep_ok hm
      refine ⟨_, rfl, _, its, _, rfl, by omega, asc, rd, bok, fun H5 u s5 du => ?_⟩
      refine ⟨_, rfl, _, _, du, dp_same s5 dv, lay, lay, by omega, ?_⟩
      rw [PySem.SeqAt.eqv_refl _ lay]
      exact q _ (s4.trans s5)
def FarL : List (List Nat × List Nat) := [([92, 46], [46]), ([95, 98], [95, 98]), ([45, 43], [45, 43]), ([97, 32], [97, 32])]
def FarV : List (List V) := [[.str "\\.", .str "."], [.str "_b", .str "_b"], [.str "-+", .str "-+"], [.str "a ", .str "a "]]
theorem far_lit : FarV = FarL.map fun z => [V.str (S z.1), V.str (S z.2)] := by decide +kernel
theorem flatF (s : List Pc) (m : Nat) : flatP (psF s m) = [42, 97] ++ ((List.replicate m (flatP s)).flatten ++ [122, 42]) := by
  unfold psF
  rw [flat_app, flat_app, flat_rep]
  rfl
theorem far_ok {m : Nat} (h : m < 98) : ∀ z ∈ FarL, OutOk ([42, 97] ++ ((List.replicate m z.1).flatten ++ [122, 42])) (dueF z.2 m) := by
  intro z hz
  simp only [FarL, List.mem_cons, List.not_mem_nil, or_false] at hz
  rcases hz with rfl | rfl | rfl | rfl
  · have := chkO_ok (far1_chk m h)
    rw [flatF] at this
    exact this
  · have := chkO_ok (far2_chk m h)
    rw [flatF] at this
    exact this
  · have := chkO_ok (far3_chk m h)
    rw [flatF] at this
    exact this
  · have := chkO_ok (far4_chk m h)
    rw [flatF] at this
    exact this
theorem far_str {m : Nat} (h : m < 61) : OutOk ([42, 42, 97] ++ ((List.replicate m [32, 95, 98]).flatten ++ [32, 99, 42, 42])) (dueS m) := by
  have := chkO_ok (far5_chk m h)
  unfold psS at this
  rw [flat_app, flat_app, flat_rep] at this
  exact this
theorem far_none {m : Nat} (h : m < 98) : OutOk ((List.replicate m [95, 97, 10]).flatten ++ [122]) (dueN m) := by
  have := chkO_ok (far6_chk m h)
  unfold psN at this
  rw [flat_app, flat_rep] at this
  exact this
theorem rep_len (m : Nat) (s : List Nat) : (List.replicate m s).flatten.length = m * s.length := by
  induction m with
  | zero => simp
  | succ m ih => rw [List.replicate_succ, List.flatten_cons, List.length_append, ih, Nat.succ_mul, Nat.add_comm]
/-- emph or strong of one text, laid -/
theorem lay4 {K : PySem.W.Frag} {H : Hp} {b : Bool} {x : Str} {t : List Nat} (e : x = S t) {p1 p2 p3 p4 : Addr} (n1 : H p1 = none) (n2 : (upd H p1 (.tup [.str "text", .str x])) p2 = none) (n3 : (upd (upd H p1 (.tup [.str "text", .str x])) p2 (.tup [.ref p1])) p3 = none)
    (n4 : (upd (upd (upd H p1 (.tup [.str "text", .str x])) p2 (.tup [.ref p1])) p3 (.tup [.str (wordB b), .ref p2])) p4 = none) :
    Same H (upd (upd (upd (upd H p1 (.tup [.str "text", .str x])) p2 (.tup [.ref p1])) p3 (.tup [.str (wordB b), .ref p2])) p4 (.tup [.ref p3])) ∧
    Dp K (upd (upd (upd (upd H p1 (.tup [.str "text", .str x])) p2 (.tup [.ref p1])) p3 (.tup [.str (wordB b), .ref p2])) p4 (.tup [.ref p3])) (.ref p4) (.tuple (rowD [mkI b [.text t]])) := by
  subst e
  have t1 := same_new (o := .tup [.str "text", .str (S t)]) n1
  have h1 : (upd H p1 (.tup [.str "text", .str (S t)])) p1 = some (.tup [.str "text", .str (S t)]) := upd_same
  generalize (upd H p1 (.tup [.str "text", .str (S t)])) = G1 at *
  have t2 := same_new (o := .tup [.ref p1]) n2
  have h2 : (upd G1 p2 (.tup [.ref p1])) p2 = some (.tup [.ref p1]) := upd_same
  generalize (upd G1 p2 (.tup [.ref p1])) = G2 at *
  have t3 := same_new (o := .tup [.str (wordB b), .ref p2]) n3
  have h3 : (upd G2 p3 (.tup [.str (wordB b), .ref p2])) p3 = some (.tup [.str (wordB b), .ref p2]) := upd_same
  generalize (upd G2 p3 (.tup [.str (wordB b), .ref p2])) = G3 at *
  have t4 := same_new (o := .tup [.ref p3]) n4
  have h4 : (upd G3 p4 (.tup [.ref p3])) p4 = some (.tup [.ref p3]) := upd_same
  generalize (upd G3 p4 (.tup [.ref p3])) = G4 at *
  refine ⟨((t1.trans t2).trans t3).trans t4, .tup (SqT.of h4) (.cons ?_ .nil)⟩
  have dr : Dp K G4 (.ref p2) (.tuple (rowD [.text t])) := .tup (SqT.of (t4 _ _ (t3 _ _ h2))) (.cons (dp_text (t4 _ _ (t3 _ _ (t2 _ _ h1)))) .nil)
  cases b
  · exact .tup (SqT.of (t4 _ _ h3)) (.cons (.str _) (.cons dr .nil))
  · exact .tup (SqT.of (t4 _ _ h3)) (.cons (.str _) (.cons dr .nil))
def sp__law_far_right (K : PySem.W.Frag) : Sp := fun vs H Q _ => ∃ m : Nat, vs = [.int (m : Int)] ∧ 1 ≤ m ∧ m < 98 ∧ ∀ H', Same H H' → Q (.bl true) H'
theorem ok__law_far_right {P : Program} {w : World} {K : PySem.W.Frag} {mg : Str → Option Value} {base : Heap} (T : Txt w K mg) : FnOk P w K mg base CX0 60 T.a__law_far_right T.d__law_far_right ["_law_many"] (sp__law_far_right K) := by
  refine T.f__law_far_right.ok sc__law_far_right (fun vs H Q E h => ?_) (fun cdv A outer s H vs Q E hr h => ?_)
  · obtain ⟨m, rfl, _⟩ := h
    rfl
  · obtain ⟨m, rfl, hm1, hm, q⟩ := h
    refine ⟨_, (pss_cons (ps_for PassesOwn.never rfl (pi_list (pe_lst (pa_cons (pe_tup (pa_cons pe_str (pa_cons pe_str pa_nil))) (pa_cons (pe_tup (pa_cons pe_str (pa_cons pe_str pa_nil))) (pa_cons (pe_tup (pa_cons pe_str (pa_cons pe_str pa_nil))) (pa_cons (pe_tup (pa_cons pe_str (pa_cons pe_str pa_nil))) pa_nil)))))) (pg_tup (by rfl) (pgs_cons (pg_name (i := 1) sc__law_far_right.nd rfl (.inl rfl)) (pgs_cons (pg_name (i := 2) sc__law_far_right.nd rfl (.inl rfl)) pgs_nil))) (pss_one (ps_if (pt_cmpR (op_neD hr.units) (pe_call (ok_inlines T) (hr.mono (by decide)) (by rfl) T.g_inlines T.f_inlines.kp T.bd_inlines (.cons (show RelV V.non Value.none from rfl) .nil) pass0 (pa_cons (pe_op op_add_str (pe_op op_add_str pe_str (pe_op op_mul_txt (pv 1) (pv 0))) pe_str) pa_nil)) (pe_tup (pa_cons (pe_tup (pa_cons pe_str (pa_cons (pe_tup (pa_cons (pe_tup (pa_cons pe_str (pa_cons (pe_op op_add_str (pe_op op_add_str pe_str (pe_op op_mul_txt (pv 2) (pv 0))) pe_str) pa_nil))) pa_nil)) pa_nil))) pa_nil)) (nomark _)) (pss_one (ps_ret pe_bl)) pss_nil)))
        (pss_cons (ps_set (i := 3) sc__law_far_right.nd rfl (.inl rfl) (pe_op op_add_str (pe_op op_add_str pe_str (pe_op op_mul_txt pe_str (pe_callB (call_min2 rfl) (by rfl) T.z_min (by decide +kernel) (pa_cons (pv 0) (pa_cons pe_int pa_nil))))) pe_str))
        (pss_cons (ps_if (pt_cmpR (op_neD hr.units) (pe_call (ok_inlines T) (hr.mono (by decide)) (by rfl) T.g_inlines T.f_inlines.kp T.bd_inlines (.cons (show RelV V.non Value.none from rfl) .nil) pass0 (pa_cons (pv 3) pa_nil)) (pe_tup (pa_cons (pe_tup (pa_cons pe_str (pa_cons (pe_tup (pa_cons (pe_tup (pa_cons pe_str (pa_cons (pe_op op_add_str (pe_op op_add_str pe_str (pe_op op_mul_txt pe_str (pe_callB (call_min2 rfl) (by rfl) T.z_min (by decide +kernel) (pa_cons (pv 0) (pa_cons pe_int pa_nil))))) pe_str) pa_nil))) pa_nil)) pa_nil))) pa_nil)) (nomark _)) (pss_one (ps_ret pe_bl)) pss_nil)
        (pss_one (ps_ret (pe_cmpR (op_eqM (room_n (n := 1000) hr (by decide))) (pe_call (ok_inlines T) (hr.mono (by decide)) (by rfl) T.g_inlines T.f_inlines.kp T.bd_inlines (.cons (show RelV V.non Value.none from rfl) .nil) pass0 (pa_cons (pe_op op_add_str (pe_op op_mul_txt pe_str (pv 0)) pe_str) pa_nil)) (pe_op op_catT (pe_op op_repA (pe_tup (pa_cons (pe_tup (pa_cons pe_str (pa_cons pe_str pa_nil))) (pa_cons (pe_tup (pa_cons pe_str pa_nil)) pa_nil))) (pv 0)) (pe_tup (pa_cons (pe_tup (pa_cons pe_str (pa_cons pe_str pa_nil))) pa_nil))) (nomark _))))))), ?_⟩
    have l1 : ("*a" : Str) = S [42, 97] := by decide +kernel
    have l2 : ("z*" : Str) = S [122, 42] := by decide +kernel
    have l3 : ("a" : Str) = S [97] := by decide +kernel
    have l4 : ("z" : Str) = S [122] := by decide +kernel
    refine ⟨(by show 2 ≤ sizeLine; decide), fun e1 n1 => ⟨(by show 2 ≤ sizeLine; decide), fun e2 n2 => ⟨(by show 2 ≤ sizeLine; decide), fun e3 n3 => ⟨(by show 2 ≤ sizeLine; decide), fun e4 n4 => ⟨(by show 4 ≤ sizeLine; decide), fun fa na => ?_⟩⟩⟩⟩⟩
    have t1 := same_new (o := .tup [.str "\\.", .str "."]) n1
    have h1 : (upd H e1 (.tup [.str "\\.", .str "."])) e1 = some (.tup [.str "\\.", .str "."]) := upd_same
    generalize (upd H e1 (.tup [.str "\\.", .str "."])) = G1 at t1 h1 n2 n3 n4 na ⊢
    have t2 := same_new (o := .tup [.str "_b", .str "_b"]) n2
    have h2 : (upd G1 e2 (.tup [.str "_b", .str "_b"])) e2 = some (.tup [.str "_b", .str "_b"]) := upd_same
    generalize (upd G1 e2 (.tup [.str "_b", .str "_b"])) = G2 at t2 h2 n3 n4 na ⊢
    have t3 := same_new (o := .tup [.str "-+", .str "-+"]) n3
    have h3 : (upd G2 e3 (.tup [.str "-+", .str "-+"])) e3 = some (.tup [.str "-+", .str "-+"]) := upd_same
    generalize (upd G2 e3 (.tup [.str "-+", .str "-+"])) = G3 at t3 h3 n4 na ⊢
    have t4 := same_new (o := .tup [.str "a ", .str "a "]) n4
    have h4 : (upd G3 e4 (.tup [.str "a ", .str "a "])) e4 = some (.tup [.str "a ", .str "a "]) := upd_same
    generalize (upd G3 e4 (.tup [.str "a ", .str "a "])) = G4 at t4 h4 na ⊢
    have t5 := same_new (o := .lst [.ref e1, .ref e2, .ref e3, .ref e4]) na
    have ha : (upd G4 fa (.lst [.ref e1, .ref e2, .ref e3, .ref e4])) fa = some (.lst [.ref e1, .ref e2, .ref e3, .ref e4]) := upd_same
    have s1 := (((t1.trans t2).trans t3).trans t4).trans t5
    have hmu : Menu (upd G4 fa (.lst [.ref e1, .ref e2, .ref e3, .ref e4])) [.ref e1, .ref e2, .ref e3, .ref e4] FarV := by
      intro v hv
      simp only [List.mem_cons, List.not_mem_nil, or_false] at hv
      rcases hv with rfl | rfl | rfl | rfl
      · exact ⟨_, List.mem_cons_self .., e1, rfl, t5 _ _ (t4 _ _ (t3 _ _ (t2 _ _ h1)))⟩
      · exact ⟨_, List.mem_cons_of_mem _ (List.mem_cons_self ..), e2, rfl, t5 _ _ (t4 _ _ (t3 _ _ h2))⟩
      · exact ⟨_, List.mem_cons_of_mem _ (List.mem_cons_of_mem _ (List.mem_cons_self ..)), e3, rfl, t5 _ _ (t4 _ _ h3)⟩
      · exact ⟨_, List.mem_cons_of_mem _ (List.mem_cons_of_mem _ (List.mem_cons_of_mem _ (List.mem_cons_self ..))), e4, rfl, t5 _ _ h4⟩
    generalize (upd G4 fa (.lst [.ref e1, .ref e2, .ref e3, .ref e4])) = H1 at s1 ha hmu ⊢
    generalize ([.ref e1, .ref e2, .ref e3, .ref e4] : List V) = xs at ha hmu ⊢
    refine ⟨fa, rfl, ⟨xs, SqL.of ha⟩, for_list (K := K) (a := fa) (xs := xs) (fun i σ' H' => ∃ (o1 o2 : Option V), σ' = [some (.int (m : Int)), o1, o2, none] ∧ Same H1 H') ⟨_, _, rfl, .refl _⟩ (fun i σ' H' _ ⟨_, _, _, s⟩ => SqL.of (s _ _ ha)) ?_ ?_⟩
    · rintro i u σ' H2 hu ⟨o1, o2, rfl, s2⟩
      obtain ⟨p, hp, r, rfl, hr0⟩ := (hmu.same s2) u (List.mem_of_getElem? hu)
      rw [far_lit] at hp
      obtain ⟨z, hz, rfl⟩ := List.mem_map.mp hp
      have hz12 : z.1.length ≤ 2 ∧ z.2.length ≤ 2 ∧ 1 ≤ z.1.length ∧ 1 ≤ z.2.length := by
        have : ∀ z ∈ FarL, z.1.length ≤ 2 ∧ z.2.length ≤ 2 ∧ 1 ≤ z.1.length ∧ 1 ≤ z.2.length := by decide
        exact this z hz
      obtain ⟨⟨its, rd, bok⟩, asc, len, lay, dep⟩ := far_ok hm z hz
      have r1 := rep_len m z.1
      have r2 := rep_len m z.2
      have m1 : m * z.1.length ≤ 200 := Nat.le_trans (Nat.mul_le_mul (Nat.le_of_lt_succ hm) hz12.1) (by decide)
      have m2 : m * z.2.length ≤ 200 := Nat.le_trans (Nat.mul_le_mul (Nat.le_of_lt_succ hm) hz12.2.1) (by decide)
      refine ⟨r, _, rfl, SqT.of hr0, rfl, _, _, rfl, _, _, rfl, rfl, ?_⟩
      refine ⟨_, rfl, _, rfl, z.1, m, rfl, rfl, hz12.2.2.1, by omega, by omega, _, _, rfl, rfl, by rw [l1]; exact add_line1 (by show 2 + _ ≤ _; omega), _, _, rfl, rfl, by rw [l1, l2, S_app]; exact add_line1 (by rw [List.length_append]; show 2 + _ + 2 ≤ _; omega), ?_⟩
      refine ⟨[42, 97] ++ ((List.replicate m z.1).flatten ++ [122, 42]), its, _, (by rw [l1, l2, S_app, S_app, List.append_assoc]; rfl), by omega, asc, rd, bok, fun H3 v s3 dv => ?_⟩
      refine ⟨_, rfl, _, rfl, z.2, m, rfl, rfl, hz12.2.2.2, by omega, by omega, _, _, rfl, rfl, by rw [l3]; exact add_line1 (by show 1 + _ ≤ _; omega), _, _, rfl, rfl, by rw [l3, l4, S_app]; exact add_line1 (by rw [List.length_append]; show 1 + _ + 1 ≤ _; omega), ?_⟩
      refine ⟨(by show 2 ≤ sizeLine; decide), fun p1 np1 => ⟨(by show 1 ≤ sizeLine; decide), fun p2 np2 => ⟨(by show 2 ≤ sizeLine; decide), fun p3 np3 => ⟨(by show 1 ≤ sizeLine; decide), fun p4 np4 => ?_⟩⟩⟩⟩
      have eT : (Str.ofString "a" ++ S (List.replicate m z.2).flatten ++ Str.ofString "z") = S ([97] ++ ((List.replicate m z.2).flatten ++ [122])) := by
        rw [show Str.ofString "a" = S [97] from l3, show Str.ofString "z" = S [122] from l4, S_app, S_app, List.append_assoc]
      obtain ⟨sx, dx⟩ := lay4 (K := K) (b := false) eT np1 np2 np3 np4
      have sh : SeqAt.shaped (.tuple (rowD (dueF z.2 m))) = true := by
        show (PyData.canLay0 _ && decide (_ ≤ 64)) = true
        rw [lay]
        rfl
      refine ⟨_, _, dp_same sx dv, dx, sh, sh, _, rfl, ?_⟩
      have ev : PyData.eqv (.tuple (rowD (dueF z.2 m))) (.tuple (rowD (dueF z.2 m))) = true := PySem.SeqAt.eqv_refl _ lay
      show (if (!PyData.eqv (.tuple (rowD (dueF z.2 m))) (.tuple (rowD (dueF z.2 m)))) = true then _ else _)
      rw [ev]
      exact iteF ⟨_, _, rfl, (s2.trans s3).trans sx⟩
    · rintro σ' H2 ⟨o1, o2, rfl, s2⟩
      have l5 : ("**a" : Str) = S [42, 42, 97] := by decide +kernel
      have l6 : (" _b" : Str) = S [32, 95, 98] := by decide +kernel
      have l7 : (" c**" : Str) = S [32, 99, 42, 42] := by decide +kernel
      have l8 : (" c" : Str) = S [32, 99] := by decide +kernel
      obtain ⟨n, hn, en⟩ : ∃ n : Nat, n < 61 ∧ (if (60 : Int) < (m : Int) then (60 : Int) else (m : Int)) = (n : Int) := by
        by_cases c : (60 : Int) < (m : Int)
        · exact ⟨60, by decide, by rw [if_pos c]; rfl⟩
        · exact ⟨m, by omega, by rw [if_neg c]⟩
      obtain ⟨⟨its, rd, bok⟩, asc, len, lay, dep⟩ := far_str hn
      have r1 := rep_len n [32, 95, 98]
      have r1' : (List.replicate n [32, 95, 98]).flatten.length = n * 3 := r1
      refine ⟨_, rfl, _, _, rfl, ?_⟩
      rw [en]
      refine ⟨[32, 95, 98], n, by rw [← l6], rfl, by decide, by decide, by omega, _, _, rfl, rfl, by rw [l5]; exact add_line1 (by show 3 + _ ≤ _; omega), _, _, rfl, rfl, by rw [l5, l7, S_app]; exact add_line1 (by rw [List.length_append]; show 3 + _ + 4 ≤ _; omega), ?_⟩
      refine ⟨_, rfl, [42, 42, 97] ++ ((List.replicate n [32, 95, 98]).flatten ++ [32, 99, 42, 42]), its, _, (by rw [l5, l7, S_app, S_app, List.append_assoc]; rfl), by omega, asc, rd, bok, fun H3 v s3 dv => ?_⟩
      refine ⟨_, rfl, _, _, rfl, ?_⟩
      rw [en]
      refine ⟨[32, 95, 98], n, by rw [← l6], rfl, by decide, by decide, by omega, _, _, rfl, rfl, by rw [l3]; exact add_line1 (by show 1 + _ ≤ _; omega), _, _, rfl, rfl, by rw [l3, l8, S_app]; exact add_line1 (by rw [List.length_append]; show 1 + _ + 2 ≤ _; omega), ?_⟩
      refine ⟨(by show 2 ≤ sizeLine; decide), fun p1 np1 => ⟨(by show 1 ≤ sizeLine; decide), fun p2 np2 => ⟨(by show 2 ≤ sizeLine; decide), fun p3 np3 => ⟨(by show 1 ≤ sizeLine; decide), fun p4 np4 => ?_⟩⟩⟩⟩
      have eT : (Str.ofString "a" ++ S (List.replicate n [32, 95, 98]).flatten ++ Str.ofString " c") = S ([97] ++ ((List.replicate n [32, 95, 98]).flatten ++ [32, 99])) := by
        rw [show Str.ofString "a" = S [97] from l3, show Str.ofString " c" = S [32, 99] from l8, S_app, S_app, List.append_assoc]
      obtain ⟨sx, dx⟩ := lay4 (K := K) (b := true) eT np1 np2 np3 np4
      have sh : SeqAt.shaped (.tuple (rowD (dueS n))) = true := by
        show (PyData.canLay0 _ && decide (_ ≤ 64)) = true
        rw [lay]
        rfl
      refine ⟨_, _, dp_same sx dv, dx, sh, sh, _, rfl, ?_⟩
      have ev : PyData.eqv (.tuple (rowD (dueS n))) (.tuple (rowD (dueS n))) = true := PySem.SeqAt.eqv_refl _ lay
      show (if (!PyData.eqv (.tuple (rowD (dueS n))) (.tuple (rowD (dueS n)))) = true then _ else _)
      rw [ev]
      refine iteF ?_
      have s4 := ((s1.trans s2).trans s3).trans sx
      clear ev sh dx lay dep bok rd asc len
      -- runs that open, each on a line of its own
      have l9 : ("_a\n" : Str) = S [95, 97, 10] := by decide +kernel
      have l10 : ("_a" : Str) = S [95, 97] := by decide +kernel
      obtain ⟨⟨its, rd, bok⟩, asc, len, lay, dep⟩ := far_none hm
      have r2 : (List.replicate m [95, 97, 10]).flatten.length = m * 3 := rep_len m [95, 97, 10]
      refine ⟨_, rfl, [95, 97, 10], m, by rw [← l9], rfl, by decide, by decide, by omega, _, _, rfl, rfl, by rw [l4]; exact add_line1 (by show _ + 1 ≤ _; omega), ?_⟩
      refine ⟨(List.replicate m [95, 97, 10]).flatten ++ [122], its, _, (by rw [l4, S_app]; rfl), by omega, asc, rd, bok, fun H5 v5 s5 dv5 => ?_⟩
      refine ⟨(by show 2 ≤ sizeLine; decide), fun a1 n1 => ⟨(by show 1 ≤ sizeLine; decide), fun a2 n2 => ⟨(by show 2 ≤ sizeLine; decide), fun a3 n3 => ?_⟩⟩⟩
      have u1 := same_new (o := .tup [.str "text", .str "_a"]) n1
      have g1 : (upd H5 a1 (.tup [.str "text", .str "_a"])) a1 = some (.tup [.str "text", .str "_a"]) := upd_same
      generalize (upd H5 a1 (.tup [.str "text", .str "_a"])) = G1 at u1 g1 n2 n3 ⊢
      have u2 := same_new (o := .tup [.str "soft"]) n2
      have g2 : (upd G1 a2 (.tup [.str "soft"])) a2 = some (.tup [.str "soft"]) := upd_same
      generalize (upd G1 a2 (.tup [.str "soft"])) = G2 at u2 g2 n3 ⊢
      have u3 := same_new (o := .tup [.ref a1, .ref a2]) n3
      have g3 : (upd G2 a3 (.tup [.ref a1, .ref a2])) a3 = some (.tup [.ref a1, .ref a2]) := upd_same
      generalize (upd G2 a3 (.tup [.ref a1, .ref a2])) = G3 at u3 g3 ⊢
      have u13 := (u1.trans u2).trans u3
      rw [l10] at g1
      have dxs : DpAll K G3 [.ref a1, .ref a2] (rowD [.text [95, 97], .soft]) := .cons (dp_text (u3 _ _ (u2 _ _ g1))) (.cons (dp_soft (u3 _ _ g2)) .nil)
      have tail : ∀ (r : Addr) (G : Hp), Same G3 G → SqT K G r (List.replicate m [V.ref a1, V.ref a2]).flatten → ∀ b1 b2 r2, G b1 = none → (upd G b1 (.tup [.str "text", .str "z"])) b2 = none → (upd (upd G b1 (.tup [.str "text", .str "z"])) b2 (.tup [.ref b1])) r2 = none → SqT K (upd (upd G b1 (.tup [.str "text", .str "z"])) b2 (.tup [.ref b1])) r (List.replicate m [V.ref a1, V.ref a2]).flatten ∧ SqT K (upd (upd G b1 (.tup [.str "text", .str "z"])) b2 (.tup [.ref b1])) b2 [.ref b1] ∧ Same G3 (upd (upd (upd G b1 (.tup [.str "text", .str "z"])) b2 (.tup [.ref b1])) r2 (.tup ((List.replicate m [V.ref a1, V.ref a2]).flatten ++ [.ref b1]))) ∧ Dp K (upd (upd (upd G b1 (.tup [.str "text", .str "z"])) b2 (.tup [.ref b1])) r2 (.tup ((List.replicate m [V.ref a1, V.ref a2]).flatten ++ [.ref b1]))) (.ref r2) (.tuple (rowD (dueN m))) := fun r G sg hr b1 b2 r2 nb1 nb2 nr2 => by
        have v1 := same_new (o := .tup [.str "text", .str "z"]) nb1
        have v2 := same_new (o := .tup [.ref b1]) nb2
        have v3 := same_new (o := .tup ((List.replicate m [V.ref a1, V.ref a2]).flatten ++ [.ref b1])) nr2
        refine ⟨sqT_same (v1.trans v2) hr, SqT.of upd_same, ((sg.trans v1).trans v2).trans v3, .tup (SqT.of upd_same) ?_⟩
        have e : rowD (dueN m) = (List.replicate m (rowD [.text [95, 97], .soft])).flatten ++ rowD [.text [122]] := by
          unfold dueN
          rw [rowD_app]
          congr 1
          have : ∀ k : Nat, rowD (List.replicate k [Inl.text [95, 97], .soft]).flatten = (List.replicate k (rowD [Inl.text [95, 97], .soft])).flatten := fun k => by
            induction k with
            | zero => rfl
            | succ k ih => rw [List.replicate_succ, List.replicate_succ, List.flatten_cons, List.flatten_cons, rowD_app, ih]
          exact this m
        rw [e]
        have dr : ∀ k : Nat, DpAll K G3 (List.replicate k [V.ref a1, V.ref a2]).flatten (List.replicate k (rowD [Inl.text [95, 97], .soft])).flatten := fun k => by
          induction k with
          | zero => exact .nil
          | succ k ih =>
            rw [List.replicate_succ, List.replicate_succ, List.flatten_cons, List.flatten_cons]
            exact dpAll_app dxs ih
        refine dpAll_app (dpAll_same (((sg.trans v1).trans v2).trans v3) (dr m)) (.cons (dp_text ?_) .nil)
        rw [← l4]
        exact v3 _ _ (v2 _ _ upd_same)
      have rne : (List.replicate m [V.ref a1, V.ref a2]).flatten ≠ [] := by
        obtain ⟨k, rfl⟩ : ∃ k, m = k + 1 := ⟨m - 1, by omega⟩
        exact fun e => by cases e
      have rl : (List.replicate m [V.ref a1, V.ref a2]).flatten.length = m * 2 := by
        have : ∀ k : Nat, (List.replicate k [V.ref a1, V.ref a2]).flatten.length = k * 2 := fun k => by
          induction k with
          | zero => rfl
          | succ k ih =>
            rw [List.replicate_succ, List.flatten_cons, List.length_append, ih]
            show 2 + k * 2 = (k + 1) * 2
            omega
        exact this m
      refine ⟨_, rfl, a3, _, _, rfl, rfl, SqT.of g3, by simp, by omega, by omega, (by show 2 ≤ 1000; omega), fun e1 => ?_, fun e2 p np => ?_⟩
      · have em : m = 1 := by omega
        have hs : SqT K G3 a3 (List.replicate m [V.ref a1, V.ref a2]).flatten := by
          rw [em]
          exact SqT.of g3
        refine ⟨(by show 2 ≤ sizeLine; decide), fun b1 nb1 => ⟨(by show 1 ≤ sizeLine; decide), fun b2 nb2 => ?_⟩⟩
        have hs2 := sqT_same ((same_new nb1).trans (same_new (o := .tup [.ref b1]) nb2)) hs
        refine ⟨a3, b2, _, _, rfl, rfl, hs2, SqT.of upd_same, rne, by rw [rl, sizeLine_eq]; show _ + 1 ≤ _; omega, fun e => (by cases e), fun _ r2 nr2 => ?_⟩
        obtain ⟨_, _, sx, dx⟩ := tail a3 G3 (.refl _) hs b1 b2 r2 nb1 nb2 nr2
        refine ⟨_, _, dp_same (u13.trans sx) dv5, dx, lay, lay, by omega, ?_⟩
        rw [PySem.SeqAt.eqv_refl _ lay]
        exact q _ ((s4.trans s5).trans (u13.trans sx))
      · have en2 : ((m : Nat) : Int).toNat = m := Int.toNat_natCast m
        rw [en2]
        have v0 := same_new (o := .tup (List.replicate m [V.ref a1, V.ref a2]).flatten) np
        have hs : SqT K (upd G3 p (.tup (List.replicate m [V.ref a1, V.ref a2]).flatten)) p (List.replicate m [V.ref a1, V.ref a2]).flatten := SqT.of upd_same
        generalize (upd G3 p (.tup (List.replicate m [V.ref a1, V.ref a2]).flatten)) = G4 at v0 hs ⊢
        refine ⟨(by show 2 ≤ sizeLine; decide), fun b1 nb1 => ⟨(by show 1 ≤ sizeLine; decide), fun b2 nb2 => ?_⟩⟩
        have hs2 := sqT_same ((same_new nb1).trans (same_new (o := .tup [.ref b1]) nb2)) hs
        refine ⟨p, b2, _, _, rfl, rfl, hs2, SqT.of upd_same, rne, by rw [rl, sizeLine_eq]; show _ + 1 ≤ _; omega, fun e => (by cases e), fun _ r2 nr2 => ?_⟩
        obtain ⟨_, _, sx, dx⟩ := tail p G4 v0 hs b1 b2 r2 nb1 nb2 nr2
        refine ⟨_, _, dp_same (u13.trans sx) dv5, dx, lay, lay, by omega, ?_⟩
        rw [PySem.SeqAt.eqv_refl _ lay]
        exact q _ ((s4.trans s5).trans (u13.trans sx))
theorem seq_same {K : PySem.W.Frag} {H H' : Hp} {a : Addr} {xs : List V} (s : Same H H') (h : SqL K H a xs) : SqL K H' a xs := by
  rcases h with (h | ⟨o, h⟩) | h
  · exact .inl (.inl (s _ _ h))
  · exact .inl (.inr ⟨o, s _ _ h⟩)
  · exact .inr h
theorem lr_left {t : List Nat} : ∀ (ps : List Pc) (p : Nat), ∀ a ∈ lrP t p ps, a.left ≤ (flatP ps).length
  | [], p, a, h => by cases h
  | .run c n :: r, p, a, h => by
    have el : (flatP (.run c n :: r)).length = n + (flatP r).length := by
      show (List.replicate n c ++ flatP r).length = _
      rw [List.length_append, List.length_replicate]
    rw [el]
    rcases List.mem_cons.mp (show a ∈ (⟨runOf t p c, p, n, 0⟩ : LR) :: lrP t (p + n) r from h) with rfl | h
    · exact Nat.le_add_right _ _
    · have := lr_left r _ a h
      omega
  | .txt x m :: r, p, a, h => by
    have := lr_left r _ a h
    show a.left ≤ (x ++ flatP r).length
    rw [List.length_append]
    omega
  | .brk :: r, p, a, h => by
    have := lr_left r _ a h
    show a.left ≤ (10 :: flatP r).length
    rw [List.length_cons]
    omega
def sp_law (K : PySem.W.Frag) : Sp := fun vs H Q _ => ∃ (a : Addr) (ns : List Int), vs = [.ref a] ∧ SqL K H a (ns.map V.int) ∧ ns.length ≤ 63 ∧ ∀ H', Q (.bl true) H'
theorem ok_law {P : Program} {w : World} {K : PySem.W.Frag} {mg : Str → Option Value} {base : Heap} {f : Addr} {fd : FuncData} (T : Txt w K mg) (F : Fun K "law" "law" s_law f fd) : FnOk P w K mg base CX0 100 f fd ["_law_script"] (sp_law K) := by
  refine F.ok sc_law (fun vs H Q E h => ?_) (fun cdv A outer s H vs Q E hr h => ?_)
  · obtain ⟨a, ns, rfl, _⟩ := h
    rfl
  · obtain ⟨a, ns, rfl, ha1, hl, q⟩ := h
    refine ⟨_, (pss_cons (ps_for PassesOwn.never rfl (pi_range1 (by rfl) T.z_range (pa_cons (pe_callB (call_max2 rfl) (by rfl) T.z_max (by decide +kernel) (pa_cons pe_int (pa_cons (pe_callB (call_min2 rfl) (by rfl) T.z_min (by decide +kernel) (pa_cons pe_int (pa_cons (pe_callB call_len_seq (by rfl) T.z_len PySem.boot_len (pa_cons (pv 0) pa_nil)) pa_nil))) pa_nil))) pa_nil)) (pg_name (i := 1) sc_law.nd rfl (.inl rfl)) (pss_cons (ps_set (i := 2) sc_law.nd rfl (.inl rfl) (pe_call (ok__law_state T) (hr.mono (by decide)) (by rfl) T.g__law_state T.f__law_state.kp T.b__law_state .nil pass0 (pa_cons (pv 0) (pa_cons (pv 1) pa_nil))))
        (pss_cons (ps_if (PW.pt (pw_or (pt_not (pt_val (pe_call (ok__law_deep_right T) (hr.mono (by decide)) (by rfl) T.g__law_deep_right T.f__law_deep_right.kp T.b__law_deep_right .nil pass0 (pa_cons (pe_op op_add pe_int (pe_call (ok__law_draw T) (hr.mono (by decide)) (by rfl) T.g__law_draw T.f__law_draw.kp T.b__law_draw .nil pass0 (pa_cons (pv 2) (pa_cons pe_int pa_nil)))) pa_nil)))) (pw_or1 (pt_not (pt_val (pe_call (ok__law_far_right T) (hr.mono (by decide)) (by rfl) T.g__law_far_right T.f__law_far_right.kp T.b__law_far_right .nil pass0 (pa_cons (pe_op op_add pe_int (pe_call (ok__law_draw T) (hr.mono (by decide)) (by rfl) T.g__law_draw T.f__law_draw.kp T.b__law_draw .nil pass0 (pa_cons (pv 2) (pa_cons pe_int pa_nil)))) pa_nil))))))) (pss_one (ps_ret pe_bl)) pss_nil)
        (pss_one (ps_for PassesOwn.never rfl (pi_range1 (by rfl) T.z_range (pa_cons pe_int pa_nil)) (pg_name (i := 3) sc_law.nd rfl (.inl rfl)) (pss_cons (ps_asg (pe_call (ok__law_soup T) (hr.mono (by decide)) (by rfl) T.g__law_soup T.f__law_soup.kp T.b__law_soup .nil pass0 (pa_cons (pv 2) pa_nil)) (pg_tup (by rfl) (pgs_cons (pg_name (i := 4) sc_law.nd rfl (.inl rfl)) (pgs_cons (pg_name (i := 5) sc_law.nd rfl (.inl rfl)) pgs_nil))))
        (pss_cons (ps_set (i := 6) sc_law.nd rfl (.inl rfl) (pe_call (ok__law_built T) (hr.mono (by decide)) (by rfl) T.g__law_built T.f__law_built.kp T.b__law_built .nil pass0 (pa_cons (pv 4) (pa_cons (pv 5) (pa_cons (pe_call (ok__law_spans T) (hr.mono (by decide)) (by rfl) T.g__law_spans T.f__law_spans.kp T.b__law_spans .nil pass0 (pa_cons (pe_call (ok__law_runs T) (hr.mono (by decide)) (by rfl) T.g__law_runs T.f__law_runs.kp T.b__law_runs .nil pass0 (pa_cons (pv 4) (pa_cons (pv 5) pa_nil))) pa_nil)) pa_nil)))))
        (pss_one (ps_if (PW.pt (pw_or (pt_cmpR (op_neM (room_n (n := 1000) hr (by decide))) (pe_call (ok_inlines T) (hr.mono (by decide)) (by rfl) T.g_inlines T.f_inlines.kp T.bd_inlines (.cons (show RelV V.non Value.none from rfl) .nil) pass0 (pa_cons (pv 4) pa_nil)) (pv 6) (nomark _)) (pw_or1 (pt_cmpR (op_neM (room_n (n := 1000) hr (by decide))) (pe_call (ok_inlines T) (hr.mono (by decide)) (by rfl) T.g_inlines T.f_inlines.kp (bf_inlines T) .nil pass0 (pa_cons (pv 4) (pa_cons pe_non pa_nil))) (pv 6) (nomark _))))) (pss_one (ps_ret pe_bl)) pss_nil)))))))))
        (pss_one (ps_ret pe_bl))), ?_⟩
    refine ⟨_, rfl, a, ns.map V.int, rfl, .inl ha1, _, _, rfl, _, _, rfl, ?_⟩
    obtain ⟨n, hn, en⟩ : ∃ n : Nat, n ≤ 8 ∧ (if (if ((ns.map V.int).length : Int) < 8 then ((ns.map V.int).length : Int) else 8) > 1 then (if ((ns.map V.int).length : Int) < 8 then ((ns.map V.int).length : Int) else 8) else 1) = (n : Int) := by
      by_cases h8 : ((ns.map V.int).length : Int) < 8
      · rw [if_pos h8]
        by_cases h1 : ((ns.map V.int).length : Int) > 1
        · exact ⟨(ns.map V.int).length, by omega, by rw [if_pos h1]⟩
        · exact ⟨1, by omega, by rw [if_neg h1]; rfl⟩
      · rw [if_neg h8]
        exact ⟨8, by omega, by rw [if_pos (by decide)]; rfl⟩
    rw [en]
    refine ⟨_, rfl, by omega, by omega, for_range (lo := 0) (n := ((n : Nat) : Int).toNat) (fun i σ H' => (∃ (v1 v2 v3 v4 v5 v6 : Option V), σ = [some (.ref a), v1, v2, v3, v4, v5, v6]) ∧ Same H H') ⟨⟨_, _, _, _, _, _, rfl⟩, .refl _⟩ ?_ ?_⟩
    · rintro k σ H2 hk ⟨⟨v1, v2, v3, v4, v5, v6, rfl⟩, s2⟩
      rw [Int.toNat_natCast] at hk
      refine ⟨_, rfl, _, rfl, a, ns, k, by rw [Int.zero_add]; rfl, seq_same s2 ha1, hl, by omega, fun H3 L s3 nL wL => ?_⟩
      refine one_draw 38 (by decide) wL rfl fun H4 d1 k4 w4 hd1 => ?_
      refine ⟨_, _, rfl, rfl, 1 + d1, rfl, by omega, fun H5 s5 => ⟨_, rfl, iteF ?_⟩⟩
      refine one_draw 97 (by decide) (w4.same s5) rfl fun H6 d2 k6 w6 hd2 => ?_
      refine ⟨_, _, rfl, rfl, 1 + d2, rfl, by omega, by omega, fun H7 s7 => ⟨_, rfl, iteF ?_⟩⟩
      have s27 : Same H2 H7 := fun b o e => s7 _ _ (k6 b o (fun z => by rw [z] at e; rw [show H2 L = none from nL] at e; cases e) (s5 _ _ (k4 b o (fun z => by rw [z] at e; rw [show H2 L = none from nL] at e; cases e) (s3 b o e))))
      have w7 := w6.same s7
      refine ⟨_, rfl, by decide, by decide, for_range (lo := 0) (n := 5) (fun j σ H' => (∃ (v3 v4 v5 v6 : Option V), σ = [some (.ref a), some (.int (0 + (k : Int))), some (.ref L), v3, v4, v5, v6]) ∧ Same H2 H' ∧ Well3 H' L) ⟨⟨_, _, _, _, rfl⟩, s27, w7⟩ ?_ ?_⟩
      · rintro j σ H4 hj ⟨⟨w3, w4, w5, w6, rfl⟩, s4, wl4⟩
        refine ⟨_, rfl, L, rfl, wl4, fun H5 r t qa us ps k5 w5' hr hq hqL pcs cont => ?_⟩
        refine ⟨r, _, rfl, SqT.of hr, rfl, _, _, rfl, _, _, rfl, rfl, ?_⟩
        have s5 : Same H2 H5 := fun b o e => k5 b o (fun z => by rw [z] at e; rw [show H2 L = none from nL] at e; cases e) (s4 b o e)
        have lk := pcs_len (t := t) ps 0 cont.ok (Nat.zero_le _) (by rw [List.drop_zero]; exact cont.eq)
        have tl := cont.len
        have tn := cont.num
        obtain ⟨its, rows, rd, hrows, bok⟩ := law_out cont.nw cont.ok cont.eq (by omega)
        have mks := marks_ok cont.ok cont.eq (by omega)
        obtain ⟨lay, dep⟩ := rows_ok cont.eq cont.sm hrows
        refine ⟨_, rfl, _, rfl, _, rfl, _, rfl, t, ps, qa, us, rfl, hq, pcs, cont.eq, cont.ok, lk, cont.asc, by omega, by omega, fun H6 Lr RA s6 hL6 hRA nd nn => ?_⟩
        refine ⟨Lr, RA, lrP t 0 ps, rfl, hL6, hRA, nd, Nat.le_trans (lr_le t ps 0) (by omega), fun i x hx => ?_, fun H7 F us7 hF hM hml fr nF => ?_⟩
        · have := lr_left ps 0 x (List.mem_of_getElem? hx)
          rw [← cont.eq] at this
          omega
        have s7 : Same H5 H7 := fun b o e => fr b o (fun hm => by
          have := nn b (List.mem_cons_of_mem _ hm)
          rw [this] at e
          cases e) (s6 b o e)
        refine ⟨t, qa, F, us, ps, us7, marksP t ps, rows, rfl, s7 _ _ hq, pcs.same (fun b xs e => s7 b _ e), cont.eq, cont.sm, by omega, by omega, hF, hM, mks, Nat.le_trans hml (by have := lr_le t ps 0; omega), hrows, fun H8 v s8 dv => ?_⟩
        refine ⟨_, rfl, t, its, _, rfl, by omega, cont.asc, rd, bok, fun H9 u s9 du => ?_⟩
        refine ⟨_, rfl, _, _, du, dp_same s9 dv, lay, lay, by omega, _, rfl, ?_⟩
        rw [PySem.SeqAt.eqv_refl _ lay]
        refine iteF ⟨_, rfl, t, its, _, rfl, by omega, cont.asc, rd, bok, fun H10 u2 s10 du2 => ?_⟩
        refine ⟨_, rfl, _, _, du2, dp_same (s9.trans s10) dv, lay, lay, by omega, _, rfl, ?_⟩
        rw [PySem.SeqAt.eqv_refl _ lay]
        exact iteF ⟨⟨_, _, _, _, rfl⟩, (((s5.trans s7).trans s8).trans s9).trans s10, w5'.same (((s7.trans s8).trans s9).trans s10)⟩
      · rintro σ H4 ⟨⟨w3, w4, w5, w6, rfl⟩, s4, wl4⟩
        exact ⟨⟨_, _, _, _, _, _, rfl⟩, s2.trans s4⟩
    · rintro σ H2 ⟨⟨v1, v2, v3, v4, v5, v6, rfl⟩, s2⟩
      exact q _
set_option maxHeartbeats 4000000
def hD_behind_all : He.DefD := ⟨("behind_all", none), "behind_all", "behind_all", defArgs s_behind_all, defBody s_behind_all, defScope s_behind_all, [], []⟩
def hD_behind_gap : He.DefD := ⟨("behind_gap", none), "behind_gap", "behind_gap", defArgs s_behind_gap, defBody s_behind_gap, defScope s_behind_gap, [], []⟩
def hD_behind_first : He.DefD := ⟨("behind_first", none), "behind_first", "behind_first", defArgs s_behind_first, defBody s_behind_first, defScope s_behind_first, [], []⟩
def hD_behind_sign : He.DefD := ⟨("behind_sign", none), "behind_sign", "behind_sign", defArgs s_behind_sign, defBody s_behind_sign, defScope s_behind_sign, [], []⟩
def hD_is_escape : He.DefD := ⟨("is_escape", none), "is_escape", "is_escape", defArgs s_is_escape, defBody s_is_escape, defScope s_is_escape, [], []⟩
def hD_first_plain : He.DefD := ⟨("first_plain", none), "first_plain", "first_plain", defArgs s_first_plain, defBody s_first_plain, defScope s_first_plain, [], []⟩
def hD_strings_in : He.DefD := ⟨("strings_in", none), "strings_in", "strings_in", defArgs s_strings_in, defBody s_strings_in, defScope s_strings_in, [], []⟩
def hD_reference_at : He.DefD := ⟨("reference_at", none), "reference_at", "reference_at", defArgs s_reference_at, defBody s_reference_at, defScope s_reference_at, [], []⟩
def hD_decoded : He.DefD := ⟨("decoded", none), "decoded", "decoded", defArgs s_decoded, defBody s_decoded, defScope s_decoded, [], []⟩
def hD_decoded_at : He.DefD := ⟨("decoded_at", none), "decoded_at", "decoded_at", defArgs s_decoded_at, defBody s_decoded_at, defScope s_decoded_at, [], []⟩
def hD_sign_meant : He.DefD := ⟨("sign_meant", none), "sign_meant", "sign_meant", defArgs s_sign_meant, defBody s_sign_meant, defScope s_sign_meant, [], []⟩
def hD_number_in : He.DefD := ⟨("number_in", none), "number_in", "number_in", defArgs s_number_in, defBody s_number_in, defScope s_number_in, [], []⟩
def hD_sign_of : He.DefD := ⟨("sign_of", none), "sign_of", "sign_of", defArgs s_sign_of, defBody s_sign_of, defScope s_sign_of, [], []⟩
def hD_normalised : He.DefD := ⟨("normalised", none), "normalised", "normalised", defArgs s_normalised, defBody s_normalised, defScope s_normalised, [], []⟩
def hD_is_label_text : He.DefD := ⟨("is_label_text", none), "is_label_text", "is_label_text", defArgs s_is_label_text, defBody s_is_label_text, defScope s_is_label_text, [], []⟩
def hD_is_label : He.DefD := ⟨("is_label", none), "is_label", "is_label", defArgs s_is_label, defBody s_is_label, defScope s_is_label, [], []⟩
def hD_label_at : He.DefD := ⟨("label_at", none), "label_at", "label_at", defArgs s_label_at, defBody s_label_at, defScope s_label_at, [], []⟩
def hD_target_at : He.DefD := ⟨("target_at", none), "target_at", "target_at", defArgs s_target_at, defBody s_target_at, defScope s_target_at, [], []⟩
def hD_title_or_none : He.DefD := ⟨("title_or_none", none), "title_or_none", "title_or_none", defArgs s_title_or_none, defBody s_title_or_none, defScope s_title_or_none, [], []⟩
def hD_destination_at : He.DefD := ⟨("destination_at", none), "destination_at", "destination_at", defArgs s_destination_at, defBody s_destination_at, defScope s_destination_at, [], []⟩
def hD_title_at : He.DefD := ⟨("title_at", none), "title_at", "title_at", defArgs s_title_at, defBody s_title_at, defScope s_title_at, [], []⟩
def hD_enclosed_at : He.DefD := ⟨("enclosed_at", none), "enclosed_at", "enclosed_at", defArgs s_enclosed_at, defBody s_enclosed_at, defScope s_enclosed_at, [], []⟩
def hD_behind_bare : He.DefD := ⟨("behind_bare", none), "behind_bare", "behind_bare", defArgs s_behind_bare, defBody s_behind_bare, defScope s_behind_bare, [], []⟩
def hD_tag_at : He.DefD := ⟨("tag_at", none), "tag_at", "tag_at", defArgs s_tag_at, defBody s_tag_at, defScope s_tag_at, [], []⟩
def hD_open_tag_at : He.DefD := ⟨("open_tag_at", none), "open_tag_at", "open_tag_at", defArgs s_open_tag_at, defBody s_open_tag_at, defScope s_open_tag_at, [], []⟩
def hD_closing_tag_at : He.DefD := ⟨("closing_tag_at", none), "closing_tag_at", "closing_tag_at", defArgs s_closing_tag_at, defBody s_closing_tag_at, defScope s_closing_tag_at, [], []⟩
def hD_attribute_at : He.DefD := ⟨("attribute_at", none), "attribute_at", "attribute_at", defArgs s_attribute_at, defBody s_attribute_at, defScope s_attribute_at, [], []⟩
def hD_value_at : He.DefD := ⟨("value_at", none), "value_at", "value_at", defArgs s_value_at, defBody s_value_at, defScope s_value_at, [], []⟩
def hD_name_at : He.DefD := ⟨("name_at", none), "name_at", "name_at", defArgs s_name_at, defBody s_name_at, defScope s_name_at, [], []⟩
def hD_is_letter : He.DefD := ⟨("is_letter", none), "is_letter", "is_letter", defArgs s_is_letter, defBody s_is_letter, defScope s_is_letter, [], []⟩
def hD_autolink_at : He.DefD := ⟨("autolink_at", none), "autolink_at", "autolink_at", defArgs s_autolink_at, defBody s_autolink_at, defScope s_autolink_at, [], []⟩
def hD_begins_with_scheme : He.DefD := ⟨("begins_with_scheme", none), "begins_with_scheme", "begins_with_scheme", defArgs s_begins_with_scheme, defBody s_begins_with_scheme, defScope s_begins_with_scheme, [], []⟩
def hD_is_address : He.DefD := ⟨("is_address", none), "is_address", "is_address", defArgs s_is_address, defBody s_is_address, defScope s_is_address, [], []⟩
def hD_is_part : He.DefD := ⟨("is_part", none), "is_part", "is_part", defArgs s_is_part, defBody s_is_part, defScope s_is_part, [], []⟩
def hD_run_at : He.DefD := ⟨("run_at", none), "run_at", "run_at", defArgs s_run_at, defBody s_run_at, defScope s_run_at, [], []⟩
def hD_kind_of : He.DefD := ⟨("kind_of", none), "kind_of", "kind_of", defArgs s_kind_of, defBody s_kind_of, defScope s_kind_of, [], []⟩
def hD_pair : He.DefD := ⟨("pair", none), "pair", "pair", defArgs s_pair, defBody s_pair, defScope s_pair, [], []⟩
def hD_sort_of : He.DefD := ⟨("sort_of", none), "sort_of", "sort_of", defArgs s_sort_of, defBody s_sort_of, defScope s_sort_of, [], []⟩
def hD_stack_of_partner : He.DefD := ⟨("stack_of_partner", none), "stack_of_partner", "stack_of_partner", defArgs s_stack_of_partner, defBody s_stack_of_partner, defScope s_stack_of_partner, [], []⟩
def hD_may_pair : He.DefD := ⟨("may_pair", none), "may_pair", "may_pair", defArgs s_may_pair, defBody s_may_pair, defScope s_may_pair, [], []⟩
def hD_take_both : He.DefD := ⟨("take_both", none), "take_both", "take_both", defArgs s_take_both, defBody s_take_both, defScope s_take_both, [], []⟩
def hD_built : He.DefD := ⟨("built", none), "built", "built", defArgs s_built, defBody s_built, defScope s_built, [], []⟩
def hD_joined : He.DefD := ⟨("joined", none), "joined", "joined", defArgs s_joined, defBody s_joined, defScope s_joined, [], []⟩
def hD_add_text : He.DefD := ⟨("add_text", none), "add_text", "add_text", defArgs s_add_text, defBody s_add_text, defScope s_add_text, [], []⟩
def hD_scanned : He.DefD := ⟨("scanned", none), "scanned", "scanned", defArgs s_scanned, defBody s_scanned, defScope s_scanned, [], []⟩
def hD_take_plain : He.DefD := ⟨("take_plain", none), "take_plain", "take_plain", defArgs s_take_plain, defBody s_take_plain, defScope s_take_plain, [], []⟩
def hD_take_backslash : He.DefD := ⟨("take_backslash", none), "take_backslash", "take_backslash", defArgs s_take_backslash, defBody s_take_backslash, defScope s_take_backslash, [], []⟩
def hD_take_backquotes : He.DefD := ⟨("take_backquotes", none), "take_backquotes", "take_backquotes", defArgs s_take_backquotes, defBody s_take_backquotes, defScope s_take_backquotes, [], []⟩
def hD_code_text : He.DefD := ⟨("code_text", none), "code_text", "code_text", defArgs s_code_text, defBody s_code_text, defScope s_code_text, [], []⟩
def hD_take_angle : He.DefD := ⟨("take_angle", none), "take_angle", "take_angle", defArgs s_take_angle, defBody s_take_angle, defScope s_take_angle, [], []⟩
def hD_take_reference : He.DefD := ⟨("take_reference", none), "take_reference", "take_reference", defArgs s_take_reference, defBody s_take_reference, defScope s_take_reference, [], []⟩
def hD_take_line_feed : He.DefD := ⟨("take_line_feed", none), "take_line_feed", "take_line_feed", defArgs s_take_line_feed, defBody s_take_line_feed, defScope s_take_line_feed, [], []⟩
def hD_take_run : He.DefD := ⟨("take_run", none), "take_run", "take_run", defArgs s_take_run, defBody s_take_run, defScope s_take_run, [], []⟩
def hD_take_bracket : He.DefD := ⟨("take_bracket", none), "take_bracket", "take_bracket", defArgs s_take_bracket, defBody s_take_bracket, defScope s_take_bracket, [], []⟩
def hD_take_exclamation : He.DefD := ⟨("take_exclamation", none), "take_exclamation", "take_exclamation", defArgs s_take_exclamation, defBody s_take_exclamation, defScope s_take_exclamation, [], []⟩
def hD_note : He.DefD := ⟨("note", none), "note", "note", defArgs s_note, defBody s_note, defScope s_note, [], []⟩
def hD_take_end : He.DefD := ⟨("take_end", none), "take_end", "take_end", defArgs s_take_end, defBody s_take_end, defScope s_take_end, [], []⟩
def hD_found_behind : He.DefD := ⟨("found_behind", none), "found_behind", "found_behind", defArgs s_found_behind, defBody s_found_behind, defScope s_found_behind, [], []⟩
def hD_own_label : He.DefD := ⟨("own_label", none), "own_label", "own_label", defArgs s_own_label, defBody s_own_label, defScope s_own_label, [], []⟩
def hD_check_source : He.DefD := ⟨("check_source", none), "check_source", "check_source", defArgs s_check_source, defBody s_check_source, defScope s_check_source, [], []⟩
def hD_inlines : He.DefD := ⟨("inlines", none), "inlines", "inlines", defArgs s_inlines, defBody s_inlines, defScope s_inlines, [.non], []⟩
def hD_is_known : He.DefD := ⟨("is_known", none), "is_known", "is_known", defArgs s_is_known, defBody s_is_known, defScope s_is_known, [], []⟩
def hD_is_target : He.DefD := ⟨("is_target", none), "is_target", "is_target", defArgs s_is_target, defBody s_is_target, defScope s_is_target, [], []⟩
def hD__law_state : He.DefD := ⟨("_law_state", none), "_law_state", "_law_state", defArgs s__law_state, defBody s__law_state, defScope s__law_state, [], []⟩
def hD__law_draw : He.DefD := ⟨("_law_draw", none), "_law_draw", "_law_draw", defArgs s__law_draw, defBody s__law_draw, defScope s__law_draw, [], []⟩
def hD__law_one : He.DefD := ⟨("_law_one", none), "_law_one", "_law_one", defArgs s__law_one, defBody s__law_one, defScope s__law_one, [], []⟩
def hD__law_is_white : He.DefD := ⟨("_law_is_white", none), "_law_is_white", "_law_is_white", defArgs s__law_is_white, defBody s__law_is_white, defScope s__law_is_white, [], []⟩
def hD__law_is_mark : He.DefD := ⟨("_law_is_mark", none), "_law_is_mark", "_law_is_mark", defArgs s__law_is_mark, defBody s__law_is_mark, defScope s__law_is_mark, [], []⟩
def hD__law_sides : He.DefD := ⟨("_law_sides", none), "_law_sides", "_law_sides", defArgs s__law_sides, defBody s__law_sides, defScope s__law_sides, [], []⟩
def hD__law_may : He.DefD := ⟨("_law_may", none), "_law_may", "_law_may", defArgs s__law_may, defBody s__law_may, defScope s__law_may, [], []⟩
def hD__law_spans : He.DefD := ⟨("_law_spans", none), "_law_spans", "_law_spans", defArgs s__law_spans, defBody s__law_spans, defScope s__law_spans, [], []⟩
def hD__law_runs : He.DefD := ⟨("_law_runs", none), "_law_runs", "_law_runs", defArgs s__law_runs, defBody s__law_runs, defScope s__law_runs, [], []⟩
def hD__law_put : He.DefD := ⟨("_law_put", none), "_law_put", "_law_put", defArgs s__law_put, defBody s__law_put, defScope s__law_put, [], []⟩
def hD__law_built : He.DefD := ⟨("_law_built", none), "_law_built", "_law_built", defArgs s__law_built, defBody s__law_built, defScope s__law_built, [], []⟩
def hD__law_piece : He.DefD := ⟨("_law_piece", none), "_law_piece", "_law_piece", defArgs s__law_piece, defBody s__law_piece, defScope s__law_piece, [], []⟩
def hD__law_soup : He.DefD := ⟨("_law_soup", none), "_law_soup", "_law_soup", defArgs s__law_soup, defBody s__law_soup, defScope s__law_soup, [], []⟩
def hD__law_deep_right : He.DefD := ⟨("_law_deep_right", none), "_law_deep_right", "_law_deep_right", defArgs s__law_deep_right, defBody s__law_deep_right, defScope s__law_deep_right, [], []⟩
def hD__law_far_right : He.DefD := ⟨("_law_far_right", none), "_law_far_right", "_law_far_right", defArgs s__law_far_right, defBody s__law_far_right, defScope s__law_far_right, [], []⟩
def hD_law : He.DefD := ⟨("law", none), "law", "law", defArgs s_law, defBody s_law, defScope s_law, [], []⟩
def hD_Bracket____init__ : He.DefD := ⟨("Bracket", some "__init__"), "__init__", "Bracket.__init__", defArgs s_Bracket____init__, defBody s_Bracket____init__, defScope s_Bracket____init__, [], []⟩
def hD_Scan____init__ : He.DefD := ⟨("Scan", some "__init__"), "__init__", "Scan.__init__", defArgs s_Scan____init__, defBody s_Scan____init__, defScope s_Scan____init__, [], []⟩
def hD_Scan__put : He.DefD := ⟨("Scan", some "put"), "put", "Scan.put", defArgs s_Scan__put, defBody s_Scan__put, defScope s_Scan__put, [], []⟩
def hD_Scan__put_text : He.DefD := ⟨("Scan", some "put_text"), "put_text", "Scan.put_text", defArgs s_Scan__put_text, defBody s_Scan__put_text, defScope s_Scan__put_text, [], []⟩
def hD_Scan__is_active : He.DefD := ⟨("Scan", some "is_active"), "is_active", "Scan.is_active", defArgs s_Scan__is_active, defBody s_Scan__is_active, defScope s_Scan__is_active, [], []⟩
def hD_Run____init__ : He.DefD := ⟨("Run", some "__init__"), "__init__", "Run.__init__", defArgs s_Run____init__, defBody s_Run____init__, defScope s_Run____init__, [], []⟩
def hD_Run__is_both : He.DefD := ⟨("Run", some "is_both"), "is_both", "Run.is_both", defArgs s_Run__is_both, defBody s_Run__is_both, defScope s_Run__is_both, [], []⟩
def hFn_0 : List He.DefD := [
  hD_behind_all,
  hD_behind_gap,
  hD_behind_first,
  hD_behind_sign,
  hD_is_escape,
  hD_first_plain,
  hD_strings_in,
  hD_reference_at,
  hD_decoded,
  hD_decoded_at,
  hD_sign_meant,
  hD_number_in,
  hD_sign_of,
  hD_normalised,
  hD_is_label_text,
  hD_is_label,
  hD_label_at,
  hD_target_at,
  hD_title_or_none,
  hD_destination_at]
def hFn_1 : List He.DefD := [
  hD_title_at,
  hD_enclosed_at,
  hD_behind_bare,
  hD_tag_at,
  hD_open_tag_at,
  hD_closing_tag_at,
  hD_attribute_at,
  hD_value_at,
  hD_name_at,
  hD_is_letter,
  hD_autolink_at,
  hD_begins_with_scheme,
  hD_is_address,
  hD_is_part,
  hD_run_at,
  hD_kind_of,
  hD_pair,
  hD_sort_of,
  hD_stack_of_partner,
  hD_may_pair]
def hFn_2 : List He.DefD := [
  hD_take_both,
  hD_built,
  hD_joined,
  hD_add_text,
  hD_scanned,
  hD_take_plain,
  hD_take_backslash,
  hD_take_backquotes,
  hD_code_text,
  hD_take_angle,
  hD_take_reference,
  hD_take_line_feed,
  hD_take_run,
  hD_take_bracket,
  hD_take_exclamation,
  hD_note,
  hD_take_end,
  hD_found_behind,
  hD_own_label,
  hD_check_source]
def hFn_3 : List He.DefD := [
  hD_inlines,
  hD_is_known,
  hD_is_target,
  hD__law_state,
  hD__law_draw,
  hD__law_one,
  hD__law_is_white,
  hD__law_is_mark,
  hD__law_sides,
  hD__law_may,
  hD__law_spans,
  hD__law_runs,
  hD__law_put,
  hD__law_built,
  hD__law_piece,
  hD__law_soup,
  hD__law_deep_right,
  hD__law_far_right,
  hD_law,
  hD_Bracket____init__]
def hFn_4 : List He.DefD := [
  hD_Scan____init__,
  hD_Scan__put,
  hD_Scan__put_text,
  hD_Scan__is_active,
  hD_Run____init__,
  hD_Run__is_both]
def hFn : List He.DefD := hFn_0 ++ (hFn_1 ++ (hFn_2 ++ (hFn_3 ++ (hFn_4))))
def hFa_0 : List He.Fa := [
  .glo "behind_all",
  .glo "behind_gap",
  .glo "behind_first",
  .glo "behind_sign",
  .glo "is_escape",
  .glo "first_plain",
  .glo "strings_in",
  .glo "reference_at",
  .glo "decoded",
  .glo "decoded_at",
  .glo "sign_meant",
  .glo "number_in",
  .glo "sign_of",
  .glo "normalised",
  .glo "is_label_text",
  .glo "is_label",
  .glo "label_at",
  .glo "target_at",
  .glo "title_or_none",
  .glo "destination_at"]
def hFa_1 : List He.Fa := [
  .glo "title_at",
  .glo "enclosed_at",
  .glo "behind_bare",
  .glo "tag_at",
  .glo "open_tag_at",
  .glo "closing_tag_at",
  .glo "attribute_at",
  .glo "value_at",
  .glo "name_at",
  .glo "is_letter",
  .glo "autolink_at",
  .glo "begins_with_scheme",
  .glo "is_address",
  .glo "is_part",
  .glo "run_at",
  .glo "kind_of",
  .glo "pair",
  .glo "sort_of",
  .glo "stack_of_partner",
  .glo "may_pair"]
def hFa_2 : List He.Fa := [
  .glo "take_both",
  .glo "built",
  .glo "joined",
  .glo "add_text",
  .glo "scanned",
  .glo "take_plain",
  .glo "take_backslash",
  .glo "take_backquotes",
  .glo "code_text",
  .glo "take_angle",
  .glo "take_reference",
  .glo "take_line_feed",
  .glo "take_run",
  .glo "take_bracket",
  .glo "take_exclamation",
  .glo "note",
  .glo "take_end",
  .glo "found_behind",
  .glo "own_label",
  .glo "check_source"]
def hFa_3 : List He.Fa := [
  .glo "inlines",
  .glo "is_known",
  .glo "is_target",
  .glo "_law_state",
  .glo "_law_draw",
  .glo "_law_one",
  .glo "_law_is_white",
  .glo "_law_is_mark",
  .glo "_law_sides",
  .glo "_law_may",
  .glo "_law_spans",
  .glo "_law_runs",
  .glo "_law_put",
  .glo "_law_built",
  .glo "_law_piece",
  .glo "_law_soup",
  .glo "_law_deep_right",
  .glo "_law_far_right",
  .glo "law",
  .glo "Bracket"]
def hFa_4 : List He.Fa := [
  .cls "Bracket",
  .mkr "Bracket",
  .noat "Bracket" "number",
  .noat "Bracket" "index",
  .noat "Bracket" "place",
  .noat "Bracket" "is_image",
  .glo "Scan",
  .cls "Scan",
  .mkr "Scan",
  .noat "Scan" "content",
  .noat "Scan" "known",
  .noat "Scan" "place",
  .noat "Scan" "row",
  .noat "Scan" "plain",
  .noat "Scan" "brackets",
  .noat "Scan" "noted",
  .noat "Scan" "bar",
  .noat "Scan" "strings",
  .meth "Scan" "put",
  .meth "Scan" "put_text"]
def hFa_5 : List He.Fa := [
  .meth "Scan" "is_active",
  .glo "Run",
  .cls "Run",
  .mkr "Run",
  .noat "Run" "sign",
  .noat "Run" "length",
  .noat "Run" "left",
  .noat "Run" "opens",
  .noat "Run" "closes",
  .noat "Run" "ended",
  .noat "Run" "begun",
  .meth "Run" "is_both",
  .free "abs",
  .free "all",
  .free "dict",
  .free "enumerate",
  .free "int",
  .free "isinstance",
  .free "len",
  .free "list"]
def hFa_6 : List He.Fa := [
  .free "max",
  .free "min",
  .free "ord",
  .free "range",
  .free "str",
  .free "tuple",
  .free "zip",
  .str "INLINE_WHITE" " \t\n",
  .str "PUNCTUATION" "!\"#$&'()*+,-./:;<=>?\x40[\\]^_{|}~`",
  .glo "NAMES",
  .glo "SIGN_ROWS",
  .int "LONGEST" 10,
  .int "LONGEST_LABEL" 999,
  .int "MOST_BRACKETS" 32,
  .str "BARE_ENDS" " \t\n()",
  .glo "TITLE_SIGNS",
  .str "WHITE" " \t",
  .str "LETTERS" "abcdefghijklmnopqrstuvwxyzABCDEFGHIJKLMNOPQRSTUVWXYZ",
  .str "NAME_SIGNS" "abcdefghijklmnopqrstuvwxyzABCDEFGHIJKLMNOPQRSTUVWXYZ0123456789-",
  .str "KEY_SIGNS" "abcdefghijklmnopqrstuvwxyzABCDEFGHIJKLMNOPQRSTUVWXYZ0123456789_.:-"]
def hFa_7 : List He.Fa := [
  .str "NO_BARE_SIGNS" " \t\n\"'=<>`",
  .str "SCHEME_SIGNS" "abcdefghijklmnopqrstuvwxyzABCDEFGHIJKLMNOPQRSTUVWXYZ0123456789+.-",
  .str "LOCAL_SIGNS" "abcdefghijklmnopqrstuvwxyzABCDEFGHIJKLMNOPQRSTUVWXYZ0123456789.!#$&'*+/=?^_`{|}~-",
  .str "PART_SIGNS" "abcdefghijklmnopqrstuvwxyzABCDEFGHIJKLMNOPQRSTUVWXYZ0123456789-",
  .str "ENDS" " \t\n<>",
  .int "SHORTEST_SCHEME" 2,
  .int "LONGEST_SCHEME" 32,
  .int "LONGEST_PART" 63,
  .glo "STEPS"]
def hFa : List He.Fa := hFa_0 ++ (hFa_1 ++ (hFa_2 ++ (hFa_3 ++ (hFa_4 ++ (hFa_5 ++ (hFa_6 ++ (hFa_7)))))))
def hEx_0 : HX.Bs := [
  (fun K => decide (PySem.W.kitOne K (.type "tuple") (.ref (He.ga K "Run")) = some false)),
  (fun K => He.eqO (PySem.W.findIn K (.ref (He.ga K "Run")) "__class__") (some (some (.builtin "object.__class__")))),
  (fun K => He.eqO (PySem.W.specialIn K (.builtin "object.__class__") "__get__") (some (some (.builtin "getset_descriptor.__get__")))),
  (fun K => decide (PySem.W.takesIn K (.builtin "object.__class__") = some true)),
  (fun K => decide (PySem.W.mroIn K (He.ga K "Run") (.type "object") = some true)),
  (fun K => HX.dicV K (He.ga K "NAMES") [("amp", .str "&"), ("lt", .str "<"), ("gt", .str ">"), ("quot", .str "\""), ("apos", .str "'"), ("num", .str "#"), ("ast", .str "*"), ("lowbar", .str "_"), ("grave", .str "`"), ("lsqb", .str "["), ("rsqb", .str "]"), ("lpar", .str "("), ("rpar", .str ")"), ("lcub", .str "{"), ("rcub", .str "}"), ("bsol", .str "\\"), ("excl", .str "!"), ("Tab", .str "\t"), ("NewLine", .str "\n")]),
  (fun K => HX.tupV K (He.ga K "SIGN_ROWS") [.ref (HX.itA K (He.ga K "SIGN_ROWS") 0), .ref (HX.itA K (He.ga K "SIGN_ROWS") 1), .ref (HX.itA K (He.ga K "SIGN_ROWS") 2)]),
  (fun K => HX.tupV K (HX.itA K (He.ga K "SIGN_ROWS") 0) [.int 9, .str "\t\n"]),
  (fun K => HX.tupV K (HX.itA K (He.ga K "SIGN_ROWS") 1) [.int 32, .str " !\"#$"]),
  (fun K => HX.tupV K (HX.itA K (He.ga K "SIGN_ROWS") 2) [.int 38, .str "&'()*+,-./0123456789:;<=>?@ABCDEFGHIJKLMNOPQRSTUVWXYZ[\\]^_`abcdefghijklmnopqrstuvwxyz{|}~"]),
  (fun K => HX.dicV K (He.ga K "TITLE_SIGNS") [("\"", .ref (HX.dvA K (He.ga K "TITLE_SIGNS") 0)), ("'", .ref (HX.dvA K (He.ga K "TITLE_SIGNS") 1)), ("(", .ref (HX.dvA K (He.ga K "TITLE_SIGNS") 2))]),
  (fun K => HX.tupV K (HX.dvA K (He.ga K "TITLE_SIGNS") 0) [.str "\"", .str "\""]),
  (fun K => HX.tupV K (HX.dvA K (He.ga K "TITLE_SIGNS") 1) [.str "'", .str "'"]),
  (fun K => HX.tupV K (HX.dvA K (He.ga K "TITLE_SIGNS") 2) [.str "()", .str ")"]),
  (fun K => HX.dicV K (He.ga K "STEPS") [("\\", .ref (He.ga K "take_backslash")), ("`", .ref (He.ga K "take_backquotes")), ("<", .ref (He.ga K "take_angle")), ("&", .ref (He.ga K "take_reference")), ("\n", .ref (He.ga K "take_line_feed")), ("*", .ref (He.ga K "take_run")), ("_", .ref (He.ga K "take_run")), ("[", .ref (He.ga K "take_bracket")), ("!", .ref (He.ga K "take_exclamation")), ("]", .ref (He.ga K "take_end"))])]
def hEx : HX.Bs := hEx_0
def hTs_0 : List He.Tab := [
  (fun K => (He.ga K "NAMES"), ["amp", "lt", "gt", "quot", "apos", "num", "ast", "lowbar", "grave", "lsqb", "rsqb", "lpar", "rpar", "lcub", "rcub", "bsol", "excl", "Tab", "NewLine"]),
  (fun K => (He.ga K "TITLE_SIGNS"), ["\"", "'", "("]),
  (fun K => (He.ga K "STEPS"), ["\\", "`", "<", "&", "\n", "*", "_", "[", "!", "]"])]
def hTs : List He.Tab := hTs_0
def hNames_0 : List PySem.Str := [
  "PlainmarkError",
  "NoSource",
  "NoDefinitions",
  "NoLabel",
  "INLINE_WHITE",
  "PUNCTUATION",
  "behind_all",
  "behind_gap",
  "behind_first",
  "behind_sign",
  "is_escape",
  "first_plain",
  "strings_in",
  "NAMES",
  "SIGN_ROWS",
  "LONGEST",
  "reference_at",
  "decoded",
  "decoded_at",
  "sign_meant"]
def hNames_1 : List PySem.Str := [
  "number_in",
  "sign_of",
  "LONGEST_LABEL",
  "MOST_BRACKETS",
  "BARE_ENDS",
  "TITLE_SIGNS",
  "normalised",
  "is_label_text",
  "is_label",
  "label_at",
  "target_at",
  "title_or_none",
  "destination_at",
  "title_at",
  "enclosed_at",
  "behind_bare",
  "WHITE",
  "LETTERS",
  "NAME_SIGNS",
  "KEY_SIGNS"]
def hNames_2 : List PySem.Str := [
  "NO_BARE_SIGNS",
  "tag_at",
  "open_tag_at",
  "closing_tag_at",
  "attribute_at",
  "value_at",
  "name_at",
  "is_letter",
  "SCHEME_SIGNS",
  "LOCAL_SIGNS",
  "PART_SIGNS",
  "ENDS",
  "SHORTEST_SCHEME",
  "LONGEST_SCHEME",
  "LONGEST_PART",
  "autolink_at",
  "begins_with_scheme",
  "is_address",
  "is_part",
  "Run"]
def hNames_3 : List PySem.Str := [
  "run_at",
  "kind_of",
  "pair",
  "sort_of",
  "stack_of_partner",
  "may_pair",
  "take_both",
  "built",
  "joined",
  "add_text",
  "Bracket",
  "Scan",
  "scanned",
  "take_plain",
  "take_backslash",
  "take_backquotes",
  "code_text",
  "take_angle",
  "take_reference",
  "take_line_feed"]
def hNames_4 : List PySem.Str := [
  "take_run",
  "take_bracket",
  "take_exclamation",
  "note",
  "take_end",
  "found_behind",
  "own_label",
  "STEPS",
  "check_source",
  "inlines",
  "is_known",
  "is_target",
  "_law_state",
  "_law_draw",
  "_law_one",
  "_law_is_white",
  "_law_is_mark",
  "_law_sides",
  "_law_may",
  "_law_spans"]
def hNames_5 : List PySem.Str := [
  "_law_runs",
  "_law_put",
  "_law_built",
  "_law_piece",
  "_law_soup",
  "_law_deep_right",
  "_law_far_right"]
def hNames : List PySem.Str := hNames_0 ++ (hNames_1 ++ (hNames_2 ++ (hNames_3 ++ (hNames_4 ++ (hNames_5)))))
abbrev hK : PySem.W.Hook := HX.hookH 4 hFa hFn hTs (HX.exB hEx)
def hOb (s : PySem.W.SharedT) : He.AlX := HX.obsH 4 hFa hFn hTs (HX.exB hEx) (HandSHeadRun.getT s)
theorem hOb_eq (s : PySem.W.SharedT) : hOb s = hK.obs s.abs := HX.obsH_eq (HandSHeadRun.getT_eq s)
set_option maxHeartbeats 0 in
theorem hRun_false (w : World) : HandSHeadRun.RunEq (PySem.W.OpenLaw.row PySem.Challenge.rw_plainmark_k41_whole_emphasis_of_soups) (PySem.W.view (PySem.W.OpenRow.toRowW (PySem.W.OpenLaw.row PySem.Challenge.rw_plainmark_k41_whole_emphasis_of_soups)).prog [118]) hK hOb 30000 hNames (w.withFollow "special-get-raises" false) := by
  intro os
  kernel_rfl
set_option maxHeartbeats 0 in
theorem hRun_true (w : World) : HandSHeadRun.RunEq (PySem.W.OpenLaw.row PySem.Challenge.rw_plainmark_k41_whole_emphasis_of_soups) (PySem.W.view (PySem.W.OpenRow.toRowW (PySem.W.OpenLaw.row PySem.Challenge.rw_plainmark_k41_whole_emphasis_of_soups)).prog [118]) hK hOb 30000 hNames (w.withFollow "special-get-raises" true) := by
  intro os
  kernel_rfl
theorem hRun (w : World) : HandSHeadRun.RunEq (PySem.W.OpenLaw.row PySem.Challenge.rw_plainmark_k41_whole_emphasis_of_soups) (PySem.W.view (PySem.W.OpenRow.toRowW (PySem.W.OpenLaw.row PySem.Challenge.rw_plainmark_k41_whole_emphasis_of_soups)).prog [118]) hK hOb 30000 hNames w := PySem.W.byRow2 "special-get-raises" (P := fun w => HandSHeadRun.RunEq (PySem.W.OpenLaw.row PySem.Challenge.rw_plainmark_k41_whole_emphasis_of_soups) (PySem.W.view (PySem.W.OpenRow.toRowW (PySem.W.OpenLaw.row PySem.Challenge.rw_plainmark_k41_whole_emphasis_of_soups)).prog [118]) hK hOb 30000 hNames w) hRun_false hRun_true w
set_option maxHeartbeats 4000000 in
theorem facts {l : PySem.W.OpenLaw} {w : World} {K : PySem.W.Frag} {h : Heap} {mg : Str → Option Value} {fa : Addr} (X : K.In h) (G : h.Ns mainGlobals mg) (hfa : mg "law" = some (.ref fa)) (c : HX.SaysH hFa hFn hTs (HX.exB hEx) w K)
    : ∃ fd : FuncData, (∀ (s : Shared) (v : Value), BindsTo s fd ⟨[v], []⟩ [("_law_script", v)]) ∧ ∀ base : Heap, K.In base → base.Ns mainGlobals mg → FnOk l.prog w K mg base CX0 100 fa fd ["_law_script"] (sp_law K) := by
  have d := c.t.d
  obtain ⟨fd0, F0⟩ := d.def_ 0 (d := hD_behind_all) rfl
  replace F0 : Fun K "behind_all" "behind_all" s_behind_all (He.ga K "behind_all") fd0 := HX.fun_of F0
  obtain ⟨fd1, F1⟩ := d.def_ 1 (d := hD_behind_gap) rfl
  replace F1 : Fun K "behind_gap" "behind_gap" s_behind_gap (He.ga K "behind_gap") fd1 := HX.fun_of F1
  obtain ⟨fd2, F2⟩ := d.def_ 2 (d := hD_behind_first) rfl
  replace F2 : Fun K "behind_first" "behind_first" s_behind_first (He.ga K "behind_first") fd2 := HX.fun_of F2
  obtain ⟨fd3, F3⟩ := d.def_ 3 (d := hD_behind_sign) rfl
  replace F3 : Fun K "behind_sign" "behind_sign" s_behind_sign (He.ga K "behind_sign") fd3 := HX.fun_of F3
  obtain ⟨fd4, F4⟩ := d.def_ 4 (d := hD_is_escape) rfl
  replace F4 : Fun K "is_escape" "is_escape" s_is_escape (He.ga K "is_escape") fd4 := HX.fun_of F4
  obtain ⟨fd5, F5⟩ := d.def_ 5 (d := hD_first_plain) rfl
  replace F5 : Fun K "first_plain" "first_plain" s_first_plain (He.ga K "first_plain") fd5 := HX.fun_of F5
  obtain ⟨fd6, F6⟩ := d.def_ 6 (d := hD_strings_in) rfl
  replace F6 : Fun K "strings_in" "strings_in" s_strings_in (He.ga K "strings_in") fd6 := HX.fun_of F6
  obtain ⟨fd7, F7⟩ := d.def_ 7 (d := hD_reference_at) rfl
  replace F7 : Fun K "reference_at" "reference_at" s_reference_at (He.ga K "reference_at") fd7 := HX.fun_of F7
  obtain ⟨fd8, F8⟩ := d.def_ 8 (d := hD_decoded) rfl
  replace F8 : Fun K "decoded" "decoded" s_decoded (He.ga K "decoded") fd8 := HX.fun_of F8
  obtain ⟨fd9, F9⟩ := d.def_ 9 (d := hD_decoded_at) rfl
  replace F9 : Fun K "decoded_at" "decoded_at" s_decoded_at (He.ga K "decoded_at") fd9 := HX.fun_of F9
  obtain ⟨fd10, F10⟩ := d.def_ 10 (d := hD_sign_meant) rfl
  replace F10 : Fun K "sign_meant" "sign_meant" s_sign_meant (He.ga K "sign_meant") fd10 := HX.fun_of F10
  obtain ⟨fd11, F11⟩ := d.def_ 11 (d := hD_number_in) rfl
  replace F11 : Fun K "number_in" "number_in" s_number_in (He.ga K "number_in") fd11 := HX.fun_of F11
  obtain ⟨fd12, F12⟩ := d.def_ 12 (d := hD_sign_of) rfl
  replace F12 : Fun K "sign_of" "sign_of" s_sign_of (He.ga K "sign_of") fd12 := HX.fun_of F12
  obtain ⟨fd13, F13⟩ := d.def_ 13 (d := hD_normalised) rfl
  replace F13 : Fun K "normalised" "normalised" s_normalised (He.ga K "normalised") fd13 := HX.fun_of F13
  obtain ⟨fd14, F14⟩ := d.def_ 14 (d := hD_is_label_text) rfl
  replace F14 : Fun K "is_label_text" "is_label_text" s_is_label_text (He.ga K "is_label_text") fd14 := HX.fun_of F14
  obtain ⟨fd15, F15⟩ := d.def_ 15 (d := hD_is_label) rfl
  replace F15 : Fun K "is_label" "is_label" s_is_label (He.ga K "is_label") fd15 := HX.fun_of F15
  obtain ⟨fd16, F16⟩ := d.def_ 16 (d := hD_label_at) rfl
  replace F16 : Fun K "label_at" "label_at" s_label_at (He.ga K "label_at") fd16 := HX.fun_of F16
  obtain ⟨fd17, F17⟩ := d.def_ 17 (d := hD_target_at) rfl
  replace F17 : Fun K "target_at" "target_at" s_target_at (He.ga K "target_at") fd17 := HX.fun_of F17
  obtain ⟨fd18, F18⟩ := d.def_ 18 (d := hD_title_or_none) rfl
  replace F18 : Fun K "title_or_none" "title_or_none" s_title_or_none (He.ga K "title_or_none") fd18 := HX.fun_of F18
  obtain ⟨fd19, F19⟩ := d.def_ 19 (d := hD_destination_at) rfl
  replace F19 : Fun K "destination_at" "destination_at" s_destination_at (He.ga K "destination_at") fd19 := HX.fun_of F19
  obtain ⟨fd20, F20⟩ := d.def_ 20 (d := hD_title_at) rfl
  replace F20 : Fun K "title_at" "title_at" s_title_at (He.ga K "title_at") fd20 := HX.fun_of F20
  obtain ⟨fd21, F21⟩ := d.def_ 21 (d := hD_enclosed_at) rfl
  replace F21 : Fun K "enclosed_at" "enclosed_at" s_enclosed_at (He.ga K "enclosed_at") fd21 := HX.fun_of F21
  obtain ⟨fd22, F22⟩ := d.def_ 22 (d := hD_behind_bare) rfl
  replace F22 : Fun K "behind_bare" "behind_bare" s_behind_bare (He.ga K "behind_bare") fd22 := HX.fun_of F22
  obtain ⟨fd23, F23⟩ := d.def_ 23 (d := hD_tag_at) rfl
  replace F23 : Fun K "tag_at" "tag_at" s_tag_at (He.ga K "tag_at") fd23 := HX.fun_of F23
  obtain ⟨fd24, F24⟩ := d.def_ 24 (d := hD_open_tag_at) rfl
  replace F24 : Fun K "open_tag_at" "open_tag_at" s_open_tag_at (He.ga K "open_tag_at") fd24 := HX.fun_of F24
  obtain ⟨fd25, F25⟩ := d.def_ 25 (d := hD_closing_tag_at) rfl
  replace F25 : Fun K "closing_tag_at" "closing_tag_at" s_closing_tag_at (He.ga K "closing_tag_at") fd25 := HX.fun_of F25
  obtain ⟨fd26, F26⟩ := d.def_ 26 (d := hD_attribute_at) rfl
  replace F26 : Fun K "attribute_at" "attribute_at" s_attribute_at (He.ga K "attribute_at") fd26 := HX.fun_of F26
  obtain ⟨fd27, F27⟩ := d.def_ 27 (d := hD_value_at) rfl
  replace F27 : Fun K "value_at" "value_at" s_value_at (He.ga K "value_at") fd27 := HX.fun_of F27
  obtain ⟨fd28, F28⟩ := d.def_ 28 (d := hD_name_at) rfl
  replace F28 : Fun K "name_at" "name_at" s_name_at (He.ga K "name_at") fd28 := HX.fun_of F28
  obtain ⟨fd29, F29⟩ := d.def_ 29 (d := hD_is_letter) rfl
  replace F29 : Fun K "is_letter" "is_letter" s_is_letter (He.ga K "is_letter") fd29 := HX.fun_of F29
  obtain ⟨fd30, F30⟩ := d.def_ 30 (d := hD_autolink_at) rfl
  replace F30 : Fun K "autolink_at" "autolink_at" s_autolink_at (He.ga K "autolink_at") fd30 := HX.fun_of F30
  obtain ⟨fd31, F31⟩ := d.def_ 31 (d := hD_begins_with_scheme) rfl
  replace F31 : Fun K "begins_with_scheme" "begins_with_scheme" s_begins_with_scheme (He.ga K "begins_with_scheme") fd31 := HX.fun_of F31
  obtain ⟨fd32, F32⟩ := d.def_ 32 (d := hD_is_address) rfl
  replace F32 : Fun K "is_address" "is_address" s_is_address (He.ga K "is_address") fd32 := HX.fun_of F32
  obtain ⟨fd33, F33⟩ := d.def_ 33 (d := hD_is_part) rfl
  replace F33 : Fun K "is_part" "is_part" s_is_part (He.ga K "is_part") fd33 := HX.fun_of F33
  obtain ⟨fd34, F34⟩ := d.def_ 34 (d := hD_run_at) rfl
  replace F34 : Fun K "run_at" "run_at" s_run_at (He.ga K "run_at") fd34 := HX.fun_of F34
  obtain ⟨fd35, F35⟩ := d.def_ 35 (d := hD_kind_of) rfl
  replace F35 : Fun K "kind_of" "kind_of" s_kind_of (He.ga K "kind_of") fd35 := HX.fun_of F35
  obtain ⟨fd36, F36⟩ := d.def_ 36 (d := hD_pair) rfl
  replace F36 : Fun K "pair" "pair" s_pair (He.ga K "pair") fd36 := HX.fun_of F36
  obtain ⟨fd37, F37⟩ := d.def_ 37 (d := hD_sort_of) rfl
  replace F37 : Fun K "sort_of" "sort_of" s_sort_of (He.ga K "sort_of") fd37 := HX.fun_of F37
  obtain ⟨fd38, F38⟩ := d.def_ 38 (d := hD_stack_of_partner) rfl
  replace F38 : Fun K "stack_of_partner" "stack_of_partner" s_stack_of_partner (He.ga K "stack_of_partner") fd38 := HX.fun_of F38
  obtain ⟨fd39, F39⟩ := d.def_ 39 (d := hD_may_pair) rfl
  replace F39 : Fun K "may_pair" "may_pair" s_may_pair (He.ga K "may_pair") fd39 := HX.fun_of F39
  obtain ⟨fd40, F40⟩ := d.def_ 40 (d := hD_take_both) rfl
  replace F40 : Fun K "take_both" "take_both" s_take_both (He.ga K "take_both") fd40 := HX.fun_of F40
  obtain ⟨fd41, F41⟩ := d.def_ 41 (d := hD_built) rfl
  replace F41 : Fun K "built" "built" s_built (He.ga K "built") fd41 := HX.fun_of F41
  obtain ⟨fd42, F42⟩ := d.def_ 42 (d := hD_joined) rfl
  replace F42 : Fun K "joined" "joined" s_joined (He.ga K "joined") fd42 := HX.fun_of F42
  obtain ⟨fd43, F43⟩ := d.def_ 43 (d := hD_add_text) rfl
  replace F43 : Fun K "add_text" "add_text" s_add_text (He.ga K "add_text") fd43 := HX.fun_of F43
  obtain ⟨fd44, F44⟩ := d.def_ 44 (d := hD_scanned) rfl
  replace F44 : Fun K "scanned" "scanned" s_scanned (He.ga K "scanned") fd44 := HX.fun_of F44
  obtain ⟨fd45, F45⟩ := d.def_ 45 (d := hD_take_plain) rfl
  replace F45 : Fun K "take_plain" "take_plain" s_take_plain (He.ga K "take_plain") fd45 := HX.fun_of F45
  obtain ⟨fd46, F46⟩ := d.def_ 46 (d := hD_take_backslash) rfl
  replace F46 : Fun K "take_backslash" "take_backslash" s_take_backslash (He.ga K "take_backslash") fd46 := HX.fun_of F46
  obtain ⟨fd47, F47⟩ := d.def_ 47 (d := hD_take_backquotes) rfl
  replace F47 : Fun K "take_backquotes" "take_backquotes" s_take_backquotes (He.ga K "take_backquotes") fd47 := HX.fun_of F47
  obtain ⟨fd48, F48⟩ := d.def_ 48 (d := hD_code_text) rfl
  replace F48 : Fun K "code_text" "code_text" s_code_text (He.ga K "code_text") fd48 := HX.fun_of F48
  obtain ⟨fd49, F49⟩ := d.def_ 49 (d := hD_take_angle) rfl
  replace F49 : Fun K "take_angle" "take_angle" s_take_angle (He.ga K "take_angle") fd49 := HX.fun_of F49
  obtain ⟨fd50, F50⟩ := d.def_ 50 (d := hD_take_reference) rfl
  replace F50 : Fun K "take_reference" "take_reference" s_take_reference (He.ga K "take_reference") fd50 := HX.fun_of F50
  obtain ⟨fd51, F51⟩ := d.def_ 51 (d := hD_take_line_feed) rfl
  replace F51 : Fun K "take_line_feed" "take_line_feed" s_take_line_feed (He.ga K "take_line_feed") fd51 := HX.fun_of F51
  obtain ⟨fd52, F52⟩ := d.def_ 52 (d := hD_take_run) rfl
  replace F52 : Fun K "take_run" "take_run" s_take_run (He.ga K "take_run") fd52 := HX.fun_of F52
  obtain ⟨fd53, F53⟩ := d.def_ 53 (d := hD_take_bracket) rfl
  replace F53 : Fun K "take_bracket" "take_bracket" s_take_bracket (He.ga K "take_bracket") fd53 := HX.fun_of F53
  obtain ⟨fd54, F54⟩ := d.def_ 54 (d := hD_take_exclamation) rfl
  replace F54 : Fun K "take_exclamation" "take_exclamation" s_take_exclamation (He.ga K "take_exclamation") fd54 := HX.fun_of F54
  obtain ⟨fd55, F55⟩ := d.def_ 55 (d := hD_note) rfl
  replace F55 : Fun K "note" "note" s_note (He.ga K "note") fd55 := HX.fun_of F55
  obtain ⟨fd56, F56⟩ := d.def_ 56 (d := hD_take_end) rfl
  replace F56 : Fun K "take_end" "take_end" s_take_end (He.ga K "take_end") fd56 := HX.fun_of F56
  obtain ⟨fd57, F57⟩ := d.def_ 57 (d := hD_found_behind) rfl
  replace F57 : Fun K "found_behind" "found_behind" s_found_behind (He.ga K "found_behind") fd57 := HX.fun_of F57
  obtain ⟨fd58, F58⟩ := d.def_ 58 (d := hD_own_label) rfl
  replace F58 : Fun K "own_label" "own_label" s_own_label (He.ga K "own_label") fd58 := HX.fun_of F58
  obtain ⟨fd59, F59⟩ := d.def_ 59 (d := hD_check_source) rfl
  replace F59 : Fun K "check_source" "check_source" s_check_source (He.ga K "check_source") fd59 := HX.fun_of F59
  obtain ⟨fd60, F60⟩ := d.def_ 60 (d := hD_inlines) rfl
  replace F60 : FunD K "inlines" "inlines" (defArgs s_inlines) (defBody s_inlines) (defScope s_inlines) [.non] [] (He.ga K "inlines") fd60 := F60
  obtain ⟨fd61, F61⟩ := d.def_ 61 (d := hD_is_known) rfl
  replace F61 : Fun K "is_known" "is_known" s_is_known (He.ga K "is_known") fd61 := HX.fun_of F61
  obtain ⟨fd62, F62⟩ := d.def_ 62 (d := hD_is_target) rfl
  replace F62 : Fun K "is_target" "is_target" s_is_target (He.ga K "is_target") fd62 := HX.fun_of F62
  obtain ⟨fd63, F63⟩ := d.def_ 63 (d := hD__law_state) rfl
  replace F63 : Fun K "_law_state" "_law_state" s__law_state (He.ga K "_law_state") fd63 := HX.fun_of F63
  obtain ⟨fd64, F64⟩ := d.def_ 64 (d := hD__law_draw) rfl
  replace F64 : Fun K "_law_draw" "_law_draw" s__law_draw (He.ga K "_law_draw") fd64 := HX.fun_of F64
  obtain ⟨fd65, F65⟩ := d.def_ 65 (d := hD__law_one) rfl
  replace F65 : Fun K "_law_one" "_law_one" s__law_one (He.ga K "_law_one") fd65 := HX.fun_of F65
  obtain ⟨fd66, F66⟩ := d.def_ 66 (d := hD__law_is_white) rfl
  replace F66 : Fun K "_law_is_white" "_law_is_white" s__law_is_white (He.ga K "_law_is_white") fd66 := HX.fun_of F66
  obtain ⟨fd67, F67⟩ := d.def_ 67 (d := hD__law_is_mark) rfl
  replace F67 : Fun K "_law_is_mark" "_law_is_mark" s__law_is_mark (He.ga K "_law_is_mark") fd67 := HX.fun_of F67
  obtain ⟨fd68, F68⟩ := d.def_ 68 (d := hD__law_sides) rfl
  replace F68 : Fun K "_law_sides" "_law_sides" s__law_sides (He.ga K "_law_sides") fd68 := HX.fun_of F68
  obtain ⟨fd69, F69⟩ := d.def_ 69 (d := hD__law_may) rfl
  replace F69 : Fun K "_law_may" "_law_may" s__law_may (He.ga K "_law_may") fd69 := HX.fun_of F69
  obtain ⟨fd70, F70⟩ := d.def_ 70 (d := hD__law_spans) rfl
  replace F70 : Fun K "_law_spans" "_law_spans" s__law_spans (He.ga K "_law_spans") fd70 := HX.fun_of F70
  obtain ⟨fd71, F71⟩ := d.def_ 71 (d := hD__law_runs) rfl
  replace F71 : Fun K "_law_runs" "_law_runs" s__law_runs (He.ga K "_law_runs") fd71 := HX.fun_of F71
  obtain ⟨fd72, F72⟩ := d.def_ 72 (d := hD__law_put) rfl
  replace F72 : Fun K "_law_put" "_law_put" s__law_put (He.ga K "_law_put") fd72 := HX.fun_of F72
  obtain ⟨fd73, F73⟩ := d.def_ 73 (d := hD__law_built) rfl
  replace F73 : Fun K "_law_built" "_law_built" s__law_built (He.ga K "_law_built") fd73 := HX.fun_of F73
  obtain ⟨fd74, F74⟩ := d.def_ 74 (d := hD__law_piece) rfl
  replace F74 : Fun K "_law_piece" "_law_piece" s__law_piece (He.ga K "_law_piece") fd74 := HX.fun_of F74
  obtain ⟨fd75, F75⟩ := d.def_ 75 (d := hD__law_soup) rfl
  replace F75 : Fun K "_law_soup" "_law_soup" s__law_soup (He.ga K "_law_soup") fd75 := HX.fun_of F75
  obtain ⟨fd76, F76⟩ := d.def_ 76 (d := hD__law_deep_right) rfl
  replace F76 : Fun K "_law_deep_right" "_law_deep_right" s__law_deep_right (He.ga K "_law_deep_right") fd76 := HX.fun_of F76
  obtain ⟨fd77, F77⟩ := d.def_ 77 (d := hD__law_far_right) rfl
  replace F77 : Fun K "_law_far_right" "_law_far_right" s__law_far_right (He.ga K "_law_far_right") fd77 := HX.fun_of F77
  obtain ⟨fd78, F78⟩ := d.def_ 78 (d := hD_law) rfl
  replace F78 : Fun K "law" "law" s_law (He.ga K "law") fd78 := HX.fun_of F78
  obtain ⟨fd79, F79⟩ := d.def_ 79 (d := hD_Bracket____init__) rfl
  replace F79 : Fun K "__init__" "Bracket.__init__" s_Bracket____init__ (He.ma K (He.ga K "Bracket") "__init__") fd79 := HX.fun_of F79
  obtain ⟨fd80, F80⟩ := d.def_ 80 (d := hD_Scan____init__) rfl
  replace F80 : Fun K "__init__" "Scan.__init__" s_Scan____init__ (He.ma K (He.ga K "Scan") "__init__") fd80 := HX.fun_of F80
  obtain ⟨fd81, F81⟩ := d.def_ 81 (d := hD_Scan__put) rfl
  replace F81 : Fun K "put" "Scan.put" s_Scan__put (He.ma K (He.ga K "Scan") "put") fd81 := HX.fun_of F81
  obtain ⟨fd82, F82⟩ := d.def_ 82 (d := hD_Scan__put_text) rfl
  replace F82 : Fun K "put_text" "Scan.put_text" s_Scan__put_text (He.ma K (He.ga K "Scan") "put_text") fd82 := HX.fun_of F82
  obtain ⟨fd83, F83⟩ := d.def_ 83 (d := hD_Scan__is_active) rfl
  replace F83 : Fun K "is_active" "Scan.is_active" s_Scan__is_active (He.ma K (He.ga K "Scan") "is_active") fd83 := HX.fun_of F83
  obtain ⟨fd84, F84⟩ := d.def_ 84 (d := hD_Run____init__) rfl
  replace F84 : Fun K "__init__" "Run.__init__" s_Run____init__ (He.ma K (He.ga K "Run") "__init__") fd84 := HX.fun_of F84
  obtain ⟨fd85, F85⟩ := d.def_ 85 (d := hD_Run__is_both) rfl
  replace F85 : Fun K "is_both" "Run.is_both" s_Run__is_both (He.ma K (He.ga K "Run") "is_both") fd85 := HX.fun_of F85
  have b0 := F0.binds (ps := ["signs", "text", "place"]) fun _ _ _ _ _ _ us hl => match us, hl with | [_, _, _], _ => rfl
  have b1 := F1.binds (ps := ["text", "place"]) fun _ _ _ _ _ _ us hl => match us, hl with | [_, _], _ => rfl
  have b2 := F2.binds (ps := ["words", "text", "place"]) fun _ _ _ _ _ _ us hl => match us, hl with | [_, _, _], _ => rfl
  have b3 := F3.binds (ps := ["sign", "text", "place"]) fun _ _ _ _ _ _ us hl => match us, hl with | [_, _, _], _ => rfl
  have b4 := F4.binds (ps := ["text", "place"]) fun _ _ _ _ _ _ us hl => match us, hl with | [_, _], _ => rfl
  have b5 := F5.binds (ps := ["signs", "text", "place"]) fun _ _ _ _ _ _ us hl => match us, hl with | [_, _, _], _ => rfl
  have b6 := F6.binds (ps := ["text"]) fun _ _ _ _ _ _ us hl => match us, hl with | [_], _ => rfl
  have b7 := F7.binds (ps := ["text", "place"]) fun _ _ _ _ _ _ us hl => match us, hl with | [_, _], _ => rfl
  have b8 := F8.binds (ps := ["text"]) fun _ _ _ _ _ _ us hl => match us, hl with | [_], _ => rfl
  have b9 := F9.binds (ps := ["text", "place"]) fun _ _ _ _ _ _ us hl => match us, hl with | [_, _], _ => rfl
  have b10 := F10.binds (ps := ["words"]) fun _ _ _ _ _ _ us hl => match us, hl with | [_], _ => rfl
  have b11 := F11.binds (ps := ["digits", "signs", "base"]) fun _ _ _ _ _ _ us hl => match us, hl with | [_, _, _], _ => rfl
  have b12 := F12.binds (ps := ["number"]) fun _ _ _ _ _ _ us hl => match us, hl with | [_], _ => rfl
  have b13 := F13.binds (ps := ["text"]) fun _ _ _ _ _ _ us hl => match us, hl with | [_], _ => rfl
  have b14 := F14.binds (ps := ["thing"]) fun _ _ _ _ _ _ us hl => match us, hl with | [_], _ => rfl
  have b15 := F15.binds (ps := ["thing"]) fun _ _ _ _ _ _ us hl => match us, hl with | [_], _ => rfl
  have b16 := F16.binds (ps := ["text", "place"]) fun _ _ _ _ _ _ us hl => match us, hl with | [_, _], _ => rfl
  have b17 := F17.binds (ps := ["text", "place"]) fun _ _ _ _ _ _ us hl => match us, hl with | [_, _], _ => rfl
  have b18 := F18.binds (ps := ["text", "place"]) fun _ _ _ _ _ _ us hl => match us, hl with | [_, _], _ => rfl
  have b19 := F19.binds (ps := ["text", "place"]) fun _ _ _ _ _ _ us hl => match us, hl with | [_, _], _ => rfl
  have b20 := F20.binds (ps := ["text", "place"]) fun _ _ _ _ _ _ us hl => match us, hl with | [_, _], _ => rfl
  have b21 := F21.binds (ps := ["barred", "closing", "text", "place"]) fun _ _ _ _ _ _ us hl => match us, hl with | [_, _, _, _], _ => rfl
  have b22 := F22.binds (ps := ["text", "place"]) fun _ _ _ _ _ _ us hl => match us, hl with | [_, _], _ => rfl
  have b23 := F23.binds (ps := ["text", "place"]) fun _ _ _ _ _ _ us hl => match us, hl with | [_, _], _ => rfl
  have b24 := F24.binds (ps := ["text", "place"]) fun _ _ _ _ _ _ us hl => match us, hl with | [_, _], _ => rfl
  have b25 := F25.binds (ps := ["text", "place"]) fun _ _ _ _ _ _ us hl => match us, hl with | [_, _], _ => rfl
  have b26 := F26.binds (ps := ["text", "place"]) fun _ _ _ _ _ _ us hl => match us, hl with | [_, _], _ => rfl
  have b27 := F27.binds (ps := ["text", "place"]) fun _ _ _ _ _ _ us hl => match us, hl with | [_, _], _ => rfl
  have b28 := F28.binds (ps := ["text", "place"]) fun _ _ _ _ _ _ us hl => match us, hl with | [_, _], _ => rfl
  have b29 := F29.binds (ps := ["text", "place"]) fun _ _ _ _ _ _ us hl => match us, hl with | [_, _], _ => rfl
  have b30 := F30.binds (ps := ["text", "place"]) fun _ _ _ _ _ _ us hl => match us, hl with | [_, _], _ => rfl
  have b31 := F31.binds (ps := ["words"]) fun _ _ _ _ _ _ us hl => match us, hl with | [_], _ => rfl
  have b32 := F32.binds (ps := ["words"]) fun _ _ _ _ _ _ us hl => match us, hl with | [_], _ => rfl
  have b33 := F33.binds (ps := ["words"]) fun _ _ _ _ _ _ us hl => match us, hl with | [_], _ => rfl
  have b34 := F34.binds (ps := ["content", "place"]) fun _ _ _ _ _ _ us hl => match us, hl with | [_, _], _ => rfl
  have b35 := F35.binds (ps := ["sign"]) fun _ _ _ _ _ _ us hl => match us, hl with | [_], _ => rfl
  have b36 := F36.binds (ps := ["runs"]) fun _ _ _ _ _ _ us hl => match us, hl with | [_], _ => rfl
  have b37 := F37.binds (ps := ["run"]) fun _ _ _ _ _ _ us hl => match us, hl with | [_], _ => rfl
  have b38 := F38.binds (ps := ["run", "stacks"]) fun _ _ _ _ _ _ us hl => match us, hl with | [_, _], _ => rfl
  have b39 := F39.binds (ps := ["sort", "other"]) fun _ _ _ _ _ _ us hl => match us, hl with | [_, _], _ => rfl
  have b40 := F40.binds (ps := ["partner", "run"]) fun _ _ _ _ _ _ us hl => match us, hl with | [_, _], _ => rfl
  have b41 := F41.binds (ps := ["row"]) fun _ _ _ _ _ _ us hl => match us, hl with | [_], _ => rfl
  have b42 := F42.binds (ps := ["row"]) fun _ _ _ _ _ _ us hl => match us, hl with | [_], _ => rfl
  have b43 := F43.binds (ps := ["texts", "made"]) fun _ _ _ _ _ _ us hl => match us, hl with | [_, _], _ => rfl
  have b44 := F44.binds (ps := ["content", "known"]) fun _ _ _ _ _ _ us hl => match us, hl with | [_, _], _ => rfl
  have b45 := F45.binds (ps := ["scan"]) fun _ _ _ _ _ _ us hl => match us, hl with | [_], _ => rfl
  have b46 := F46.binds (ps := ["scan"]) fun _ _ _ _ _ _ us hl => match us, hl with | [_], _ => rfl
  have b47 := F47.binds (ps := ["scan"]) fun _ _ _ _ _ _ us hl => match us, hl with | [_], _ => rfl
  have b48 := F48.binds (ps := ["words"]) fun _ _ _ _ _ _ us hl => match us, hl with | [_], _ => rfl
  have b49 := F49.binds (ps := ["scan"]) fun _ _ _ _ _ _ us hl => match us, hl with | [_], _ => rfl
  have b50 := F50.binds (ps := ["scan"]) fun _ _ _ _ _ _ us hl => match us, hl with | [_], _ => rfl
  have b51 := F51.binds (ps := ["scan"]) fun _ _ _ _ _ _ us hl => match us, hl with | [_], _ => rfl
  have b52 := F52.binds (ps := ["scan"]) fun _ _ _ _ _ _ us hl => match us, hl with | [_], _ => rfl
  have b53 := F53.binds (ps := ["scan"]) fun _ _ _ _ _ _ us hl => match us, hl with | [_], _ => rfl
  have b54 := F54.binds (ps := ["scan"]) fun _ _ _ _ _ _ us hl => match us, hl with | [_], _ => rfl
  have b55 := F55.binds (ps := ["scan", "words", "is_image"]) fun _ _ _ _ _ _ us hl => match us, hl with | [_, _, _], _ => rfl
  have b56 := F56.binds (ps := ["scan"]) fun _ _ _ _ _ _ us hl => match us, hl with | [_], _ => rfl
  have b57 := F57.binds (ps := ["scan", "bracket"]) fun _ _ _ _ _ _ us hl => match us, hl with | [_, _], _ => rfl
  have b58 := F58.binds (ps := ["scan", "bracket"]) fun _ _ _ _ _ _ us hl => match us, hl with | [_, _], _ => rfl
  have b59 := F59.binds (ps := ["text"]) fun _ _ _ _ _ _ us hl => match us, hl with | [_], _ => rfl
  have b60 := fund_binds (ps := ["content", "known"]) F60 1 fun _ _ _ _ _ _ _ us its hu hi => match us, its, hu, hi with | [_], [_], _, _ => ⟨_, rfl, rfl⟩
  have b61 := F61.binds (ps := ["thing"]) fun _ _ _ _ _ _ us hl => match us, hl with | [_], _ => rfl
  have b62 := F62.binds (ps := ["thing"]) fun _ _ _ _ _ _ us hl => match us, hl with | [_], _ => rfl
  have b63 := F63.binds (ps := ["_law_script", "_law_k"]) fun _ _ _ _ _ _ us hl => match us, hl with | [_, _], _ => rfl
  have b64 := F64.binds (ps := ["_law_well", "_law_many"]) fun _ _ _ _ _ _ us hl => match us, hl with | [_, _], _ => rfl
  have b65 := F65.binds (ps := ["_law_well", "_law_some"]) fun _ _ _ _ _ _ us hl => match us, hl with | [_, _], _ => rfl
  have b66 := F66.binds (ps := ["_law_sign"]) fun _ _ _ _ _ _ us hl => match us, hl with | [_], _ => rfl
  have b67 := F67.binds (ps := ["_law_sign"]) fun _ _ _ _ _ _ us hl => match us, hl with | [_], _ => rfl
  have b68 := F68.binds (ps := ["_law_text", "_law_start", "_law_end"]) fun _ _ _ _ _ _ us hl => match us, hl with | [_, _, _], _ => rfl
  have b69 := F69.binds (ps := ["_law_one_here", "_law_other"]) fun _ _ _ _ _ _ us hl => match us, hl with | [_, _], _ => rfl
  have b70 := F70.binds (ps := ["_law_runs_here"]) fun _ _ _ _ _ _ us hl => match us, hl with | [_], _ => rfl
  have b71 := F71.binds (ps := ["_law_text", "_law_pieces"]) fun _ _ _ _ _ _ us hl => match us, hl with | [_, _], _ => rfl
  have b72 := F72.binds (ps := ["_law_row", "_law_said"]) fun _ _ _ _ _ _ us hl => match us, hl with | [_, _], _ => rfl
  have b73 := F73.binds (ps := ["_law_text", "_law_pieces", "_law_marks"]) fun _ _ _ _ _ _ us hl => match us, hl with | [_, _, _], _ => rfl
  have b74 := F74.binds (ps := ["_law_well", "_law_last", "_law_run"]) fun _ _ _ _ _ _ us hl => match us, hl with | [_, _, _], _ => rfl
  have b75 := F75.binds (ps := ["_law_well"]) fun _ _ _ _ _ _ us hl => match us, hl with | [_], _ => rfl
  have b76 := F76.binds (ps := ["_law_many"]) fun _ _ _ _ _ _ us hl => match us, hl with | [_], _ => rfl
  have b77 := F77.binds (ps := ["_law_many"]) fun _ _ _ _ _ _ us hl => match us, hl with | [_], _ => rfl
  have b79 := F79.binds (ps := ["self", "number", "index", "place", "is_image"]) fun _ _ _ _ _ _ us hl => match us, hl with | [_, _, _, _, _], _ => rfl
  have b80 := F80.binds (ps := ["self", "content", "known"]) fun _ _ _ _ _ _ us hl => match us, hl with | [_, _, _], _ => rfl
  have b81 := F81.binds (ps := ["self", "one", "end"]) fun _ _ _ _ _ _ us hl => match us, hl with | [_, _, _], _ => rfl
  have b82 := F82.binds (ps := ["self", "words"]) fun _ _ _ _ _ _ us hl => match us, hl with | [_, _], _ => rfl
  have b83 := F83.binds (ps := ["self", "bracket"]) fun _ _ _ _ _ _ us hl => match us, hl with | [_, _], _ => rfl
  have b84 := F84.binds (ps := ["self", "sign", "length", "opens", "closes"]) fun _ _ _ _ _ _ us hl => match us, hl with | [_, _, _, _, _], _ => rfl
  have b85 := F85.binds (ps := ["self"]) fun _ _ _ _ _ _ us hl => match us, hl with | [_], _ => rfl
  obtain ⟨t_INLINE_WHITE, q_INLINE_WHITE⟩ := He.str_ok X G (d.fact 127 (f := .str "INLINE_WHITE" " \t\n") rfl)
  obtain ⟨t_PUNCTUATION, q_PUNCTUATION⟩ := He.str_ok X G (d.fact 128 (f := .str "PUNCTUATION" "!\"#$&'()*+,-./:;<=>?\x40[\\]^_{|}~`") rfl)
  obtain ⟨o_SIGN_ROWS, n_SIGN_ROWS, l_SIGN_ROWS, w_SIGN_ROWS, L_SIGN_ROWS, h_SIGN_ROWS_0⟩ := HX.tupV_ok (HX.more_at c.more 6 (b := fun K => HX.tupV K (He.ga K "SIGN_ROWS") [.ref (HX.itA K (He.ga K "SIGN_ROWS") 0), .ref (HX.itA K (He.ga K "SIGN_ROWS") 1), .ref (HX.itA K (He.ga K "SIGN_ROWS") 2)]) rfl)
  obtain ⟨l_SIGN_ROWS, rfl, h_SIGN_ROWS_1⟩ := HX.v_ref h_SIGN_ROWS_0
  obtain ⟨l_SIGN_ROWS, rfl, h_SIGN_ROWS_2⟩ := HX.v_ref h_SIGN_ROWS_1
  obtain ⟨l_SIGN_ROWS, rfl, h_SIGN_ROWS_3⟩ := HX.v_ref h_SIGN_ROWS_2
  obtain rfl := HX.v_nil h_SIGN_ROWS_3
  obtain ⟨o_SIGN_ROWS_0, n_SIGN_ROWS_0, l_SIGN_ROWS_0, w_SIGN_ROWS_0, L_SIGN_ROWS_0, h_SIGN_ROWS_0_0⟩ := HX.tupV_ok (HX.more_at c.more 7 (b := fun K => HX.tupV K (HX.itA K (He.ga K "SIGN_ROWS") 0) [.int 9, .str "\t\n"]) rfl)
  obtain ⟨u_SIGN_ROWS_0_0, l_SIGN_ROWS_0, rfl, h_SIGN_ROWS_0_1⟩ := HX.v_int h_SIGN_ROWS_0_0
  obtain ⟨u_SIGN_ROWS_0_1, l_SIGN_ROWS_0, rfl, h_SIGN_ROWS_0_2⟩ := HX.v_str h_SIGN_ROWS_0_1
  obtain rfl := HX.v_nil h_SIGN_ROWS_0_2
  obtain ⟨o_SIGN_ROWS_1, n_SIGN_ROWS_1, l_SIGN_ROWS_1, w_SIGN_ROWS_1, L_SIGN_ROWS_1, h_SIGN_ROWS_1_0⟩ := HX.tupV_ok (HX.more_at c.more 8 (b := fun K => HX.tupV K (HX.itA K (He.ga K "SIGN_ROWS") 1) [.int 32, .str " !\"#$"]) rfl)
  obtain ⟨u_SIGN_ROWS_1_0, l_SIGN_ROWS_1, rfl, h_SIGN_ROWS_1_1⟩ := HX.v_int h_SIGN_ROWS_1_0
  obtain ⟨u_SIGN_ROWS_1_1, l_SIGN_ROWS_1, rfl, h_SIGN_ROWS_1_2⟩ := HX.v_str h_SIGN_ROWS_1_1
  obtain rfl := HX.v_nil h_SIGN_ROWS_1_2
  obtain ⟨o_SIGN_ROWS_2, n_SIGN_ROWS_2, l_SIGN_ROWS_2, w_SIGN_ROWS_2, L_SIGN_ROWS_2, h_SIGN_ROWS_2_0⟩ := HX.tupV_ok (HX.more_at c.more 9 (b := fun K => HX.tupV K (HX.itA K (He.ga K "SIGN_ROWS") 2) [.int 38, .str "&'()*+,-./0123456789:;<=>?@ABCDEFGHIJKLMNOPQRSTUVWXYZ[\\]^_`abcdefghijklmnopqrstuvwxyz{|}~"]) rfl)
  obtain ⟨u_SIGN_ROWS_2_0, l_SIGN_ROWS_2, rfl, h_SIGN_ROWS_2_1⟩ := HX.v_int h_SIGN_ROWS_2_0
  obtain ⟨u_SIGN_ROWS_2_1, l_SIGN_ROWS_2, rfl, h_SIGN_ROWS_2_2⟩ := HX.v_str h_SIGN_ROWS_2_1
  obtain rfl := HX.v_nil h_SIGN_ROWS_2_2
  obtain ⟨t_LONGEST, q_LONGEST⟩ := He.int_ok X G (d.fact 131 (f := .int "LONGEST" 10) rfl)
  obtain ⟨t_LONGEST_LABEL, q_LONGEST_LABEL⟩ := He.int_ok X G (d.fact 132 (f := .int "LONGEST_LABEL" 999) rfl)
  obtain ⟨t_MOST_BRACKETS, q_MOST_BRACKETS⟩ := He.int_ok X G (d.fact 133 (f := .int "MOST_BRACKETS" 32) rfl)
  obtain ⟨t_BARE_ENDS, q_BARE_ENDS⟩ := He.str_ok X G (d.fact 134 (f := .str "BARE_ENDS" " \t\n()") rfl)
  obtain ⟨o_TITLE_SIGNS_0, n_TITLE_SIGNS_0, l_TITLE_SIGNS_0, w_TITLE_SIGNS_0, L_TITLE_SIGNS_0, h_TITLE_SIGNS_0_0⟩ := HX.tupV_ok (HX.more_at c.more 11 (b := fun K => HX.tupV K (HX.dvA K (He.ga K "TITLE_SIGNS") 0) [.str "\"", .str "\""]) rfl)
  obtain ⟨u_TITLE_SIGNS_0_0, l_TITLE_SIGNS_0, rfl, h_TITLE_SIGNS_0_1⟩ := HX.v_str h_TITLE_SIGNS_0_0
  obtain ⟨u_TITLE_SIGNS_0_1, l_TITLE_SIGNS_0, rfl, h_TITLE_SIGNS_0_2⟩ := HX.v_str h_TITLE_SIGNS_0_1
  obtain rfl := HX.v_nil h_TITLE_SIGNS_0_2
  obtain ⟨o_TITLE_SIGNS_1, n_TITLE_SIGNS_1, l_TITLE_SIGNS_1, w_TITLE_SIGNS_1, L_TITLE_SIGNS_1, h_TITLE_SIGNS_1_0⟩ := HX.tupV_ok (HX.more_at c.more 12 (b := fun K => HX.tupV K (HX.dvA K (He.ga K "TITLE_SIGNS") 1) [.str "'", .str "'"]) rfl)
  obtain ⟨u_TITLE_SIGNS_1_0, l_TITLE_SIGNS_1, rfl, h_TITLE_SIGNS_1_1⟩ := HX.v_str h_TITLE_SIGNS_1_0
  obtain ⟨u_TITLE_SIGNS_1_1, l_TITLE_SIGNS_1, rfl, h_TITLE_SIGNS_1_2⟩ := HX.v_str h_TITLE_SIGNS_1_1
  obtain rfl := HX.v_nil h_TITLE_SIGNS_1_2
  obtain ⟨o_TITLE_SIGNS_2, n_TITLE_SIGNS_2, l_TITLE_SIGNS_2, w_TITLE_SIGNS_2, L_TITLE_SIGNS_2, h_TITLE_SIGNS_2_0⟩ := HX.tupV_ok (HX.more_at c.more 13 (b := fun K => HX.tupV K (HX.dvA K (He.ga K "TITLE_SIGNS") 2) [.str "()", .str ")"]) rfl)
  obtain ⟨u_TITLE_SIGNS_2_0, l_TITLE_SIGNS_2, rfl, h_TITLE_SIGNS_2_1⟩ := HX.v_str h_TITLE_SIGNS_2_0
  obtain ⟨u_TITLE_SIGNS_2_1, l_TITLE_SIGNS_2, rfl, h_TITLE_SIGNS_2_2⟩ := HX.v_str h_TITLE_SIGNS_2_1
  obtain rfl := HX.v_nil h_TITLE_SIGNS_2_2
  obtain ⟨t_WHITE, q_WHITE⟩ := He.str_ok X G (d.fact 136 (f := .str "WHITE" " \t") rfl)
  obtain ⟨t_LETTERS, q_LETTERS⟩ := He.str_ok X G (d.fact 137 (f := .str "LETTERS" "abcdefghijklmnopqrstuvwxyzABCDEFGHIJKLMNOPQRSTUVWXYZ") rfl)
  obtain ⟨t_NAME_SIGNS, q_NAME_SIGNS⟩ := He.str_ok X G (d.fact 138 (f := .str "NAME_SIGNS" "abcdefghijklmnopqrstuvwxyzABCDEFGHIJKLMNOPQRSTUVWXYZ0123456789-") rfl)
  obtain ⟨t_KEY_SIGNS, q_KEY_SIGNS⟩ := He.str_ok X G (d.fact 139 (f := .str "KEY_SIGNS" "abcdefghijklmnopqrstuvwxyzABCDEFGHIJKLMNOPQRSTUVWXYZ0123456789_.:-") rfl)
  obtain ⟨t_NO_BARE_SIGNS, q_NO_BARE_SIGNS⟩ := He.str_ok X G (d.fact 140 (f := .str "NO_BARE_SIGNS" " \t\n\"'=<>`") rfl)
  obtain ⟨t_SCHEME_SIGNS, q_SCHEME_SIGNS⟩ := He.str_ok X G (d.fact 141 (f := .str "SCHEME_SIGNS" "abcdefghijklmnopqrstuvwxyzABCDEFGHIJKLMNOPQRSTUVWXYZ0123456789+.-") rfl)
  obtain ⟨t_LOCAL_SIGNS, q_LOCAL_SIGNS⟩ := He.str_ok X G (d.fact 142 (f := .str "LOCAL_SIGNS" "abcdefghijklmnopqrstuvwxyzABCDEFGHIJKLMNOPQRSTUVWXYZ0123456789.!#$&'*+/=?^_`{|}~-") rfl)
  obtain ⟨t_PART_SIGNS, q_PART_SIGNS⟩ := He.str_ok X G (d.fact 143 (f := .str "PART_SIGNS" "abcdefghijklmnopqrstuvwxyzABCDEFGHIJKLMNOPQRSTUVWXYZ0123456789-") rfl)
  obtain ⟨t_ENDS, q_ENDS⟩ := He.str_ok X G (d.fact 144 (f := .str "ENDS" " \t\n<>") rfl)
  obtain ⟨t_SHORTEST_SCHEME, q_SHORTEST_SCHEME⟩ := He.int_ok X G (d.fact 145 (f := .int "SHORTEST_SCHEME" 2) rfl)
  obtain ⟨t_LONGEST_SCHEME, q_LONGEST_SCHEME⟩ := He.int_ok X G (d.fact 146 (f := .int "LONGEST_SCHEME" 32) rfl)
  obtain ⟨t_LONGEST_PART, q_LONGEST_PART⟩ := He.int_ok X G (d.fact 147 (f := .int "LONGEST_PART" 63) rfl)
  have T : Txt w K mg := {
    a_behind_all := He.ga K "behind_all", d_behind_all := _, f_behind_all := F0, g_behind_all := He.glo_ok X G (d.fact 0 (f := .glo "behind_all") rfl), b_behind_all := b0,
    a_behind_gap := He.ga K "behind_gap", d_behind_gap := _, f_behind_gap := F1, g_behind_gap := He.glo_ok X G (d.fact 1 (f := .glo "behind_gap") rfl), b_behind_gap := b1,
    a_behind_first := He.ga K "behind_first", d_behind_first := _, f_behind_first := F2, g_behind_first := He.glo_ok X G (d.fact 2 (f := .glo "behind_first") rfl), b_behind_first := b2,
    a_behind_sign := He.ga K "behind_sign", d_behind_sign := _, f_behind_sign := F3, g_behind_sign := He.glo_ok X G (d.fact 3 (f := .glo "behind_sign") rfl), b_behind_sign := b3,
    a_is_escape := He.ga K "is_escape", d_is_escape := _, f_is_escape := F4, g_is_escape := He.glo_ok X G (d.fact 4 (f := .glo "is_escape") rfl), b_is_escape := b4,
    a_first_plain := He.ga K "first_plain", d_first_plain := _, f_first_plain := F5, g_first_plain := He.glo_ok X G (d.fact 5 (f := .glo "first_plain") rfl), b_first_plain := b5,
    a_strings_in := He.ga K "strings_in", d_strings_in := _, f_strings_in := F6, g_strings_in := He.glo_ok X G (d.fact 6 (f := .glo "strings_in") rfl), b_strings_in := b6,
    a_reference_at := He.ga K "reference_at", d_reference_at := _, f_reference_at := F7, g_reference_at := He.glo_ok X G (d.fact 7 (f := .glo "reference_at") rfl), b_reference_at := b7,
    a_decoded := He.ga K "decoded", d_decoded := _, f_decoded := F8, g_decoded := He.glo_ok X G (d.fact 8 (f := .glo "decoded") rfl), b_decoded := b8,
    a_decoded_at := He.ga K "decoded_at", d_decoded_at := _, f_decoded_at := F9, g_decoded_at := He.glo_ok X G (d.fact 9 (f := .glo "decoded_at") rfl), b_decoded_at := b9,
    a_sign_meant := He.ga K "sign_meant", d_sign_meant := _, f_sign_meant := F10, g_sign_meant := He.glo_ok X G (d.fact 10 (f := .glo "sign_meant") rfl), b_sign_meant := b10,
    a_number_in := He.ga K "number_in", d_number_in := _, f_number_in := F11, g_number_in := He.glo_ok X G (d.fact 11 (f := .glo "number_in") rfl), b_number_in := b11,
    a_sign_of := He.ga K "sign_of", d_sign_of := _, f_sign_of := F12, g_sign_of := He.glo_ok X G (d.fact 12 (f := .glo "sign_of") rfl), b_sign_of := b12,
    a_normalised := He.ga K "normalised", d_normalised := _, f_normalised := F13, g_normalised := He.glo_ok X G (d.fact 13 (f := .glo "normalised") rfl), b_normalised := b13,
    a_is_label_text := He.ga K "is_label_text", d_is_label_text := _, f_is_label_text := F14, g_is_label_text := He.glo_ok X G (d.fact 14 (f := .glo "is_label_text") rfl), b_is_label_text := b14,
    a_is_label := He.ga K "is_label", d_is_label := _, f_is_label := F15, g_is_label := He.glo_ok X G (d.fact 15 (f := .glo "is_label") rfl), b_is_label := b15,
    a_label_at := He.ga K "label_at", d_label_at := _, f_label_at := F16, g_label_at := He.glo_ok X G (d.fact 16 (f := .glo "label_at") rfl), b_label_at := b16,
    a_target_at := He.ga K "target_at", d_target_at := _, f_target_at := F17, g_target_at := He.glo_ok X G (d.fact 17 (f := .glo "target_at") rfl), b_target_at := b17,
    a_title_or_none := He.ga K "title_or_none", d_title_or_none := _, f_title_or_none := F18, g_title_or_none := He.glo_ok X G (d.fact 18 (f := .glo "title_or_none") rfl), b_title_or_none := b18,
    a_destination_at := He.ga K "destination_at", d_destination_at := _, f_destination_at := F19, g_destination_at := He.glo_ok X G (d.fact 19 (f := .glo "destination_at") rfl), b_destination_at := b19,
    a_title_at := He.ga K "title_at", d_title_at := _, f_title_at := F20, g_title_at := He.glo_ok X G (d.fact 20 (f := .glo "title_at") rfl), b_title_at := b20,
    a_enclosed_at := He.ga K "enclosed_at", d_enclosed_at := _, f_enclosed_at := F21, g_enclosed_at := He.glo_ok X G (d.fact 21 (f := .glo "enclosed_at") rfl), b_enclosed_at := b21,
    a_behind_bare := He.ga K "behind_bare", d_behind_bare := _, f_behind_bare := F22, g_behind_bare := He.glo_ok X G (d.fact 22 (f := .glo "behind_bare") rfl), b_behind_bare := b22,
    a_tag_at := He.ga K "tag_at", d_tag_at := _, f_tag_at := F23, g_tag_at := He.glo_ok X G (d.fact 23 (f := .glo "tag_at") rfl), b_tag_at := b23,
    a_open_tag_at := He.ga K "open_tag_at", d_open_tag_at := _, f_open_tag_at := F24, g_open_tag_at := He.glo_ok X G (d.fact 24 (f := .glo "open_tag_at") rfl), b_open_tag_at := b24,
    a_closing_tag_at := He.ga K "closing_tag_at", d_closing_tag_at := _, f_closing_tag_at := F25, g_closing_tag_at := He.glo_ok X G (d.fact 25 (f := .glo "closing_tag_at") rfl), b_closing_tag_at := b25,
    a_attribute_at := He.ga K "attribute_at", d_attribute_at := _, f_attribute_at := F26, g_attribute_at := He.glo_ok X G (d.fact 26 (f := .glo "attribute_at") rfl), b_attribute_at := b26,
    a_value_at := He.ga K "value_at", d_value_at := _, f_value_at := F27, g_value_at := He.glo_ok X G (d.fact 27 (f := .glo "value_at") rfl), b_value_at := b27,
    a_name_at := He.ga K "name_at", d_name_at := _, f_name_at := F28, g_name_at := He.glo_ok X G (d.fact 28 (f := .glo "name_at") rfl), b_name_at := b28,
    a_is_letter := He.ga K "is_letter", d_is_letter := _, f_is_letter := F29, g_is_letter := He.glo_ok X G (d.fact 29 (f := .glo "is_letter") rfl), b_is_letter := b29,
    a_autolink_at := He.ga K "autolink_at", d_autolink_at := _, f_autolink_at := F30, g_autolink_at := He.glo_ok X G (d.fact 30 (f := .glo "autolink_at") rfl), b_autolink_at := b30,
    a_begins_with_scheme := He.ga K "begins_with_scheme", d_begins_with_scheme := _, f_begins_with_scheme := F31, g_begins_with_scheme := He.glo_ok X G (d.fact 31 (f := .glo "begins_with_scheme") rfl), b_begins_with_scheme := b31,
    a_is_address := He.ga K "is_address", d_is_address := _, f_is_address := F32, g_is_address := He.glo_ok X G (d.fact 32 (f := .glo "is_address") rfl), b_is_address := b32,
    a_is_part := He.ga K "is_part", d_is_part := _, f_is_part := F33, g_is_part := He.glo_ok X G (d.fact 33 (f := .glo "is_part") rfl), b_is_part := b33,
    a_run_at := He.ga K "run_at", d_run_at := _, f_run_at := F34, g_run_at := He.glo_ok X G (d.fact 34 (f := .glo "run_at") rfl), b_run_at := b34,
    a_kind_of := He.ga K "kind_of", d_kind_of := _, f_kind_of := F35, g_kind_of := He.glo_ok X G (d.fact 35 (f := .glo "kind_of") rfl), b_kind_of := b35,
    a_pair := He.ga K "pair", d_pair := _, f_pair := F36, g_pair := He.glo_ok X G (d.fact 36 (f := .glo "pair") rfl), b_pair := b36,
    a_sort_of := He.ga K "sort_of", d_sort_of := _, f_sort_of := F37, g_sort_of := He.glo_ok X G (d.fact 37 (f := .glo "sort_of") rfl), b_sort_of := b37,
    a_stack_of_partner := He.ga K "stack_of_partner", d_stack_of_partner := _, f_stack_of_partner := F38, g_stack_of_partner := He.glo_ok X G (d.fact 38 (f := .glo "stack_of_partner") rfl), b_stack_of_partner := b38,
    a_may_pair := He.ga K "may_pair", d_may_pair := _, f_may_pair := F39, g_may_pair := He.glo_ok X G (d.fact 39 (f := .glo "may_pair") rfl), b_may_pair := b39,
    a_take_both := He.ga K "take_both", d_take_both := _, f_take_both := F40, g_take_both := He.glo_ok X G (d.fact 40 (f := .glo "take_both") rfl), b_take_both := b40,
    a_built := He.ga K "built", d_built := _, f_built := F41, g_built := He.glo_ok X G (d.fact 41 (f := .glo "built") rfl), b_built := b41,
    a_joined := He.ga K "joined", d_joined := _, f_joined := F42, g_joined := He.glo_ok X G (d.fact 42 (f := .glo "joined") rfl), b_joined := b42,
    a_add_text := He.ga K "add_text", d_add_text := _, f_add_text := F43, g_add_text := He.glo_ok X G (d.fact 43 (f := .glo "add_text") rfl), b_add_text := b43,
    a_scanned := He.ga K "scanned", d_scanned := _, f_scanned := F44, g_scanned := He.glo_ok X G (d.fact 44 (f := .glo "scanned") rfl), b_scanned := b44,
    a_take_plain := He.ga K "take_plain", d_take_plain := _, f_take_plain := F45, g_take_plain := He.glo_ok X G (d.fact 45 (f := .glo "take_plain") rfl), b_take_plain := b45,
    a_take_backslash := He.ga K "take_backslash", d_take_backslash := _, f_take_backslash := F46, g_take_backslash := He.glo_ok X G (d.fact 46 (f := .glo "take_backslash") rfl), b_take_backslash := b46,
    a_take_backquotes := He.ga K "take_backquotes", d_take_backquotes := _, f_take_backquotes := F47, g_take_backquotes := He.glo_ok X G (d.fact 47 (f := .glo "take_backquotes") rfl), b_take_backquotes := b47,
    a_code_text := He.ga K "code_text", d_code_text := _, f_code_text := F48, g_code_text := He.glo_ok X G (d.fact 48 (f := .glo "code_text") rfl), b_code_text := b48,
    a_take_angle := He.ga K "take_angle", d_take_angle := _, f_take_angle := F49, g_take_angle := He.glo_ok X G (d.fact 49 (f := .glo "take_angle") rfl), b_take_angle := b49,
    a_take_reference := He.ga K "take_reference", d_take_reference := _, f_take_reference := F50, g_take_reference := He.glo_ok X G (d.fact 50 (f := .glo "take_reference") rfl), b_take_reference := b50,
    a_take_line_feed := He.ga K "take_line_feed", d_take_line_feed := _, f_take_line_feed := F51, g_take_line_feed := He.glo_ok X G (d.fact 51 (f := .glo "take_line_feed") rfl), b_take_line_feed := b51,
    a_take_run := He.ga K "take_run", d_take_run := _, f_take_run := F52, g_take_run := He.glo_ok X G (d.fact 52 (f := .glo "take_run") rfl), b_take_run := b52,
    a_take_bracket := He.ga K "take_bracket", d_take_bracket := _, f_take_bracket := F53, g_take_bracket := He.glo_ok X G (d.fact 53 (f := .glo "take_bracket") rfl), b_take_bracket := b53,
    a_take_exclamation := He.ga K "take_exclamation", d_take_exclamation := _, f_take_exclamation := F54, g_take_exclamation := He.glo_ok X G (d.fact 54 (f := .glo "take_exclamation") rfl), b_take_exclamation := b54,
    a_note := He.ga K "note", d_note := _, f_note := F55, g_note := He.glo_ok X G (d.fact 55 (f := .glo "note") rfl), b_note := b55,
    a_take_end := He.ga K "take_end", d_take_end := _, f_take_end := F56, g_take_end := He.glo_ok X G (d.fact 56 (f := .glo "take_end") rfl), b_take_end := b56,
    a_found_behind := He.ga K "found_behind", d_found_behind := _, f_found_behind := F57, g_found_behind := He.glo_ok X G (d.fact 57 (f := .glo "found_behind") rfl), b_found_behind := b57,
    a_own_label := He.ga K "own_label", d_own_label := _, f_own_label := F58, g_own_label := He.glo_ok X G (d.fact 58 (f := .glo "own_label") rfl), b_own_label := b58,
    a_check_source := He.ga K "check_source", d_check_source := _, f_check_source := F59, g_check_source := He.glo_ok X G (d.fact 59 (f := .glo "check_source") rfl), b_check_source := b59,
    a_inlines := He.ga K "inlines", d_inlines := _, f_inlines := F60, g_inlines := He.glo_ok X G (d.fact 60 (f := .glo "inlines") rfl), bd_inlines := b60,
    a_is_known := He.ga K "is_known", d_is_known := _, f_is_known := F61, g_is_known := He.glo_ok X G (d.fact 61 (f := .glo "is_known") rfl), b_is_known := b61,
    a_is_target := He.ga K "is_target", d_is_target := _, f_is_target := F62, g_is_target := He.glo_ok X G (d.fact 62 (f := .glo "is_target") rfl), b_is_target := b62,
    a__law_state := He.ga K "_law_state", d__law_state := _, f__law_state := F63, g__law_state := He.glo_ok X G (d.fact 63 (f := .glo "_law_state") rfl), b__law_state := b63,
    a__law_draw := He.ga K "_law_draw", d__law_draw := _, f__law_draw := F64, g__law_draw := He.glo_ok X G (d.fact 64 (f := .glo "_law_draw") rfl), b__law_draw := b64,
    a__law_one := He.ga K "_law_one", d__law_one := _, f__law_one := F65, g__law_one := He.glo_ok X G (d.fact 65 (f := .glo "_law_one") rfl), b__law_one := b65,
    a__law_is_white := He.ga K "_law_is_white", d__law_is_white := _, f__law_is_white := F66, g__law_is_white := He.glo_ok X G (d.fact 66 (f := .glo "_law_is_white") rfl), b__law_is_white := b66,
    a__law_is_mark := He.ga K "_law_is_mark", d__law_is_mark := _, f__law_is_mark := F67, g__law_is_mark := He.glo_ok X G (d.fact 67 (f := .glo "_law_is_mark") rfl), b__law_is_mark := b67,
    a__law_sides := He.ga K "_law_sides", d__law_sides := _, f__law_sides := F68, g__law_sides := He.glo_ok X G (d.fact 68 (f := .glo "_law_sides") rfl), b__law_sides := b68,
    a__law_may := He.ga K "_law_may", d__law_may := _, f__law_may := F69, g__law_may := He.glo_ok X G (d.fact 69 (f := .glo "_law_may") rfl), b__law_may := b69,
    a__law_spans := He.ga K "_law_spans", d__law_spans := _, f__law_spans := F70, g__law_spans := He.glo_ok X G (d.fact 70 (f := .glo "_law_spans") rfl), b__law_spans := b70,
    a__law_runs := He.ga K "_law_runs", d__law_runs := _, f__law_runs := F71, g__law_runs := He.glo_ok X G (d.fact 71 (f := .glo "_law_runs") rfl), b__law_runs := b71,
    a__law_put := He.ga K "_law_put", d__law_put := _, f__law_put := F72, g__law_put := He.glo_ok X G (d.fact 72 (f := .glo "_law_put") rfl), b__law_put := b72,
    a__law_built := He.ga K "_law_built", d__law_built := _, f__law_built := F73, g__law_built := He.glo_ok X G (d.fact 73 (f := .glo "_law_built") rfl), b__law_built := b73,
    a__law_piece := He.ga K "_law_piece", d__law_piece := _, f__law_piece := F74, g__law_piece := He.glo_ok X G (d.fact 74 (f := .glo "_law_piece") rfl), b__law_piece := b74,
    a__law_soup := He.ga K "_law_soup", d__law_soup := _, f__law_soup := F75, g__law_soup := He.glo_ok X G (d.fact 75 (f := .glo "_law_soup") rfl), b__law_soup := b75,
    a__law_deep_right := He.ga K "_law_deep_right", d__law_deep_right := _, f__law_deep_right := F76, g__law_deep_right := He.glo_ok X G (d.fact 76 (f := .glo "_law_deep_right") rfl), b__law_deep_right := b76,
    a__law_far_right := He.ga K "_law_far_right", d__law_far_right := _, f__law_far_right := F77, g__law_far_right := He.glo_ok X G (d.fact 77 (f := .glo "_law_far_right") rfl), b__law_far_right := b77,
    a_Bracket____init__ := He.ma K (He.ga K "Bracket") "__init__", d_Bracket____init__ := _, f_Bracket____init__ := F79, b_Bracket____init__ := b79,
    a_Scan____init__ := He.ma K (He.ga K "Scan") "__init__", d_Scan____init__ := _, f_Scan____init__ := F80, b_Scan____init__ := b80,
    a_Scan__put := He.ma K (He.ga K "Scan") "put", d_Scan__put := _, f_Scan__put := F81, b_Scan__put := b81,
    a_Scan__put_text := He.ma K (He.ga K "Scan") "put_text", d_Scan__put_text := _, f_Scan__put_text := F82, b_Scan__put_text := b82,
    a_Scan__is_active := He.ma K (He.ga K "Scan") "is_active", d_Scan__is_active := _, f_Scan__is_active := F83, b_Scan__is_active := b83,
    a_Run____init__ := He.ma K (He.ga K "Run") "__init__", d_Run____init__ := _, f_Run____init__ := F84, b_Run____init__ := b84,
    a_Run__is_both := He.ma K (He.ga K "Run") "is_both", d_Run__is_both := _, f_Run__is_both := F85, b_Run__is_both := b85,
    c_Bracket := He.ga K "Bracket", gc_Bracket := He.glo_ok X G (d.fact 79 (f := .glo "Bracket") rfl), cl_Bracket := He.cls_ok (d.fact 80 (f := .cls "Bracket") rfl), mk_Bracket := He.mkr_ok (d.fact 81 (f := .mkr "Bracket") rfl), na_Bracket_number := He.noat_ok (d.fact 82 (f := .noat "Bracket" "number") rfl), na_Bracket_index := He.noat_ok (d.fact 83 (f := .noat "Bracket" "index") rfl), na_Bracket_place := He.noat_ok (d.fact 84 (f := .noat "Bracket" "place") rfl), na_Bracket_is_image := He.noat_ok (d.fact 85 (f := .noat "Bracket" "is_image") rfl),
    c_Scan := He.ga K "Scan", gc_Scan := He.glo_ok X G (d.fact 86 (f := .glo "Scan") rfl), cl_Scan := He.cls_ok (d.fact 87 (f := .cls "Scan") rfl), mk_Scan := He.mkr_ok (d.fact 88 (f := .mkr "Scan") rfl), na_Scan_content := He.noat_ok (d.fact 89 (f := .noat "Scan" "content") rfl), na_Scan_known := He.noat_ok (d.fact 90 (f := .noat "Scan" "known") rfl), na_Scan_place := He.noat_ok (d.fact 91 (f := .noat "Scan" "place") rfl), na_Scan_row := He.noat_ok (d.fact 92 (f := .noat "Scan" "row") rfl), na_Scan_plain := He.noat_ok (d.fact 93 (f := .noat "Scan" "plain") rfl), na_Scan_brackets := He.noat_ok (d.fact 94 (f := .noat "Scan" "brackets") rfl), na_Scan_noted := He.noat_ok (d.fact 95 (f := .noat "Scan" "noted") rfl), na_Scan_bar := He.noat_ok (d.fact 96 (f := .noat "Scan" "bar") rfl), na_Scan_strings := He.noat_ok (d.fact 97 (f := .noat "Scan" "strings") rfl), me_Scan__put := He.meth_ok (d.fact 98 (f := .meth "Scan" "put") rfl), me_Scan__put_text := He.meth_ok (d.fact 99 (f := .meth "Scan" "put_text") rfl), me_Scan__is_active := He.meth_ok (d.fact 100 (f := .meth "Scan" "is_active") rfl),
    c_Run := He.ga K "Run", gc_Run := He.glo_ok X G (d.fact 101 (f := .glo "Run") rfl), cl_Run := He.cls_ok (d.fact 102 (f := .cls "Run") rfl), mk_Run := He.mkr_ok (d.fact 103 (f := .mkr "Run") rfl), na_Run_sign := He.noat_ok (d.fact 104 (f := .noat "Run" "sign") rfl), na_Run_length := He.noat_ok (d.fact 105 (f := .noat "Run" "length") rfl), na_Run_left := He.noat_ok (d.fact 106 (f := .noat "Run" "left") rfl), na_Run_opens := He.noat_ok (d.fact 107 (f := .noat "Run" "opens") rfl), na_Run_closes := He.noat_ok (d.fact 108 (f := .noat "Run" "closes") rfl), na_Run_ended := He.noat_ok (d.fact 109 (f := .noat "Run" "ended") rfl), na_Run_begun := He.noat_ok (d.fact 110 (f := .noat "Run" "begun") rfl), kit_Run_tuple := of_decide_eq_true (HX.more_at c.more 0 (b := fun K => decide (PySem.W.kitOne K (.type "tuple") (.ref (He.ga K "Run")) = some false)) rfl), isi_Run := fun e => .ins e (He.cls_ok (d.fact 102 (f := .cls "Run") rfl)) (He.eqO_ok (HX.more_at c.more 1 (b := fun K => He.eqO (PySem.W.findIn K (.ref (He.ga K "Run")) "__class__") (some (some (.builtin "object.__class__")))) rfl)) (He.eqO_ok (HX.more_at c.more 2 (b := fun K => He.eqO (PySem.W.specialIn K (.builtin "object.__class__") "__get__") (some (some (.builtin "getset_descriptor.__get__")))) rfl)) (of_decide_eq_true (HX.more_at c.more 3 (b := fun K => decide (PySem.W.takesIn K (.builtin "object.__class__") = some true)) rfl)) (of_decide_eq_true (HX.more_at c.more 4 (b := fun K => decide (PySem.W.mroIn K (He.ga K "Run") (.type "object") = some true)) rfl)), me_Run__is_both := He.meth_ok (d.fact 111 (f := .meth "Run" "is_both") rfl),
    z_abs := He.free_ok X G (d.fact 112 (f := .free "abs") rfl),
    z_all := He.free_ok X G (d.fact 113 (f := .free "all") rfl),
    z_dict := He.free_ok X G (d.fact 114 (f := .free "dict") rfl),
    z_enumerate := He.free_ok X G (d.fact 115 (f := .free "enumerate") rfl),
    z_int := He.free_ok X G (d.fact 116 (f := .free "int") rfl),
    z_isinstance := He.free_ok X G (d.fact 117 (f := .free "isinstance") rfl),
    z_len := He.free_ok X G (d.fact 118 (f := .free "len") rfl),
    z_list := He.free_ok X G (d.fact 119 (f := .free "list") rfl),
    z_max := He.free_ok X G (d.fact 120 (f := .free "max") rfl),
    z_min := He.free_ok X G (d.fact 121 (f := .free "min") rfl),
    z_ord := He.free_ok X G (d.fact 122 (f := .free "ord") rfl),
    z_range := He.free_ok X G (d.fact 123 (f := .free "range") rfl),
    z_str := He.free_ok X G (d.fact 124 (f := .free "str") rfl),
    z_tuple := He.free_ok X G (d.fact 125 (f := .free "tuple") rfl),
    z_zip := He.free_ok X G (d.fact 126 (f := .free "zip") rfl),
    t_INLINE_WHITE := t_INLINE_WHITE, g_INLINE_WHITE := q_INLINE_WHITE,
    t_PUNCTUATION := t_PUNCTUATION, g_PUNCTUATION := q_PUNCTUATION,
    a_NAMES := He.ga K "NAMES", g_NAMES := He.glo_ok X G (d.fact 129 (f := .glo "NAMES") rfl), k_NAMES := HX.kds_ok (c.t.tab 0 (t := (fun K => (He.ga K "NAMES"), ["amp", "lt", "gt", "quot", "apos", "num", "ast", "lowbar", "grave", "lsqb", "rsqb", "lpar", "rpar", "lcub", "rcub", "bsol", "excl", "Tab", "NewLine"])) rfl) (HX.more_at c.more 5 (b := fun K => HX.dicV K (He.ga K "NAMES") [("amp", .str "&"), ("lt", .str "<"), ("gt", .str ">"), ("quot", .str "\""), ("apos", .str "'"), ("num", .str "#"), ("ast", .str "*"), ("lowbar", .str "_"), ("grave", .str "`"), ("lsqb", .str "["), ("rsqb", .str "]"), ("lpar", .str "("), ("rpar", .str ")"), ("lcub", .str "{"), ("rcub", .str "}"), ("bsol", .str "\\"), ("excl", .str "!"), ("Tab", .str "\t"), ("NewLine", .str "\n")]) rfl),
    a_SIGN_ROWS := He.ga K "SIGN_ROWS", o_SIGN_ROWS := o_SIGN_ROWS, n_SIGN_ROWS := n_SIGN_ROWS, w_SIGN_ROWS := w_SIGN_ROWS, g_SIGN_ROWS := He.glo_ok X G (d.fact 130 (f := .glo "SIGN_ROWS") rfl), l_SIGN_ROWS := L_SIGN_ROWS, e_SIGN_ROWS_0 := HX.itA K (He.ga K "SIGN_ROWS") 0, o_SIGN_ROWS_0 := o_SIGN_ROWS_0, n_SIGN_ROWS_0 := n_SIGN_ROWS_0, w_SIGN_ROWS_0 := w_SIGN_ROWS_0, l_SIGN_ROWS_0 := L_SIGN_ROWS_0, u_SIGN_ROWS_0_0 := u_SIGN_ROWS_0_0, u_SIGN_ROWS_0_1 := u_SIGN_ROWS_0_1, e_SIGN_ROWS_1 := HX.itA K (He.ga K "SIGN_ROWS") 1, o_SIGN_ROWS_1 := o_SIGN_ROWS_1, n_SIGN_ROWS_1 := n_SIGN_ROWS_1, w_SIGN_ROWS_1 := w_SIGN_ROWS_1, l_SIGN_ROWS_1 := L_SIGN_ROWS_1, u_SIGN_ROWS_1_0 := u_SIGN_ROWS_1_0, u_SIGN_ROWS_1_1 := u_SIGN_ROWS_1_1, e_SIGN_ROWS_2 := HX.itA K (He.ga K "SIGN_ROWS") 2, o_SIGN_ROWS_2 := o_SIGN_ROWS_2, n_SIGN_ROWS_2 := n_SIGN_ROWS_2, w_SIGN_ROWS_2 := w_SIGN_ROWS_2, l_SIGN_ROWS_2 := L_SIGN_ROWS_2, u_SIGN_ROWS_2_0 := u_SIGN_ROWS_2_0, u_SIGN_ROWS_2_1 := u_SIGN_ROWS_2_1,
    t_LONGEST := t_LONGEST, g_LONGEST := q_LONGEST,
    t_LONGEST_LABEL := t_LONGEST_LABEL, g_LONGEST_LABEL := q_LONGEST_LABEL,
    t_MOST_BRACKETS := t_MOST_BRACKETS, g_MOST_BRACKETS := q_MOST_BRACKETS,
    t_BARE_ENDS := t_BARE_ENDS, g_BARE_ENDS := q_BARE_ENDS,
    a_TITLE_SIGNS := He.ga K "TITLE_SIGNS", g_TITLE_SIGNS := He.glo_ok X G (d.fact 135 (f := .glo "TITLE_SIGNS") rfl), k_TITLE_SIGNS := HX.kds_ok (c.t.tab 1 (t := (fun K => (He.ga K "TITLE_SIGNS"), ["\"", "'", "("])) rfl) (HX.more_at c.more 10 (b := fun K => HX.dicV K (He.ga K "TITLE_SIGNS") [("\"", .ref (HX.dvA K (He.ga K "TITLE_SIGNS") 0)), ("'", .ref (HX.dvA K (He.ga K "TITLE_SIGNS") 1)), ("(", .ref (HX.dvA K (He.ga K "TITLE_SIGNS") 2))]) rfl), e_TITLE_SIGNS_0 := HX.dvA K (He.ga K "TITLE_SIGNS") 0, o_TITLE_SIGNS_0 := o_TITLE_SIGNS_0, n_TITLE_SIGNS_0 := n_TITLE_SIGNS_0, w_TITLE_SIGNS_0 := w_TITLE_SIGNS_0, l_TITLE_SIGNS_0 := L_TITLE_SIGNS_0, u_TITLE_SIGNS_0_0 := u_TITLE_SIGNS_0_0, u_TITLE_SIGNS_0_1 := u_TITLE_SIGNS_0_1, e_TITLE_SIGNS_1 := HX.dvA K (He.ga K "TITLE_SIGNS") 1, o_TITLE_SIGNS_1 := o_TITLE_SIGNS_1, n_TITLE_SIGNS_1 := n_TITLE_SIGNS_1, w_TITLE_SIGNS_1 := w_TITLE_SIGNS_1, l_TITLE_SIGNS_1 := L_TITLE_SIGNS_1, u_TITLE_SIGNS_1_0 := u_TITLE_SIGNS_1_0, u_TITLE_SIGNS_1_1 := u_TITLE_SIGNS_1_1, e_TITLE_SIGNS_2 := HX.dvA K (He.ga K "TITLE_SIGNS") 2, o_TITLE_SIGNS_2 := o_TITLE_SIGNS_2, n_TITLE_SIGNS_2 := n_TITLE_SIGNS_2, w_TITLE_SIGNS_2 := w_TITLE_SIGNS_2, l_TITLE_SIGNS_2 := L_TITLE_SIGNS_2, u_TITLE_SIGNS_2_0 := u_TITLE_SIGNS_2_0, u_TITLE_SIGNS_2_1 := u_TITLE_SIGNS_2_1,
    t_WHITE := t_WHITE, g_WHITE := q_WHITE,
    t_LETTERS := t_LETTERS, g_LETTERS := q_LETTERS,
    t_NAME_SIGNS := t_NAME_SIGNS, g_NAME_SIGNS := q_NAME_SIGNS,
    t_KEY_SIGNS := t_KEY_SIGNS, g_KEY_SIGNS := q_KEY_SIGNS,
    t_NO_BARE_SIGNS := t_NO_BARE_SIGNS, g_NO_BARE_SIGNS := q_NO_BARE_SIGNS,
    t_SCHEME_SIGNS := t_SCHEME_SIGNS, g_SCHEME_SIGNS := q_SCHEME_SIGNS,
    t_LOCAL_SIGNS := t_LOCAL_SIGNS, g_LOCAL_SIGNS := q_LOCAL_SIGNS,
    t_PART_SIGNS := t_PART_SIGNS, g_PART_SIGNS := q_PART_SIGNS,
    t_ENDS := t_ENDS, g_ENDS := q_ENDS,
    t_SHORTEST_SCHEME := t_SHORTEST_SCHEME, g_SHORTEST_SCHEME := q_SHORTEST_SCHEME,
    t_LONGEST_SCHEME := t_LONGEST_SCHEME, g_LONGEST_SCHEME := q_LONGEST_SCHEME,
    t_LONGEST_PART := t_LONGEST_PART, g_LONGEST_PART := q_LONGEST_PART,
    a_STEPS := He.ga K "STEPS", g_STEPS := He.glo_ok X G (d.fact 148 (f := .glo "STEPS") rfl), k_STEPS := HX.kds_ok (c.t.tab 2 (t := (fun K => (He.ga K "STEPS"), ["\\", "`", "<", "&", "\n", "*", "_", "[", "!", "]"])) rfl) (HX.more_at c.more 14 (b := fun K => HX.dicV K (He.ga K "STEPS") [("\\", .ref (He.ga K "take_backslash")), ("`", .ref (He.ga K "take_backquotes")), ("<", .ref (He.ga K "take_angle")), ("&", .ref (He.ga K "take_reference")), ("\n", .ref (He.ga K "take_line_feed")), ("*", .ref (He.ga K "take_run")), ("_", .ref (He.ga K "take_run")), ("[", .ref (He.ga K "take_bracket")), ("!", .ref (He.ga K "take_exclamation")), ("]", .ref (He.ga K "take_end"))]) rfl) }
  have e := hfa.symm.trans (He.glo_ok X G (d.fact 78 (f := .glo "law") rfl))
  cases e
  refine ⟨fd78, fun s v => ?_, fun base _ _ => ok_law T F78⟩
  obtain ⟨oc, od, kV, doc, pm, an, cdv, ct, osl, rfl, _⟩ := F78.ex
  exact .of_eq rfl
end K41
open PySem PySem.W PySem.Calls PyProof.Rows
set_option maxHeartbeats 0 in
theorem PySem.Challenge.cw_plainmark_k41_whole_emphasis_of_soups_holds : PySem.Challenge.rw_plainmark_k41_whole_emphasis_of_soups.Holds := by
  w_on; o_law
  refine HandSHeadRun.head_any (r := (PySem.W.OpenLaw.row PySem.Challenge.rw_plainmark_k41_whole_emphasis_of_soups)) (q := view (OpenRow.toRowW (PySem.W.OpenLaw.row PySem.Challenge.rw_plainmark_k41_whole_emphasis_of_soups)).prog [118]) (H := K41.hK) (ob := K41.hOb) (M := 30000) (loose := K41.hNames) (d := HandSHeadRun.topDef (OpenRow.toRowW (PySem.W.OpenLaw.row PySem.Challenge.rw_plainmark_k41_whole_emphasis_of_soups)).prog 118) (kwd := []) K41.hOb_eq
    (by kernel_rfl) (fun s => by kernel_rfl) K41.hRun (by kernel_rfl) (by kernel_rfl) (by kernel_rfl) (by rfl) (by first | assumption | decide +kernel) (by decide +kernel) ⟨rfl, rfl, rfl, rfl, rfl, by decide +kernel⟩ ?hw ?hc
  case hw => w_witness2
  case hc =>
    refine L2.walk_ofE (l := PySem.Challenge.rw_plainmark_k41_whole_emphasis_of_soups) (n := 63) (k := 100) (x := "_law_script") (CX := L2.CX0) rfl (by decide) (by kernel_rfl) ⟨rfl, by decide, by decide⟩ ?F (fun _ _ _ _ z => z)
    intro w mg fa h Y G hmg0
    obtain ⟨K, KX, c⟩ := Y
    have hmg : mg ("law" : PySem.Str) = some (.ref fa) := by
      have e : (HandSHeadRun.topDef (OpenRow.toRowW (PySem.W.OpenLaw.row PySem.Challenge.rw_plainmark_k41_whole_emphasis_of_soups)).prog 118).name = ("law" : PySem.Str) := by kernel_rfl
      rw [← e]
      exact hmg0
    obtain ⟨fd, hb, hF⟩ := K41.facts (l := PySem.Challenge.rw_plainmark_k41_whole_emphasis_of_soups) (w := w) KX G hmg c
    exact ⟨K, fd, K41.sp_law K, KX, hb, fun H a ns hl _ hS => ⟨a, ns, rfl, hS, hl, fun _ => rfl⟩, hF⟩
