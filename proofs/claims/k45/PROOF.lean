import PyProof.Rows.All
import Wide.All
import OpenK.AllK
import Wide.FinOn
import HandS.ForMost
import HandS.Wide
import HandS.StrMore
import HandS.Style
import HandS.Flow
import HandS.Walk
import PyProof.Draws
import PyProof.StrOps2

import HandS.IntHex
import HandS.Dict
import HandS.More
import KE.KIntText
import HandS.ReplaceLit
import PyProof.ToksMono
import HandS.CallLocal
import HandS.RevRange
import HandS.Conv
import HandS.Zip
import HandS.TupAny
import HandS.ReplaceDef
import HandS.ReplaceList
import KE.GoesMore
import KE.GoesZip
import OpenK.KMore
import PyProof.Rows.StrSplitMax
import HandS.StrSplit
import HandS.Style
import PyProof.ReprRoads
import HandS.IsInst
import HandS.Defaults
import HandS.SetKeys
import HandS.DictComp
import HandS.WordsDict
import KE.KDictZip
import PyProof.ListStr
import PySem.Challenge.RW_plainmark_k45_backslashes_breaks_and_ref

set_option Elab.async false
set_option linter.all false
set_option maxRecDepth 100000
/-! words of my own over the hand layer -/
namespace My
open PySem PySem.Spec PyProof.Rows L2

/-- a text by its signs -/
def S (l : List Nat) : Str := ⟨l.toArray⟩
theorem S_tl (l : List Nat) : (S l).cps.toList = l := by simp [S]
theorem S_of (z : Str) : z = S z.cps.toList := by
  cases z
  simp [S]
theorem S_len (l : List Nat) : (S l).length = l.length := by simp [S, Str.length]
theorem S_size (l : List Nat) : (S l).cps.size = l.length := by simp [S]
theorem S_get (l : List Nat) (i : Nat) : (S l).cps[i]? = l[i]? := by simp [S]
theorem S_app (a b : List Nat) : S a ++ S b = S (a ++ b) := by
  show (⟨a.toArray ++ b.toArray⟩ : Str) = ⟨(a ++ b).toArray⟩
  simp
theorem S_inj {a b : List Nat} (h : S a = S b) : a = b := by
  have := congrArg (fun z : Str => z.cps.toList) h
  simpa [S] using this
theorem S_dec (a b : List Nat) : decide (V.str (S a) = V.str (S b)) = decide (a = b) := by
  by_cases h : a = b
  · subst h
    simp
  · have h2 : ¬ V.str (S a) = V.str (S b) := fun e => h (S_inj (V.str.inj e))
    simp [h, h2]
theorem S_cut (l : List Nat) (k : Nat) : cutS (S l) (some (k : Int)) none = S (l.drop k) := by
  unfold cutS
  rw [HT.sIx_nat, HT.sIx_none, S_len, S_tl]
  show S _ = S _
  congr 1
  by_cases h : k ≤ l.length
  · rw [Nat.min_eq_left h]
    exact List.take_of_length_le (by rw [List.length_drop]; omega)
  · rw [Nat.min_eq_right (by omega), Nat.sub_self, List.take_zero, List.drop_of_length_le (by omega)]
theorem S_cut2 (l : List Nat) (j k : Nat) (h : j ≤ k) : cutS (S l) (some (j : Int)) (some (k : Int)) = S ((l.drop j).take (k - j)) := by
  unfold cutS
  rw [HT.sIx_nat, HT.sIx_nat, S_len, S_tl]
  show S _ = S _
  congr 1
  by_cases h1 : j ≤ l.length
  · rw [Nat.min_eq_left h1]
    by_cases h2 : k ≤ l.length
    · rw [Nat.min_eq_left h2]
    · rw [Nat.min_eq_right (by omega), List.take_of_length_le (by rw [List.length_drop]; omega), List.take_of_length_le (by rw [List.length_drop]; omega)]
  · rw [List.drop_of_length_le (by omega), List.drop_of_length_le (by omega), List.take_nil, List.take_nil]

/-- all that is tracked but L stays -/
def Keeps (L : Addr) (H H' : Hp) : Prop := ∀ b o, b ≠ L → H b = some o → H' b = some o
theorem Keeps.refl {L : Addr} (H : Hp) : Keeps L H H := fun _ _ _ h => h
theorem Keeps.trans {L : Addr} {H H1 H2 : Hp} (a : Keeps L H H1) (b : Keeps L H1 H2) : Keeps L H H2 := fun c o n h => b c o n (a c o n h)
theorem Keeps.new {L p : Addr} {H : Hp} {o : HO} (h : H p = none) : Keeps L H (upd H p o) := fun b u _ e => by
  rw [upd_ne (ne_of_none e h)]
  exact e
theorem Keeps.at {L : Addr} {H : Hp} {o : HO} : Keeps L H (upd H L o) := fun b u n e => by
  rw [upd_ne n]
  exact e
theorem Keeps.of {L : Addr} {H H' : Hp} (h : Same H H') : Keeps L H H' := fun b o _ e => h b o e
theorem same_new {p : Addr} {H : Hp} {o : HO} (h : H p = none) : Same H (upd H p o) := fun b u e => by
  rw [upd_ne (ne_of_none e h)]
  exact e
/-- a well of draws -/
def Well (H : Hp) (L : Addr) : Prop := ∃ x y : Int, H L = some (.lst [.int x, .int y])
theorem Well.same {H H' : Hp} {L : Addr} (h : Well H L) (s : Same H H') : Well H' L := by
  obtain ⟨x, y, e⟩ := h
  exact ⟨x, y, s _ _ e⟩
theorem Well.new {H : Hp} {L p : Addr} {o : HO} (h : Well H L) (n : H p = none) : Well (upd H p o) L := h.same (same_new n)
theorem Well.ne {H : Hp} {L p : Addr} (h : Well H L) (n : H p = none) : p ≠ L := by
  obtain ⟨x, y, e⟩ := h
  exact (ne_of_none e n).symm
theorem Well.kept {H H' : Hp} {L p : Addr} (h : Well H L) (k : Keeps L H H') (w : Well H' L) (n : H' p = none) : H p = none := by
  cases q : H p with
  | none => rfl
  | some o =>
    have z := k p o (w.ne n) q
    rw [n] at z
    cases z
theorem Keeps.free {L p : Addr} {H H' : Hp} (k : Keeps L H H') (n : H' p = none) (h : p ≠ L) : H p = none := by
  cases q : H p with
  | none => rfl
  | some o =>
    have z := k p o h q
    rw [n] at z
    cases z
theorem Keeps.seq {K : PySem.W.Frag} {L a : Addr} {H H' : Hp} {xs : List V} (k : Keeps L H H') (n : a ≠ L) (h : SqL K H a xs) : SqL K H' a xs := by
  rcases h with (h | ⟨o, h⟩) | h
  · exact .inl (.inl (k _ _ n h))
  · exact .inl (.inr ⟨o, k _ _ n h⟩)
  · exact .inr h
theorem Keeps.tup {K : PySem.W.Frag} {L a : Addr} {H H' : Hp} {xs : List V} (k : Keeps L H H') (n : a ≠ L) (h : SqT K H a xs) : SqT K H' a xs := by
  rcases h with (h | ⟨o, h⟩) | h
  · exact .inl (.inl (k _ _ n h))
  · exact .inl (.inr ⟨o, k _ _ n h⟩)
  · exact .inr h

section
variable {X : Cx}
/-- one sign, so often -/
theorem op_mul_str : OpR X (binaryOp .Mult) (fun x y H Q => ∃ (c j : Nat), x = .str (S [c]) ∧ y = .int (j : Int) ∧ j ≤ 1000 ∧ Q (.str (S (List.replicate j c))) H) := by
  intro pins s σ H x y v u Q I rx ry h
  obtain ⟨c, j, rfl, rfl, hj, q⟩ := h
  obtain ⟨t, rfl⟩ := rx
  obtain ⟨t', rfl⟩ := ry
  have hlen : (S [c]).length = 1 := S_len _
  refine PySem.P.mul_str (by simp; omega) (fun _ _ => by
    rw [hlen]
    have : (1 : Int) ≤ (2 ^ 63 - 1) / (j : Int) := by
      by_cases hj0 : j = 0
      · omega
      · refine Int.le_ediv_of_mul_le (by omega) ?_
        omega
    omega) (fun _ _ => by
    rw [hlen]
    have : (j : Int).toNat = j := by omega
    rw [this]
    exact decide_eq_false (by rw [sizeLine_eq]; omega)) ?_
  have fin : ∀ (l : List Nat), l = List.replicate j c → ∀ (v : Value) (k : Nat), RelV (.str (S l)) v → EP X pins σ Q v { s with toks := k } := fun l e v k r => ⟨.str (S l), H, I.tok _, r, by rw [e]; exact q⟩
  by_cases h0 : (j : Int) < 1
  · have e0 : j = 0 := by omega
    rw [if_pos h0]
    exact ⟨by decide, fin [] (by rw [e0]; rfl) _ _ ⟨_, rfl⟩⟩
  · rw [if_neg h0]
    by_cases h1 : j = 1
    · subst h1
      rw [if_pos (by rfl)]
      exact fin [c] rfl _ s.toks ⟨_, rfl⟩
    · rw [if_neg (by rw [hlen]; simp; omega)]
      have e : (⟨(List.replicate (j : Int).toNat (S [c]).cps).foldl (· ++ ·) #[]⟩ : Str) = S (List.replicate j c) := by
        have ej : (j : Int).toNat = j := by omega
        rw [ej]
        have gen : ∀ (n : Nat) (acc : List Nat), (List.replicate n (S [c]).cps).foldl (· ++ ·) acc.toArray = (acc ++ List.replicate n c).toArray := by
          intro n
          induction n with
          | zero => intro acc; simp
          | succ n ih =>
            intro acc
            rw [List.replicate_succ, List.foldl_cons]
            have : acc.toArray ++ (S [c]).cps = (acc ++ [c]).toArray := by simp [S]
            rw [this, ih, List.replicate_succ]
            simp
        have := gen j []
        simp at this
        unfold S
        congr 1
      rw [e]
      refine ⟨?_, fin _ rfl _ _ ⟨_, rfl⟩⟩
      rw [S_len, List.length_replicate, sizeLine_eq]
      omega

/-- a text with its places -/
def Its2 (z : Str) : It :=
  ⟨fun i _ => i < z.cps.size, fun i H v H' => ∃ T c, v = .ref T ∧ H T = none ∧ H' = upd H T (.tup [.int (i : Nat), .str (S [c])]) ∧ z.cps[i]? = some c, fun i _ => i = z.cps.size⟩
theorem turn_enumS {P : Program} {w : World} {K : PySem.W.Frag} {elts : List Expr} {kk : Nat} {tpos : Pos} (z : Str) (t : Tok) (e it : Addr) :
    Turn P w K (.Tuple elts kk tpos) (Its2 z) [e, it] e (fun i h => (∃ old, IsEnum h e it ((i : Nat) : Int) old) ∧ h.IsStrIter it (strIterType z) z t i ∧ e ≠ it) where
  mem := List.mem_cons_self ..
  obj := fun i h st b hb => by
    obtain ⟨⟨old, he⟩, ⟨o, ho, hc, hd⟩, _⟩ := st
    rcases List.mem_cons.mp hb with rfl | hb
    · exact ⟨_, he, fun v q => nomatch q⟩
    · rw [List.mem_singleton.mp hb]
      exact ⟨o, ho, fun v q => by rw [hd] at q; cases q⟩
  keep := fun i h h' st k => by
    obtain ⟨⟨old, he⟩, ⟨o, ho, r⟩, hne⟩ := st
    exact ⟨⟨old, k e (by simp) _ he⟩, ⟨o, k it (by simp) o ho, r⟩, hne⟩
  item := by
    intro X hP hw hK hc i pins s σ H E I hf st hg
    subst hP hw hK
    obtain ⟨⟨old, he⟩, hit, hne⟩ := st
    have hel : e < s.heap.objs.size := Heap.lt_size he
    have hil : it < s.heap.objs.size := by
      obtain ⟨_, q, _⟩ := hit
      exact Heap.lt_size q
    have hef : e ∉ [it] := fun q => hne (List.mem_singleton.mp q)
    have D : Draws X.prog X.w X.A.in1 it [it] z.cps.size (fun i v => ∃ c u, z.cps[i]? = some c ∧ v = .str ⟨#[c]⟩ u) (fun i h => h.IsStrIter it (strIterType z) z t i) := by
      unfold strIterType
      cases ha : z.cps.all (· < 128)
      · simpa [ha] using Draws.strWide (prog := X.prog) (w := X.w) (A := X.A.in1) (I.ok.hd hc) it z t
      · simpa [ha] using Draws.strAscii (prog := X.prog) (w := X.w) (A := X.A.in1) (I.ok.hd hc) it z t
    refine wpAny_pyNext_enum_itemD D he hit hg hne hef fun x h' tk hx ho hit' hT hsz hk => ?_
    obtain ⟨c, u, hcx, rfl⟩ := hx
    refine ⟨_, rfl, wpAny_letOwnedTupleGo_enum (s := { s with heap := h', toks := tk + 1 }) ho fun h'' he' sb => ?_⟩
    have hT2 : h''.get? s.heap.objs.size = some { cls := .type "tuple", data := .seq #[.int i tk, .str ⟨#[c]⟩ u] } := (sb.2 _ (Nat.ne_of_gt hel)).trans hT
    have new : ObjOk X.prog X.w (upd H s.heap.objs.size (.tup [.int (i : Nat), .str (S [c])])) h'' s.heap.objs.size (.tup [.int (i : Nat), .str (S [c])]) :=
      ⟨by show 2 ≤ sizeLine; decide, [.int i tk, .str ⟨#[c]⟩ u], .cons ⟨_, rfl⟩ (.cons ⟨_, rfl⟩ .nil), ⟨_, hT2, rfl, _, rfl⟩⟩
    have hold : ∀ b ob, b ∉ [e, it] → s.heap.get? b = some ob → h''.get? b = some ob := fun b ob hb q =>
      (sb.2 b (fun q => hb (by simp [q]))).trans (hk b ob (fun q => hb (by simp [q])) (fun q => hb (by simp [q])) q)
    have I1 : Inv X pins σ (upd H s.heap.objs.size (.tup [.int (i : Nat), .str (S [c])])) { s with heap := h'', toks := tk + 1 } :=
      I.turnedNew (t' := tk + 1) (ch := [e, it]) hold hf (Nat.le_refl _) new
    refine ⟨.ref s.heap.objs.size, _, I1, rfl, ⟨_, c, rfl, I.hok.fresh (Nat.le_refl _), rfl, hcx⟩, ⟨⟨.str ⟨#[c]⟩ u, ?_⟩, ?_, hne⟩, fun b hb => ?_⟩
    · have e1 : ((i + 1 : Nat) : Int) = (i : Int) + 1 := Int.natCast_succ i
      rw [e1]
      exact he'
    · obtain ⟨o, q, r⟩ := hit'
      exact ⟨o, (sb.2 it (Ne.symm hne)).trans q, r⟩
    · have hb' : b < s.heap.objs.size := by
        rcases List.mem_cons.mp hb with q | q
        · rw [q]
          exact hel
        · rw [List.mem_singleton.mp q]
          exact hil
      rw [upd_ne (Nat.ne_of_lt hb')]
      exact (hf b hb).1
  done := by
    intro X hP hw hK hc i pins s σ H E I hf st hg
    subst hP hw hK
    obtain ⟨⟨old, he⟩, hit, hne⟩ := st
    obtain ⟨f0, f1, f2, f3, f4, f5⟩ := hf it (by simp)
    have D : Draws X.prog X.w X.A.in1 it [it] z.cps.size (fun i v => ∃ c u, z.cps[i]? = some c ∧ v = .str ⟨#[c]⟩ u) (fun i h => h.IsStrIter it (strIterType z) z t i) := by
      unfold strIterType
      cases ha : z.cps.all (· < 128)
      · simpa [ha] using Draws.strWide (prog := X.prog) (w := X.w) (A := X.A.in1) (I.ok.hd hc) it z t
      · simpa [ha] using Draws.strAscii (prog := X.prog) (w := X.w) (A := X.A.in1) (I.ok.hd hc) it z t
    have hi : i = z.cps.size := hg
    subst hi
    exact wpAny_pyNext_enum_endD D he hit fun h' eb => ⟨rfl, I.turned (t' := s.toks) (fun b o hb q => eb b o hb q) f0 f1 f3 f4 f5⟩
  self := fun A i s Q E st h => by
    obtain ⟨⟨_, he⟩, _⟩ := st
    exact wpAny_pyIter_enum he h
def iEnumS (ta : TA) : TI := fun σ H R => ta σ H fun vs H1 => ∃ z, vs = [.str z] ∧ R (Its2 z) H1
theorem pi_enumS {e : Expr} {ta : TA} {p pos tpos : Pos} {elts : List Expr} {kk : Nat} (hg : Gl X "enumerate") (hm : X.mg "enumerate" = none) (ha : PA X [e] ta)
    (hs : starEach [e] X.env = [(false, eval e X.env)] := by rfl) : PI X (.Tuple elts kk tpos) (.Call (.Name "enumerate" p) [e] [] pos) (iEnumS ta) := by
  refine ⟨fun pins s σ H R I h => ?_⟩
  refine Call_ (ld_blt I hg hm boot_enumerate (PyProof.Rows.callWith_type1 (thn (ha.run pos pins s σ H _ I h) fun us s1 ⟨vs, H1, I1, r1, q1⟩ => ?_) hs rfl))
  obtain ⟨z, rfl, q⟩ := q1
  obtain ⟨u1, rfl, r⟩ := vals1 r1
  obtain ⟨t, rfl⟩ := r
  refine PySem.call_enumerate_str fun h' he hit hsz hk => wpAny_pyIter_enum he ?_
  have I2 : Inv X pins σ H1 { s1 with heap := h' } := I1.kept (t' := s1.toks) hk
  refine ⟨s1.heap.objs.size + 1, [s1.heap.objs.size + 1, s1.heap.objs.size], _, _, H1, rfl, I2, turn_enumS z t (s1.heap.objs.size + 1) s1.heap.objs.size, ⟨⟨.none, he⟩, hit, Nat.succ_ne_self _⟩, fun b hb => ?_, q⟩
  have hle : s1.heap.objs.size ≤ b := by
    rcases List.mem_cons.mp hb with q | q
    · rw [q]
      exact Nat.le_succ _
    · rw [List.mem_singleton.mp q]
      exact Nat.le_refl _
  exact I1.fpOk hle (I1.hok.fresh hle)
theorem walk_enumS {z : Str} : Walk (Its2 z) z.cps.size (fun _ => True) (fun i H v H' => ∃ T c, v = .ref T ∧ H T = none ∧ H' = upd H T (.tup [.int (i : Nat), .str (S [c])]) ∧ z.cps[i]? = some c) :=
  ⟨fun _ _ hi _ => hi, fun _ _ => rfl, fun _ _ _ _ _ _ y => y⟩
end

/-! ### data -/
def Sm (l : List Nat) : Prop := ∀ c ∈ l, c < 1114112
theorem Sm.ok {l : List Nat} (h : Sm l) : PyData.strOk (S l) = true := by
  unfold PyData.strOk S
  rw [Array.all_eq_true']
  intro c hc
  exact decide_eq_true (h c (by simpa using hc))
theorem Sm.drop {l : List Nat} (h : Sm l) (n : Nat) : Sm (l.drop n) := fun c hc => h c (List.mem_of_mem_drop hc)
theorem dp_strs {K : PySem.W.Frag} {H : Hp} : ∀ ls : List (List Nat), DpAll K H (ls.map fun l => V.str (S l)) (ls.map fun l => PyData.str (S l))
  | [] => .nil
  | l :: r => .cons (.str _) (dp_strs r)
theorem canLay_strs : ∀ {ls : List (List Nat)}, (∀ l ∈ ls, Sm l) → PyData.canLayAll0 (ls.map fun l => PyData.str (S l)) = true
  | [], _ => rfl
  | l :: r, h => by
    show (PyData.strOk (S l) && PyData.canLayAll0 (r.map fun l => PyData.str (S l))) = true
    rw [(h l (List.mem_cons_self ..)).ok, canLay_strs fun z hz => h z (List.mem_cons_of_mem _ hz)]
    rfl
theorem depth_strs : ∀ ls : List (List Nat), PyData.depthAll (ls.map fun l => PyData.str (S l)) = 0
  | [] => rfl
  | l :: r => by
    show max 0 (PyData.depthAll (r.map fun l => PyData.str (S l))) = 0
    rw [depth_strs r]
    rfl
theorem shaped_strs {ls : List (List Nat)} (h : ∀ l ∈ ls, Sm l) : SeqAt.shaped (.list (ls.map fun l => PyData.str (S l))) = true := by
  show (PyData.canLayAll0 _ && decide (PyData.depthAll _ + 1 ≤ 64)) = true
  rw [canLay_strs h, depth_strs]
  rfl
theorem eq_strs {ls : List (List Nat)} (h : ∀ l ∈ ls, Sm l) : PyData.eqv (.list (ls.map fun l => PyData.str (S l))) (.list (ls.map fun l => PyData.str (S l))) = true :=
  PySem.SeqAt.eqv_refl _ (canLay_strs h)
/-- a text and two ints -/
def D3 (l : List Nat) (b c : Int) : PyData := .tuple [.str (S l), .int b, .int c]
theorem dp3 {K : PySem.W.Frag} {H : Hp} {a : Addr} {l : List Nat} {b c : Int} (h : SqT K H a [.str (S l), .int b, .int c]) : Dp K H (.ref a) (D3 l b c) :=
  .tup h (.cons (.str _) (.cons (.int _) (.cons (.int _) .nil)))
theorem lay3 {l : List Nat} (h : Sm l) (b c : Int) : (D3 l b c).canLay0 = true := by
  show (PyData.strOk (S l) && (true && (true && true))) = true
  rw [h.ok]
  rfl
theorem shaped3 {l : List Nat} (h : Sm l) (b c : Int) : SeqAt.shaped (D3 l b c) = true := by
  show ((D3 l b c).canLay0 && decide ((D3 l b c).depth ≤ 64)) = true
  rw [lay3 h]
  rfl
theorem eq3 {l : List Nat} (h : Sm l) (b c : Int) : PyData.eqv (D3 l b c) (D3 l b c) = true := PySem.SeqAt.eqv_refl _ (lay3 h b c)

/-! ### a if t else b -/
def AnsB (t : TT) (σ : L2.St) (H : Hp) (b : Bool) : Prop := ∀ Q : Bool → Hp → Prop, Q b H → t σ H Q
def ValB (te : TE) (σ : L2.St) (H : Hp) (P : V → Hp → Prop) : Prop := ∀ Q : VK, (∀ v H', P v H' → Q v H') → te σ H Q
theorem tif_val {t : TT} {ta tb : TE} {σ : L2.St} {H : Hp} {P : V → Hp → Prop} (b : Bool) (ht : AnsB t σ H b) (ha : b = true → ValB ta σ H P) (hb : b = false → ValB tb σ H P) : ValB (tIf t ta tb) σ H P := by
  intro Q q
  refine ht _ ?_
  cases b with
  | true =>
    rw [if_pos rfl]
    exact ha rfl Q q
  | false =>
    rw [if_neg Bool.false_ne_true]
    exact hb rfl Q q
theorem sum_le : ∀ {ls : List (List Nat)} {k : Nat}, (∀ l ∈ ls, l.length ≤ k) → ((ls.map S).map (·.length)).sum ≤ k * ls.length
  | [], k, _ => by simp
  | a :: r, k, h => by
    have ih := sum_le (ls := r) (k := k) fun l hl => h l (List.mem_cons_of_mem _ hl)
    have ha := h a (List.mem_cons_self ..)
    rw [List.map_cons, List.map_cons, List.sum_cons, S_len, List.length_cons, Nat.mul_succ]
    omega

theorem asg_if {t : TT} {ta tb : TE} {g : TG} {u : TS} {D : Ends} {σ : L2.St} {H : Hp} (P : V → Hp → Prop) (b : Bool) (ht : AnsB t σ H b) (ha : b = true → ValB ta σ H P) (hb : b = false → ValB tb σ H P)
    (hq : ∀ v H', P v H' → g v σ H' (u D)) : tSeq (tAsg (tIf t ta tb) g) u D σ H :=
  tif_val b ht ha hb (fun v H' => g v σ H' (u D)) hq
theorem go_nx {D : Ends} {σ : L2.St} {H : Hp} (q : D.nx σ H) : tNext D σ H := q
end My

/-! ### texts by their signs: what the methods tell -/
namespace My
open PySem PySem.Spec PyProof.Rows L2 PySem.StrLaws PySem.Builtin.Str
theorem from_nat (n p : Nat) : fromIndex n (p : Int) = p := by
  unfold fromIndex
  have : ¬ (p : Int) < 0 := by omega
  rw [if_neg this]
  omega
theorem to_nat (n p : Nat) : toIndexW n (p : Int) = min n p := by
  unfold toIndexW
  have : ¬ (p : Int) < 0 := by omega
  rw [if_neg this]
  omega
theorem sub_S (t w : List Nat) (i : Nat) : subAt (S t) (S w) i = ((t.drop i).take w.length == w) := by
  rw [subAt_eq, S_tl, S_tl, S_len]
theorem take_pre : ∀ (w r : List Nat), (r.take w.length == w) = w.isPrefixOf r
  | [], r => by simp [List.isPrefixOf]
  | a :: w, [] => by simp [List.isPrefixOf]
  | a :: w, b :: r => by
    show (b :: r.take w.length == a :: w) = (a == b && w.isPrefixOf r)
    rw [← take_pre w r]
    show (b == a && (r.take w.length == w)) = _
    have e : (b == a) = (a == b) := by
      by_cases h : a = b
      · rw [h]
      · rw [beq_eq_false_iff_ne.mpr h, beq_eq_false_iff_ne.mpr fun e => h e.symm]
    rw [e]
theorem pre_len : ∀ (w r : List Nat), w.isPrefixOf r = true → w.length ≤ r.length
  | [], r, _ => Nat.zero_le _
  | a :: w, [], h => by cases h
  | a :: w, b :: r, h => by
    have h2 : w.isPrefixOf r = true := (Bool.and_eq_true_iff.mp (show (a == b && w.isPrefixOf r) = true from h)).2
    have := pre_len w r h2
    simp
    omega
theorem at_S (t w : List Nat) (hw : w ≠ []) (i : Nat) : At (S t) (S w) (S t).length i ↔ w.isPrefixOf (t.drop i) = true := by
  unfold At
  rw [sub_S, take_pre, S_len, S_len]
  constructor
  · exact fun h => h.2
  · intro h
    refine ⟨?_, h⟩
    have := pre_len _ _ h
    rw [List.length_drop] at this
    have h0 : 0 < w.length := List.length_pos_iff.mpr hw
    omega
theorem starts3 (t w : List Nat) (hw : w ≠ []) (p : Nat) : Txt.startswith3 (S t) (S w) (p : Int) = w.isPrefixOf (t.drop p) := by
  unfold Txt.startswith3
  rw [from_nat, sub_S, take_pre]
  cases h : w.isPrefixOf (t.drop p) with
  | false => simp
  | true =>
    have := (at_S t w hw p).mpr h
    have h1 : p + (S w).length ≤ (S t).length := this.1
    simp [h1]
theorem starts1 (t w : List Nat) (hw : w ≠ []) : Txt.startswith (S t) (S w) = w.isPrefixOf t := by
  have := starts3 t w hw 0
  unfold Txt.startswith3 at this
  rw [from_nat, List.drop_zero] at this
  exact this
/-- the first place of w -/
def findL (w : List Nat) : List Nat → Option Nat
  | [] => if w = [] then some 0 else none
  | c :: r => if w.isPrefixOf (c :: r) = true then some 0 else (findL w r).map (· + 1)
theorem findL_some {w : List Nat} : ∀ {r : List Nat} {k : Nat}, w ≠ [] → findL w r = some k → w.isPrefixOf (r.drop k) = true ∧ ∀ j, j < k → w.isPrefixOf (r.drop j) = false
  | [], k, hw, h => by
    unfold findL at h
    rw [if_neg hw] at h
    cases h
  | c :: r, k, hw, h => by
    unfold findL at h
    split at h
    · rename_i hp
      cases h
      exact ⟨hp, fun j hj => absurd hj (Nat.not_lt_zero _)⟩
    · rename_i hp
      cases hf : findL w r with
      | none => rw [hf] at h; cases h
      | some k' =>
        rw [hf] at h
        have e : k' + 1 = k := Option.some.inj h
        subst e
        obtain ⟨h1, h2⟩ := findL_some hw hf
        refine ⟨h1, fun j hj => ?_⟩
        cases j with
        | zero => exact eq_false_of_ne_true hp
        | succ j => exact h2 j (by omega)
theorem findL_none {w : List Nat} : ∀ {r : List Nat}, w ≠ [] → findL w r = none → ∀ j, w.isPrefixOf (r.drop j) = false
  | [], hw, _, j => by
    rw [List.drop_nil]
    cases w with
    | nil => exact absurd rfl hw
    | cons a w => rfl
  | c :: r, hw, h, j => by
    unfold findL at h
    split at h
    · cases h
    · rename_i hp
      cases hf : findL w r with
      | some k => rw [hf] at h; cases h
      | none =>
        cases j with
        | zero => exact eq_false_of_ne_true hp
        | succ j => exact findL_none hw hf j
theorem find3_S (t w : List Nat) (hw : w ≠ []) (p : Nat) : Txt.find3 (S t) (S w) (p : Int) = match findL w (t.drop p) with | some k => ((p + k : Nat) : Int) | none => -1 := by
  unfold Txt.find3
  rw [from_nat]
  rcases occ_head_from (S t) (S w) p 1 (Nat.le_refl _) with ⟨h0, hn⟩ | ⟨i, r, h0, hp, ha, hn⟩
  · rw [h0]
    cases hf : findL w (t.drop p) with
    | none => rfl
    | some k =>
      have h1 := (findL_some hw hf).1
      rw [List.drop_drop] at h1
      exact absurd ((at_S t w hw (p + k)).mpr h1) (hn (p + k) (by omega))
  · rw [h0]
    have ha' := (at_S t w hw i).mp ha
    cases hf : findL w (t.drop p) with
    | none =>
      have h1 := findL_none hw hf (i - p)
      rw [List.drop_drop, show p + (i - p) = i by omega, ha'] at h1
      cases h1
    | some k =>
      obtain ⟨h1, h2⟩ := findL_some hw hf
      rw [List.drop_drop] at h1
      have e : i = p + k := by
        rcases Nat.lt_trichotomy i (p + k) with h | h | h
        · have h3 := h2 (i - p) (by omega)
          rw [List.drop_drop, show p + (i - p) = i by omega, ha'] at h3
          cases h3
        · exact h
        · exact absurd ((at_S t w hw (p + k)).mpr h1) (hn (p + k) (by omega) h)
      show ((i : Nat) : Int) = _
      rw [e]
/-- one text in another -/
def inL (w r : List Nat) : Bool := (findL w r).isSome
theorem in_S (t w : List Nat) (hw : w ≠ []) : (!(occurrences (S t) (S w) 0 (S t).length 1).isEmpty) = inL w t := by
  have h := find3_S t w hw 0
  unfold Txt.find3 at h
  rw [from_nat, List.drop_zero] at h
  unfold inL
  cases ho : occurrences (S t) (S w) 0 (S t).length 1 with
  | nil =>
    rw [ho] at h
    cases hf : findL w t with
    | none => rfl
    | some k =>
      rw [hf] at h
      have h' : (-1 : Int) = ((0 + k : Nat) : Int) := h
      omega
  | cons a b =>
    rw [ho] at h
    cases hf : findL w t with
    | none =>
      rw [hf] at h
      have h' : ((a : Nat) : Int) = -1 := h
      omega
    | some k => rfl
/-- signs counted -/
theorem occ_count (t : List Nat) (c hi limit : Nat) : ∀ (n a : Nat) (st : Array Nat × Nat), st.2 ≤ a → st.1.size + n ≤ limit → hi ≤ t.length → a + n = hi + 1 ∨ (n = 0 ∧ hi < a) →
    (forIn (List.range' a n) st (occBody (S t) (S [c]) hi limit)).run.fst.size = st.1.size + ((t.drop a).take (hi - a)).count c
  | 0, a, st, h1, h2, h3, h4 => by
    have : hi - a = 0 := by omega
    rw [this]
    simp
  | n + 1, a, st, h1, h2, h3, h4 => by
    rw [List.range'_succ, List.forIn_cons]
    have hl : (S [c]).length = 1 := S_len _
    have stay : ¬ (((st.1.size < limit ∧ st.2 ≤ a) ∧ a + (S [c]).length ≤ hi) ∧ subAt (S t) (S [c]) a = true) →
        (occBody (S t) (S [c]) hi limit a st) = pure (ForInStep.yield st) := fun z => by
      unfold occBody
      rw [if_neg z]
    by_cases ha : a < hi
    · have hat : a < t.length := by omega
      have hd : t.drop a = t[a] :: t.drop (a + 1) := List.drop_eq_getElem_cons hat
      have hs : hi - a = (hi - (a + 1)) + 1 := by omega
      have hsub : subAt (S t) (S [c]) a = (t[a] == c) := by
        rw [sub_S, hd]
        show (t[a] :: (t.drop (a + 1)).take 0 == [c]) = _
        rw [List.take_zero]
        by_cases h : t[a] = c <;> simp [h]
      have hcnt : ((t.drop a).take (hi - a)).count c = ((t.drop (a + 1)).take (hi - (a + 1))).count c + if t[a] == c then 1 else 0 := by
        rw [hd, hs, List.take_succ_cons, List.count_cons]
      rw [hcnt]
      by_cases hc : t[a] = c
      · have e : occBody (S t) (S [c]) hi limit a st = pure (ForInStep.yield (st.1.push a, a + (S [c]).length)) := by
          unfold occBody
          rw [if_pos ⟨⟨⟨by omega, h1⟩, by omega⟩, by rw [hsub]; simp [hc]⟩]
        rw [e, hl]
        have ih := occ_count t c hi limit n (a + 1) (st.1.push a, a + 1) (Nat.le_refl _) (by rw [Array.size_push]; omega) h3 (by omega)
        have e1 : (if t[a] == c then 1 else 0) = 1 := by rw [hc]; simp
        rw [e1]
        refine Eq.trans ih ?_
        rw [Array.size_push]
        omega
      · rw [stay (fun z => by have := z.2; rw [hsub] at this; simp at this; exact hc this)]
        have ih := occ_count t c hi limit n (a + 1) st (by omega) (by omega) h3 (by omega)
        have e1 : (if t[a] == c then 1 else 0) = 0 := by simp [hc]
        rw [e1]
        exact ih
    · rw [stay (fun z => by have := z.1.2; omega)]
      have ih := occ_count t c hi limit n (a + 1) st (by omega) (by omega) h3 (by omega)
      have e0 : hi - a = 0 := by omega
      have e1 : hi - (a + 1) = 0 := by omega
      rw [e1] at ih
      rw [e0]
      refine Eq.trans ih ?_
      simp
theorem count_S (t : List Nat) (c p e : Nat) (he : e ≤ t.length) (hp : p ≤ e) : Txt.countIn (S t) (S [c]) (p : Int) (e : Int) = (((t.drop p).take (e - p)).count c : Nat) := by
  unfold Txt.countIn
  rw [from_nat, to_nat, S_len, Nat.min_eq_right he, occ_eq]
  have h := occ_count t c e (t.length + 1) (e + 1 - p) p (#[], p) (Nat.le_refl _) (by simp; omega) he (by omega)
  rw [Array.length_toList]
  congr 1
  rw [h]
  simp
/-- blank: nothing but such signs -/
theorem tw_all {g : Nat → Bool} : ∀ {t : List Nat}, t.all g = true → t.takeWhile g = t
  | [], _ => rfl
  | a :: r, h => by
    have h2 := Bool.and_eq_true_iff.mp (show (g a && r.all g) = true from h)
    rw [List.takeWhile_cons, if_pos h2.1, tw_all h2.2]
theorem tw_not {g : Nat → Bool} : ∀ {t : List Nat}, t.all g = false → ∃ c r, t.drop (t.takeWhile g).length = c :: r ∧ g c = false
  | [], h => by cases h
  | a :: r, h => by
    rw [List.takeWhile_cons]
    cases hg : g a with
    | false => exact ⟨a, r, by simp, hg⟩
    | true =>
      have h2 : r.all g = false := by
        have : (g a && r.all g) = false := h
        rw [hg] at this
        simpa using this
      obtain ⟨c, r', h3, h4⟩ := tw_not h2
      exact ⟨c, r', by simpa using h3, h4⟩
theorem strip_nil (t w : List Nat) : ((Txt.stripChars (S t) (S w)).cps.toList = []) ↔ t.all (fun c => w.contains c) = true := by
  have hg : (S w).cps.contains = fun c => w.contains c := by
    funext c
    simp [S]
  unfold Txt.stripChars Txt.stripBy stripSame stripped stripLo stripHi
  rw [hg]
  simp only [if_true]
  rw [S_tl, S_len]
  cases h : t.all (fun c => w.contains c) with
  | true =>
    have e := tw_all h
    rw [e, List.drop_length]
    simp only [List.reverse_nil, List.takeWhile_nil, List.length_nil, Nat.sub_zero]
    have key : (if (t.length == 0 && t.length == t.length) = true then S t else strSub (S t) t.length t.length).cps.toList = [] := by
      by_cases h0 : (t.length == 0 && t.length == t.length) = true
      · rw [if_pos h0, S_tl]
        have h1 : t.length = 0 := by simpa using h0
        exact List.length_eq_zero_iff.mp h1
      · rw [if_neg h0, strSub_toList, Nat.sub_self, List.take_zero]
    exact ⟨fun _ => trivial, fun _ => key⟩
  | false =>
    constructor
    · intro h0
      exfalso
      obtain ⟨c, r, h1, h2⟩ := tw_not h
      have hlen : (t.takeWhile (fun c => w.contains c)).length < t.length := by
        have := congrArg List.length h1
        rw [List.length_drop, List.length_cons] at this
        omega
      split at h0
      · rw [S_tl] at h0
        rw [h0] at hlen
        simp at hlen
      · rw [strSub_toList, S_tl, h1] at h0
        have hr : ((c :: r).reverse.takeWhile (fun c => w.contains c)).length ≤ r.length := by
          rw [List.reverse_cons]
          by_cases hall : r.reverse.all (fun c => w.contains c) = true
          · rw [List.takeWhile_append_of_pos (by simpa using hall), List.takeWhile_cons, if_neg (by rw [h2]; exact Bool.false_ne_true)]
            simp
          · obtain ⟨x, y, h5, h6⟩ := tw_not (eq_false_of_ne_true hall)
            have h7 : (r.reverse.takeWhile (fun c => w.contains c)).length < r.reverse.length := by
              have := congrArg List.length h5
              rw [List.length_drop] at this
              simp at this
              simp
              omega
            have h8 : (r.reverse ++ [c]).takeWhile (fun c => w.contains c) = r.reverse.takeWhile (fun c => w.contains c) := by
              have e := List.takeWhile_append (p := fun c => w.contains c) (xs := r.reverse) (ys := [c])
              rw [e, if_neg (by omega)]
            rw [h8]
            have := List.length_reverse (as := r)
            omega
        have h9 : (c :: r).length = t.length - (t.takeWhile (fun c => w.contains c)).length := by
          rw [← h1, List.length_drop]
        have h10 := congrArg List.length h0
        rw [List.length_take] at h10
        simp only [List.length_cons, List.length_nil] at h10 h9
        omega
    · intro h1
      cases h1
theorem strip_blank (t w : List Nat) : decide (V.str (Txt.stripChars (S t) (S w)) = V.str (S [])) = t.all (fun c => w.contains c) := by
  rw [S_of (Txt.stripChars (S t) (S w)), S_dec]
  cases h : t.all (fun c => w.contains c) with
  | true => exact decide_eq_true ((strip_nil t w).mpr h)
  | false => exact decide_eq_false fun z => by rw [(strip_nil t w).mp z] at h; cases h
/-- small letters, great letters -/
theorem lower_S (t : List Nat) (h : ∀ c ∈ t, c < 128) : Txt.lower (S t) = S (t.map lo1) := by
  rw [lower_ascii (by rw [S_tl]; exact h)]
  show (⟨t.toArray.map lo1⟩ : Str) = ⟨(t.map lo1).toArray⟩
  simp
theorem upper_S (t : List Nat) (h : ∀ c ∈ t, c < 128) : Txt.upper (S t) = S (t.map up1) := by
  rw [upper_ascii (by rw [S_tl]; exact h)]
  show (⟨t.toArray.map up1⟩ : Str) = ⟨(t.map up1).toArray⟩
  simp
end My

/-! ### text.endswith((a, b, c)) -/
namespace PySem
open Sem (wp)
open Builtin Builtin.Str
theorem ends3_meets (x a b c : Str) (t ta tb tc : Tok) (p : Addr) (o : Obj) (n : Nat) :
    Meets (Builtin.«str.endswith» ⟨[.str x t, .ref p], []⟩) (fun _ R s => s.heap.get? p = some o ∧ o.cls = .type "tuple" ∧ o.data = .seq #[.str a ta, .str b tb, .str c tc] n ∧
      R (.ok (.ret (.bool (Txt.endswith x a || (Txt.endswith x b || Txt.endswith x c))))) s) :=
  Meets.of_wp fun prog w A R s hs => by
    obtain ⟨hp, g, d, tk, os⟩ := s
    obtain ⟨ho, hc, hd, hs⟩ := hs
    obtain ⟨cls, dd, dt, sl⟩ := o
    simp only at hc hd ho
    subst hc hd
    have hT : (⟨hp, g, d, tk, os⟩ : Shared).TypeIs (.ref p) "tuple" := ⟨_, ho, rfl⟩
    have ht := isSubtype_tuple_tuple
    have e0 : ∃ f : Str → Nat → Nat → Str → Bool, Builtin.«str.endswith» ⟨[.str x t, .ref p], []⟩ = affixEntry "endswith" f ⟨[.str x t, .ref p], []⟩ ∧ ∀ y : Str, f x (0 : Int).toNat (min (x.length : Int).toNat x.length) y = Txt.endswith x y :=
      ⟨_, rfl, fun y => by
        have em : (min (x.length : Int).toNat x.length) = x.length := by simp
        rw [em]
        rfl⟩
    obtain ⟨f, e0, hf⟩ := e0
    rw [e0]
    unfold affixEntry
    repeat (any_goals (first | assumption | wp_step))
    simp only [hf]
    cases ha : Txt.endswith x a
    · simp only [Bool.false_eq_true, if_false]
      repeat (any_goals (first | assumption | wp_step))
      cases hb : Txt.endswith x b
      · simp only [Bool.false_eq_true, if_false]
        repeat (any_goals (first | assumption | wp_step))
        cases hc : Txt.endswith x c
        · simp only [Bool.false_eq_true, if_false]
          repeat (any_goals (first | assumption | wp_step))
          rw [ha, hb, hc] at hs
          exact ⟨_, rfl, hs⟩
        · simp only [if_true]
          repeat (any_goals (first | assumption | wp_step))
          rw [ha, hb, hc] at hs
          exact ⟨_, rfl, hs⟩
      · simp only [if_true]
        repeat (any_goals (first | assumption | wp_step))
        rw [ha, hb] at hs
        exact ⟨_, rfl, hs⟩
    · simp only [if_true]
      repeat (any_goals (first | assumption | wp_step))
      rw [ha] at hs
      exact ⟨_, rfl, hs⟩
end PySem
namespace My
open PySem PySem.Spec PyProof.Rows L2
/-- text.endswith((a, b, c)) -/
theorem mt_ends3 {X : Cx} : MtR X "str.endswith" (fun x xs H Q => ∃ (y a b c : Str) (p : Addr), x = .str y ∧ xs = [.ref p] ∧ SqT X.K H p [.str a, .str b, .str c] ∧ Q (.bl (Txt.endswith y a || (Txt.endswith y b || Txt.endswith y c))) H) := by
  intro pins s σ H x xs v us Q I rx rs h
  obtain ⟨y, a, b, c, p, rfl, rfl, hq, q⟩ := h
  obtain ⟨t, rfl⟩ := rx
  cases rs with
  | cons r1 rs =>
    cases rs
    cases r1
    obtain ⟨its, r, pl, hz⟩ := I.tuple hq
    obtain ⟨o, ho, hc, n, hd⟩ := pl
    cases r with
    | cons ra r => cases r with
      | cons rb r => cases r with
        | cons rc r =>
          cases r
          obtain ⟨ta, rfl⟩ := ra
          obtain ⟨tb, rfl⟩ := rb
          obtain ⟨tc, rfl⟩ := rc
          exact call_meets F.slot_str_endswith (typeIs_str _ _ _) F.entry_str_endswith (F.args_str_endswith_2 _ _) (ends3_meets y a b c t ta tb tc p o n) ⟨ho, hc, hd, .bl _, H, I, rfl, q⟩
end My

/-! ### more words: a written dict of texts, update, int by a base, find up to an end -/
namespace My
open PySem PySem.Spec PyProof.Rows L2 PySem.StrLaws PySem.Builtin.Str
/-! a written dict of the module, its keys texts -/
def EntS : List DictEntry → List (Str × V) → Prop
  | [], [] => True
  | e :: es, p :: ps => (∃ t, e.key = .str p.1 t) ∧ RelV p.2 e.val ∧ EntS es ps
  | _, _ => False
structure KDictS (K : PySem.W.Frag) (w : World) (d : Addr) (ps : List (Str × V)) : Prop where
  here : ∃ es n, KDict K w d es n ∧ EntS es.toList ps
theorem entS_find (k : Str) : ∀ {es : List DictEntry} {ps : List (Str × V)}, EntS es ps →
    match ps.lookup k with
    | none => (es.find? fun e => Value.isStrOf k e.key).map (·.val) = none
    | some v => ∃ u, (es.find? fun e => Value.isStrOf k e.key).map (·.val) = some u ∧ RelV v u
  | [], [], _ => rfl
  | [], _ :: _, h => h.elim
  | _ :: _, [], h => h.elim
  | e :: es, p :: ps, ⟨⟨t, h1⟩, h2, r⟩ => by
    have ih := entS_find k r
    rw [List.find?_cons, List.lookup_cons, h1]
    by_cases h : k = p.1
    · subst h
      have e1 : Value.isStrOf p.1 (.str p.1 t) = true := by simp [Value.isStrOf]
      rw [e1, beq_self_eq_true]
      exact ⟨_, rfl, h2⟩
    · have e1 : Value.isStrOf k (.str p.1 t) = false := by
        cases q : Value.isStrOf k (.str p.1 t) with
        | false => rfl
        | true =>
          obtain ⟨t', e⟩ := Value.isStrOf_shape q
          cases e
          exact absurd rfl h
      rw [e1, beq_eq_false_iff_ne.mpr h]
      exact ih
section
variable {X : Cx} {d : Addr} {ps : List (Str × V)}
theorem kds_map {prog : Program} {w : World} {h : Heap} {K : PySem.W.Frag} (D : KDictS K w d ps) (I : K.In h) (k : Str) : (d == sysModules) = false ∧ ∃ f : Str → Option Value, h.MapOf (strKind prog w) d f ∧
    match ps.lookup k with
    | none => f k = none
    | some v => ∃ u, f k = some u ∧ RelV v u := by
  obtain ⟨es, n, D, he⟩ := D.here
  refine ⟨D.low, _, PySem.W.mapOf_K (prog := prog) I D.at_ D.lit, ?_⟩
  have := entS_find k he
  obtain ⟨l⟩ := es
  simpa only [findBy, List.find?_toArray] using this
theorem op_in_ks (D : KDictS X.K X.w d ps) : OpR X (compareOp .In) (fun x y H Q => ∃ z : Str, x = .str z ∧ y = .ref d ∧ Q (.bl (ps.lookup z).isSome) H) := by
  intro pins s σ H x y v u Q I rx ry h
  obtain ⟨z, rfl, rfl, q⟩ := h
  obtain ⟨t, rfl⟩ := rx
  cases ry
  obtain ⟨low, f, hm, hf⟩ := kds_map (prog := X.prog) D I.kIn z
  refine wpAny_in_of (PySem.strKind_is X.prog X.w z t) low hm ?_
  refine ⟨.bl (ps.lookup z).isSome, H, I.tok _, ?_, q⟩
  show Value.bool _ = Value.bool _
  cases e : ps.lookup z with
  | none => rw [e] at hf; rw [show f z = none from hf]; rfl
  | some v => rw [e] at hf; obtain ⟨u, h1, _⟩ := hf; rw [h1]; rfl
theorem op_notIn_ks (D : KDictS X.K X.w d ps) : OpR X (compareOp .NotIn) (fun x y H Q => ∃ z : Str, x = .str z ∧ y = .ref d ∧ Q (.bl (!(ps.lookup z).isSome)) H) := by
  intro pins s σ H x y v u Q I rx ry h
  obtain ⟨z, rfl, rfl, q⟩ := h
  obtain ⟨t, rfl⟩ := rx
  cases ry
  obtain ⟨low, f, hm, hf⟩ := kds_map (prog := X.prog) D I.kIn z
  refine wpAny_notIn_of (PySem.strKind_is X.prog X.w z t) low hm ?_
  refine ⟨.bl (!(ps.lookup z).isSome), H, I.tok _, ?_, q⟩
  show Value.bool _ = Value.bool _
  cases e : ps.lookup z with
  | none => rw [e] at hf; rw [show f z = none from hf]; rfl
  | some v => rw [e] at hf; obtain ⟨u, h1, _⟩ := hf; rw [h1]; rfl
theorem ix_ks (D : KDictS X.K X.w d ps) : IxR X (fun x y H Q => ∃ (z : Str) (v : V), x = .ref d ∧ y = .str z ∧ ps.lookup z = some v ∧ Q v H) := by
  intro value slice pins s σ H x y v u Q I rx ry h hs
  obtain ⟨z, a, rfl, rfl, e, q⟩ := h
  obtain rfl : v = Value.ref d := rx
  obtain ⟨t, rfl⟩ := ry
  obtain ⟨low, f, hm, hf⟩ := kds_map (prog := X.prog) D I.kIn z
  rw [e] at hf
  obtain ⟨u, h1, ru⟩ := hf
  exact tail_any hm.typeIs slot_dict_getitem.lookup (wpAny_getItem_of (strKind_is X.prog X.w z t) hm h1 ⟨a, H, I.tok _, ru, q⟩) hs
/-- NAMES.get(key) -/
theorem pe_kget {o e : Expr} {to te : TE} {apos cpos : Pos} (D : KDictS X.K X.w d ps) (ho : PE X o to) (he : PE X e te) (m : M1 X o "get" apos e cpos) :
    PE X (.Call (.Attribute o "get" apos) [e] [] cpos) (fun σ H Q => to σ H fun x H1 => x = .ref d ∧ te σ H1 fun y H2 => ∃ z : Str, y = .str z ∧ Q ((ps.lookup z).getD .non) H2) := by
  refine ⟨fun pins s σ H Q I h => ?_⟩
  refine wpAny_Call_method m.base m.few m.line PySem.F.plainAttrs_dict PySem.F.slot_dict_get PySem.F.type_dict_get (thn (ho.run pins s σ H _ I h) fun u s1 ⟨x, H1, I1, rx, ex, q1⟩ => ?_)
  subst ex
  obtain rfl : u = Value.ref d := rx
  obtain ⟨low, f, hm, hf⟩ := kds_map (prog := X.prog) D I1.kIn ""
  refine ⟨hm.typeIs, hm.noDict, ?_⟩
  rw [m.trees]
  refine Calls.callWith_builtin rfl (Calls.evalArgs_plain (Calls.spliced_cons (thn (he.run pins s1 σ H1 _ I1 q1) fun iv s2 ⟨y, H2, I2, ry, z, ez, q2⟩ => Calls.spliced_nil ?_)))
  subst ez
  obtain ⟨t, rfl⟩ := ry
  obtain ⟨low, f, hm, hf⟩ := kds_map (prog := X.prog) D I2.kIn z
  refine call_meetsIn PySem.F.slot_dict_get hm.typeIs PySem.F.entry_dict_get (PySem.F.args_dict_get_2 _ _) (meets_dict_get (strKind X.prog X.w) d (strKind_is X.prog X.w z t) low) ⟨_, hm, ?_⟩
  refine ⟨(ps.lookup z).getD .non, H2, I2.tok _, ?_, q2⟩
  cases e : ps.lookup z with
  | none => rw [e] at hf; rw [show f z = none from hf]; rfl
  | some v => rw [e] at hf; obtain ⟨u, h1, r⟩ := hf; rw [h1]; exact r
end
/-! d.update(e) -/
def rUpd : V → List V → Hp → VK → Prop := fun x vs H Q => ∃ (a b : Addr) (kvs more : List (Key × V)), x = .ref a ∧ vs = [.ref b] ∧ a ≠ b ∧ H a = some (.dK kvs) ∧ H b = some (.dK more) ∧ kvs.length + more.length ≤ 1000 ∧
  Q .non (upd H a (.dK (mergeK kvs more)))
theorem mtd_update {X : Cx} : MtR X "dict.update" rUpd := by
  intro pins s σ H x vs v us Q I rx rv h
  obtain ⟨a, b, kvs, more, ex, ev, hne, e, e2, hl, q⟩ := h
  subst ex
  subst ev
  obtain rfl : v = Value.ref a := rx
  obtain ⟨u, rfl, ru⟩ := rv.one
  obtain rfl : u = Value.ref b := ru
  obtain ⟨z, hd, vs1, rel, dd⟩ := dk_of I.hok e
  obtain ⟨z2, hd2, vs2, rel2, dd2⟩ := dk_of I.hok e2
  have hz : (mergeK kvs more).length ≤ sizeLine := by
    have h1 := length_mergeK more kvs
    rw [sizeLine_eq]
    omega
  refine call_meetsIn PySem.F.slot_dict_update dd.typeIs PySem.F.entry_dict_update (PySem.F.args_dict_update_2 _ _) (meets_dict_update (mixKind X.prog X.w) a b hne hd2)
    ⟨vs1, vs2, dd, dd2, by rw [← rel.length, ← rel2.length, sizeLine_eq]; omega, fun h' dd' _ hs => ?_⟩
  have he : ∃ q, h'.get? a = some q := let ⟨q, _, _, hq, _⟩ := dd'; ⟨q, hq⟩
  exact ⟨.non, _, d_write (t' := s.toks) I (by rw [e]; exact True.intro) hs he (dk_new hz hd (rel2.merge rel) dd'), rfl, q⟩
/-! find up to an end -/
theorem occ_take (t w : List Nat) (lo hi : Nat) (h : hi ≤ t.length) : occurrences (S t) (S w) lo hi 1 = occurrences (S (t.take hi)) (S w) lo hi 1 := by
  rw [occ_eq, occ_eq]
  have e : occBody (S t) (S w) hi 1 = occBody (S (t.take hi)) (S w) hi 1 := by
    funext i st
    unfold occBody
    by_cases hc : i + (S w).length ≤ hi
    · have e2 : subAt (S t) (S w) i = subAt (S (t.take hi)) (S w) i := by
        rw [S_len] at hc
        rw [sub_S, sub_S, List.drop_take, List.take_take, Nat.min_eq_left (by omega)]
      rw [e2]
    · rw [if_neg fun z => hc z.1.2, if_neg fun z => hc z.1.2]
  rw [e]
theorem findIn_S (t w : List Nat) (hw : w ≠ []) (p j : Nat) : Txt.findIn (S t) (S w) (p : Int) ((p + j : Nat) : Int) = match findL w ((t.drop p).take j) with | some k => ((p + k : Nat) : Int) | none => -1 := by
  unfold Txt.findIn
  rw [from_nat, to_nat, S_len]
  by_cases hp : p ≤ t.length
  · have h1 : min t.length (p + j) ≤ t.length := Nat.min_le_left _ _
    rw [occ_take t w p _ h1]
    have h2 := find3_S (t.take (min t.length (p + j))) w hw p
    unfold Txt.find3 at h2
    rw [from_nat, S_len, List.length_take, Nat.min_eq_left h1, List.drop_take] at h2
    have e : (t.drop p).take (min t.length (p + j) - p) = (t.drop p).take j := by
      by_cases hj : p + j ≤ t.length
      · rw [Nat.min_eq_right hj, Nat.add_sub_cancel_left]
      · rw [Nat.min_eq_left (by omega), List.take_of_length_le (by rw [List.length_drop]; omega), List.take_of_length_le (by rw [List.length_drop]; omega)]
    rw [e] at h2
    exact h2
  · rw [List.drop_of_length_le (by omega), List.take_nil]
    have hn : findL w [] = none := by
      unfold findL
      rw [if_neg hw]
    rw [hn, Nat.min_eq_left (by omega)]
    have : occurrences (S t) (S w) p t.length 1 = [] := by
      have h2 := find3_S t w hw p
      unfold Txt.find3 at h2
      rw [from_nat, List.drop_of_length_le (by omega), hn, S_len] at h2
      cases ho : occurrences (S t) (S w) p t.length 1 with
      | nil => rfl
      | cons a b =>
        rw [ho] at h2
        have h3 : ((a : Nat) : Int) = -1 := h2
        omega
    rw [this]
/-! int(text, 10) -/
open PySem.NumText PySem.Calls
def IsDec (c : Nat) : Prop := 48 ≤ c ∧ c ≤ 57
def decNum (l : List Nat) : Nat := l.foldl (fun a c => a * 10 + (c - 48)) 0
theorem step_dec {ds : Array Nat} {b : Bool} {c : Nat} (h : IsDec c) : PySem.NumText.step 10 (ds, b) c = some (ds.push (c - 48), true) := by
  unfold IsDec at h
  unfold PySem.NumText.step
  rw [if_neg (by rw [beq_iff_eq]; omega)]
  have e : digit? c = some (c - 48) := by
    unfold digit?
    rw [if_pos (Hx.bb h.1 h.2)]
  rw [e]
  exact if_pos (by omega)
theorem foldl_dec : ∀ (cs : List Nat) (ds : Array Nat), (∀ c ∈ cs, IsDec c) → cs.foldlM (PySem.NumText.step 10) (ds, true) = some (cs.foldl (fun acc c => acc.push (c - 48)) ds, true)
  | [], _, _ => rfl
  | c :: cs, ds, h => by
    rw [List.foldlM_cons, step_dec (h c (List.mem_cons_self ..))]
    show cs.foldlM (PySem.NumText.step 10) (ds.push (c - 48), true) = _
    exact foldl_dec cs (ds.push (c - 48)) fun d hd => h d (List.mem_cons_of_mem _ hd)
theorem digits_dec {cs : List Nat} (h : ∀ c ∈ cs, IsDec c) (hne : cs ≠ []) : digits? 10 cs = some (cs.foldl (fun acc c => acc.push (c - 48)) #[]) := by
  cases cs with
  | nil => exact absurd rfl hne
  | cons c cs =>
    unfold digits?
    rw [List.foldlM_cons, step_dec (h c (List.mem_cons_self ..))]
    show (cs.foldlM (PySem.NumText.step 10) ((#[] : Array Nat).push (c - 48), true)).bind _ = _
    rw [foldl_dec cs _ fun d hd => h d (List.mem_cons_of_mem _ hd)]
    rfl
theorem push_dec : ∀ (cs : List Nat) (ds : Array Nat), (cs.foldl (fun acc c => acc.push (c - 48)) ds).foldl (fun acc d => acc * 10 + d) 0 = cs.foldl (fun a c => a * 10 + (c - 48)) (ds.foldl (fun acc d => acc * 10 + d) 0)
  | [], _ => rfl
  | c :: cs, ds => by
    rw [List.foldl_cons, push_dec cs (ds.push (c - 48)), List.foldl_cons]
    congr 1
    simp
theorem dec_hex {cs : List Nat} (h : ∀ c ∈ cs, IsDec c) : ∀ c ∈ cs, Hx.IsHex c := fun c hc => .inl (h c hc)
theorem size_dec : ∀ (cs : List Nat) (ds : Array Nat), (cs.foldl (fun acc c => acc.push (c - 48)) ds).size = ds.size + cs.length
  | [], ds => rfl
  | c :: cs, ds => by
    rw [List.foldl_cons, size_dec cs (ds.push (c - 48)), Array.size_push, List.length_cons]
    omega
theorem read_dec {cs : List Nat} (h : ∀ c ∈ cs, IsDec c) (hne : cs ≠ []) (hl : cs.length ≤ 640) : (int_private% "readNumeral") 0 10 cs = (int_private% "Numeral.value") ((decNum cs : Nat) : Int) := by
  have hr : ∀ c ∈ cs.reverse, IsDec c := fun c hc => h c (List.mem_reverse.mp hc)
  refine (readNumeral_eq 0 10 cs).trans ?_
  rw [Hx.dropB (dec_hex h), Hx.signH (dec_hex h)]
  show judge 0 false (based 10 cs).1 (based 10 cs).2.1 (digits? (based 10 cs).1 (((based 10 cs).2.2.reverse.dropWhile blank).reverse)) = _
  rw [based_ten]
  show judge 0 false 10 false (digits? 10 ((cs.reverse.dropWhile blank).reverse)) = _
  rw [Hx.dropB (dec_hex hr), List.reverse_reverse, digits_dec h hne]
  have hz : ¬ ((10 : Nat) == 10 && (cs.foldl (fun acc c => acc.push (c - 48)) (#[] : Array Nat)).size > 6000) = true := by
    rw [size_dec]
    simp
    omega
  have ej : judge 0 false 10 false (some (cs.foldl (fun acc c => acc.push (c - 48)) #[])) = (if ((10 : Nat) == 10 && (cs.foldl (fun acc c => acc.push (c - 48)) (#[] : Array Nat)).size > 6000) = true then (int_private% "Numeral.byTheLibrary") else (int_private% "Numeral.value") (((cs.foldl (fun acc c => acc.push (c - 48)) (#[] : Array Nat)).foldl (fun acc d => acc * 10 + d) 0 : Nat) : Int)) := rfl
  rw [ej, if_neg hz]
  show (int_private% "Numeral.value") (((cs.foldl (fun acc c => acc.push (c - 48)) (#[] : Array Nat)).foldl (fun acc d => acc * 10 + d) 0 : Nat) : Int) = _
  have z : (#[] : Array Nat).foldl (fun acc d => acc * 10 + d) 0 = 0 := by first | rfl | simp
  rw [push_dec, z] <;> rfl
structure Hid (p : Prop) : Prop where
  out : p
set_option maxHeartbeats 4000000 in
theorem gives_dec {x : PySem.Str} {u t : Tok} (hl : x.length ≤ 640) (h : ∀ c ∈ x.cps.toList, IsDec c) (hne : x.cps.toList ≠ []) :
    Gives (Builtin.«int.__new__» ⟨[.type "int", .str x u, .int 10 t], []⟩) (.int ((decNum x.cps.toList : Nat) : Int)) :=
  .of_wp fun M A E s Q hQ => by
    obtain ⟨hp, g, d, tk, os⟩ := s
    have f1 := F.conv_sub_int
    have f2 := F.madeHere_int
    have f6 : typeOf (.str x u) = pure (.type "str") := rfl
    obtain ⟨e1, e2⟩ := Hx.seen_hex (dec_hex h)
    have hs : (numSeenOf x).length ≤ 640 := by
      rw [e2, Array.length_toList]
      exact hl
    have hr : (int_private% "readNumeral") 0 10 (numSeenOf x) = (int_private% "Numeral.value") ((decNum x.cps.toList : Nat) : Int) := by
      rw [e2]
      exact read_dec h hne (by rw [Array.length_toList]; exact hl)
    have ha : ((numSeenOf x).length == (numTextOf x).length) = true := by
      rw [e1, e2]
      exact beq_self_eq_true _
    have hk := Hid.mk (And.intro hs (And.intro hr ha))
    clear hs hr ha e1 e2 hl hne h
    repeat (any_goals (first
      | assumption
      | ((with_reducible show wpAny _ _ ((int_private% "intFromText") _ _ _) _ _ _); refine Hx.wp_textB hk.out.1 hk.out.2.1 hk.out.2.2 ?_)
      | wp_step))
    all_goals first | exact ⟨_, rfl, hQ⟩ | skip
theorem call_dec {prog : Program} {w : World} {A : Around} {E : Value → Shared → Prop} {s : Shared} {Q : Value → Shared → Prop} {x : PySem.Str} {u t : Tok} (hl : x.length ≤ 640) (h : ∀ c ∈ x.cps.toList, IsDec c) (hne : x.cps.toList ≠ [])
    (hQ : Q (.int ((decNum x.cps.toList : Nat) : Int) s.toks) { s with toks := s.toks + 1 }) : wpAny (model prog w) A (call (.type "int") [.str x u, .int 10 t]) Q E s :=
  callType_new F.called_int F.newNe_int (Hx.typeCall_int_2 _ _) (Hx.newCall_int_2 _ _) (fun obj => F.initArgs_range_2 obj _ _) F.entry_int_new (gives_dec hl h hne).meets (show (Made.int ((decNum x.cps.toList : Nat) : Int)).post _ s from ⟨rfl, hQ⟩)
/-- int(text, base) of base 10 and 16 -/
def IsB (B : Nat) (c : Nat) : Prop := if B = 16 then Hx.IsHex c else IsDec c
def numB (B : Nat) (l : List Nat) : Nat := if B = 16 then Hx.hexNum l else decNum l
theorem call_int_base {X : Cx} : CallR X (.type "int") (fun xs H Q => ∃ (l : List Nat) (B : Nat), xs = [.str (S l), .int (B : Int)] ∧ (B = 10 ∨ B = 16) ∧ l ≠ [] ∧ l.length ≤ 640 ∧ (∀ c ∈ l, IsB B c) ∧ Q (.int ((numB B l : Nat) : Int)) H) := by
  intro pins s σ H xs us Q I r h
  obtain ⟨l, B, rfl, hB, hne, hl, hx, q⟩ := h
  obtain ⟨u, w', rfl, r1, r2⟩ := vals2 r
  obtain ⟨t1, rfl⟩ := r1
  obtain ⟨t2, rfl⟩ := r2
  rcases hB with rfl | rfl
  · exact call_dec (x := S l) (by rw [S_len]; exact hl) (by rw [S_tl]; exact hx) (by rw [S_tl]; exact hne) ⟨.int ((numB 10 l : Nat) : Int), H, I.tok _, ⟨_, by rw [S_tl]; rfl⟩, q⟩
  · exact Hx.call_hex (x := S l) (by rw [S_len]; exact hl) (by rw [S_tl]; exact hx) (by rw [S_tl]; exact hne) ⟨.int ((numB 16 l : Nat) : Int), H, I.tok _, ⟨_, by rw [S_tl]; rfl⟩, q⟩
/-! strip signs at the begin -/
theorem lstrip_S (t w : List Nat) : Txt.lstripChars (S t) (S w) = S (t.drop (t.takeWhile (fun c => w.contains c)).length) := by
  have hg : (S w).cps.contains = fun c => w.contains c := by
    funext c
    simp [S]
  unfold Txt.lstripChars Txt.stripBy stripSame stripped stripLo stripHi
  rw [hg]
  simp only [if_true, Bool.false_eq_true, if_false]
  rw [S_tl, S_len]
  have key : ∀ k : Nat, strSub (S t) k t.length = S (t.drop k) := by
    intro k
    rw [S_of (strSub (S t) k t.length), strSub_toList, S_tl]
    congr 1
    exact List.take_of_length_le (by rw [List.length_drop]; omega)
  split
  · rename_i h
    have h0 : (t.takeWhile (fun c => w.contains c)).length = 0 := by
      have := (Bool.and_eq_true_iff.mp h).1
      exact eq_of_beq this
    rw [h0, List.drop_zero]
  · exact key _
end My

/-! ### joined texts -/
namespace My
open PySem PySem.Spec PyProof.Rows L2
theorem join_S (sep : List Nat) (ls : List (List Nat)) : Txt.join (S sep) (ls.map S) = S (TL.joinL sep ls) := by
  rw [TL.join_eq]
  have e := TL.tl_join (S sep) (ls.map S)
  have e2 : (ls.map S).map TL.tl = ls := by
    rw [List.map_map]
    conv => rhs; rw [← List.map_id ls]
    exact List.map_congr_left fun l _ => S_tl l
  rw [e2] at e
  have e3 : TL.tl (S sep) = sep := S_tl _
  rw [e3] at e
  rw [S_of (Str.join (S sep) (ls.map S))]
  exact congrArg S e
theorem join_nil (ls : List (List Nat)) : Txt.join (S []) (ls.map S) = S ls.flatten := by
  rw [join_S]
  congr 1
  induction ls with
  | nil => rfl
  | cons a r ih =>
    cases r with
    | nil => simp [TL.joinL]
    | cons b r =>
      show a ++ ([] ++ TL.joinL [] (b :: r)) = _
      rw [ih]
      simp
end My

/-! ### a text, so often; a tuple in which a token is out -/
namespace My
open PySem PySem.Spec PyProof.Rows L2
section
variable {X : Cx}
theorem op_mul_txt : OpR X (binaryOp .Mult) (fun x y H Q => ∃ (l : List Nat) (j : Nat), x = .str (S l) ∧ y = .int (j : Int) ∧ 1 ≤ l.length ∧ l.length ≤ 1000 ∧ j ≤ 1000 ∧ Q (.str (S (List.replicate j l).flatten)) H) := by
  intro pins s σ H x y v u Q I rx ry h
  obtain ⟨l, j, rfl, rfl, hl1, hl2, hj, q⟩ := h
  obtain ⟨t, rfl⟩ := rx
  obtain ⟨t', rfl⟩ := ry
  have hlen : (S l).length = l.length := S_len _
  have hmul : l.length * j ≤ 1000000 := Nat.le_trans (Nat.mul_le_mul hl2 hj) (by decide)
  refine PySem.P.mul_str (by simp; omega) (fun hn _ => by
    rw [hlen]
    have hj0 : 0 < j := by omega
    have : (l.length : Int) ≤ (2 ^ 63 - 1) / (j : Int) := by
      refine Int.le_ediv_of_mul_le (by omega) ?_
      have : ((l.length * j : Nat) : Int) ≤ 1000000 := by omega
      rw [Int.natCast_mul] at this
      omega
    omega) (fun _ _ => by
    rw [hlen]
    have : (j : Int).toNat = j := by omega
    rw [this]
    exact decide_eq_false (by rw [sizeLine_eq]; omega)) ?_
  have fin : ∀ (m : List Nat), m = (List.replicate j l).flatten → ∀ (v : Value) (k : Nat), RelV (.str (S m)) v → EP X pins σ Q v { s with toks := k } := fun m e v k r => ⟨.str (S m), H, I.tok _, r, by rw [e]; exact q⟩
  by_cases h0 : (j : Int) < 1
  · have e0 : j = 0 := by omega
    rw [if_pos h0]
    exact ⟨by decide, fin [] (by rw [e0]; rfl) _ _ ⟨_, rfl⟩⟩
  · rw [if_neg h0]
    by_cases h1 : j = 1
    · subst h1
      rw [if_pos (by rfl)]
      exact fin l (by simp) _ s.toks ⟨_, rfl⟩
    · rw [if_neg (by rw [hlen, Bool.or_eq_true, beq_iff_eq, beq_iff_eq]; omega)]
      have e : (⟨(List.replicate (j : Int).toNat (S l).cps).foldl (· ++ ·) #[]⟩ : Str) = S (List.replicate j l).flatten := by
        have ej : (j : Int).toNat = j := by omega
        rw [ej]
        have gen : ∀ (n : Nat) (acc : List Nat), (List.replicate n (S l).cps).foldl (· ++ ·) acc.toArray = (acc ++ (List.replicate n l).flatten).toArray := by
          intro n
          induction n with
          | zero => intro acc; simp
          | succ n ih =>
            intro acc
            rw [List.replicate_succ, List.foldl_cons]
            have : acc.toArray ++ (S l).cps = (acc ++ l).toArray := by simp [S]
            rw [this, ih, List.replicate_succ]
            simp
        have := gen j []
        simp at this
        unfold S
        congr 1
      rw [e]
      refine ⟨?_, fin _ rfl _ _ ⟨_, rfl⟩⟩
      rw [S_len, List.length_flatten, List.map_replicate, sizeLine_eq]
      have : (List.replicate j l.length).sum = j * l.length := by
        clear fin q h1 h0 e
        induction j with
        | zero => simp
        | succ j ih => rw [List.replicate_succ, List.sum_cons, ih (by omega) (Nat.le_trans (Nat.mul_le_mul_left _ (Nat.le_succ _)) hmul), Nat.succ_mul, Nat.add_comm]
      rw [this, Nat.mul_comm]
      omega
theorem pa_consT {a : Expr} {op : Operator} {c : Int} {j : Nat} {pc pos0 : Pos} {es : List Expr} {r : R2} {ta : TE} {t : TA} (ho : OpR X (binaryOp op) r) (ha : PE X a ta) (hr : PAT X es t)
    (hs : starEach (.BinOp a op (.Constant (.int c) j pc) pos0 :: es) X.env = (false, eval (.BinOp a op (.Constant (.int c) j pc) pos0) X.env) :: starEach es X.env := by rfl) :
    PA X (.BinOp a op (.Constant (.int c) j pc) pos0 :: es) (tCons (tOp r ta (tC (.int c))) t) := by
  refine ⟨fun pos pins s σ H Q I h => ?_⟩
  rw [hs]
  show wpAny _ _ (spliced ((false, eval (.BinOp a op (.Constant (.int c) j pc) pos0) X.env) :: backTo pos (starEach es X.env))) _ _ s
  refine Calls.spliced_cons (wpAny_BinOp (thn (ha.run pins s σ H _ I h) fun v s1 ⟨x, H1, I1, r1, q1⟩ => wpAny_Constant_int ?_))
  refine wpAny_mono (PySem.wpAny_toks_of (n := 1) (by show 1 ≤ s1.toks + 1; omega) (ho pins _ σ H1 x (.int c) v _ _ (I1.tok _) r1 ⟨_, rfl⟩ q1)) (fun w s2 q => ?_) fun _ _ z => z.2
  obtain ⟨hk, y, H2, I2, r2, q2⟩ := q
  exact thn (hr pos pins s2 σ H2 _ hk I2 q2) fun us s3 ⟨xs, H3, I3, r3, q3⟩ => ⟨y :: xs, H3, I3, .cons r2 r3, q3⟩
end
end My

namespace My
open PySem PySem.Spec PyProof.Rows L2
/-! ### joins of ways, once more by their answers -/
theorem andB' {ta tb : TT} {σ : L2.St} {H : Hp} {a b : Bool} (ha : AnsB ta σ H a) (hb : AnsB tb σ H b) : AnsB (tAnd ta tb) σ H (a && b) := fun Q q => by
  refine ha _ ?_
  cases a with
  | true => exact iteT (hb _ q)
  | false => exact iteF q
theorem if_g {c : TT} {a b u : TS} {D : Ends} {σ : L2.St} {H : Hp} {i : Nat} {x : V} {bb : Bool} (hc : AnsB c (σ.set i (some x)) H bb) (h : if bb = true then a { D with nx := u D } (σ.set i (some x)) H else b { D with nx := u D } (σ.set i (some x)) H) :
    gName i x σ H { D with nx := tSeq (tIfS c a b) u D }.nx := hc _ h
theorem if_n {c : TT} {a b u : TS} {D : Ends} {σ : L2.St} {H : Hp} {bb : Bool} (hc : AnsB c σ H bb) (h : if bb = true then a { D with nx := u D } σ H else b { D with nx := u D } σ H) :
    tNext { D with nx := tSeq (tIfS c a b) u D } σ H := hc _ h
theorem tif_const {t : TT} {x y : V} {σ : L2.St} {H : Hp} {Q : VK} (b : Bool) (ht : AnsB t σ H b) (h : ∀ v, v = (if b = true then x else y) → Q v H) : tIf t (tC x) (tC y) σ H Q := by
  refine ht _ ?_
  cases b with
  | true => exact iteT (h x rfl)
  | false => exact iteF (h y rfl)
theorem for_tif {t : TT} {ta tb : TE} {g : TG} {body u : TS} {D : Ends} {σ : L2.St} {H : Hp} (P : V → Hp → Prop) (b : Bool) (ht : AnsB t σ H b) (ha : b = true → ValB ta σ H P) (hb : b = false → ValB tb σ H P)
    (hq : ∀ v H', P v H' → tFor (iRng1 (fun _ _ R => R [v] H')) g body { D with nx := u D } σ H') : tSeq (tFor (iRng1 (tCons (tIf t ta tb) tNil)) g body) u D σ H := by
  refine tif_val (P := P) b ht ha hb (fun v H' => tNil σ H' fun xs H2 => ∃ j : Int, v :: xs = [.int j] ∧ -(2 ^ 62) ≤ j ∧ j < 2 ^ 62 ∧ _) fun v H' p => ?_
  exact hq v H' p
theorem for_tif_g {t : TT} {ta tb : TE} {g : TG} {body u : TS} {D : Ends} {σ : L2.St} {H : Hp} {i : Nat} {x : V} (P : V → Hp → Prop) (b : Bool) (ht : AnsB t (σ.set i (some x)) H b) (ha : b = true → ValB ta (σ.set i (some x)) H P) (hb : b = false → ValB tb (σ.set i (some x)) H P)
    (hq : ∀ v H', P v H' → tFor (iRng1 (fun _ _ R => R [v] H')) g body { D with nx := u D } (σ.set i (some x)) H') : gName i x σ H { D with nx := tSeq (tFor (iRng1 (tCons (tIf t ta tb) tNil)) g body) u D }.nx :=
  for_tif P b ht ha hb hq
theorem asg_if_g {t : TT} {ta tb : TE} {g : TG} {u : TS} {D : Ends} {σ : L2.St} {H : Hp} {i : Nat} {x : V} (P : V → Hp → Prop) (b : Bool) (ht : AnsB t (σ.set i (some x)) H b) (ha : b = true → ValB ta (σ.set i (some x)) H P) (hb : b = false → ValB tb (σ.set i (some x)) H P)
    (hq : ∀ v H', P v H' → g v (σ.set i (some x)) H' (u D)) : gName i x σ H { D with nx := tSeq (tAsg (tIf t ta tb) g) u D }.nx := asg_if P b ht ha hb hq
theorem keeps_upd {L D : Addr} {H H' : Hp} {o : HO} (k : Keeps L H H') (n : H D = none) : Keeps L H (upd H' D o) := fun b x hb e => by
  rw [upd_ne (ne_of_none e n)]
  exact k b x hb e
/-- one sign -/
def isSign : V → Bool
  | .str z => z.cps.size == 1 && z.cps.all fun c => decide (c < 128)
  | _ => false
theorem isSign_of {v : V} (h : isSign v = true) : ∃ c, v = .str (S [c]) ∧ c < 128 := by
  cases v with
  | str z =>
    unfold isSign at h
    rw [Bool.and_eq_true] at h
    obtain ⟨⟨l⟩⟩ := z
    match l, h with
    | [c], h => exact ⟨c, rfl, by simpa using h.2⟩
    | [], h => simp at h
    | _ :: _ :: _, h => simp at h
  | _ => cases h
/-- a text of signs below 128 -/
def isText : V → Bool
  | .str z => z.cps.all fun c => decide (c < 128)
  | _ => false
theorem isText_of {v : V} (h : isText v = true) : ∃ l, v = .str (S l) ∧ ∀ c ∈ l, c < 128 := by
  cases v with
  | str z =>
    obtain ⟨⟨l⟩⟩ := z
    exact ⟨l, rfl, by unfold isText at h; simpa using h⟩
  | _ => cases h
def Drawn (n : Nat) (l : List Nat) : Prop := l.length ≤ n ∧ ∀ c ∈ l, c < 128
theorem low_sm {l : List Nat} (h : ∀ c ∈ l, c < 128) : Sm l := fun c hc => Nat.lt_trans (h c hc) (by decide)
theorem flatten_len {k : Nat} : ∀ {ls : List (List Nat)}, (∀ l ∈ ls, l.length ≤ k) → ls.flatten.length ≤ k * ls.length
  | [], _ => Nat.zero_le _
  | a :: r, h => by
    have ih := flatten_len (ls := r) (k := k) fun l hl => h l (List.mem_cons_of_mem _ hl)
    have ha := h a (List.mem_cons_self ..)
    rw [List.flatten_cons, List.length_append, List.length_cons, Nat.mul_succ]
    omega
end My

namespace My
open PySem PySem.Spec PyProof.Rows L2
/-! ### zip of a tuple and a list -/
/-- the tuple at a and the list at b as they stand at each turn, the items in new pairs -/
def ItzM (K : PySem.W.Frag) (a b : Addr) : It :=
  ⟨fun i H => ∃ (xs ys : List V) (x y : V), SqT K H a xs ∧ SqL K H b ys ∧ xs[i]? = some x ∧ ys[i]? = some y,
    fun i H v H' => ∃ T x y, v = .ref T ∧ H T = none ∧ H' = upd H T (.tup [x, y]) ∧ (∀ xs, SqT K H a xs → xs[i]? = some x) ∧ ∀ ys, SqL K H b ys → ys[i]? = some y,
    fun i H => ∃ xs ys : List V, SqT K H a xs ∧ SqL K H b ys ∧ (i = xs.length ∧ i ≤ ys.length ∨ i = ys.length ∧ i ≤ xs.length)⟩
/-- all the cells of the zip lie apart -/
structure Apart5 (z TI TO i1 i2 a b : Addr) : Prop where
  TIz : TI ≠ z
  TOz : TO ≠ z
  TITO : TI ≠ TO
  TIi1 : TI ≠ i1
  TIi2 : TI ≠ i2
  zi1 : z ≠ i1
  zi2 : z ≠ i2
  Ti1 : TO ≠ i1
  Ti2 : TO ≠ i2
  i12 : i1 ≠ i2
  za : z ≠ a
  zb : z ≠ b
  Ta : TO ≠ a
  Tb : TO ≠ b
  a1 : a ≠ i1
  a2 : a ≠ i2
  b1 : b ≠ i1
  b2 : b ≠ i2
theorem apart_n (n a b : Nat) (ha : a < n) (hb : b < n) : Apart5 (n + 4) (n + 2) (n + 3) n (n + 1) a b := by
  refine ⟨?_, ?_, ?_, ?_, ?_, ?_, ?_, ?_, ?_, ?_, ?_, ?_, ?_, ?_, ?_, ?_, ?_, ?_⟩ <;> (show ¬ (@Eq Nat _ _)) <;> omega
theorem Apart5.sep {z TI TO i1 i2 a b : Addr} (D : Apart5 z TI TO i1 i2 a b) : ZipSep2 z TI TO i1 i2 [i1, a] [i2, b] where
  TIz := D.TIz
  TOz := D.TOz
  TITO := D.TITO
  TIi1 := D.TIi1
  mem1 := by simp
  zf1 := by simp [D.zi1, D.za]
  Tf1 := by simp [D.Ti1, D.Ta]
  TIi2 := D.TIi2
  mem2 := by simp
  zf2 := by simp [D.zi2, D.zb]
  Tf2 := by simp [D.Ti2, D.Tb]
  sep1_2 := by simp [D.i12, D.b1.symm]
  sep2_1 := by simp [D.i12.symm, D.a2.symm]
theorem turn_zipM {P : Program} {w : World} {K : PySem.W.Frag} {elts : List Expr} {kk : Nat} {tpos : Pos} {a b z TI TO i1 i2 : Addr} (D : Apart5 z TI TO i1 i2 a b) :
    Turn P w K (.Tuple elts kk tpos) (ItzM K a b) [z, TI, TO, i1, i2] z (fun i h => IsZip h z TI TO .none ∧ IsTupOf2 h TI (.ref i1) (.ref i2) ∧ (∃ x y, IsTupOf2 h TO x y) ∧ h.IsTupleIter i1 a i ∧ h.IsListIter i2 b i) where
  mem := by simp
  obj := fun i h st c hc => by
    obtain ⟨hz, hTI, ⟨x, y, hTO⟩, ⟨o1, e1, _, d1⟩, ⟨o2, e2, _, d2⟩⟩ := st
    have e' : c = z ∨ c = TI ∨ c = TO ∨ c = i1 ∨ c = i2 := by simpa using hc
    rcases e' with q | q | q | q | q
    · rw [q]; exact ⟨_, hz, fun v q => nomatch q⟩
    · rw [q]; exact ⟨_, hTI, fun v q => nomatch q⟩
    · rw [q]; exact ⟨_, hTO, fun v q => nomatch q⟩
    · rw [q]; exact ⟨o1, e1, fun v q => by rw [d1] at q; cases q⟩
    · rw [q]; exact ⟨o2, e2, fun v q => by rw [d2] at q; cases q⟩
  keep := fun i h h' st k => by
    obtain ⟨hz, hTI, ⟨x, y, hTO⟩, h1, h2⟩ := st
    exact ⟨k z (by simp) _ hz, k TI (by simp) _ hTI, ⟨x, y, k TO (by simp) _ hTO⟩, h1.at fun o q => k i1 (by simp) o q, h2.at fun o q => k i2 (by simp) o q⟩
  item := by
    intro X hP hw hK hc i pins s σ H E I hf st hg
    subst hP hw hK
    obtain ⟨hz, hTI, ⟨x0, y0, hTO⟩, h1, h2⟩ := st
    obtain ⟨xs, ys, x, y, hqx, hqy, hx, hy⟩ := hg
    obtain ⟨its, rv, p, _⟩ := I.tuple hqx
    obtain ⟨its2, rv2, p2, _⟩ := I.list hqy
    obtain ⟨u, hu, ru⟩ := rv.get hx
    obtain ⟨u2, hu2, ru2⟩ := rv2.get hy
    have hzl : z < s.heap.objs.size := Heap.lt_size hz
    have D1 := PySem.Draws.tuple (prog := X.prog) (w := X.w) (A := X.A.in1) (I.ok.hd hc) i1 a D.a1 its.toArray
    have D2 := PySem.Draws.list (prog := X.prog) (w := X.w) (A := X.A.in1) (I.ok.hd hc) i2 b D.b2 its2.toArray
    have hlt1 : i < its.toArray.size := by
      have := (List.getElem?_eq_some_iff.mp hu).1
      simpa using this
    have hlt2 : i < its2.toArray.size := by
      have := (List.getElem?_eq_some_iff.mp hu2).1
      simpa using this
    refine wpAny_pyNext_zipD2_item D.sep D1 D2 hz hTI hTO ⟨h1, p⟩ ⟨h2, p2.isList⟩ hlt1 hlt2 fun x1 x2 h' tk y1 y2 z' TO' st1' st2' hT hsz hk => ?_
    have ex1 : x1 = u := by
      have : some u = some x1 := by rw [← hu]; simpa using y1
      exact (Option.some.inj this).symm
    have ex2 : x2 = u2 := by
      have : some u2 = some x2 := by rw [← hu2]; simpa using y2
      exact (Option.some.inj this).symm
    subst ex1 ex2
    obtain ⟨h1', _⟩ := st1'
    obtain ⟨h2', _⟩ := st2'
    refine ⟨_, rfl, wpAny_letOwnedTupleGo_zip (s := { s with heap := h', toks := tk }) z' fun h'' z'' sb => ?_⟩
    have hT2 : h''.get? s.heap.objs.size = some { cls := .type "tuple", data := .seq #[x1, x2] } := (sb.2 _ (Nat.ne_of_gt hzl)).trans hT
    have new : ObjOk X.prog X.w (upd H s.heap.objs.size (.tup [x, y])) h'' s.heap.objs.size (.tup [x, y]) :=
      ⟨by show 2 ≤ sizeLine; decide, [x1, x2], .cons ru (.cons ru2 .nil), ⟨_, hT2, rfl, _, rfl⟩⟩
    have I1 : Inv X pins σ (upd H s.heap.objs.size (.tup [x, y])) { s with heap := h'', toks := tk } :=
      I.turnedNew (t' := tk) (ch := [z, TI, TO, i1, i2]) (fun c o hb q => (sb.2 c (fun q' => hb (by simp [q']))).trans (hk c o (fun q' => hb (by simp [q'])) (fun q' => hb (by simp [q'])) (fun q' => hb (by simp [q'])) (fun q' => hb (by simp [q'])) q)) hf (Nat.le_refl _) new
    refine ⟨.ref s.heap.objs.size, _, I1, rfl, ⟨_, x, y, rfl, I.hok.fresh (Nat.le_refl _), rfl, fun l hl => by rw [I.tuple_inj hl hqx]; exact hx, fun l hl => by rw [I.list_inj hl hqy]; exact hy⟩, ⟨z'', ?_, ⟨x1, x2, ?_⟩, ?_, ?_⟩, fun c hcm => ?_⟩
    · exact (sb.2 _ D.TIz).trans (hk _ _ D.TIz D.TITO D.TIi1 D.TIi2 hTI)
    · exact (sb.2 _ D.TOz).trans TO'
    · exact h1'.at fun o q => (sb.2 _ D.zi1.symm).trans q
    · exact h2'.at fun o q => (sb.2 _ D.zi2.symm).trans q
    · have hlt : c < s.heap.objs.size := by
        have e' : c = z ∨ c = TI ∨ c = TO ∨ c = i1 ∨ c = i2 := by simpa using hcm
        rcases e' with q | q | q | q | q
        · rw [q]; exact hzl
        · rw [q]; exact Heap.lt_size hTI
        · rw [q]; exact Heap.lt_size hTO
        · rw [q]; obtain ⟨_, e1, _⟩ := h1; exact Heap.lt_size e1
        · rw [q]; obtain ⟨_, e2, _⟩ := h2; exact Heap.lt_size e2
      rw [upd_ne (Nat.ne_of_lt hlt)]
      exact (hf c hcm).1
  done := by
    intro X hP hw hK hc i pins s σ H E I hf st hg
    subst hP hw hK
    obtain ⟨hz, hTI, ⟨x0, y0, hTO⟩, h1, h2⟩ := st
    obtain ⟨xs, ys, hqx, hqy, hend⟩ := hg
    obtain ⟨its, rv, p, _⟩ := I.tuple hqx
    obtain ⟨its2, rv2, p2, _⟩ := I.list hqy
    have l1 := rv.length
    have l2 := rv2.length
    have D1 := PySem.Draws.tuple (prog := X.prog) (w := X.w) (A := X.A.in1) (I.ok.hd hc) i1 a D.a1 its.toArray
    have D2 := PySem.Draws.list (prog := X.prog) (w := X.w) (A := X.A.in1) (I.ok.hd hc) i2 b D.b2 its2.toArray
    have s1 : its.toArray.size = its.length := by simp
    have s2 : its2.toArray.size = its2.length := by simp
    exact wpAny_pyNext_zipD2_end D.sep D1 D2 hz hTI hTO ⟨h1, p⟩ ⟨h2, p2.isList⟩ (by omega) (by omega) (by omega) fun h' tk hk => ⟨rfl, I.turnedL (t' := tk) (ch := [z, TI, TO, i1, i2]) (fun c o hb q =>
      hk c o (fun q' => hb (by simp [q'])) (fun q' => hb (by simp [q'])) (fun q' => hb (by simp [q'])) (fun q' => hb (by simp [q'])) q) hf⟩
  self := fun A i s Q E st h => wpAny_pyIter_zip st.1 h
def iZipM (K : PySem.W.Frag) (ta : TA) : TI := fun σ H R => ta σ H fun vs H1 => ∃ a b xs ys, vs = [.ref a, .ref b] ∧ SqT K H1 a xs ∧ SqL K H1 b ys ∧ R (ItzM K a b) H1
theorem pi_zipM {X : Cx} {e e2 : Expr} {ta : TA} {p pos tpos : Pos} {elts : List Expr} {kk : Nat} (hg : Gl X "zip") (hm : X.mg "zip" = none) (ha : PA X [e, e2] ta)
    (hs : starEach [e, e2] X.env = (false, eval e X.env) :: starEach [e2] X.env := by rfl) (hpl : (backTo pos (starEach [e2] X.env)).any (·.1) = false := by rfl) :
    PI X (.Tuple elts kk tpos) (.Call (.Name "zip" p) [e, e2] [] pos) (iZipM X.K ta) := by
  refine ⟨fun pins s σ H R I h => ?_⟩
  refine Call_ (ld_blt I hg hm PyProof.Rows.boot_zip (PyProof.Rows.callWith_type1 (thn (ha.run pos pins s σ H _ I h) fun us s1 ⟨vs, H1, I1, r1, q1⟩ => ?_) hs hpl))
  obtain ⟨a, b, xs, ys, ex, hqx, hqy, q⟩ := q1
  subst ex
  cases r1 with
  | cons r rr =>
    cases rr with
    | cons r' rr =>
      cases rr
      cases r
      cases r'
      have fresh5 : ∀ c, c ∈ [s1.heap.objs.size + 4, s1.heap.objs.size + 2, s1.heap.objs.size + 3, s1.heap.objs.size, s1.heap.objs.size + 1] → FpOk X pins H1 c := fun c hcm => by
        have e' : c = s1.heap.objs.size + 4 ∨ c = s1.heap.objs.size + 2 ∨ c = s1.heap.objs.size + 3 ∨ c = s1.heap.objs.size ∨ c = s1.heap.objs.size + 1 := by simpa using hcm
        have hle : s1.heap.objs.size ≤ c := by
          rcases e' with z | z | z | z | z
          · rw [z]; exact Nat.le_add_right _ _
          · rw [z]; exact Nat.le_add_right _ _
          · rw [z]; exact Nat.le_add_right _ _
          · rw [z]; exact Nat.le_refl _
          · rw [z]; exact Nat.le_add_right _ _
        exact I1.fpOk hle (I1.hok.fresh hle)
      obtain ⟨its, rv, p1, _⟩ := I1.tuple hqx
      obtain ⟨its2, rv2, p2, _⟩ := I1.list hqy
      obtain ⟨o1, ho1, _⟩ := id p1
      refine PySem.zip_begins2 (begins_tuple a its.toArray) (begins_list b its2.toArray) p1 p2.isList fun h' hz hTI hTO h1 h2 hsz hk => wpAny_pyIter_zip hz ?_
      have I2 : Inv X pins σ H1 { s1 with heap := h' } := I1.kept (t' := s1.toks) hk
      exact ⟨s1.heap.objs.size + 4, [s1.heap.objs.size + 4, s1.heap.objs.size + 2, s1.heap.objs.size + 3, s1.heap.objs.size, s1.heap.objs.size + 1], _, _, H1, rfl, I2, turn_zipM (apart_n s1.heap.objs.size a b (Heap.lt_size ho1) p2.lt), ⟨hz, hTI, ⟨_, _, hTO⟩, ⟨_, h1, rfl, rfl⟩, ⟨_, h2, rfl, rfl⟩⟩, fresh5, q⟩
theorem walk_zipM {K : PySem.W.Frag} {a b : Addr} {xs ys : List V} (hl : xs.length = ys.length) : Walk (ItzM K a b) xs.length (fun H => SqT K H a xs ∧ SqL K H b ys) (YPair (fun i => xs[i]?) (fun i => ys[i]?)) := by
  refine ⟨fun i _ hi q => ?_, fun _ q => ⟨xs, ys, q.1, q.2, .inl ⟨rfl, by omega⟩⟩, fun i H v H' _ q y => ?_⟩
  · have h2 : i < ys.length := by omega
    exact ⟨xs, ys, xs[i], ys[i], q.1, q.2, by simp [hi], by simp [h2]⟩
  · obtain ⟨T, x, z, h1, h2, h3, h4, h5⟩ := y
    exact ⟨T, x, z, h1, h2, h3, h4 xs q.1, h5 ys q.2⟩
end My

namespace My
open PySem PySem.Spec PyProof.Rows L2
/-! ### f(k = v, ..) without positional arguments; a def of one parameter, by name -/
section
variable {X : Cx} {CX : CXT} {k : Nat} {f : Addr} {fd : FuncData} {ps ks : List Str} {sp : Sp} {E : XK} {x : Str} {p pos : Pos} {kws : List Keyword} {tk : TA} {g : List Value → List Value → List Value} {gV : List V → List V → List V}
theorem pe_callK0 (F : FnOk X.prog X.w X.K X.mg X.base CX k f fd ps sp) (hr : Room k X.A) (hg : Gl X x) (hm : X.mg x = some (.ref f)) (hk : PySem.W.keepIn X.K (.ref f) = true) (hb : KBinds X.K fd ps ks g gV) (hx : Passes CX X E)
    (hkw : PK X kws tk) (hall : (backToKw pos (keywordEach kws X.env)).all (·.1.isSome) = true := by rfl) (hks : (backToKw pos (keywordEach kws X.env)).filterMap (·.1) = ks := by rfl)
    (hdb : (x == ("__debug__" : Str)) = false := by decide)
    (hpl : ((backTo pos (starEach [] X.env)).any (·.1) || (backToKw pos (keywordEach kws X.env)).any (·.1.isNone)) = false := by rfl) :
    PE X (.Call (.Name x p) [] kws pos) (tCallK sp gV E tNil tk) := by
  refine ⟨fun pins s σ H Q I h => ?_⟩
  refine wpAny_Call_Name_kw (ld_glob I hg hm ?_ hdb)
  refine PySem.W.callWith_KW0 (h₀ := X.base) I.ok.mod.kin hk hall ?_ hpl
  refine thn (hkw.run pos pins s σ H _ I h) fun ws s2 ⟨zs, H2, I2, rz, q2⟩ => ⟨I2.kIn, ?_⟩
  rw [hks]
  exact run_fnk F hr hb hx I2 .nil rz q2
end
/-- of several defs that the slot may hold, each with its promises -/
def tCallR (i : Nat) (S : Addr → Sp → Prop) (t : TA) : TE := fun σ H Q => ∃ f sp, σ[i]? = some (some (.ref f)) ∧ S f sp ∧ t σ H fun vs H1 => sp vs H1 Q (fun _ _ _ => False)
theorem pe_callR {X : Cx} {k i : Nat} {x : Str} {p pos : Pos} {e : Expr} {es : List Expr} {t : TA} {S : Addr → Sp → Prop} (A : ∀ f sp, S f sp → Held X.prog X.w X.K X.mg X.base k f sp) (hr : Room k X.A) (hN : X.N[i]? = some x) (hv : Vis X.env.scope x) (ha : PA X (e :: es) t)
    (hdb : (x == ("__debug__" : Str)) = false := by decide) (hcd : (x == ("__classdict__" : Str)) = false := by decide)
    (he : starEach (e :: es) X.env = (false, eval e X.env) :: starEach es X.env := by rfl) (hpl : (backTo pos (starEach es X.env)).any (·.1) = false := by rfl) : PE X (.Call (.Name x p) (e :: es) [] pos) (tCallR i S t) := by
  refine ⟨fun pins s σ H Q I h => ?_⟩
  obtain ⟨f, sp, hs, hS, ht⟩ := h
  obtain ⟨fd, ps, F, hk, hb⟩ := (A f sp hS).ex
  refine (pe_callL (i := i) (f := f) (sp := sp) (dvs := []) (E := fun _ _ _ => False) F hr hN hv hk hb .nil (fun _ _ _ _ _ _ _ z => z.elim) ha hdb hcd he hpl).run pins s σ H Q I ⟨hs, ?_⟩
  have e0 : (fun (vs : List V) (H1 : Hp) => sp (vs ++ []) H1 Q (fun _ _ _ => False)) = fun vs H1 => sp vs H1 Q (fun _ _ _ => False) := by
    funext vs H1
    rw [List.append_nil]
  show t σ H (fun vs H1 => sp (vs ++ []) H1 Q (fun _ _ _ => False))
  rw [e0]
  exact ht
theorem fnOk_up {P : Program} {w : World} {K : PySem.W.Frag} {mg : Str → Option Value} {base : Heap} {CX : CXT} {k k' : Nat} {f : Addr} {fd : FuncData} {ps : List Str} {sp : Sp} (h : FnOk P w K mg base CX k f fd ps sp) (hk : k ≤ k') : FnOk P w K mg base CX k' f fd ps sp :=
  ⟨h.len, fun A outer s H args us vs Q E hr => h.run A outer s H args us vs Q E (hr.mono hk)⟩
theorem kbinds_one {K : PySem.W.Frag} {x qual p : Str} {st : Stmt} {f : Addr} {fd : FuncData} (F : Fun K x qual st f fd)
    (h1 : ∀ (kV doc pm : Value) (an : Option Addr) (cdv ct : Value) (u : Value), bindArgs (PySem.W.fnOf x qual (defArgs st) (defBody st) (defScope st) .none kV doc pm an cdv ct) ⟨[u], []⟩ = pure [(p, u)])
    (h2 : ∀ (kV doc pm : Value) (an : Option Addr) (cdv ct : Value) (u : Value), bindArgs (PySem.W.fnOf x qual (defArgs st) (defBody st) (defScope st) .none kV doc pm an cdv ct) ⟨[], [(p, u)]⟩ = pure [(p, u)]) :
    KBinds K fd [p] [p] (fun us ws => us ++ ws) (fun vs zs => vs ++ zs) := by
  obtain ⟨oc, od, kV, doc, pm, an, cdv, ct, osl, rfl, lk, hcd⟩ := F.ex
  refine ⟨fun s us ws _ hl => ?_, fun r1 r2 => ?_⟩
  · match us, ws, hl with
    | [u], [], _ => exact .of_eq (h1 kV doc pm an cdv ct u)
    | [], [u], _ => exact .of_eq (h2 kV doc pm an cdv ct u)
  · induction r1 with
    | nil => exact r2
    | cons r _ ih => exact .cons r ih
end My

namespace My
open PySem PySem.Spec PyProof.Rows L2
/-! ### two rows, item by item -/
def All2 {α β : Type} (R : α → β → Prop) (xs : List α) (ys : List β) : Prop := xs.length = ys.length ∧ ∀ (i : Nat) (x : α) (y : β), xs[i]? = some x → ys[i]? = some y → R x y
section
variable {α β : Type} {R : α → β → Prop} {xs xs' : List α} {ys ys' : List β}
theorem All2.nil : All2 R ([] : List α) ([] : List β) := ⟨rfl, fun i x y h => by simp at h⟩
theorem All2.mono {R' : α → β → Prop} (h : All2 R xs ys) (f : ∀ x y, R x y → R' x y) : All2 R' xs ys := ⟨h.1, fun i x y a b => f x y (h.2 i x y a b)⟩
theorem All2.cons {x : α} {y : β} (r : R x y) (h : All2 R xs ys) : All2 R (x :: xs) (y :: ys) := by
  refine ⟨by simp [h.1], fun i a b ha hb => ?_⟩
  cases i with
  | zero =>
    rw [List.getElem?_cons_zero] at ha hb
    cases ha
    cases hb
    exact r
  | succ i =>
    rw [List.getElem?_cons_succ] at ha hb
    exact h.2 i a b ha hb
theorem All2.app (h : All2 R xs ys) (g : All2 R xs' ys') : All2 R (xs ++ xs') (ys ++ ys') := by
  refine ⟨by simp [h.1, g.1], fun i a b ha hb => ?_⟩
  by_cases c : i < xs.length
  · rw [List.getElem?_append_left c] at ha
    rw [List.getElem?_append_left (by rw [← h.1]; exact c)] at hb
    exact h.2 i a b ha hb
  · rw [List.getElem?_append_right (by omega)] at ha
    rw [List.getElem?_append_right (by rw [← h.1]; omega), ← h.1] at hb
    exact g.2 _ a b ha hb
theorem All2.one {x : α} {y : β} (r : R x y) : All2 R [x] [y] := .cons r .nil
theorem All2.drop (h : All2 R xs ys) (n : Nat) : All2 R (xs.drop n) (ys.drop n) :=
  ⟨by simp [h.1], fun i a b ha hb => h.2 (n + i) a b (by rw [List.getElem?_drop] at ha; exact ha) (by rw [List.getElem?_drop] at hb; exact hb)⟩
theorem All2.take (h : All2 R xs ys) (n : Nat) : All2 R (xs.take n) (ys.take n) := by
  refine ⟨by simp [h.1], fun i a b ha hb => ?_⟩
  rw [List.getElem?_take] at ha hb
  split at ha
  · rename_i c
    rw [if_pos c] at hb
    exact h.2 i a b ha hb
  · cases ha
theorem All2.get (h : All2 R xs ys) {i : Nat} {y : β} (hy : ys[i]? = some y) : ∃ x, xs[i]? = some x ∧ R x y := by
  have hi : i < xs.length := by rw [h.1]; exact (List.getElem?_eq_some_iff.mp hy).1
  exact ⟨xs[i], List.getElem?_eq_getElem hi, h.2 i _ _ (List.getElem?_eq_getElem hi) hy⟩
theorem All2.map {γ : Type} {f : γ → β} {zs : List γ} : All2 R xs (zs.map f) ↔ All2 (fun x z => R x (f z)) xs zs := by
  constructor
  · intro h
    refine ⟨by simpa using h.1, fun i x z hx hz => h.2 i x (f z) hx (by rw [List.getElem?_map, hz]; rfl)⟩
  · intro h
    refine ⟨by simpa using h.1, fun i x y hx hy => ?_⟩
    rw [List.getElem?_map] at hy
    cases e : zs[i]? with
    | none => rw [e] at hy; cases hy
    | some z => rw [e] at hy; cases hy; exact h.2 i x z hx e
end
theorem dpAll_all2 {K : PySem.W.Frag} {H : Hp} : ∀ {vs : List V} {ds : List PyData}, DpAll K H vs ds → All2 (Dp K H) vs ds
  | _, _, .nil => .nil
  | _, _, .cons h r => .cons h (dpAll_all2 r)
theorem all2_dpAll {K : PySem.W.Frag} {H : Hp} : ∀ {vs : List V} {ds : List PyData}, All2 (Dp K H) vs ds → DpAll K H vs ds
  | [], [], _ => .nil
  | [], _ :: _, h => by have := h.1; simp at this
  | _ :: _, [], h => by have := h.1; simp at this
  | v :: vs, d :: ds, h => .cons (h.2 0 v d rfl rfl) (all2_dpAll ⟨by have := h.1; simpa using this, fun i x y hx hy => h.2 (i + 1) x y hx hy⟩)
theorem same_tup {K : PySem.W.Frag} {H H' : Hp} {a : Addr} {xs : List V} (s : Same H H') (h : SqT K H a xs) : SqT K H' a xs := by
  rcases h with (h | ⟨o, h⟩) | h
  · exact .inl (.inl (s _ _ h))
  · exact .inl (.inr ⟨o, s _ _ h⟩)
  · exact .inr h
mutual
theorem dp_same {K : PySem.W.Frag} {H H' : Hp} (s : Same H H') : ∀ {v : V} {d : PyData}, Dp K H v d → Dp K H' v d
  | _, _, .non => .non
  | _, _, .bl b => .bl b
  | _, _, .int i => .int i
  | _, _, .str x => .str x
  | _, _, .lst h r => .lst (s.seq h) (dpAll_same s r)
  | _, _, .tup h r => .tup (same_tup s h) (dpAll_same s r)
theorem dpAll_same {K : PySem.W.Frag} {H H' : Hp} (s : Same H H') : ∀ {vs : List V} {ds : List PyData}, DpAll K H vs ds → DpAll K H' vs ds
  | _, _, .nil => .nil
  | _, _, .cons h r => .cons (dp_same s h) (dpAll_same s r)
end
/-! ### the heap without some places -/
def Rest (H : Hp) (L : List Addr) : Hp := fun b => if b ∈ L then none else H b
theorem rest_in {H : Hp} {L : List Addr} {b : Addr} (h : b ∈ L) : Rest H L b = none := if_pos h
theorem rest_out {H : Hp} {L : List Addr} {b : Addr} (h : b ∉ L) : Rest H L b = H b := if_neg h
theorem rest_same {H : Hp} {L : List Addr} : Same (Rest H L) H := fun b o e => by
  unfold Rest at e
  split at e
  · cases e
  · exact e
theorem same_rest {G H : Hp} {L : List Addr} (s : Same G H) (n : ∀ b ∈ L, G b = none) : Same G (Rest H L) := fun b o e => by
  by_cases h : b ∈ L
  · rw [n b h] at e
    cases e
  · rw [rest_out h]
    exact s b o e
theorem rest_mono {H H' : Hp} {L : List Addr} (s : Same H H') : Same (Rest H L) (Rest H' L) := same_rest (fun b o e => s b o (rest_same b o e)) fun _ h => rest_in h
theorem rest_upd {H : Hp} {L : List Addr} {a : Addr} {o : HO} (h : a ∈ L) : Rest (upd H a o) L = Rest H L := by
  funext b
  by_cases hb : b ∈ L
  · rw [rest_in hb, rest_in hb]
  · rw [rest_out hb, rest_out hb, upd_ne fun e => hb (by rw [e]; exact h)]
theorem rest_less {H : Hp} {L L' : List Addr} (h : ∀ b ∈ L', b ∈ L) : Same (Rest H L) (Rest H L') := fun b o e => by
  have hb : b ∉ L := fun z => by rw [rest_in z] at e; cases e
  rw [rest_out hb] at e
  rw [rest_out fun z => hb (h b z)]
  exact e
end My

namespace My
open PySem PySem.Spec PyProof.Rows L2
/-- a well of draws, and how many parts may be made -/
def Well3 (H : Hp) (L : Addr) : Prop := ∃ x y z : Int, H L = some (.lst [.int x, .int y, .int z])
theorem Well3.lst {H : Hp} {L : Addr} (h : Well3 H L) : ∃ xs, H L = some (.lst xs) := by
  obtain ⟨x, y, z, e⟩ := h
  exact ⟨_, e⟩
theorem Well3.same {H H' : Hp} {L : Addr} (h : Well3 H L) (s : Same H H') : Well3 H' L := by
  obtain ⟨x, y, z, e⟩ := h
  exact ⟨x, y, z, s _ _ e⟩
theorem Well3.new {H : Hp} {L p : Addr} {o : HO} (h : Well3 H L) (n : H p = none) : Well3 (upd H p o) L := h.same (same_new n)
theorem Well3.ne {H : Hp} {L p : Addr} (h : Well3 H L) (n : H p = none) : p ≠ L := by
  obtain ⟨x, y, z, e⟩ := h
  exact (ne_of_none e n).symm
theorem Well3.upd {H : Hp} {L p : Addr} {o : HO} (h : Well3 H L) (n : p ≠ L) : Well3 (upd H p o) L := by
  obtain ⟨x, y, z, e⟩ := h
  exact ⟨x, y, z, by rw [upd_ne n.symm]; exact e⟩
/-! ### data without lists -/
mutual
def noList : PyData → Bool
  | .list _ => false
  | .tuple ds => noListAll ds
  | .dict _ => false
  | _ => true
def noListAll : List PyData → Bool
  | [] => true
  | d :: ds => noList d && noListAll ds
end
mutual
theorem dp_rest {K : PySem.W.Frag} {H : Hp} {L : List Addr} (hL : ∀ b ∈ L, ∃ xs, H b = some (.lst xs)) : ∀ {v : V} {d : PyData}, noList d = true → Dp K H v d → Dp K (Rest H L) v d
  | _, _, _, .non => .non
  | _, _, _, .bl b => .bl b
  | _, _, _, .int i => .int i
  | _, _, _, .str x => .str x
  | _, _, h, .lst _ _ => by unfold noList at h; cases h
  | _, _, h, .tup (a := a) q r => by
    refine .tup ?_ (dpAll_rest hL (by unfold noList at h; exact h) r)
    rcases q with (q | ⟨o, q⟩) | q
    · refine .inl (.inl ?_)
      rw [rest_out fun z => ?_]
      · exact q
      · obtain ⟨xs, e⟩ := hL _ z
        rw [e] at q
        cases q
    · refine .inl (.inr ⟨o, ?_⟩)
      rw [rest_out fun z => ?_]
      · exact q
      · obtain ⟨xs, e⟩ := hL _ z
        rw [e] at q
        cases q
    · exact .inr q
theorem dpAll_rest {K : PySem.W.Frag} {H : Hp} {L : List Addr} (hL : ∀ b ∈ L, ∃ xs, H b = some (.lst xs)) : ∀ {vs : List V} {ds : List PyData}, noListAll ds = true → DpAll K H vs ds → DpAll K (Rest H L) vs ds
  | _, _, _, .nil => .nil
  | _, _, h, .cons q r => by
    unfold noListAll at h
    rw [Bool.and_eq_true] at h
    exact .cons (dp_rest hL h.1 q) (dpAll_rest hL h.2 r)
end
theorem dp_keep {K : PySem.W.Frag} {H H' : Hp} {L : Addr} {v : V} {d : PyData} (k : Keeps L H H') (hL : ∃ xs, H L = some (.lst xs)) (n : noList d = true) (h : Dp K H v d) : Dp K H' v d := by
  have h1 := dp_rest (L := [L]) (fun b hb => by rw [List.mem_singleton.mp hb]; exact hL) n h
  refine dp_same (fun b o e => ?_) h1
  have hb : b ≠ L := fun z => by rw [z, rest_in (by simp)] at e; cases e
  rw [rest_out (by simpa using hb)] at e
  exact k b o hb e
end My

namespace My
open PySem PySem.Spec PyProof.Rows L2
/-! ### rows within one another, gone through from the outermost on -/
def tot {X : Type} (N : List X → Nat) : List (List X) → Nat
  | [] => 0
  | r :: rs => N r + tot N rs
theorem tot_app {X : Type} (N : List X → Nat) : ∀ a b : List (List X), tot N (a ++ b) = tot N a + tot N b
  | [], b => by simp [tot]
  | r :: a, b => by
    show N r + tot N (a ++ b) = N r + tot N a + tot N b
    rw [tot_app N a b]
    omega
theorem keeps_rest {R : Addr} {H H' : Hp} {L : List Addr} (k : Keeps R H H') (h : R ∈ L) : Same (Rest H L) (Rest H' L) := same_rest (fun b o e => by
    by_cases hb : b ∈ L
    · rw [rest_in hb] at e
      cases e
    · rw [rest_out hb] at e
      exact k b o (fun z => hb (by rw [z]; exact h)) e) fun _ h => rest_in h
theorem keeps_same {R : Addr} {G H H' : Hp} (k : Keeps R H H') (s : Same G H) (n : G R = none) : Same G H' := fun b o e => k b o (fun z => by rw [z, n] at e; cases e) (s b o e)
theorem cutV_nat (zs : List V) {b e : Nat} (hb : b ≤ e) (he : e ≤ zs.length) : cutV zs (some (b : Int)) (some (e : Int)) = (zs.drop b).take (e - b) := by
  unfold cutV
  rw [HT.sIx_nat, HT.sIx_nat, Nat.min_eq_left he, Nat.min_eq_left (Nat.le_trans hb he)]
theorem flat_one {α : Type} (x : α) : ∀ n, (List.replicate n [x]).flatten = List.replicate n x
  | 0 => rfl
  | n + 1 => by
    rw [List.replicate_succ, List.flatten_cons, flat_one x n, List.replicate_succ]
    rfl
structure Fold where
  X : Type
  toD : X → PyData
  sub : X → List (List X)
  N : List X → Nat
  hN : ∀ row, N row = 1 + row.length + tot N (row.flatMap sub)
  Ok : List X → Prop
  inh : ∀ row x r, Ok row → x ∈ row → r ∈ sub x → Ok r
  RR : Hp → V → List X → Prop
  mono : ∀ G G' v r, Same G G' → RR G v r → RR G' v r
section
variable {F : Fold}
theorem tot_len : ∀ rs : List (List F.X), rs.length ≤ tot F.N rs
  | [] => Nat.le_refl _
  | r :: rs => by
    have h1 := tot_len rs
    have h2 := F.hN r
    show rs.length + 1 ≤ F.N r + tot F.N rs
    omega
theorem tot_mem : ∀ {rs : List (List F.X)} {r : List F.X}, r ∈ rs → F.N r ≤ tot F.N rs
  | q :: rs, r, h => by
    show F.N r ≤ F.N q + tot F.N rs
    rcases List.mem_cons.mp h with rfl | h
    · omega
    · have := tot_mem h
      omega
theorem ixN_nat {n k : Nat} (h : k < n) : ixN n (k : Int) = some k := by
  unfold ixN
  rw [if_pos (Int.natCast_nonneg k), if_pos (by omega)]
  rfl
def RowIs (K : PySem.W.Frag) (F : Fold) (G : Hp) (v : V) (row : List F.X) : Prop := ∃ a vs, v = .ref a ∧ SqT K G a vs ∧ All2 (fun u x => Dp K G u (F.toD x)) vs row
theorem RowIs.same {K : PySem.W.Frag} {G G' : Hp} {v : V} {row : List F.X} (s : Same G G') (h : RowIs K F G v row) : RowIs K F G' v row := by
  obtain ⟨a, vs, e, q, r⟩ := h
  exact ⟨a, vs, e, same_tup s q, r.mono fun _ _ d => dp_same s d⟩
theorem dp_row {K : PySem.W.Frag} {G : Hp} {v : V} {row : List F.X} (h : Dp K G v (.tuple (row.map F.toD))) : RowIs K F G v row := by
  cases h with
  | tup q r => exact ⟨_, _, rfl, q, All2.map.mp (dpAll_all2 r)⟩
def InOk (K : PySem.W.Frag) (F : Fold) (sp : Sp) : Prop := ∀ (G H : Hp) (v : V) (x : F.X) (Q : VK), Same G H → Dp K G v (F.toD x) →
  (∀ p H' ws, Same H H' → H p = none → H' p = some (.lst ws) → All2 (RowIs K F G) ws (F.sub x) → Q (.ref p) H') → sp [v] H Q (fun _ _ _ => False)
/-- the results of the rows in each of a row -/
def InnerIs (F : Fold) (G H : Hp) (w : V) (x : F.X) : Prop := ∃ l vs, w = .ref l ∧ H l = some (.lst vs) ∧ All2 (F.RR G) vs (F.sub x)
/-- what is new in G' is new in H, too -/
def NewIn (G G' H : Hp) : Prop := ∀ b, G' b ≠ none → G b ≠ none ∨ H b = none
def MadeOk (K : PySem.W.Frag) (F : Fold) (sp : Sp) : Prop := ∀ (G H : Hp) (v : V) (L : Addr) (ws : List V) (row : List F.X) (Q : VK), Same G H → RowIs K F G v row → F.Ok row → row.length ≤ 100000 → H L = some (.lst ws) →
  All2 (InnerIs F G H) ws row → (∀ r H' G', Same H H' → Same G G' → Same G' H' → NewIn G G' H → F.RR G' r row → Q r H') → sp [v, .ref L] H Q (fun _ _ _ => False)
def PlaceOk (F : Fold) (rs : List (List F.X)) (j : Nat) (x : F.X) (be : Nat × Nat) : Prop := j < be.1 ∧ be.1 ≤ be.2 ∧ be.2 ≤ rs.length ∧ (rs.drop be.1).take (be.2 - be.1) = F.sub x
theorem PlaceOk.app {rs more : List (List F.X)} {j : Nat} {x : F.X} {be : Nat × Nat} (h : PlaceOk F rs j x be) : PlaceOk F (rs ++ more) j x be := by
  obtain ⟨h1, h2, h3, h4⟩ := h
  refine ⟨h1, h2, by simp; omega, ?_⟩
  rw [List.drop_append_of_le_length (by omega), List.take_append_of_le_length (by simp; omega)]
  exact h4
theorem PlaceOk.new {rs : List (List F.X)} {j : Nat} {x : F.X} (h : j < rs.length) : PlaceOk F (rs ++ F.sub x) j x (rs.length, rs.length + (F.sub x).length) := by
  refine ⟨h, by simp, by simp, ?_⟩
  show ((rs ++ F.sub x).drop rs.length).take (rs.length + (F.sub x).length - rs.length) = F.sub x
  rw [List.drop_left, Nat.add_sub_cancel_left, List.take_length]
def PairAt (H : Hp) (t : V) (be : Nat × Nat) : Prop := ∃ q, t = .ref q ∧ H q = some (.tup [.int (be.1 : Nat), .int (be.2 : Nat)])
def NumIs (H : Hp) (v : V) (ps : List (Nat × Nat)) : Prop := ∃ a ts, v = .ref a ∧ H a = some (.lst ts) ∧ All2 (PairAt H) ts ps
theorem PairAt.same {G G' : Hp} {v : V} {be : Nat × Nat} (s : Same G G') (h : PairAt G v be) : PairAt G' v be := by
  obtain ⟨q, e, h⟩ := h
  exact ⟨q, e, s _ _ h⟩
theorem NumIs.same {G G' : Hp} {v : V} {ps : List (Nat × Nat)} (s : Same G G') (h : NumIs G v ps) : NumIs G' v ps := by
  obtain ⟨a, ts, e, h, r⟩ := h
  exact ⟨a, ts, e, s _ _ h, r.mono fun _ _ p => p.same s⟩
/-- so far the rows were gone through -/
structure Gone (F : Fold) (rs : List (List F.X)) (ps : List (List (Nat × Nat))) : Prop where
  le : ps.length ≤ rs.length
  at_ : ∀ j row pj, rs[j]? = some row → ps[j]? = some pj → All2 (PlaceOk F rs j) row pj
theorem Gone.step {rs : List (List F.X)} {ps : List (List (Nat × Nat))} {row : List F.X} {nums : List (Nat × Nat)} (h : Gone F rs ps) (hr : rs[ps.length]? = some row)
    (hn : All2 (PlaceOk F (rs ++ row.flatMap F.sub) ps.length) row nums) : Gone F (rs ++ row.flatMap F.sub) (ps ++ [nums]) := by
  have hlt : ps.length < rs.length := (List.getElem?_eq_some_iff.mp hr).1
  refine ⟨by simp; omega, fun j r pj h1 h2 => ?_⟩
  by_cases c : j < ps.length
  · rw [List.getElem?_append_left (by omega)] at h1
    rw [List.getElem?_append_left c] at h2
    exact (h.at_ j r pj h1 h2).mono fun _ _ p => p.app
  · have hj : j = ps.length := by
      have := (List.getElem?_eq_some_iff.mp h2).1
      simp at this
      omega
    subst hj
    rw [List.getElem?_append_left hlt, hr] at h1
    rw [List.getElem?_append_right (Nat.le_refl _), Nat.sub_self] at h2
    cases h1
    cases h2
    exact hn
theorem Gone.left {rs : List (List F.X)} {k : Nat} {row : List F.X} (hr : rs[k]? = some row) : tot F.N ((rs ++ row.flatMap F.sub).drop (k + 1)) + 1 + row.length = tot F.N (rs.drop k) := by
  have hlt : k < rs.length := (List.getElem?_eq_some_iff.mp hr).1
  have e : rs.drop k = row :: rs.drop (k + 1) := by
    rw [List.drop_eq_getElem_cons hlt]
    have := List.getElem?_eq_getElem hlt
    rw [hr] at this
    cases this
    rfl
  rw [List.drop_append_of_le_length (by omega), tot_app, e]
  show tot F.N (rs.drop (k + 1)) + tot F.N (row.flatMap F.sub) + 1 + row.length = F.N row + tot F.N (rs.drop (k + 1))
  rw [F.hN row]
  omega
end
end My

namespace My
open PySem PySem.Spec PyProof.Rows L2
theorem ifT {b : Bool} {A B : Prop} (h : b = true) (a : A) : if b = true then A else B := by
  rw [if_pos h]
  exact a
theorem ifF {b : Bool} {A B : Prop} (h : b = false) (a : B) : if b = true then A else B := by
  rw [if_neg (by rw [h]; exact Bool.false_ne_true)]
  exact a
/-! ### a test that may lay objects -/
def AnsS (t : TT) (σ : L2.St) (H : Hp) (P : Bool → Prop) : Prop := ∀ Q : Bool → Hp → Prop, (∀ b H', Same H H' → P b → Q b H') → t σ H Q
theorem ifS {c : TT} {a b : TS} {D : Ends} {σ : L2.St} {H : Hp} (P : Bool → Prop) (hc : AnsS c σ H P) (ht : ∀ H', Same H H' → P true → a D σ H') (hf : ∀ H', Same H H' → P false → b D σ H') : tIfS c a b D σ H :=
  hc _ fun k H' s p => by
    cases k with
    | true => exact iteT (ht H' s p)
    | false => exact iteF (hf H' s p)
theorem ifS_g {c : TT} {a b u : TS} {D : Ends} {σ : L2.St} {H : Hp} {i : Nat} {x : V} (P : Bool → Prop) (hc : AnsS c (σ.set i (some x)) H P) (ht : ∀ H', Same H H' → P true → a { D with nx := u D } (σ.set i (some x)) H') (hf : ∀ H', Same H H' → P false → b { D with nx := u D } (σ.set i (some x)) H') :
    gName i x σ H { D with nx := tSeq (tIfS c a b) u D }.nx := ifS P hc ht hf
theorem ifS_1 {c : TT} {a b : TS} {D : Ends} {σ : L2.St} {H : Hp} {i : Nat} {x : V} (P : Bool → Prop) (hc : AnsS c (σ.set i (some x)) H P) (ht : ∀ H', Same H H' → P true → a D (σ.set i (some x)) H') (hf : ∀ H', Same H H' → P false → b D (σ.set i (some x)) H') :
    gName i x σ H { D with nx := tIfS c a b D }.nx := ifS P hc ht hf
theorem atLast {xs : List V} {x : V} : atI (xs ++ [x]) (-1) = some x := by
  have e : ixN (xs ++ [x]).length (-1) = some xs.length := by
    unfold ixN
    rw [if_neg (by decide), if_pos (by rw [List.length_append, List.length_singleton]; omega)]
    congr 1
    rw [List.length_append, List.length_singleton]
    omega
  unfold atI
  rw [e]
  show (xs ++ [x])[xs.length]? = some x
  rw [List.getElem?_append_right (Nat.le_refl _), Nat.sub_self]
  rfl
theorem dpAll_app {K : PySem.W.Frag} {H : Hp} : ∀ {vs us : List V} {ds es : List PyData}, DpAll K H vs ds → DpAll K H us es → DpAll K H (vs ++ us) (ds ++ es)
  | _, _, _, _, .nil, g => g
  | _, _, _, _, .cons h r, g => .cons h (dpAll_app r g)
theorem dpAll_keep {K : PySem.W.Frag} {H H' : Hp} {L : Addr} {vs : List V} {ds : List PyData} (k : Keeps L H H') (hL : ∃ xs, H L = some (.lst xs)) (n : noListAll ds = true) (h : DpAll K H vs ds) : DpAll K H' vs ds := by
  have h1 := dpAll_rest (L := [L]) (fun b hb => by rw [List.mem_singleton.mp hb]; exact hL) n h
  refine dpAll_same (fun b o e => ?_) h1
  have hb : b ≠ L := fun z => by rw [z, rest_in (by simp)] at e; cases e
  rw [rest_out (by simpa using hb)] at e
  exact k b o hb e
end My

/-! ### inlines as trees -/
namespace IM
open PySem PySem.Spec PyProof.Rows L2 My
inductive Inl where
  | text (t : List Nat)
  | code (t : List Nat)
  | html (t : List Nat)
  | soft
  | hard
  | emph (r : List Inl)
  | strong (r : List Inl)
  | link (d : List Nat) (t : Option (List Nat)) (r : List Inl)
  | image (d : List Nat) (t : Option (List Nat)) (r : List Inl)
def optD : Option (List Nat) → PyData
  | none => .none
  | some t => .str (S t)
mutual
def Inl.toD : Inl → PyData
  | .text t => .tuple [.str "text", .str (S t)]
  | .code t => .tuple [.str "code", .str (S t)]
  | .html t => .tuple [.str "html", .str (S t)]
  | .soft => .tuple [.str "soft"]
  | .hard => .tuple [.str "hard"]
  | .emph r => .tuple [.str "emph", .tuple (rowD r)]
  | .strong r => .tuple [.str "strong", .tuple (rowD r)]
  | .link d t r => .tuple [.str "link", .str (S d), optD t, .tuple (rowD r)]
  | .image d t r => .tuple [.str "image", .str (S d), optD t, .tuple (rowD r)]
def rowD : List Inl → List PyData
  | [] => []
  | x :: r => x.toD :: rowD r
end
theorem rowD_map : ∀ r : List Inl, rowD r = r.map Inl.toD
  | [] => rfl
  | x :: r => by
    show x.toD :: rowD r = x.toD :: r.map Inl.toD
    rw [rowD_map r]
mutual
def Inl.words : Inl → List Nat
  | .text t => t
  | .code t => t
  | .html _ => []
  | .soft => [32]
  | .hard => [32]
  | .emph r => rowW r
  | .strong r => rowW r
  | .link _ _ r => rowW r
  | .image _ _ r => rowW r
def rowW : List Inl → List Nat
  | [] => []
  | x :: r => x.words ++ rowW r
end
theorem rowW_app : ∀ a b : List Inl, rowW (a ++ b) = rowW a ++ rowW b
  | [], b => rfl
  | x :: a, b => by
    show x.words ++ rowW (a ++ b) = x.words ++ rowW a ++ rowW b
    rw [rowW_app a b, List.append_assoc]
theorem rowW_one (x : Inl) : rowW [x] = x.words := List.append_nil _
theorem rowW_mem : ∀ {r : List Inl} {x : Inl}, x ∈ r → x.words.length ≤ (rowW r).length
  | y :: r, x, h => by
    show x.words.length ≤ (y.words ++ rowW r).length
    rw [List.length_append]
    rcases List.mem_cons.mp h with rfl | h
    · omega
    · have := rowW_mem h
      omega
def Inl.sub : Inl → List (List Inl)
  | .emph r => [r]
  | .strong r => [r]
  | .link _ _ r => [r]
  | .image _ _ r => [r]
  | _ => []
mutual
def Inl.rows : Inl → Nat
  | .emph r => 1 + rowN r
  | .strong r => 1 + rowN r
  | .link _ _ r => 1 + rowN r
  | .image _ _ r => 1 + rowN r
  | _ => 0
def rowN : List Inl → Nat
  | [] => 0
  | x :: r => 1 + x.rows + rowN r
end
theorem rowN_tot : ∀ r : List Inl, rowN r = r.length + tot (fun r => 1 + rowN r) (r.flatMap Inl.sub)
  | [] => rfl
  | x :: r => by
    have ih := rowN_tot r
    rw [List.flatMap_cons, tot_app]
    have e : x.rows = tot (fun r => 1 + rowN r) x.sub := by cases x <;> rfl
    show 1 + x.rows + rowN r = r.length + 1 + _
    omega
def wordsF : Fold where
  X := Inl
  toD := Inl.toD
  sub := Inl.sub
  N := fun r => 1 + rowN r
  hN := fun r => by rw [rowN_tot r]; omega
  Ok := fun r => (rowW r).length ≤ 1000000
  inh := fun row x r ho hx hr => by
    have := rowW_mem hx
    have e : x.words = rowW r := by
      cases x <;> simp only [Inl.sub, List.mem_singleton, List.not_mem_nil] at hr <;> (subst hr; rfl)
    rw [← e]
    omega
  RR := fun _ v r => v = .str (S (rowW r))
  mono := fun _ _ _ _ _ h => h
mutual
theorem noList_toD : ∀ x : Inl, noList x.toD = true
  | .text t => rfl
  | .code t => rfl
  | .html t => rfl
  | .soft => rfl
  | .hard => rfl
  | .emph r => by
    show (noList (.str "emph") && (noListAll (rowD r) && true)) = true
    rw [noList_row r]
    rfl
  | .strong r => by
    show (noList (.str "strong") && (noListAll (rowD r) && true)) = true
    rw [noList_row r]
    rfl
  | .link d t r => by
    show (noList (.str "link") && (noList (.str (S d)) && (noList (optD t) && (noListAll (rowD r) && true)))) = true
    rw [noList_row r]
    cases t <;> rfl
  | .image d t r => by
    show (noList (.str "image") && (noList (.str (S d)) && (noList (optD t) && (noListAll (rowD r) && true)))) = true
    rw [noList_row r]
    cases t <;> rfl
theorem noList_row : ∀ r : List Inl, noListAll (rowD r) = true
  | [] => rfl
  | x :: r => by
    show (noList x.toD && noListAll (rowD r)) = true
    rw [noList_toD x, noList_row r]
    rfl
end
/-! bounds: at most w in a row, d rows within one another -/
def Leaf : Inl → Prop
  | .text t => t.length ≤ 20 ∧ Sm t
  | .code t => t.length ≤ 20 ∧ Sm t
  | .html t => Sm t
  | .soft => True
  | .hard => True
  | _ => False
def optSm : Option (List Nat) → Prop
  | none => True
  | some t => Sm t
def Bd (w : Nat) : Nat → Inl → Prop
  | 0, x => Leaf x
  | d + 1, x => match x with
    | .emph r => r.length ≤ w ∧ ∀ y ∈ r, Bd w d y
    | .strong r => r.length ≤ w ∧ ∀ y ∈ r, Bd w d y
    | .link g t r => Sm g ∧ optSm t ∧ r.length ≤ w ∧ ∀ y ∈ r, Bd w d y
    | .image g t r => Sm g ∧ optSm t ∧ r.length ≤ w ∧ ∀ y ∈ r, Bd w d y
    | x => Leaf x
theorem Bd.leaf {w d : Nat} {x : Inl} (h : Leaf x) : Bd w d x := by
  cases d with
  | zero => exact h
  | succ d => cases x <;> first | exact h | exact h.elim
theorem Bd.up {w : Nat} : ∀ {d : Nat} {x : Inl}, Bd w d x → Bd w (d + 1) x
  | 0, x, h => .leaf h
  | d + 1, x, h => by
    cases x with
    | emph r => exact ⟨h.1, fun y hy => Bd.up (h.2 y hy)⟩
    | strong r => exact ⟨h.1, fun y hy => Bd.up (h.2 y hy)⟩
    | link g t r => exact ⟨h.1, h.2.1, h.2.2.1, fun y hy => Bd.up (h.2.2.2 y hy)⟩
    | image g t r => exact ⟨h.1, h.2.1, h.2.2.1, fun y hy => Bd.up (h.2.2.2 y hy)⟩
    | _ => exact h
theorem Bd.le {w d e : Nat} {x : Inl} (h : Bd w d x) (l : d ≤ e) : Bd w e x := by
  induction l with
  | refl => exact h
  | step _ ih => exact ih.up
theorem rowW_le {k : Nat} : ∀ {r : List Inl}, (∀ y ∈ r, y.words.length ≤ k) → (rowW r).length ≤ r.length * k
  | [], _ => Nat.zero_le _
  | x :: r, h => by
    show (x.words ++ rowW r).length ≤ (r.length + 1) * k
    rw [List.length_append, Nat.succ_mul]
    have h1 := h x (List.mem_cons_self ..)
    have h2 := rowW_le (r := r) fun y hy => h y (List.mem_cons_of_mem _ hy)
    omega
theorem rowN_le {k : Nat} : ∀ {r : List Inl}, (∀ y ∈ r, y.rows ≤ k) → rowN r ≤ r.length * (1 + k)
  | [], _ => Nat.zero_le _
  | x :: r, h => by
    show 1 + x.rows + rowN r ≤ (r.length + 1) * (1 + k)
    rw [Nat.succ_mul]
    have h1 := h x (List.mem_cons_self ..)
    have h2 := rowN_le (r := r) fun y hy => h y (List.mem_cons_of_mem _ hy)
    omega
def capN (w : Nat) : Nat → Nat
  | 0 => 0
  | d + 1 => 1 + w * (1 + capN w d)
theorem Leaf.words {x : Inl} (h : Leaf x) : x.words.length ≤ 20 := by
  cases x <;> first | exact h.1 | exact h.elim | (show _ ≤ 20; decide) | exact Nat.zero_le _
theorem Leaf.rows {x : Inl} (h : Leaf x) : x.rows = 0 := by
  cases x <;> first | rfl | exact h.elim
theorem Bd.row {w d : Nat} {r : List Inl} {P : Nat} (hl : r.length ≤ w) (hp : (rowW r).length ≤ r.length * P) : (rowW r).length ≤ w * P := Nat.le_trans hp (Nat.mul_le_mul_right _ hl)
theorem Bd.words {w : Nat} (hw : 1 ≤ w) : ∀ {d : Nat} {x : Inl}, Bd w d x → x.words.length ≤ 20 * w ^ d
  | 0, x, h => by
    have := Leaf.words h
    simpa using this
  | d + 1, x, h => by
    have h20 : 20 ≤ 20 * w ^ (d + 1) := Nat.le_mul_of_pos_right _ (Nat.pow_pos (by omega))
    have step : ∀ r : List Inl, r.length ≤ w → (∀ y ∈ r, Bd w d y) → (rowW r).length ≤ 20 * w ^ (d + 1) := fun r hl hr => by
      have h1 := rowW_le (k := 20 * w ^ d) fun y hy => Bd.words hw (hr y hy)
      have h2 := Nat.mul_le_mul_right (20 * w ^ d) hl
      have e : w * (20 * w ^ d) = 20 * w ^ (d + 1) := by rw [Nat.pow_succ, Nat.mul_left_comm, Nat.mul_comm w]
      omega
    cases x with
    | emph r => exact step r h.1 h.2
    | strong r => exact step r h.1 h.2
    | link g t r => exact step r h.2.2.1 h.2.2.2
    | image g t r => exact step r h.2.2.1 h.2.2.2
    | text t => exact Nat.le_trans (Leaf.words h) h20
    | code t => exact Nat.le_trans (Leaf.words h) h20
    | html t => exact Nat.le_trans (Leaf.words h) h20
    | soft => exact Nat.le_trans (Leaf.words (x := .soft) trivial) h20
    | hard => exact Nat.le_trans (Leaf.words (x := .hard) trivial) h20
theorem Bd.rows {w : Nat} : ∀ {d : Nat} {x : Inl}, Bd w d x → x.rows ≤ capN w d
  | 0, x, h => by rw [Leaf.rows h]; exact Nat.zero_le _
  | d + 1, x, h => by
    have step : ∀ r : List Inl, r.length ≤ w → (∀ y ∈ r, Bd w d y) → 1 + rowN r ≤ capN w (d + 1) := fun r hl hr => by
      have h1 := rowN_le (k := capN w d) fun y hy => Bd.rows (hr y hy)
      have h2 := Nat.mul_le_mul_right (1 + capN w d) hl
      show 1 + rowN r ≤ 1 + w * (1 + capN w d)
      omega
    cases x with
    | emph r => exact step r h.1 h.2
    | strong r => exact step r h.1 h.2
    | link g t r => exact step r h.2.2.1 h.2.2.2
    | image g t r => exact step r h.2.2.1 h.2.2.2
    | _ => exact Nat.zero_le _
/-! the data are well shaped -/
theorem optD_lay {t : Option (List Nat)} (h : optSm t) : (optD t).canLay0 = true := by
  cases t with
  | none => rfl
  | some t => exact Sm.ok h
theorem optD_depth (t : Option (List Nat)) : (optD t).depth = 0 := by cases t <;> rfl
theorem layAll : ∀ {r : List Inl}, (∀ y ∈ r, y.toD.canLay0 = true) → PyData.canLayAll0 (rowD r) = true
  | [], _ => rfl
  | x :: r, h => by
    show (x.toD.canLay0 && PyData.canLayAll0 (rowD r)) = true
    rw [h x (List.mem_cons_self ..), layAll fun y hy => h y (List.mem_cons_of_mem _ hy)]
    rfl
theorem depthAll_le {k : Nat} : ∀ {r : List Inl}, (∀ y ∈ r, y.toD.depth ≤ k) → PyData.depthAll (rowD r) ≤ k
  | [], _ => Nat.zero_le _
  | x :: r, h => by
    show max x.toD.depth (PyData.depthAll (rowD r)) ≤ k
    have h1 := h x (List.mem_cons_self ..)
    have h2 := depthAll_le (r := r) fun y hy => h y (List.mem_cons_of_mem _ hy)
    omega
theorem Leaf.lay {x : Inl} (h : Leaf x) : x.toD.canLay0 = true ∧ x.toD.depth ≤ 1 := by
  cases x with
  | text t => exact ⟨by show (PyData.strOk "text" && (PyData.strOk (S t) && true)) = true; rw [h.2.ok]; decide +kernel, Nat.le_refl _⟩
  | code t => exact ⟨by show (PyData.strOk "code" && (PyData.strOk (S t) && true)) = true; rw [h.2.ok]; decide +kernel, Nat.le_refl _⟩
  | html t => exact ⟨by show (PyData.strOk "html" && (PyData.strOk (S t) && true)) = true; rw [Sm.ok h]; decide +kernel, Nat.le_refl _⟩
  | soft => exact ⟨by show (PyData.strOk "soft" && true) = true; decide +kernel, Nat.le_refl _⟩
  | hard => exact ⟨by show (PyData.strOk "hard" && true) = true; decide +kernel, Nat.le_refl _⟩
  | _ => exact h.elim
theorem Bd.lay {w : Nat} : ∀ {d : Nat} {x : Inl}, Bd w d x → x.toD.canLay0 = true ∧ x.toD.depth ≤ 2 * d + 1
  | 0, x, h => Leaf.lay h
  | d + 1, x, h => by
    have step : ∀ r : List Inl, (∀ y ∈ r, Bd w d y) → PyData.canLayAll0 (rowD r) = true ∧ PyData.depthAll (rowD r) ≤ 2 * d + 1 := fun r hr =>
      ⟨layAll fun y hy => (Bd.lay (hr y hy)).1, depthAll_le fun y hy => (Bd.lay (hr y hy)).2⟩
    have two : ∀ (z : Str) (r : List Inl), PyData.strOk z = true → (∀ y ∈ r, Bd w d y) → (PyData.tuple [.str z, .tuple (rowD r)]).canLay0 = true ∧ (PyData.tuple [.str z, .tuple (rowD r)]).depth ≤ 2 * (d + 1) + 1 := fun z r hz hr => by
      obtain ⟨h1, h2⟩ := step r hr
      constructor
      · show (PyData.strOk z && (PyData.canLayAll0 (rowD r) && true)) = true
        rw [hz, h1]
        rfl
      · show max 0 (max (PyData.depthAll (rowD r) + 1) 0) + 1 ≤ 2 * (d + 1) + 1
        omega
    have four : ∀ (z : Str) (g : List Nat) (t : Option (List Nat)) (r : List Inl), PyData.strOk z = true → Sm g → optSm t → (∀ y ∈ r, Bd w d y) → (PyData.tuple [.str z, .str (S g), optD t, .tuple (rowD r)]).canLay0 = true ∧ (PyData.tuple [.str z, .str (S g), optD t, .tuple (rowD r)]).depth ≤ 2 * (d + 1) + 1 := fun z g t r hz hg ht hr => by
      obtain ⟨h1, h2⟩ := step r hr
      constructor
      · show (PyData.strOk z && (PyData.strOk (S g) && ((optD t).canLay0 && (PyData.canLayAll0 (rowD r) && true)))) = true
        rw [hz, hg.ok, optD_lay ht, h1]
        rfl
      · show max 0 (max 0 (max (optD t).depth (max (PyData.depthAll (rowD r) + 1) 0))) + 1 ≤ 2 * (d + 1) + 1
        rw [optD_depth]
        omega
    have lf : Leaf x → x.toD.canLay0 = true ∧ x.toD.depth ≤ 2 * (d + 1) + 1 := fun h => ⟨(Leaf.lay h).1, Nat.le_trans (Leaf.lay h).2 (by omega)⟩
    cases x with
    | emph r => exact two "emph" r (by decide +kernel) h.2
    | strong r => exact two "strong" r (by decide +kernel) h.2
    | link g t r => exact four "link" g t r (by decide +kernel) h.1 h.2.1 h.2.2.2
    | image g t r => exact four "image" g t r (by decide +kernel) h.1 h.2.1 h.2.2.2
    | text t => exact lf h
    | code t => exact lf h
    | html t => exact lf h
    | soft => exact lf trivial
    | hard => exact lf trivial
end IM

namespace RM
open My PySem PySem.Spec PyProof.Rows L2
/-! ### references: what is asked, over signs -/
open PyProof.Rows (lo1 up1)
def PunL : List Nat := [33, 34, 35, 36, 38, 39, 40, 41, 42, 43, 44, 45, 46, 47, 58, 59, 60, 61, 62, 63, 64, 91, 92, 93, 94, 95, 123, 124, 125, 126, 96]
def HexL : List Nat := [48, 49, 50, 51, 52, 53, 54, 55, 56, 57, 97, 98, 99, 100, 101, 102]
def DecL : List Nat := [48, 49, 50, 51, 52, 53, 54, 55, 56, 57]
def NamesL : List (List Nat × Nat) := [([97, 109, 112], 38), ([108, 116], 60), ([103, 116], 62), ([113, 117, 111, 116], 34), ([97, 112, 111, 115], 39), ([110, 117, 109], 35), ([97, 115, 116], 42), ([108, 111, 119, 98, 97, 114], 95), ([103, 114, 97, 118, 101], 96), ([108, 115, 113, 98], 91), ([114, 115, 113, 98], 93), ([108, 112, 97, 114], 40), ([114, 112, 97, 114], 41), ([108, 99, 117, 98], 123), ([114, 99, 117, 98], 125), ([98, 115, 111, 108], 92), ([101, 120, 99, 108], 33), ([84, 97, 98], 9), ([78, 101, 119, 76, 105, 110, 101], 10)]
def escR : List Nat → Bool
  | a :: c :: _ => a == 92 && PunL.contains c
  | _ => false
def numR (B : Nat) (ds w : List Nat) : Option Nat := if w = [] then none else if (w.map lo1).all ds.contains = true then some (numB B w) else none
def sgnR (n : Nat) : Option Nat := if n = 9 ∨ n = 10 ∨ (32 ≤ n ∧ n ≤ 36) ∨ (38 ≤ n ∧ n ≤ 126) then some n else none
def meantR (w : List Nat) : Option Nat :=
  if [35, 120].isPrefixOf w || [35, 88].isPrefixOf w then (numR 16 HexL (w.drop 2)).bind sgnR
  else if [35].isPrefixOf w then (numR 10 DecL (w.drop 1)).bind sgnR
  else NamesL.lookup w
def refR (l : List Nat) : Option (Nat × Nat) :=
  if [38].isPrefixOf l then match findL [59] (l.take 10) with
    | none => none
    | some k => (meantR ((l.drop 1).take (k - 1))).map fun c => (k + 1, c)
  else none
def stepR : List Nat → Nat × Nat
  | [] => (1, 0)
  | a :: r => if escR (a :: r) = true then (2, r.headD 0) else match refR (a :: r) with
    | some x => x
    | none => (1, a)
def decF : Nat → List Nat → List Nat
  | 0, _ => []
  | n + 1, l => match l with
    | [] => []
    | a :: r => (stepR (a :: r)).2 :: decF n ((a :: r).drop (stepR (a :: r)).1)
def decR (l : List Nat) : List Nat := decF l.length l
theorem refR_pos {l : List Nat} {k c : Nat} (h : refR l = some (k, c)) : 1 ≤ k ∧ k ≤ l.length := by
  unfold refR at h
  split at h
  · cases hf : findL [59] (l.take 10) with
    | none => rw [hf] at h; cases h
    | some j =>
      rw [hf] at h
      dsimp only at h
      cases hm : meantR ((l.drop 1).take (j - 1)) with
      | none => rw [hm] at h; cases h
      | some c' =>
        rw [hm] at h
        have e := Option.some.inj h
        have e1 : j + 1 = k := congrArg Prod.fst e
        have h1 := pre_len _ _ (findL_some (by simp) hf).1
        rw [List.length_drop, List.length_take] at h1
        simp at h1
        omega
  · cases h
theorem stepR_pos (a : Nat) (r : List Nat) : 1 ≤ (stepR (a :: r)).1 ∧ (stepR (a :: r)).1 ≤ (a :: r).length := by
  show 1 ≤ (if escR (a :: r) = true then (2, r.headD 0) else match refR (a :: r) with | some x => x | none => (1, a)).1 ∧ (if escR (a :: r) = true then (2, r.headD 0) else match refR (a :: r) with | some x => x | none => (1, a)).1 ≤ _
  split
  · rename_i h
    cases r with
    | nil => cases h
    | cons b r => simp
  · cases hr : refR (a :: r) with
    | none => simp
    | some x => exact refR_pos hr
theorem decF_enough : ∀ (n : Nat) (l : List Nat), l.length ≤ n → decF n l = decF l.length l := by
  intro n
  induction n using Nat.strongRecOn with
  | _ n ih =>
    intro l h
    cases l with
    | nil => cases n <;> rfl
    | cons a r =>
      cases n with
      | zero => simp at h
      | succ n =>
        have hp := (stepR_pos a r).1
        have hd : ((a :: r).drop (stepR (a :: r)).1).length ≤ r.length := by
          rw [List.length_drop, List.length_cons]
          omega
        have hr : r.length ≤ n := by simp at h; omega
        show (stepR (a :: r)).2 :: decF n ((a :: r).drop (stepR (a :: r)).1) = (stepR (a :: r)).2 :: decF r.length ((a :: r).drop (stepR (a :: r)).1)
        congr 1
        rw [ih n (Nat.lt_succ_self n) _ (Nat.le_trans hd hr)]
        by_cases e : r.length = n
        · rw [e]
          exact (ih n (Nat.lt_succ_self n) _ (by omega)).symm
        · exact (ih r.length (by omega) _ hd).symm
theorem decR_cons (a : Nat) (r : List Nat) : decR (a :: r) = (stepR (a :: r)).2 :: decR ((a :: r).drop (stepR (a :: r)).1) := by
  show (stepR (a :: r)).2 :: decF r.length ((a :: r).drop (stepR (a :: r)).1) = _
  congr 1
  have hp := (stepR_pos a r).1
  exact decF_enough _ _ (by rw [List.length_drop, List.length_cons]; omega)
theorem decR_nil : decR [] = [] := rfl
/-! a reference with all its signs -/
theorem find_pre {a : List Nat} (h : 59 ∉ a) (r : List Nat) : findL [59] (a ++ r) = (findL [59] r).map (· + a.length) := by
  induction a with
  | nil => cases h : findL [59] r <;> simp [h]
  | cons x a ih =>
    have hx : x ≠ 59 := fun e => h (by simp [e])
    have h2 : 59 ∉ a := fun e => h (by simp [e])
    show (if ([59] : List Nat).isPrefixOf (x :: (a ++ r)) = true then some 0 else (findL [59] (a ++ r)).map (· + 1)) = _
    rw [if_neg (by simp [List.isPrefixOf]; exact fun e => hx e.symm), ih h2, List.length_cons]
    cases findL [59] r <;> simp
    omega
theorem find_not {a : List Nat} (h : 59 ∉ a) : findL [59] a = none := by
  have := find_pre h []
  rw [List.append_nil] at this
  rw [this]
  rfl
theorem ref_at {a : List Nat} (h : 59 ∉ a) (r : List Nat) : refR (38 :: (a ++ 59 :: r)) = if a.length ≤ 8 then (meantR a).map (fun c => (a.length + 2, c)) else none := by
  unfold refR
  rw [if_pos (by rfl)]
  by_cases hl : a.length ≤ 8
  · rw [if_pos hl]
    have e1 : (38 :: (a ++ 59 :: r)).take 10 = (38 :: a) ++ (59 :: r.take (8 - a.length)) := by
      rw [List.take_succ_cons, List.take_append, List.take_of_length_le (by omega)]
      rw [show 9 - a.length = (8 - a.length) + 1 by omega, List.take_succ_cons]
      rfl
    have h38 : 59 ∉ 38 :: a := by simp [h]
    rw [e1, find_pre h38]
    have e2 : findL [59] (59 :: r.take (8 - a.length)) = some 0 := rfl
    rw [e2]
    show (meantR ((a ++ 59 :: r).take (0 + (38 :: a).length - 1))).map (fun c => (0 + (38 :: a).length + 1, c)) = _
    rw [List.length_cons, Nat.zero_add, Nat.add_sub_cancel, List.take_left]
  · rw [if_neg hl]
    have e1 : (38 :: (a ++ 59 :: r)).take 10 = 38 :: (a.take 9) := by
      rw [List.take_succ_cons, List.take_append, show 9 - a.length = 0 by omega, List.take_zero, List.append_nil]
    have : 59 ∉ 38 :: a.take 9 := by
      intro z
      rcases List.mem_cons.mp z with z | z
      · cases z
      · exact h (List.mem_of_mem_take z)
    rw [e1, find_not this]
theorem lo1_blank {w ds : List Nat} (h : 32 ∈ w) (hd : 32 ∉ ds) (B : Nat) : numR B ds w = none := by
  unfold numR
  split
  · rfl
  · split
    · rename_i h2
      rw [List.all_eq_true] at h2
      have := h2 32 (List.mem_map.mpr ⟨32, h, rfl⟩)
      exact absurd (by simpa using this) hd
    · rfl
theorem names_blank : ∀ p ∈ NamesL, 32 ∉ p.1 := by decide
theorem lookup_blank {w : List Nat} (h : 32 ∈ w) : ∀ {ps : List (List Nat × Nat)}, (∀ p ∈ ps, 32 ∉ p.1) → ps.lookup w = none
  | [], _ => rfl
  | p :: ps, hp => by
    rw [List.lookup_cons]
    have h1 := hp p (List.mem_cons_self ..)
    have e : (w == p.1) = false := beq_eq_false_iff_ne.mpr fun e => h1 (e ▸ h)
    rw [e]
    exact lookup_blank h fun q hq => hp q (List.mem_cons_of_mem _ hq)
theorem meant_blank {w : List Nat} (h : 32 ∈ w) : meantR w = none := by
  unfold meantR
  have h1 : ∀ {x : List Nat}, x.isPrefixOf w = true → 32 ∉ x → 32 ∈ w.drop x.length := by
    intro x hx hn
    obtain ⟨s, rfl⟩ := List.isPrefixOf_iff_prefix.mp hx
    rw [List.drop_left]
    rcases List.mem_append.mp h with z | z
    · exact absurd z hn
    · exact z
  split
  · rename_i h2
    have h3 : 32 ∈ w.drop 2 := by
      rcases Bool.or_eq_true_iff.mp h2 with z | z
      · exact h1 z (by decide)
      · exact h1 z (by decide)
    rw [lo1_blank h3 (by decide)]
    rfl
  · split
    · rename_i h2
      have h3 : 32 ∈ w.drop 1 := h1 h2 (by decide)
      rw [lo1_blank h3 (by decide)]
      rfl
    · exact lookup_blank h names_blank
theorem ref_blank {a : List Nat} (h : 59 ∉ a) (r : List Nat) : refR (38 :: (a ++ 32 :: r)) = none := by
  unfold refR
  rw [if_pos (by rfl)]
  cases hf : findL [59] ((38 :: (a ++ 32 :: r)).take 10) with
  | none => rfl
  | some k =>
    dsimp only
    have h1 := (findL_some (by simp) hf).1
    have hk : a.length + 1 < k := by
      by_cases hk : k ≤ a.length + 1
      · exfalso
        rw [List.isPrefixOf_iff_prefix] at h1
        obtain ⟨s, hs⟩ := h1
        rw [List.drop_take] at hs
        have : 59 ∈ ((38 :: (a ++ 32 :: r)).drop k).take (10 - k) := by rw [← hs]; simp
        have e : (38 :: (a ++ 32 :: r))[k]? = some 59 := by
          have e2 : (((38 :: (a ++ 32 :: r)).drop k).take (10 - k))[0]? = some 59 := by rw [← hs]; rfl
          rw [List.getElem?_take] at e2
          split at e2
          · rw [List.getElem?_drop] at e2
            simpa using e2
          · cases e2
        cases k with
        | zero => cases e
        | succ k =>
          rw [List.getElem?_cons_succ] at e
          by_cases h2 : k < a.length
          · rw [List.getElem?_append_left h2] at e
            exact h (List.mem_of_getElem? e)
          · rw [List.getElem?_append_right (by omega), show k - a.length = 0 by omega] at e
            cases e
      · omega
    rw [meant_blank]
    · rfl
    · show 32 ∈ (a ++ 32 :: r).take (k - 1)
      rw [List.take_append, show k - 1 - a.length = (k - 2 - a.length) + 1 by omega, List.take_succ_cons]
      simp
theorem ref_end {a : List Nat} (h : 59 ∉ a) : refR (38 :: a) = none := by
  unfold refR
  rw [if_pos (by rfl)]
  have : 59 ∉ (38 :: a).take 10 := fun z => by
    rcases List.mem_cons.mp (List.mem_of_mem_take z) with z | z
    · cases z
    · exact h z
  rw [find_not this]
/-! signs that stay -/
theorem dec_plain {c : Nat} (h1 : c ≠ 38) (h2 : c ≠ 92) (r : List Nat) : decR (c :: r) = c :: decR r := by
  rw [decR_cons]
  have e1 : escR (c :: r) = false := by
    cases r with
    | nil => rfl
    | cons b r =>
      show (c == 92 && PunL.contains b) = false
      rw [beq_eq_false_iff_ne.mpr h2]
      rfl
  have e2 : refR (c :: r) = none := by
    unfold refR
    rw [if_neg]
    simp [List.isPrefixOf]
    exact fun e => h1 e.symm
  have e : stepR (c :: r) = (1, c) := by
    show (if escR (c :: r) = true then (2, r.headD 0) else match refR (c :: r) with | some x => x | none => (1, c)) = _
    rw [e1, e2]
    rfl
  rw [e]
  rfl
theorem dec_plains : ∀ {a : List Nat}, 38 ∉ a → 92 ∉ a → ∀ r, decR (a ++ r) = a ++ decR r
  | [], _, _, _ => rfl
  | c :: a, h1, h2, r => by
    show decR (c :: (a ++ r)) = c :: (a ++ decR r)
    rw [dec_plain (fun e => h1 (by simp [e])) (fun e => h2 (by simp [e])), dec_plains (fun e => h1 (by simp [e])) (fun e => h2 (by simp [e]))]
theorem dec_amp {r : List Nat} (h : refR (38 :: r) = none) : decR (38 :: r) = 38 :: decR r := by
  rw [decR_cons]
  have e1 : escR (38 :: r) = false := by cases r <;> rfl
  have e : stepR (38 :: r) = (1, 38) := by
    show (if escR (38 :: r) = true then (2, r.headD 0) else match refR (38 :: r) with | some x => x | none => (1, 38)) = _
    rw [e1, h]
    rfl
  rw [e]
  rfl
theorem dec_ref {r : List Nat} {k c : Nat} (h : refR (38 :: r) = some (k, c)) : decR (38 :: r) = c :: decR ((38 :: r).drop k) := by
  rw [decR_cons]
  have e1 : escR (38 :: r) = false := by cases r <;> rfl
  have e : stepR (38 :: r) = (k, c) := by
    show (if escR (38 :: r) = true then (2, r.headD 0) else match refR (38 :: r) with | some x => x | none => (1, 38)) = _
    rw [e1, h]
    rfl
  rw [e]
theorem dec_esc {c : Nat} (h : PunL.contains c = true) (r : List Nat) : decR (92 :: c :: r) = c :: decR r := by
  rw [decR_cons]
  have e1 : escR (92 :: c :: r) = true := by
    show ((92 : Nat) == 92 && PunL.contains c) = true
    rw [h]
    rfl
  have e : stepR (92 :: c :: r) = (2, c) := by
    show (if escR (92 :: c :: r) = true then (2, (c :: r).headD 0) else match refR (92 :: c :: r) with | some x => x | none => (1, 92)) = _
    rw [e1]
    rfl
  rw [e]
  rfl
theorem dec_back {r : List Nat} (h : escR (92 :: r) = false) : decR (92 :: r) = 92 :: decR r := by
  rw [decR_cons]
  have e2 : refR (92 :: r) = none := rfl
  have e : stepR (92 :: r) = (1, 92) := by
    show (if escR (92 :: r) = true then (2, r.headD 0) else match refR (92 :: r) with | some x => x | none => (1, 92)) = _
    rw [h, e2]
    rfl
  rw [e]
  rfl
/-! drawn references -/
def RefOk (a : List Nat) (sg : Option Nat) : Prop := 59 ∉ a ∧ 38 ∉ a ∧ 92 ∉ a ∧ (∀ c ∈ a, c < 128) ∧ a.length ≤ 20 ∧ (if a.length ≤ 8 then meantR a else none) = sg
def refOkB (a : List Nat) (sg : Option Nat) : Bool := a.all (fun c => c != 59 && c != 38 && c != 92 && decide (c < 128)) && decide (a.length ≤ 20) && decide ((if a.length ≤ 8 then meantR a else none) = sg)
theorem refOk_of {a : List Nat} {sg : Option Nat} (h : refOkB a sg = true) : RefOk a sg := by
  unfold refOkB at h
  rw [Bool.and_eq_true, Bool.and_eq_true, List.all_eq_true] at h
  obtain ⟨⟨h1, h2⟩, h3⟩ := h
  have h4 : ∀ c ∈ a, c ≠ 59 ∧ c ≠ 38 ∧ c ≠ 92 ∧ c < 128 := fun c hc => by
    have := h1 c hc
    simp at this
    exact ⟨this.1.1.1, this.1.1.2, this.1.2, this.2⟩
  exact ⟨fun z => (h4 _ z).1 rfl, fun z => (h4 _ z).2.1 rfl, fun z => (h4 _ z).2.2.1 rfl, fun c hc => (h4 c hc).2.2.2, of_decide_eq_true h2, of_decide_eq_true h3⟩
/-- a reference, whatever stands behind -/
theorem ok_ref {a : List Nat} {sg : Option Nat} (h : RefOk a sg) (r : List Nat) : refR (38 :: (a ++ 59 :: r)) = sg.map fun c => (a.length + 2, c) := by
  obtain ⟨h1, _, _, _, _, h2⟩ := h
  rw [ref_at h1, ← h2]
  split <;> rfl
/-- what it means in a text -/
def meaning (a : List Nat) (sg : Option Nat) : List Nat := match sg with
  | some c => [c]
  | none => 38 :: (a ++ [59])
/-- a piece of a text: a blank, or nothing, behind it -/
def Piece (x m : List Nat) : Prop := (∀ r, decR (x ++ 32 :: r) = m ++ decR (32 :: r)) ∧ decR x = m
theorem ok_piece {a : List Nat} {sg : Option Nat} (h : RefOk a sg) : Piece (38 :: (a ++ [59])) (meaning a sg) := by
  have key : ∀ r, decR (38 :: (a ++ 59 :: r)) = meaning a sg ++ decR r := by
    intro r
    have e := ok_ref h r
    cases sg with
    | none =>
      rw [dec_amp e, dec_plains h.2.1 h.2.2.1, dec_plain (by decide) (by decide)]
      simp [meaning]
    | some c =>
      rw [dec_ref e]
      have : (38 :: (a ++ 59 :: r)).drop (a.length + 2) = r := by
        rw [List.drop_succ_cons, List.drop_append, List.drop_of_length_le (by omega), show a.length + 1 - a.length = 1 by omega]
        rfl
      rw [this]
      rfl
  refine ⟨fun r => ?_, ?_⟩
  · have := key (32 :: r)
    simpa using this
  · have := key []
    rw [decR_nil, List.append_nil] at this
    exact this
theorem piece_joined : ∀ {xs : List (List Nat × List Nat)}, (∀ p ∈ xs, Piece p.1 p.2) → decR (TL.joinL [32] (xs.map Prod.fst)) = TL.joinL [32] (xs.map Prod.snd)
  | [], _ => rfl
  | [p], h => (h p (List.mem_cons_self ..)).2
  | p :: q :: r, h => by
    have ih := piece_joined (xs := q :: r) fun z hz => h z (List.mem_cons_of_mem _ hz)
    show decR (p.1 ++ ([32] ++ TL.joinL [32] ((q :: r).map Prod.fst))) = p.2 ++ ([32] ++ TL.joinL [32] ((q :: r).map Prod.snd))
    rw [show [32] ++ TL.joinL [32] ((q :: r).map Prod.fst) = 32 :: TL.joinL [32] ((q :: r).map Prod.fst) from rfl, (h p (List.mem_cons_self ..)).1, dec_plain (by decide) (by decide), ih]
    rfl
/-- the other pieces -/
def PieceMenu : List (List Nat × List Nat) := [([97], [97]), ([32], [32]), ([10], [10]), ([92, 42], [42]), ([92, 92], [92]), ([92, 38], [38]), ([92, 97], [92, 97]), ([92, 59], [59]), ([42], [42]), ([38, 32], [38, 32]), ([38, 35, 59], [38, 35, 59]), ([38, 120, 59], [38, 120, 59]), ([38, 97, 109, 112], [38, 97, 109, 112]), ([38, 65, 77, 80, 59], [38, 65, 77, 80, 59]), ([92, 32], [92, 32]), ([38, 35, 120, 59], [38, 35, 120, 59]), ([38, 59], [38, 59]), ([98], [98]), ([92, 10], [92, 10])]
theorem p_plain {x : List Nat} (h1 : 38 ∉ x) (h2 : 92 ∉ x) : Piece x x := ⟨fun r => dec_plains h1 h2 _, by have := dec_plains h1 h2 []; simpa [decR_nil] using this⟩
theorem p_esc {c : Nat} (h : PunL.contains c = true) : Piece [92, c] [c] := ⟨fun r => dec_esc h _, dec_esc h []⟩
theorem p_back {c : Nat} (h : PunL.contains c = false) (h1 : c ≠ 38) (h2 : c ≠ 92) : Piece [92, c] [92, c] := by
  have e : ∀ r, decR (92 :: c :: r) = 92 :: c :: decR r := fun r => by
    rw [dec_back (by show ((92 : Nat) == 92 && PunL.contains c) = false; rw [h]; rfl), dec_plain h1 h2]
  exact ⟨fun r => e _, e []⟩
theorem p_ref {a : List Nat} (h : RefOk a none) : Piece (38 :: (a ++ [59])) (38 :: (a ++ [59])) := ok_piece h
theorem p_open {a : List Nat} (h : 59 ∉ a) (h1 : 38 ∉ a) (h2 : 92 ∉ a) : Piece (38 :: a) (38 :: a) :=
  ⟨fun r => by
    show decR (38 :: (a ++ 32 :: r)) = 38 :: (a ++ decR (32 :: r))
    rw [dec_amp (ref_blank h r), dec_plains h1 h2], by
    rw [dec_amp (ref_end h)]
    have := dec_plains h1 h2 []
    rw [List.append_nil, decR_nil, List.append_nil] at this
    rw [this]⟩
theorem piece_menu : ∀ p ∈ PieceMenu, Piece p.1 p.2 := by
  intro p hp
  unfold PieceMenu at hp
  simp only [List.mem_cons, List.not_mem_nil, or_false] at hp
  rcases hp with rfl | rfl | rfl | rfl | rfl | rfl | rfl | rfl | rfl | rfl | rfl | rfl | rfl | rfl | rfl | rfl | rfl | rfl | rfl
  · exact p_plain (by decide) (by decide)
  · exact p_plain (by decide) (by decide)
  · exact p_plain (by decide) (by decide)
  · exact p_esc (by decide)
  · exact p_esc (by decide)
  · exact p_esc (by decide)
  · exact p_back (by decide) (by decide) (by decide)
  · exact p_esc (by decide)
  · exact p_plain (by decide) (by decide)
  · exact p_open (a := [32]) (by decide) (by decide) (by decide)
  · exact p_ref (a := [35]) (refOk_of (by decide +kernel))
  · exact p_ref (a := [120]) (refOk_of (by decide +kernel))
  · exact p_open (a := [97, 109, 112]) (by decide) (by decide) (by decide)
  · exact p_ref (a := [65, 77, 80]) (refOk_of (by decide +kernel))
  · exact p_back (by decide) (by decide) (by decide)
  · exact p_ref (a := [35, 120]) (refOk_of (by decide +kernel))
  · exact p_ref (a := []) (refOk_of (by decide +kernel))
  · exact p_plain (by decide) (by decide)
  · exact p_back (by decide) (by decide) (by decide)

end RM
namespace PM
open My PySem PySem.Spec PyProof.Rows L2
/-! ### places, by what is left of a text -/
def GapL : List Nat := [32, 9, 10]
def isG (c : Nat) : Bool := GapL.contains c
def pos (t r : List Nat) : Nat := t.length - r.length
theorem pos_le (t r : List Nat) : pos t r ≤ t.length := Nat.sub_le _ _
theorem pos_drop {t r : List Nat} (h : r <:+ t) : t.drop (pos t r) = r := (List.suffix_iff_eq_drop.mp h).symm
theorem drop_pos {t : List Nat} {p : Nat} (h : p ≤ t.length) : pos t (t.drop p) = p := by
  unfold pos
  rw [List.length_drop]
  omega
theorem suf_drop (t : List Nat) (p : Nat) : t.drop p <:+ t := List.drop_suffix p t
theorem suf_dw (g : Nat → Bool) (r : List Nat) : r.dropWhile g <:+ r := List.dropWhile_suffix g
def ov (t : List Nat) : Option (List Nat) → L2.V
  | none => .non
  | some r => .int (pos t r : Nat)
def ba (ws r : List Nat) : List Nat := r.dropWhile fun c => ws.contains c
def gapR (r : List Nat) : List Nat := if (r.takeWhile isG).count 10 > 1 then r else r.dropWhile isG
theorem suf_gap (r : List Nat) : gapR r <:+ r := by
  unfold gapR
  split
  · exact List.suffix_refl _
  · exact suf_dw _ _
def signR (c : Nat) (r : List Nat) : Option (List Nat) := if ([c] : List Nat).isPrefixOf r = true then some (r.drop 1) else none
theorem dw_len (g : Nat → Bool) (r : List Nat) : (r.dropWhile g).length ≤ r.length := (suf_dw g r).length_le

end PM
namespace DM
open My RM PM PySem PySem.Spec PyProof.Rows L2
/-! ### labels, destinations, titles, definitions: what is asked, by what is left of a text -/
def plainR (sg : List Nat) : List Nat → List Nat
  | [] => []
  | [c] => if sg.contains c then [c] else []
  | c :: d :: r => if sg.contains c then c :: d :: r else if c == 92 && PunL.contains d then plainR sg r else plainR sg (d :: r)
def upToL (l e : List Nat) : List Nat := l.take (l.length - e.length)
theorem suf_plain (sg : List Nat) : ∀ l : List Nat, plainR sg l <:+ l
  | [] => List.suffix_refl _
  | [c] => by
    unfold plainR
    split
    · exact List.suffix_refl _
    · exact List.nil_suffix
  | c :: d :: r => by
    unfold plainR
    split
    · exact List.suffix_refl _
    · split
      · exact (suf_plain sg r).trans ⟨[c, d], rfl⟩
      · exact (suf_plain sg (d :: r)).trans ⟨[c], rfl⟩
theorem plain_head (sg : List Nat) : ∀ l : List Nat, ∀ {c : Nat} {r : List Nat}, plainR sg l = c :: r → sg.contains c = true
  | [], _, _, h => by cases h
  | [a], c, r, h => by
    unfold plainR at h
    split at h
    · rename_i h1
      cases h
      exact h1
    · cases h
  | a :: d :: l, c, r, h => by
    unfold plainR at h
    split at h
    · rename_i h1
      cases h
      exact h1
    · split at h
      · exact plain_head sg l h
      · exact plain_head sg (d :: l) h
/-- words up to a sign, whatever stands behind it -/
theorem plain_words {sg : List Nat} {c : Nat} (hc : sg.contains c = true) : ∀ (w : List Nat) {r : List Nat}, plainR sg (w ++ c :: r) = c :: r → ∀ r', plainR sg (w ++ c :: r') = c :: r'
  | [], r, _, r' => by
    show plainR sg (c :: r') = c :: r'
    cases r' with
    | nil => unfold plainR; rw [if_pos hc]
    | cons d r' => unfold plainR; rw [if_pos hc]
  | [a], r, h, r' => by
    have h' : (if sg.contains a then a :: c :: r else if a == 92 && PunL.contains c then plainR sg r else plainR sg (c :: r)) = c :: r := h
    show (if sg.contains a then a :: c :: r' else if a == 92 && PunL.contains c then plainR sg r' else plainR sg (c :: r')) = c :: r'
    by_cases h1 : sg.contains a = true
    · rw [if_pos h1] at h'
      have := congrArg List.length h'
      simp at this
    · rw [if_neg h1] at h' ⊢
      by_cases h2 : (a == 92 && PunL.contains c) = true
      · rw [if_pos h2] at h'
        have h3 := (suf_plain sg r).length_le
        rw [h', List.length_cons] at h3
        omega
      · rw [if_neg h2] at h' ⊢
        exact plain_words hc [] h' r'
  | a :: b :: w, r, h, r' => by
    have h' : (if sg.contains a then a :: b :: (w ++ c :: r) else if a == 92 && PunL.contains b then plainR sg (w ++ c :: r) else plainR sg (b :: (w ++ c :: r))) = c :: r := h
    show (if sg.contains a then a :: b :: (w ++ c :: r') else if a == 92 && PunL.contains b then plainR sg (w ++ c :: r') else plainR sg (b :: (w ++ c :: r'))) = c :: r'
    by_cases h1 : sg.contains a = true
    · rw [if_pos h1] at h'
      have := congrArg List.length h'
      simp at this
      omega
    · rw [if_neg h1] at h' ⊢
      by_cases h2 : (a == 92 && PunL.contains b) = true
      · rw [if_pos h2] at h' ⊢
        exact plain_words hc w h' r'
      · rw [if_neg h2] at h' ⊢
        exact plain_words hc (b :: w) h' r'
def whiteB (w : List Nat) : Bool := w.all fun c => GapL.contains c
/-- a label: its words, what is left behind -/
def labelR (l : List Nat) : Option (List Nat × List Nat) :=
  if ([91] : List Nat).isPrefixOf l = true then
    if ([93] : List Nat).isPrefixOf (plainR [91, 93] (l.drop 1)) = true ∧ (upToL (l.drop 1) (plainR [91, 93] (l.drop 1))).length ≤ 999 then
      if whiteB (upToL (l.drop 1) (plainR [91, 93] (l.drop 1))) = true then none
      else some (upToL (l.drop 1) (plainR [91, 93] (l.drop 1)), (plainR [91, 93] (l.drop 1)).drop 1)
    else none
  else none
def encR (barred : List Nat) (closing : Nat) (l : List Nat) : Option (List Nat × List Nat) :=
  if ([closing] : List Nat).isPrefixOf (plainR barred (l.drop 1)) = true then some (decR (upToL (l.drop 1) (plainR barred (l.drop 1))), (plainR barred (l.drop 1)).drop 1) else none
def EndsL : List Nat := [32, 9, 10, 40, 41]
def bareF : Nat → Nat → List Nat → Option (List Nat)
  | 0, _, _ => none
  | n + 1, wi, e => if ([40] : List Nat).isPrefixOf e = true then (if wi + 1 > 32 then none else bareF n (wi + 1) (plainR EndsL (e.drop 1)))
    else if wi > 0 ∧ ([41] : List Nat).isPrefixOf e = true then bareF n (wi - 1) (plainR EndsL (e.drop 1))
    else if wi > 0 then none else some e
def bareR (l : List Nat) : Option (List Nat) := bareF (l.length + 1) 0 (plainR EndsL l)
def destR (l : List Nat) : Option (List Nat × List Nat) :=
  if ([60] : List Nat).isPrefixOf l = true then encR [60, 62, 10] 62 l
  else match bareR l with
    | none => none
    | some e => if e.length = l.length then none else some (decR (upToL l e), e)
def titleR (l : List Nat) : Option (List Nat × List Nat) :=
  match l with
  | 34 :: _ => encR [34] 34 l
  | 39 :: _ => encR [39] 39 l
  | 40 :: _ => encR [40, 41] 41 l
  | _ => none
def lineR (l : List Nat) : Option (List Nat) := if ba [32, 9] l = [] then some [] else signR 10 (ba [32, 9] l)
def tailR (l : List Nat) : Option (List Nat × List Nat) :=
  if (gapR l).length = l.length then none else match titleR (gapR l) with
    | none => none
    | some (ti, r) => (lineR r).map fun r' => (ti, r')
/-- what is behind a destination: a title or none, and what is left -/
def endR (l : List Nat) : Option (Option (List Nat) × List Nat) := match tailR l with
  | some (ti, r) => some (some ti, r)
  | none => (lineR l).map fun r => (none, r)
structure Def where
  rest : List Nat
  words : List Nat
  dest : List Nat
  title : Option (List Nat)
  deriving DecidableEq
def defR (l : List Nat) : Option Def := match labelR l with
  | none => none
  | some (w, r) => if ([58] : List Nat).isPrefixOf r = true then match destR (gapR (r.drop 1)) with
      | none => none
      | some (d, r2) => match endR r2 with
        | none => none
        | some (ti, r3) => some ⟨r3, w, d, ti⟩
    else none
theorem suf_enc {b : List Nat} {c : Nat} {l d r : List Nat} (h : encR b c l = some (d, r)) : r <:+ l := by
  unfold encR at h
  split at h
  · have e : (plainR b (l.drop 1)).drop 1 = r := congrArg Prod.snd (Option.some.inj h)
    rw [← e]
    exact (List.drop_suffix _ _).trans ((suf_plain _ _).trans (List.drop_suffix _ _))
  · cases h
theorem suf_label {l w r : List Nat} (h : labelR l = some (w, r)) : r <:+ l := by
  unfold labelR at h
  split at h
  · split at h
    · split at h
      · cases h
      · have e := congrArg Prod.snd (Option.some.inj h)
        have e' : (plainR [91, 93] (l.drop 1)).drop 1 = r := e
        rw [← e']
        exact (List.drop_suffix _ _).trans ((suf_plain _ _).trans (List.drop_suffix _ _))
    · cases h
  · cases h
theorem suf_bareF : ∀ (n wi : Nat) (e : List Nat) {r : List Nat}, bareF n wi e = some r → r <:+ e
  | 0, _, _, _, h => by cases h
  | n + 1, wi, e, r, h => by
    unfold bareF at h
    have s1 : plainR EndsL (e.drop 1) <:+ e := (suf_plain _ _).trans (List.drop_suffix _ _)
    split at h
    · split at h
      · cases h
      · exact (suf_bareF n _ _ h).trans s1
    · split at h
      · exact (suf_bareF n _ _ h).trans s1
      · split at h
        · cases h
        · cases h
          exact List.suffix_refl _
theorem suf_bare {l r : List Nat} (h : bareR l = some r) : r <:+ l := (suf_bareF _ _ _ h).trans (suf_plain _ _)
theorem suf_dest {l d r : List Nat} (h : destR l = some (d, r)) : r <:+ l := by
  unfold destR at h
  split at h
  · exact suf_enc h
  · cases hb : bareR l with
    | none => rw [hb] at h; cases h
    | some e =>
      rw [hb] at h
      dsimp only at h
      split at h
      · cases h
      · have e2 : e = r := congrArg Prod.snd (Option.some.inj h)
        rw [← e2]
        exact suf_bare hb
theorem suf_title {l d r : List Nat} (h : titleR l = some (d, r)) : r <:+ l := by
  unfold titleR at h
  split at h
  · exact suf_enc h
  · exact suf_enc h
  · exact suf_enc h
  · cases h
theorem suf_line {l r : List Nat} (h : lineR l = some r) : r <:+ l := by
  unfold lineR at h
  split at h
  · cases h
    exact List.nil_suffix
  · unfold signR at h
    split at h
    · cases h
      exact (List.drop_suffix _ _).trans (suf_dw _ _)
    · cases h
theorem bareF_more : ∀ (n m wi : Nat) (e : List Nat), e.length < n → e.length < m → bareF n wi e = bareF m wi e
  | 0, _, _, _, h, _ => by omega
  | _, 0, _, _, _, h => by omega
  | n + 1, m + 1, wi, e, h1, h2 => by
    unfold bareF
    have s1 : ∀ c : Nat, ([c] : List Nat).isPrefixOf e = true → (plainR EndsL (e.drop 1)).length < e.length := fun c hc => by
      have h3 := (suf_plain EndsL (e.drop 1)).length_le
      have h4 := pre_len _ _ hc
      rw [List.length_drop] at h3
      simp at h4
      omega
    by_cases h3 : ([40] : List Nat).isPrefixOf e = true
    · rw [if_pos h3, if_pos h3]
      have := s1 _ h3
      rw [bareF_more n m (wi + 1) (plainR EndsL (e.drop 1)) (by omega) (by omega)]
    · rw [if_neg h3, if_neg h3]
      by_cases h4 : wi > 0 ∧ ([41] : List Nat).isPrefixOf e = true
      · rw [if_pos h4, if_pos h4]
        have := s1 _ h4.2
        rw [bareF_more n m (wi - 1) (plainR EndsL (e.drop 1)) (by omega) (by omega)]
      · rw [if_neg h4, if_neg h4]
theorem upTo_app (w e : List Nat) : upToL (w ++ e) e = w := by
  unfold upToL
  rw [List.length_append, Nat.add_sub_cancel, List.take_left]
theorem upTo_split {l e : List Nat} (h : e <:+ l) : l = upToL l e ++ e := by
  obtain ⟨w, rfl⟩ := h
  rw [upTo_app]
theorem label_parts {l w r : List Nat} (h : labelR l = some (w, r)) : l = 91 :: (w ++ 93 :: r) ∧ w.length ≤ 999 ∧ whiteB w = false ∧ plainR [91, 93] (w ++ 93 :: r) = 93 :: r := by
  unfold labelR at h
  split at h
  · rename_i h1
    split at h
    · rename_i h2
      split at h
      · cases h
      · rename_i h3
        have h4 := Option.some.inj h
        have e1 : upToL (l.drop 1) (plainR [91, 93] (l.drop 1)) = w := congrArg Prod.fst h4
        have e2 : (plainR [91, 93] (l.drop 1)).drop 1 = r := congrArg Prod.snd h4
        have hs : plainR [91, 93] (l.drop 1) <:+ l.drop 1 := suf_plain _ _
        have e3 := upTo_split hs
        have e4 : plainR [91, 93] (l.drop 1) = 93 :: r := by
          cases he : plainR [91, 93] (l.drop 1) with
          | nil => rw [he] at h2; cases h2.1
          | cons a b =>
            rw [he] at h2 e2
            have h5 : ((93 : Nat) == a && ([] : List Nat).isPrefixOf b) = true := h2.1
            have h6 := eq_of_beq (Bool.and_eq_true_iff.mp h5).1
            rw [← h6, ← e2]
            rfl
        rw [e1] at h2 h3
        rw [e1, e4] at e3
        have e5 : l = 91 :: l.drop 1 := by
          cases l with
          | nil => cases h1
          | cons a b =>
            have h5 : ((91 : Nat) == a && ([] : List Nat).isPrefixOf b) = true := h1
            have h6 := eq_of_beq (Bool.and_eq_true_iff.mp h5).1
            rw [← h6]
            rfl
        refine ⟨by rw [← e3]; exact e5, h2.2, by simpa using h3, by rw [← e3]; exact e4⟩
    · cases h
  · cases h
theorem label_made {w r : List Nat} (h1 : w.length ≤ 999) (h2 : whiteB w = false) (h3 : plainR [91, 93] (w ++ 93 :: r) = 93 :: r) (r' : List Nat) : labelR (91 :: (w ++ 93 :: r')) = some (w, r') := by
  have h4 := plain_words (sg := [91, 93]) (c := 93) (by decide) w h3 r'
  unfold labelR
  rw [if_pos (by rfl)]
  show (if ([93] : List Nat).isPrefixOf (plainR [91, 93] (w ++ 93 :: r')) = true ∧ (upToL (w ++ 93 :: r') (plainR [91, 93] (w ++ 93 :: r'))).length ≤ 999 then
      if whiteB (upToL (w ++ 93 :: r') (plainR [91, 93] (w ++ 93 :: r'))) = true then none
      else some (upToL (w ++ 93 :: r') (plainR [91, 93] (w ++ 93 :: r')), (plainR [91, 93] (w ++ 93 :: r')).drop 1)
    else none) = _
  rw [h4, upTo_app, if_pos ⟨by rfl, h1⟩, if_neg (by rw [h2]; exact Bool.false_ne_true)]
  rfl
theorem label_again {l w r : List Nat} (h : labelR l = some (w, r)) : labelR (91 :: (w ++ [93])) = some (w, []) := by
  obtain ⟨_, h1, h2, h3⟩ := label_parts h
  exact label_made h1 h2 h3 []

/-! ### what the law draws -/
def normR (w : List Nat) : List Nat := (Txt.join (S [32]) (Txt.words (S (w.map lo1)))).cps.toList
def LabelL : List (List Nat × List Nat) := [([97], [97]), ([66, 32, 99], [98, 32, 99]), ([32, 120, 32, 32, 121, 32], [120, 32, 121]), ([113, 10, 82], [113, 32, 114]), ([97, 92, 93], [97, 92, 93]), ([42], [42]), ([38, 97, 109, 112, 59], [38, 97, 109, 112, 59])]
def GapT : List (List Nat) := [[], [32], [10], [32, 32, 10, 32], [9], [32, 10], [10, 32, 32]]
def GapF : List (List Nat) := [[10, 10], [32, 10, 32, 10], [10, 10, 32]]
def DestL : List (List Nat × List Nat × Bool) := [([47, 117], [47, 117], true), ([60, 62], [], true), ([60, 97, 32, 98, 62], [97, 32, 98], true), ([120, 40, 121, 41], [120, 40, 121, 41], true), ([97, 92, 42, 98], [97, 42, 98], true), ([38, 97, 109, 112, 59], [38], true), ([60, 97, 92, 62, 98, 62], [97, 62, 98], true), ([60, 97], [], false), ([120, 40, 121], [], false), ([39, 116, 39], [39, 116, 39], true), ([97, 41, 98], [], false), ([92, 40], [40], true)]
def TitleL : List (List Nat × List Nat × Bool) := [([34, 116, 34], [116], true), ([39, 97, 32, 98, 39], [97, 32, 98], true), ([40, 120, 41], [120], true), ([34, 34], [], true), ([39, 97, 10, 98, 39], [97, 10, 98], true), ([34, 97, 92, 34, 98, 34], [97, 34, 98], true), ([40, 97, 92, 41, 98, 41], [97, 41, 98], true), ([39, 38, 108, 116, 59, 39], [60], true), ([34, 116], [], false), ([40, 97, 40, 98, 41], [], false), ([116], [], false)]
def TailL : List (List Nat) := [[], [10], [32, 10], [10, 109, 111, 114, 101], [32, 120], [32, 9, 10, 98], [32, 32]]
def AheadL : List (List Nat) := [[], [120, 32], [97, 98, 10]]

theorem label_ok : ∀ p ∈ LabelL, labelR (91 :: (p.1 ++ [93])) = some (p.1, []) ∧ normR p.1 = p.2 ∧ p.1.length ≤ 10 ∧ p.2.length ≤ 10 ∧ (∀ c ∈ p.1, c < 128) ∧ ∀ c ∈ p.2, c < 128 := by decide +kernel
def restB (l : List Nat) : Bool := match findL [10] l with
  | some k => (l.take k).all [32, 9].contains
  | none => l.all [32, 9].contains
def nextL (l : List Nat) : List Nat := match findL [10] l with
  | some k => l.drop (k + 1)
  | none => []
/-- what the law expects behind a destination -/
def dueEnd (s : List Nat) (sb : Bool) (tw tt : List Nat) (tok : Bool) (tl : List Nat) : Option (Option (List Nat) × List Nat) :=
  if sb = true ∧ s ≠ [] ∧ tok = true ∧ restB tl = true then some (some tt, nextL tl)
  else if restB (s ++ tw ++ tl) = true then some (none, nextL (s ++ tw ++ tl))
  else none
def wbB (R : List Nat) : Bool := (match R with | [] => true | a :: _ => isG a) && !R.contains 62
def SpaceL : List (List Nat × Bool) := (GapT.drop 1).map (fun g => (g, true)) ++ GapF.map fun g => (g, false)
theorem tails_ok : ∀ s ∈ SpaceL, ∀ t ∈ TitleL, ∀ tl ∈ TailL, endR (s.1 ++ t.1 ++ tl) = dueEnd s.1 s.2 t.1 t.2.1 t.2.2 tl ∧ wbB (s.1 ++ t.1 ++ tl) = true ∧ s.1 ≠ [] := by decide +kernel
theorem tails0_ok : ∀ tl ∈ TailL, endR ([] ++ [] ++ tl) = dueEnd [] true [] [] false tl ∧ wbB ([] ++ [] ++ tl) = true := by decide +kernel
theorem tail_x : ∀ tl ∈ TailL, ([32, 120] : List Nat).isPrefixOf tl = true → endR ([] ++ [] ++ tl) = none := by decide +kernel
theorem space_small : ∀ s ∈ SpaceL, s.1.length ≤ 5 ∧ ∀ c ∈ s.1, c < 128 := by decide
theorem title_small : ∀ t ∈ TitleL, t.1 ≠ [] ∧ t.1.length ≤ 10 ∧ t.2.1.length ≤ 10 ∧ (∀ c ∈ t.1, c < 128) ∧ ∀ c ∈ t.2.1, c < 128 := by decide
theorem dest_small : ∀ t ∈ DestL, t.1.length ≤ 10 ∧ t.2.1.length ≤ 10 ∧ (∀ c ∈ t.1, c < 128) ∧ ∀ c ∈ t.2.1, c < 128 := by decide
theorem tail_small : ∀ t ∈ TailL, t.length ≤ 5 ∧ ∀ c ∈ t, c < 128 := by decide
theorem ahead_small : ∀ t ∈ AheadL, t.length ≤ 3 ∧ ∀ c ∈ t, c < 128 := by decide
theorem gap_small : (∀ g ∈ GapT, g.length ≤ 5 ∧ ∀ c ∈ g, c < 128) ∧ ∀ g ∈ GapF, g.length ≤ 5 ∧ ∀ c ∈ g, c < 128 := by decide
/-! gaps -/
theorem tw_app {g : Nat → Bool} {c : Nat} (hc : g c = false) : ∀ (w X : List Nat), w.all g = true → (w ++ c :: X).takeWhile g = w ∧ (w ++ c :: X).dropWhile g = c :: X
  | [], X, _ => by
    show (c :: X).takeWhile g = [] ∧ (c :: X).dropWhile g = c :: X
    rw [List.takeWhile_cons, List.dropWhile_cons, hc]
    exact ⟨rfl, rfl⟩
  | a :: w, X, h => by
    have h2 := Bool.and_eq_true_iff.mp (show (g a && w.all g) = true from h)
    obtain ⟨h3, h4⟩ := tw_app hc w X h2.2
    show (a :: (w ++ c :: X)).takeWhile g = a :: w ∧ (a :: (w ++ c :: X)).dropWhile g = c :: X
    rw [List.takeWhile_cons, List.dropWhile_cons, h2.1, if_pos rfl, if_pos rfl, h3, h4]
    exact ⟨rfl, rfl⟩
theorem gapT_ok {c : Nat} (hc : isG c = false) (X : List Nat) : ∀ g ∈ GapT, gapR (g ++ c :: X) = c :: X := by
  intro g hg
  have h1 : ∀ g ∈ GapT, g.all isG = true ∧ ¬ g.count 10 > 1 := by decide
  obtain ⟨h2, h3⟩ := h1 g hg
  obtain ⟨h4, h5⟩ := tw_app hc g X h2
  unfold gapR
  rw [h4, h5, if_neg h3]
theorem dest_white {a : Nat} (ha : isG a = true) (Y : List Nat) : destR (a :: Y) = none := by
  have h1 : a = 32 ∨ a = 9 ∨ a = 10 := by
    have : GapL.contains a = true := ha
    simpa [GapL] using this
  have h2 : bareR (a :: Y) = some (a :: Y) := by
    rcases h1 with rfl | rfl | rfl <;> cases Y <;> rfl
  unfold destR
  rw [h2, if_neg (by rcases h1 with rfl | rfl | rfl <;> exact Bool.false_ne_true)]
  show (if (a :: Y).length = (a :: Y).length then none else some (decR (upToL (a :: Y) (a :: Y)), a :: Y)) = none
  rw [if_pos rfl]
theorem gapF_ok {c : Nat} (hc : isG c = false) (X : List Nat) : ∀ g ∈ GapF, destR (gapR (g ++ c :: X)) = none := by
  intro g hg
  have h1 : ∀ g ∈ GapF, g.all isG = true ∧ g.count 10 > 1 ∧ g ≠ [] := by decide
  obtain ⟨h2, h3, h6⟩ := h1 g hg
  obtain ⟨h4, h5⟩ := tw_app hc g X h2
  unfold gapR
  rw [h4, if_pos h3]
  cases g with
  | nil => exact absurd rfl h6
  | cons a g =>
    have := Bool.and_eq_true_iff.mp (show (isG a && g.all isG) = true from h2)
    exact dest_white this.1 _
/-! destinations -/
theorem wb_cases {R : List Nat} (h : wbB R = true) : (R = [] ∨ ∃ a r, R = a :: r ∧ (a = 32 ∨ a = 9 ∨ a = 10)) ∧ 62 ∉ R := by
  unfold wbB at h
  obtain ⟨h1, h2⟩ := Bool.and_eq_true_iff.mp h
  refine ⟨?_, ?_⟩
  · cases R with
    | nil => exact .inl rfl
    | cons a r =>
      have : GapL.contains a = true := h1
      exact .inr ⟨a, r, rfl, by simpa [GapL] using this⟩
  · intro z
    have : R.contains 62 = true := by simpa using z
    rw [this] at h2
    cases h2
theorem bares {R : List Nat} (h : R = [] ∨ ∃ a r, R = a :: r ∧ (a = 32 ∨ a = 9 ∨ a = 10)) :
    bareR ([47, 117] ++ R) = some R ∧ bareR ([120, 40, 121, 41] ++ R) = some R ∧ bareR ([97, 92, 42, 98] ++ R) = some R ∧ bareR ([38, 97, 109, 112, 59] ++ R) = some R ∧
    bareR ([39, 116, 39] ++ R) = some R ∧ bareR ([92, 40] ++ R) = some R ∧ bareR ([120, 40, 121] ++ R) = none ∧ bareR ([97, 41, 98] ++ R) = some (41 :: 98 :: R) := by
  rcases h with rfl | ⟨a, r, rfl, ha⟩
  · decide +kernel
  · rcases ha with rfl | rfl | rfl <;> cases r <;> exact ⟨rfl, rfl, rfl, rfl, rfl, rfl, rfl, rfl⟩
theorem dest_of_bare {dw R : List Nat} (h0 : dw ≠ []) (h1 : ([60] : List Nat).isPrefixOf (dw ++ R) = false) (h : bareR (dw ++ R) = some R) : destR (dw ++ R) = some (decR dw, R) := by
  unfold destR
  rw [h1, if_neg Bool.false_ne_true, h]
  show (if R.length = (dw ++ R).length then none else some (decR (upToL (dw ++ R) R), R)) = _
  have : 0 < dw.length := List.length_pos_iff.mpr h0
  rw [if_neg (by rw [List.length_append]; omega), upTo_app]
theorem enc_ok {b : List Nat} {o c : Nat} {w : List Nat} (hc : b.contains c = true) (h : plainR b (w ++ [c]) = [c]) (R : List Nat) : encR b c (o :: (w ++ c :: R)) = some (decR w, R) := by
  have h2 := plain_words hc w h R
  unfold encR
  show (if ([c] : List Nat).isPrefixOf (plainR b (w ++ c :: R)) = true then some (decR (upToL (w ++ c :: R) (plainR b (w ++ c :: R))), (plainR b (w ++ c :: R)).drop 1) else none) = _
  rw [h2, upTo_app, if_pos (by simp [List.isPrefixOf])]
  rfl
theorem dest_ok {R : List Nat} (hR : wbB R = true) : ∀ d ∈ DestL, (d.2.2 = true → destR (d.1 ++ R) = some (d.2.1, R)) ∧ (d.2.2 = false → destR (d.1 ++ R) = none ∨ ∃ x r2, destR (d.1 ++ R) = some (x, r2) ∧ endR r2 = none) := by
  obtain ⟨h1, h2⟩ := wb_cases hR
  obtain ⟨b1, b2, b3, b4, b5, b6, b7, b8⟩ := bares h1
  have f : ∀ {dw dd : List Nat}, dw ≠ [] → ([60] : List Nat).isPrefixOf (dw ++ R) = false → bareR (dw ++ R) = some R → decR dw = dd → destR (dw ++ R) = some (dd, R) := fun a b c e => by rw [dest_of_bare a b c, e]
  have g : ∀ {w dd : List Nat}, plainR [60, 62, 10] (w ++ [62]) = [62] → decR w = dd → destR (60 :: (w ++ 62 :: R)) = some (dd, R) := fun {w dd} a e => by
    unfold destR
    rw [if_pos (by rfl), enc_ok (by decide) a, e]
  intro d hd
  unfold DestL at hd
  simp only [List.mem_cons, List.not_mem_nil, or_false] at hd
  rcases hd with rfl | rfl | rfl | rfl | rfl | rfl | rfl | rfl | rfl | rfl | rfl | rfl
  · exact ⟨fun _ => f (by decide) rfl b1 (by decide +kernel), fun h => by cases h⟩
  · exact ⟨fun _ => g (w := []) (by decide +kernel) (by decide +kernel), fun h => by cases h⟩
  · exact ⟨fun _ => g (w := [97, 32, 98]) (by decide +kernel) (by decide +kernel), fun h => by cases h⟩
  · exact ⟨fun _ => f (by decide) rfl b2 (by decide +kernel), fun h => by cases h⟩
  · exact ⟨fun _ => f (by decide) rfl b3 (by decide +kernel), fun h => by cases h⟩
  · exact ⟨fun _ => f (by decide) rfl b4 (by decide +kernel), fun h => by cases h⟩
  · exact ⟨fun _ => g (w := [97, 92, 62, 98]) (by decide +kernel) (by decide +kernel), fun h => by cases h⟩
  · refine ⟨fun h => (by cases h), fun _ => .inl ?_⟩
    unfold destR
    rw [if_pos (by rfl)]
    unfold encR
    rw [if_neg]
    intro z
    have hs : plainR [60, 62, 10] (([60, 97] ++ R).drop 1) <:+ ([60, 97] ++ R).drop 1 := suf_plain _ _
    have : 62 ∈ ([60, 97] ++ R).drop 1 := by
      refine hs.subset ?_
      cases he : plainR [60, 62, 10] (([60, 97] ++ R).drop 1) with
      | nil => rw [he] at z; cases z
      | cons a r =>
        rw [he] at z
        have h5 : ((62 : Nat) == a && ([] : List Nat).isPrefixOf r) = true := z
        have h6 := eq_of_beq (Bool.and_eq_true_iff.mp h5).1
        rw [h6]
        exact List.mem_cons_self ..
    have h3 : 62 ∈ 97 :: R := this
    rcases List.mem_cons.mp h3 with h4 | h4
    · cases h4
    · exact h2 h4
  · refine ⟨fun h => (by cases h), fun _ => .inl ?_⟩
    unfold destR
    rw [if_neg (by exact Bool.false_ne_true)]
    rw [show bareR ([120, 40, 121] ++ R) = none from b7]
  · exact ⟨fun _ => f (by decide) rfl b5 (by decide +kernel), fun h => by cases h⟩
  · refine ⟨fun h => (by cases h), fun _ => .inr ⟨[97], 41 :: 98 :: R, ?_, ?_⟩⟩
    · unfold destR
      rw [if_neg (by exact Bool.false_ne_true), show bareR ([97, 41, 98] ++ R) = some (41 :: 98 :: R) from b8]
      show (if (41 :: 98 :: R).length = (97 :: 41 :: 98 :: R).length then none else some (decR (upToL ([97] ++ 41 :: 98 :: R) (41 :: 98 :: R)), 41 :: 98 :: R)) = _
      rw [if_neg (by simp), upTo_app]
      rfl
    · have e1 : tailR (41 :: 98 :: R) = none := by
        have e2 : gapR (41 :: 98 :: R) = 41 :: 98 :: R := rfl
        unfold tailR
        rw [e2, if_pos rfl]
      unfold endR
      rw [e1]
      rfl
  · exact ⟨fun _ => f (by decide) rfl b6 (by decide +kernel), fun h => by cases h⟩
/-! definitions -/
theorem def_made {w : List Nat} (hw : labelR (91 :: (w ++ [93])) = some (w, [])) (X : List Nat) : defR (91 :: (w ++ 93 :: 58 :: X)) = match destR (gapR X) with
      | none => none
      | some (d, r2) => match endR r2 with
        | none => none
        | some (ti, r3) => some ⟨r3, w, d, ti⟩ := by
  obtain ⟨_, h1, h2, h3⟩ := label_parts hw
  unfold defR
  rw [label_made h1 h2 h3 (58 :: X)]
  rfl
theorem dest_head : ∀ d ∈ DestL, ∃ c r, d.1 = c :: r ∧ isG c = false := by
  intro d hd
  have : ∀ d ∈ DestL, (match d.1 with | [] => false | c :: _ => !isG c) = true := by decide
  have h := this d hd
  cases h2 : d.1 with
  | nil => rw [h2] at h; cases h
  | cons c r =>
    rw [h2] at h
    exact ⟨c, r, rfl, by simpa using h⟩
/-- a drawn definition -/
theorem def_drawn {w g R : List Nat} {d : List Nat × List Nat × Bool} {gb : Bool} (hw : labelR (91 :: (w ++ [93])) = some (w, [])) (hd : d ∈ DestL) (hR : wbB R = true) (hg : (gb = true ∧ g ∈ GapT) ∨ (gb = false ∧ g ∈ GapF)) :
    defR (91 :: (w ++ 93 :: 58 :: (g ++ (d.1 ++ R)))) = if gb = true ∧ d.2.2 = true then (endR R).map fun x => ⟨x.2, w, d.2.1, x.1⟩ else none := by
  rw [def_made hw]
  obtain ⟨c, r, hc, hcg⟩ := dest_head d hd
  obtain ⟨k1, k2⟩ := dest_ok hR d hd
  have e0 : d.1 ++ R = c :: (r ++ R) := by rw [hc]; rfl
  rcases hg with ⟨rfl, hg⟩ | ⟨rfl, hg⟩
  · have e1 : gapR (g ++ (d.1 ++ R)) = d.1 ++ R := by rw [e0]; exact gapT_ok hcg _ g hg
    rw [e1]
    cases hok : d.2.2 with
    | true =>
      rw [k1 hok, if_pos ⟨rfl, rfl⟩]
      dsimp only
      cases endR R <;> rfl
    | false =>
      rw [if_neg fun z => Bool.false_ne_true z.2]
      rcases k2 hok with k3 | ⟨x, r2, k3, k4⟩
      · rw [k3]
      · rw [k3]
        dsimp only
        rw [k4]
  · rw [e0, gapF_ok hcg _ g hg, if_neg fun z => Bool.false_ne_true z.1]

end DM
/-! ### what is a tree: by the data alone -/
namespace TR
open PySem PySem.Spec PyProof.Rows L2 My RM PM DM
def AllowL : List Nat := [9, 10] ++ ((List.range 95).map (· + 32)).filter (· != 37)
inductive So where
  | B
  | I
  | K
def So.nm : So → Str
  | .B => "blocks"
  | .I => "inlines"
  | .K => "linked"
def isK : So → Bool
  | .K => true
  | _ => false
def isStr : PyData → Bool
  | .str _ => true
  | _ => false
def isTup : PyData → Bool
  | .tuple _ => true
  | _ => false
def isBool : PyData → Bool
  | .bool _ => true
  | _ => false
def isInt : PyData → Bool
  | .int _ => true
  | .bool _ => true
  | _ => false
def isEmp : PyData → Bool
  | .str y => decide (y = S [])
  | _ => false
def isNon : PyData → Bool
  | .none => true
  | _ => false
def txt (z : Str) : Bool := z.cps.toList.all fun c => AllowL.contains c
def isTxt : PyData → Bool
  | .str z => txt z
  | _ => false
def isLns : PyData → Bool
  | .str z => txt z && Txt.endswith z (S [10])
  | _ => false
def isFil : PyData → Bool
  | .tuple ds => !ds.isEmpty
  | _ => false
def intTo (a b : Int) : PyData → Bool
  | .int i => decide (a ≤ i) && decide (i ≤ b)
  | _ => false
def labT (w : List Nat) : Bool := labelR (91 :: (w ++ [93])) == some (w, [])
def lab (z : Str) : Bool := decide (Txt.join (S [32]) (Txt.words (S (z.cps.toList.map lo1))) = z) && (labT z.cps.toList || labT (z.cps.toList ++ [32]))
def isLab : PyData → Bool
  | .str z => lab z
  | _ => false
def fitStart (g : Str) (st : PyData) : Bool := if inV (.str g) [.str "-", .str "+", .str "*"] = true then isNon st else inV (.str g) [.str ".", .str ")"] && intTo 0 999999999 st
def fitTgt (d t : PyData) : Bool := isTxt d && (isNon t || isTxt t)
def ok (b : Bool) : Option (List (So × PyData)) := if b = true then some [] else none
def linkR (s : So) (z : Str) : List PyData → Option (List (So × PyData))
  | [d, t, r] => if (!fitTgt d t || (decide (z = "link") && isK s)) = true then none else if z = "link" then some [(.K, r)] else some [(.I, r)]
  | _ => none
def txtR : List PyData → Option (List (So × PyData))
  | [x] => ok (isTxt x && !isEmp x)
  | _ => none
def filR (s : So) : List PyData → Option (List (So × PyData))
  | [x] => if isFil x = true then some [(s, x)] else none
  | _ => none
def inlR (s : So) (z : Str) (rest : List PyData) : Option (List (So × PyData)) :=
  if inV (.str z) [.str "soft", .str "hard"] = true then ok rest.isEmpty
  else if inV (.str z) [.str "text", .str "code", .str "html"] = true then
    txtR rest
  else if inV (.str z) [.str "emph", .str "strong"] = true then
    filR s rest
  else if inV (.str z) [.str "link", .str "image"] = true then linkR s z rest
  else none
def blkR (z : Str) (rest : List PyData) : Option (List (So × PyData)) :=
  if z = "quote" then match rest with
    | [x] => some [(.B, x)]
    | _ => none
  else if z = "list" then match rest with
    | [.str g, st, ti, .tuple its] => if (fitStart g st && isBool ti && !its.isEmpty) = true then some (its.map fun i => (.B, i)) else none
    | _ => none
  else if z = "heading" then match rest with
    | [l, r] => if intTo 1 6 l = true then some [(.I, r)] else none
    | _ => none
  else if z = "break" then ok rest.isEmpty
  else if z = "code" then match rest with
    | [t, i] => ok (if isNon i = true then isLns t else isTxt i && (isLns t || isEmp t))
    | _ => none
  else if z = "html" then match rest with
    | [t] => ok (isLns t)
    | _ => none
  else if z = "definition" then match rest with
    | [l, d, t] => ok (isTxt l && isLab l && fitTgt d t)
    | _ => none
  else if z = "paragraph" then match rest with
    | [r] => if isFil r = true then some [(.I, r)] else none
    | _ => none
  else none
def oneR (s : So) : PyData → Option (Str × List (So × PyData))
  | .tuple (.str z :: rest) => match s with
    | .B => (blkR z rest).map fun r => (z, r)
    | s => (inlR s z rest).map fun r => (z, r)
  | _ => none
/-- the rows in a row; p: a text stands right ahead -/
def rowR (s : So) : Bool → List PyData → Option (List (So × PyData))
  | _, [] => some []
  | p, x :: r => match oneR s x with
    | none => none
    | some (z, f) => if (p && decide (z = "text")) = true then none else (rowR s (decide (z = "text")) r).map fun g => f ++ g
def thingR : So × PyData → Option (List (So × PyData))
  | (s, .tuple ds) => rowR s false ds
  | _ => none
def allR : List (So × PyData) → Option (List (So × PyData))
  | [] => some []
  | p :: r => match thingR p with
    | none => none
    | some f => (allR r).map fun g => f ++ g
def treeR : Nat → List (So × PyData) → Bool
  | 0, rows => rows.isEmpty
  | n + 1, rows => match allR rows with
    | none => false
    | some inner => treeR n inner
def isTree (d : PyData) : Bool := treeR 100 [(.B, d)]
theorem allR_c (p : So × PyData) (r : List (So × PyData)) : allR (p :: r) = match thingR p with
    | none => none
    | some f => (allR r).map fun g => f ++ g := rfl
theorem allR_none {p : So × PyData} {r : List (So × PyData)} (h : thingR p = none) : allR (p :: r) = none := by rw [allR_c, h]
theorem allR_some {p : So × PyData} {r f : List (So × PyData)} (h : thingR p = some f) : allR (p :: r) = (allR r).map fun g => f ++ g := by rw [allR_c, h]
end TR

/-! ### documents as trees, and that they are trees -/
namespace BM
open PySem PySem.Spec PyProof.Rows L2 My RM PM DM IM TR
inductive Blk where
  | quote (bs : List Blk)
  | list (g : Str) (st : Option Nat) (t : Bool) (its : List (List Blk))
  | heading (l : Nat) (r : List Inl)
  | brk
  | code (t : List Nat) (i : Option (List Nat))
  | html (t : List Nat)
  | defn (l d : List Nat) (t : Option (List Nat))
  | par (r : List Inl)
def optI : Option Nat → PyData
  | none => .none
  | some n => .int (n : Int)
mutual
def Blk.toD : Blk → PyData
  | .quote bs => .tuple [.str "quote", .tuple (blksD bs)]
  | .list g st t its => .tuple [.str "list", .str g, optI st, .bool t, .tuple (itsD its)]
  | .heading l r => .tuple [.str "heading", .int (l : Int), .tuple (rowD r)]
  | .brk => .tuple [.str "break"]
  | .code t i => .tuple [.str "code", .str (S t), optD i]
  | .html t => .tuple [.str "html", .str (S t)]
  | .defn l d t => .tuple [.str "definition", .str (S l), .str (S d), optD t]
  | .par r => .tuple [.str "paragraph", .tuple (rowD r)]
def blksD : List Blk → List PyData
  | [] => []
  | b :: bs => b.toD :: blksD bs
def itsD : List (List Blk) → List PyData
  | [] => []
  | bs :: its => .tuple (blksD bs) :: itsD its
end
/-! what a good row of inlines is; k: within a link -/
def gTxt (t : List Nat) : Bool := t.all fun c => AllowL.contains c
def gOpt : Option (List Nat) → Bool
  | none => true
  | some t => gTxt t
def isT : Inl → Bool
  | .text _ => true
  | _ => false
mutual
def gI (k : Bool) : Inl → Bool
  | .text t => gTxt t && !t.isEmpty
  | .code t => gTxt t && !t.isEmpty
  | .html t => gTxt t && !t.isEmpty
  | .soft => true
  | .hard => true
  | .emph r => !r.isEmpty && gR k false r
  | .strong r => !r.isEmpty && gR k false r
  | .link d t r => !k && gTxt d && gOpt t && gR true false r
  | .image d t r => gTxt d && gOpt t && gR false false r
def gR (k : Bool) : Bool → List Inl → Bool
  | _, [] => true
  | p, x :: r => gI k x && !(p && isT x) && gR k (isT x) r
end
mutual
def hI : Inl → Nat
  | .emph r => 1 + hR r
  | .strong r => 1 + hR r
  | .link _ _ r => 1 + hR r
  | .image _ _ r => 1 + hR r
  | _ => 0
def hR : List Inl → Nat
  | [] => 0
  | x :: r => max (hI x) (hR r)
end
theorem treeR_app : ∀ (n : Nat) (a b : List (So × PyData)), treeR n (a ++ b) = (treeR n a && treeR n b)
  | 0, a, b => by
    cases a <;> cases b <;> rfl
  | n + 1, a, b => by
    have e : ∀ a : List (So × PyData), allR (a ++ b) = (allR a).bind fun f => (allR b).map fun g => f ++ g := fun a => by
      induction a with
      | nil =>
        show allR b = (some []).bind _
        cases allR b <;> rfl
      | cons p a ih =>
        show allR (p :: (a ++ b)) = _
        rw [allR_c, allR_c, ih]
        cases thingR p with
        | none => rfl
        | some f =>
          cases allR a with
          | none => rfl
          | some g =>
            cases allR b with
            | none => rfl
            | some k => simp
    show (match allR (a ++ b) with | none => false | some i => treeR n i) = ((match allR a with | none => false | some i => treeR n i) && (match allR b with | none => false | some i => treeR n i))
    rw [e]
    cases allR a with
    | none => rfl
    | some f =>
      cases allR b with
      | none => simp
      | some g => exact treeR_app n f g
theorem treeR_one (n : Nat) (p : So × PyData) : treeR (n + 1) [p] = match thingR p with | none => false | some f => treeR n f := by
  show (match allR [p] with | none => false | some i => treeR n i) = _
  rw [allR_c]
  cases thingR p with
  | none => rfl
  | some f =>
    show treeR n (f ++ []) = _
    rw [List.append_nil]
theorem treeR_nil (n : Nat) : treeR n [] = true := by
  induction n with
  | zero => rfl
  | succ n ih => exact ih
theorem treeR_up : ∀ (n : Nat) (a : List (So × PyData)), treeR n a = true → treeR (n + 1) a = true
  | 0, a, h => by
    cases a with
    | nil => rfl
    | cons p a => cases h
  | n + 1, a, h => by
    have h' : (match allR a with | none => false | some i => treeR n i) = true := h
    show (match allR a with | none => false | some i => treeR (n + 1) i) = true
    cases e : allR a with
    | none => rw [e] at h'; cases h'
    | some f =>
      rw [e] at h'
      exact treeR_up n f h'
theorem treeR_le {n m : Nat} {a : List (So × PyData)} (h : treeR n a = true) (l : n ≤ m) : treeR m a = true := by
  induction l with
  | refl => exact h
  | step _ ih => exact treeR_up _ _ ih
theorem treeR_row {n : Nat} {s : So} {ds : List PyData} {f : List (So × PyData)} (h : rowR s false ds = some f) : treeR (n + 1) [(s, .tuple ds)] = treeR n f := by
  rw [treeR_one]
  have : thingR (s, .tuple ds) = some f := h
  rw [this]
/-! good rows are rows -/
theorem txt_g {t : List Nat} : txt (S t) = gTxt t := by
  unfold txt gTxt
  rw [S_tl]
theorem emp_g (t : List Nat) : isEmp (.str (S t)) = t.isEmpty := by
  show decide (S t = S []) = _
  cases t with
  | nil => exact decide_eq_true rfl
  | cons c t => exact decide_eq_false fun h => nomatch S_inj h
theorem opt_g (t : Option (List Nat)) : (isNon (optD t) || isTxt (optD t)) = gOpt t := by
  cases t with
  | none => rfl
  | some t => exact txt_g
theorem fil_g (r : List Inl) : isFil (.tuple (rowD r)) = !r.isEmpty := by cases r <;> rfl
def soI (k : Bool) : So := if k = true then .K else .I
def subI (k : Bool) : Inl → List (So × PyData)
  | .emph r => [(soI k, .tuple (rowD r))]
  | .strong r => [(soI k, .tuple (rowD r))]
  | .link _ _ r => [(.K, .tuple (rowD r))]
  | .image _ _ r => [(.I, .tuple (rowD r))]
  | _ => []
def nameI : Inl → Str
  | .text _ => "text"
  | .code _ => "code"
  | .html _ => "html"
  | .soft => "soft"
  | .hard => "hard"
  | .emph _ => "emph"
  | .strong _ => "strong"
  | .link _ _ _ => "link"
  | .image _ _ _ => "image"
theorem name_text (x : Inl) : decide (nameI x = ("text" : Str)) = isT x := by
  cases x with
  | text t => exact decide_eq_true rfl
  | code t => exact (by decide +kernel : decide (("code" : Str) = "text") = false)
  | html t => exact (by decide +kernel : decide (("html" : Str) = "text") = false)
  | soft => exact (by decide +kernel : decide (("soft" : Str) = "text") = false)
  | hard => exact (by decide +kernel : decide (("hard" : Str) = "text") = false)
  | emph r => exact (by decide +kernel : decide (("emph" : Str) = "text") = false)
  | strong r => exact (by decide +kernel : decide (("strong" : Str) = "text") = false)
  | link d t r => exact (by decide +kernel : decide (("link" : Str) = "text") = false)
  | image d t r => exact (by decide +kernel : decide (("image" : Str) = "text") = false)
theorem oneI_of (k : Bool) (z : Str) (rest : List PyData) : oneR (soI k) (.tuple (.str z :: rest)) = (inlR (soI k) z rest).map fun r => (z, r) := by cases k <;> rfl
theorem ok_true {b : Bool} (h : b = true) : ok b = some [] := by unfold ok; rw [if_pos h]
theorem one_I (k : Bool) : ∀ x : Inl, gI k x = true → oneR (soI k) x.toD = some (nameI x, subI k x) := by
  have i1 : ∀ z : Str, (z = "text" ∨ z = "code" ∨ z = "html") → ∀ t, (gTxt t && !t.isEmpty) = true → inlR (soI k) z [.str (S t)] = some [] := fun z hz t h => by
    have a1 : inV (.str z) [.str "soft", .str "hard"] = false := by rcases hz with rfl | rfl | rfl <;> decide +kernel
    have a2 : inV (.str z) [.str "text", .str "code", .str "html"] = true := by rcases hz with rfl | rfl | rfl <;> decide +kernel
    unfold inlR
    rw [a1, if_neg Bool.false_ne_true, a2, if_pos rfl]
    show ok (isTxt (.str (S t)) && !isEmp (.str (S t))) = some []
    rw [emp_g]
    exact ok_true (by show (txt (S t) && _) = true; rw [txt_g]; exact h)
  have i2 : ∀ z : Str, (z = "soft" ∨ z = "hard") → inlR (soI k) z [] = some [] := fun z hz => by
    have a1 : inV (.str z) [.str "soft", .str "hard"] = true := by rcases hz with rfl | rfl <;> decide +kernel
    unfold inlR
    rw [a1, if_pos rfl]
    rfl
  have i3 : ∀ z : Str, (z = "emph" ∨ z = "strong") → ∀ r : List Inl, r.isEmpty = false → inlR (soI k) z [.tuple (rowD r)] = some [(soI k, .tuple (rowD r))] := fun z hz r h => by
    have a1 : inV (.str z) [.str "soft", .str "hard"] = false := by rcases hz with rfl | rfl <;> decide +kernel
    have a2 : inV (.str z) [.str "text", .str "code", .str "html"] = false := by rcases hz with rfl | rfl <;> decide +kernel
    have a3 : inV (.str z) [.str "emph", .str "strong"] = true := by rcases hz with rfl | rfl <;> decide +kernel
    unfold inlR
    rw [a1, if_neg Bool.false_ne_true, a2, if_neg Bool.false_ne_true, a3, if_pos rfl]
    show (if isFil (.tuple (rowD r)) = true then _ else _) = _
    rw [fil_g, h]
    rfl
  have i4 : ∀ z : Str, (z = "link" ∨ z = "image") → ∀ d t (r : List Inl), (gTxt d && gOpt t) = true → (z = "link" → k = false) → inlR (soI k) z [.str (S d), optD t, .tuple (rowD r)] = some [(if z = "link" then So.K else So.I, .tuple (rowD r))] := fun z hz d t r h hk => by
    have a1 : inV (.str z) [.str "soft", .str "hard"] = false := by rcases hz with rfl | rfl <;> decide +kernel
    have a2 : inV (.str z) [.str "text", .str "code", .str "html"] = false := by rcases hz with rfl | rfl <;> decide +kernel
    have a3 : inV (.str z) [.str "emph", .str "strong"] = false := by rcases hz with rfl | rfl <;> decide +kernel
    have a4 : inV (.str z) [.str "link", .str "image"] = true := by rcases hz with rfl | rfl <;> decide +kernel
    unfold inlR
    rw [a1, if_neg Bool.false_ne_true, a2, if_neg Bool.false_ne_true, a3, if_neg Bool.false_ne_true, a4, if_pos rfl]
    have f : fitTgt (.str (S d)) (optD t) = true := by
      unfold fitTgt
      rw [opt_g]
      show (txt (S d) && _) = true
      rw [txt_g]
      exact h
    show (if (!fitTgt (.str (S d)) (optD t) || (decide (z = "link") && isK (soI k))) = true then none else if z = "link" then some [(So.K, _)] else some [(So.I, _)]) = _
    rw [f]
    rcases hz with rfl | rfl
    · rw [hk rfl]
      rw [if_neg (by rw [show isK (soI false) = false from rfl, Bool.and_false]; exact Bool.false_ne_true), if_pos rfl, if_pos rfl]
    · rw [if_neg (by rw [decide_eq_false (by decide +kernel)]; exact Bool.false_ne_true), if_neg (by decide +kernel), if_neg (by decide +kernel)]
  intro x h
  cases x with
  | text t => show oneR (soI k) (.tuple (.str "text" :: [_])) = _; rw [oneI_of, i1 _ (.inl rfl) t h]; rfl
  | code t => show oneR (soI k) (.tuple (.str "code" :: [_])) = _; rw [oneI_of, i1 _ (.inr (.inl rfl)) t h]; rfl
  | html t => show oneR (soI k) (.tuple (.str "html" :: [_])) = _; rw [oneI_of, i1 _ (.inr (.inr rfl)) t h]; rfl
  | soft => show oneR (soI k) (.tuple (.str "soft" :: [])) = _; rw [oneI_of, i2 _ (.inl rfl)]; rfl
  | hard => show oneR (soI k) (.tuple (.str "hard" :: [])) = _; rw [oneI_of, i2 _ (.inr rfl)]; rfl
  | emph r =>
    have h' : (!r.isEmpty && gR k false r) = true := h
    rw [Bool.and_eq_true] at h'
    show oneR (soI k) (.tuple (.str "emph" :: [_])) = _
    rw [oneI_of, i3 _ (.inl rfl) r (by simpa using h'.1)]
    rfl
  | strong r =>
    have h' : (!r.isEmpty && gR k false r) = true := h
    rw [Bool.and_eq_true] at h'
    show oneR (soI k) (.tuple (.str "strong" :: [_])) = _
    rw [oneI_of, i3 _ (.inr rfl) r (by simpa using h'.1)]
    rfl
  | link d t r =>
    have h' : (!k && gTxt d && gOpt t && gR true false r) = true := h
    simp only [Bool.and_eq_true] at h'
    show oneR (soI k) (.tuple (.str "link" :: [_, _, _])) = _
    rw [oneI_of, i4 _ (.inl rfl) d t r (by rw [h'.1.1.2, h'.1.2]; rfl) (fun _ => by simpa using h'.1.1.1), if_pos rfl]
    rfl
  | image d t r =>
    have h' : (gTxt d && gOpt t && gR false false r) = true := h
    simp only [Bool.and_eq_true] at h'
    show oneR (soI k) (.tuple (.str "image" :: [_, _, _])) = _
    rw [oneI_of, i4 _ (.inr rfl) d t r (by rw [h'.1.1, h'.1.2]; rfl) (fun e => absurd e (by decide +kernel)), if_neg (by decide +kernel)]
    rfl
theorem row_I (k : Bool) : ∀ (r : List Inl) (p : Bool), gR k p r = true → rowR (soI k) p (rowD r) = some (r.flatMap (subI k))
  | [], _, _ => rfl
  | x :: r, p, h => by
    have h' : (gI k x && !(p && isT x) && gR k (isT x) r) = true := h
    simp only [Bool.and_eq_true] at h'
    show rowR (soI k) p (x.toD :: rowD r) = _
    have e1 : ∀ (ds : List PyData), rowR (soI k) p (x.toD :: ds) = if (p && decide (nameI x = "text")) = true then none else (rowR (soI k) (decide (nameI x = "text")) ds).map fun g => subI k x ++ g := fun ds => by
      show (match oneR (soI k) x.toD with | none => none | some (z, f) => _) = _
      rw [one_I k x h'.1.1]
    rw [e1, name_text, row_I k r _ h'.2]
    have h2 : (p && isT x) = false := (Bool.not_eq_true' _).mp h'.1.2
    rw [h2, if_neg Bool.false_ne_true]
    rfl
mutual
theorem tree_sub (k : Bool) : ∀ (x : Inl) (n : Nat), gI k x = true → hI x ≤ n → treeR n (subI k x) = true
  | .text _, n, _, _ => treeR_nil n
  | .code _, n, _, _ => treeR_nil n
  | .html _, n, _, _ => treeR_nil n
  | .soft, n, _, _ => treeR_nil n
  | .hard, n, _, _ => treeR_nil n
  | .emph r, n, h, hn => by
    have h' : (!r.isEmpty && gR k false r) = true := h
    rw [Bool.and_eq_true] at h'
    have hn' : 1 + hR r ≤ n := hn
    obtain ⟨m, rfl⟩ : ∃ m, n = m + 1 := ⟨n - 1, by omega⟩
    show treeR (m + 1) [(soI k, .tuple (rowD r))] = true
    rw [treeR_row (row_I k r false h'.2)]
    exact tree_row k r false m h'.2 (by omega)
  | .strong r, n, h, hn => by
    have h' : (!r.isEmpty && gR k false r) = true := h
    rw [Bool.and_eq_true] at h'
    have hn' : 1 + hR r ≤ n := hn
    obtain ⟨m, rfl⟩ : ∃ m, n = m + 1 := ⟨n - 1, by omega⟩
    show treeR (m + 1) [(soI k, .tuple (rowD r))] = true
    rw [treeR_row (row_I k r false h'.2)]
    exact tree_row k r false m h'.2 (by omega)
  | .link d t r, n, h, hn => by
    have h' : (!k && gTxt d && gOpt t && gR true false r) = true := h
    simp only [Bool.and_eq_true] at h'
    have hn' : 1 + hR r ≤ n := hn
    obtain ⟨m, rfl⟩ : ∃ m, n = m + 1 := ⟨n - 1, by omega⟩
    show treeR (m + 1) [(soI true, .tuple (rowD r))] = true
    rw [treeR_row (row_I true r false h'.2)]
    exact tree_row true r false m h'.2 (by omega)
  | .image d t r, n, h, hn => by
    have h' : (gTxt d && gOpt t && gR false false r) = true := h
    simp only [Bool.and_eq_true] at h'
    have hn' : 1 + hR r ≤ n := hn
    obtain ⟨m, rfl⟩ : ∃ m, n = m + 1 := ⟨n - 1, by omega⟩
    show treeR (m + 1) [(soI false, .tuple (rowD r))] = true
    rw [treeR_row (row_I false r false h'.2)]
    exact tree_row false r false m h'.2 (by omega)
theorem tree_row (k : Bool) : ∀ (r : List Inl) (p : Bool) (n : Nat), gR k p r = true → hR r ≤ n → treeR n (r.flatMap (subI k)) = true
  | [], _, n, _, _ => treeR_nil n
  | x :: r, p, n, h, hn => by
    have h' : (gI k x && !(p && isT x) && gR k (isT x) r) = true := h
    simp only [Bool.and_eq_true] at h'
    have hn' : max (hI x) (hR r) ≤ n := hn
    rw [List.flatMap_cons, treeR_app, tree_sub k x n h'.1.1 (by omega), tree_row k r (isT x) n h'.2 (by omega)]
    rfl
end
/-! blocks -/
mutual
def gB : Blk → Bool
  | .quote bs => gBs bs
  | .list g st _ its => fitStart g (optI st) && !its.isEmpty && gIts its
  | .heading l r => decide (1 ≤ l) && decide (l ≤ 6) && gR false false r
  | .brk => true
  | .code t i => match i with
    | none => isLns (.str (S t))
    | some i => gTxt i && (isLns (.str (S t)) || t.isEmpty)
  | .html t => isLns (.str (S t))
  | .defn l d t => gTxt l && lab (S l) && gTxt d && gOpt t
  | .par r => !r.isEmpty && gR false false r
def gBs : List Blk → Bool
  | [] => true
  | b :: bs => gB b && gBs bs
def gIts : List (List Blk) → Bool
  | [] => true
  | bs :: its => gBs bs && gIts its
end
mutual
def hB : Blk → Nat
  | .quote bs => 1 + hBs bs
  | .list _ _ _ its => hIts its
  | .heading _ r => 1 + hR r
  | .par r => 1 + hR r
  | _ => 0
def hBs : List Blk → Nat
  | [] => 0
  | b :: bs => max (hB b) (hBs bs)
def hIts : List (List Blk) → Nat
  | [] => 0
  | bs :: its => max (1 + hBs bs) (hIts its)
end
theorem itsD_map : ∀ its : List (List Blk), itsD its = its.map fun bs => .tuple (blksD bs)
  | [] => rfl
  | bs :: its => by
    show PyData.tuple (blksD bs) :: itsD its = _
    rw [itsD_map its]
    rfl
def subB : Blk → List (So × PyData)
  | .quote bs => [(.B, .tuple (blksD bs))]
  | .list _ _ _ its => (itsD its).map fun i => (.B, i)
  | .heading _ r => [(.I, .tuple (rowD r))]
  | .par r => [(.I, .tuple (rowD r))]
  | _ => []
def nameB : Blk → Str
  | .quote _ => "quote"
  | .list _ _ _ _ => "list"
  | .heading _ _ => "heading"
  | .brk => "break"
  | .code _ _ => "code"
  | .html _ => "html"
  | .defn _ _ _ => "definition"
  | .par _ => "paragraph"
theorem nameB_text (b : Blk) : decide (nameB b = ("text" : Str)) = false := by
  cases b with
  | quote _ => exact (by decide +kernel : decide (("quote" : Str) = "text") = false)
  | list _ _ _ _ => exact (by decide +kernel : decide (("list" : Str) = "text") = false)
  | heading _ _ => exact (by decide +kernel : decide (("heading" : Str) = "text") = false)
  | brk => exact (by decide +kernel : decide (("break" : Str) = "text") = false)
  | code _ _ => exact (by decide +kernel : decide (("code" : Str) = "text") = false)
  | html _ => exact (by decide +kernel : decide (("html" : Str) = "text") = false)
  | defn _ _ _ => exact (by decide +kernel : decide (("definition" : Str) = "text") = false)
  | par _ => exact (by decide +kernel : decide (("paragraph" : Str) = "text") = false)
theorem bl_quote (x : PyData) : blkR "quote" [x] = some [(.B, x)] := by unfold blkR; rw [if_pos rfl]
theorem bl_list (g : Str) (st ti : PyData) (its : List PyData) : blkR "list" [.str g, st, ti, .tuple its] = if (fitStart g st && isBool ti && !its.isEmpty) = true then some (its.map fun i => (.B, i)) else none := by
  unfold blkR
  rw [if_neg (by decide +kernel), if_pos rfl]
theorem bl_head (l r : PyData) : blkR "heading" [l, r] = if intTo 1 6 l = true then some [(.I, r)] else none := by
  unfold blkR
  rw [if_neg (by decide +kernel), if_neg (by decide +kernel), if_pos rfl]
theorem bl_brk : blkR "break" [] = some [] := by
  unfold blkR
  rw [if_neg (by decide +kernel), if_neg (by decide +kernel), if_neg (by decide +kernel), if_pos rfl]
  rfl
theorem bl_code (t i : PyData) : blkR "code" [t, i] = ok (if isNon i = true then isLns t else isTxt i && (isLns t || isEmp t)) := by
  unfold blkR
  rw [if_neg (by decide +kernel), if_neg (by decide +kernel), if_neg (by decide +kernel), if_neg (by decide +kernel), if_pos rfl]
theorem bl_html (t : PyData) : blkR "html" [t] = ok (isLns t) := by
  unfold blkR
  rw [if_neg (by decide +kernel), if_neg (by decide +kernel), if_neg (by decide +kernel), if_neg (by decide +kernel), if_neg (by decide +kernel), if_pos rfl]
theorem bl_def (l d t : PyData) : blkR "definition" [l, d, t] = ok (isTxt l && isLab l && fitTgt d t) := by
  unfold blkR
  rw [if_neg (by decide +kernel), if_neg (by decide +kernel), if_neg (by decide +kernel), if_neg (by decide +kernel), if_neg (by decide +kernel), if_neg (by decide +kernel), if_pos rfl]
theorem bl_par (r : PyData) : blkR "paragraph" [r] = if isFil r = true then some [(.I, r)] else none := by
  unfold blkR
  rw [if_neg (by decide +kernel), if_neg (by decide +kernel), if_neg (by decide +kernel), if_neg (by decide +kernel), if_neg (by decide +kernel), if_neg (by decide +kernel), if_neg (by decide +kernel), if_pos rfl]
theorem oneB_of (z : Str) (rest : List PyData) : oneR .B (.tuple (.str z :: rest)) = (blkR z rest).map fun r => (z, r) := rfl
theorem one_B : ∀ b : Blk, gB b = true → oneR .B b.toD = some (nameB b, subB b)
  | .quote bs, _ => by
    show oneR .B (.tuple (.str "quote" :: [_])) = _
    rw [oneB_of, bl_quote]
    rfl
  | .list g st t its, h => by
    have h' : (fitStart g (optI st) && !its.isEmpty && gIts its) = true := h
    simp only [Bool.and_eq_true] at h'
    show oneR .B (.tuple (.str "list" :: [_, _, _, _])) = _
    rw [oneB_of, bl_list]
    have e : (fitStart g (optI st) && isBool (.bool t) && !(itsD its).isEmpty) = true := by
      rw [h'.1.1]
      have : (itsD its).isEmpty = its.isEmpty := by cases its <;> rfl
      rw [this, h'.1.2]
      rfl
    rw [e]
    rfl
  | .heading l r, h => by
    have h' : (decide (1 ≤ l) && decide (l ≤ 6) && gR false false r) = true := h
    simp only [Bool.and_eq_true, decide_eq_true_eq] at h'
    show oneR .B (.tuple (.str "heading" :: [_, _])) = _
    rw [oneB_of, bl_head]
    have e : intTo 1 6 (.int (l : Int)) = true := by
      show (decide ((1 : Int) ≤ (l : Int)) && decide ((l : Int) ≤ 6)) = true
      rw [decide_eq_true (by omega), decide_eq_true (by omega)]
      rfl
    rw [e]
    rfl
  | .brk, _ => by
    show oneR .B (.tuple (.str "break" :: [])) = _
    rw [oneB_of, bl_brk]
    rfl
  | .code t i, h => by
    show oneR .B (.tuple (.str "code" :: [_, _])) = _
    rw [oneB_of, bl_code]
    cases i with
    | none =>
      have h' : isLns (.str (S t)) = true := h
      rw [show (if isNon (optD none) = true then isLns (.str (S t)) else isTxt (optD none) && (isLns (.str (S t)) || isEmp (.str (S t)))) = isLns (.str (S t)) from rfl, ok_true h']
      rfl
    | some i =>
      have h' : (gTxt i && (isLns (.str (S t)) || t.isEmpty)) = true := h
      have e : (if isNon (optD (some i)) = true then isLns (.str (S t)) else isTxt (optD (some i)) && (isLns (.str (S t)) || isEmp (.str (S t)))) = true := by
        show (txt (S i) && (isLns (.str (S t)) || isEmp (.str (S t)))) = true
        rw [txt_g, emp_g]
        exact h'
      rw [ok_true e]
      rfl
  | .html t, h => by
    have h' : isLns (.str (S t)) = true := h
    show oneR .B (.tuple (.str "html" :: [_])) = _
    rw [oneB_of, bl_html, ok_true h']
    rfl
  | .defn l d t, h => by
    have h' : (gTxt l && lab (S l) && gTxt d && gOpt t) = true := h
    simp only [Bool.and_eq_true] at h'
    show oneR .B (.tuple (.str "definition" :: [_, _, _])) = _
    rw [oneB_of, bl_def]
    have e : (isTxt (.str (S l)) && isLab (.str (S l)) && fitTgt (.str (S d)) (optD t)) = true := by
      show (txt (S l) && lab (S l) && (txt (S d) && (isNon (optD t) || isTxt (optD t)))) = true
      rw [txt_g, txt_g, opt_g, h'.1.1.1, h'.1.1.2, h'.1.2, h'.2]
      rfl
    rw [ok_true e]
    rfl
  | .par r, h => by
    have h' : (!r.isEmpty && gR false false r) = true := h
    simp only [Bool.and_eq_true] at h'
    show oneR .B (.tuple (.str "paragraph" :: [_])) = _
    rw [oneB_of, bl_par, fil_g, h'.1]
    rfl
theorem row_B : ∀ (bs : List Blk) (p : Bool), gBs bs = true → rowR .B p (blksD bs) = some (bs.flatMap subB)
  | [], _, _ => rfl
  | b :: bs, p, h => by
    have h' : (gB b && gBs bs) = true := h
    rw [Bool.and_eq_true] at h'
    show rowR .B p (b.toD :: blksD bs) = _
    have e1 : ∀ (ds : List PyData), rowR .B p (b.toD :: ds) = if (p && decide (nameB b = "text")) = true then none else (rowR .B (decide (nameB b = "text")) ds).map fun g => subB b ++ g := fun ds => by
      show (match oneR .B b.toD with | none => none | some (z, f) => _) = _
      rw [one_B b h'.1]
    rw [e1, nameB_text, row_B bs _ h'.2, Bool.and_false, if_neg Bool.false_ne_true]
    rfl
mutual
theorem tree_subB : ∀ (b : Blk) (n : Nat), gB b = true → hB b ≤ n → treeR n (subB b) = true
  | .brk, n, _, _ => treeR_nil n
  | .code _ _, n, _, _ => treeR_nil n
  | .html _, n, _, _ => treeR_nil n
  | .defn _ _ _, n, _, _ => treeR_nil n
  | .quote bs, n, h, hn => by
    have h' : gBs bs = true := h
    have hn' : 1 + hBs bs ≤ n := hn
    obtain ⟨m, rfl⟩ : ∃ m, n = m + 1 := ⟨n - 1, by omega⟩
    show treeR (m + 1) [(.B, .tuple (blksD bs))] = true
    rw [treeR_row (row_B bs false h')]
    exact tree_rowB bs m h' (by omega)
  | .list g st t its, n, h, hn => by
    have h' : (fitStart g (optI st) && !its.isEmpty && gIts its) = true := h
    simp only [Bool.and_eq_true] at h'
    exact tree_its its n h'.2 hn
  | .heading l r, n, h, hn => by
    have h' : (decide (1 ≤ l) && decide (l ≤ 6) && gR false false r) = true := h
    simp only [Bool.and_eq_true] at h'
    have hn' : 1 + hR r ≤ n := hn
    obtain ⟨m, rfl⟩ : ∃ m, n = m + 1 := ⟨n - 1, by omega⟩
    show treeR (m + 1) [(soI false, .tuple (rowD r))] = true
    rw [treeR_row (row_I false r false h'.2)]
    exact tree_row false r false m h'.2 (by omega)
  | .par r, n, h, hn => by
    have h' : (!r.isEmpty && gR false false r) = true := h
    simp only [Bool.and_eq_true] at h'
    have hn' : 1 + hR r ≤ n := hn
    obtain ⟨m, rfl⟩ : ∃ m, n = m + 1 := ⟨n - 1, by omega⟩
    show treeR (m + 1) [(soI false, .tuple (rowD r))] = true
    rw [treeR_row (row_I false r false h'.2)]
    exact tree_row false r false m h'.2 (by omega)
theorem tree_rowB : ∀ (bs : List Blk) (n : Nat), gBs bs = true → hBs bs ≤ n → treeR n (bs.flatMap subB) = true
  | [], n, _, _ => treeR_nil n
  | b :: bs, n, h, hn => by
    have h' : (gB b && gBs bs) = true := h
    rw [Bool.and_eq_true] at h'
    have hn' : max (hB b) (hBs bs) ≤ n := hn
    rw [List.flatMap_cons, treeR_app, tree_subB b n h'.1 (by omega), tree_rowB bs n h'.2 (by omega)]
    rfl
theorem tree_its : ∀ (its : List (List Blk)) (n : Nat), gIts its = true → hIts its ≤ n → treeR n ((itsD its).map fun i => (.B, i)) = true
  | [], n, _, _ => treeR_nil n
  | bs :: its, n, h, hn => by
    have h' : (gBs bs && gIts its) = true := h
    rw [Bool.and_eq_true] at h'
    have hn' : max (1 + hBs bs) (hIts its) ≤ n := hn
    obtain ⟨m, hm⟩ : ∃ m, n = m + 1 := ⟨n - 1, by omega⟩
    show treeR n ((.B, .tuple (blksD bs)) :: (itsD its).map fun i => (.B, i)) = true
    have e : ∀ (p : So × PyData) r, treeR n (p :: r) = (treeR n [p] && treeR n r) := fun p r => treeR_app n [p] r
    rw [e, tree_its its n h'.2 (by omega), hm, treeR_row (row_B bs false h'.1), tree_rowB bs m h'.1 (by omega)]
    rfl
end
theorem is_doc {bs : List Blk} (h : gBs bs = true) (hh : hBs bs ≤ 99) : isTree (.tuple (blksD bs)) = true := by
  show treeR (99 + 1) [(.B, .tuple (blksD bs))] = true
  rw [treeR_row (row_B bs false h)]
  exact tree_rowB bs 99 h hh
/-! what is spoilt -/
def badB (d : PyData) : Bool := match oneR .B d with
  | none => true
  | some (_, f) => !treeR 100 f
theorem bad_row {n : Nat} (hn : n ≤ 100) {w : PyData} (hw : badB w = true) : ∀ (ds es : List PyData) (p : Bool) {f : List (So × PyData)}, rowR .B p (ds ++ w :: es) = some f → treeR n f = false
  | [], es, p, f, h => by
    have h' : rowR .B p (w :: es) = some f := h
    rw [show rowR .B p (w :: es) = match oneR .B w with | none => none | some (z, g) => if (p && decide (z = "text")) = true then none else (rowR .B (decide (z = "text")) es).map fun k => g ++ k from rfl] at h'
    unfold badB at hw
    cases e : oneR .B w with
    | none => rw [e] at h'; cases h'
    | some zg =>
      obtain ⟨z, g⟩ := zg
      rw [e] at h' hw
      have hw' : treeR 100 g = false := by simpa using hw
      have h'' : (if (p && decide (z = "text")) = true then none else (rowR .B (decide (z = "text")) es).map fun k => g ++ k) = some f := h'
      split at h''
      · cases h''
      · cases e2 : rowR .B (decide (z = "text")) es with
        | none => rw [e2] at h''; cases h''
        | some k =>
          rw [e2] at h''
          cases h''
          rw [treeR_app]
          have : treeR n g = false := by
            cases q : treeR n g with
            | false => rfl
            | true => rw [treeR_le q hn] at hw'; cases hw'
          rw [this]
          rfl
  | d :: ds, es, p, f, h => by
    have h' : rowR .B p (d :: (ds ++ w :: es)) = some f := h
    rw [show rowR .B p (d :: (ds ++ w :: es)) = match oneR .B d with | none => none | some (z, g) => if (p && decide (z = "text")) = true then none else (rowR .B (decide (z = "text")) (ds ++ w :: es)).map fun k => g ++ k from rfl] at h'
    cases e : oneR .B d with
    | none => rw [e] at h'; cases h'
    | some zg =>
      obtain ⟨z, g⟩ := zg
      rw [e] at h'
      have h'' : (if (p && decide (z = "text")) = true then none else (rowR .B (decide (z = "text")) (ds ++ w :: es)).map fun k => g ++ k) = some f := h'
      split at h''
      · cases h''
      · cases e2 : rowR .B (decide (z = "text")) (ds ++ w :: es) with
        | none => rw [e2] at h''; cases h''
        | some k =>
          rw [e2] at h''
          cases h''
          rw [treeR_app, bad_row hn hw ds es _ e2, Bool.and_false]
theorem bad_tree {n : Nat} (hn : n ≤ 100) {w : PyData} (hw : badB w = true) (ds es : List PyData) : treeR (n + 1) [(.B, .tuple (ds ++ w :: es))] = false := by
  rw [treeR_one]
  show (match rowR .B false (ds ++ w :: es) with | none => false | some f => treeR n f) = false
  cases e : rowR .B false (ds ++ w :: es) with
  | none => rfl
  | some f => exact bad_row hn hw ds es _ e
end BM

namespace PG
open PySem PySem.Spec PyProof.Rows L2 My RM PM DM IM TR BM
/-- a sign as it stands in a page -/
def escC (c : Nat) : List Nat := if c = 38 then [38, 97, 109, 112, 59] else if c = 60 then [38, 108, 116, 59] else if c = 62 then [38, 103, 116, 59] else if c = 34 then [38, 113, 117, 111, 116, 59] else [c]
def escL (l : List Nat) : List Nat := l.flatMap escC
theorem escL_app (a b : List Nat) : escL (a ++ b) = escL a ++ escL b := List.flatMap_append
theorem escC_len (c : Nat) : (escC c).length ≤ 6 := by
  unfold escC
  repeat' split
  all_goals simp
theorem escL_len : ∀ l : List Nat, (escL l).length ≤ 6 * l.length
  | [] => Nat.zero_le _
  | c :: r => by
    show (escC c ++ escL r).length ≤ 6 * (r.length + 1)
    rw [List.length_append]
    have := escC_len c
    have := escL_len r
    omega
open PySem.StrLaws in
/-- one sign is exchanged -/
theorem repl_one (y : Nat) (z : List Nat) : ∀ l : List Nat, replL [y] z l = l.flatMap fun c => if c = y then z else [c]
  | [] => replL_nil
  | c :: r => by
    rw [List.flatMap_cons]
    by_cases h : c = y
    · subst h
      rw [replL_hit (by simp) (by simp), if_pos rfl, ← repl_one c z r]
      rfl
    · rw [replL_miss (by simpa using h), if_neg h, repl_one y z r]
      rfl
theorem flat_flat (f g : Nat → List Nat) (l : List Nat) : (l.flatMap f).flatMap g = l.flatMap fun c => (f c).flatMap g := List.flatMap_assoc
theorem esc_chain (l : List Nat) : (((l.flatMap fun c => if c = 38 then [38, 97, 109, 112, 59] else [c]).flatMap fun c => if c = 60 then [38, 108, 116, 59] else [c]).flatMap fun c => if c = 62 then [38, 103, 116, 59] else [c]).flatMap (fun c => if c = 34 then [38, 113, 117, 111, 116, 59] else [c]) = escL l := by
  rw [flat_flat, flat_flat, flat_flat]
  unfold escL
  refine congrArg (fun f => List.flatMap f l) (funext fun c => ?_)
  unfold escC
  by_cases h1 : c = 38
  · subst h1
    rfl
  · rw [if_neg h1, if_neg h1]
    by_cases h2 : c = 60
    · subst h2
      rfl
    · rw [if_neg h2]
      by_cases h3 : c = 62
      · subst h3
        rfl
      · rw [if_neg h3]
        by_cases h4 : c = 34
        · subst h4
          rfl
        · rw [if_neg h4]
          simp [h2, h3, h4]
theorem repl_S (l y z : List Nat) (hy : 1 ≤ y.length) : Txt.replace (S l) (S y) (S z) = S (PySem.StrLaws.replL y z l) := by
  rw [S_of (Txt.replace (S l) (S y) (S z))]
  have := PySem.StrLaws.replace_list (x := S l) (y := S y) (z := S z) (by rw [S_len]; exact hy)
  rw [S_tl, S_tl, S_tl] at this
  rw [this]
end PG

/-! ### pages -/
namespace PG
open PySem PySem.Spec PyProof.Rows L2 My RM PM DM IM TR BM
def cs (s : String) : List Nat := s.toList.map Char.toNat
theorem lit (s : String) : Str.ofString s = S (cs s) := Str.ofString_eq_toList s
def decN (n : Nat) : List Nat := cs (toString (n : Int))
def attrP (name : String) (t : List Nat) : List Nat := cs " " ++ cs name ++ cs "=\"" ++ escL t ++ cs "\""
def titleP : Option (List Nat) → List Nat
  | none => []
  | some t => if t = [] then [] else attrP "title" t
mutual
def ip : Inl → List Nat
  | .text t => escL t
  | .code t => cs "<code>" ++ escL t ++ cs "</code>"
  | .html t => t
  | .soft => cs "\n"
  | .hard => cs "<br />\n"
  | .emph r => cs "<em>" ++ rp r ++ cs "</em>"
  | .strong r => cs "<strong>" ++ rp r ++ cs "</strong>"
  | .link d t r => cs "<a" ++ attrP "href" d ++ titleP t ++ cs ">" ++ rp r ++ cs "</a>"
  | .image d t r => cs "<img" ++ attrP "src" d ++ attrP "alt" (rowW r) ++ titleP t ++ cs " />"
def rp : List Inl → List Nat
  | [] => []
  | x :: r => ip x ++ rp r
end
theorem rp_app : ∀ a b : List Inl, rp (a ++ b) = rp a ++ rp b
  | [], b => rfl
  | x :: a, b => by
    show ip x ++ rp (a ++ b) = ip x ++ rp a ++ rp b
    rw [rp_app a b, List.append_assoc]
def whiB (c : Nat) : Bool := c == 32 || c == 9 || c == 10
def firstW (l : List Nat) : List Nat := l.takeWhile fun c => !whiB c
def langP : Option (List Nat) → List Nat
  | none => []
  | some i => if firstW i = [] then [] else attrP "class" (cs "language-" ++ firstW i)
def isDefn : Blk → Bool
  | .defn _ _ _ => true
  | _ => false
def isPar : Blk → Bool
  | .par _ => true
  | _ => false
def bareP : Blk → List Nat
  | .par r => rp r
  | _ => []
def openP : Option Nat → List Nat
  | none => cs "<ul>\n"
  | some n => if n = 1 then cs "<ol>\n" else cs "<ol" ++ attrP "start" (decN n) ++ cs ">\n"
def closeP : Option Nat → List Nat
  | none => cs "</ul>\n"
  | some _ => cs "</ol>\n"
def nlP (acc : List Nat) (b : Bool) : List Nat := if acc.getLast? = some 10 ∨ b = true then [] else [10]
mutual
def bp : Blk → List Nat
  | .quote bs => cs "<blockquote>\n" ++ bsP bs ++ cs "</blockquote>\n"
  | .list _ st t its => openP st ++ itsP t its ++ closeP st
  | .heading l r => cs "<h" ++ decN l ++ cs ">" ++ rp r ++ cs "</h" ++ decN l ++ cs ">\n"
  | .brk => cs "<hr />\n"
  | .code t i => cs "<pre><code" ++ langP i ++ cs ">" ++ escL t ++ cs "</code></pre>\n"
  | .html t => t
  | .defn _ _ _ => []
  | .par r => cs "<p>" ++ rp r ++ cs "</p>\n"
def bsP : List Blk → List Nat
  | [] => []
  | b :: bs => bp b ++ bsP bs
def itsP (t : Bool) : List (List Blk) → List Nat
  | [] => []
  | bs :: its => itemP t (cs "<li>") true bs ++ cs "</li>\n" ++ itsP t its
def itemP (t : Bool) (acc : List Nat) (first : Bool) : List Blk → List Nat
  | [] => acc
  | b :: bs => if isDefn b = true then itemP t acc first bs
    else itemP t (acc ++ nlP acc (t && isPar b && first) ++ (if (t && isPar b) = true then bareP b else bp b)) false bs
end
/-! parts -/
mutual
def pc : Inl → Nat
  | .emph r => 1 + pcR r
  | .strong r => 1 + pcR r
  | .link _ _ r => 1 + pcR r
  | .image _ _ r => 1 + pcR r
  | _ => 1
def pcR : List Inl → Nat
  | [] => 0
  | x :: r => pc x + pcR r
end
theorem pcR_app : ∀ a b : List Inl, pcR (a ++ b) = pcR a + pcR b
  | [], b => (Nat.zero_add _).symm
  | x :: a, b => by
    show pc x + pcR (a ++ b) = pc x + pcR a + pcR b
    rw [pcR_app a b, Nat.add_assoc]
mutual
def pB : Blk → Nat
  | .quote bs => 1 + pBs bs
  | .list _ _ _ its => 1 + pIts its
  | .heading _ r => 1 + pcR r
  | .par r => 1 + pcR r
  | _ => 1
def pBs : List Blk → Nat
  | [] => 0
  | b :: bs => pB b + pBs bs
def pIts : List (List Blk) → Nat
  | [] => 0
  | bs :: its => pBs bs + pIts its
end
def shortO (n : Nat) : Option (List Nat) → Bool
  | none => true
  | some t => decide (t.length ≤ n)
mutual
def sI : Inl → Bool
  | .text t => decide (t.length ≤ 20)
  | .code t => decide (t.length ≤ 20)
  | .html t => decide (t.length ≤ 20)
  | .soft => true
  | .hard => true
  | .emph r => sR r
  | .strong r => sR r
  | .link d t r => decide (d.length ≤ 200) && shortO 200 t && sR r
  | .image d t r => decide (d.length ≤ 200) && shortO 200 t && sR r
def sR : List Inl → Bool
  | [] => true
  | x :: r => sI x && sR r
end
def Infos7 : List (Option (List Nat)) := [none, some [], some (cs "x"), some (cs "x y"), some (cs " z"), some (cs "<\tq"), some (cs "a\nb")]
def tailsI : List (List Nat) := [cs " ", cs "\tq", cs "\n", cs " <r> s"]
def InfosL : List (Option (List Nat)) := Infos7 ++ ([[], cs "x", cs "<", cs "a"] : List (List Nat)).flatMap fun a => tailsI.map fun b => some (a ++ b)
def StartsL : List (Option Nat) := [none, some 0, some 1, some 2, some 7, some 999999999]
mutual
def sB : Blk → Bool
  | .quote bs => sBs bs
  | .list _ st _ its => decide (its.length ≤ 3) && StartsL.contains st && sIts its
  | .heading l r => decide (l < 7) && sR r
  | .brk => true
  | .code t i => decide (t.length ≤ 50) && InfosL.contains i
  | .html t => decide (t.length ≤ 50) && !t.isEmpty
  | .defn l d t => decide (l.length ≤ 50) && decide (d.length ≤ 200) && shortO 200 t
  | .par r => sR r
def sBs : List Blk → Bool
  | [] => true
  | b :: bs => sB b && sBs bs
def sIts : List (List Blk) → Bool
  | [] => true
  | bs :: its => sBs bs && sIts its
end
/-! how long a page is -/
theorem attr_len (name : String) (t : List Nat) : (attrP name t).length ≤ 4 + (cs name).length + 6 * t.length := by
  have h := escL_len t
  have e1 : (cs " ").length = 1 := by decide +kernel
  have e2 : (cs "=\"").length = 2 := by decide +kernel
  have e3 : (cs "\"").length = 1 := by decide +kernel
  unfold attrP
  simp only [List.length_append, e1, e2, e3]
  omega
theorem title_len {t : Option (List Nat)} (h : shortO 200 t = true) : (titleP t).length ≤ 1300 := by
  cases t with
  | none => exact Nat.zero_le _
  | some u =>
    have h' : u.length ≤ 200 := of_decide_eq_true h
    have := attr_len "title" u
    have e1 : (cs "title").length = 5 := by decide +kernel
    show (if u = [] then [] else attrP "title" u).length ≤ 1300
    split
    · exact Nat.zero_le _
    · omega
mutual
theorem words_len : ∀ x : Inl, sI x = true → x.words.length ≤ 20 * pc x
  | .text t, h => of_decide_eq_true h
  | .code t, h => of_decide_eq_true h
  | .html t, _ => Nat.zero_le _
  | .soft, _ => by decide
  | .hard, _ => by decide
  | .emph r, h => by
    have := rowW_len r h
    show (rowW r).length ≤ 20 * (1 + pcR r)
    omega
  | .strong r, h => by
    have := rowW_len r h
    show (rowW r).length ≤ 20 * (1 + pcR r)
    omega
  | .link d t r, h => by
    have h' : (decide (d.length ≤ 200) && shortO 200 t && sR r) = true := h
    rw [Bool.and_eq_true] at h'
    have := rowW_len r h'.2
    show (rowW r).length ≤ 20 * (1 + pcR r)
    omega
  | .image d t r, h => by
    have h' : (decide (d.length ≤ 200) && shortO 200 t && sR r) = true := h
    rw [Bool.and_eq_true] at h'
    have := rowW_len r h'.2
    show (rowW r).length ≤ 20 * (1 + pcR r)
    omega
theorem rowW_len : ∀ r : List Inl, sR r = true → (rowW r).length ≤ 20 * pcR r
  | [], _ => Nat.zero_le _
  | x :: r, h => by
    have h' : (sI x && sR r) = true := h
    rw [Bool.and_eq_true] at h'
    have h1 := words_len x h'.1
    have h2 := rowW_len r h'.2
    show (x.words ++ rowW r).length ≤ 20 * (pc x + pcR r)
    rw [List.length_append]
    omega
end
theorem cs_len : (cs "<code>").length = 6 ∧ (cs "</code>").length = 7 ∧ (cs "\n").length = 1 ∧ (cs "<br />\n").length = 7 ∧ (cs "<em>").length = 4 ∧ (cs "</em>").length = 5 ∧ (cs "<strong>").length = 8 ∧ (cs "</strong>").length = 9 ∧ (cs "<a").length = 2 ∧ (cs "href").length = 4 ∧ (cs ">").length = 1 ∧
    (cs "</a>").length = 4 ∧ (cs "<img").length = 4 ∧ (cs "src").length = 3 ∧ (cs "alt").length = 3 ∧ (cs " />").length = 3 := by decide +kernel
mutual
theorem ip_len : ∀ x : Inl, sI x = true → (ip x).length ≤ 3000 * pc x
  | .text t, h => by
    have h' : t.length ≤ 20 := of_decide_eq_true h
    have := escL_len t
    show (escL t).length ≤ 3000 * 1
    omega
  | .code t, h => by
    have h' : t.length ≤ 20 := of_decide_eq_true h
    have := escL_len t
    obtain ⟨c1, c2, _⟩ := cs_len
    show (cs "<code>" ++ escL t ++ cs "</code>").length ≤ 3000 * 1
    rw [List.length_append, List.length_append]
    omega
  | .html t, h => by
    have h' : t.length ≤ 20 := of_decide_eq_true h
    show t.length ≤ 3000 * 1
    omega
  | .soft, _ => by decide +kernel
  | .hard, _ => by decide +kernel
  | .emph r, h => by
    have := rp_len r h
    obtain ⟨_, _, _, _, c5, c6, _⟩ := cs_len
    show (cs "<em>" ++ rp r ++ cs "</em>").length ≤ 3000 * (1 + pcR r)
    rw [List.length_append, List.length_append]
    omega
  | .strong r, h => by
    have := rp_len r h
    obtain ⟨_, _, _, _, _, _, c7, c8, _⟩ := cs_len
    show (cs "<strong>" ++ rp r ++ cs "</strong>").length ≤ 3000 * (1 + pcR r)
    rw [List.length_append, List.length_append]
    omega
  | .link d t r, h => by
    have h' : (decide (d.length ≤ 200) && shortO 200 t && sR r) = true := h
    rw [Bool.and_eq_true, Bool.and_eq_true] at h'
    have h1 := rp_len r h'.2
    have h2 := title_len h'.1.2
    have h3 := attr_len "href" d
    have h4 : d.length ≤ 200 := of_decide_eq_true h'.1.1
    obtain ⟨_, _, _, _, _, _, _, _, c9, c10, c11, c12, _⟩ := cs_len
    show (cs "<a" ++ attrP "href" d ++ titleP t ++ cs ">" ++ rp r ++ cs "</a>").length ≤ 3000 * (1 + pcR r)
    simp only [List.length_append]
    omega
  | .image d t r, h => by
    have h' : (decide (d.length ≤ 200) && shortO 200 t && sR r) = true := h
    rw [Bool.and_eq_true, Bool.and_eq_true] at h'
    have h1 := rowW_len r h'.2
    have h2 := title_len h'.1.2
    have h3 := attr_len "src" d
    have h5 := attr_len "alt" (rowW r)
    have h4 : d.length ≤ 200 := of_decide_eq_true h'.1.1
    obtain ⟨_, _, _, _, _, _, _, _, _, _, _, _, c13, c14, c15, c16⟩ := cs_len
    show (cs "<img" ++ attrP "src" d ++ attrP "alt" (rowW r) ++ titleP t ++ cs " />").length ≤ 3000 * (1 + pcR r)
    simp only [List.length_append]
    omega
theorem rp_len : ∀ r : List Inl, sR r = true → (rp r).length ≤ 3000 * pcR r
  | [], _ => Nat.zero_le _
  | x :: r, h => by
    have h' : (sI x && sR r) = true := h
    rw [Bool.and_eq_true] at h'
    have h1 := ip_len x h'.1
    have h2 := rp_len r h'.2
    show (ip x ++ rp r).length ≤ 3000 * (pc x + pcR r)
    rw [List.length_append]
    omega
end
mutual
theorem rows_pc : ∀ x : Inl, x.rows + 1 ≤ 2 * pc x
  | .emph r => by have := rowN_pc r; show 1 + rowN r + 1 ≤ 2 * (1 + pcR r); omega
  | .strong r => by have := rowN_pc r; show 1 + rowN r + 1 ≤ 2 * (1 + pcR r); omega
  | .link _ _ r => by have := rowN_pc r; show 1 + rowN r + 1 ≤ 2 * (1 + pcR r); omega
  | .image _ _ r => by have := rowN_pc r; show 1 + rowN r + 1 ≤ 2 * (1 + pcR r); omega
  | .text _ => by show 0 + 1 ≤ 2 * 1; omega
  | .code _ => by show 0 + 1 ≤ 2 * 1; omega
  | .html _ => by show 0 + 1 ≤ 2 * 1; omega
  | .soft => by decide
  | .hard => by decide
theorem rowN_pc : ∀ r : List Inl, rowN r ≤ 2 * pcR r
  | [] => Nat.le_refl _
  | x :: r => by
    have h1 := rows_pc x
    have h2 := rowN_pc r
    show 1 + x.rows + rowN r ≤ 2 * (pc x + pcR r)
    omega
end
theorem start_len : ∀ st ∈ StartsL, (openP st).length + (closeP st).length ≤ 200 := by decide +kernel
theorem level_len : ∀ l < 7, (decN l).length ≤ 2 := by decide +kernel
theorem info_len : ∀ i ∈ InfosL, (langP i).length ≤ 100 := by decide +kernel
theorem cs_len2 : (cs "<blockquote>\n").length = 13 ∧ (cs "</blockquote>\n").length = 14 ∧ (cs "<h").length = 2 ∧ (cs "</h").length = 3 ∧ (cs ">\n").length = 2 ∧ (cs ">").length = 1 ∧ (cs "<pre><code").length = 10 ∧ (cs "</code></pre>\n").length = 14 ∧ (cs "<p>").length = 3 ∧ (cs "</p>\n").length = 5 ∧ (cs "<li>").length = 4 ∧ (cs "</li>\n").length = 6 := by decide +kernel
theorem bare_len (b : Blk) (h : sB b = true) : (bareP b).length ≤ (bp b).length := by
  cases b with
  | par r =>
    show (rp r).length ≤ (cs "<p>" ++ rp r ++ cs "</p>\n").length
    rw [List.length_append, List.length_append]
    omega
  | _ => exact Nat.zero_le _
theorem pB_pos (b : Blk) : 1 ≤ pB b := by cases b <;> (unfold pB; omega)
theorem nl_len (acc : List Nat) (b : Bool) : (nlP acc b).length ≤ 1 := by
  unfold nlP
  split
  · exact Nat.zero_le _
  · exact Nat.le_refl _
mutual
theorem bp_len : ∀ b : Blk, sB b = true → (bp b).length + 1 ≤ 3000 * pB b
  | .quote bs, h => by
    have := bsP_len bs h
    obtain ⟨c1, c2, _⟩ := cs_len2
    show (cs "<blockquote>\n" ++ bsP bs ++ cs "</blockquote>\n").length + 1 ≤ 3000 * (1 + pBs bs)
    rw [List.length_append, List.length_append]
    omega
  | .list g st t its, h => by
    have h' : (decide (its.length ≤ 3) && StartsL.contains st && sIts its) = true := h
    rw [Bool.and_eq_true, Bool.and_eq_true] at h'
    have h1 := itsP_len t its h'.2
    have h2 := start_len st (by simpa using h'.1.2)
    have h3 : its.length ≤ 3 := of_decide_eq_true h'.1.1
    show (openP st ++ itsP t its ++ closeP st).length + 1 ≤ 3000 * (1 + pIts its)
    rw [List.length_append, List.length_append]
    omega
  | .heading l r, h => by
    have h' : (decide (l < 7) && sR r) = true := h
    rw [Bool.and_eq_true] at h'
    have h1 := rp_len r h'.2
    have h2 := level_len l (of_decide_eq_true h'.1)
    obtain ⟨_, _, c3, c4, c5, c6, _⟩ := cs_len2
    show (cs "<h" ++ decN l ++ cs ">" ++ rp r ++ cs "</h" ++ decN l ++ cs ">\n").length + 1 ≤ 3000 * (1 + pcR r)
    simp only [List.length_append]
    omega
  | .brk, _ => by decide +kernel
  | .code t i, h => by
    have h' : (decide (t.length ≤ 50) && InfosL.contains i) = true := h
    rw [Bool.and_eq_true] at h'
    have h1 := info_len i (by simpa using h'.2)
    have h2 : t.length ≤ 50 := of_decide_eq_true h'.1
    have h3 := escL_len t
    obtain ⟨_, _, _, _, _, c6, c7, c8, _⟩ := cs_len2
    show (cs "<pre><code" ++ langP i ++ cs ">" ++ escL t ++ cs "</code></pre>\n").length + 1 ≤ 3000 * 1
    simp only [List.length_append]
    omega
  | .html t, h => by
    have h' : (decide (t.length ≤ 50) && !t.isEmpty) = true := h
    rw [Bool.and_eq_true] at h'
    have h2 : t.length ≤ 50 := of_decide_eq_true h'.1
    show t.length + 1 ≤ 3000 * 1
    omega
  | .defn _ _ _, _ => by show 0 + 1 ≤ 3000 * 1; omega
  | .par r, h => by
    have h1 := rp_len r h
    obtain ⟨_, _, _, _, _, _, _, _, c9, c10, _⟩ := cs_len2
    show (cs "<p>" ++ rp r ++ cs "</p>\n").length + 1 ≤ 3000 * (1 + pcR r)
    simp only [List.length_append]
    omega
theorem bsP_len : ∀ bs : List Blk, sBs bs = true → (bsP bs).length ≤ 3000 * pBs bs
  | [], _ => Nat.zero_le _
  | b :: bs, h => by
    have h' : (sB b && sBs bs) = true := h
    rw [Bool.and_eq_true] at h'
    have h1 := bp_len b h'.1
    have h2 := bsP_len bs h'.2
    show (bp b ++ bsP bs).length ≤ 3000 * (pB b + pBs bs)
    rw [List.length_append]
    omega
theorem itsP_len (t : Bool) : ∀ its : List (List Blk), sIts its = true → (itsP t its).length ≤ 10 * its.length + 3000 * pIts its
  | [], _ => Nat.zero_le _
  | bs :: its, h => by
    have h' : (sBs bs && sIts its) = true := h
    rw [Bool.and_eq_true] at h'
    have h1 := itemP_len t bs (cs "<li>") true h'.1
    have h2 := itsP_len t its h'.2
    obtain ⟨_, _, _, _, _, _, _, _, _, _, c11, c12⟩ := cs_len2
    show (itemP t (cs "<li>") true bs ++ cs "</li>\n" ++ itsP t its).length ≤ 10 * (its.length + 1) + 3000 * (pBs bs + pIts its)
    simp only [List.length_append]
    omega
theorem itemP_len (t : Bool) : ∀ (bs : List Blk) (acc : List Nat) (first : Bool), sBs bs = true → (itemP t acc first bs).length ≤ acc.length + 3000 * pBs bs
  | [], acc, first, _ => by show acc.length ≤ acc.length + 3000 * 0; omega
  | b :: bs, acc, first, h => by
    have h' : (sB b && sBs bs) = true := h
    rw [Bool.and_eq_true] at h'
    have h1 := bp_len b h'.1
    have h0 := bare_len b h'.1
    show (if isDefn b = true then itemP t acc first bs else itemP t (acc ++ nlP acc (t && isPar b && first) ++ (if (t && isPar b) = true then bareP b else bp b)) false bs).length ≤ acc.length + 3000 * (pB b + pBs bs)
    split
    · have := itemP_len t bs acc first h'.2
      omega
    · have h2 := itemP_len t bs (acc ++ nlP acc (t && isPar b && first) ++ (if (t && isPar b) = true then bareP b else bp b)) false h'.2
      have h3 := nl_len acc (t && isPar b && first)
      have h4 : (if (t && isPar b) = true then bareP b else bp b).length ≤ (bp b).length := by
        split
        · exact h0
        · exact Nat.le_refl _
      rw [List.length_append, List.length_append] at h2
      omega
end
/-! pages, row by row -/
theorem sR_mem : ∀ {r : List Inl} {x : Inl}, sR r = true → x ∈ r → sI x = true ∧ pc x ≤ pcR r
  | y :: r, x, h, hx => by
    have h' : (sI y && sR r) = true := h
    rw [Bool.and_eq_true] at h'
    show sI x = true ∧ pc x ≤ pc y + pcR r
    rcases List.mem_cons.mp hx with rfl | hx
    · exact ⟨h'.1, by omega⟩
    · have := sR_mem h'.2 hx
      exact ⟨this.1, by omega⟩
theorem sub_sR {x : Inl} {r : List Inl} (h : sI x = true) (hr : r ∈ x.sub) : sR r = true ∧ 1 + pcR r ≤ pc x := by
  cases x with
  | emph r1 => rw [List.mem_singleton.mp hr]; exact ⟨h, Nat.le_refl _⟩
  | strong r1 => rw [List.mem_singleton.mp hr]; exact ⟨h, Nat.le_refl _⟩
  | link d t r1 =>
    rw [List.mem_singleton.mp hr]
    have h' : (decide (d.length ≤ 200) && shortO 200 t && sR r1) = true := h
    rw [Bool.and_eq_true] at h'
    exact ⟨h'.2, Nat.le_refl _⟩
  | image d t r1 =>
    rw [List.mem_singleton.mp hr]
    have h' : (decide (d.length ≤ 200) && shortO 200 t && sR r1) = true := h
    rw [Bool.and_eq_true] at h'
    exact ⟨h'.2, Nat.le_refl _⟩
  | _ => cases hr
def pagesF : Fold where
  X := Inl
  toD := Inl.toD
  sub := Inl.sub
  N := fun r => 1 + rowN r
  hN := fun r => by rw [rowN_tot r]; omega
  Ok := fun r => sR r = true ∧ pcR r ≤ 900
  inh := fun row x r ho hx hr => by
    have h1 := sR_mem ho.1 hx
    have h2 := sub_sR h1.1 hr
    exact ⟨h2.1, by have := ho.2; omega⟩
  RR := fun _ v r => v = .str (S (rp r))
  mono := fun _ _ _ _ _ h => h
/-! blocks, row by row -/
def _root_.BM.Blk.sub : Blk → List (List Blk)
  | .quote bs => [bs]
  | .list _ _ _ its => its
  | _ => []
mutual
def nB : Blk → Nat
  | .quote bs => 1 + nBs bs
  | .list _ _ _ its => nIts its
  | _ => 0
def nBs : List Blk → Nat
  | [] => 0
  | b :: bs => 1 + nB b + nBs bs
def nIts : List (List Blk) → Nat
  | [] => 0
  | bs :: its => 1 + nBs bs + nIts its
end
theorem nIts_tot : ∀ its : List (List Blk), nIts its = tot (fun r => 1 + nBs r) its
  | [] => rfl
  | bs :: its => by
    show 1 + nBs bs + nIts its = 1 + nBs bs + tot (fun r => 1 + nBs r) its
    rw [nIts_tot its]
theorem nBs_tot : ∀ bs : List Blk, nBs bs = bs.length + tot (fun r => 1 + nBs r) (bs.flatMap Blk.sub)
  | [] => rfl
  | b :: bs => by
    have ih := nBs_tot bs
    rw [List.flatMap_cons, tot_app]
    have e : nB b = tot (fun r => 1 + nBs r) b.sub := by
      cases b with
      | list g st t its => exact nIts_tot its
      | _ => rfl
    show 1 + nB b + nBs bs = bs.length + 1 + _
    omega
mutual
theorem nB_le : ∀ b : Blk, sB b = true → nB b + 1 ≤ 5 * pB b
  | .quote bs, h => by have := nBs_le bs h; show 1 + nBs bs + 1 ≤ 5 * (1 + pBs bs); omega
  | .list g st t its, h => by
    have h' : (decide (its.length ≤ 3) && StartsL.contains st && sIts its) = true := h
    rw [Bool.and_eq_true, Bool.and_eq_true] at h'
    have h1 := nIts_le its h'.2
    have h2 : its.length ≤ 3 := of_decide_eq_true h'.1.1
    show nIts its + 1 ≤ 5 * (1 + pIts its)
    omega
  | .heading _ _, _ => by show 0 + 1 ≤ 5 * (1 + _); omega
  | .brk, _ => by decide
  | .code _ _, _ => by show 0 + 1 ≤ 5 * 1; omega
  | .html _, _ => by show 0 + 1 ≤ 5 * 1; omega
  | .defn _ _ _, _ => by show 0 + 1 ≤ 5 * 1; omega
  | .par _, _ => by show 0 + 1 ≤ 5 * (1 + _); omega
theorem nBs_le : ∀ bs : List Blk, sBs bs = true → nBs bs ≤ 5 * pBs bs
  | [], _ => Nat.le_refl _
  | b :: bs, h => by
    have h' : (sB b && sBs bs) = true := h
    rw [Bool.and_eq_true] at h'
    have h1 := nB_le b h'.1
    have h2 := nBs_le bs h'.2
    show 1 + nB b + nBs bs ≤ 5 * (pB b + pBs bs)
    omega
theorem nIts_le : ∀ its : List (List Blk), sIts its = true → nIts its ≤ its.length + 5 * pIts its
  | [], _ => Nat.le_refl _
  | bs :: its, h => by
    have h' : (sBs bs && sIts its) = true := h
    rw [Bool.and_eq_true] at h'
    have h1 := nBs_le bs h'.1
    have h2 := nIts_le its h'.2
    show 1 + nBs bs + nIts its ≤ its.length + 1 + 5 * (pBs bs + pIts its)
    omega
end
theorem sBs_mem : ∀ {bs : List Blk} {b : Blk}, sBs bs = true → b ∈ bs → sB b = true ∧ pB b ≤ pBs bs
  | c :: bs, b, h, hb => by
    have h' : (sB c && sBs bs) = true := h
    rw [Bool.and_eq_true] at h'
    show sB b = true ∧ pB b ≤ pB c + pBs bs
    rcases List.mem_cons.mp hb with rfl | hb
    · exact ⟨h'.1, by omega⟩
    · have := sBs_mem h'.2 hb
      exact ⟨this.1, by omega⟩
theorem sIts_mem : ∀ {its : List (List Blk)} {bs : List Blk}, sIts its = true → bs ∈ its → sBs bs = true ∧ pBs bs ≤ pIts its
  | cs :: its, bs, h, hb => by
    have h' : (sBs cs && sIts its) = true := h
    rw [Bool.and_eq_true] at h'
    show sBs bs = true ∧ pBs bs ≤ pBs cs + pIts its
    rcases List.mem_cons.mp hb with rfl | hb
    · exact ⟨h'.1, by omega⟩
    · have := sIts_mem h'.2 hb
      exact ⟨this.1, by omega⟩
theorem sub_sB {b : Blk} {r : List Blk} (h : sB b = true) (hr : r ∈ b.sub) : sBs r = true ∧ 1 + pBs r ≤ pB b := by
  cases b with
  | quote bs => rw [List.mem_singleton.mp hr]; exact ⟨h, Nat.le_refl _⟩
  | list g st t its =>
    have h' : (decide (its.length ≤ 3) && StartsL.contains st && sIts its) = true := h
    rw [Bool.and_eq_true] at h'
    have := sIts_mem h'.2 (show r ∈ its from hr)
    exact ⟨this.1, by show 1 + pBs r ≤ 1 + pIts its; omega⟩
  | _ => cases hr
def bareV : Blk → V
  | .par r => .str (S (rp r))
  | _ => .non
def PgIs (G : Hp) (w : V) (b : Blk) : Prop := ∃ q, w = .ref q ∧ G q = some (.tup [.str (S (bp b)), bareV b])
def blocksF : Fold where
  X := Blk
  toD := Blk.toD
  sub := Blk.sub
  N := fun r => 1 + nBs r
  hN := fun r => by rw [nBs_tot r]; omega
  Ok := fun r => sBs r = true ∧ pBs r ≤ 900
  inh := fun row x r ho hx hr => by
    have h1 := sBs_mem ho.1 hx
    have h2 := sub_sB h1.1 hr
    exact ⟨h2.1, by have := ho.2; omega⟩
  RR := fun G v row => ∃ p ws, v = .ref p ∧ G p = some (.lst ws) ∧ All2 (PgIs G) ws row
  mono := fun G G' v r s h => by
    obtain ⟨p, ws, e, h1, h2⟩ := h
    exact ⟨p, ws, e, s _ _ h1, h2.mono fun _ _ ⟨q, e, hq⟩ => ⟨q, e, s _ _ hq⟩⟩
/-- what is no definition has a page -/
theorem bp_ne {b : Blk} (h : sB b = true) : bp b = [] ↔ isDefn b = true := by
  have c1 : cs "<blockquote>\n" ≠ [] ∧ cs "<h" ≠ [] ∧ cs "<pre><code" ≠ [] ∧ cs "<p>" ≠ [] := by decide +kernel
  have c2 : ∀ st ∈ StartsL, openP st ≠ [] := by decide +kernel
  have ne : ∀ {x y : List Nat}, x ≠ [] → x ++ y = [] → False := fun h e => h (List.append_eq_nil_iff.mp e).1
  cases b with
  | quote bs =>
    refine ⟨fun e => (ne c1.1 (show cs "<blockquote>\n" ++ (bsP bs ++ cs "</blockquote>\n") = [] by rw [← List.append_assoc]; exact e)).elim, fun e => nomatch e⟩
  | list g st t its =>
    have h' : (decide (its.length ≤ 3) && StartsL.contains st && sIts its) = true := h
    rw [Bool.and_eq_true, Bool.and_eq_true] at h'
    refine ⟨fun e => (ne (c2 st (by simpa using h'.1.2)) (show openP st ++ (itsP t its ++ closeP st) = [] by rw [← List.append_assoc]; exact e)).elim, fun e => nomatch e⟩
  | heading l r =>
    refine ⟨fun e => (ne c1.2.1 (show cs "<h" ++ (decN l ++ cs ">" ++ rp r ++ cs "</h" ++ decN l ++ cs ">\n") = [] by simp only [← List.append_assoc]; exact e)).elim, fun e => nomatch e⟩
  | brk => exact ⟨fun e => absurd e (by decide +kernel), fun e => nomatch e⟩
  | code t i =>
    refine ⟨fun e => (ne c1.2.2.1 (show cs "<pre><code" ++ (langP i ++ cs ">" ++ escL t ++ cs "</code></pre>\n") = [] by simp only [← List.append_assoc]; exact e)).elim, fun e => nomatch e⟩
  | html t =>
    have h' : (decide (t.length ≤ 50) && !t.isEmpty) = true := h
    rw [Bool.and_eq_true] at h'
    refine ⟨fun e => ?_, fun e => nomatch e⟩
    have e' : t = [] := e
    rw [e'] at h'
    exact absurd h'.2 (by decide)
  | defn l d t => exact ⟨fun _ => rfl, fun _ => rfl⟩
  | par r =>
    refine ⟨fun e => (ne c1.2.2.2 (show cs "<p>" ++ (rp r ++ cs "</p>\n") = [] by simp only [← List.append_assoc]; exact e)).elim, fun e => nomatch e⟩
end PG

namespace My
open PySem PySem.Spec PyProof.Rows L2
/-- a well of draws that counts its parts -/
def WellC (c : Int) (H : Hp) (L : Addr) : Prop := ∃ x y : Int, H L = some (.lst [.int x, .int y, .int c])
theorem WellC.lst {c : Int} {H : Hp} {L : Addr} (h : WellC c H L) : ∃ xs, H L = some (.lst xs) := by
  obtain ⟨x, y, e⟩ := h
  exact ⟨_, e⟩
theorem WellC.same {c : Int} {H H' : Hp} {L : Addr} (h : WellC c H L) (s : Same H H') : WellC c H' L := by
  obtain ⟨x, y, e⟩ := h
  exact ⟨x, y, s _ _ e⟩
theorem WellC.new {c : Int} {H : Hp} {L p : Addr} {o : HO} (h : WellC c H L) (n : H p = none) : WellC c (upd H p o) L := h.same (same_new n)
theorem WellC.ne {c : Int} {H : Hp} {L p : Addr} (h : WellC c H L) (n : H p = none) : p ≠ L := by
  obtain ⟨x, y, e⟩ := h
  exact (ne_of_none e n).symm
theorem WellC.upd {c : Int} {H : Hp} {L p : Addr} {o : HO} (h : WellC c H L) (n : p ≠ L) : WellC c (upd H p o) L := by
  obtain ⟨x, y, e⟩ := h
  exact ⟨x, y, by rw [upd_ne n.symm]; exact e⟩
theorem asg_ifS {t : TT} {ta tb : TE} {g : TG} {u : TS} {D : Ends} {σ : L2.St} {H : Hp} (P : V → Hp → Prop) (R : Bool → Prop) (ht : AnsS t σ H R) (ha : ∀ H', Same H H' → R true → ValB ta σ H' P) (hb : ∀ H', Same H H' → R false → ValB tb σ H' P)
    (hq : ∀ v H', P v H' → g v σ H' (u D)) : tSeq (tAsg (tIf t ta tb) g) u D σ H := ht _ fun b H' s r => by
  cases b with
  | true => exact iteT (ha H' s r _ hq)
  | false => exact iteF (hb H' s r _ hq)
theorem asg_ifS_g {t : TT} {ta tb : TE} {g : TG} {u : TS} {D : Ends} {σ : L2.St} {H : Hp} {i : Nat} {x : V} (P : V → Hp → Prop) (R : Bool → Prop) (ht : AnsS t (σ.set i (some x)) H R) (ha : ∀ H', Same H H' → R true → ValB ta (σ.set i (some x)) H' P) (hb : ∀ H', Same H H' → R false → ValB tb (σ.set i (some x)) H' P)
    (hq : ∀ v H', P v H' → g v (σ.set i (some x)) H' (u D)) : gName i x σ H { D with nx := tSeq (tAsg (tIf t ta tb) g) u D }.nx := asg_ifS P R ht ha hb hq
end My
namespace PG
open PySem PySem.Spec PyProof.Rows L2 My RM PM DM IM TR BM
/-! no html within -/
mutual
def noI : Inl → Bool
  | .html _ => false
  | .emph r => noR r
  | .strong r => noR r
  | .link _ _ r => noR r
  | .image _ _ r => noR r
  | _ => true
def noR : List Inl → Bool
  | [] => true
  | x :: r => noI x && noR r
end
mutual
def noB : Blk → Bool
  | .quote bs => noBs bs
  | .list _ _ _ its => noIts its
  | .heading _ r => noR r
  | .html _ => false
  | .par r => noR r
  | _ => true
def noBs : List Blk → Bool
  | [] => true
  | b :: bs => noB b && noBs bs
def noIts : List (List Blk) → Bool
  | [] => true
  | bs :: its => noBs bs && noIts its
end
theorem noR_app : ∀ a b : List Inl, noR (a ++ b) = (noR a && noR b)
  | [], b => rfl
  | x :: a, b => by
    show (noI x && noR (a ++ b)) = (noI x && noR a && noR b)
    rw [noR_app a b, Bool.and_assoc]
theorem noBs_app : ∀ a b : List Blk, noBs (a ++ b) = (noBs a && noBs b)
  | [], b => rfl
  | x :: a, b => by
    show (noB x && noBs (a ++ b)) = (noB x && noBs a && noBs b)
    rw [noBs_app a b, Bool.and_assoc]
theorem noIts_app : ∀ a b : List (List Blk), noIts (a ++ b) = (noIts a && noIts b)
  | [], b => rfl
  | x :: a, b => by
    show (noBs x && noIts (a ++ b)) = (noBs x && noIts a && noIts b)
    rw [noIts_app a b, Bool.and_assoc]
theorem sR_app : ∀ a b : List Inl, sR (a ++ b) = (sR a && sR b)
  | [], b => rfl
  | x :: a, b => by
    show (sI x && sR (a ++ b)) = (sI x && sR a && sR b)
    rw [sR_app a b, Bool.and_assoc]
theorem sBs_app : ∀ a b : List Blk, sBs (a ++ b) = (sBs a && sBs b)
  | [], b => rfl
  | x :: a, b => by
    show (sB x && sBs (a ++ b)) = (sB x && sBs a && sBs b)
    rw [sBs_app a b, Bool.and_assoc]
theorem sIts_app : ∀ a b : List (List Blk), sIts (a ++ b) = (sIts a && sIts b)
  | [], b => rfl
  | x :: a, b => by
    show (sBs x && sIts (a ++ b)) = (sBs x && sIts a && sIts b)
    rw [sIts_app a b, Bool.and_assoc]
theorem pBs_app : ∀ a b : List Blk, pBs (a ++ b) = pBs a + pBs b
  | [], b => (Nat.zero_add _).symm
  | x :: a, b => by
    show pB x + pBs (a ++ b) = pB x + pBs a + pBs b
    rw [pBs_app a b, Nat.add_assoc]
theorem pIts_app : ∀ a b : List (List Blk), pIts (a ++ b) = pIts a + pIts b
  | [], b => (Nat.zero_add _).symm
  | x :: a, b => by
    show pBs x + pIts (a ++ b) = pBs x + pIts a + pIts b
    rw [pIts_app a b, Nat.add_assoc]
theorem bsP_app : ∀ a b : List Blk, bsP (a ++ b) = bsP a ++ bsP b
  | [], b => rfl
  | x :: a, b => by
    show bp x ++ bsP (a ++ b) = bp x ++ bsP a ++ bsP b
    rw [bsP_app a b, List.append_assoc]
theorem hR_app : ∀ a b : List Inl, hR (a ++ b) = max (hR a) (hR b)
  | [], b => by show hR b = max 0 _; omega
  | x :: a, b => by
    show max (hI x) (hR (a ++ b)) = max (max (hI x) (hR a)) (hR b)
    rw [hR_app a b]
    omega
/-- whether a text is last -/
def lastT : Bool → List Inl → Bool
  | p, [] => p
  | _, x :: r => lastT (isT x) r
theorem lastT_snoc (x : Inl) : ∀ (r : List Inl) (p : Bool), lastT p (r ++ [x]) = isT x
  | [], _ => rfl
  | y :: r, p => lastT_snoc x r (isT y)
theorem gR_more (k : Bool) (x : Inl) : ∀ (r : List Inl) (p : Bool), gR k p (r ++ [x]) = (gR k p r && (gI k x && !(lastT p r && isT x)))
  | [], p => by
    show (gI k x && !(p && isT x) && true) = (true && (gI k x && !(p && isT x)))
    rw [Bool.and_true, Bool.true_and]
  | y :: r, p => by
    show (gI k y && !(p && isT y) && gR k (isT y) (r ++ [x])) = (gI k y && !(p && isT y) && gR k (isT y) r && (gI k x && !(lastT (isT y) r && isT x)))
    rw [gR_more k x r (isT y)]
    simp only [Bool.and_assoc]
theorem pcR_one (x : Inl) : pcR [x] = pc x := Nat.add_zero _
theorem pc_pos (x : Inl) : 1 ≤ pc x := by cases x <;> (unfold pc; omega)
theorem len_pcR : ∀ r : List Inl, r.length ≤ pcR r
  | [] => Nat.le_refl _
  | x :: r => by
    have h1 := pc_pos x
    have h2 := len_pcR r
    show r.length + 1 ≤ pc x + pcR r
    omega
theorem len_pBs : ∀ bs : List Blk, bs.length ≤ pBs bs
  | [] => Nat.le_refl _
  | x :: r => by
    have h1 := pB_pos x
    have h2 := len_pBs r
    show r.length + 1 ≤ pB x + pBs r
    omega
theorem inV_mem {g : Str} {l : List V} (h : inV (.str g) l = true) : V.str g ∈ l := by
  obtain ⟨y, hy, e⟩ := List.any_eq_true.mp h
  cases y with
  | str z =>
    have e' : (z == g) = true := e
    rw [← eq_of_beq e']
    exact hy
  | _ => cases e
end PG

namespace My
open PySem PySem.Spec PyProof.Rows L2
section
variable {X : Cx} {o e : Expr} {to te : TE}
/-- a text's method of one argument, where the text wants a token -/
theorem pet_m1 {id : String} {name : Str} {apos pos : Pos} {r : V → List V → Hp → VK → Prop} (slot : Slot "str" name id) (ty : typeOf (.builtin id) = pure (.type "method_descriptor")) (rule : MtR X id r) (ho : PET X o to) (he : PE X e te)
    (hs : starEach [e] X.env = [(false, eval e X.env)] := by rfl) (hbase : attributeBase o name X.env (eval o X.env) = eval o X.env := by rfl) (hline : (apos.endLine == pos.line) = true := by rfl) :
    PET X (.Call (.Attribute o name apos) [e] [] pos) (tM1 r to te) := fun pins s σ H Q h0 I h => by
  refine PySem.Call_method1 hbase hs hline (thn (ho pins s σ H _ h0 I h) fun v s1 ⟨x, H1, I1, r1, q1⟩ => ?_)
  obtain ⟨⟨a, rfl⟩, q1⟩ := q1
  obtain ⟨t, rfl⟩ := _root_.id r1
  refine ⟨"str", _, F.plainAttrs_str, slot, ty, typeIs_str _ _ _, (fun _ e => nomatch e), Calls.callWith_builtin rfl (Calls.evalArgs_plain (Calls.spliced_cons ?_))⟩
  exact thn (he.run pins s1 σ H1 _ I1 q1) fun u s2 ⟨y, H2, I2, r2, q2⟩ => Calls.spliced_nil (rule pins s2 σ H2 _ [y] _ [u] Q I2 r1 (.cons r2 .nil) q2)
/-- a part of what wants a token -/
theorem pet_slice {lo hi : Option Expr} {p2 pos : Pos} {r : V → Option Int → Option Int → Hp → VK → Prop} {tl th : TO} (hr : SlR X r) (he : PET X e te) (hl : PO X lo tl) (hu : PO X hi th) : PET X (.Subscript e (.Slice lo hi none p2) pos) (tSl r te tl th) := fun pins s σ H Q h0 I h => by
  refine Subscript_ (thn (he pins s σ H _ h0 I h) fun v s1 ⟨x, H1, I1, r1, q1⟩ => ?_)
  refine wpAny_Slice (thn (hl.run pins s1 σ H1 _ I1 q1) fun vl s2 ⟨l, H2, I2, pl, q2⟩ => thn (hu.run pins s2 σ H2 _ I2 q2) fun vu s3 ⟨u, H3, I3, pu, q3⟩ => ?_)
  rw [evalPart_none]
  refine wpAny_pure ?_
  have I4 : Inv X pins σ H3 { s3 with heap := s3.heap.push { cls := .type "slice", data := .fields #[vl, vu, .none] } } := I3.kept (t' := s3.toks) fun b ob q => Heap.get?_push_of_some _ q
  obtain ⟨T, id, hT, ht, hg⟩ := hr pins { s3 with heap := s3.heap.push { cls := .type "slice", data := .fields #[vl, vu, .none] } } σ H3 x v vl vu l u s3.heap.objs.size Q I4 r1 (Heap.IsSliceOf.new ..) pl pu q3
  exact tail_any (ops := [.ref s3.heap.objs.size, v]) ht hT hg (by with_unfolding_all rfl)
/-- a written text's method, whose argument wants a token -/
theorem pe_m1C {id : String} {name c : Str} {j : Nat} {cp apos pos : Pos} {r : V → List V → Hp → VK → Prop} (slot : Slot "str" name id) (ty : typeOf (.builtin id) = pure (.type "method_descriptor")) (rule : MtR X id r) (he : PET X e te)
    (hs : starEach [e] X.env = [(false, eval e X.env)] := by rfl) (hbase : attributeBase (.Constant (.str c) j cp) name X.env (eval (.Constant (.str c) j cp) X.env) = eval (.Constant (.str c) j cp) X.env := by rfl) (hline : (apos.endLine == pos.line) = true := by rfl) :
    PE X (.Call (.Attribute (.Constant (.str c) j cp) name apos) [e] [] pos) (tM1 r (tC (.str c)) te) := by
  refine ⟨fun pins s σ H Q I h => ?_⟩
  refine PySem.Call_method1 hbase hs hline (Calls.Constant_str ?_)
  obtain ⟨_, q1⟩ := h
  refine ⟨"str", _, F.plainAttrs_str, slot, ty, typeIs_str _ _ _, (fun _ e => nomatch e), Calls.callWith_builtin rfl (Calls.evalArgs_plain (Calls.spliced_cons ?_))⟩
  exact thn (he pins { s with toks := s.toks + 1 } σ H _ (by show 1 ≤ s.toks + 1; omega) (I.tok _) q1) fun u s2 ⟨y, H2, I2, r2, q2⟩ => Calls.spliced_nil (rule pins s2 σ H2 (.str c) [y] _ [u] Q I2 ⟨_, rfl⟩ (.cons r2 .nil) q2)
theorem pe_joinC {c : Str} {j : Nat} {cp apos pos : Pos} (he : PET X e te) (hs : starEach [e] X.env = [(false, eval e X.env)] := by rfl) (hbase : attributeBase (.Constant (.str c) j cp) "join" X.env (eval (.Constant (.str c) j cp) X.env) = eval (.Constant (.str c) j cp) X.env := by rfl) (hline : (apos.endLine == pos.line) = true := by rfl) :
    PE X (.Call (.Attribute (.Constant (.str c) j cp) "join" apos) [e] [] pos) (tM1 (fun x xs H Q => ∃ a p, ∃ ys : List Str, x = .str a ∧ xs = [.ref p] ∧ (SqL X.K H p (ys.map V.str) ∨ SqT X.K H p (ys.map V.str)) ∧
      (ys.map (·.length)).sum + ys.length * a.length ≤ 16777216 ∧ Q (.str (Txt.join a ys)) H) (tC (.str c)) te) := pe_m1C F.slot_str_join F.type_str_join mt_join he hs hbase hline
end
end My

/-! ### texts cut at a sign; tags that close in their order -/
namespace CL
open PySem PySem.Spec PyProof.Rows L2 My RM PM DM IM TR BM PG
def pcs (c : Nat) : List Nat → List (List Nat)
  | [] => [[]]
  | x :: r => if x = c then [] :: pcs c r else match pcs c r with
    | [] => [[x]]
    | p :: ps => (x :: p) :: ps
theorem pcs_hit (c : Nat) (r : List Nat) : pcs c (c :: r) = [] :: pcs c r := by
  show (if c = c then _ else _) = _
  rw [if_pos rfl]
theorem pcs_ne (c : Nat) : ∀ t, pcs c t ≠ []
  | [] => by simp [pcs]
  | x :: r => by
    unfold pcs
    split
    · simp
    · split <;> simp
theorem pcs_miss {c x : Nat} {r p : List Nat} {ps : List (List Nat)} (h : x ≠ c) (e : pcs c r = p :: ps) : pcs c (x :: r) = (x :: p) :: ps := by
  show (if x = c then _ else _) = _
  rw [if_neg h, e]
theorem pcs_no (c : Nat) : ∀ t, ∀ p ∈ pcs c t, c ∉ p
  | [], p, h => by
    rw [List.mem_singleton.mp h]
    exact List.not_mem_nil
  | x :: r, p, h => by
    by_cases hx : x = c
    · subst hx
      rw [pcs_hit] at h
      rcases List.mem_cons.mp h with rfl | h
      · exact List.not_mem_nil
      · exact pcs_no x r p h
    · cases e : pcs c r with
      | nil => exact absurd e (pcs_ne c r)
      | cons q ps =>
        rw [pcs_miss hx e] at h
        have ih := pcs_no c r
        rw [e] at ih
        rcases List.mem_cons.mp h with rfl | h
        · intro hm
          rcases List.mem_cons.mp hm with hm | hm
          · exact hx hm.symm
          · exact ih q (List.mem_cons_self ..) hm
        · exact ih p (List.mem_cons_of_mem _ h)
theorem join_two (c : Nat) (a : List Nat) {ps : List (List Nat)} (h : ps ≠ []) : TL.joinL [c] (a :: ps) = a ++ c :: TL.joinL [c] ps := by
  cases ps with
  | nil => exact absurd rfl h
  | cons b r =>
    simp [TL.joinL]
theorem pcs_join (c : Nat) : ∀ t, TL.joinL [c] (pcs c t) = t
  | [] => rfl
  | x :: r => by
    have ih := pcs_join c r
    by_cases hx : x = c
    · subst hx
      rw [pcs_hit, join_two _ _ (pcs_ne x r), ih]
      rfl
    · cases e : pcs c r with
      | nil => exact absurd e (pcs_ne c r)
      | cons q ps =>
        rw [pcs_miss hx e]
        rw [e] at ih
        cases ps with
        | nil => exact congrArg (x :: ·) ih
        | cons q2 qs =>
          rw [join_two _ _ (by simp)] at ih ⊢
          rw [← ih]
          rfl
theorem join_Sc (c : Nat) (parts : List (List Nat)) : Txt.join (S [c]) (parts.map S) = S (TL.joinL [c] parts) := by
  rw [TL.join_eq]
  have e := TL.tl_join (S [c]) (parts.map S)
  have e2 : (parts.map S).map TL.tl = parts := by
    rw [List.map_map]
    conv => rhs; rw [← List.map_id parts]
    exact List.map_congr_left fun l _ => S_tl l
  rw [e2] at e
  have e3 : TL.tl (S [c]) = [c] := S_tl _
  rw [e3] at e
  rw [S_of (Str.join (S [c]) (parts.map S))]
  exact congrArg S e
theorem split_c {c : Nat} (hc : c < 256) (t : List Nat) : Txt.split (S t) (S [c]) = (pcs c t).map S := by
  have e : S t = Txt.join (S [c]) ((pcs c t).map S) := by rw [join_Sc, pcs_join]
  rw [e]
  refine TL.split_join (s := c) (S := []) (S_tl _) (by simpa [S] using hc) (fun e => pcs_ne c t (List.map_eq_nil_iff.mp e)) fun p h => ?_
  obtain ⟨q, hq, rfl⟩ := List.mem_map.mp h
  show c ∉ (S q).cps.toList
  rw [S_tl]
  exact pcs_no c t q hq
theorem pcs_len (c : Nat) : ∀ t, ∀ p ∈ pcs c t, p.length ≤ t.length
  | [], p, h => by
    rw [List.mem_singleton.mp h]
    exact Nat.le_refl _
  | x :: r, p, h => by
    by_cases hx : x = c
    · subst hx
      rw [pcs_hit] at h
      rcases List.mem_cons.mp h with rfl | h
      · exact Nat.zero_le _
      · exact Nat.le_succ_of_le (pcs_len x r p h)
    · cases e : pcs c r with
      | nil => exact absurd e (pcs_ne c r)
      | cons q ps =>
        rw [pcs_miss hx e] at h
        have ih := pcs_len c r
        rw [e] at ih
        rcases List.mem_cons.mp h with rfl | h
        · exact Nat.succ_le_succ (ih q (List.mem_cons_self ..))
        · exact Nat.le_succ_of_le (ih p (List.mem_cons_of_mem _ h))
theorem pcs_none {c : Nat} : ∀ {t : List Nat}, c ∉ t → pcs c t = [t]
  | [], _ => rfl
  | x :: r, h => pcs_miss (fun e => h (by rw [e]; exact List.mem_cons_self ..)) (pcs_none fun hm => h (List.mem_cons_of_mem _ hm))
theorem pcs_cut {c : Nat} {b : List Nat} : ∀ {a : List Nat}, c ∉ a → pcs c (a ++ c :: b) = a :: pcs c b
  | [], _ => pcs_hit c b
  | x :: r, h => pcs_miss (fun e => h (by rw [e]; exact List.mem_cons_self ..)) (pcs_cut fun hm => h (List.mem_cons_of_mem _ hm))
theorem pcs_more {c : Nat} {b p : List Nat} {ps : List (List Nat)} (e : pcs c b = p :: ps) : ∀ {a : List Nat}, c ∉ a → pcs c (a ++ b) = (a ++ p) :: ps
  | [], _ => e
  | x :: r, h => pcs_miss (fun e => h (by rw [e]; exact List.mem_cons_self ..)) (pcs_more e fun hm => h (List.mem_cons_of_mem _ hm))
/-- a tag's name -/
def nameL (g : List Nat) : List Nat := g.takeWhile (· != 32)
theorem name_len : ∀ g : List Nat, (nameL g).length ≤ g.length
  | [] => Nat.le_refl _
  | x :: r => by
    have ih := name_len r
    show ((x :: r).takeWhile (· != 32)).length ≤ r.length + 1
    rw [List.takeWhile_cons]
    split
    · exact Nat.succ_le_succ ih
    · exact Nat.zero_le _
theorem name_head (g : List Nat) : ∃ ps, pcs 32 g = nameL g :: ps := by
  induction g with
  | nil => exact ⟨[], rfl⟩
  | cons x r ih =>
    obtain ⟨ps, e⟩ := ih
    unfold nameL at e ⊢
    by_cases hx : x = 32
    · subst hx
      exact ⟨_, pcs_hit 32 r⟩
    · rw [List.takeWhile_cons, show (x != 32) = true by simpa using hx]
      exact ⟨_, pcs_miss hx e⟩
/-! tags and what stands between them -/
inductive Tk where
  | txt (x : List Nat)
  | tag (g : List Nat)
def plain (x : List Nat) : Bool := x.all fun c => c != 60 && c != 62
def okT : List Tk → Bool
  | [] => true
  | .txt x :: r => plain x && okT r
  | .tag g :: r => plain g && okT r
def ren : List Tk → List Nat
  | [] => []
  | .txt x :: r => x ++ ren r
  | .tag g :: r => 60 :: (g ++ 62 :: ren r)
def voidL : List (List Nat) := [cs "br", cs "hr", cs "img"]
def pairL : List (List Nat) := [cs "h1", cs "h2", cs "h3", cs "h4", cs "h5", cs "h6", cs "p", cs "blockquote", cs "ul", cs "ol", cs "li", cs "pre", cs "code", cs "em", cs "strong", cs "a"]
def stepG (st : List (List Nat)) (g : List Nat) : Option (List (List Nat)) :=
  if nameL g ∈ voidL then (if g.drop (g.length - 2) = [32, 47] then some st else none)
  else if (nameL g).take 1 = [47] then (if st.getLast? = some ((nameL g).drop 1) ∧ g = nameL g then some st.dropLast else none)
  else if nameL g ∈ pairL then some (st ++ [nameL g]) else none
def runT : List (List Nat) → List Tk → Option (List (List Nat))
  | st, [] => some st
  | st, .txt _ :: r => runT st r
  | st, .tag g :: r => match stepG st g with
    | none => none
    | some s => runT s r
def lead : List Tk → List Nat
  | [] => []
  | .txt x :: r => x ++ lead r
  | .tag _ :: _ => []
def prs : List Tk → List (List Nat × List Nat)
  | [] => []
  | .txt _ :: r => prs r
  | .tag g :: r => (g, lead r) :: prs r
def runG : List (List Nat) → List (List Nat × List Nat) → Option (List (List Nat))
  | st, [] => some st
  | st, p :: r => match stepG st p.1 with
    | none => none
    | some s => runG s r
theorem run_prs : ∀ (ts : List Tk) (st : List (List Nat)), runG st (prs ts) = runT st ts
  | [], _ => rfl
  | .txt _ :: r, st => run_prs r st
  | .tag g :: r, st => by
    show (match stepG st g with | none => none | some s => runG s (prs r)) = (match stepG st g with | none => none | some s => runT s r)
    cases stepG st g with
    | none => rfl
    | some s => exact run_prs r s
theorem plain_no {x : List Nat} (h : plain x = true) : 60 ∉ x ∧ 62 ∉ x := by
  unfold plain at h
  constructor
  · intro hm
    have := List.all_eq_true.mp h _ hm
    exact absurd this (by decide)
  · intro hm
    have := List.all_eq_true.mp h _ hm
    exact absurd this (by decide)
theorem plain_app (a b : List Nat) : plain (a ++ b) = (plain a && plain b) := List.all_append
theorem lead_plain : ∀ {ts : List Tk}, okT ts = true → plain (lead ts) = true
  | [], _ => rfl
  | .txt x :: r, h => by
    have h' : (plain x && okT r) = true := h
    rw [Bool.and_eq_true] at h'
    show plain (x ++ lead r) = true
    rw [plain_app, h'.1, lead_plain h'.2]
    rfl
  | .tag _ :: _, _ => rfl
theorem prs_plain : ∀ {ts : List Tk}, okT ts = true → ∀ p ∈ prs ts, plain p.1 = true ∧ plain p.2 = true
  | [], _, p, hp => by cases hp
  | .txt x :: r, h, p, hp => by
    have h' : (plain x && okT r) = true := h
    rw [Bool.and_eq_true] at h'
    exact prs_plain h'.2 p hp
  | .tag g :: r, h, p, hp => by
    have h' : (plain g && okT r) = true := h
    rw [Bool.and_eq_true] at h'
    rcases List.mem_cons.mp hp with rfl | hp
    · exact ⟨h'.1, lead_plain h'.2⟩
    · exact prs_plain h'.2 p hp
theorem pcs_ren : ∀ {ts : List Tk}, okT ts = true → pcs 60 (ren ts) = lead ts :: (prs ts).map fun p => p.1 ++ 62 :: p.2
  | [], _ => rfl
  | .txt x :: r, h => by
    have h' : (plain x && okT r) = true := h
    rw [Bool.and_eq_true] at h'
    exact pcs_more (pcs_ren h'.2) (plain_no h'.1).1
  | .tag g :: r, h => by
    have h' : (plain g && okT r) = true := h
    rw [Bool.and_eq_true] at h'
    show pcs 60 (60 :: (g ++ 62 :: ren r)) = [] :: ((g ++ 62 :: lead r) :: (prs r).map _)
    rw [pcs_hit]
    have e : g ++ 62 :: ren r = (g ++ [62]) ++ ren r := by simp
    have e2 : g ++ 62 :: lead r = (g ++ [62]) ++ lead r := by simp
    rw [e, e2]
    refine congrArg _ (pcs_more (pcs_ren h'.2) ?_)
    intro hm
    rcases List.mem_append.mp hm with hm | hm
    · exact (plain_no h'.1).1 hm
    · exact absurd (List.mem_singleton.mp hm) (by decide)
theorem prs_len {ts : List Tk} (o : okT ts = true) {p : List Nat × List Nat} (h : p ∈ prs ts) : p.1.length + p.2.length + 1 ≤ (ren ts).length := by
  have e := pcs_ren o
  have := pcs_len 60 (ren ts) (p.1 ++ 62 :: p.2) (by rw [e]; exact List.mem_cons_of_mem _ (List.mem_map.mpr ⟨p, h, rfl⟩))
  rw [List.length_append, List.length_cons] at this
  omega
theorem okT_app : ∀ a b : List Tk, okT (a ++ b) = (okT a && okT b)
  | [], b => rfl
  | .txt x :: a, b => by
    show (plain x && okT (a ++ b)) = (plain x && okT a && okT b)
    rw [okT_app a b, Bool.and_assoc]
  | .tag g :: a, b => by
    show (plain g && okT (a ++ b)) = (plain g && okT a && okT b)
    rw [okT_app a b, Bool.and_assoc]
theorem ren_app : ∀ a b : List Tk, ren (a ++ b) = ren a ++ ren b
  | [], b => rfl
  | .txt x :: a, b => by
    show x ++ ren (a ++ b) = x ++ ren a ++ ren b
    rw [ren_app a b, List.append_assoc]
  | .tag g :: a, b => by
    show 60 :: (g ++ 62 :: ren (a ++ b)) = 60 :: (g ++ 62 :: ren a) ++ ren b
    rw [ren_app a b]
    simp
theorem runT_app : ∀ (a b : List Tk) (st s : List (List Nat)), runT st a = some s → runT st (a ++ b) = runT s b
  | [], b, st, s, h => by cases h; rfl
  | .txt x :: a, b, st, s, h => runT_app a b st s h
  | .tag g :: a, b, st, s, h => by
    have h' : (match stepG st g with | none => none | some s => runT s a) = some s := h
    show (match stepG st g with | none => none | some s => runT s (a ++ b)) = runT s b
    cases e : stepG st g with
    | none => rw [e] at h'; cases h'
    | some s1 =>
      rw [e] at h'
      exact runT_app a b s1 s h'
/-- each tag that opens closes, in its order -/
def Bal (t : List Nat) : Prop := ∃ ts, ren ts = t ∧ okT ts = true ∧ ∀ st, runT st ts = some st
theorem Bal.nil : Bal [] := ⟨[], rfl, rfl, fun _ => rfl⟩
theorem Bal.txt {x : List Nat} (h : plain x = true) : Bal x := ⟨[.txt x], List.append_nil _, by show (plain x && true) = true; rw [h]; rfl, fun _ => rfl⟩
theorem Bal.app {a b : List Nat} (h : Bal a) (g : Bal b) : Bal (a ++ b) := by
  obtain ⟨ts, e1, o1, r1⟩ := h
  obtain ⟨us, e2, o2, r2⟩ := g
  refine ⟨ts ++ us, by rw [ren_app, e1, e2], by rw [okT_app, o1, o2]; rfl, fun st => ?_⟩
  rw [runT_app _ _ st st (r1 st)]
  exact r2 st
theorem Bal.void {g : List Nat} (h : plain g = true) (n : nameL g ∈ voidL) (e : g.drop (g.length - 2) = [32, 47]) : Bal (60 :: (g ++ [62])) := by
  refine ⟨[.tag g], rfl, by show (plain g && true) = true; rw [h]; rfl, fun st => ?_⟩
  show (match stepG st g with | none => none | some s => some s) = some st
  unfold stepG
  rw [if_pos n, if_pos e]
theorem closeN {n : List Nat} (h : n ∈ pairL) : plain (47 :: n) = true ∧ nameL (47 :: n) = 47 :: n := (by decide +kernel : ∀ n ∈ pairL, plain (47 :: n) = true ∧ nameL (47 :: n) = 47 :: n) n h
theorem openN {n : List Nat} (h : n ∈ pairL) : n ∉ voidL ∧ n.take 1 ≠ [47] ∧ (47 :: n) ∉ voidL := (by decide +kernel : ∀ n ∈ pairL, n ∉ voidL ∧ n.take 1 ≠ [47] ∧ (47 :: n) ∉ voidL) n h
theorem Bal.wrap {g t n : List Nat} (ht : Bal t) (h : plain g = true) (en : nameL g = n) (hn : n ∈ pairL) : Bal (60 :: (g ++ [62]) ++ t ++ 60 :: (47 :: n ++ [62])) := by
  obtain ⟨ts, e1, o1, r1⟩ := ht
  obtain ⟨c1, c2⟩ := closeN hn
  obtain ⟨n1, n2, n3⟩ := openN hn
  refine ⟨.tag g :: (ts ++ [.tag (47 :: n)]), ?_, ?_, fun st => ?_⟩
  · show 60 :: (g ++ 62 :: ren (ts ++ [.tag (47 :: n)])) = _
    rw [ren_app, e1]
    show 60 :: (g ++ 62 :: (t ++ 60 :: (47 :: n ++ 62 :: []))) = _
    simp
  · show (plain g && okT (ts ++ [.tag (47 :: n)])) = true
    rw [h, okT_app, o1]
    show (true && (true && (plain (47 :: n) && true))) = true
    rw [c1]
    rfl
  · have s1 : stepG st g = some (st ++ [n]) := by
      unfold stepG
      rw [en, if_neg n1, if_neg n2, if_pos hn]
    show (match stepG st g with | none => none | some s => runT s (ts ++ [.tag (47 :: n)])) = some st
    rw [s1]
    show runT (st ++ [n]) (ts ++ [.tag (47 :: n)]) = some st
    rw [runT_app _ _ _ _ (r1 (st ++ [n]))]
    show (match stepG (st ++ [n]) (47 :: n) with | none => none | some s => some s) = some st
    have s2 : stepG (st ++ [n]) (47 :: n) = some st := by
      unfold stepG
      rw [c2, if_neg n3, if_pos (show List.take 1 (47 :: n) = [47] from rfl), if_pos ⟨by simp, rfl⟩]
      simp
    rw [s2]
/-! pages are so -/
theorem esc_plain (t : List Nat) : plain (escL t) = true := by
  unfold escL
  induction t with
  | nil => rfl
  | cons c r ih =>
    rw [List.flatMap_cons, plain_app, ih, Bool.and_true]
    unfold escC
    split
    · rfl
    split
    · rfl
    split
    · rfl
    split
    · rfl
    · rename_i h1 h2 h3 h4
      show ((c != 60 && c != 62) && true) = true
      simp [h2, h3]
theorem attr_plain {nm : String} (h : plain (cs nm) = true) (t : List Nat) : plain (attrP nm t) = true := by
  unfold attrP
  simp only [plain_app]
  rw [h, esc_plain]
  decide +kernel
theorem title_plain (t : Option (List Nat)) : plain (titleP t) = true := by
  cases t with
  | none => rfl
  | some t =>
    show plain (if t = [] then [] else attrP "title" t) = true
    split
    · rfl
    · exact attr_plain (by decide +kernel) t
theorem name_attr {n : List Nat} (h : 32 ∉ n) (nm : String) (t r : List Nat) : nameL (n ++ (attrP nm t ++ r)) = n := by
  unfold nameL attrP
  have e : cs " " = [32] := by decide +kernel
  rw [e]
  simp only [List.append_assoc]
  rw [List.takeWhile_append_of_pos fun c hc => by
    have : c ≠ 32 := fun e => h (by rw [← e]; exact hc)
    simpa using this]
  simp
theorem bal_em {t : List Nat} (h : Bal t) {n : List Nat} (hn : n ∈ pairL) : Bal (60 :: (n ++ [62]) ++ t ++ 60 :: (47 :: n ++ [62])) := h.wrap ((by decide +kernel : ∀ n ∈ pairL, plain n = true) n hn) ((by decide +kernel : ∀ n ∈ pairL, nameL n = n) n hn) hn
theorem bal_of {a b t n : List Nat} (h : Bal t) (hn : n ∈ pairL) (ea : a = 60 :: (n ++ [62])) (eb : b = 60 :: (47 :: n ++ [62])) : Bal (a ++ t ++ b) := by
  rw [ea, eb]
  exact bal_em h hn
theorem bal_nl : Bal [10] := .txt rfl
mutual
theorem bal_I : ∀ x : Inl, noI x = true → Bal (ip x)
  | .text t, _ => .txt (esc_plain t)
  | .code t, _ => bal_of (n := cs "code") (.txt (esc_plain t)) (by decide +kernel) (by decide +kernel) (by decide +kernel)
  | .html _, h => nomatch h
  | .soft, _ => .txt (by decide +kernel)
  | .hard, _ => by
    show Bal (cs "<br />\n")
    rw [show cs "<br />\n" = (60 :: (cs "br /" ++ [62])) ++ [10] by decide +kernel]
    exact (Bal.void (by decide +kernel) (by decide +kernel) (by decide +kernel)).app bal_nl
  | .emph r, h => bal_of (n := cs "em") (bal_R r h) (by decide +kernel) (by decide +kernel) (by decide +kernel)
  | .strong r, h => bal_of (n := cs "strong") (bal_R r h) (by decide +kernel) (by decide +kernel) (by decide +kernel)
  | .link d t r, h => by
    show Bal (cs "<a" ++ attrP "href" d ++ titleP t ++ cs ">" ++ rp r ++ cs "</a>")
    have e : cs "<a" ++ attrP "href" d ++ titleP t ++ cs ">" ++ rp r ++ cs "</a>" = 60 :: ((cs "a" ++ (attrP "href" d ++ titleP t)) ++ [62]) ++ rp r ++ 60 :: (47 :: cs "a" ++ [62]) := by
      rw [show cs "<a" = 60 :: cs "a" by decide +kernel, show cs ">" = [62] by decide +kernel, show cs "</a>" = 60 :: (47 :: cs "a" ++ [62]) by decide +kernel]
      simp only [List.append_assoc, List.cons_append]
    rw [e]
    exact (bal_R r h).wrap (by rw [plain_app, plain_app, attr_plain (by decide +kernel), title_plain]; decide +kernel) (name_attr (by decide +kernel) "href" d _) (by decide +kernel)
  | .image d t r, h => by
    show Bal (cs "<img" ++ attrP "src" d ++ attrP "alt" (rowW r) ++ titleP t ++ cs " />")
    have e : cs "<img" ++ attrP "src" d ++ attrP "alt" (rowW r) ++ titleP t ++ cs " />" = 60 :: ((cs "img" ++ (attrP "src" d ++ (attrP "alt" (rowW r) ++ titleP t ++ [32, 47]))) ++ [62]) := by
      rw [show cs "<img" = 60 :: cs "img" by decide +kernel, show cs " />" = [32, 47] ++ [62] by decide +kernel]
      simp only [List.append_assoc, List.cons_append]
    rw [e]
    refine Bal.void ?_ (by rw [name_attr (by decide +kernel)]; decide +kernel) ?_
    · rw [plain_app, plain_app, plain_app, plain_app, attr_plain (by decide +kernel), attr_plain (by decide +kernel), title_plain]
      decide +kernel
    · have e2 : cs "img" ++ (attrP "src" d ++ (attrP "alt" (rowW r) ++ titleP t ++ [32, 47])) = (cs "img" ++ attrP "src" d ++ attrP "alt" (rowW r) ++ titleP t) ++ [32, 47] := by simp only [List.append_assoc]
      rw [e2, List.length_append]
      show List.drop (_ + 2 - 2) _ = _
      rw [Nat.add_sub_cancel, List.drop_left]
theorem bal_R : ∀ r : List Inl, noR r = true → Bal (rp r)
  | [], _ => .nil
  | x :: r, h => by
    have h' : (noI x && noR r) = true := h
    rw [Bool.and_eq_true] at h'
    exact (bal_I x h'.1).app (bal_R r h'.2)
end
theorem head_of : ∀ l : Nat, 1 ≤ l → l ≤ 6 → cs "<h" ++ decN l ++ cs ">" = 60 :: ((cs "h" ++ decN l) ++ [62]) ∧ cs "</h" ++ decN l ++ cs ">\n" = 60 :: (47 :: (cs "h" ++ decN l) ++ [62]) ++ [10] ∧ (cs "h" ++ decN l) ∈ pairL := by
  intro l h1 h2
  have : ∀ l ∈ [1, 2, 3, 4, 5, 6], cs "<h" ++ decN l ++ cs ">" = 60 :: ((cs "h" ++ decN l) ++ [62]) ∧ cs "</h" ++ decN l ++ cs ">\n" = 60 :: (47 :: (cs "h" ++ decN l) ++ [62]) ++ [10] ∧ (cs "h" ++ decN l) ∈ pairL := by decide +kernel
  exact this l (by simp; omega)
theorem lang_of : ∀ i ∈ InfosL, plain (langP i) = true ∧ nameL (cs "code" ++ langP i) = cs "code" := by decide +kernel
theorem open_of2 : ∀ st ∈ StartsL, ∃ g n, openP st = 60 :: (g ++ [62]) ++ [10] ∧ closeP st = 60 :: (47 :: n ++ [62]) ++ [10] ∧ plain g = true ∧ nameL g = n ∧ n ∈ pairL := by
  intro st hst
  unfold StartsL at hst
  simp only [List.mem_cons, List.not_mem_nil, or_false] at hst
  rcases hst with rfl | rfl | rfl | rfl | rfl | rfl
  · exact ⟨cs "ul", cs "ul", by decide +kernel⟩
  · exact ⟨cs "ol" ++ attrP "start" (decN 0), cs "ol", by decide +kernel⟩
  · exact ⟨cs "ol", cs "ol", by decide +kernel⟩
  · exact ⟨cs "ol" ++ attrP "start" (decN 2), cs "ol", by decide +kernel⟩
  · exact ⟨cs "ol" ++ attrP "start" (decN 7), cs "ol", by decide +kernel⟩
  · exact ⟨cs "ol" ++ attrP "start" (decN 999999999), cs "ol", by decide +kernel⟩
theorem bal_bare (b : Blk) (h : noB b = true) : Bal (bareP b) := by
  cases b with
  | par r => exact bal_R r h
  | _ => exact .nil
theorem bal_nlP (acc : List Nat) (b : Bool) : Bal (nlP acc b) := by
  unfold nlP
  split
  · exact .nil
  · exact bal_nl
theorem tail_nl {a : List Nat} (h : Bal a) : Bal (a ++ [10]) := h.app bal_nl
mutual
theorem bal_B : ∀ b : Blk, noB b = true → gB b = true → sB b = true → Bal (bp b)
  | .quote bs, h, g, s => by
    show Bal (cs "<blockquote>\n" ++ bsP bs ++ cs "</blockquote>\n")
    have e : cs "<blockquote>\n" ++ bsP bs ++ cs "</blockquote>\n" = (60 :: (cs "blockquote" ++ [62]) ++ ([10] ++ bsP bs) ++ 60 :: (47 :: cs "blockquote" ++ [62])) ++ [10] := by
      rw [show cs "<blockquote>\n" = 60 :: (cs "blockquote" ++ [62]) ++ [10] by decide +kernel, show cs "</blockquote>\n" = 60 :: (47 :: cs "blockquote" ++ [62]) ++ [10] by decide +kernel]
      simp only [List.append_assoc, List.cons_append]
    rw [e]
    exact tail_nl (bal_em (bal_nl.app (bal_Bs bs h g s)) (by decide +kernel))
  | .list gg st t its, h, g, s => by
    have g' : (fitStart gg (optI st) && !its.isEmpty && gIts its) = true := g
    have s' : (decide (its.length ≤ 3) && StartsL.contains st && sIts its) = true := s
    simp only [Bool.and_eq_true] at g' s'
    obtain ⟨gt, n, e1, e2, e3, e4, e5⟩ := open_of2 st (by simpa using s'.1.2)
    show Bal (openP st ++ itsP t its ++ closeP st)
    have e : openP st ++ itsP t its ++ closeP st = (60 :: (gt ++ [62]) ++ ([10] ++ itsP t its) ++ 60 :: (47 :: n ++ [62])) ++ [10] := by
      rw [e1, e2]
      simp only [List.append_assoc, List.cons_append]
    rw [e]
    exact tail_nl ((bal_nl.app (bal_Its t its h g'.2 s'.2)).wrap e3 e4 e5)
  | .heading l r, h, g, s => by
    have g' : (decide (1 ≤ l) && decide (l ≤ 6) && gR false false r) = true := g
    simp only [Bool.and_eq_true, decide_eq_true_eq] at g'
    obtain ⟨e1, e2, e3⟩ := head_of l g'.1.1 g'.1.2
    show Bal (cs "<h" ++ decN l ++ cs ">" ++ rp r ++ cs "</h" ++ decN l ++ cs ">\n")
    have e : cs "<h" ++ decN l ++ cs ">" ++ rp r ++ cs "</h" ++ decN l ++ cs ">\n" = (60 :: ((cs "h" ++ decN l) ++ [62]) ++ rp r ++ 60 :: (47 :: (cs "h" ++ decN l) ++ [62])) ++ [10] := by
      have : cs "<h" ++ decN l ++ cs ">" ++ rp r ++ cs "</h" ++ decN l ++ cs ">\n" = (cs "<h" ++ decN l ++ cs ">") ++ rp r ++ (cs "</h" ++ decN l ++ cs ">\n") := by simp only [List.append_assoc]
      rw [this, e1, e2]
      simp only [List.append_assoc, List.cons_append]
    rw [e]
    exact tail_nl (bal_em (bal_R r h) e3)
  | .brk, _, _, _ => by
    show Bal (cs "<hr />\n")
    rw [show cs "<hr />\n" = (60 :: (cs "hr /" ++ [62])) ++ [10] by decide +kernel]
    exact (Bal.void (by decide +kernel) (by decide +kernel) (by decide +kernel)).app bal_nl
  | .code t i, _, _, s => by
    have s' : (decide (t.length ≤ 50) && InfosL.contains i) = true := s
    rw [Bool.and_eq_true] at s'
    obtain ⟨l1, l2⟩ := lang_of i (by simpa using s'.2)
    show Bal (cs "<pre><code" ++ langP i ++ cs ">" ++ escL t ++ cs "</code></pre>\n")
    have e : cs "<pre><code" ++ langP i ++ cs ">" ++ escL t ++ cs "</code></pre>\n" = (60 :: (cs "pre" ++ [62]) ++ (60 :: ((cs "code" ++ langP i) ++ [62]) ++ escL t ++ 60 :: (47 :: cs "code" ++ [62])) ++ 60 :: (47 :: cs "pre" ++ [62])) ++ [10] := by
      rw [show cs "<pre><code" = 60 :: (cs "pre" ++ [62]) ++ 60 :: cs "code" by decide +kernel, show cs ">" = [62] by decide +kernel, show cs "</code></pre>\n" = 60 :: (47 :: cs "code" ++ [62]) ++ (60 :: (47 :: cs "pre" ++ [62])) ++ [10] by decide +kernel]
      simp only [List.append_assoc, List.cons_append]
    rw [e]
    exact tail_nl (bal_em ((Bal.txt (esc_plain t)).wrap (by rw [plain_app, l1]; decide +kernel) l2 (by decide +kernel)) (by decide +kernel))
  | .html _, h, _, _ => nomatch h
  | .defn _ _ _, _, _, _ => .nil
  | .par r, h, _, _ => by
    show Bal (cs "<p>" ++ rp r ++ cs "</p>\n")
    have e : cs "<p>" ++ rp r ++ cs "</p>\n" = (60 :: (cs "p" ++ [62]) ++ rp r ++ 60 :: (47 :: cs "p" ++ [62])) ++ [10] := by
      rw [show cs "<p>" = 60 :: (cs "p" ++ [62]) by decide +kernel, show cs "</p>\n" = 60 :: (47 :: cs "p" ++ [62]) ++ [10] by decide +kernel]
      simp only [List.append_assoc, List.cons_append]
    rw [e]
    exact tail_nl (bal_em (bal_R r h) (by decide +kernel))
theorem bal_Bs : ∀ bs : List Blk, noBs bs = true → gBs bs = true → sBs bs = true → Bal (bsP bs)
  | [], _, _, _ => .nil
  | b :: bs, h, g, s => by
    have h' : (noB b && noBs bs) = true := h
    have g' : (gB b && gBs bs) = true := g
    have s' : (sB b && sBs bs) = true := s
    rw [Bool.and_eq_true] at h' g' s'
    exact (bal_B b h'.1 g'.1 s'.1).app (bal_Bs bs h'.2 g'.2 s'.2)
theorem bal_Its (t : Bool) : ∀ its : List (List Blk), noIts its = true → gIts its = true → sIts its = true → Bal (itsP t its)
  | [], _, _, _ => .nil
  | bs :: its, h, g, s => by
    have h' : (noBs bs && noIts its) = true := h
    have g' : (gBs bs && gIts its) = true := g
    have s' : (sBs bs && sIts its) = true := s
    rw [Bool.and_eq_true] at h' g' s'
    show Bal (itemP t (cs "<li>") true bs ++ cs "</li>\n" ++ itsP t its)
    refine Bal.app ?_ (bal_Its t its h'.2 g'.2 s'.2)
    obtain ⟨x, e, bx⟩ := bal_item t bs (cs "<li>") true h'.1 g'.1 s'.1
    rw [e]
    have e2 : cs "<li>" ++ x ++ cs "</li>\n" = (60 :: (cs "li" ++ [62]) ++ x ++ 60 :: (47 :: cs "li" ++ [62])) ++ [10] := by
      rw [show cs "<li>" = 60 :: (cs "li" ++ [62]) by decide +kernel, show cs "</li>\n" = 60 :: (47 :: cs "li" ++ [62]) ++ [10] by decide +kernel]
      simp only [List.append_assoc, List.cons_append]
    rw [e2]
    exact tail_nl (bal_em bx (by decide +kernel))
theorem bal_item (t : Bool) : ∀ (bs : List Blk) (acc : List Nat) (first : Bool), noBs bs = true → gBs bs = true → sBs bs = true → ∃ x, itemP t acc first bs = acc ++ x ∧ Bal x
  | [], acc, _, _, _, _ => ⟨[], (List.append_nil _).symm, .nil⟩
  | b :: bs, acc, first, h, g, s => by
    have h' : (noB b && noBs bs) = true := h
    have g' : (gB b && gBs bs) = true := g
    have s' : (sB b && sBs bs) = true := s
    rw [Bool.and_eq_true] at h' g' s'
    show ∃ x, (if isDefn b = true then itemP t acc first bs else itemP t (acc ++ nlP acc (t && isPar b && first) ++ (if (t && isPar b) = true then bareP b else bp b)) false bs) = acc ++ x ∧ Bal x
    split
    · exact bal_item t bs acc first h'.2 g'.2 s'.2
    · obtain ⟨x, e, bx⟩ := bal_item t bs (acc ++ nlP acc (t && isPar b && first) ++ (if (t && isPar b) = true then bareP b else bp b)) false h'.2 g'.2 s'.2
      refine ⟨nlP acc (t && isPar b && first) ++ (if (t && isPar b) = true then bareP b else bp b) ++ x, by rw [e]; simp only [List.append_assoc], ?_⟩
      refine ((bal_nlP _ _).app ?_).app bx
      split
      · exact bal_bare b h'.1
      · exact bal_B b h'.1 g'.1 s'.1
end
theorem runG_cut : ∀ (a b : List (List Nat × List Nat)) (st z : List (List Nat)), runG st (a ++ b) = some z → ∃ s, runG st a = some s ∧ runG s b = some z
  | [], b, st, z, h => ⟨st, rfl, h⟩
  | p :: a, b, st, z, h => by
    have h' : (match stepG st p.1 with | none => none | some s => runG s (a ++ b)) = some z := h
    cases e : stepG st p.1 with
    | none => rw [e] at h'; cases h'
    | some s1 =>
      rw [e] at h'
      obtain ⟨s, h1, h2⟩ := runG_cut a b s1 z h'
      refine ⟨s, ?_, h2⟩
      show (match stepG st p.1 with | none => none | some s => runG s a) = some s
      rw [e]
      exact h1
theorem runG_step {ps : List (List Nat × List Nat)} {i : Nat} {p : List Nat × List Nat} {st z : List (List Nat)} (h : runG [] ps = some z) (hp : ps[i]? = some p) (hs : runG [] (ps.take i) = some st) : ∃ s, stepG st p.1 = some s ∧ runG [] (ps.take (i + 1)) = some s := by
  have e : ps = ps.take (i + 1) ++ ps.drop (i + 1) := (List.take_append_drop _ _).symm
  rw [e] at h
  obtain ⟨s, h1, _⟩ := runG_cut _ _ _ _ h
  have e2 : ps.take (i + 1) = ps.take i ++ [p] := by rw [List.take_add_one, hp]; rfl
  refine ⟨s, ?_, h1⟩
  rw [e2] at h1
  obtain ⟨s1, h3, h4⟩ := runG_cut _ _ _ _ h1
  rw [hs] at h3
  cases h3
  have h5 : (match stepG st p.1 with | none => none | some s => some s) = some s := h4
  cases e3 : stepG st p.1 with
  | none => rw [e3] at h5; cases h5
  | some s1 => rw [e3] at h5; exact h5
theorem cutV_last {r : List V} {x : V} : cutV (r ++ [x]) (some (-1)) none = [x] := by
  unfold cutV
  rw [HT.sIx_none]
  have e : HT.sIx (r ++ [x]).length 0 (some (-1)) = r.length := by
    show (if (-1 : Int) < 0 then ((-1 : Int) + ((r ++ [x]).length : Int)).toNat else min (-1 : Int).toNat (r ++ [x]).length) = r.length
    rw [if_pos (by decide), List.length_append, List.length_singleton]
    omega
  rw [e, List.drop_left]
  simp
theorem cutV_tail {x : V} {r : List V} : cutV (x :: r) (some 1) none = r := by
  show cutV (x :: r) (some ((1 : Nat) : Int)) none = r
  unfold cutV
  rw [HT.sIx_none, HT.sIx_nat]
  have : min 1 (x :: r).length = 1 := Nat.min_eq_left (by simp)
  rw [this]
  simp
theorem S_take (l : List Nat) (k : Nat) : cutS (S l) none (some (k : Int)) = S (l.take k) := by
  unfold cutS
  rw [HT.sIx_none, HT.sIx_nat, S_len, S_tl]
  show S _ = S _
  congr 1
  rw [List.drop_zero, Nat.sub_zero]
  by_cases h : k ≤ l.length
  · rw [Nat.min_eq_left h]
  · rw [Nat.min_eq_right (by omega), List.take_length, List.take_of_length_le (by omega)]
theorem inV_S (n : List Nat) (ls : List (List Nat)) : inV (.str (S n)) (ls.map fun l => V.str (S l)) = decide (n ∈ ls) := by
  unfold inV
  rw [List.any_map]
  by_cases h : n ∈ ls
  · rw [decide_eq_true h, List.any_eq_true]
    exact ⟨n, h, by show (S n == S n) = true; simp⟩
  · rw [decide_eq_false h, List.any_eq_false]
    intro x hx e
    have e' : (S x == S n) = true := e
    exact h (by rw [← S_inj (eq_of_beq e')]; exact hx)
theorem flat_S (ls : List (List Nat)) : (ls.map fun l => V.str (S l)).all flatV = true := by
  rw [List.all_map, List.all_eq_true]
  intro x _
  rfl
theorem stepG_in {st s : List (List Nat)} {g : List Nat} (h : stepG st g = some s) (hs : ∀ n ∈ st, n ∈ pairL) : (∀ n ∈ s, n ∈ pairL) ∧ s.length ≤ st.length + 1 := by
  unfold stepG at h
  split at h
  · split at h
    · cases h
      exact ⟨hs, Nat.le_succ _⟩
    · cases h
  split at h
  · split at h
    · cases h
      exact ⟨fun n hn => hs n ((List.dropLast_sublist _).subset hn), by rw [List.length_dropLast]; omega⟩
    · cases h
  split at h
  · rename_i hp
    cases h
    refine ⟨fun n hn => ?_, by rw [List.length_append, List.length_singleton]; exact Nat.le_refl _⟩
    rcases List.mem_append.mp hn with hn | hn
    · exact hs n hn
    · rw [List.mem_singleton.mp hn]
      exact hp
  · cases h
theorem prs_many : ∀ ts : List Tk, (prs ts).length ≤ (ren ts).length
  | [] => Nat.le_refl _
  | .txt x :: r => by
    have := prs_many r
    show (prs r).length ≤ (x ++ ren r).length
    rw [List.length_append]
    omega
  | .tag g :: r => by
    have := prs_many r
    show (prs r).length + 1 ≤ (60 :: (g ++ 62 :: ren r)).length
    rw [List.length_cons, List.length_append, List.length_cons]
    omega
theorem pair_ok : ∀ n ∈ pairL, PyData.strOk (S n) = true := by decide +kernel
open PySem.Builtin.Str PySem.StrLaws in
theorem splitMax_one {g x : List Nat} (hg : 62 ∉ g) : Txt.splitMax (S (g ++ 62 :: x)) (S [62]) 1 = [S g, S x] := by
  have hl : (S (g ++ 62 :: x)).length = g.length + 1 + x.length := by
    rw [S_len, List.length_append, List.length_cons]
    omega
  have h1 : (S [62]).length = 1 := S_len _
  have k1 : Builtin.Str.strKind (S [62]) = 1 := by decide +kernel
  have k2 : ¬ Builtin.Str.strKind (S (g ++ 62 :: x)) < Builtin.Str.strKind (S [62]) := by
    rw [k1]
    unfold Builtin.Str.strKind
    split
    · decide
    split <;> decide
  have hs : ∀ k, subAt (S (g ++ 62 :: x)) (S [62]) k = decide ((g ++ 62 :: x)[k]? = some 62) := fun k => by
    rw [sub_S]
    cases e : (g ++ 62 :: x)[k]? with
    | none =>
      rw [List.drop_eq_nil_iff.mpr (List.getElem?_eq_none_iff.mp e)]
      decide
    | some c =>
      have hk := (List.getElem?_eq_some_iff.mp e).1
      have e2 := (List.getElem?_eq_some_iff.mp e).2
      rw [List.drop_eq_getElem_cons hk, e2]
      show ([c] == [62]) = decide (some c = some 62)
      by_cases hc : c = 62
      · subst hc
        decide
      · rw [decide_eq_false fun h => hc (Option.some.inj h)]
        simpa using hc
  have hat : At (S (g ++ 62 :: x)) (S [62]) (S (g ++ 62 :: x)).length g.length := ⟨by rw [hl, h1]; omega, by
    rw [hs, decide_eq_true]
    rw [List.getElem?_append_right (Nat.le_refl _), Nat.sub_self]
    rfl⟩
  have hno : ∀ k, k < g.length → ¬ At (S (g ++ 62 :: x)) (S [62]) (S (g ++ 62 :: x)).length k := fun k hk ⟨_, h⟩ => by
    rw [hs] at h
    have h := of_decide_eq_true h
    rw [List.getElem?_append_left hk] at h
    exact hg (List.mem_of_getElem? h)
  have ho : occurrences (S (g ++ 62 :: x)) (S [62]) 0 (S (g ++ 62 :: x)).length 1 = [g.length] := by
    rcases occ_head (S (g ++ 62 :: x)) (S [62]) 1 (Nat.le_refl _) with ⟨_, h⟩ | ⟨i, r, e, hi, hb⟩
    · exact absurd hat (h g.length)
    · have hl1 := occ_length_le (S (g ++ 62 :: x)) (S [62]) 0 (S (g ++ 62 :: x)).length 1
      rw [e, List.length_cons] at hl1
      have hr : r = [] := List.length_eq_zero_iff.mp (by omega)
      have h2 : i = g.length := by
        rcases Nat.lt_trichotomy i g.length with h | h | h
        · exact absurd hi (hno i h)
        · exact h
        · exact absurd hat (hb g.length h)
      rw [e, hr, h2]
  unfold Txt.splitMax
  have hlim : limitOf (S (g ++ 62 :: x)) 1 = 1 := by
    unfold limitOf
    rw [if_neg (by decide)]
    rfl
  rw [hlim, ho, decide_eq_false (by rw [hl, h1]; omega), decide_eq_false k2]
  rw [if_neg (by decide), if_neg (by simp)]
  unfold partsBetween strSub
  rw [hl, h1]
  show [(⟨(S (g ++ 62 :: x)).cps.extract 0 g.length⟩ : Str), ⟨(S (g ++ 62 :: x)).cps.extract (g.length + 1) (g.length + 1 + x.length)⟩] = _
  have e1 : (S (g ++ 62 :: x)).cps.extract 0 g.length = (S g).cps := by
    refine Array.toList_inj.mp ?_
    simp [S]
  have e2 : (S (g ++ 62 :: x)).cps.extract (g.length + 1) (g.length + 1 + x.length) = (S x).cps := by
    refine Array.toList_inj.mp ?_
    simp [S]
  rw [e1, e2]
end CL

/-! ### texts of data whatever guards stand -/
namespace My
open PySem PySem.Spec PyProof.Rows
open Sem (wp)
def lstF (self : Value) : Code × Pos → Bool := fun
  | (.builtin "list.__repr__.loop" ⟨v :: _, _⟩, _) => Builtin.List.listSameRef v self
  | _ => false
theorem lstF_off (self : Value) (c : Code) (p : Pos) (hc : c.isGuard = false) : lstF self (c, p) = false := by
  unfold lstF
  split
  · next v rest kw _ heq => cases heq; simp [Code.isGuard, guardIds] at hc
  · rfl
theorem lstF_pos (self : Value) (c : Code) (p : Pos) : lstF self (c, p) = lstF self (c, default) := by
  unfold lstF
  split
  · next v rest kw _ heq => cases heq; rfl
  · next h =>
    split
    · next v rest kw _ heq =>
      cases heq
      exact absurd rfl (h _ _ _ p)
    · rfl
section
variable {prog : Program} {w : World}
/-- a value's text, a function of the guards alone -/
def ReprG (prog : Program) (w : World) (h₀ : Heap) (d : Nat) (x : Value) (r : List Code → Str) : Prop :=
  ∀ (base : Nat) (A : Around) (g : List Code) (E : Value → Shared → Prop) (s : Shared) (Q : Str → Shared → Prop), base + (r g).length ≤ sizeLine → A.guards = some g → A.units + d < cLine → (∀ b o, h₀.get? b = some o → s.heap.get? b = some o) →
    (∀ h' tk, (∀ b o, s.heap.get? b = some o → h'.get? b = some o) → Q (r g) { s with heap := h', toks := tk }) → wpAny (model prog w) A (pyReprUnder base x) Q E s
theorem ReprG.of_is {x : Value} {t : Str} (h : ReprIs prog w x t) (h₀ : Heap) (d : Nat) : ReprG prog w h₀ d x fun _ => t :=
  fun base A _ E s Q hb _ _ _ hQ => h base hb A E s Q fun tk => hQ s.heap tk fun _ _ e => e
inductive AllG (prog : Program) (w : World) (h₀ : Heap) (d : Nat) : List Value → List (List Code → Str) → Prop
  | nil : AllG prog w h₀ d [] []
  | cons {x : Value} {r : List Code → Str} {l : List Value} {rs : List (List Code → Str)} : ReprG prog w h₀ d x r → AllG prog w h₀ d l rs → AllG prog w h₀ d (x :: l) (r :: rs)
theorem AllG.len {h₀ : Heap} {d : Nat} : ∀ {l : List Value} {rs : List (List Code → Str)}, AllG prog w h₀ d l rs → rs.length = l.length
  | _, _, .nil => rfl
  | _, _, .cons _ h => by rw [List.length_cons, List.length_cons, h.len]
theorem tupFoldG {A : Around} {E : Value → Shared → Prop} {h₀ : Heap} {d : Nat} {g : List Code} (hg : A.guards = some g) (hu : A.units + d < cLine) : ∀ (l : List Value) (rs : List (List Code → Str)) (acc : Array Str) (n : Nat) (s : Shared) (Q : (Array Str × Nat) → Shared → Prop), AllG prog w h₀ d l rs → n + piled (rs.map fun r => r g) ≤ sizeLine →
    (∀ b o, h₀.get? b = some o → s.heap.get? b = some o) → (∀ h' tk, (∀ b o, s.heap.get? b = some o → h'.get? b = some o) → Q ⟨acc ++ (rs.map fun r => r g).toArray, n + piled (rs.map fun r => r g)⟩ { s with heap := h', toks := tk }) →
    wpAny (model prog w) A (forIn l (⟨acc, n⟩ : (Array Str × Nat)) tupBody) Q E s := by
  intro l
  induction l with
  | nil =>
    intro rs acc n s Q hT _ _ h
    cases hT
    have h0 := h s.heap s.toks fun _ _ e => e
    rw [List.forIn_nil]
    exact wpAny_pure (by simpa [piled] using h0)
  | cons x l ih =>
    intro rs acc n s Q hT hn hk0 h
    cases hT with
    | cons hx hl =>
      rename_i r rs
      rw [List.map_cons, piled_cons] at hn
      rw [List.forIn_cons]
      refine wpAny_bind (wpAny_bind (hx (n + 1) _ _ _ _ _ (by omega) hg hu hk0 fun h' tk hkp => wpAny_pure ?_))
      refine ih rs (acc.push (r g)) (n + ((r g).length + 2)) _ Q hl (by omega) (fun b o e => hkp _ _ (hk0 _ _ e)) fun h'' tk' hk2 => ?_
      have h1 := h h'' tk' fun b o e => hk2 _ _ (hkp _ _ e)
      have e : n + piled ((r :: rs).map fun r => r g) = n + ((r g).length + 2) + piled (rs.map fun r => r g) := by rw [List.map_cons, piled_cons]; omega
      rw [e] at h1
      simpa using h1
def tupG (a : Addr) (c : Code) (rs : List (List Code → Str)) (g : List Code) : Str := if (g.any fun c => tupGuardF (.ref a) (c, default)) = true then "(...)" else tupleText (rs.map fun r => r (c :: g))
theorem own_tupG {h₀ : Heap} {d : Nat} {a : Addr} {o : Obj} {items : Array Value} {n : Nat} {rs : List (List Code → Str)}
    (ha : h₀.get? a = some o) (hd : o.data = .seq items n) (hT : AllG prog w h₀ d items.toList rs)
    {A : Around} {g : List Code} {s : Shared} {R : Result → Shared → Prop} {base : Nat} {id : String} {rest : List Value}
    (hcg : (Code.builtin id ⟨.ref a :: rest, []⟩).isGuard = true) (hcu : (A.under (.builtin id ⟨.ref a :: rest, []⟩)).units = A.units + 1)
    (hg : A.guards = some g) (hu : A.units + (d + 1) < cLine) (hk0 : ∀ b o, h₀.get? b = some o → s.heap.get? b = some o)
    (hR : ∀ h' u tk, (∀ b o, s.heap.get? b = some o → h'.get? b = some o) → R (.ok (.ret (.str (tupG a (.builtin id ⟨.ref a :: rest, []⟩) rs g) u))) { s with heap := h', toks := tk })
    (hsz : base + (tupG a (.builtin id ⟨.ref a :: rest, []⟩) rs g).length ≤ sizeLine) :
    wpOwn (model prog w) A (.builtin id ⟨.ref a :: rest, []⟩) (Builtin.tupleReprAt base ⟨[.ref a], []⟩) (fun fin s' => match fin with | .done f => R (.ok f) s' | .again c' => c'.quiet = true ∧ codeAny (model prog w) A c' R s') (fun e s' => R (.error e) s') s := by
  rw [tuple_repr_tree, tupleReprUnderWay_eq]
  refine wpOwn_bind (wpOwn_stackTailAny hg (tupGuardF_off _) (tupGuardF_pos _) ?_)
  unfold tupG at hR hsz
  cases hn : (g.any fun c => tupGuardF (.ref a) (c, default)) with
  | true =>
    rw [hn] at hR hsz
    rw [if_pos rfl] at hsz
    refine wpOwn_of_wpAny ?_
    show wpAny _ _ (do rule "tuple.repr.in-itself"; retStr "(...)") _ _ s
    refine wpAny_bind (wpAny_rule ?_)
    unfold retStr
    refine wpAny_bind (wpAny_mkStr (wpAny_pure ?_) (by omega))
    have h1 := hR s.heap s.toks (s.toks + 1) fun _ _ e => e
    rw [if_pos rfl] at h1
    exact h1
  | false =>
    rw [hn] at hR hsz
    rw [if_neg Bool.false_ne_true] at hsz
    have hlen : (rs.map fun r => r (.builtin id ⟨.ref a :: rest, []⟩ :: g)).length = items.size := by
      rw [List.length_map, hT.len]
      simp
    have hsz0 : (tupleText (rs.map fun r => r (.builtin id ⟨.ref a :: rest, []⟩ :: g))).length ≤ sizeLine := by omega
    have hp := piled_le_tupleText (rs.map fun r => r (.builtin id ⟨.ref a :: rest, []⟩ :: g))
    refine wpOwn_of_wpAny ?_
    show wpAny _ _ (tupleReprRest base (.ref a)) _ _ s
    unfold tupleReprRest Builtin.Tuple.tupleItemsOf
    refine wpAny_bind (wpAny_bind (wpAny_seqItems (hk0 _ _ ha) hd (wpAny_pure ?_)))
    rw [← Array.forIn_toList]
    refine wpAny_bind (tupFoldG (guards_under_guard hcg hg) (by rw [hcu]; omega) _ rs _ _ _ _ hT (by omega) hk0 fun h' tk hkp => ?_)
    refine wpAny_bind (wpAny_mkStr (wpAny_pure ?_) (by simpa [tupleText, hlen] using hsz0))
    have h1 := hR h' tk (tk + 1) hkp
    rw [if_neg Bool.false_ne_true] at h1
    simpa [tupleText, hlen] using h1
/-- a tuple within, of what has one text -/
def tupC (a : Addr) (ts : List Str) (g : List Code) : Str := if (g.any fun c => tupGuardF (.ref a) (c, default)) = true then "(...)" else tupleText ts
theorem tupC_eq (a : Addr) (c : Code) (ts : List Str) (g : List Code) : tupG a c (ts.map fun t _ => t) g = tupC a ts g := by
  unfold tupG tupC
  rw [List.map_map]
  have e : (ts.map ((fun r : List Code → Str => r (c :: g)) ∘ fun t _ => t)) = ts := by
    conv => rhs; rw [← List.map_id ts]
    rfl
  rw [e]
theorem ReprG.tup {h₀ : Heap} {d : Nat} {a : Addr} {o : Obj} {items : Array Value} {n : Nat} {ts : List Str} (ha : h₀.get? a = some o) (hc : o.cls = .type "tuple") (hd : o.data = .seq items n) (hT : AllG prog w h₀ d items.toList (ts.map fun t _ => t)) :
    ReprG prog w h₀ (d + 1) (.ref a) (tupC a ts) := fun base A g E s Q hz hg hu hk0 hQ =>
  wpAny_pyReprUnder_ref (by omega) (wpAny_pyReprObjUnder_twin (twin := "tuple.__repr__.under") ⟨o, hk0 _ _ ha, hc⟩ F.slot_tuple_repr rfl (by omega)
    (call_twin_own (F.quiet_tuple_repr_under _) F.entry_tuple_repr_under F.check_tuple_repr_under ⟨o, hk0 _ _ ha, hc⟩ F.slot_tuple_repr (F.args_tuple_repr_1 _)
      (own_tupG (R := callEnd _ E) ha hd hT (isGuard_tuple_repr_under _) (units_under_tuple_repr_under _ _) hg hu hk0 (fun h' u tk hk => by
        rw [tupC_eq]
        exact ⟨⟨_, _, rfl⟩, ⟨_, _, rfl, hQ h' tk hk⟩⟩) (by rw [tupC_eq]; exact hz))))
/-- a list within, of what has one text -/
def lstC (a : Addr) (ts : List Str) (g : List Code) : Str := if (g.any fun c => lstF (.ref a) (c, default)) = true then "[...]" else listText ts
theorem own_lst {h₀ : Heap} {d : Nat} {a : Addr} {oa : Obj} {x : Value} {l : List Value} {na : Nat} {ts : List Str}
    (ha : h₀.get? a = some oa) (hda : oa.data = .seq (x :: l).toArray na) (hlen : ts.length = (x :: l).toArray.size)
    (hT : ∀ (i : Nat) (y : Value), (x :: l).toArray[i]? = some y → ∃ t, ts[i]? = some t ∧ ReprIs prog w y t)
    {A : Around} {g : List Code} {s : Shared} {R : Result → Shared → Prop} {base : Nat} {c : Code}
    (hg : A.guards = some g) (hu : A.units + (d + 1) < cLine) (hk0 : ∀ b o, h₀.get? b = some o → s.heap.get? b = some o)
    (hR : ∀ h' u tk, (∀ b o, s.heap.get? b = some o → h'.get? b = some o) → R (.ok (.ret (.str (lstC a ts g) u))) { s with heap := h', toks := tk })
    (hsz : base + (lstC a ts g).length ≤ sizeLine) :
    wpOwn (model prog w) A c (Builtin.listReprAt base ⟨[.ref a], []⟩) (fun fin s' => match fin with | .done f => R (.ok f) s' | .again c' => c'.quiet = true ∧ codeAny (model prog w) A c' R s') (fun e s' => R (.error e) s') s := by
  have tree : Builtin.listReprAt base ⟨[.ref a], []⟩ = (do
    if (← Builtin.List.listItems (.ref a)).isEmpty then (do rule "list.__repr__.empty"; retStr "[]") else do
      if ← (do return (← stack).tail.any (lstF (.ref a))) then (do rule "list.__repr__.in-itself"; retStr "[...]") else (do again (.builtin "list.__repr__.loop" ⟨[.ref a, rawInt 0, ← newList [], rawInt base], []⟩))) := rfl
  rw [tree]
  have hPf : h₀.get? s.heap.objs.size = none := by
    cases e : h₀.get? s.heap.objs.size with
    | none => rfl
    | some o => exact absurd (Heap.lt_size (hk0 _ _ e)) (Nat.lt_irrefl _)
  refine wpOwn_bind (wpOwn_of_wpAny (wpAny_listItems (hk0 _ _ ha) hda ?_))
  have he : (x :: l).toArray.isEmpty = false := by simp
  rw [he]
  show wpOwn _ _ _ (do
      if ← (do return (← stack).tail.any (lstF (.ref a))) then (do rule "list.__repr__.in-itself"; retStr "[...]") else (do again (.builtin "list.__repr__.loop" ⟨[.ref a, rawInt 0, ← newList [], rawInt base], []⟩))) _ _ s
  refine wpOwn_bind (wpOwn_stackTailAny hg (lstF_off _) (lstF_pos _) ?_)
  unfold lstC at hR hsz
  cases hn : (g.any fun c => lstF (.ref a) (c, default)) with
  | true =>
    rw [hn] at hR hsz
    rw [if_pos rfl] at hsz
    refine wpOwn_of_wpAny ?_
    show wpAny _ _ (do rule "list.__repr__.in-itself"; retStr "[...]") _ _ s
    refine wpAny_bind (wpAny_rule ?_)
    unfold retStr
    refine wpAny_bind (wpAny_mkStr (wpAny_pure ?_) (by omega))
    have h1 := hR s.heap s.toks (s.toks + 1) fun _ _ e => e
    rw [if_pos rfl] at h1
    exact h1
  | false =>
    rw [hn] at hR hsz
    rw [if_neg Bool.false_ne_true] at hsz
    refine wpOwn_of_wpAny ?_
    show wpAny _ _ (do again (.builtin "list.__repr__.loop" ⟨[.ref a, rawInt 0, ← newList [], rawInt base], []⟩)) _ _ s
    refine wpAny_bind (m := newList []) (wpAny_newObj_type ?_)
    refine wpAny_pure ⟨F.quiet_list_repr_loop _, ?_⟩
    refine codeAny_list_repr_loopK (P := s.heap.objs.size) (as := []) (d := d) (Nat.ne_of_lt (Heap.lt_size (hk0 _ _ ha))) hg (fun b hb => nomatch hb) hu (fun hb => nomatch hb) hPf hlen (fun i y e => by
      obtain ⟨t, e1, e2⟩ := hT i y e
      exact ⟨t, e1, ReprK.of_is e2 _ _ _⟩) hsz _ 0 _ oa na #[] _ [] rfl (Nat.zero_le _)
      (fun b o e => Heap.get?_push_of_some _ (hk0 _ _ e)) (Heap.get?_push_of_some _ (hk0 _ _ ha)) hda (Heap.get?_push_size _ rfl) rfl (by simp) fun h' u tk hk => ?_
    have h1 := hR h' u tk fun b o e => hk b o (Nat.ne_of_lt (Heap.lt_size e)) (Heap.get?_push_of_some _ e)
    rw [if_neg Bool.false_ne_true] at h1
    exact h1
theorem quiet_list_under (args : Args) : (Code.builtin "list.__repr__.under" args).quiet = true := Code.quiet_builtin args (by decide +kernel)
theorem ReprG.lst {h₀ : Heap} {d : Nat} {a : Addr} {oa : Obj} {x : Value} {l : List Value} {na : Nat} {ts : List Str}
    (ha : h₀.get? a = some oa) (hc : oa.cls = .type "list") (hda : oa.data = .seq (x :: l).toArray na) (hlen : ts.length = (x :: l).toArray.size)
    (hT : ∀ (i : Nat) (y : Value), (x :: l).toArray[i]? = some y → ∃ t, ts[i]? = some t ∧ ReprIs prog w y t) :
    ReprG prog w h₀ (d + 1) (.ref a) (lstC a ts) := fun base A g E s Q hz hg hu hk0 hQ =>
  wpAny_pyReprUnder_ref (by omega) (wpAny_pyReprObjUnder_twin (twin := "list.__repr__.under") ⟨oa, hk0 _ _ ha, hc⟩ F.slot_list_repr.toG rfl (by omega)
    (call_twin_own (quiet_list_under _) F.entry_list_repr_under F.check_list_repr_under ⟨oa, hk0 _ _ ha, hc⟩ F.slot_list_repr.toG (F.args_list_repr_1 _)
      (own_lst (R := callEnd _ E) (d := d) ha hda hlen hT hg hu hk0 (fun h' u tk hk => ⟨⟨_, _, rfl⟩, ⟨_, _, rfl, hQ h' tk hk⟩⟩) hz)))
theorem ReprG.lst0 {h₀ : Heap} {d : Nat} {a : Addr} {oa : Obj} {na : Nat} (ha : h₀.get? a = some oa) (hc : oa.cls = .type "list") (hda : oa.data = .seq #[] na) : ReprG prog w h₀ d (.ref a) fun _ => "[]" := fun base A g E s Q hz hg hu hk0 hQ =>
  wpAny_pyReprUnder_ref (by omega) (wpAny_pyReprObjUnder_list_empty ⟨oa, hk0 _ _ ha, hc⟩ (by omega) (hk0 _ _ ha) hda ⟨_, _, rfl, hQ s.heap _ fun _ _ e => e⟩)
/-- repr(a), a a tuple -/
theorem call_reprG {h₀ : Heap} {d : Nat} {a : Addr} {o : Obj} {items : Array Value} {n : Nat} {rs : List (List Code → Str)} (ha : h₀.get? a = some o) (hc : o.cls = .type "tuple") (hd : o.data = .seq items n) (hT : AllG prog w h₀ d items.toList rs)
    {A : Around} {g : List Code} {E : Value → Shared → Prop} {s : Shared} {Q : Value → Shared → Prop}
    (hg : A.guards = some g) (hu : A.units + (d + 2) < cLine) (hk0 : ∀ b o, h₀.get? b = some o → s.heap.get? b = some o)
    (hQ : ∀ h' u tk, (∀ b o, s.heap.get? b = some o → h'.get? b = some o) → Q (.str (tupG a (.builtin "tuple.__repr__" ⟨[.ref a], []⟩) rs g) u) { s with heap := h', toks := tk })
    (hsz : (tupG a (.builtin "tuple.__repr__" ⟨[.ref a], []⟩) rs g).length ≤ sizeLine) :
    wpAny (model prog w) A (call (.builtin "repr") [.ref a]) Q E s := by
  refine call_repr_slot (by omega) ⟨o, hk0 _ _ ha, hc⟩ F.slot_tuple_repr ?_
  exact wpAny_call (codeAny_call_builtin_own (Code.quiet_builtin _ (by decide +kernel)) F.entry_tuple_repr (F.slot_tuple_repr.check _ _ _ _ _ _ _ _ ⟨o, hk0 _ _ ha, hc⟩ (F.args_tuple_repr_1 _)
    (own_tupG (base := 0) (R := callEnd _ E) ha hd hT (isGuard_tuple_repr _) (units_under_tuple_repr _ _) hg (by show A.units + 1 + (d + 1) < cLine; omega) hk0 (fun h' u tk hk => ⟨_, _, rfl, hQ h' u tk hk⟩) (by omega))))
end
end My
namespace My
open PySem PySem.Spec PyProof.Rows L2
theorem strs_allG {prog : Program} {w : World} {h₀ : Heap} {d : Nat} : ∀ {ls : List Str} {us : List Value}, Vals (ls.map V.str) us → (∀ t ∈ ls, (reprText t).length ≤ sizeLine) → AllG prog w h₀ d us ((ls.map reprText).map fun t _ => t)
  | [], _, .nil, _ => .nil
  | t :: ls, _, .cons r rs, h => by
    obtain ⟨k, rfl⟩ := _root_.id r
    exact .cons (ReprG.of_is (ReprIs.str t k (h t (List.mem_cons_self ..))) _ _) (strs_allG rs fun x hx => h x (List.mem_cons_of_mem _ hx))
theorem strs_at {prog : Program} {w : World} : ∀ {ls : List Str} {us : List Value}, Vals (ls.map V.str) us → (∀ t ∈ ls, (reprText t).length ≤ sizeLine) → ∀ (i : Nat) (y : Value), us[i]? = some y → ∃ t, (ls.map reprText)[i]? = some t ∧ ReprIs prog w y t
  | [], _, .nil, _, i, y, e => by simp at e
  | t :: ls, _, .cons r rs, h, 0, y, e => by
    obtain ⟨k, rfl⟩ := _root_.id r
    cases e
    exact ⟨_, rfl, ReprIs.str t k (h t (List.mem_cons_self ..))⟩
  | t :: ls, _, .cons r rs, h, i + 1, y, e => strs_at rs (fun x hx => h x (List.mem_cons_of_mem _ hx)) i y e
def moreG (b : Addr) (lst : Bool) (ls : List Str) : List Code → Str := if lst = true then (if ls = [] then fun _ => "[]" else lstC b (ls.map reprText)) else tupC b (ls.map reprText)
def edT (g : List Code) (a b : Addr) (lst : Bool) (i j : Int) (ls : List Str) : Str := tupG a (.builtin "tuple.__repr__" ⟨[.ref a], []⟩) [fun _ => Str.ofString (toString i), fun _ => Str.ofString (toString j), moreG b lst ls] g
def rRepr (K : PySem.W.Frag) (g : List Code) : List V → Hp → VK → Prop := fun xs H Q => ∃ (a b : Addr) (i j : Int) (lst : Bool) (ls : List Str), xs = [.ref a] ∧ SqT K H a [.int i, .int j, .ref b] ∧ (if lst = true then SqL K H b (ls.map V.str) else SqT K H b (ls.map V.str)) ∧ i.natAbs.log2 < 1920 ∧ j.natAbs.log2 < 1920 ∧
  (∀ t ∈ ls, (reprText t).length ≤ sizeLine) ∧ (edT g a b lst i j ls).length ≤ sizeLine ∧ Q (.str (edT g a b lst i j ls)) H
theorem call_repr_ed {X : Cx} {g : List Code} (hg : X.A.guards = some g) (hu : X.A.units + 20 < cLine) : CallR X (.builtin "repr") (rRepr X.K g) := by
  intro pins s σ H xs us Q I r h
  obtain ⟨a, b, i, j, lst, ls, rfl, ha, hb, hi, hj, hls, hsz, q⟩ := h
  obtain ⟨u, rfl, rx⟩ := vals1 r
  cases rx
  obtain ⟨its, r', pl, hz⟩ := I.tuple ha
  obtain ⟨o, e1, e2, n, e3⟩ := pl
  cases r' with
  | cons r1 r' => cases r' with
    | cons r2 r' => cases r' with
      | cons r3 r' =>
        cases r'
        obtain ⟨k1, rfl⟩ := _root_.id r1
        obtain ⟨k2, rfl⟩ := _root_.id r2
        cases r3
        have hm : ReprG X.prog X.w s.heap 2 (.ref b) (moreG b lst ls) := by
          unfold moreG
          cases lst with
          | true =>
            rw [if_pos rfl] at hb ⊢
            obtain ⟨its2, r2, ⟨ob, nb, f1, f2, f3, f4⟩, _⟩ := I.list hb
            cases ls with
            | nil =>
              cases r2
              rw [if_pos rfl]
              exact ReprG.lst0 f1 f2 f4
            | cons t ls =>
              cases its2 with
              | nil => cases r2
              | cons x l =>
                rw [if_neg (by simp)]
                refine ReprG.lst (d := 1) f1 f2 f4 (by have := r2.length; simpa using this) fun i y e => strs_at r2 hls i y (by simpa using e)
          | false =>
            rw [if_neg Bool.false_ne_true] at hb ⊢
            obtain ⟨its2, r2, ⟨ob, f1, f2, nb, f3⟩, _⟩ := I.tuple hb
            exact ReprG.tup (d := 1) f1 f2 f3 (strs_allG r2 hls)
        refine call_reprG (d := 2) e1 e2 e3 (.cons (ReprG.of_is (ReprIs.int k1 hi) _ _) (.cons (ReprG.of_is (ReprIs.int k2 hj) _ _) (.cons hm .nil))) hg (by omega) (fun _ _ e => e) (fun h' u tk hk => ?_) hsz
        exact ⟨.str (edT g a b lst i j ls), H, I.kept hk, ⟨u, rfl⟩, q⟩
/-! ### code that is not reached; code under known guards -/
theorem pss_dead {X : Cx} {b : List Stmt} : PSs X b (fun _ _ _ => False) := ⟨fun _ _ _ _ _ _ h => h.elim⟩
theorem ps_dead {X : Cx} {b : Stmt} : PS X b (fun _ _ _ => False) := ⟨fun _ _ _ _ _ _ h => h.elim⟩
def Around.withG (A : Around) (g : List Code) : Around := { A with guards := some g }
def CxG (X : Cx) (g : List Code) : Cx := { X with A := { X.A with guards := some g } }
theorem okG {X : Cx} {g : List Code} (I : X.Ok) : (CxG X g).Ok := ⟨I.mod, I.kind, I.glob, I.blt, I.above, I.inj, I.has, I.cab, I.hd, I.frames, I.stk, I.exf, I.bs, I.bsz, I.noex, I.exfs, I.funs, I.frf⟩
theorem okG' {X : Cx} {g : List Code} (I : (CxG X g).Ok) : X.Ok := ⟨I.mod, I.kind, I.glob, I.blt, I.above, I.inj, I.has, I.cab, I.hd, I.frames, I.stk, I.exf, I.bs, I.bsz, I.noex, I.exfs, I.funs, I.frf⟩
theorem invG {X : Cx} {g : List Code} {pins : List (Addr × Obj)} {σ : L2.St} {H : Hp} {s : Shared} (I : Inv X pins σ H s) : Inv (CxG X g) pins σ H s := ⟨okG I.ok, I.os, I.bare, I.base, I.loc, I.cell, I.free, I.freeC, I.pin, I.hok, I.len⟩
theorem invG' {X : Cx} {g : List Code} {pins : List (Addr × Obj)} {σ : L2.St} {H : Hp} {s : Shared} (I : Inv (CxG X g) pins σ H s) : Inv X pins σ H s := ⟨okG' I.ok, I.os, I.bare, I.base, I.loc, I.cell, I.free, I.freeC, I.pin, I.hok, I.len⟩
theorem pss_guards {X : Cx} {b : List Stmt} {t : List Code → TS} (h : ∀ g, PSs (CxG X g) b (t g)) : PSs X b (fun D σ H => ∀ g, t g D σ H) := ⟨fun pins s σ H D I ht Γ p hΓ => by
  have h1 := (h (Γ.code.guards ++ guardsOf Γ.below)).run pins s σ H D (invG I) (ht _)
  have h2 : wpAny (model X.prog X.w) (CxG X (Γ.code.guards ++ guardsOf Γ.below)).A (execs b X.env) (SP X pins D) X.xe s := wpAny_mono h1 (fun f s' hf => by
    cases f with
    | next => obtain ⟨σ', H', J, q⟩ := hf; exact ⟨σ', H', invG' J, q⟩
    | brk => obtain ⟨σ', H', J, q⟩ := hf; exact ⟨σ', H', invG' J, q⟩
    | cont => obtain ⟨σ', H', J, q⟩ := hf; exact ⟨σ', H', invG' J, q⟩
    | ret u => obtain ⟨v, σ', H', J, r, q⟩ := hf; exact ⟨v, σ', H', invG' J, r, q⟩) fun e s' he => he
  exact h2 Γ p ⟨hΓ.1, hΓ.2.1, hΓ.2.2.1, fun g hg => by cases hg; rfl, hΓ.2.2.2.2⟩⟩
theorem roomG {k : Nat} {A : Around} {g : List Code} (r : Room k A) : Room k { A with guards := some g } := ⟨r.hd, r.dp, r.un⟩
theorem room_20 {k : Nat} {A : Around} (r : Room k A) : A.units + 20 < cLine := by
  have := r.un
  omega
theorem pi_or {X : Cx} {tg : Expr} {l : Expr} {t1 t2 : TI} (h1 : PI X tg l t1) (h2 : PI X tg l t2) : PI X tg l (fun σ H R => t1 σ H R ∨ t2 σ H R) := ⟨fun pins s σ H R I h => h.elim (h1.run pins s σ H R I) (h2.run pins s σ H R I)⟩
end My

namespace My
open PySem PySem.Spec PyProof.Rows L2
/-! ### list(zip(a list, a text)): zip whose tuples stay out -/
section
variable {prog : Program} {w : World} {A : Around} {E : Value → Shared → Prop} {s : Shared}
variable {fp1 fp2 : List Addr} {n1 n2 : Nat} {P1 P2 : Nat → Value → Prop} {St1 St2 : Nat → Heap → Prop} {z TI TO i1 i2 T : Addr} {f : Bool} {oT : Obj} {i : Nat}
theorem zipD2_item_held {Q : Value → Shared → Prop} (S : ZipSep2 z TI TO i1 i2 fp1 fp2) (D1 : Draws prog w A i1 fp1 n1 P1 St1) (D2 : Draws prog w A i2 fp2 n2 P2 St2)
    (hz : IsZipHeld s.heap z TI TO T f) (hT : s.heap.get? T = some oT) (hTI : IsTupOf2 s.heap TI (.ref i1) (.ref i2)) (st1 : St1 i s.heap) (st2 : St2 i s.heap) (hlt1 : i < n1) (hlt2 : i < n2)
    (hQ : ∀ x1 x2 h' tk, P1 i x1 → P2 i x2 → IsZipHeld h' z TI TO T true → St1 (i + 1) h' → St2 (i + 1) h' → IsTupOf2 h' s.heap.objs.size x1 x2 →
      (∀ c o, c ≠ z → c ≠ i1 → c ≠ i2 → s.heap.get? c = some o → h'.get? c = some o) → Q (.ref s.heap.objs.size) { s with heap := h', toks := tk }) :
    wpAny (model prog w) A (Builtin.«zip.__next__» ⟨[.ref z], []⟩) (fun fin s' => ∃ v, fin = .done (.ret v) ∧ Q v s') E s := by
  obtain ⟨hp, g, d, tk0, os⟩ := s
  show wpAny _ _ (field (.ref z) 2 >>= _) _ _ _
  refine wpAny_bind (wpAny_field hz rfl (x := .bool false) rfl ?_)
  show wpAny _ _ (field (.ref z) 3 >>= _) _ _ _
  refine wpAny_bind (wpAny_field hz rfl (x := .ref TI) rfl ?_)
  refine wpAny_bind (wpAny_seqItems hTI rfl ?_)
  show wpAny _ _ (Builtin.SmallTypes.ownedTupleIsFree (.ref z) >>= _) _ _ _
  refine wpAny_bind (wpAny_tupleHeld_zip hz hT fun g0 hz0 hs0 => ?_)
  replace hs0 : Heap.SameBut z hp g0 := hs0
  simp only [Bool.false_eq_true, if_false]
  refine wpAny_bind ?_
  rw [← Array.forIn_toList]
  simp only [List.forIn_cons, List.forIn_nil]
  refine wpAny_bind (wpAny_bind (wpAny_holding ?_))
  show wpAny _ _ (Builtin.SmallTypes.nextOf (.ref i1) >>= _) _ _ ⟨g0, g, d, tk0, os⟩
  refine wpAny_bind (D1.item i _ _ _ hlt1 (D1.over st1 hs0 S.zf1) fun x1 p1 tk1 hx1 sn1 hp1 => wpAny_pure ?_)
  replace hp1 : Heap.SameBut i1 g0 p1 := hp1
  refine wpAny_pure ?_
  refine wpAny_bind (wpAny_bind (wpAny_holding ?_))
  show wpAny _ _ (Builtin.SmallTypes.nextOf (.ref i2) >>= _) _ _ ⟨p1, g, d, tk1, os⟩
  refine wpAny_bind (D2.item i _ _ _ hlt2 (D2.over (D2.over st2 hs0 S.zf2) hp1 S.sep1_2) fun x2 p2 tk2 hx2 sn2 hp2 => wpAny_pure ?_)
  replace hp2 : Heap.SameBut i2 p1 p2 := hp2
  refine wpAny_pure (wpAny_pure ?_)
  show wpAny _ _ (newTuple [x1, x2] >>= _) _ _ _
  refine wpAny_bind (wpAny_newTuple ?_)
  have hsz : p2.objs.size = hp.objs.size := by rw [hp2.1, hp1.1, hs0.1]
  have hz3 : IsZipHeld p2 z TI TO T true := hp2.extBut _ _ S.zi2 (hp1.extBut _ _ S.zi1 hz0)
  have hk : ∀ c o, c ≠ z → c ≠ i1 → c ≠ i2 → hp.get? c = some o → p2.get? c = some o := fun c o c1 c2 c3 e => hp2.extBut _ _ c3 (hp1.extBut _ _ c2 (hs0.extBut _ _ c1 e))
  refine wpAny_pure ⟨_, rfl, ?_⟩
  show Q (.ref p2.objs.size) ⟨p2.push { cls := .type "tuple", data := .seq #[x1, x2] }, g, d, tk2, os⟩
  have hT3 : IsTupOf2 (p2.push { cls := .type "tuple", data := .seq #[x1, x2] }) p2.objs.size x1 x2 := Heap.get?_push_size _ rfl
  rw [hsz] at hT3 ⊢
  exact hQ x1 x2 _ tk2 hx1 hx2 (Heap.get?_push_of_some _ hz3) (D1.frame _ _ _ (D1.over sn1 hp2 S.sep2_1) fun b _ o e => Heap.get?_push_of_some _ e) (D2.frame _ _ _ sn2 fun b _ o e => Heap.get?_push_of_some _ e) hT3 fun c o c1 c2 c3 e => Heap.get?_push_of_some _ (hk c o c1 c2 c3 e)
theorem zipD2_end_held {Q : Fin → Shared → Prop} (S : ZipSep2 z TI TO i1 i2 fp1 fp2) (D1 : Draws prog w A i1 fp1 n1 P1 St1)
    (hz : IsZipHeld s.heap z TI TO T f) (hT : s.heap.get? T = some oT) (hTI : IsTupOf2 s.heap TI (.ref i1) (.ref i2)) (st1 : St1 n1 s.heap)
    (hE : ∀ h' e, (∀ c o, c ≠ z → c ≠ i1 → c ≠ i2 → s.heap.get? c = some o → h'.get? c = some o) → (∃ o, h'.get? e = some o ∧ o.cls = .type "StopIteration") → E (.ref e) { s with heap := h' }) :
    wpAny (model prog w) A (Builtin.«zip.__next__» ⟨[.ref z], []⟩) Q E s := by
  obtain ⟨hp, g, d, tk0, os⟩ := s
  show wpAny _ _ (field (.ref z) 2 >>= _) _ _ _
  refine wpAny_bind (wpAny_field hz rfl (x := .bool false) rfl ?_)
  show wpAny _ _ (field (.ref z) 3 >>= _) _ _ _
  refine wpAny_bind (wpAny_field hz rfl (x := .ref TI) rfl ?_)
  refine wpAny_bind (wpAny_seqItems hTI rfl ?_)
  show wpAny _ _ (Builtin.SmallTypes.ownedTupleIsFree (.ref z) >>= _) _ _ _
  refine wpAny_bind (wpAny_tupleHeld_zip hz hT fun g0 hz0 hs0 => ?_)
  replace hs0 : Heap.SameBut z hp g0 := hs0
  simp only [Bool.false_eq_true, if_false]
  refine wpAny_bind ?_
  rw [← Array.forIn_toList]
  simp only [List.forIn_cons, List.forIn_nil]
  refine wpAny_bind (wpAny_bind (wpAny_holding ?_))
  show wpAny _ _ (Builtin.SmallTypes.nextOf (.ref i1) >>= _) _ _ ⟨g0, g, d, tk0, os⟩
  refine wpAny_bind (D1.done ⟨g0, g, d, tk0, os⟩ _ _ (D1.over st1 hs0 S.zf1) fun q e hq he => ?_)
  replace hq : Heap.ExtBut i1 g0 q := hq
  exact hE q e (fun c o c1 c2 _ x => hq _ _ c2 (hs0.extBut _ _ c1 x)) he
theorem pyNext_zip_held {Q : Option Value → Shared → Prop} (S : ZipSep2 z TI TO i1 i2 fp1 fp2) (D1 : Draws prog w A.in1 i1 fp1 n1 P1 St1) (D2 : Draws prog w A.in1 i2 fp2 n2 P2 St2)
    (hz : IsZipHeld s.heap z TI TO T f) (hT : s.heap.get? T = some oT) (hTI : IsTupOf2 s.heap TI (.ref i1) (.ref i2)) (st1 : St1 i s.heap) (st2 : St2 i s.heap) (hlt1 : i < n1) (hlt2 : i < n2)
    (hQ : ∀ x1 x2 h' tk, P1 i x1 → P2 i x2 → IsZipHeld h' z TI TO T true → St1 (i + 1) h' → St2 (i + 1) h' → IsTupOf2 h' s.heap.objs.size x1 x2 →
      (∀ c o, c ≠ z → c ≠ i1 → c ≠ i2 → s.heap.get? c = some o → h'.get? c = some o) → Q (some (.ref s.heap.objs.size)) { s with heap := h', toks := tk }) :
    wpAny (model prog w) A (pyNext (.ref z)) Q E s := by
  have hTy : s.TypeIs (.ref z) "zip" := ⟨_, hz, rfl⟩
  unfold pyNext
  exact wpAny_bind (wpAny_attempt (wpAny_callSpecial?_slot (name := Str.ofString "__next__") hTy F.slot_zip_next
    (wpAny_call_entry F.slot_zip_next hTy F.entry_zip_next
      (zipD2_item_held S D1 D2 hz hT hTI st1 st2 hlt1 hlt2 fun x1 x2 h' tk y1 y2 b1 d1 d2 b5 b7 => wpAny_pure (hQ x1 x2 h' tk y1 y2 b1 d1 d2 b5 b7)) (F.args_zip_next_1 _))))
theorem pyNext_zip_held_end {Q : Option Value → Shared → Prop} (S : ZipSep2 z TI TO i1 i2 fp1 fp2) (D1 : Draws prog w A.in1 i1 fp1 n1 P1 St1)
    (hz : IsZipHeld s.heap z TI TO T f) (hT : s.heap.get? T = some oT) (hTI : IsTupOf2 s.heap TI (.ref i1) (.ref i2)) (st1 : St1 n1 s.heap)
    (hQ : ∀ h', (∀ c o, c ≠ z → c ≠ i1 → c ≠ i2 → s.heap.get? c = some o → h'.get? c = some o) → Q none { s with heap := h' }) : wpAny (model prog w) A (pyNext (.ref z)) Q E s := by
  have hTy : s.TypeIs (.ref z) "zip" := ⟨_, hz, rfl⟩
  unfold pyNext
  refine wpAny_bind (wpAny_attempt (wpAny_callSpecial?_slot (name := Str.ofString "__next__") hTy F.slot_zip_next
    (wpAny_call_entry F.slot_zip_next hTy F.entry_zip_next (zipD2_end_held S D1 hz hT hTI st1 fun h' e hk he => ?_) (F.args_zip_next_1 _))))
  obtain ⟨o, ho, hc⟩ := he
  refine wpAny_bind (wpAny_isInstance (T := "StopIteration") (b := true) ⟨o, ho, hc⟩ isSubtype_stop ?_)
  exact wpAny_pure (hQ _ hk)
end
end My
namespace My
open PySem PySem.Spec PyProof.Rows L2
theorem ne_of_none' {H : Hp} {a b : Addr} {o : HO} (h : H a = some o) (n : H b = none) : b ≠ a := fun e => by rw [e, h] at n; cases n
theorem zip_no_len : typeLookup (.type "zip") "__len__" = pure none := by rw [typeLookup_type, builtinLookup_eq_fast]; kernel_rfl
theorem zip_no_hint : typeLookup (.type "zip") "__length_hint__" = pure none := by rw [typeLookup_type, builtinLookup_eq_fast]; kernel_rfl
/-- how zip's last tuple stands ahead of the i-th turn -/
def ZLast (h : Heap) (z TI TO i1 i2 L : Addr) : Nat → Prop
  | 0 => IsZip h z TI TO .none
  | _ + 1 => ∃ (T : Addr) (f : Bool) (oT : Obj), IsZipHeld h z TI TO T f ∧ h.get? T = some oT ∧ T ≠ z ∧ T ≠ L ∧ T ≠ i1 ∧ T ≠ i2
/-- the tuples that were made -/
def MadeT (H0 H : Hp) (xs : List V) (cs : List Nat) (Ts : List Addr) : Prop := ∀ (j : Nat) (T : Addr) (x : V) (c : Nat), Ts[j]? = some T → xs[j]? = some x → cs[j]? = some c → H0 T = none ∧ H T = some (.tup [x, .str ⟨#[c]⟩])
theorem sep_str {z TI TO i1 i2 a b : Addr} (D : Apart5 z TI TO i1 i2 a b) : ZipSep2 z TI TO i1 i2 [i1, a] [i2] where
  TIz := D.TIz
  TOz := D.TOz
  TITO := D.TITO
  TIi1 := D.TIi1
  mem1 := by simp
  zf1 := by simp [D.zi1, D.za]
  Tf1 := by simp [D.Ti1, D.Ta]
  TIi2 := D.TIi2
  mem2 := by simp
  zf2 := by simp [D.zi2]
  Tf2 := by simp [D.Ti2]
  sep1_2 := by simp [D.i12]
  sep2_1 := by simp [D.i12.symm, D.a2.symm]
section
variable {X : Cx} {pins : List (Addr × Obj)} {σ : L2.St}
theorem draws_str {A : Around} (hh : A.handled = none) (it : Addr) (y : Str) (t : Tok) : Draws X.prog X.w A it [it] y.cps.size (fun i v => ∃ c u, y.cps[i]? = some c ∧ v = .str ⟨#[c]⟩ u) (fun i h => h.IsStrIter it (strIterType y) y t i) := by
  unfold strIterType
  cases ha : y.cps.all (· < 128)
  · simpa [ha] using Draws.strWide (prog := X.prog) (w := X.w) (A := A) hh it y t
  · simpa [ha] using Draws.strAscii (prog := X.prog) (w := X.w) (A := A) hh it y t
theorem extend_zip_loop (hc : X.calm = true) {H0 : Hp} {z TI TO i1 i2 a L : Addr} {xs : List V} {y : Str} {t0 : Tok} {R : Result → Shared → Prop} {res : Value} (D : Apart5 z TI TO i1 i2 a L)
    (hTIL : TI ≠ L) (haL : a ≠ L) (hL0 : H0 L = none) (hl : xs.length = y.cps.size) (hsm : xs.length ≤ 1000) (hpos : 0 < xs.length) :
    ∀ (k i : Nat) (s : Shared) (H : Hp) (Ts : List Addr), xs.length - i = k → i ≤ xs.length → Inv X pins σ H s → (∀ c ∈ [z, TI, TO, i1, i2], FpOk X pins H c ∧ c < s.heap.objs.size) →
    SqL X.K H a xs → H L = some (.lst (Ts.map V.ref)) → Ts.length = i → ZLast s.heap z TI TO i1 i2 L i → IsTupOf2 s.heap TI (.ref i1) (.ref i2) → (∃ x y, IsTupOf2 s.heap TO x y) → s.heap.IsListIter i1 a i → s.heap.IsStrIter i2 (strIterType y) y t0 i →
    (∀ b o, H0 b = some o → H b = some o) → MadeT H0 H xs y.cps.toList Ts →
    (∀ (s' : Shared) (H' : Hp) (Ts' : List Addr), Inv X pins σ H' s' → (∀ b o, H0 b = some o → H' b = some o) → H' L = some (.lst (Ts'.map V.ref)) → Ts'.length = xs.length → MadeT H0 H' xs y.cps.toList Ts' → R (.ok (.ret res)) s') →
    codeAny (model X.prog X.w) X.A.in1 (.builtin "list.extend.loop" ⟨[.ref L, .ref z, res], []⟩) R s := by
  intro k
  induction k with
  | zero =>
    intro i s H Ts hk hi I hf hxa hHL hTs hz hTI hTO h1 h2 hkeep hmade hR
    have hin : i = xs.length := by omega
    obtain ⟨j, rfl⟩ : ∃ j, i = j + 1 := ⟨i - 1, by omega⟩
    obtain ⟨its, rv, p, _⟩ := I.list hxa
    have lv := rv.length
    obtain ⟨T, f, oT, hz, hT, hTz, _⟩ := hz
    have D1 := PySem.Draws.list (prog := X.prog) (w := X.w) (A := X.A.in1.in1.in1) (I.ok.hd hc) i1 a D.a1 its.toArray
    refine codeAny_builtin F.entry_extend_loop ?_
    rw [Around.under_plainId F.plain_extend_loop _]
    show wpAny _ X.A.in1.in1 (pyNext (.ref z) >>= _) _ _ s
    refine wpAny_bind (pyNext_zip_held_end (sep_str D) D1 hz hT hTI (by rw [List.size_toArray, ← lv, ← hin]; exact ⟨h1, p.isList⟩) fun h' hk' => ?_)
    exact wpAny_pure (hR _ H Ts (I.turnedL (t' := s.toks) (ch := [z, TI, TO, i1, i2]) (fun c o hb q => hk' c o (fun q' => hb (by simp [q'])) (fun q' => hb (by simp [q'])) (fun q' => hb (by simp [q'])) q) fun c hc => (hf c hc).1) hkeep hHL (by omega) hmade)
  | succ k ih =>
    intro i s H Ts hk hi I hf hxa hHL hTs hz hTI hTO h1 h2 hkeep hmade hR
    have hlt : i < xs.length := by omega
    obtain ⟨its, rv, p, _⟩ := I.list hxa
    have lv := rv.length
    have D1 := PySem.Draws.list (prog := X.prog) (w := X.w) (A := X.A.in1.in1.in1) (I.ok.hd hc) i1 a D.a1 its.toArray
    have D2 := draws_str (X := X) (A := X.A.in1.in1.in1) (I.ok.hd hc) i2 y t0
    have hlt1 : i < its.toArray.size := by rw [List.size_toArray]; omega
    have hlt2 : i < y.cps.size := by omega
    refine codeAny_builtin F.entry_extend_loop ?_
    rw [Around.under_plainId F.plain_extend_loop _]
    show wpAny _ X.A.in1.in1 (pyNext (.ref z) >>= _) _ _ s
    have hLT : L < s.heap.objs.size := by
      obtain ⟨_, _, _, _, _, e⟩ := I.lstM hHL
      exact Heap.lt_size e
    have hsz : ∀ c ∈ [z, TI, TO, i1, i2], c ≠ s.heap.objs.size := fun c hc => Nat.ne_of_lt (hf c hc).2
    have hHT : H s.heap.objs.size = none := I.hok.fresh (Nat.le_refl _)
    have hH0T : H0 s.heap.objs.size = none := by
      cases e : H0 s.heap.objs.size with
      | none => rfl
      | some o => rw [hkeep _ _ e] at hHT; cases hHT
    have go : ∀ (x1 x2 : Value) (h' : Heap) (tk : Nat), its.toArray[i]? = some x1 → (∃ c u, y.cps[i]? = some c ∧ x2 = .str ⟨#[c]⟩ u) → (∃ (T : Addr) (f : Bool) (oT : Obj), IsZipHeld h' z TI TO T f ∧ h'.get? T = some oT ∧ T ≠ z ∧ T ≠ L ∧ T ≠ i1 ∧ T ≠ i2) → (∃ x y, IsTupOf2 h' TO x y) → h'.IsListIter i1 a (i + 1) → h'.IsStrIter i2 (strIterType y) y t0 (i + 1) → IsTupOf2 h' s.heap.objs.size x1 x2 →
        (∀ c o, c ≠ z → c ≠ TO → c ≠ i1 → c ≠ i2 → s.heap.get? c = some o → h'.get? c = some o) →
        wpAny (model X.prog X.w) X.A.in1.in1 (updateSeq L (·.push (.ref s.heap.objs.size)) >>= fun _ => again (.builtin "list.extend.loop" ⟨[.ref L, .ref z, res], []⟩)) (fun fin s' => match fin with | .done f => R (.ok f) s' | .again c' => c'.quiet = true ∧ codeAny (model X.prog X.w) X.A.in1 c' R s') (fun e s' => R (.error e) s') { s with heap := h', toks := tk } := by
      rintro x1 x2 h' tk hx1 ⟨c, u2, hcx, rfl⟩ ⟨T, f, oT, hzh, hTa, hTz, hTL, hT1, hT2⟩ ⟨a1, a2, hTO'⟩ g1 g2 hnew hk'
      obtain ⟨x, hx, rx⟩ : ∃ x, xs[i]? = some x ∧ RelV x x1 := by
        obtain ⟨x, hx⟩ : ∃ x, xs[i]? = some x := ⟨_, List.getElem?_eq_getElem hlt⟩
        obtain ⟨u, hu, ru⟩ := rv.get hx
        have : some u = some x1 := by rw [← hu]; simpa using hx1
        cases this
        exact ⟨x, hx, ru⟩
      have new : ObjOk X.prog X.w (upd H s.heap.objs.size (.tup [x, .str ⟨#[c]⟩])) h' s.heap.objs.size (.tup [x, .str ⟨#[c]⟩]) :=
        ⟨by show 2 ≤ sizeLine; decide, [x1, .str ⟨#[c]⟩ u2], .cons rx (.cons ⟨_, rfl⟩ .nil), ⟨_, hnew, rfl, _, rfl⟩⟩
      have I1 : Inv X pins σ (upd H s.heap.objs.size (.tup [x, .str ⟨#[c]⟩])) { s with heap := h', toks := tk } :=
        I.turnedNew (t' := tk) (ch := [z, TI, TO, i1, i2]) (fun c o hb q => hk' c o (fun q' => hb (by simp [q'])) (fun q' => hb (by simp [q'])) (fun q' => hb (by simp [q'])) (fun q' => hb (by simp [q'])) q) (fun c hc => (hf c hc).1) (Nat.le_refl _) new
      have hLne : L ≠ s.heap.objs.size := Nat.ne_of_lt hLT
      have hHL1 : (upd H s.heap.objs.size (.tup [x, .str ⟨#[c]⟩])) L = some (.lst (Ts.map V.ref)) := by rw [upd_ne hLne]; exact hHL
      obtain ⟨_, itl, nl, rl, hll, el⟩ := I1.lstM hHL1
      have hitl : itl.length = i := by rw [← hll, List.length_map, hTs]
      have I2 : Inv X pins σ (upd (upd H s.heap.objs.size (.tup [x, .str ⟨#[c]⟩])) L (.lst ((Ts ++ [s.heap.objs.size]).map V.ref))) { s with heap := h'.update L (Obj.mapSeq (·.push (.ref s.heap.objs.size))), toks := tk } :=
        I1.lset (its' := itl ++ [.ref s.heap.objs.size]) (t' := tk) hHL1 el (by simp) (by rw [List.map_append]; exact rl.append (.cons rfl .nil)) (by rw [List.length_map, List.length_append, List.length_singleton, hTs, sizeLine_eq]; omega)
      have oth : ∀ b o, b ≠ L → h'.get? b = some o → (h'.update L (Obj.mapSeq (·.push (.ref s.heap.objs.size)))).get? b = some o := fun b o nb e => (Heap.get?_update_other _ _ (Ne.symm nb)).trans e
      have hzL : z ≠ L := D.zb
      refine wpAny_bind ?_
      refine wpAny_updateSeq el rfl (wpAny_pure ⟨plainId_quiet F.plain_extend_loop _, ih (i + 1) _ _ (Ts ++ [s.heap.objs.size]) (by omega) hlt I2 (fun c hc => ?_) ?_ upd_same (by rw [List.length_append, hTs]; rfl) ⟨T, f, oT, oth _ _ hzL hzh, oth _ _ hTL hTa, hTz, hTL, hT1, hT2⟩ ?_ ⟨a1, a2, oth _ _ D.Tb hTO'⟩ (g1.at fun o e => oth _ _ D.b1.symm e) (by obtain ⟨o, q, r⟩ := g2; exact ⟨o, oth _ _ D.b2.symm q, r⟩) (fun b o e => ?_) ?_ hR⟩) (by rw [List.size_toArray, hitl, sizeLine_eq]; omega) (by show (itl.toArray.push _).size ≤ _; rw [Array.size_push, List.size_toArray, hitl, sizeLine_eq]; omega)
      · have c1 : c ≠ L := ne_of_none' hHL (hf c hc).1.1
        have c2 := hsz c hc
        refine ⟨⟨by rw [upd_ne c1, upd_ne c2]; exact (hf c hc).1.1, (hf c hc).1.2⟩, ?_⟩
        exact Nat.lt_trans (hf c hc).2 (Heap.lt_size (oth _ _ hLne.symm hnew))
      · exact ((Keeps.new (L := L) hHT).trans .at).seq haL hxa
      · have m : ∀ c ∈ [TI], TI ≠ L := fun _ _ => hTIL
        exact oth _ _ hTIL (hk' _ _ D.TIz D.TITO D.TIi1 D.TIi2 hTI)
      · have b1 : b ≠ L := fun q => by rw [q, hL0] at e; cases e
        rw [upd_ne b1, upd_ne (fun q => by rw [q, hH0T] at e; cases e)]
        exact hkeep _ _ e
      · intro j T' x' c' hj hxj hcj
        rw [List.getElem?_append] at hj
        split at hj
        · obtain ⟨m1, m2⟩ := hmade j T' x' c' hj hxj hcj
          refine ⟨m1, ?_⟩
          rw [upd_ne (fun q => by rw [q, hHL] at m2; cases m2), upd_ne (fun q => by rw [q, hHT] at m2; cases m2)]
          exact m2
        · have hj0 : j = Ts.length ∧ T' = s.heap.objs.size := by
            cases hd : j - Ts.length with
            | zero => rw [hd] at hj; exact ⟨by omega, (Option.some.inj hj).symm⟩
            | succ n => rw [hd] at hj; cases hj
          obtain ⟨e1, rfl⟩ := hj0
          have e2 : j = i := by omega
          subst e2
          rw [hx] at hxj
          cases hxj
          have hcc : c' = c := by
            rw [Array.getElem?_toList] at hcj
            rw [hcx] at hcj
            exact (Option.some.inj hcj).symm
          subst hcc
          exact ⟨hH0T, by rw [upd_ne hLne.symm]; exact upd_same⟩
    cases i with
    | zero =>
      obtain ⟨a1, a2, hTO⟩ := hTO
      refine wpAny_bind (wpAny_pyNext_zipD2_item (sep_str D) D1 D2 hz hTI hTO ⟨h1, p.isList⟩ h2 hlt1 hlt2 fun x1 x2 h' tk y1 y2 b1 b2 d1 d2 b5 b6 b7 => ?_)
      exact go x1 x2 h' tk y1 y2 ⟨_, false, _, b1, b5, (hsz z (by simp)).symm, Nat.ne_of_gt hLT, (hsz i1 (by simp)).symm, (hsz i2 (by simp)).symm⟩ ⟨_, _, b2⟩ d1.1 d2 b5 b7
    | succ j =>
      obtain ⟨T, f, oT, hz, hT, hTz, hTL, hT1, hT2⟩ := hz
      refine wpAny_bind (pyNext_zip_held (sep_str D) D1 D2 hz hT hTI ⟨h1, p.isList⟩ h2 hlt1 hlt2 fun x1 x2 h' tk y1 y2 b1 d1 d2 b5 b7 => ?_)
      have hTO2 := hTO
      obtain ⟨a1, a2, hTO2⟩ := hTO2
      exact go x1 x2 h' tk y1 y2 ⟨T, true, oT, b1, b7 _ _ hTz hT1 hT2 hT, hTz, hTL, hT1, hT2⟩ ⟨a1, a2, b7 _ _ D.TOz D.Ti1 D.Ti2 hTO2⟩ d1.1 d2 b5 fun c o c1 c2 c3 c4 e => b7 c o c1 c3 c4 e
theorem call_list_zip (hc : X.calm = true) {s : Shared} {H0 : Hp} {z TI TO i1 i2 a : Addr} {xs : List V} {y : Str} {t0 : Tok} {Q : VK} (D : Apart5 z TI TO i1 i2 a s.heap.objs.size)
    (hl : xs.length = y.cps.size) (hsm : xs.length ≤ 1000) (hpos : 0 < xs.length) (I : Inv X pins σ H0 s) (hf : ∀ c ∈ [z, TI, TO, i1, i2], FpOk X pins H0 c ∧ c < s.heap.objs.size)
    (hxa : SqL X.K H0 a xs) (ha : a < s.heap.objs.size) (hz : IsZip s.heap z TI TO .none) (hTI : IsTupOf2 s.heap TI (.ref i1) (.ref i2)) (hTO : ∃ x y, IsTupOf2 s.heap TO x y) (h1 : s.heap.IsListIter i1 a 0) (h2 : s.heap.IsStrIter i2 (strIterType y) y t0 0)
    (q : ∀ H' L Ts, (∀ b o, H0 b = some o → H' b = some o) → H0 L = none → H' L = some (.lst (Ts.map V.ref)) → Ts.length = xs.length → MadeT H0 H' xs y.cps.toList Ts → Q (.ref L) H') :
    wpAny (model X.prog X.w) X.A (call (.type "list") [.ref z]) (EP X pins σ Q) X.xe s := by
  generalize hL : s.heap.objs.size = L at D hf ha
  have nL0 : H0 L = none := I.hok.fresh (Nat.le_of_eq hL)
  have zl : z < L := (hf z (by simp)).2
  refine callType_codes (Q₁ := fun obj s₁ => obj = .ref s.heap.objs.size ∧ s₁ = { s with heap := s.heap.push { cls := .type "list", data := .seq #[] } }) F.called_list (F.typeCall_list_1 _) F.entry_list_init
    (code_list_new _ ⟨rfl, rfl⟩) fun obj s₁ h₁ => ?_
  obtain ⟨rfl, rfl⟩ := h₁
  rw [hL]
  have hS : (s.heap.push { cls := .type "list", data := .seq #[] }).get? L = some { cls := .type "list", data := .seq #[] } := by
    rw [← hL]
    exact Heap.get?_push_size _ rfl
  have I1 : Inv X pins σ (upd H0 L (.lst [])) { s with heap := s.heap.push { cls := .type "list", data := .seq #[] } } :=
    I.laid (t' := s.toks) (fun b o e => Heap.get?_push_of_some _ e) (Nat.le_of_eq hL) ⟨by decide, [], 0, .nil, hS⟩
  have k1 : ∀ b o, s.heap.get? b = some o → (s.heap.push { cls := .type "list", data := .seq #[] }).get? b = some o := fun b o e => Heap.get?_push_of_some _ e
  refine ⟨⟨_, hS, rfl⟩, F.args_list_init_2 _ _, ?_⟩
  have sz1 : (s.heap.push { cls := .type "list", data := .seq #[] }).objs.size = L + 1 := by rw [Heap.size_push, hL]
  generalize (s.heap.push { cls := .type "list", data := .seq #[] }) = h1' at hS I1 k1 sz1 ⊢
  show wpAny _ _ (do let old ← Builtin.List.listItems (.ref L); Builtin.List.listUpdate (.ref L) (fun _ => #[]); letGo old.toList.reverse; Builtin.List.listExtendWith (.ref L) (.ref z) .none) _ _ _
  refine wpAny_bind ?_
  unfold Builtin.List.listItems
  refine wpAny_bind (wpAny_seqItems hS rfl (wpAny_pure ?_))
  show wpAny _ _ (updateSeq L (fun _ => #[]) >>= fun _ => letGo (#[] : Array Value).toList.reverse >>= fun _ => Builtin.List.listExtendWith (.ref L) (.ref z) .none) _ _ _
  refine wpAny_bind (wpAny_updateSeq hS rfl ?_)
  have I2 := I1.lset (its := []) (its' := []) (ys := []) (f := fun _ => #[]) (t' := s.toks) upd_same hS rfl .nil (by decide)
  rw [upd_upd] at I2
  have hS2 := Heap.get?_update_self (Obj.mapSeq (fun _ => (#[] : Array Value))) hS rfl
  have oth2 : ∀ b o, b ≠ L → h1'.get? b = some o → (h1'.update L (Obj.mapSeq (fun _ => (#[] : Array Value)))).get? b = some o :=
    fun b o hb e => (Heap.get?_update_other _ _ (Ne.symm hb)).trans e
  refine wpAny_bind (wpAny_letGo ?_)
  unfold Builtin.List.listExtendWith
  have hzt : (h1'.update L (Obj.mapSeq (fun _ => (#[] : Array Value)))).get? z = _ := oth2 _ _ (Nat.ne_of_lt zl) (k1 _ _ hz)
  refine wpAny_bind (wpAny_typeOf (T := "zip") ⟨_, hzt, rfl⟩ ?_)
  have e1 : Builtin.List.listSameRef (.ref L) (.ref z) = false := by
    show (L == z) = false
    exact beq_eq_false_iff_ne.mpr (Nat.ne_of_gt zl)
  have e2 : (Value.type "zip" == Value.type "list") = false := by decide
  have e3 : (Value.type "zip" == Value.type "tuple") = false := by decide
  simp only [e1, e2, e3, Bool.or_false, Bool.false_eq_true, if_false]
  refine wpAny_bind (wpAny_pyIter_zip hzt ?_)
  refine wpAny_bind (wpAny_holding ?_)
  unfold Builtin.List.listLengthHint
  refine wpAny_bind (wpAny_specialOf (T := "zip") ⟨_, hzt, rfl⟩ zip_no_len ?_)
  show wpAny _ _ (specialOf (Value.ref z) (Str.ofString "__length_hint__") >>= _) _ _ _
  refine wpAny_bind (wpAny_specialOf (T := "zip") ⟨_, hzt, rfl⟩ zip_no_hint ?_)
  refine wpAny_pure ?_
  show wpAny _ _ (rule "list.extend.makes-room" >>= fun _ => Builtin.List.listTouch (.ref L) >>= fun _ =>
    again (.builtin "list.extend.loop" ⟨[.ref L, .ref z, .none], []⟩)) _ _ _
  refine wpAny_bind (wpAny_rule ?_)
  refine wpAny_bind ?_
  show wpAny _ _ (updateSeq L (·.push .none) >>= fun _ => updateSeq L (·.pop)) _ _ _
  refine wpAny_bind (wpAny_updateSeq hS2 rfl ?_)
  have hS3 := Heap.get?_update_self (Obj.mapSeq (·.push Value.none)) hS2 rfl
  refine wpAny_updateSeq (hz := by seq_fits) hS3 rfl ?_
  have hS4 := Heap.get?_update_self (Obj.mapSeq (·.pop)) hS3 rfl
  have oth : ∀ b o, b ≠ L → s.heap.get? b = some o → (((h1'.update L (Obj.mapSeq (fun _ => (#[] : Array Value)))).update L (Obj.mapSeq (·.push Value.none))).update L (Obj.mapSeq (·.pop))).get? b = some o :=
    fun b o hb e => (Heap.get?_update_other _ _ (Ne.symm hb)).trans ((Heap.get?_update_other _ _ (Ne.symm hb)).trans (oth2 _ _ hb (k1 _ _ e)))
  have I4 : Inv X pins σ (upd H0 L (.lst [])) { s with heap := (((h1'.update L (Obj.mapSeq (fun _ => (#[] : Array Value)))).update L (Obj.mapSeq (·.push Value.none))).update L (Obj.mapSeq (·.pop))) } := by
    have := I2.write (t' := s.toks) (x := L) (e := L) (o := .lst []) (h' := (((h1'.update L (Obj.mapSeq (fun _ => (#[] : Array Value)))).update L (Obj.mapSeq (·.push Value.none))).update L (Obj.mapSeq (·.pop)))) (by rw [upd_same]; exact trivial) (.inl rfl) (fun b u hb hu => (Heap.get?_update_other _ _ (Ne.symm hb)).trans ((Heap.get?_update_other _ _ (Ne.symm hb)).trans hu)) ⟨_, hS4⟩ ⟨by decide, [], _, .nil, hS4⟩
    rw [upd_upd] at this
    exact this
  have lt4 : ∀ c, c ≠ L → c < L → True := fun _ _ _ => trivial
  have cL : ∀ c ∈ [z, TI, TO, i1, i2], c ≠ L := fun c hc => Nat.ne_of_lt (hf c hc).2
  obtain ⟨u1, u2, hTO⟩ := hTO
  refine wpAny_pure ⟨plainId_quiet F.plain_extend_loop _, extend_zip_loop (X := X) hc (H0 := H0) (z := z) (TI := TI) (TO := TO) (i1 := i1) (i2 := i2) (a := a) (L := L) (xs := xs) (y := y) (t0 := t0) D (cL TI (by simp)) (Nat.ne_of_lt ha) nL0 hl hsm hpos xs.length 0 _ (upd H0 L (.lst [])) [] rfl (Nat.zero_le _) I4 (fun c hc => ⟨⟨by rw [upd_ne (cL c hc)]; exact (hf c hc).1.1, (hf c hc).1.2⟩, ?_⟩) ((Keeps.new (L := L + 1) nL0).seq (Nat.ne_of_lt (Nat.lt_succ_of_lt ha)) hxa) upd_same rfl (oth _ _ (cL z (by simp)) hz) (oth _ _ (cL TI (by simp)) hTI) ⟨u1, u2, oth _ _ (cL TO (by simp)) hTO⟩ (h1.at fun o e => oth _ _ (cL i1 (by simp)) e) (by obtain ⟨o, q1, r1⟩ := h2; exact ⟨o, oth _ _ (cL i2 (by simp)) q1, r1⟩) (fun b o e => by rw [upd_ne (fun x => by rw [x, nL0] at e; cases e)]; exact e) (fun j T x c e => by cases e) ?_⟩
  · exact Nat.lt_trans (hf c hc).2 (Heap.lt_size hS4)
  · intro s' H' Ts' J k2 hL2 hTs hm
    exact ⟨rfl, ⟨.ref L, H', J, rfl, q H' L Ts' k2 nL0 hL2 hTs hm⟩⟩
theorem apart_n5 (n a : Nat) (ha : a < n) : Apart5 (n + 4) (n + 2) (n + 3) n (n + 1) a (n + 5) := by
  refine ⟨?_, ?_, ?_, ?_, ?_, ?_, ?_, ?_, ?_, ?_, ?_, ?_, ?_, ?_, ?_, ?_, ?_, ?_⟩ <;> (show ¬ (@Eq Nat _ _)) <;> omega
def tListZip (K : PySem.W.Frag) (ta : TA) : TE := fun σ H Q => ta σ H fun vs H1 => ∃ a y xs, vs = [.ref a, .str y] ∧ SqL K H1 a xs ∧ xs.length = y.cps.size ∧ 0 < xs.length ∧ xs.length ≤ 1000 ∧
  ∀ H' L Ts, (∀ b o, H1 b = some o → H' b = some o) → H1 L = none → H' L = some (.lst (Ts.map V.ref)) → Ts.length = xs.length → MadeT H1 H' xs y.cps.toList Ts → Q (.ref L) H'
end
theorem pe_listzip {X : Cx} {e e2 : Expr} {ta : TA} {p p2 pos pos2 : Pos} (hc : X.calm = true) (hgl : Gl X "list") (hml : X.mg "list" = none) (hgz : Gl X "zip") (hmz : X.mg "zip" = none) (ha : PA X [e, e2] ta)
    (hs : starEach [e, e2] X.env = (false, eval e X.env) :: starEach [e2] X.env := by rfl) (hpl : (backTo pos2 (starEach [e2] X.env)).any (·.1) = false := by rfl) :
    PE X (.Call (.Name "list" p) [.Call (.Name "zip" p2) [e, e2] [] pos2] [] pos) (tListZip X.K ta) := by
  refine ⟨fun pins s σ H Q I h => ?_⟩
  refine wpAny_Call_Name_kw (ld_blt I hgl hml PyProof.Rows.boot_list ?_)
  refine PyProof.Rows.callWith_type1 ?_ rfl rfl
  show wpAny _ _ (spliced ((false, eval (.Call (.Name "zip" p2) [e, e2] [] pos2) X.env) :: backTo pos (starEach [] X.env))) _ _ s
  refine Calls.spliced_cons ?_
  refine Call_ (ld_blt I hgz hmz PyProof.Rows.boot_zip (PyProof.Rows.callWith_type1 (thn (ha.run pos2 pins s σ H _ I h) fun us s1 ⟨vs, H1, I1, r1, q1⟩ => ?_) hs hpl))
  obtain ⟨a, y, xs, ex, hqx, hl, hpos, hsm, q⟩ := q1
  subst ex
  cases r1 with
  | cons r rr =>
    cases rr with
    | cons r' rr =>
      cases rr
      cases r
      obtain ⟨t0, rfl⟩ := r'
      have fresh5 : ∀ c, c ∈ [s1.heap.objs.size + 4, s1.heap.objs.size + 2, s1.heap.objs.size + 3, s1.heap.objs.size, s1.heap.objs.size + 1] → FpOk X pins H1 c ∧ c < s1.heap.objs.size + 5 := fun c hcm => by
        have e' : c = s1.heap.objs.size + 4 ∨ c = s1.heap.objs.size + 2 ∨ c = s1.heap.objs.size + 3 ∨ c = s1.heap.objs.size ∨ c = s1.heap.objs.size + 1 := by simpa using hcm
        have hle : s1.heap.objs.size ≤ c := by
          rcases e' with z | z | z | z | z
          · rw [z]; exact Nat.le_add_right _ _
          · rw [z]; exact Nat.le_add_right _ _
          · rw [z]; exact Nat.le_add_right _ _
          · rw [z]; exact Nat.le_refl _
          · rw [z]; exact Nat.le_add_right _ _
        have hlt : c < s1.heap.objs.size + 5 := by
          rcases e' with z | z | z | z | z
          · rw [z]; exact Nat.lt_succ_self _
          · rw [z]; exact Nat.lt_of_lt_of_le (Nat.lt_succ_self _) (Nat.add_le_add_left (by decide : 3 ≤ 5) _)
          · rw [z]; exact Nat.lt_of_lt_of_le (Nat.lt_succ_self _) (Nat.add_le_add_left (by decide : 4 ≤ 5) _)
          · rw [z]; exact Nat.lt_of_lt_of_le (Nat.lt_succ_self _) (Nat.add_le_add_left (by decide : 1 ≤ 5) _)
          · rw [z]; exact Nat.lt_of_lt_of_le (Nat.lt_succ_self _) (Nat.add_le_add_left (by decide : 2 ≤ 5) _)
        exact ⟨I1.fpOk hle (I1.hok.fresh hle), hlt⟩
      obtain ⟨its, rv, p1, _⟩ := I1.list hqx
      have hlt := p1.lt
      refine PySem.zip_begins2 (begins_list a its.toArray) (begins_text y t0) p1.isList True.intro fun h' hz hTI hTO h1 h2 hsz hk => ?_
      have I2 : Inv X pins σ H1 { s1 with heap := h' } := I1.kept (t' := s1.toks) hk
      refine Calls.spliced_nil ?_
      have AP : Apart5 (s1.heap.objs.size + 4) (s1.heap.objs.size + 2) (s1.heap.objs.size + 3) s1.heap.objs.size (s1.heap.objs.size + 1) a h'.objs.size := by
        rw [hsz]
        exact apart_n5 _ _ hlt
      exact call_list_zip (s := { s1 with heap := h' }) hc AP hl hsm hpos I2 (by rw [show ({ s1 with heap := h' } : Shared).heap.objs.size = s1.heap.objs.size + 5 from hsz]; exact fresh5) hqx (by show a < h'.objs.size; rw [hsz]; exact Nat.lt_of_lt_of_le hlt (Nat.le_add_right _ _)) hz hTI ⟨_, _, hTO⟩ ⟨_, h1, rfl, rfl⟩ ⟨_, h2, rfl, rfl⟩ q
/-! ### list(a text) -/
theorem vals_signs : ∀ (l : List Nat) (its : List Value), its.length = l.length → (∀ (j : Nat) (v : Value), its[j]? = some v → ∃ c u, l[j]? = some c ∧ v = .str ⟨#[c]⟩ u) → Vals (l.map fun c => V.str ⟨#[c]⟩) its
  | [], [], _, _ => .nil
  | c :: l, v :: its, h, g => by
    obtain ⟨c', u, e1, e2⟩ := g 0 v rfl
    cases e1
    refine .cons ⟨u, e2⟩ (vals_signs l its (by simpa using h) fun j w hw => g (j + 1) w hw)
  | [], _ :: _, h, _ => by cases h
  | _ :: _, [], h, _ => by cases h
theorem call_list_txt {X : Cx} (hc : X.calm = true) : CallR X (.type "list") (fun xs H Q => ∃ y : Str, xs = [.str y] ∧ y.cps.size ≤ 1000 ∧ ∀ l, H l = none → Q (.ref l) (upd H l (.lst (y.cps.toList.map fun c => V.str ⟨#[c]⟩)))) := by
  intro pins s σ H xs us Q I r h
  obtain ⟨y, rfl, hz, q⟩ := h
  obtain ⟨u, rfl, t, rfl⟩ := vals1 r
  refine PySem.call_list_str (hn := by rw [sizeLine_eq]; omega) (I.ok.hd hc) y t fun h' tk acc' c' hk hS' hacc => ?_
  refine ⟨.ref s.heap.objs.size, _, I.laid (t' := tk) hk (Nat.le_refl _) (show ObjOk X.prog X.w _ h' _ (.lst (y.cps.toList.map fun c => V.str ⟨#[c]⟩)) from ⟨by rw [List.length_map, Array.length_toList, sizeLine_eq]; omega, acc'.toList, c', vals_signs _ _ (by rw [Array.length_toList, Array.length_toList]; exact hacc.1) (fun j v hv => ?_), by simpa using hS'⟩), rfl, q _ (I.hok.fresh (Nat.le_refl _))⟩
  obtain ⟨c, u, e1, e2⟩ := hacc.2 j v (by simpa using hv)
  exact ⟨c, u, by simpa using e1, e2⟩
end My

namespace K45
open PySem PySem.Spec PyProof.Rows L2 My RM PM DM IM TR BM PG
/-! ### defs with one default, None -/
section
variable {P : Program} {w : World} {K : PySem.W.Frag} {mg : Str → Option Value} {base : Heap} {x qual : Str} {st : Stmt} {dvs : List V} {f : Addr} {fd : FuncData} {N ps : List Str} {k : Nat} {sp : Sp}
theorem fund_ok (F : FunD K x qual (defArgs st) (defBody st) (defScope st) dvs [] f fd) (Sc : FnScope N ps (defScope st)) (len : ∀ vs H Q E, sp vs H Q E → vs.length = ps.length)
    (hbody : ∀ (cdv : Value) (A : Around) (outer : List Env) (s : Shared) (H : Hp) (vs : List V) (Q : VK) (E : XK), Room k (A.deeper (envOfC qual (defScope st) s.heap.objs.size f cdv)) → sp vs H Q E →
      ∃ t, PSs (cxOf CX0 P w K mg base N qual (defScope st) f cdv A outer s H E).nox (defBody st) t ∧ t { nx := fun _ H' => Q .non H', rt := Q } (start N vs) H) : FnOk P w K mg base CX0 (k + 1) f fd ps sp :=
  F.ok Sc len fun cdv A outer s H vs Q E hr h => by
    obtain ⟨t, h1, h2⟩ := hbody cdv A outer s H vs Q E hr h
    exact ⟨t, h1.nox, h2⟩
theorem fund_binds (F : FunD K x qual (defArgs st) (defBody st) (defScope st) [.non] [] f fd) (n : Nat)
    (h : ∀ (T : Addr) (kV doc pm : Value) (an : Option Addr) (cdv ct : Value) (us its : List Value), us.length = n → its.length = [V.non].length →
      ∃ k, bindArgs (PySem.W.fnOf x qual (defArgs st) (defBody st) (defScope st) (.ref T) kV doc pm an cdv ct) ⟨us, []⟩ = seqItems? (.ref T) >>= k ∧ k (some its.toArray) = pure (ps.zip (us ++ its.drop 0))) (hn : n + 1 = ps.length := by rfl) : Binds K fd ps [.none] := by
  obtain ⟨ds, hv, hb⟩ := F.binds1 n 0 (by simp) hn h
  cases hv with
  | cons r hv =>
    cases hv
    cases r
    exact hb
end

def topS (i : Nat) : Stmt := PySem.Challenge.pw_plainmark_k45_backslashes_breaks_and_ref.main.body.getD i (.Pass ⟨0, 0, 0, 0⟩)
def clsOf (s : Stmt) : List Stmt := match s with
  | .ClassDef (body := b) .. => b
  | _ => []
abbrev s_behind_all : Stmt := topS 8
abbrev s_behind_gap : Stmt := topS 9
abbrev s_behind_first : Stmt := topS 10
abbrev s_behind_sign : Stmt := topS 11
abbrev s_is_escape : Stmt := topS 12
abbrev s_first_plain : Stmt := topS 13
abbrev s_strings_in : Stmt := topS 14
abbrev s_reference_at : Stmt := topS 19
abbrev s_decoded : Stmt := topS 20
abbrev s_decoded_at : Stmt := topS 21
abbrev s_sign_meant : Stmt := topS 22
abbrev s_number_in : Stmt := topS 23
abbrev s_sign_of : Stmt := topS 24
abbrev s_normalised : Stmt := topS 30
abbrev s_is_label_text : Stmt := topS 31
abbrev s_is_label : Stmt := topS 32
abbrev s_label_at : Stmt := topS 33
abbrev s_target_at : Stmt := topS 34
abbrev s_title_or_none : Stmt := topS 35
abbrev s_destination_at : Stmt := topS 36
abbrev s_title_at : Stmt := topS 37
abbrev s_enclosed_at : Stmt := topS 38
abbrev s_behind_bare : Stmt := topS 39
abbrev s_tag_at : Stmt := topS 46
abbrev s_open_tag_at : Stmt := topS 47
abbrev s_closing_tag_at : Stmt := topS 48
abbrev s_attribute_at : Stmt := topS 49
abbrev s_value_at : Stmt := topS 50
abbrev s_name_at : Stmt := topS 51
abbrev s_is_letter : Stmt := topS 52
abbrev s_autolink_at : Stmt := topS 61
abbrev s_begins_with_scheme : Stmt := topS 62
abbrev s_is_address : Stmt := topS 63
abbrev s_is_part : Stmt := topS 64
abbrev s_run_at : Stmt := topS 67
abbrev s_kind_of : Stmt := topS 68
abbrev s_pair : Stmt := topS 69
abbrev s_sort_of : Stmt := topS 70
abbrev s_stack_of_partner : Stmt := topS 71
abbrev s_may_pair : Stmt := topS 72
abbrev s_take_both : Stmt := topS 73
abbrev s_built : Stmt := topS 74
abbrev s_joined : Stmt := topS 75
abbrev s_add_text : Stmt := topS 76
abbrev s_scanned : Stmt := topS 80
abbrev s_take_plain : Stmt := topS 81
abbrev s_take_backslash : Stmt := topS 82
abbrev s_take_backquotes : Stmt := topS 83
abbrev s_code_text : Stmt := topS 84
abbrev s_take_angle : Stmt := topS 85
abbrev s_take_reference : Stmt := topS 86
abbrev s_take_line_feed : Stmt := topS 87
abbrev s_take_run : Stmt := topS 88
abbrev s_take_bracket : Stmt := topS 89
abbrev s_take_exclamation : Stmt := topS 90
abbrev s_note : Stmt := topS 91
abbrev s_take_end : Stmt := topS 92
abbrev s_found_behind : Stmt := topS 93
abbrev s_own_label : Stmt := topS 94
abbrev s_check_source : Stmt := topS 97
abbrev s_inlines : Stmt := topS 99
abbrev s_is_known : Stmt := topS 100
abbrev s_is_target : Stmt := topS 101
abbrev s__law_state : Stmt := topS 103
abbrev s__law_draw : Stmt := topS 104
abbrev s__law_one : Stmt := topS 105
abbrev s__law_marks : Stmt := topS 106
abbrev s__law_names : Stmt := topS 107
abbrev s__law_reference : Stmt := topS 108
abbrev s__law_piece : Stmt := topS 109
abbrev s__law_break : Stmt := topS 110
abbrev s__law_ends_right : Stmt := topS 111
abbrev s_law : Stmt := topS 112
abbrev s_Bracket____init__ : Stmt := (clsOf (topS 78)).getD 0 (.Pass ⟨0, 0, 0, 0⟩)
abbrev s_Scan____init__ : Stmt := (clsOf (topS 79)).getD 0 (.Pass ⟨0, 0, 0, 0⟩)
abbrev s_Scan__put : Stmt := (clsOf (topS 79)).getD 1 (.Pass ⟨0, 0, 0, 0⟩)
abbrev s_Scan__put_text : Stmt := (clsOf (topS 79)).getD 2 (.Pass ⟨0, 0, 0, 0⟩)
abbrev s_Scan__is_active : Stmt := (clsOf (topS 79)).getD 3 (.Pass ⟨0, 0, 0, 0⟩)
abbrev s_Run____init__ : Stmt := (clsOf (topS 66)).getD 0 (.Pass ⟨0, 0, 0, 0⟩)
abbrev s_Run__is_both : Stmt := (clsOf (topS 66)).getD 1 (.Pass ⟨0, 0, 0, 0⟩)
theorem sc_behind_all : FnScope ["signs", "text", "place"] ["signs", "text", "place"] (defScope s_behind_all) := ⟨rfl, rfl, rfl, by decide +kernel, rfl, by decide +kernel, by decide +kernel⟩
theorem sc_behind_gap : FnScope ["text", "place", "end"] ["text", "place"] (defScope s_behind_gap) := ⟨rfl, rfl, rfl, by decide +kernel, rfl, by decide +kernel, by decide +kernel⟩
theorem sc_behind_first : FnScope ["words", "text", "place", "found"] ["words", "text", "place"] (defScope s_behind_first) := ⟨rfl, rfl, rfl, by decide +kernel, rfl, by decide +kernel, by decide +kernel⟩
theorem sc_behind_sign : FnScope ["sign", "text", "place"] ["sign", "text", "place"] (defScope s_behind_sign) := ⟨rfl, rfl, rfl, by decide +kernel, rfl, by decide +kernel, by decide +kernel⟩
theorem sc_is_escape : FnScope ["text", "place"] ["text", "place"] (defScope s_is_escape) := ⟨rfl, rfl, rfl, by decide +kernel, rfl, by decide +kernel, by decide +kernel⟩
theorem sc_first_plain : FnScope ["signs", "text", "place"] ["signs", "text", "place"] (defScope s_first_plain) := ⟨rfl, rfl, rfl, by decide +kernel, rfl, by decide +kernel, by decide +kernel⟩
theorem sc_strings_in : FnScope ["text", "strings", "place", "end"] ["text"] (defScope s_strings_in) := ⟨rfl, rfl, rfl, by decide +kernel, rfl, by decide +kernel, by decide +kernel⟩
theorem sc_reference_at : FnScope ["text", "place", "end", "sign"] ["text", "place"] (defScope s_reference_at) := ⟨rfl, rfl, rfl, by decide +kernel, rfl, by decide +kernel, by decide +kernel⟩
theorem sc_decoded : FnScope ["text", "signs", "place", "sign"] ["text"] (defScope s_decoded) := ⟨rfl, rfl, rfl, by decide +kernel, rfl, by decide +kernel, by decide +kernel⟩
theorem sc_decoded_at : FnScope ["text", "place", "reference"] ["text", "place"] (defScope s_decoded_at) := ⟨rfl, rfl, rfl, by decide +kernel, rfl, by decide +kernel, by decide +kernel⟩
theorem sc_sign_meant : FnScope ["words"] ["words"] (defScope s_sign_meant) := ⟨rfl, rfl, rfl, by decide +kernel, rfl, by decide +kernel, by decide +kernel⟩
theorem sc_number_in : FnScope ["digits", "signs", "base", "digit"] ["digits", "signs", "base"] (defScope s_number_in) := ⟨rfl, rfl, rfl, by decide +kernel, rfl, by decide +kernel, by decide +kernel⟩
theorem sc_sign_of : FnScope ["number", "begin", "signs"] ["number"] (defScope s_sign_of) := ⟨rfl, rfl, rfl, by decide +kernel, rfl, by decide +kernel, by decide +kernel⟩
theorem sc_normalised : FnScope ["text"] ["text"] (defScope s_normalised) := ⟨rfl, rfl, rfl, by decide +kernel, rfl, by decide +kernel, by decide +kernel⟩
theorem sc_is_label_text : FnScope ["thing"] ["thing"] (defScope s_is_label_text) := ⟨rfl, rfl, rfl, by decide +kernel, rfl, by decide +kernel, by decide +kernel⟩
theorem sc_is_label : FnScope ["thing"] ["thing"] (defScope s_is_label) := ⟨rfl, rfl, rfl, by decide +kernel, rfl, by decide +kernel, by decide +kernel⟩
theorem sc_label_at : FnScope ["text", "place", "end", "words"] ["text", "place"] (defScope s_label_at) := ⟨rfl, rfl, rfl, by decide +kernel, rfl, by decide +kernel, by decide +kernel⟩
theorem sc_target_at : FnScope ["text", "place", "end", "destination", "title", "target", "behind"] ["text", "place"] (defScope s_target_at) := ⟨rfl, rfl, rfl, by decide +kernel, rfl, by decide +kernel, by decide +kernel⟩
theorem sc_title_or_none : FnScope ["text", "place", "found", "end", "title"] ["text", "place"] (defScope s_title_or_none) := ⟨rfl, rfl, rfl, by decide +kernel, rfl, by decide +kernel, by decide +kernel⟩
theorem sc_destination_at : FnScope ["text", "place", "end"] ["text", "place"] (defScope s_destination_at) := ⟨rfl, rfl, rfl, by decide +kernel, rfl, by decide +kernel, by decide +kernel⟩
theorem sc_title_at : FnScope ["text", "place", "sign", "barred", "closing"] ["text", "place"] (defScope s_title_at) := ⟨rfl, rfl, rfl, by decide +kernel, rfl, by decide +kernel, by decide +kernel⟩
theorem sc_enclosed_at : FnScope ["barred", "closing", "text", "place", "end"] ["barred", "closing", "text", "place"] (defScope s_enclosed_at) := ⟨rfl, rfl, rfl, by decide +kernel, rfl, by decide +kernel, by decide +kernel⟩
theorem sc_behind_bare : FnScope ["text", "place", "within", "end"] ["text", "place"] (defScope s_behind_bare) := ⟨rfl, rfl, rfl, by decide +kernel, rfl, by decide +kernel, by decide +kernel⟩
theorem sc_tag_at : FnScope ["text", "place"] ["text", "place"] (defScope s_tag_at) := ⟨rfl, rfl, rfl, by decide +kernel, rfl, by decide +kernel, by decide +kernel⟩
theorem sc_open_tag_at : FnScope ["text", "place", "end", "behind"] ["text", "place"] (defScope s_open_tag_at) := ⟨rfl, rfl, rfl, by decide +kernel, rfl, by decide +kernel, by decide +kernel⟩
theorem sc_closing_tag_at : FnScope ["text", "place", "end"] ["text", "place"] (defScope s_closing_tag_at) := ⟨rfl, rfl, rfl, by decide +kernel, rfl, by decide +kernel, by decide +kernel⟩
theorem sc_attribute_at : FnScope ["text", "place", "begin", "end", "sign"] ["text", "place"] (defScope s_attribute_at) := ⟨rfl, rfl, rfl, by decide +kernel, rfl, by decide +kernel, by decide +kernel⟩
theorem sc_value_at : FnScope ["text", "place", "end"] ["text", "place"] (defScope s_value_at) := ⟨rfl, rfl, rfl, by decide +kernel, rfl, by decide +kernel, by decide +kernel⟩
theorem sc_name_at : FnScope ["text", "place"] ["text", "place"] (defScope s_name_at) := ⟨rfl, rfl, rfl, by decide +kernel, rfl, by decide +kernel, by decide +kernel⟩
theorem sc_is_letter : FnScope ["text", "place"] ["text", "place"] (defScope s_is_letter) := ⟨rfl, rfl, rfl, by decide +kernel, rfl, by decide +kernel, by decide +kernel⟩
theorem sc_autolink_at : FnScope ["text", "place", "end", "words"] ["text", "place"] (defScope s_autolink_at) := ⟨rfl, rfl, rfl, by decide +kernel, rfl, by decide +kernel, by decide +kernel⟩
theorem sc_begins_with_scheme : FnScope ["words", "length", "fits"] ["words"] (defScope s_begins_with_scheme) := ⟨rfl, rfl, rfl, by decide +kernel, rfl, by decide +kernel, by decide +kernel⟩
theorem sc_is_address : FnScope ["words", "at", "part"] ["words"] (defScope s_is_address) := ⟨rfl, rfl, rfl, by decide +kernel, rfl, by decide +kernel, by decide +kernel⟩
theorem sc_is_part : FnScope ["words"] ["words"] (defScope s_is_part) := ⟨rfl, rfl, rfl, by decide +kernel, rfl, by decide +kernel, by decide +kernel⟩
theorem sc_run_at : FnScope ["content", "place", "sign", "end", "ahead", "behind", "left", "right", "opens", "closes"] ["content", "place"] (defScope s_run_at) := ⟨rfl, rfl, rfl, by decide +kernel, rfl, by decide +kernel, by decide +kernel⟩
theorem sc_kind_of : FnScope ["sign"] ["sign"] (defScope s_kind_of) := ⟨rfl, rfl, rfl, by decide +kernel, rfl, by decide +kernel, by decide +kernel⟩
theorem sc_pair : FnScope ["runs", "stacks", "number", "run", "stack", "partner", "other"] ["runs"] (defScope s_pair) := ⟨rfl, rfl, rfl, by decide +kernel, rfl, by decide +kernel, by decide +kernel⟩
theorem sc_sort_of : FnScope ["run"] ["run"] (defScope s_sort_of) := ⟨rfl, rfl, rfl, by decide +kernel, rfl, by decide +kernel, by decide +kernel⟩
theorem sc_stack_of_partner : FnScope ["run", "stacks", "nearest", "sort", "stack"] ["run", "stacks"] (defScope s_stack_of_partner) := ⟨rfl, rfl, rfl, by decide +kernel, rfl, by decide +kernel, by decide +kernel⟩
theorem sc_may_pair : FnScope ["sort", "other", "sign", "both", "rest", "other_sign", "other_both", "other_rest"] ["sort", "other"] (defScope s_may_pair) := ⟨rfl, rfl, rfl, by decide +kernel, rfl, by decide +kernel, by decide +kernel⟩
theorem sc_take_both : FnScope ["partner", "run", "word", "many"] ["partner", "run"] (defScope s_take_both) := ⟨rfl, rfl, rfl, by decide +kernel, rfl, by decide +kernel, by decide +kernel⟩
theorem sc_built : FnScope ["row", "one", "open_rows", "word", "inner", "_"] ["row"] (defScope s_built) := ⟨rfl, rfl, rfl, by decide +kernel, rfl, by decide +kernel, by decide +kernel⟩
theorem sc_joined : FnScope ["row", "made", "texts", "one"] ["row"] (defScope s_joined) := ⟨rfl, rfl, rfl, by decide +kernel, rfl, by decide +kernel, by decide +kernel⟩
theorem sc_add_text : FnScope ["texts", "made", "words"] ["texts", "made"] (defScope s_add_text) := ⟨rfl, rfl, rfl, by decide +kernel, rfl, by decide +kernel, by decide +kernel⟩
theorem sc_scanned : FnScope ["content", "known", "scan", "sign", "step"] ["content", "known"] (defScope s_scanned) := ⟨rfl, rfl, rfl, by decide +kernel, rfl, by decide +kernel, by decide +kernel⟩
theorem sc_take_plain : FnScope ["scan", "content", "end", "words"] ["scan"] (defScope s_take_plain) := ⟨rfl, rfl, rfl, by decide +kernel, rfl, by decide +kernel, by decide +kernel⟩
theorem sc_take_backslash : FnScope ["scan", "content", "place"] ["scan"] (defScope s_take_backslash) := ⟨rfl, rfl, rfl, by decide +kernel, rfl, by decide +kernel, by decide +kernel⟩
theorem sc_take_backquotes : FnScope ["scan", "content", "place", "begin", "length", "later", "end"] ["scan"] (defScope s_take_backquotes) := ⟨rfl, rfl, rfl, by decide +kernel, rfl, by decide +kernel, by decide +kernel⟩
theorem sc_code_text : FnScope ["words"] ["words"] (defScope s_code_text) := ⟨rfl, rfl, rfl, by decide +kernel, rfl, by decide +kernel, by decide +kernel⟩
theorem sc_take_angle : FnScope ["scan", "content", "place", "link", "end", "behind", "destination", "words"] ["scan"] (defScope s_take_angle) := ⟨rfl, rfl, rfl, by decide +kernel, rfl, by decide +kernel, by decide +kernel⟩
theorem sc_take_reference : FnScope ["scan", "reference", "end", "sign"] ["scan"] (defScope s_take_reference) := ⟨rfl, rfl, rfl, by decide +kernel, rfl, by decide +kernel, by decide +kernel⟩
theorem sc_take_line_feed : FnScope ["scan", "content", "place", "word"] ["scan"] (defScope s_take_line_feed) := ⟨rfl, rfl, rfl, by decide +kernel, rfl, by decide +kernel, by decide +kernel⟩
theorem sc_take_run : FnScope ["scan", "end", "run"] ["scan"] (defScope s_take_run) := ⟨rfl, rfl, rfl, by decide +kernel, rfl, by decide +kernel, by decide +kernel⟩
theorem sc_take_bracket : FnScope ["scan"] ["scan"] (defScope s_take_bracket) := ⟨rfl, rfl, rfl, by decide +kernel, rfl, by decide +kernel, by decide +kernel⟩
theorem sc_take_exclamation : FnScope ["scan"] ["scan"] (defScope s_take_exclamation) := ⟨rfl, rfl, rfl, by decide +kernel, rfl, by decide +kernel, by decide +kernel⟩
theorem sc_note : FnScope ["scan", "words", "is_image", "index"] ["scan", "words", "is_image"] (defScope s_note) := ⟨rfl, rfl, rfl, by decide +kernel, rfl, by decide +kernel, by decide +kernel⟩
theorem sc_take_end : FnScope ["scan", "bracket", "found", "end", "destination", "title", "inner"] ["scan"] (defScope s_take_end) := ⟨rfl, rfl, rfl, by decide +kernel, rfl, by decide +kernel, by decide +kernel⟩
theorem sc_found_behind : FnScope ["scan", "bracket", "content", "end", "target", "label", "words", "meant", "destination", "title"] ["scan", "bracket"] (defScope s_found_behind) := ⟨rfl, rfl, rfl, by decide +kernel, rfl, by decide +kernel, by decide +kernel⟩
theorem sc_own_label : FnScope ["scan", "bracket", "content", "end", "label"] ["scan", "bracket"] (defScope s_own_label) := ⟨rfl, rfl, rfl, by decide +kernel, rfl, by decide +kernel, by decide +kernel⟩
theorem sc_check_source : FnScope ["text"] ["text"] (defScope s_check_source) := ⟨rfl, rfl, rfl, by decide +kernel, rfl, by decide +kernel, by decide +kernel⟩
theorem sc_inlines : FnScope ["content", "known"] ["content", "known"] (defScope s_inlines) := ⟨rfl, rfl, rfl, by decide +kernel, rfl, by decide +kernel, by decide +kernel⟩
theorem sc_is_known : FnScope ["thing", "label"] ["thing"] (defScope s_is_known) := ⟨rfl, rfl, rfl, by decide +kernel, rfl, by decide +kernel, by decide +kernel⟩
theorem sc_is_target : FnScope ["thing", "destination", "title"] ["thing"] (defScope s_is_target) := ⟨rfl, rfl, rfl, by decide +kernel, rfl, by decide +kernel, by decide +kernel⟩
theorem sc__law_state : FnScope ["_law_script", "_law_k", "_law_cell"] ["_law_script", "_law_k"] (defScope s__law_state) := ⟨rfl, rfl, rfl, by decide +kernel, rfl, by decide +kernel, by decide +kernel⟩
theorem sc__law_draw : FnScope ["_law_well", "_law_many", "_law_found", "_law_mixed"] ["_law_well", "_law_many"] (defScope s__law_draw) := ⟨rfl, rfl, rfl, by decide +kernel, rfl, by decide +kernel, by decide +kernel⟩
theorem sc__law_one : FnScope ["_law_well", "_law_some"] ["_law_well", "_law_some"] (defScope s__law_one) := ⟨rfl, rfl, rfl, by decide +kernel, rfl, by decide +kernel, by decide +kernel⟩
theorem sc__law_marks : FnScope [] [] (defScope s__law_marks) := ⟨rfl, rfl, rfl, by decide +kernel, rfl, by decide +kernel, by decide +kernel⟩
theorem sc__law_names : FnScope ["_law_some"] [] (defScope s__law_names) := ⟨rfl, rfl, rfl, by decide +kernel, rfl, by decide +kernel, by decide +kernel⟩
theorem sc__law_reference : FnScope ["_law_well", "_law_way", "_law_name", "_law_sign", "_law_number", "_law_some", "_law_figures", "_law_bad", "_law_said"] ["_law_well"] (defScope s__law_reference) := ⟨rfl, rfl, rfl, by decide +kernel, rfl, by decide +kernel, by decide +kernel⟩
theorem sc__law_piece : FnScope ["_law_well", "_law_way", "_law_sign", "_law_said"] ["_law_well"] (defScope s__law_piece) := ⟨rfl, rfl, rfl, by decide +kernel, rfl, by decide +kernel, by decide +kernel⟩
theorem sc__law_break : FnScope ["_law_well", "_law_some", "_law_said", "_law_word"] ["_law_well"] (defScope s__law_break) := ⟨rfl, rfl, rfl, by decide +kernel, rfl, by decide +kernel, by decide +kernel⟩
theorem sc__law_ends_right : FnScope ["_law_a", "_law_b", "_law_soft", "_law_rows", "_law_text", "_law_due"] [] (defScope s__law_ends_right) := ⟨rfl, rfl, rfl, by decide +kernel, rfl, by decide +kernel, by decide +kernel⟩
theorem sc_law : FnScope ["_law_script", "_law_k", "_law_well", "_law_turn", "_law_text", "_law_row", "_law_piece_here", "_law_said", "_law_due", "_law_word"] ["_law_script"] (defScope s_law) := ⟨rfl, rfl, rfl, by decide +kernel, rfl, by decide +kernel, by decide +kernel⟩
theorem sc_Bracket____init__ : FnScope ["self", "number", "index", "place", "is_image"] ["self", "number", "index", "place", "is_image"] (defScope s_Bracket____init__) := ⟨rfl, rfl, rfl, by decide +kernel, rfl, by decide +kernel, by decide +kernel⟩
theorem sc_Scan____init__ : FnScope ["self", "content", "known", "strings", "length"] ["self", "content", "known"] (defScope s_Scan____init__) := ⟨rfl, rfl, rfl, by decide +kernel, rfl, by decide +kernel, by decide +kernel⟩
theorem sc_Scan__put : FnScope ["self", "one", "end"] ["self", "one", "end"] (defScope s_Scan__put) := ⟨rfl, rfl, rfl, by decide +kernel, rfl, by decide +kernel, by decide +kernel⟩
theorem sc_Scan__put_text : FnScope ["self", "words"] ["self", "words"] (defScope s_Scan__put_text) := ⟨rfl, rfl, rfl, by decide +kernel, rfl, by decide +kernel, by decide +kernel⟩
theorem sc_Scan__is_active : FnScope ["self", "bracket"] ["self", "bracket"] (defScope s_Scan__is_active) := ⟨rfl, rfl, rfl, by decide +kernel, rfl, by decide +kernel, by decide +kernel⟩
theorem sc_Run____init__ : FnScope ["self", "sign", "length", "opens", "closes"] ["self", "sign", "length", "opens", "closes"] (defScope s_Run____init__) := ⟨rfl, rfl, rfl, by decide +kernel, rfl, by decide +kernel, by decide +kernel⟩
theorem sc_Run__is_both : FnScope ["self"] ["self"] (defScope s_Run__is_both) := ⟨rfl, rfl, rfl, by decide +kernel, rfl, by decide +kernel, by decide +kernel⟩
set_option maxHeartbeats 4000000 in
structure Txt (w : World) (K : PySem.W.Frag) (mg : Str → Option Value) where
  a_behind_all : Addr
  d_behind_all : FuncData
  f_behind_all : Fun K "behind_all" "behind_all" s_behind_all a_behind_all d_behind_all
  g_behind_all : mg "behind_all" = some (.ref a_behind_all)
  b_behind_all : Binds K d_behind_all ["signs", "text", "place"] []
  a_behind_gap : Addr
  d_behind_gap : FuncData
  f_behind_gap : Fun K "behind_gap" "behind_gap" s_behind_gap a_behind_gap d_behind_gap
  g_behind_gap : mg "behind_gap" = some (.ref a_behind_gap)
  b_behind_gap : Binds K d_behind_gap ["text", "place"] []
  a_behind_first : Addr
  d_behind_first : FuncData
  f_behind_first : Fun K "behind_first" "behind_first" s_behind_first a_behind_first d_behind_first
  g_behind_first : mg "behind_first" = some (.ref a_behind_first)
  b_behind_first : Binds K d_behind_first ["words", "text", "place"] []
  a_behind_sign : Addr
  d_behind_sign : FuncData
  f_behind_sign : Fun K "behind_sign" "behind_sign" s_behind_sign a_behind_sign d_behind_sign
  g_behind_sign : mg "behind_sign" = some (.ref a_behind_sign)
  b_behind_sign : Binds K d_behind_sign ["sign", "text", "place"] []
  a_is_escape : Addr
  d_is_escape : FuncData
  f_is_escape : Fun K "is_escape" "is_escape" s_is_escape a_is_escape d_is_escape
  g_is_escape : mg "is_escape" = some (.ref a_is_escape)
  b_is_escape : Binds K d_is_escape ["text", "place"] []
  a_first_plain : Addr
  d_first_plain : FuncData
  f_first_plain : Fun K "first_plain" "first_plain" s_first_plain a_first_plain d_first_plain
  g_first_plain : mg "first_plain" = some (.ref a_first_plain)
  b_first_plain : Binds K d_first_plain ["signs", "text", "place"] []
  a_strings_in : Addr
  d_strings_in : FuncData
  f_strings_in : Fun K "strings_in" "strings_in" s_strings_in a_strings_in d_strings_in
  g_strings_in : mg "strings_in" = some (.ref a_strings_in)
  b_strings_in : Binds K d_strings_in ["text"] []
  a_reference_at : Addr
  d_reference_at : FuncData
  f_reference_at : Fun K "reference_at" "reference_at" s_reference_at a_reference_at d_reference_at
  g_reference_at : mg "reference_at" = some (.ref a_reference_at)
  b_reference_at : Binds K d_reference_at ["text", "place"] []
  a_decoded : Addr
  d_decoded : FuncData
  f_decoded : Fun K "decoded" "decoded" s_decoded a_decoded d_decoded
  g_decoded : mg "decoded" = some (.ref a_decoded)
  b_decoded : Binds K d_decoded ["text"] []
  a_decoded_at : Addr
  d_decoded_at : FuncData
  f_decoded_at : Fun K "decoded_at" "decoded_at" s_decoded_at a_decoded_at d_decoded_at
  g_decoded_at : mg "decoded_at" = some (.ref a_decoded_at)
  b_decoded_at : Binds K d_decoded_at ["text", "place"] []
  a_sign_meant : Addr
  d_sign_meant : FuncData
  f_sign_meant : Fun K "sign_meant" "sign_meant" s_sign_meant a_sign_meant d_sign_meant
  g_sign_meant : mg "sign_meant" = some (.ref a_sign_meant)
  b_sign_meant : Binds K d_sign_meant ["words"] []
  a_number_in : Addr
  d_number_in : FuncData
  f_number_in : Fun K "number_in" "number_in" s_number_in a_number_in d_number_in
  g_number_in : mg "number_in" = some (.ref a_number_in)
  b_number_in : Binds K d_number_in ["digits", "signs", "base"] []
  a_sign_of : Addr
  d_sign_of : FuncData
  f_sign_of : Fun K "sign_of" "sign_of" s_sign_of a_sign_of d_sign_of
  g_sign_of : mg "sign_of" = some (.ref a_sign_of)
  b_sign_of : Binds K d_sign_of ["number"] []
  a_normalised : Addr
  d_normalised : FuncData
  f_normalised : Fun K "normalised" "normalised" s_normalised a_normalised d_normalised
  g_normalised : mg "normalised" = some (.ref a_normalised)
  b_normalised : Binds K d_normalised ["text"] []
  a_is_label_text : Addr
  d_is_label_text : FuncData
  f_is_label_text : Fun K "is_label_text" "is_label_text" s_is_label_text a_is_label_text d_is_label_text
  g_is_label_text : mg "is_label_text" = some (.ref a_is_label_text)
  b_is_label_text : Binds K d_is_label_text ["thing"] []
  a_is_label : Addr
  d_is_label : FuncData
  f_is_label : Fun K "is_label" "is_label" s_is_label a_is_label d_is_label
  g_is_label : mg "is_label" = some (.ref a_is_label)
  b_is_label : Binds K d_is_label ["thing"] []
  a_label_at : Addr
  d_label_at : FuncData
  f_label_at : Fun K "label_at" "label_at" s_label_at a_label_at d_label_at
  g_label_at : mg "label_at" = some (.ref a_label_at)
  b_label_at : Binds K d_label_at ["text", "place"] []
  a_target_at : Addr
  d_target_at : FuncData
  f_target_at : Fun K "target_at" "target_at" s_target_at a_target_at d_target_at
  g_target_at : mg "target_at" = some (.ref a_target_at)
  b_target_at : Binds K d_target_at ["text", "place"] []
  a_title_or_none : Addr
  d_title_or_none : FuncData
  f_title_or_none : Fun K "title_or_none" "title_or_none" s_title_or_none a_title_or_none d_title_or_none
  g_title_or_none : mg "title_or_none" = some (.ref a_title_or_none)
  b_title_or_none : Binds K d_title_or_none ["text", "place"] []
  a_destination_at : Addr
  d_destination_at : FuncData
  f_destination_at : Fun K "destination_at" "destination_at" s_destination_at a_destination_at d_destination_at
  g_destination_at : mg "destination_at" = some (.ref a_destination_at)
  b_destination_at : Binds K d_destination_at ["text", "place"] []
  a_title_at : Addr
  d_title_at : FuncData
  f_title_at : Fun K "title_at" "title_at" s_title_at a_title_at d_title_at
  g_title_at : mg "title_at" = some (.ref a_title_at)
  b_title_at : Binds K d_title_at ["text", "place"] []
  a_enclosed_at : Addr
  d_enclosed_at : FuncData
  f_enclosed_at : Fun K "enclosed_at" "enclosed_at" s_enclosed_at a_enclosed_at d_enclosed_at
  g_enclosed_at : mg "enclosed_at" = some (.ref a_enclosed_at)
  b_enclosed_at : Binds K d_enclosed_at ["barred", "closing", "text", "place"] []
  a_behind_bare : Addr
  d_behind_bare : FuncData
  f_behind_bare : Fun K "behind_bare" "behind_bare" s_behind_bare a_behind_bare d_behind_bare
  g_behind_bare : mg "behind_bare" = some (.ref a_behind_bare)
  b_behind_bare : Binds K d_behind_bare ["text", "place"] []
  a_tag_at : Addr
  d_tag_at : FuncData
  f_tag_at : Fun K "tag_at" "tag_at" s_tag_at a_tag_at d_tag_at
  g_tag_at : mg "tag_at" = some (.ref a_tag_at)
  b_tag_at : Binds K d_tag_at ["text", "place"] []
  a_open_tag_at : Addr
  d_open_tag_at : FuncData
  f_open_tag_at : Fun K "open_tag_at" "open_tag_at" s_open_tag_at a_open_tag_at d_open_tag_at
  g_open_tag_at : mg "open_tag_at" = some (.ref a_open_tag_at)
  b_open_tag_at : Binds K d_open_tag_at ["text", "place"] []
  a_closing_tag_at : Addr
  d_closing_tag_at : FuncData
  f_closing_tag_at : Fun K "closing_tag_at" "closing_tag_at" s_closing_tag_at a_closing_tag_at d_closing_tag_at
  g_closing_tag_at : mg "closing_tag_at" = some (.ref a_closing_tag_at)
  b_closing_tag_at : Binds K d_closing_tag_at ["text", "place"] []
  a_attribute_at : Addr
  d_attribute_at : FuncData
  f_attribute_at : Fun K "attribute_at" "attribute_at" s_attribute_at a_attribute_at d_attribute_at
  g_attribute_at : mg "attribute_at" = some (.ref a_attribute_at)
  b_attribute_at : Binds K d_attribute_at ["text", "place"] []
  a_value_at : Addr
  d_value_at : FuncData
  f_value_at : Fun K "value_at" "value_at" s_value_at a_value_at d_value_at
  g_value_at : mg "value_at" = some (.ref a_value_at)
  b_value_at : Binds K d_value_at ["text", "place"] []
  a_name_at : Addr
  d_name_at : FuncData
  f_name_at : Fun K "name_at" "name_at" s_name_at a_name_at d_name_at
  g_name_at : mg "name_at" = some (.ref a_name_at)
  b_name_at : Binds K d_name_at ["text", "place"] []
  a_is_letter : Addr
  d_is_letter : FuncData
  f_is_letter : Fun K "is_letter" "is_letter" s_is_letter a_is_letter d_is_letter
  g_is_letter : mg "is_letter" = some (.ref a_is_letter)
  b_is_letter : Binds K d_is_letter ["text", "place"] []
  a_autolink_at : Addr
  d_autolink_at : FuncData
  f_autolink_at : Fun K "autolink_at" "autolink_at" s_autolink_at a_autolink_at d_autolink_at
  g_autolink_at : mg "autolink_at" = some (.ref a_autolink_at)
  b_autolink_at : Binds K d_autolink_at ["text", "place"] []
  a_begins_with_scheme : Addr
  d_begins_with_scheme : FuncData
  f_begins_with_scheme : Fun K "begins_with_scheme" "begins_with_scheme" s_begins_with_scheme a_begins_with_scheme d_begins_with_scheme
  g_begins_with_scheme : mg "begins_with_scheme" = some (.ref a_begins_with_scheme)
  b_begins_with_scheme : Binds K d_begins_with_scheme ["words"] []
  a_is_address : Addr
  d_is_address : FuncData
  f_is_address : Fun K "is_address" "is_address" s_is_address a_is_address d_is_address
  g_is_address : mg "is_address" = some (.ref a_is_address)
  b_is_address : Binds K d_is_address ["words"] []
  a_is_part : Addr
  d_is_part : FuncData
  f_is_part : Fun K "is_part" "is_part" s_is_part a_is_part d_is_part
  g_is_part : mg "is_part" = some (.ref a_is_part)
  b_is_part : Binds K d_is_part ["words"] []
  a_run_at : Addr
  d_run_at : FuncData
  f_run_at : Fun K "run_at" "run_at" s_run_at a_run_at d_run_at
  g_run_at : mg "run_at" = some (.ref a_run_at)
  b_run_at : Binds K d_run_at ["content", "place"] []
  a_kind_of : Addr
  d_kind_of : FuncData
  f_kind_of : Fun K "kind_of" "kind_of" s_kind_of a_kind_of d_kind_of
  g_kind_of : mg "kind_of" = some (.ref a_kind_of)
  b_kind_of : Binds K d_kind_of ["sign"] []
  a_pair : Addr
  d_pair : FuncData
  f_pair : Fun K "pair" "pair" s_pair a_pair d_pair
  g_pair : mg "pair" = some (.ref a_pair)
  b_pair : Binds K d_pair ["runs"] []
  a_sort_of : Addr
  d_sort_of : FuncData
  f_sort_of : Fun K "sort_of" "sort_of" s_sort_of a_sort_of d_sort_of
  g_sort_of : mg "sort_of" = some (.ref a_sort_of)
  b_sort_of : Binds K d_sort_of ["run"] []
  a_stack_of_partner : Addr
  d_stack_of_partner : FuncData
  f_stack_of_partner : Fun K "stack_of_partner" "stack_of_partner" s_stack_of_partner a_stack_of_partner d_stack_of_partner
  g_stack_of_partner : mg "stack_of_partner" = some (.ref a_stack_of_partner)
  b_stack_of_partner : Binds K d_stack_of_partner ["run", "stacks"] []
  a_may_pair : Addr
  d_may_pair : FuncData
  f_may_pair : Fun K "may_pair" "may_pair" s_may_pair a_may_pair d_may_pair
  g_may_pair : mg "may_pair" = some (.ref a_may_pair)
  b_may_pair : Binds K d_may_pair ["sort", "other"] []
  a_take_both : Addr
  d_take_both : FuncData
  f_take_both : Fun K "take_both" "take_both" s_take_both a_take_both d_take_both
  g_take_both : mg "take_both" = some (.ref a_take_both)
  b_take_both : Binds K d_take_both ["partner", "run"] []
  a_built : Addr
  d_built : FuncData
  f_built : Fun K "built" "built" s_built a_built d_built
  g_built : mg "built" = some (.ref a_built)
  b_built : Binds K d_built ["row"] []
  a_joined : Addr
  d_joined : FuncData
  f_joined : Fun K "joined" "joined" s_joined a_joined d_joined
  g_joined : mg "joined" = some (.ref a_joined)
  b_joined : Binds K d_joined ["row"] []
  a_add_text : Addr
  d_add_text : FuncData
  f_add_text : Fun K "add_text" "add_text" s_add_text a_add_text d_add_text
  g_add_text : mg "add_text" = some (.ref a_add_text)
  b_add_text : Binds K d_add_text ["texts", "made"] []
  a_scanned : Addr
  d_scanned : FuncData
  f_scanned : Fun K "scanned" "scanned" s_scanned a_scanned d_scanned
  g_scanned : mg "scanned" = some (.ref a_scanned)
  b_scanned : Binds K d_scanned ["content", "known"] []
  a_take_plain : Addr
  d_take_plain : FuncData
  f_take_plain : Fun K "take_plain" "take_plain" s_take_plain a_take_plain d_take_plain
  g_take_plain : mg "take_plain" = some (.ref a_take_plain)
  b_take_plain : Binds K d_take_plain ["scan"] []
  a_take_backslash : Addr
  d_take_backslash : FuncData
  f_take_backslash : Fun K "take_backslash" "take_backslash" s_take_backslash a_take_backslash d_take_backslash
  g_take_backslash : mg "take_backslash" = some (.ref a_take_backslash)
  b_take_backslash : Binds K d_take_backslash ["scan"] []
  a_take_backquotes : Addr
  d_take_backquotes : FuncData
  f_take_backquotes : Fun K "take_backquotes" "take_backquotes" s_take_backquotes a_take_backquotes d_take_backquotes
  g_take_backquotes : mg "take_backquotes" = some (.ref a_take_backquotes)
  b_take_backquotes : Binds K d_take_backquotes ["scan"] []
  a_code_text : Addr
  d_code_text : FuncData
  f_code_text : Fun K "code_text" "code_text" s_code_text a_code_text d_code_text
  g_code_text : mg "code_text" = some (.ref a_code_text)
  b_code_text : Binds K d_code_text ["words"] []
  a_take_angle : Addr
  d_take_angle : FuncData
  f_take_angle : Fun K "take_angle" "take_angle" s_take_angle a_take_angle d_take_angle
  g_take_angle : mg "take_angle" = some (.ref a_take_angle)
  b_take_angle : Binds K d_take_angle ["scan"] []
  a_take_reference : Addr
  d_take_reference : FuncData
  f_take_reference : Fun K "take_reference" "take_reference" s_take_reference a_take_reference d_take_reference
  g_take_reference : mg "take_reference" = some (.ref a_take_reference)
  b_take_reference : Binds K d_take_reference ["scan"] []
  a_take_line_feed : Addr
  d_take_line_feed : FuncData
  f_take_line_feed : Fun K "take_line_feed" "take_line_feed" s_take_line_feed a_take_line_feed d_take_line_feed
  g_take_line_feed : mg "take_line_feed" = some (.ref a_take_line_feed)
  b_take_line_feed : Binds K d_take_line_feed ["scan"] []
  a_take_run : Addr
  d_take_run : FuncData
  f_take_run : Fun K "take_run" "take_run" s_take_run a_take_run d_take_run
  g_take_run : mg "take_run" = some (.ref a_take_run)
  b_take_run : Binds K d_take_run ["scan"] []
  a_take_bracket : Addr
  d_take_bracket : FuncData
  f_take_bracket : Fun K "take_bracket" "take_bracket" s_take_bracket a_take_bracket d_take_bracket
  g_take_bracket : mg "take_bracket" = some (.ref a_take_bracket)
  b_take_bracket : Binds K d_take_bracket ["scan"] []
  a_take_exclamation : Addr
  d_take_exclamation : FuncData
  f_take_exclamation : Fun K "take_exclamation" "take_exclamation" s_take_exclamation a_take_exclamation d_take_exclamation
  g_take_exclamation : mg "take_exclamation" = some (.ref a_take_exclamation)
  b_take_exclamation : Binds K d_take_exclamation ["scan"] []
  a_note : Addr
  d_note : FuncData
  f_note : Fun K "note" "note" s_note a_note d_note
  g_note : mg "note" = some (.ref a_note)
  b_note : Binds K d_note ["scan", "words", "is_image"] []
  a_take_end : Addr
  d_take_end : FuncData
  f_take_end : Fun K "take_end" "take_end" s_take_end a_take_end d_take_end
  g_take_end : mg "take_end" = some (.ref a_take_end)
  b_take_end : Binds K d_take_end ["scan"] []
  a_found_behind : Addr
  d_found_behind : FuncData
  f_found_behind : Fun K "found_behind" "found_behind" s_found_behind a_found_behind d_found_behind
  g_found_behind : mg "found_behind" = some (.ref a_found_behind)
  b_found_behind : Binds K d_found_behind ["scan", "bracket"] []
  a_own_label : Addr
  d_own_label : FuncData
  f_own_label : Fun K "own_label" "own_label" s_own_label a_own_label d_own_label
  g_own_label : mg "own_label" = some (.ref a_own_label)
  b_own_label : Binds K d_own_label ["scan", "bracket"] []
  a_check_source : Addr
  d_check_source : FuncData
  f_check_source : Fun K "check_source" "check_source" s_check_source a_check_source d_check_source
  g_check_source : mg "check_source" = some (.ref a_check_source)
  b_check_source : Binds K d_check_source ["text"] []
  a_inlines : Addr
  d_inlines : FuncData
  f_inlines : FunD K "inlines" "inlines" (defArgs s_inlines) (defBody s_inlines) (defScope s_inlines) [.non] [] a_inlines d_inlines
  g_inlines : mg "inlines" = some (.ref a_inlines)
  bd_inlines : Binds K d_inlines ["content", "known"] [.none]
  a_is_known : Addr
  d_is_known : FuncData
  f_is_known : Fun K "is_known" "is_known" s_is_known a_is_known d_is_known
  g_is_known : mg "is_known" = some (.ref a_is_known)
  b_is_known : Binds K d_is_known ["thing"] []
  a_is_target : Addr
  d_is_target : FuncData
  f_is_target : Fun K "is_target" "is_target" s_is_target a_is_target d_is_target
  g_is_target : mg "is_target" = some (.ref a_is_target)
  b_is_target : Binds K d_is_target ["thing"] []
  a__law_state : Addr
  d__law_state : FuncData
  f__law_state : Fun K "_law_state" "_law_state" s__law_state a__law_state d__law_state
  g__law_state : mg "_law_state" = some (.ref a__law_state)
  b__law_state : Binds K d__law_state ["_law_script", "_law_k"] []
  a__law_draw : Addr
  d__law_draw : FuncData
  f__law_draw : Fun K "_law_draw" "_law_draw" s__law_draw a__law_draw d__law_draw
  g__law_draw : mg "_law_draw" = some (.ref a__law_draw)
  b__law_draw : Binds K d__law_draw ["_law_well", "_law_many"] []
  a__law_one : Addr
  d__law_one : FuncData
  f__law_one : Fun K "_law_one" "_law_one" s__law_one a__law_one d__law_one
  g__law_one : mg "_law_one" = some (.ref a__law_one)
  b__law_one : Binds K d__law_one ["_law_well", "_law_some"] []
  a__law_marks : Addr
  d__law_marks : FuncData
  f__law_marks : Fun K "_law_marks" "_law_marks" s__law_marks a__law_marks d__law_marks
  g__law_marks : mg "_law_marks" = some (.ref a__law_marks)
  b__law_marks : Binds K d__law_marks [] []
  a__law_names : Addr
  d__law_names : FuncData
  f__law_names : Fun K "_law_names" "_law_names" s__law_names a__law_names d__law_names
  g__law_names : mg "_law_names" = some (.ref a__law_names)
  b__law_names : Binds K d__law_names [] []
  a__law_reference : Addr
  d__law_reference : FuncData
  f__law_reference : Fun K "_law_reference" "_law_reference" s__law_reference a__law_reference d__law_reference
  g__law_reference : mg "_law_reference" = some (.ref a__law_reference)
  b__law_reference : Binds K d__law_reference ["_law_well"] []
  a__law_piece : Addr
  d__law_piece : FuncData
  f__law_piece : Fun K "_law_piece" "_law_piece" s__law_piece a__law_piece d__law_piece
  g__law_piece : mg "_law_piece" = some (.ref a__law_piece)
  b__law_piece : Binds K d__law_piece ["_law_well"] []
  a__law_break : Addr
  d__law_break : FuncData
  f__law_break : Fun K "_law_break" "_law_break" s__law_break a__law_break d__law_break
  g__law_break : mg "_law_break" = some (.ref a__law_break)
  b__law_break : Binds K d__law_break ["_law_well"] []
  a__law_ends_right : Addr
  d__law_ends_right : FuncData
  f__law_ends_right : Fun K "_law_ends_right" "_law_ends_right" s__law_ends_right a__law_ends_right d__law_ends_right
  g__law_ends_right : mg "_law_ends_right" = some (.ref a__law_ends_right)
  b__law_ends_right : Binds K d__law_ends_right [] []
  a_Bracket____init__ : Addr
  d_Bracket____init__ : FuncData
  f_Bracket____init__ : Fun K "__init__" "Bracket.__init__" s_Bracket____init__ a_Bracket____init__ d_Bracket____init__
  b_Bracket____init__ : Binds K d_Bracket____init__ ["self", "number", "index", "place", "is_image"] []
  a_Scan____init__ : Addr
  d_Scan____init__ : FuncData
  f_Scan____init__ : Fun K "__init__" "Scan.__init__" s_Scan____init__ a_Scan____init__ d_Scan____init__
  b_Scan____init__ : Binds K d_Scan____init__ ["self", "content", "known"] []
  a_Scan__put : Addr
  d_Scan__put : FuncData
  f_Scan__put : Fun K "put" "Scan.put" s_Scan__put a_Scan__put d_Scan__put
  b_Scan__put : Binds K d_Scan__put ["self", "one", "end"] []
  a_Scan__put_text : Addr
  d_Scan__put_text : FuncData
  f_Scan__put_text : Fun K "put_text" "Scan.put_text" s_Scan__put_text a_Scan__put_text d_Scan__put_text
  b_Scan__put_text : Binds K d_Scan__put_text ["self", "words"] []
  a_Scan__is_active : Addr
  d_Scan__is_active : FuncData
  f_Scan__is_active : Fun K "is_active" "Scan.is_active" s_Scan__is_active a_Scan__is_active d_Scan__is_active
  b_Scan__is_active : Binds K d_Scan__is_active ["self", "bracket"] []
  a_Run____init__ : Addr
  d_Run____init__ : FuncData
  f_Run____init__ : Fun K "__init__" "Run.__init__" s_Run____init__ a_Run____init__ d_Run____init__
  b_Run____init__ : Binds K d_Run____init__ ["self", "sign", "length", "opens", "closes"] []
  a_Run__is_both : Addr
  d_Run__is_both : FuncData
  f_Run__is_both : Fun K "is_both" "Run.is_both" s_Run__is_both a_Run__is_both d_Run__is_both
  b_Run__is_both : Binds K d_Run__is_both ["self"] []
  c_Bracket : Addr
  gc_Bracket : mg "Bracket" = some (.ref c_Bracket)
  cl_Bracket : Cls K c_Bracket
  na_Bracket_number : NoAttr K c_Bracket "number"
  na_Bracket_index : NoAttr K c_Bracket "index"
  na_Bracket_place : NoAttr K c_Bracket "place"
  na_Bracket_is_image : NoAttr K c_Bracket "is_image"
  mk_Bracket : Mk K c_Bracket a_Bracket____init__
  c_Scan : Addr
  gc_Scan : mg "Scan" = some (.ref c_Scan)
  cl_Scan : Cls K c_Scan
  na_Scan_content : NoAttr K c_Scan "content"
  na_Scan_known : NoAttr K c_Scan "known"
  na_Scan_place : NoAttr K c_Scan "place"
  na_Scan_row : NoAttr K c_Scan "row"
  na_Scan_plain : NoAttr K c_Scan "plain"
  na_Scan_brackets : NoAttr K c_Scan "brackets"
  na_Scan_noted : NoAttr K c_Scan "noted"
  na_Scan_bar : NoAttr K c_Scan "bar"
  na_Scan_strings : NoAttr K c_Scan "strings"
  me_Scan__put : Meth K c_Scan "put" a_Scan__put
  me_Scan__put_text : Meth K c_Scan "put_text" a_Scan__put_text
  me_Scan__is_active : Meth K c_Scan "is_active" a_Scan__is_active
  mk_Scan : Mk K c_Scan a_Scan____init__
  c_Run : Addr
  gc_Run : mg "Run" = some (.ref c_Run)
  cl_Run : Cls K c_Run
  na_Run_sign : NoAttr K c_Run "sign"
  na_Run_length : NoAttr K c_Run "length"
  na_Run_left : NoAttr K c_Run "left"
  na_Run_opens : NoAttr K c_Run "opens"
  na_Run_closes : NoAttr K c_Run "closes"
  na_Run_ended : NoAttr K c_Run "ended"
  na_Run_begun : NoAttr K c_Run "begun"
  me_Run__is_both : Meth K c_Run "is_both" a_Run__is_both
  mk_Run : Mk K c_Run a_Run____init__
  kit_Run_tuple : PySem.W.kitOne K (.type "tuple") (.ref c_Run) = some false
  z_abs : mg "abs" = none
  z_all : mg "all" = none
  z_dict : mg "dict" = none
  z_enumerate : mg "enumerate" = none
  z_int : mg "int" = none
  z_isinstance : mg "isinstance" = none
  z_len : mg "len" = none
  z_list : mg "list" = none
  z_max : mg "max" = none
  z_min : mg "min" = none
  z_ord : mg "ord" = none
  z_range : mg "range" = none
  z_str : mg "str" = none
  z_tuple : mg "tuple" = none
  z_zip : mg "zip" = none
  t_INLINE_WHITE : Tok
  g_INLINE_WHITE : mg "INLINE_WHITE" = some (.str " \t\n" t_INLINE_WHITE)
  t_PUNCTUATION : Tok
  g_PUNCTUATION : mg "PUNCTUATION" = some (.str "!\"#$&'()*+,-./:;<=>?\x40[\\]^_{|}~`" t_PUNCTUATION)
  a_NAMES : Addr
  g_NAMES : mg "NAMES" = some (.ref a_NAMES)
  k_NAMES : KDictS K w a_NAMES [("amp", .str "&"), ("lt", .str "<"), ("gt", .str ">"), ("quot", .str "\""), ("apos", .str "'"), ("num", .str "#"), ("ast", .str "*"), ("lowbar", .str "_"), ("grave", .str "`"), ("lsqb", .str "["), ("rsqb", .str "]"), ("lpar", .str "("), ("rpar", .str ")"), ("lcub", .str "{"), ("rcub", .str "}"), ("bsol", .str "\\"), ("excl", .str "!"), ("Tab", .str "\t"), ("NewLine", .str "\n")]
  a_SIGN_ROWS : Addr
  (e_SIGN_ROWS_0 e_SIGN_ROWS_1 e_SIGN_ROWS_2 : Addr)
  o_SIGN_ROWS : Option Addr
  n_SIGN_ROWS : Nat
  w_SIGN_ROWS : Array (Option Value)
  g_SIGN_ROWS : mg "SIGN_ROWS" = some (.ref a_SIGN_ROWS)
  l_SIGN_ROWS : K.lookup a_SIGN_ROWS = some ⟨.type "tuple", o_SIGN_ROWS, .seq #[.ref e_SIGN_ROWS_0, .ref e_SIGN_ROWS_1, .ref e_SIGN_ROWS_2] n_SIGN_ROWS, w_SIGN_ROWS⟩
  o_SIGN_ROWS_0 : Option Addr
  n_SIGN_ROWS_0 : Nat
  w_SIGN_ROWS_0 : Array (Option Value)
  (u_SIGN_ROWS_0_0 u_SIGN_ROWS_0_1 : Tok)
  l_SIGN_ROWS_0 : K.lookup e_SIGN_ROWS_0 = some ⟨.type "tuple", o_SIGN_ROWS_0, .seq #[.int 9 u_SIGN_ROWS_0_0, .str "\t\n" u_SIGN_ROWS_0_1] n_SIGN_ROWS_0, w_SIGN_ROWS_0⟩
  o_SIGN_ROWS_1 : Option Addr
  n_SIGN_ROWS_1 : Nat
  w_SIGN_ROWS_1 : Array (Option Value)
  (u_SIGN_ROWS_1_0 u_SIGN_ROWS_1_1 : Tok)
  l_SIGN_ROWS_1 : K.lookup e_SIGN_ROWS_1 = some ⟨.type "tuple", o_SIGN_ROWS_1, .seq #[.int 32 u_SIGN_ROWS_1_0, .str " !\"#$" u_SIGN_ROWS_1_1] n_SIGN_ROWS_1, w_SIGN_ROWS_1⟩
  o_SIGN_ROWS_2 : Option Addr
  n_SIGN_ROWS_2 : Nat
  w_SIGN_ROWS_2 : Array (Option Value)
  (u_SIGN_ROWS_2_0 u_SIGN_ROWS_2_1 : Tok)
  l_SIGN_ROWS_2 : K.lookup e_SIGN_ROWS_2 = some ⟨.type "tuple", o_SIGN_ROWS_2, .seq #[.int 38 u_SIGN_ROWS_2_0, .str "&'()*+,-./0123456789:;<=>?@ABCDEFGHIJKLMNOPQRSTUVWXYZ[\\]^_`abcdefghijklmnopqrstuvwxyz{|}~" u_SIGN_ROWS_2_1] n_SIGN_ROWS_2, w_SIGN_ROWS_2⟩
  t_LONGEST : Tok
  g_LONGEST : mg "LONGEST" = some (.int 10 t_LONGEST)
  t_LONGEST_LABEL : Tok
  g_LONGEST_LABEL : mg "LONGEST_LABEL" = some (.int 999 t_LONGEST_LABEL)
  t_MOST_BRACKETS : Tok
  g_MOST_BRACKETS : mg "MOST_BRACKETS" = some (.int 32 t_MOST_BRACKETS)
  t_BARE_ENDS : Tok
  g_BARE_ENDS : mg "BARE_ENDS" = some (.str " \t\n()" t_BARE_ENDS)
  a_TITLE_SIGNS : Addr
  g_TITLE_SIGNS : mg "TITLE_SIGNS" = some (.ref a_TITLE_SIGNS)
  (e_TITLE_SIGNS_0 e_TITLE_SIGNS_1 e_TITLE_SIGNS_2 : Addr)
  k_TITLE_SIGNS : KDictS K w a_TITLE_SIGNS [("\"", .ref e_TITLE_SIGNS_0), ("'", .ref e_TITLE_SIGNS_1), ("(", .ref e_TITLE_SIGNS_2)]
  o_TITLE_SIGNS_0 : Option Addr
  n_TITLE_SIGNS_0 : Nat
  w_TITLE_SIGNS_0 : Array (Option Value)
  (u_TITLE_SIGNS_0_0 u_TITLE_SIGNS_0_1 : Tok)
  l_TITLE_SIGNS_0 : K.lookup e_TITLE_SIGNS_0 = some ⟨.type "tuple", o_TITLE_SIGNS_0, .seq #[.str "\"" u_TITLE_SIGNS_0_0, .str "\"" u_TITLE_SIGNS_0_1] n_TITLE_SIGNS_0, w_TITLE_SIGNS_0⟩
  o_TITLE_SIGNS_1 : Option Addr
  n_TITLE_SIGNS_1 : Nat
  w_TITLE_SIGNS_1 : Array (Option Value)
  (u_TITLE_SIGNS_1_0 u_TITLE_SIGNS_1_1 : Tok)
  l_TITLE_SIGNS_1 : K.lookup e_TITLE_SIGNS_1 = some ⟨.type "tuple", o_TITLE_SIGNS_1, .seq #[.str "'" u_TITLE_SIGNS_1_0, .str "'" u_TITLE_SIGNS_1_1] n_TITLE_SIGNS_1, w_TITLE_SIGNS_1⟩
  o_TITLE_SIGNS_2 : Option Addr
  n_TITLE_SIGNS_2 : Nat
  w_TITLE_SIGNS_2 : Array (Option Value)
  (u_TITLE_SIGNS_2_0 u_TITLE_SIGNS_2_1 : Tok)
  l_TITLE_SIGNS_2 : K.lookup e_TITLE_SIGNS_2 = some ⟨.type "tuple", o_TITLE_SIGNS_2, .seq #[.str "()" u_TITLE_SIGNS_2_0, .str ")" u_TITLE_SIGNS_2_1] n_TITLE_SIGNS_2, w_TITLE_SIGNS_2⟩
  t_WHITE : Tok
  g_WHITE : mg "WHITE" = some (.str " \t" t_WHITE)
  t_LETTERS : Tok
  g_LETTERS : mg "LETTERS" = some (.str "abcdefghijklmnopqrstuvwxyzABCDEFGHIJKLMNOPQRSTUVWXYZ" t_LETTERS)
  t_NAME_SIGNS : Tok
  g_NAME_SIGNS : mg "NAME_SIGNS" = some (.str "abcdefghijklmnopqrstuvwxyzABCDEFGHIJKLMNOPQRSTUVWXYZ0123456789-" t_NAME_SIGNS)
  t_KEY_SIGNS : Tok
  g_KEY_SIGNS : mg "KEY_SIGNS" = some (.str "abcdefghijklmnopqrstuvwxyzABCDEFGHIJKLMNOPQRSTUVWXYZ0123456789_.:-" t_KEY_SIGNS)
  t_NO_BARE_SIGNS : Tok
  g_NO_BARE_SIGNS : mg "NO_BARE_SIGNS" = some (.str " \t\n\"'=<>`" t_NO_BARE_SIGNS)
  t_SCHEME_SIGNS : Tok
  g_SCHEME_SIGNS : mg "SCHEME_SIGNS" = some (.str "abcdefghijklmnopqrstuvwxyzABCDEFGHIJKLMNOPQRSTUVWXYZ0123456789+.-" t_SCHEME_SIGNS)
  t_LOCAL_SIGNS : Tok
  g_LOCAL_SIGNS : mg "LOCAL_SIGNS" = some (.str "abcdefghijklmnopqrstuvwxyzABCDEFGHIJKLMNOPQRSTUVWXYZ0123456789.!#$&'*+/=?^_`{|}~-" t_LOCAL_SIGNS)
  t_PART_SIGNS : Tok
  g_PART_SIGNS : mg "PART_SIGNS" = some (.str "abcdefghijklmnopqrstuvwxyzABCDEFGHIJKLMNOPQRSTUVWXYZ0123456789-" t_PART_SIGNS)
  t_ENDS : Tok
  g_ENDS : mg "ENDS" = some (.str " \t\n<>" t_ENDS)
  t_SHORTEST_SCHEME : Tok
  g_SHORTEST_SCHEME : mg "SHORTEST_SCHEME" = some (.int 2 t_SHORTEST_SCHEME)
  t_LONGEST_SCHEME : Tok
  g_LONGEST_SCHEME : mg "LONGEST_SCHEME" = some (.int 32 t_LONGEST_SCHEME)
  t_LONGEST_PART : Tok
  g_LONGEST_PART : mg "LONGEST_PART" = some (.int 63 t_LONGEST_PART)
  a_STEPS : Addr
  g_STEPS : mg "STEPS" = some (.ref a_STEPS)
  k_STEPS : KDictS K w a_STEPS [("\\", .ref a_take_backslash), ("`", .ref a_take_backquotes), ("<", .ref a_take_angle), ("&", .ref a_take_reference), ("\n", .ref a_take_line_feed), ("*", .ref a_take_run), ("_", .ref a_take_run), ("[", .ref a_take_bracket), ("!", .ref a_take_exclamation), ("]", .ref a_take_end)]
/-! ### a text and a place -/
theorem mem_S (c : Nat) (l : List Nat) : decide (c ∈ (S l).cps.toList) = l.contains c := by
  rw [S_tl]
  by_cases h : c ∈ l
  · rw [decide_eq_true h]
    simp [h]
  · rw [decide_eq_false h]
    simp [h]
structure TP (t : List Nat) (p : Nat) : Prop where
  le : p ≤ t.length
  sz : t.length ≤ 100000
theorem TP.line {t : List Nat} {p : Nat} (h : TP t p) : (S t).length ≤ sizeLine := by
  have := h.sz
  rw [S_len, sizeLine_eq]
  omega
theorem pre1 {t : List Nat} {p c : Nat} (h : ([c] : List Nat).isPrefixOf (t.drop p) = true) : p < t.length := by
  have := pre_len _ _ h
  rw [List.length_drop] at this
  simp at this
  omega
def Asc (t : List Nat) : Prop := ∀ c ∈ t, c < 128
theorem Asc.drop {t : List Nat} (h : Asc t) (n : Nat) : Asc (t.drop n) := fun c hc => h c (List.mem_of_mem_drop hc)
theorem Asc.take {t : List Nat} (h : Asc t) (n : Nat) : Asc (t.take n) := fun c hc => h c (List.mem_of_mem_take hc)
def iv : Option Nat → V
  | none => .non
  | some n => .int (n : Nat)
def sv : Option Nat → V
  | none => .non
  | some c => .str (S [c])

/-! ### the defs of the references -/
theorem lit_P : ("!\"#$&'()*+,-./:;<=>?\x40[\\]^_{|}~`" : Str) = S PunL := by decide +kernel
theorem lit_bs : ("\\" : Str) = S [92] := by decide +kernel
theorem lit_amp : ("&" : Str) = S [38] := by decide +kernel
theorem lit_semi : (";" : Str) = S [59] := by decide +kernel
theorem lit_hx : ("#x" : Str) = S [35, 120] := by decide +kernel
theorem lit_hX : ("#X" : Str) = S [35, 88] := by decide +kernel
theorem lit_h : ("#" : Str) = S [35] := by decide +kernel
theorem lit_0f : ("0123456789abcdef" : Str) = S HexL := by decide +kernel
theorem lit_09 : ("0123456789" : Str) = S DecL := by decide +kernel
theorem lit_e : ("" : Str) = S [] := by decide +kernel
def sp_is_escape (K : PySem.W.Frag) : Sp := fun vs H Q _ => ∃ (t : List Nat) (p : Nat), vs = [.str (S t), .int (p : Int)] ∧ TP t p ∧ Q (.bl (escR (t.drop p))) H
theorem ok_is_escape {P : Program} {w : World} {K : PySem.W.Frag} {mg : Str → Option Value} {base : Heap} (T : Txt w K mg) : FnOk P w K mg base CX0 1 T.a_is_escape T.d_is_escape ["text", "place"] (sp_is_escape K) := by
  refine T.f_is_escape.ok sc_is_escape (fun vs H Q E h => ?_) (fun cdv A outer s H vs Q E hr h => ?_)
  · obtain ⟨t, p, rfl, _⟩ := h
    rfl
  · obtain ⟨t, p, rfl, tp, q⟩ := h
    refine ⟨_, (pss_one (ps_ret (pe_and (pe_bm PySem.F.plainAttrs_str PySem.F.slot_str_startswith PySem.F.type_str_startswith mt_startswith3 (pv 0) (pa_cons pe_str (pa_cons (pv 1) pa_nil))) (pe_and (pe_cmpR op_lt (pe_op op_add (pv 1) pe_int) (pe_callB call_len_str (by rfl) T.z_len PySem.boot_len (pa_cons (pv 0) pa_nil)) (nomark _)) (pe_one (pe_cmpR op_in_sign (pe_ix ix_str (pv 0) (pe_op op_add (pv 1) pe_int) (fun _ _ => rfl)) (pe_glob (v := .str "!\"#$&'()*+,-./:;<=>?\x40[\\]^_{|}~`") rfl T.g_PUNCTUATION ⟨_, rfl⟩) (by rfl))))))), ?_⟩
    refine ⟨_, rfl, rfl, _, rfl, _, _, _, rfl, rfl, _, rfl, ?_⟩
    rw [lit_bs, starts3 t [92] (by simp) p]
    have en : ∀ {b : Bool}, escR (t.drop p) = b → Q (.bl b) H := fun e => by rw [← e]; exact q
    refine ite2 (fun h1 => ?_) (fun h1 => ?_)
    · have h2 := pre1 h1
      have hd : t.drop p = t[p] :: t.drop (p + 1) := List.drop_eq_getElem_cons h2
      have h0 : t[p] = 92 := by
        rw [hd] at h1
        simp [List.isPrefixOf] at h1
        exact h1.symm
      rw [h0] at hd
      refine ⟨_, rfl, _, _, rfl, rfl, _, rfl, _, rfl, tp.line, _, _, rfl, rfl, _, rfl, ite2 (fun h3 => ?_) (fun h3 => ?_)⟩
      · have h4 : p + 1 < t.length := by
          have := of_decide_eq_true h3
          rw [S_len] at this
          omega
        have hd2 : t.drop (p + 1) = t[p + 1] :: t.drop (p + 2) := List.drop_eq_getElem_cons h4
        refine ⟨_, rfl, _, rfl, _, _, rfl, rfl, _, _, t[p + 1], rfl, rfl, tp.line, atI_nat (j := p + 1) (by rw [S_tl]; exact List.getElem?_eq_getElem h4), t[p + 1], _, rfl, rfl, ?_⟩
        rw [lit_P, mem_S]
        exact en (by rw [hd, hd2]; rfl)
      · have h4 : t.length ≤ p + 1 := by
          have : ¬ ((p : Int) + 1 < ((S t).length : Int)) := fun z => h3 (decide_eq_true z)
          rw [S_len] at this
          omega
        exact en (by rw [hd, List.drop_of_length_le h4]; rfl)
    · refine en ?_
      cases hd : t.drop p with
      | nil => rfl
      | cons a r =>
        cases r with
        | nil => rfl
        | cons b r =>
          rw [hd] at h1
          have : (a == 92) = false := by
            rw [beq_eq_false_iff_ne]
            intro e
            exact h1 (by simp [List.isPrefixOf, e])
          show (a == 92 && PunL.contains b) = false
          rw [this]
          rfl
/-- int(digits, base) -/
theorem lower_in : ∀ {w ds : List Nat}, Asc w → ((S w).cps.toList = w) := fun _ => S_tl _
theorem dec_of0 : ∀ c, c < 128 → DecL.contains (lo1 c) = true → 48 ≤ c ∧ c ≤ 57 := by decide +kernel
theorem dec_of : ∀ c, c < 128 → DecL.contains (lo1 c) = true → IsB 10 c := fun c h1 h2 => by
  unfold IsB
  rw [if_neg (by decide)]
  exact dec_of0 c h1 h2
theorem hex_of0 : ∀ c, c < 128 → HexL.contains (lo1 c) = true → (48 ≤ c ∧ c ≤ 57) ∨ (97 ≤ c ∧ c ≤ 102) ∨ (65 ≤ c ∧ c ≤ 70) := by decide +kernel
theorem hex_of : ∀ c, c < 128 → HexL.contains (lo1 c) = true → IsB 16 c := fun c h1 h2 => by
  unfold IsB
  rw [if_pos (by decide)]
  exact hex_of0 c h1 h2
theorem b_of {B : Nat} {ds : List Nat} (hB : B = 10 ∧ ds = DecL ∨ B = 16 ∧ ds = HexL) {w : List Nat} (ha : Asc w) (h : (w.map lo1).all ds.contains = true) : ∀ c ∈ w, IsB B c := by
  rw [List.all_eq_true] at h
  intro c hc
  have h1 := h (lo1 c) (List.mem_map_of_mem hc)
  rcases hB with ⟨rfl, rfl⟩ | ⟨rfl, rfl⟩
  · exact dec_of c (ha c hc) h1
  · exact hex_of c (ha c hc) h1
def sp_number_in (K : PySem.W.Frag) : Sp := fun vs H Q _ => ∃ (w ds : List Nat) (B : Nat), vs = [.str (S w), .str (S ds), .int (B : Int)] ∧ (B = 10 ∧ ds = DecL ∨ B = 16 ∧ ds = HexL) ∧ w.length ≤ 100 ∧ Asc w ∧
  ∀ H', Same H H' → Q (iv (numR B ds w)) H'
theorem ok_number_in {P : Program} {w : World} {K : PySem.W.Frag} {mg : Str → Option Value} {base : Heap} (T : Txt w K mg) : FnOk P w K mg base CX0 1 T.a_number_in T.d_number_in ["digits", "signs", "base"] (sp_number_in K) := by
  refine T.f_number_in.ok sc_number_in (fun vs H Q E h => ?_) (fun cdv A outer s H vs Q E hr h => ?_)
  · obtain ⟨w, ds, B, rfl, _⟩ := h
    rfl
  · obtain ⟨w, ds, B, rfl, hB, hl, ha, q⟩ := h
    refine ⟨_, (pss_cons (ps_if (PW.pt (pw_or (pt_cmpR op_eq (pv 0) pe_str (nomark _)) (pw_or1 (pt_not (pt_val (pe_callB (cr_all rfl) (by rfl) T.z_all (by decide +kernel) (pa_cons (pe_lc (own := [("digit", 3)]) (g := (gName 3)) (tt := tYes) (by rfl) sc_number_in.nd (pi_str (pe_lower (pv 0))) (blkOk_by (own := [("digit", 3)]) (N := ["digits", "signs", "base", "digit"]) (sc := defScope s_number_in) (by decide +kernel)) (fun _ _ _ _ _ => (pg_name (i := 3) sc_number_in.nd rfl (Or.inl rfl))) (fun _ _ _ _ _ => pts_nil) (fun _ _ _ _ _ => (pe_cmpR op_in_sign (pv 3) (pv 1) (by rfl)))) pa_nil))))))) (pss_one (ps_ret pe_non)) pss_nil)
        (pss_one (ps_ret (pe_callTy call_int_base (by rfl) T.z_int (by decide +kernel) (pa_cons (pv 0) (pa_cons (pv 2) pa_nil)))))), ?_⟩
    refine ⟨_, rfl, rfl, _, rfl, ?_⟩
    rw [lit_e, S_dec]
    by_cases hw : w = []
    · rw [decide_eq_true hw]
      refine iteT (iteT ?_)
      have := q H (Same.refl _)
      unfold numR at this
      rw [if_pos hw] at this
      exact this
    · rw [decide_eq_false hw]
      refine iteF ?_
      refine ⟨_, rfl, ⟨_, rfl⟩, _, rfl, rfl, by rw [S_len]; omega, ?_⟩
      rw [lower_S w ha]
      refine ⟨_, rfl, fun D nD => ?_⟩
      refine lc_it (walk_str (z := S (w.map lo1))) (fun i H' => Same H H' ∧ H' D = some (.lst (((w.map lo1).take i).map fun c => V.bl (ds.contains c)))) ⟨same_new nD, by rw [upd_same]; rfl⟩ (fun _ _ _ _ => trivial) ?_ ?_
      · rintro i x H1 H2 hi ⟨sm, hD⟩ ⟨rfl, c, hc, rfl⟩
        rw [show (S (w.map lo1)).cps[i]? = (w.map lo1)[i]? by simp [S]] at hc
        refine ⟨rfl, _, rfl, _, rfl, c, _, rfl, rfl, ?_⟩
        rw [mem_S]
        refine ⟨_, hD, by rw [List.length_map, List.length_take, List.length_map, sizeLine_eq]; omega, fun b o e => ?_, ?_⟩
        · rw [upd_ne (ne_of_none e nD)]
          exact sm _ _ e
        · rw [upd_same, List.take_add_one, hc]
          simp
      · rintro H1 ⟨sm, hD⟩
        have hn : (S (w.map lo1)).cps.size = (w.map lo1).length := S_size _
        rw [hn, List.take_length] at hD
        refine ⟨D, (w.map lo1).map fun c => ds.contains c, rfl, SqL.of (by rw [List.map_map]; exact hD), ?_⟩
        have e0 : ((w.map lo1).map fun c => ds.contains c).all id = (w.map lo1).all ds.contains := by
          rw [List.all_map]
          rfl
        rw [e0]
        have q' := q H1 sm
        unfold numR at q'
        rw [if_neg hw] at q'
        refine ⟨_, rfl, ?_⟩
        cases hall : (w.map lo1).all ds.contains with
        | false =>
          rw [hall, if_neg Bool.false_ne_true] at q'
          exact iteT q'
        | true =>
          rw [hall, if_pos rfl] at q'
          refine iteF ?_
          have hb := b_of hB ha hall
          exact ⟨_, rfl, _, rfl, w, B, rfl, hB.elim (fun z => .inl z.1) (fun z => .inr z.1), hw, by omega, hb, q'⟩

theorem sq_rows0 {w : World} {K : PySem.W.Frag} {mg : Str → Option Value} (T : Txt w K mg) (H : Hp) : SqT K H T.a_SIGN_ROWS [.ref T.e_SIGN_ROWS_0, .ref T.e_SIGN_ROWS_1, .ref T.e_SIGN_ROWS_2] :=
  .inr ⟨_, _, _, T.l_SIGN_ROWS, rfl, rfl, by (show 3 ≤ sizeLine; decide), (.cons rfl (.cons rfl (.cons rfl .nil)))⟩
def RowsL : List (Nat × List Nat) := [(9, [9, 10]), (32, [32, 33, 34, 35, 36]), (38, (List.range 89).map (· + 38))]
theorem lit_r0 : ("\t\n" : Str) = S [9, 10] := by decide +kernel
theorem lit_r1 : (" !\"#$" : Str) = S [32, 33, 34, 35, 36] := by decide +kernel
theorem lit_r2 : ("&'()*+,-./0123456789:;<=>?@ABCDEFGHIJKLMNOPQRSTUVWXYZ[\\]^_`abcdefghijklmnopqrstuvwxyz{|}~" : Str) = S ((List.range 89).map (· + 38)) := by decide +kernel
theorem sq_row {w : World} {K : PySem.W.Frag} {mg : Str → Option Value} (T : Txt w K mg) (H : Hp) {i : Nat} {x : V} (h : ([.ref T.e_SIGN_ROWS_0, .ref T.e_SIGN_ROWS_1, .ref T.e_SIGN_ROWS_2] : List V)[i]? = some x) :
    ∃ a p, x = .ref a ∧ RowsL[i]? = some p ∧ SqT K H a [.int (p.1 : Nat), .str (S p.2)] := by
  match i, h with
  | 0, h =>
    cases h
    refine ⟨_, _, rfl, rfl, ?_⟩
    rw [← lit_r0]
    exact .inr ⟨_, _, _, T.l_SIGN_ROWS_0, rfl, rfl, by (show 2 ≤ sizeLine; decide), (.cons ⟨_, rfl⟩ (.cons ⟨_, rfl⟩ .nil))⟩
  | 1, h =>
    cases h
    refine ⟨_, _, rfl, rfl, ?_⟩
    rw [← lit_r1]
    exact .inr ⟨_, _, _, T.l_SIGN_ROWS_1, rfl, rfl, by (show 2 ≤ sizeLine; decide), (.cons ⟨_, rfl⟩ (.cons ⟨_, rfl⟩ .nil))⟩
  | 2, h =>
    cases h
    refine ⟨_, _, rfl, rfl, ?_⟩
    rw [← lit_r2]
    exact .inr ⟨_, _, _, T.l_SIGN_ROWS_2, rfl, rfl, by (show 2 ≤ sizeLine; decide), (.cons ⟨_, rfl⟩ (.cons ⟨_, rfl⟩ .nil))⟩
/-- the sign of a number, by the rows from the i-th on -/
def sgnF (n : Nat) : List (Nat × List Nat) → Option Nat
  | [] => none
  | p :: ps => if p.1 ≤ n ∧ n < p.1 + p.2.length then p.2[n - p.1]? else sgnF n ps
theorem sgnF_eq : ∀ n, sgnF n RowsL = sgnR n := by
  intro n
  by_cases h : n < 128
  · have : ∀ n, n < 128 → sgnF n RowsL = sgnR n := by decide +kernel
    exact this n h
  · have e1 : sgnR n = none := by
      unfold sgnR
      rw [if_neg (by omega)]
    rw [e1]
    show (if 9 ≤ n ∧ n < 9 + 2 then _ else if 32 ≤ n ∧ n < 32 + 5 then _ else if 38 ≤ n ∧ n < 38 + ((List.range 89).map (· + 38)).length then _ else none) = none
    rw [if_neg (by omega), if_neg (by omega), if_neg (by rw [List.length_map, List.length_range]; omega)]
def sp_sign_of (K : PySem.W.Frag) : Sp := fun vs H Q _ => ∃ o : Option Nat, vs = [iv o] ∧ Q (sv (o.bind sgnR)) H
theorem ok_sign_of {P : Program} {w : World} {K : PySem.W.Frag} {mg : Str → Option Value} {base : Heap} (T : Txt w K mg) : FnOk P w K mg base CX0 1 T.a_sign_of T.d_sign_of ["number"] (sp_sign_of K) := by
  refine T.f_sign_of.ok sc_sign_of (fun vs H Q E h => ?_) (fun cdv A outer s H vs Q E hr h => ?_)
  · obtain ⟨o, rfl, _⟩ := h
    rfl
  · obtain ⟨o, rfl, q⟩ := h
    refine ⟨_, (pss_cons (ps_if (pt_cmpR op_isN (pv 0) pe_non (nomark _)) (pss_one (ps_ret pe_non)) pss_nil)
        (pss_cons (ps_for PassesOwn.never rfl (pi_tup (pe_glob (v := .ref T.a_SIGN_ROWS) rfl T.g_SIGN_ROWS rfl)) (pg_tup (by rfl) (pgs_cons (pg_name (i := 1) sc_sign_of.nd rfl (.inl rfl)) (pgs_cons (pg_name (i := 2) sc_sign_of.nd rfl (.inl rfl)) pgs_nil))) (pss_one (ps_if (pt_chain op_le op_lt (pv 1) (pv 0) (pe_op op_add (pv 1) (pe_callB call_len_str (by rfl) T.z_len PySem.boot_len (pa_cons (pv 2) pa_nil)))) (pss_one (ps_ret (pe_ix ix_str (pv 2) (pe_op op_sub (pv 0) (pv 1)) (fun _ _ => rfl)))) pss_nil)))
        (pss_one (ps_ret pe_non)))), ?_⟩
    cases o with
    | none => exact ⟨_, rfl, rfl, _, rfl, iteT q⟩
    | some n =>
      refine ⟨_, rfl, rfl, _, rfl, iteF ?_⟩
      have q' : Q (sv (sgnF n RowsL)) H := by rw [sgnF_eq]; exact q
      refine ⟨T.a_SIGN_ROWS, rfl, ⟨_, sq_rows0 T H⟩, for_tup (K := K) (xs := [.ref T.e_SIGN_ROWS_0, .ref T.e_SIGN_ROWS_1, .ref T.e_SIGN_ROWS_2]) (fun i σ H' => H' = H ∧ (∃ v1 v2, σ = [some (.int (n : Nat)), v1, v2]) ∧ sgnF n RowsL = sgnF n (RowsL.drop i)) ⟨rfl, ⟨_, _, rfl⟩, rfl⟩ (fun i σ H' _ h => sq_rows0 T H') ?_ ?_⟩
      · rintro i x σ H' hx ⟨rfl, ⟨v1, v2, rfl⟩, e⟩
        obtain ⟨a, p, rfl, hp, hs⟩ := sq_row T H' hx
        have hd : RowsL.drop i = p :: RowsL.drop (i + 1) := by
          obtain ⟨h1, h2⟩ := List.getElem?_eq_some_iff.mp hp
          rw [List.drop_eq_getElem_cons h1, h2]
        have hlen : p.2.length ≤ 89 := by
          have : ∀ p ∈ RowsL, p.2.length ≤ 89 := by decide +kernel
          exact this p (List.mem_of_getElem? hp)
        have hln : (S p.2).length ≤ sizeLine := by rw [S_len, sizeLine_eq]; omega
        have hstep : sgnF n RowsL = if p.1 ≤ n ∧ n < p.1 + p.2.length then p.2[n - p.1]? else sgnF n (RowsL.drop (i + 1)) := by
          rw [e, hd]
          rfl
        refine ⟨a, _, rfl, hs, rfl, _, _, rfl, _, _, rfl, rfl, ?_⟩
        refine ⟨_, rfl, _, rfl, _, _, rfl, rfl, _, rfl, ite2 (fun h1 => ?_) (fun h1 => ?_)⟩
        · have h1' : p.1 ≤ n := by
            have := of_decide_eq_true h1
            omega
          refine ⟨_, rfl, _, rfl, _, rfl, hln, _, _, rfl, rfl, _, _, rfl, rfl, _, rfl, ite2 (fun h2 => ?_) (fun h2 => ?_)⟩
          · have h2' : n < p.1 + p.2.length := by
              have := of_decide_eq_true h2
              rw [S_len] at this
              omega
            rw [hstep, if_pos ⟨h1', h2'⟩, List.getElem?_eq_getElem (by omega)] at q'
            exact ⟨_, rfl, _, rfl, _, rfl, _, _, rfl, rfl, _, _, p.2[n - p.1]'(by omega), rfl, rfl, hln, by
              have e1 : ((n : Nat) : Int) - (p.1 : Nat) = ((n - p.1 : Nat) : Int) := by omega
              rw [e1]
              exact atI_nat (j := n - p.1) (by rw [S_tl]; exact List.getElem?_eq_getElem (by omega)), q'⟩
          · have h2' : ¬ n < p.1 + p.2.length := fun z => h2 (decide_eq_true (by rw [S_len]; omega))
            refine ⟨rfl, ⟨_, _, rfl⟩, ?_⟩
            rw [hstep, if_neg fun z => h2' z.2]
        · have h1' : ¬ p.1 ≤ n := fun z => h1 (decide_eq_true (by omega))
          refine ⟨_, rfl, iteF ⟨rfl, ⟨_, _, rfl⟩, ?_⟩⟩
          rw [hstep, if_neg fun z => h1' z.1]
      · rintro σ H' ⟨rfl, ⟨v1, v2, rfl⟩, e⟩
        rw [e] at q'
        exact q'


def sp_sign_meant (K : PySem.W.Frag) : Sp := fun vs H Q _ => ∃ w : List Nat, vs = [.str (S w)] ∧ w.length ≤ 100 ∧ Asc w ∧ ∀ H', Same H H' → Q (sv (meantR w)) H'
theorem names_lookup (w : List Nat) : (([("amp", .str "&"), ("lt", .str "<"), ("gt", .str ">"), ("quot", .str "\""), ("apos", .str "'"), ("num", .str "#"), ("ast", .str "*"), ("lowbar", .str "_"), ("grave", .str "`"), ("lsqb", .str "["), ("rsqb", .str "]"), ("lpar", .str "("), ("rpar", .str ")"), ("lcub", .str "{"), ("rcub", .str "}"), ("bsol", .str "\\"), ("excl", .str "!"), ("Tab", .str "\t"), ("NewLine", .str "\n")] : List (Str × V)).lookup (S w)).getD .non = sv (NamesL.lookup w) := by
  have e : ([("amp", .str "&"), ("lt", .str "<"), ("gt", .str ">"), ("quot", .str "\""), ("apos", .str "'"), ("num", .str "#"), ("ast", .str "*"), ("lowbar", .str "_"), ("grave", .str "`"), ("lsqb", .str "["), ("rsqb", .str "]"), ("lpar", .str "("), ("rpar", .str ")"), ("lcub", .str "{"), ("rcub", .str "}"), ("bsol", .str "\\"), ("excl", .str "!"), ("Tab", .str "\t"), ("NewLine", .str "\n")] : List (Str × V)) = NamesL.map fun p => (S p.1, V.str (S [p.2])) := by decide +kernel
  rw [e]
  have gen : ∀ ps : List (List Nat × Nat), ((ps.map fun p => (S p.1, V.str (S [p.2]))).lookup (S w)).getD .non = sv (ps.lookup w) := by
    intro ps
    induction ps with
    | nil => rfl
    | cons p ps ih =>
      rw [List.map_cons, List.lookup_cons, List.lookup_cons]
      by_cases h : w = p.1
      · subst h
        rw [beq_self_eq_true, beq_self_eq_true]
        rfl
      · rw [beq_eq_false_iff_ne.mpr h, beq_eq_false_iff_ne.mpr fun z => h (S_inj z)]
        exact ih
  exact gen NamesL
theorem ok_sign_meant {P : Program} {w : World} {K : PySem.W.Frag} {mg : Str → Option Value} {base : Heap} (T : Txt w K mg) : FnOk P w K mg base CX0 2 T.a_sign_meant T.d_sign_meant ["words"] (sp_sign_meant K) := by
  refine T.f_sign_meant.ok sc_sign_meant (fun vs H Q E h => ?_) (fun cdv A outer s H vs Q E hr h => ?_)
  · obtain ⟨w, rfl, _⟩ := h
    rfl
  · obtain ⟨w, rfl, hl, ha, q⟩ := h
    refine ⟨_, (pss_cons (ps_if (PW.pt (pw_or (pt_val (pe_bm PySem.F.plainAttrs_str PySem.F.slot_str_startswith PySem.F.type_str_startswith mt_startswith (pv 0) (pa_cons pe_str pa_nil))) (pw_or1 (pt_val (pe_bm PySem.F.plainAttrs_str PySem.F.slot_str_startswith PySem.F.type_str_startswith mt_startswith (pv 0) (pa_cons pe_str pa_nil)))))) (pss_one (ps_ret (pe_call (ok_sign_of T) (hr.mono (by decide)) (by rfl) T.g_sign_of T.f_sign_of.kp T.b_sign_of .nil pass0 (pa_cons (pe_call (ok_number_in T) (hr.mono (by decide)) (by rfl) T.g_number_in T.f_number_in.kp T.b_number_in .nil pass0 (pa_cons (pe_slice sl_str (pv 0) (po_some pe_int) po_none) (pa_cons pe_str (pa_cons pe_int pa_nil)))) pa_nil)))) pss_nil)
        (pss_cons (ps_if (pt_val (pe_bm PySem.F.plainAttrs_str PySem.F.slot_str_startswith PySem.F.type_str_startswith mt_startswith (pv 0) (pa_cons pe_str pa_nil))) (pss_one (ps_ret (pe_call (ok_sign_of T) (hr.mono (by decide)) (by rfl) T.g_sign_of T.f_sign_of.kp T.b_sign_of .nil pass0 (pa_cons (pe_call (ok_number_in T) (hr.mono (by decide)) (by rfl) T.g_number_in T.f_number_in.kp T.b_number_in .nil pass0 (pa_cons (pe_slice sl_str (pv 0) (po_some pe_int) po_none) (pa_cons pe_str (pa_cons pe_int pa_nil)))) pa_nil)))) pss_nil)
        (pss_one (ps_ret (pe_kget T.k_NAMES (pe_glob (v := .ref T.a_NAMES) rfl T.g_NAMES rfl) (pv 0) ⟨rfl, rfl, rfl, rfl⟩))))), ?_⟩
    have hln : (S w).length ≤ sizeLine := by rw [S_len, sizeLine_eq]; omega
    have fin2 : ∀ (B k : Nat) (ds : List Nat), (B = 10 ∧ ds = DecL ∨ B = 16 ∧ ds = HexL) → sv (meantR w) = sv ((numR B ds (w.drop k)).bind sgnR) → tCall (sp_sign_of K) [] E0 (tCons (tCall (sp_number_in K) [] E0 (tCons (tSl rSlS (tVar 0) (tPart (tC (.int (k : Int)))) tNoPart) (tCons (tC (.str (S ds))) (tCons (tC (.int (B : Int))) tNil)))) tNil) [some (.str (S w))] H Q := by
      intro B k ds hB e
      refine ⟨_, rfl, _, rfl, _, rfl, hln, ?_⟩
      rw [S_cut]
      refine ⟨w.drop k, ds, B, rfl, hB, by rw [List.length_drop]; omega, ha.drop k, fun H1 s1 => ⟨_, rfl, ?_⟩⟩
      rw [← e]
      exact q H1 s1
    have em : ∀ b, ([35, 120].isPrefixOf w || [35, 88].isPrefixOf w) = b → meantR w = if b = true then (numR 16 HexL (w.drop 2)).bind sgnR else if [35].isPrefixOf w then (numR 10 DecL (w.drop 1)).bind sgnR else NamesL.lookup w := fun b e => by
      unfold meantR
      rw [e]
    refine ⟨_, rfl, rfl, _, _, rfl, rfl, _, rfl, ?_⟩
    rw [lit_hx, starts1 w [35, 120] (by simp)]
    have yes : ([35, 120].isPrefixOf w || [35, 88].isPrefixOf w) = true → tCall (sp_sign_of K) [] E0 (tCons (tCall (sp_number_in K) [] E0 (tCons (tSl rSlS (tVar 0) (tPart (tC (.int (2 : Int)))) tNoPart) (tCons (tC (.str ("0123456789abcdef" : Str))) (tCons (tC (.int (16 : Int))) tNil)))) tNil) [some (.str (S w))] H Q := fun e => by
      rw [lit_0f]
      exact fin2 16 2 HexL (.inr ⟨rfl, rfl⟩) (by rw [em _ e, if_pos rfl])
    refine ite2 (fun h1 => iteT (yes (by rw [h1]; rfl))) (fun h1 => ?_)
    refine ⟨_, rfl, rfl, _, _, rfl, rfl, _, rfl, ?_⟩
    rw [lit_hX, starts1 w [35, 88] (by simp)]
    refine ite2 (fun h2 => yes (by rw [h2, Bool.or_true])) (fun h2 => ?_)
    have e := em false (by rw [eq_false_of_ne_true h1, eq_false_of_ne_true h2]; rfl)
    rw [if_neg Bool.false_ne_true] at e
    refine ⟨_, rfl, rfl, _, _, rfl, rfl, _, rfl, ?_⟩
    rw [show Txt.startswith (S w) ("#" : Str) = [35].isPrefixOf w by rw [lit_h]; exact starts1 w [35] (by simp)]
    refine ite2 (fun h3 => ?_) (fun h3 => ?_)
    · show tCall _ _ _ _ _ _ _
      rw [lit_09]
      exact fin2 10 1 DecL (.inl ⟨rfl, rfl⟩) (by rw [e, if_pos h3])
    · rw [if_neg h3] at e
      refine ⟨rfl, _, rfl, _, rfl, ?_⟩
      rw [names_lookup, ← e]
      exact q H (Same.refl _)
/-- a place and a sign -/
def RefV (H : Hp) (v : V) (p : Nat) : Option (Nat × Nat) → Prop
  | none => v = .non
  | some (k, c) => ∃ r, v = .ref r ∧ H r = some (.tup [.int ((p + k : Nat) : Int), .str (S [c])])
def sp_reference_at (K : PySem.W.Frag) : Sp := fun vs H Q _ => ∃ (t : List Nat) (p : Nat), vs = [.str (S t), .int (p : Int)] ∧ TP t p ∧ Asc t ∧ ∀ H' v, Same H H' → RefV H' v p (refR (t.drop p)) → Q v H'
theorem ok_reference_at {P : Program} {w : World} {K : PySem.W.Frag} {mg : Str → Option Value} {base : Heap} (T : Txt w K mg) : FnOk P w K mg base CX0 3 T.a_reference_at T.d_reference_at ["text", "place"] (sp_reference_at K) := by
  refine T.f_reference_at.ok sc_reference_at (fun vs H Q E h => ?_) (fun cdv A outer s H vs Q E hr h => ?_)
  · obtain ⟨t, p, rfl, _⟩ := h
    rfl
  · obtain ⟨t, p, rfl, tp, ha, q⟩ := h
    refine ⟨_, (pss_cons (ps_if (pt_not (pt_val (pe_bm PySem.F.plainAttrs_str PySem.F.slot_str_startswith PySem.F.type_str_startswith mt_startswith3 (pv 0) (pa_cons pe_str (pa_cons (pv 1) pa_nil))))) (pss_one (ps_ret pe_non)) pss_nil)
        (pss_cons (ps_set (i := 2) sc_reference_at.nd rfl (.inl rfl) (pe_bm PySem.F.plainAttrs_str PySem.F.slot_str_find PySem.F.type_str_find mt_find4 (pv 0) (pa_cons pe_str (pa_cons (pv 1) (pa_cons (pe_op op_add (pv 1) (pe_glob (v := .int 10) rfl T.g_LONGEST ⟨_, rfl⟩)) pa_nil)))))
        (pss_cons (ps_if (pt_cmpR op_lt (pv 2) pe_int (nomark _)) (pss_one (ps_ret pe_non)) pss_nil)
        (pss_cons (ps_set (i := 3) sc_reference_at.nd rfl (.inl rfl) (pe_call (ok_sign_meant T) (hr.mono (by decide)) (by rfl) T.g_sign_meant T.f_sign_meant.kp T.b_sign_meant .nil pass0 (pa_cons (pe_slice sl_str (pv 0) (po_some (pe_op op_add (pv 1) pe_int)) (po_some (pv 2))) pa_nil)))
        (pss_cons (ps_if (pt_cmpR op_isN (pv 3) pe_non (nomark _)) (pss_one (ps_ret pe_non)) pss_nil)
        (pss_one (ps_ret (pe_tup (pa_cons (pe_op op_add (pv 2) pe_int) (pa_cons (pv 3) pa_nil)))))))))), ?_⟩
    refine ⟨_, rfl, rfl, _, rfl, _, _, _, rfl, rfl, _, rfl, ?_⟩
    rw [lit_amp, starts3 t [38] (by simp) p]
    cases h1 : ([38] : List Nat).isPrefixOf (t.drop p) with
    | false =>
      refine iteT (q H .non (Same.refl _) ?_)
      unfold refR
      rw [h1, if_neg Bool.false_ne_true]
      rfl
    | true =>
      refine iteF ?_
      refine ⟨_, rfl, rfl, _, rfl, _, rfl, _, _, rfl, rfl, _, _, _, _, rfl, rfl, ?_⟩
      rw [lit_semi]
      have e3 := findIn_S t [59] (by simp) p 10
      have ec : ((p + 10 : Nat) : Int) = (p : Int) + 10 := by omega
      rw [ec] at e3
      have er : refR (t.drop p) = match findL [59] ((t.drop p).take 10) with | none => none | some k => (meantR (((t.drop p).drop 1).take (k - 1))).map fun c => (k + 1, c) := by
        unfold refR
        rw [h1, if_pos rfl]
        try rfl
      cases hf : findL [59] ((t.drop p).take 10) with
      | none =>
        rw [hf] at er e3
        rw [show Txt.findIn (S t) (S [59]) (p : Int) ((p : Int) + 10) = -1 from e3]
        refine ⟨_, rfl, _, _, rfl, rfl, _, rfl, iteT (q H .non (Same.refl _) ?_)⟩
        rw [er]
        rfl
      | some k =>
        rw [hf] at er e3
        rw [show Txt.findIn (S t) (S [59]) (p : Int) ((p : Int) + 10) = ((p + k : Nat) : Int) from e3]
        refine ⟨_, rfl, _, _, rfl, rfl, _, rfl, ?_⟩
        rw [decide_eq_false (by omega)]
        refine iteF ?_
        have hk : 1 ≤ k := by
          cases k with
          | zero =>
            have h4 := (findL_some (by simp) hf).1
            cases hd : t.drop p with
            | nil => rw [hd] at h1; cases h1
            | cons a r =>
              rw [hd] at h1 h4
              have h5 : ((38 : Nat) == a && ([] : List Nat).isPrefixOf r) = true := h1
              have h6 : ((59 : Nat) == a && ([] : List Nat).isPrefixOf (r.take 9)) = true := h4
              have h7 := eq_of_beq (Bool.and_eq_true_iff.mp h5).1
              have h8 := eq_of_beq (Bool.and_eq_true_iff.mp h6).1
              omega
          | succ k => omega
        have hk9 : k ≤ 10 := by
          have h4 := pre_len _ _ (findL_some (by simp) hf).1
          rw [List.length_drop, List.length_take] at h4
          simp at h4
          omega
        refine ⟨_, rfl, _, rfl, _, _, rfl, rfl, _, rfl, _, rfl, _, rfl, _, rfl, tp.line, ?_⟩
        rw [show (p : Int) + 1 = ((p + 1 : Nat) : Int) by omega, S_cut2 t (p + 1) (p + k) (by omega), show p + k - (p + 1) = k - 1 by omega, ← List.drop_drop]
        refine ⟨_, rfl, by rw [List.length_take]; omega, ((ha.drop p).drop 1).take _, fun H1 s1 => ?_⟩
        have er2 : refR (t.drop p) = (meantR (((t.drop p).drop 1).take (k - 1))).map fun c => (k + 1, c) := er
        cases hm : meantR (((t.drop p).drop 1).take (k - 1)) with
        | none =>
          rw [hm] at er2
          refine ⟨_, rfl, rfl, _, rfl, iteT (q H1 .non s1 ?_)⟩
          rw [er2]
          rfl
        | some c =>
          rw [hm] at er2
          refine ⟨_, rfl, rfl, _, rfl, iteF ?_⟩
          refine ⟨_, rfl, _, _, rfl, rfl, _, rfl, by show 2 ≤ sizeLine; decide, fun r nr => ?_⟩
          refine q _ _ (s1.trans (same_new nr)) ?_
          rw [er2]
          exact ⟨r, rfl, by rw [upd_same]; congr 3⟩

def sp_decoded_at (K : PySem.W.Frag) : Sp := fun vs H Q _ => ∃ (t : List Nat) (p : Nat), vs = [.str (S t), .int (p : Int)] ∧ p < t.length ∧ t.length ≤ 100000 ∧ Asc t ∧
  ∀ H' r, Same H H' → H' r = some (.tup [.int ((p + (stepR (t.drop p)).1 : Nat) : Int), .str (S [(stepR (t.drop p)).2])]) → Q (.ref r) H'
theorem ok_decoded_at {P : Program} {w : World} {K : PySem.W.Frag} {mg : Str → Option Value} {base : Heap} (T : Txt w K mg) : FnOk P w K mg base CX0 4 T.a_decoded_at T.d_decoded_at ["text", "place"] (sp_decoded_at K) := by
  refine T.f_decoded_at.ok sc_decoded_at (fun vs H Q E h => ?_) (fun cdv A outer s H vs Q E hr h => ?_)
  · obtain ⟨t, p, rfl, _⟩ := h
    rfl
  · obtain ⟨t, p, rfl, hp, hl, ha, q⟩ := h
    refine ⟨_, (pss_cons (ps_if (pt_val (pe_call (ok_is_escape T) (hr.mono (by decide)) (by rfl) T.g_is_escape T.f_is_escape.kp T.b_is_escape .nil pass0 (pa_cons (pv 0) (pa_cons (pv 1) pa_nil)))) (pss_one (ps_ret (pe_tup (pa_cons (pe_op op_add (pv 1) pe_int) (pa_cons (pe_ix ix_str (pv 0) (pe_op op_add (pv 1) pe_int) (fun _ _ => rfl)) pa_nil))))) pss_nil)
        (pss_cons (ps_set (i := 2) sc_decoded_at.nd rfl (.inl rfl) (pe_call (ok_reference_at T) (hr.mono (by decide)) (by rfl) T.g_reference_at T.f_reference_at.kp T.b_reference_at .nil pass0 (pa_cons (pv 0) (pa_cons (pv 1) pa_nil))))
        (pss_cons (ps_if (pt_cmpR op_isN (pv 2) pe_non (nomark _)) (pss_one (ps_ret (pe_tup (pa_cons (pe_op op_add (pv 1) pe_int) (pa_cons (pe_ix ix_str (pv 0) (pv 1) (fun _ _ => rfl)) pa_nil))))) pss_nil)
        (pss_one (ps_ret (pv 2)))))), ?_⟩
    have tp : TP t p := ⟨by omega, hl⟩
    have hd : t.drop p = t[p] :: t.drop (p + 1) := List.drop_eq_getElem_cons hp
    have es : stepR (t.drop p) = if escR (t.drop p) = true then (2, (t.drop (p + 1)).headD 0) else match refR (t.drop p) with | some x => x | none => (1, t[p]) := by
      rw [hd]
      rfl
    refine ⟨_, rfl, _, rfl, _, _, rfl, tp, ?_⟩
    refine ⟨_, rfl, ?_⟩
    cases he : escR (t.drop p) with
    | true =>
      rw [he, if_pos rfl] at es
      have h2 : p + 1 < t.length := by
        by_cases h2 : p + 1 < t.length
        · exact h2
        · exfalso
          rw [hd, List.drop_of_length_le (by omega)] at he
          cases he
      have hd2 : t.drop (p + 1) = t[p + 1] :: t.drop (p + 2) := List.drop_eq_getElem_cons h2
      refine iteT ⟨_, rfl, _, _, rfl, rfl, _, rfl, _, rfl, _, _, rfl, rfl, _, _, t[p + 1], rfl, rfl, tp.line, atI_nat (j := p + 1) (by rw [S_tl]; exact List.getElem?_eq_getElem h2), by show 2 ≤ sizeLine; decide, fun r nr => ?_⟩
      refine q _ r (same_new nr) ?_
      rw [es, upd_same, hd2]
      congr 3
    | false =>
      rw [he, if_neg Bool.false_ne_true] at es
      refine iteF ⟨_, rfl, _, rfl, t, p, rfl, tp, ha, fun H1 v s1 hv => ?_⟩
      cases href : refR (t.drop p) with
      | none =>
        rw [href] at es hv
        have hv' : v = .non := hv
        subst hv'
        refine ⟨_, rfl, rfl, _, rfl, iteT ⟨_, rfl, _, _, rfl, rfl, _, rfl, _, rfl, _, _, t[p], rfl, rfl, tp.line, atI_nat (j := p) (by rw [S_tl]; exact List.getElem?_eq_getElem hp), by show 2 ≤ sizeLine; decide, fun r nr => ?_⟩⟩
        refine q _ r (s1.trans (same_new nr)) ?_
        rw [es, upd_same]
        congr 3
      | some x =>
        obtain ⟨k, c⟩ := x
        rw [href] at es hv
        obtain ⟨r, rfl, hr2⟩ := hv
        refine ⟨_, rfl, rfl, _, rfl, iteF ⟨_, rfl, ?_⟩⟩
        refine q _ r s1 ?_
        rw [es]
        exact hr2

/-! ### the defs of the places -/
theorem lit_G : (" \t\n" : Str) = S GapL := by decide +kernel
def sp_behind_sign (K : PySem.W.Frag) : Sp := fun vs H Q _ => ∃ (c : Nat) (t : List Nat) (p : Nat), vs = [.str (S [c]), .str (S t), .int (p : Int)] ∧ TP t p ∧ Q (ov t (signR c (t.drop p))) H
theorem ok_behind_sign {P : Program} {w : World} {K : PySem.W.Frag} {mg : Str → Option Value} {base : Heap} (T : Txt w K mg) : FnOk P w K mg base CX0 1 T.a_behind_sign T.d_behind_sign ["sign", "text", "place"] (sp_behind_sign K) := by
  refine T.f_behind_sign.ok sc_behind_sign (fun vs H Q E h => ?_) (fun cdv A outer s H vs Q E hr h => ?_)
  · obtain ⟨c, t, p, rfl, _⟩ := h
    rfl
  · obtain ⟨c, t, p, rfl, tp, q⟩ := h
    refine ⟨_, (pss_cons (ps_if (pt_val (pe_bm PySem.F.plainAttrs_str PySem.F.slot_str_startswith PySem.F.type_str_startswith mt_startswith3 (pv 1) (pa_cons (pv 0) (pa_cons (pv 2) pa_nil)))) (pss_one (ps_ret (pe_op op_add (pv 2) pe_int))) pss_nil)
        (pss_one (ps_ret pe_non))), ?_⟩
    refine ⟨_, rfl, rfl, _, rfl, _, rfl, _, _, _, rfl, rfl, _, rfl, ?_⟩
    rw [starts3 t [c] (by simp) p]
    unfold signR at q
    refine ite2 (fun h1 => ?_) (fun h1 => ?_)
    · rw [if_pos h1] at q
      have h2 := pre1 h1
      refine ⟨_, rfl, _, _, rfl, rfl, ?_⟩
      have e : pos t ((t.drop p).drop 1) = p + 1 := by
        rw [List.drop_drop]
        exact drop_pos h2
      have q' : Q (.int (pos t ((t.drop p).drop 1) : Nat)) H := q
      rw [e] at q'
      exact q'
    · rw [if_neg h1] at q
      exact q
def sp_behind_all (K : PySem.W.Frag) : Sp := fun vs H Q _ => ∃ (w t : List Nat) (p : Nat), vs = [.str (S w), .str (S t), .int (p : Int)] ∧ TP t p ∧ Q (.int (pos t (ba w (t.drop p)) : Nat)) H
theorem ok_behind_all {P : Program} {w : World} {K : PySem.W.Frag} {mg : Str → Option Value} {base : Heap} (T : Txt w K mg) : FnOk P w K mg base CX0 1 T.a_behind_all T.d_behind_all ["signs", "text", "place"] (sp_behind_all K) := by
  refine T.f_behind_all.ok sc_behind_all (fun vs H Q E h => ?_) (fun cdv A outer s H vs Q E hr h => ?_)
  · obtain ⟨w, t, p, rfl, _⟩ := h
    rfl
  · obtain ⟨w, t, p, rfl, tp, q⟩ := h
    refine ⟨_, (pss_cons (ps_while PassesOwn.never (PW.pt (pw_and (pt_cmpR op_lt (pv 2) (pe_callB call_len_str (by rfl) T.z_len PySem.boot_len (pa_cons (pv 1) pa_nil)) (nomark _)) (pw_and1 (pt_cmpR op_in_sign (pe_ix ix_str (pv 1) (pv 2) (fun _ _ => rfl)) (pv 0) (by rfl))))) (pss_one (ps_aug (i := 2) sc_behind_all.nd rfl (.inl rfl) pe_int ip_add)))
        (pss_one (ps_ret (pv 2)))), ?_⟩
    refine ⟨fun m σ H' => ∃ k : Nat, σ = [some (.str (S w)), some (.str (S t)), some (.int (k : Int))] ∧ H = H' ∧ m = t.length - k ∧ k ≤ t.length ∧ ba w (t.drop k) = ba w (t.drop p), ⟨t.length - p, p, rfl, rfl, rfl, tp.le, rfl⟩, ?_⟩
    rintro m σ H' ⟨k, rfl, rfl, rfl, hk, e⟩
    have fin : (¬ ∃ c r, t.drop k = c :: r ∧ w.contains c = true) → Q (.int (k : Nat)) H := by
      intro hno
      have e1 : ba w (t.drop k) = t.drop k := by
        cases hd : t.drop k with
        | nil => rfl
        | cons c r =>
          unfold ba
          rw [List.dropWhile_cons, if_neg (fun z => hno ⟨c, r, hd, z⟩)]
      rw [e1] at e
      rw [← e, drop_pos hk] at q
      exact q
    refine ⟨_, rfl, _, rfl, _, rfl, tp.line, _, _, rfl, rfl, _, rfl, ite2 (fun h1 => ?_) (fun h1 => ?_)⟩
    · have h2 : k < t.length := by
        have := of_decide_eq_true h1
        rw [S_len] at this
        omega
      have hd : t.drop k = t[k] :: t.drop (k + 1) := List.drop_eq_getElem_cons h2
      refine ⟨_, rfl, _, rfl, _, _, t[k], rfl, rfl, tp.line, atI_nat (by rw [S_tl]; exact List.getElem?_eq_getElem h2), _, rfl, t[k], _, rfl, rfl, _, rfl, ?_⟩
      rw [mem_S]
      refine ite2 (fun h3 => ?_) (fun h3 => ?_)
      · refine ⟨fun σ' H' => ∃ k', σ' = [some (.str (S w)), some (.str (S t)), some (.int (k' : Nat))] ∧ H = H' ∧ k' = k + 1 ∧ ba w (t.drop k') = ba w (t.drop p), ?_, ?_⟩
        · rintro σ' H' ⟨k', rfl, rfl, rfl, e'⟩
          exact ⟨t.length - (k + 1), by omega, k + 1, rfl, rfl, rfl, by omega, e'⟩
        · refine ⟨_, rfl, _, _, rfl, rfl, k + 1, ?_, rfl, rfl, ?_⟩
          · rw [Int.natCast_add]
            rfl
          · rw [← e, hd]
            conv => rhs; unfold ba
            rw [List.dropWhile_cons, if_pos h3]
            rfl
      · refine ⟨_, rfl, fin ?_⟩
        rintro ⟨c, r, h4, h5⟩
        rw [hd] at h4
        injection h4 with h6 h7
        subst h6
        exact h3 h5
    · refine iteF ⟨_, rfl, fin ?_⟩
      rintro ⟨c, r, h4, h5⟩
      have h2 : t.length ≤ k := by
        have : ¬ ((k : Int) < ((S t).length : Int)) := fun z => h1 (decide_eq_true z)
        rw [S_len] at this
        omega
      rw [List.drop_of_length_le h2] at h4
      cases h4
theorem take_tw (g : Nat → Bool) : ∀ r : List Nat, r.take (r.length - (r.dropWhile g).length) = r.takeWhile g
  | [] => rfl
  | c :: r => by
    rw [List.dropWhile_cons, List.takeWhile_cons]
    cases hg : g c with
    | true =>
      rw [if_pos rfl, if_pos rfl, ← take_tw g r]
      have := dw_len g r
      rw [show (c :: r).length - (r.dropWhile g).length = (r.length - (r.dropWhile g).length) + 1 by rw [List.length_cons]; omega, List.take_succ_cons]
    | false =>
      rw [if_neg Bool.false_ne_true, if_neg Bool.false_ne_true, Nat.sub_self, List.take_zero]
def sp_behind_gap (K : PySem.W.Frag) : Sp := fun vs H Q _ => ∃ (t : List Nat) (p : Nat), vs = [.str (S t), .int (p : Int)] ∧ TP t p ∧ Q (.int (pos t (gapR (t.drop p)) : Nat)) H
theorem ok_behind_gap {P : Program} {w : World} {K : PySem.W.Frag} {mg : Str → Option Value} {base : Heap} (T : Txt w K mg) : FnOk P w K mg base CX0 2 T.a_behind_gap T.d_behind_gap ["text", "place"] (sp_behind_gap K) := by
  refine T.f_behind_gap.ok sc_behind_gap (fun vs H Q E h => ?_) (fun cdv A outer s H vs Q E hr h => ?_)
  · obtain ⟨t, p, rfl, _⟩ := h
    rfl
  · obtain ⟨t, p, rfl, tp, q⟩ := h
    refine ⟨_, (pss_cons (ps_set (i := 2) sc_behind_gap.nd rfl (.inl rfl) (pe_call (ok_behind_all T) (hr.mono (by decide)) (by rfl) T.g_behind_all T.f_behind_all.kp T.b_behind_all .nil pass0 (pa_cons (pe_glob (v := .str " \t\n") rfl T.g_INLINE_WHITE ⟨_, rfl⟩) (pa_cons (pv 0) (pa_cons (pv 1) pa_nil)))))
        (pss_cons (ps_if (pt_cmpR op_gt (pe_bm PySem.F.plainAttrs_str PySem.F.slot_str_count PySem.F.type_str_count mt_count4 (pv 0) (pa_cons pe_str (pa_cons (pv 1) (pa_cons (pv 2) pa_nil)))) pe_int (nomark _)) (pss_one (ps_ret (pv 1))) pss_nil)
        (pss_one (ps_ret (pv 2))))), ?_⟩
    refine ⟨_, rfl, _, rfl, GapL, t, p, by rw [lit_G]; rfl, tp, ?_⟩
    have hs : ba GapL (t.drop p) <:+ t := (suf_dw _ _).trans (suf_drop t p)
    have hpe : p ≤ pos t (ba GapL (t.drop p)) := by
      have := dw_len (fun c => GapL.contains c) (t.drop p)
      rw [List.length_drop] at this
      unfold pos ba
      have := tp.le
      omega
    refine ⟨_, rfl, rfl, _, rfl, _, rfl, _, _, _, _, rfl, rfl, _, _, rfl, rfl, _, rfl, ?_⟩
    have ec : Txt.countIn (S t) ("\n" : Str) (p : Int) ((pos t (ba GapL (t.drop p)) : Nat) : Int) = (((t.drop p).takeWhile isG).count 10 : Nat) := by
      rw [show ("\n" : Str) = S [10] by decide +kernel, count_S t 10 p _ (pos_le _ _) hpe]
      congr 1
      have : pos t (ba GapL (t.drop p)) - p = (t.drop p).length - ((t.drop p).dropWhile isG).length := by
        have := dw_len isG (t.drop p)
        rw [List.length_drop] at this ⊢
        unfold pos ba
        have h1 : (List.dropWhile (fun c => GapL.contains c) (List.drop p t)).length = (List.dropWhile isG (List.drop p t)).length := rfl
        rw [h1]
        omega
      rw [this, take_tw]
    rw [ec]
    unfold gapR at q
    refine ite2 (fun h1 => ?_) (fun h1 => ?_)
    · have h2 : ((t.drop p).takeWhile isG).count 10 > 1 := by
        have := of_decide_eq_true h1
        omega
      rw [if_pos h2, drop_pos tp.le] at q
      exact ⟨_, rfl, q⟩
    · have h2 : ¬ ((t.drop p).takeWhile isG).count 10 > 1 := by
        have : ¬ ((1 : Int) < (((t.drop p).takeWhile isG).count 10 : Nat)) := fun z => h1 (decide_eq_true z)
        omega
      rw [if_neg h2] at q
      exact ⟨_, rfl, q⟩

/-! ### the scanner's object -/
mutual
/-- data survive what befalls an object -/
theorem dp_ins {K : PySem.W.Frag} {H H' : Hp} {x C dx : Addr} {fs : List (Str × V)} (hx : H x = some (.ins C dx fs)) (k : Keeps x H H') : ∀ {v : V} {d : PyData}, Dp K H v d → Dp K H' v d
  | _, _, .non => .non
  | _, _, .bl b => .bl b
  | _, _, .int i => .int i
  | _, _, .str x => .str x
  | _, _, .lst (a := a) q r => by
    refine .lst ?_ (dpAll_ins hx k r)
    by_cases e : a = x
    · rcases q with (q | ⟨o, q⟩) | q
      · rw [e, hx] at q
        cases q
      · rw [e, hx] at q
        cases q
      · exact .inr q
    · exact k.seq e q
  | _, _, .tup (a := a) q r => by
    refine .tup ?_ (dpAll_ins hx k r)
    by_cases e : a = x
    · rcases q with (q | ⟨o, q⟩) | q
      · rw [e, hx] at q
        cases q
      · rw [e, hx] at q
        cases q
      · exact .inr q
    · exact k.tup e q
theorem dpAll_ins {K : PySem.W.Frag} {H H' : Hp} {x C dx : Addr} {fs : List (Str × V)} (hx : H x = some (.ins C dx fs)) (k : Keeps x H H') : ∀ {vs : List V} {ds : List PyData}, DpAll K H vs ds → DpAll K H' vs ds
  | _, _, .nil => .nil
  | _, _, .cons q r => .cons (dp_ins hx k q) (dpAll_ins hx k r)
end
def scF (t : List Nat) (kn row br st : Addr) (p pl : Nat) (nt bar : Int) : List (Str × V) := [("content", .str (S t)), ("known", .ref kn), ("place", .int (p : Int)), ("row", .ref row), ("plain", .int (pl : Int)), ("brackets", .ref br), ("noted", .int nt), ("bar", .int bar), ("strings", .ref st)]
structure ScanAt (K : PySem.W.Frag) (C : Addr) (H : Hp) (x row : Addr) (t : List Nat) (p pl : Nat) (ps : List Inl) : Prop where
  ob : ∃ dx kn br st nt bar, H x = some (.ins C dx (scF t kn row br st p pl nt bar))
  ro : ∃ vs, H row = some (.lst vs) ∧ DpAll K H vs (rowD ps)
/-- all but the scan and its row stay -/
def Kp (x row : Addr) (H H' : Hp) : Prop := ∀ b o, b ≠ x → b ≠ row → H b = some o → H' b = some o
theorem Kp.refl {x row : Addr} (H : Hp) : Kp x row H H := fun _ _ _ _ e => e
theorem Kp.trans {x row : Addr} {H H1 H2 : Hp} (a : Kp x row H H1) (b : Kp x row H1 H2) : Kp x row H H2 := fun c o n m e => b c o n m (a c o n m e)
theorem Kp.of {x row : Addr} {H H' : Hp} (s : Same H H') : Kp x row H H' := fun b o _ _ e => s b o e
theorem ScanAt.ne {K : PySem.W.Frag} {C : Addr} {H : Hp} {x row : Addr} {t : List Nat} {p pl : Nat} {ps : List Inl} (h : ScanAt K C H x row t p pl ps) : x ≠ row := fun e => by
  obtain ⟨dx, kn, br, st, nt, bar, h1⟩ := h.ob
  obtain ⟨vs, h2, _⟩ := h.ro
  rw [e, h2] at h1
  cases h1
theorem ScanAt.same {K : PySem.W.Frag} {C : Addr} {H H' : Hp} {x row : Addr} {t : List Nat} {p pl : Nat} {ps : List Inl} (h : ScanAt K C H x row t p pl ps) (s : Same H H') : ScanAt K C H' x row t p pl ps := by
  obtain ⟨dx, kn, br, st, nt, bar, h1⟩ := h.ob
  obtain ⟨vs, h2, h3⟩ := h.ro
  exact ⟨⟨dx, kn, br, st, nt, bar, s _ _ h1⟩, vs, s _ _ h2, dpAll_same s h3⟩
theorem ScanAt.len {K : PySem.W.Frag} {C : Addr} {H : Hp} {x row : Addr} {t : List Nat} {p pl : Nat} {ps : List Inl} (h : ScanAt K C H x row t p pl ps) {vs : List V} (e : H row = some (.lst vs)) : vs.length = ps.length := by
  obtain ⟨us, h2, h3⟩ := h.ro
  rw [h2] at e
  cases e
  rw [(dpAll_all2 h3).1, rowD_map, List.length_map]

theorem rowD_app : ∀ a b : List Inl, rowD (a ++ b) = rowD a ++ rowD b
  | [], b => rfl
  | x :: a, b => by
    show x.toD :: rowD (a ++ b) = x.toD :: (rowD a ++ rowD b)
    rw [rowD_app a b]
def sp_Scan__put (K : PySem.W.Frag) (C : Addr) : Sp := fun vs H Q _ => ∃ (x row : Addr) (t : List Nat) (p pl e : Nat) (ps : List Inl) (v : V) (i : Inl), vs = [.ref x, v, .int (e : Int)] ∧ ScanAt K C H x row t p pl ps ∧ Dp K H v i.toD ∧ ps.length ≤ 100000 ∧ ∀ H', ScanAt K C H' x row t e e (ps ++ [i]) → Kp x row H H' → Q .non H'
theorem ok_Scan__put {P : Program} {w : World} {K : PySem.W.Frag} {mg : Str → Option Value} {base : Heap} (T : Txt w K mg) : FnOk P w K mg base CX0 1 T.a_Scan__put T.d_Scan__put ["self", "one", "end"] (sp_Scan__put K T.c_Scan) := by
  refine T.f_Scan__put.ok sc_Scan__put (fun vs H Q E h => ?_) (fun cdv A outer s H vs Q E hr h => ?_)
  · obtain ⟨x, row, t, p, pl, e, ps, v, i, rfl, _⟩ := h
    rfl
  · obtain ⟨x, row, t, p, pl, e, ps, v, i, rfl, hs, hv, hn, q⟩ := h
    refine ⟨_, (pss_cons (ps_expr (pe_bm PySem.F.plainAttrs_list PySem.F.slot_list_append PySem.F.type_list_append mt_append (pe_fld (pv 0) rfl) (pa_cons (pv 1) pa_nil)))
        (pss_cons (ps_fld (pv 0) (pv 2) rfl)
        (pss_one (ps_fld (pv 0) (pv 2) rfl)))), ?_⟩
    have hne := hs.ne
    have hl := fun vs e => hs.len (vs := vs) e
    obtain ⟨⟨dx, kn, br, st, nt, bar, h1⟩, vs, h2, h3⟩ := hs
    have lv := hl vs h2
    refine ⟨_, rfl, x, T.c_Scan, dx, _, _, rfl, h1, T.cl_Scan, T.na_Scan_row, rfl, .inl ⟨rfl, _, SqL.of h2⟩, ?_⟩
    refine ⟨_, rfl, row, vs, v, rfl, rfl, h2, by rw [lv, sizeLine_eq]; omega, ?_⟩
    have h1' : (upd H row (.lst (vs ++ [v]))) x = some (.ins T.c_Scan dx (scF t kn row br st p pl nt bar)) := by rw [upd_ne hne]; exact h1
    have h2' : (upd H row (.lst (vs ++ [v]))) row = some (.lst (vs ++ [v])) := upd_same
    have hd : DpAll K (upd H row (.lst (vs ++ [v]))) (vs ++ [v]) (rowD (ps ++ [i])) := by
      rw [rowD_app]
      refine dpAll_keep (L := row) Keeps.at ⟨vs, h2⟩ ?_ (dpAll_app h3 (.cons hv .nil))
      have := noList_row (ps ++ [i])
      rw [rowD_app] at this
      exact this
    refine ⟨_, rfl, _, rfl, x, T.c_Scan, dx, _, rfl, h1', T.cl_Scan, T.na_Scan_place, (by show 9 < 1000; decide), ?_⟩
    refine ⟨_, rfl, _, rfl, x, T.c_Scan, dx, _, rfl, upd_same, T.cl_Scan, T.na_Scan_plain, (by show 9 < 1000; decide), ?_⟩
    refine q _ ⟨⟨dx, kn, br, st, nt, bar, ?_⟩, vs ++ [v], ?_, ?_⟩ fun b o n m e' => ?_
    · rw [upd_same]
      rfl
    · rw [upd_ne hne.symm, upd_ne hne.symm]
      exact h2'
    · refine dpAll_ins (x := x) (H := upd H row (.lst (vs ++ [v]))) h1' (fun b o nb eb => ?_) hd
      rw [upd_ne nb, upd_ne nb]
      exact eb
    · rw [upd_ne n, upd_ne n, upd_ne m]
      exact e'

theorem dp_text {K : PySem.W.Frag} {H : Hp} {a : Addr} {w : List Nat} (h : H a = some (.tup [.str "text", .str (S w)])) : Dp K H (.ref a) (Inl.text w).toD := .tup (SqT.of h) (.cons (.str _) (.cons (.str _) .nil))
def sp_Scan__put_text (K : PySem.W.Frag) (C : Addr) : Sp := fun vs H Q _ => ∃ (x row : Addr) (t : List Nat) (p pl : Nat) (ps : List Inl) (w : List Nat), vs = [.ref x, .str (S w)] ∧ ScanAt K C H x row t p pl ps ∧ w.length ≤ 100000 ∧ ps.length ≤ 100000 ∧ ∀ H', ScanAt K C H' x row t (p + w.length) (p + w.length) (ps ++ [.text w]) → Kp x row H H' → Q .non H'
theorem ok_Scan__put_text {P : Program} {w : World} {K : PySem.W.Frag} {mg : Str → Option Value} {base : Heap} (T : Txt w K mg) : FnOk P w K mg base CX0 2 T.a_Scan__put_text T.d_Scan__put_text ["self", "words"] (sp_Scan__put_text K T.c_Scan) := by
  refine T.f_Scan__put_text.ok sc_Scan__put_text (fun vs H Q E h => ?_) (fun cdv A outer s H vs Q E hr h => ?_)
  · obtain ⟨x, row, t, p, pl, ps, w, rfl, _⟩ := h
    rfl
  · obtain ⟨x, row, t, p, pl, ps, w, rfl, hs, hw, hn, q⟩ := h
    refine ⟨_, (pss_one (ps_expr (pe_meth (pv 0) T.cl_Scan T.me_Scan__put (ok_Scan__put T) (hr.mono (by decide)) T.b_Scan__put .nil pass0 (pa_cons (pe_tup (pa_cons pe_str (pa_cons (pv 1) pa_nil))) (pa_cons (pe_op op_add (pe_fld (pv 0) rfl) (pe_callB call_len_str (by rfl) T.z_len PySem.boot_len (pa_cons (pv 1) pa_nil))) pa_nil))))), ?_⟩
    obtain ⟨dx, kn, br, st, nt, bar, h1⟩ := hs.ob
    refine ⟨_, rfl, x, dx, _, rfl, h1, rfl, ?_⟩
    refine ⟨_, rfl, (by show 2 ≤ sizeLine; decide), fun a na => ?_⟩
    have s1 : Same H (upd H a (.tup [.str "text", .str (S w)])) := same_new na
    have ha : (upd H a (.tup [.str "text", .str (S w)])) a = some (.tup [.str "text", .str (S w)]) := upd_same
    generalize (upd H a (.tup [.str "text", .str (S w)])) = H1 at s1 ha ⊢
    refine ⟨_, rfl, x, T.c_Scan, dx, _, _, rfl, s1 _ _ h1, T.cl_Scan, T.na_Scan_place, rfl, _, rfl, _, rfl, by rw [S_len, sizeLine_eq]; omega, _, _, rfl, rfl, ?_⟩
    refine ⟨x, row, t, p, pl, p + w.length, ps, _, .text w, ?_, hs.same s1, dp_text ha, hn, fun H' hs' k' => q H' hs' ((Kp.of s1).trans k')⟩
    rw [S_len]
    have e : ((p + w.length : Nat) : Int) = (p : Int) + (w.length : Int) := by omega
    rw [e]
    rfl
/-- '&' at p: what is meant, or the sign itself; how far -/
def rfR (l : List Nat) : Inl × Nat := match refR l with
  | some (k, c) => (.text [c], k)
  | none => (.text [38], 1)
def sp_take_reference (K : PySem.W.Frag) (C : Addr) : Sp := fun vs H Q _ => ∃ (x row : Addr) (t : List Nat) (p pl : Nat) (ps : List Inl), vs = [.ref x] ∧ ScanAt K C H x row t p pl ps ∧ TP t p ∧ Asc t ∧ ps.length ≤ 99999 ∧ ∀ H', ScanAt K C H' x row t (p + (rfR (t.drop p)).2) (p + (rfR (t.drop p)).2) (ps ++ [(rfR (t.drop p)).1]) → Kp x row H H' → Q .non H'
theorem ok_take_reference {P : Program} {w : World} {K : PySem.W.Frag} {mg : Str → Option Value} {base : Heap} (T : Txt w K mg) : FnOk P w K mg base CX0 4 T.a_take_reference T.d_take_reference ["scan"] (sp_take_reference K T.c_Scan) := by
  refine T.f_take_reference.ok sc_take_reference (fun vs H Q E h => ?_) (fun cdv A outer s H vs Q E hr h => ?_)
  · obtain ⟨x, row, t, p, pl, ps, rfl, _⟩ := h
    rfl
  · obtain ⟨x, row, t, p, pl, ps, rfl, hs, tp, ha, hn, q⟩ := h
    refine ⟨_, (pss_cons (ps_set (i := 1) sc_take_reference.nd rfl (.inl rfl) (pe_call (ok_reference_at T) (hr.mono (by decide)) (by rfl) T.g_reference_at T.f_reference_at.kp T.b_reference_at .nil pass0 (pa_cons (pe_fld (pv 0) rfl) (pa_cons (pe_fld (pv 0) rfl) pa_nil))))
        (pss_one (ps_if (pt_cmpR op_isN (pv 1) pe_non (nomark _)) (pss_one (ps_expr (pe_meth (pv 0) T.cl_Scan T.me_Scan__put_text (ok_Scan__put_text T) (hr.mono (by decide)) T.b_Scan__put_text .nil pass0 (pa_cons pe_str pa_nil)))) (pss_cons (ps_asg (pv 1) (pg_tup (by rfl) (pgs_cons (pg_name (i := 2) sc_take_reference.nd rfl (.inl rfl)) (pgs_cons (pg_name (i := 3) sc_take_reference.nd rfl (.inl rfl)) pgs_nil))))
        (pss_one (ps_expr (pe_meth (pv 0) T.cl_Scan T.me_Scan__put (ok_Scan__put T) (hr.mono (by decide)) T.b_Scan__put .nil pass0 (pa_cons (pe_tup (pa_cons pe_str (pa_cons (pv 3) pa_nil))) (pa_cons (pv 2) pa_nil))))))))), ?_⟩
    obtain ⟨dx, kn, br, st, nt, bar, h1⟩ := hs.ob
    refine ⟨_, rfl, x, T.c_Scan, dx, _, _, rfl, h1, T.cl_Scan, T.na_Scan_content, rfl, _, rfl, x, T.c_Scan, dx, _, _, rfl, h1, T.cl_Scan, T.na_Scan_place, rfl, t, p, rfl, tp, ha, fun H1 v s1 hv => ?_⟩
    unfold rfR at q
    cases er : refR (t.drop p) with
    | none =>
      rw [er] at hv q
      have hv' : v = .non := hv
      subst hv'
      refine ⟨_, rfl, rfl, _, rfl, iteT ?_⟩
      refine ⟨_, rfl, x, dx, _, rfl, s1 _ _ h1, rfl, ?_⟩
      refine ⟨x, row, t, p, pl, ps, [38], by rw [show ("&" : Str) = S [38] by decide +kernel]; rfl, hs.same s1, by decide, by omega, fun H' hs' k' => ?_⟩
      exact q H' hs' ((Kp.of s1).trans k')
    | some kc =>
      obtain ⟨k, c⟩ := kc
      rw [er] at hv q
      obtain ⟨r, rfl, hr1⟩ := hv
      refine ⟨_, rfl, rfl, _, rfl, iteF ?_⟩
      refine ⟨_, rfl, r, _, rfl, SqT.of hr1, rfl, _, _, rfl, _, _, rfl, rfl, ?_⟩
      refine ⟨_, rfl, x, dx, _, rfl, s1 _ _ h1, rfl, ?_⟩
      refine ⟨_, rfl, (by show 2 ≤ sizeLine; decide), fun a na => ⟨_, rfl, ?_⟩⟩
      have s2 : Same H1 (upd H1 a (.tup [.str "text", .str (S [c])])) := same_new na
      refine ⟨x, row, t, p, pl, p + k, ps, _, .text [c], rfl, (hs.same s1).same s2, dp_text upd_same, by omega, fun H' hs' k' => ?_⟩
      exact q H' hs' ((Kp.of (s1.trans s2)).trans k')

def WhL : List Nat := [32, 9]
theorem lit_W : (" \t" : Str) = S WhL := by decide +kernel
theorem dp_soft {K : PySem.W.Frag} {H : Hp} {a : Addr} (h : H a = some (.tup [.str "soft"])) : Dp K H (.ref a) Inl.soft.toD := .tup (SqT.of h) (.cons (.str _) .nil)
theorem dp_hard {K : PySem.W.Frag} {H : Hp} {a : Addr} (h : H a = some (.tup [.str "hard"])) : Dp K H (.ref a) Inl.hard.toD := .tup (SqT.of h) (.cons (.str _) .nil)
/-- a backslash at p: what is put, how far -/
def bsR (t : List Nat) (p : Nat) : Inl × Nat := if escR (t.drop p) = true then (.text [(t.drop (p + 1)).headD 0], p + 2) else if ([10] : List Nat).isPrefixOf (t.drop (p + 1)) = true then (.hard, pos t (ba WhL (t.drop (p + 2)))) else (.text [92], p + 1)
def sp_take_backslash (K : PySem.W.Frag) (C : Addr) : Sp := fun vs H Q _ => ∃ (x row : Addr) (t : List Nat) (p pl : Nat) (ps : List Inl), vs = [.ref x] ∧ ScanAt K C H x row t p pl ps ∧ p < t.length ∧ t.length ≤ 100000 ∧ ps.length ≤ 99999 ∧ ∀ H', ScanAt K C H' x row t (bsR t p).2 (bsR t p).2 (ps ++ [(bsR t p).1]) → Kp x row H H' → Q .non H'
theorem esc_len {t : List Nat} {p : Nat} (h : escR (t.drop p) = true) : ∃ c, t[p + 1]? = some c ∧ (t.drop (p + 1)).headD 0 = c := by
  cases hd : t.drop p with
  | nil => rw [hd] at h; cases h
  | cons a r => cases r with
    | nil => rw [hd] at h; cases h
    | cons c r =>
      have h1 : t.drop (p + 1) = c :: r := by rw [← List.drop_drop, hd]; rfl
      refine ⟨c, ?_, by rw [h1]; rfl⟩
      have := congrArg (fun l => l[0]?) h1
      simpa using this
theorem ok_take_backslash {P : Program} {w : World} {K : PySem.W.Frag} {mg : Str → Option Value} {base : Heap} (T : Txt w K mg) : FnOk P w K mg base CX0 3 T.a_take_backslash T.d_take_backslash ["scan"] (sp_take_backslash K T.c_Scan) := by
  refine T.f_take_backslash.ok sc_take_backslash (fun vs H Q E h => ?_) (fun cdv A outer s H vs Q E hr h => ?_)
  · obtain ⟨x, row, t, p, pl, ps, rfl, _⟩ := h
    rfl
  · obtain ⟨x, row, t, p, pl, ps, rfl, hs, hp, ht, hn, q⟩ := h
    refine ⟨_, (pss_cons (ps_par (i := 1) (j := 2) (by rfl) sc_take_backslash.nd rfl rfl (by decide) rfl rfl (pa_cons (pe_fld (pv 0) rfl) (pa_cons (pe_fld (pv 0) rfl) pa_nil)) (by rfl))
        (pss_one (ps_if (pt_val (pe_call (ok_is_escape T) (hr.mono (by decide)) (by rfl) T.g_is_escape T.f_is_escape.kp T.b_is_escape .nil pass0 (pa_cons (pv 1) (pa_cons (pv 2) pa_nil)))) (pss_one (ps_expr (pe_meth (pv 0) T.cl_Scan T.me_Scan__put (ok_Scan__put T) (hr.mono (by decide)) T.b_Scan__put .nil pass0 (pa_cons (pe_tup (pa_cons pe_str (pa_cons (pe_ix ix_str (pv 1) (pe_op op_add (pv 2) pe_int) (fun _ _ => rfl)) pa_nil))) (pa_cons (pe_op op_add (pv 2) pe_int) pa_nil))))) (pss_one (ps_if (pt_val (pe_bm PySem.F.plainAttrs_str PySem.F.slot_str_startswith PySem.F.type_str_startswith mt_startswith3 (pv 1) (pa_cons pe_str (pa_cons (pe_op op_add (pv 2) pe_int) pa_nil)))) (pss_one (ps_expr (pe_meth (pv 0) T.cl_Scan T.me_Scan__put (ok_Scan__put T) (hr.mono (by decide)) T.b_Scan__put .nil pass0 (pa_cons (pe_tup (pa_cons pe_str pa_nil)) (pa_cons (pe_call (ok_behind_all T) (hr.mono (by decide)) (by rfl) T.g_behind_all T.f_behind_all.kp T.b_behind_all .nil pass0 (pa_cons (pe_glob (v := .str " \t") rfl T.g_WHITE ⟨_, rfl⟩) (pa_cons (pv 1) (pa_cons (pe_op op_add (pv 2) pe_int) pa_nil)))) pa_nil))))) (pss_one (ps_expr (pe_meth (pv 0) T.cl_Scan T.me_Scan__put_text (ok_Scan__put_text T) (hr.mono (by decide)) T.b_Scan__put_text .nil pass0 (pa_cons pe_str pa_nil))))))))), ?_⟩
    obtain ⟨dx, kn, br, st, nt, bar, h1⟩ := hs.ob
    have tp : TP t p := ⟨by omega, ht⟩
    refine ⟨_, rfl, x, T.c_Scan, dx, _, _, rfl, h1, T.cl_Scan, T.na_Scan_content, rfl, _, rfl, x, T.c_Scan, dx, _, _, rfl, h1, T.cl_Scan, T.na_Scan_place, rfl, _, _, rfl, ?_⟩
    refine ⟨_, rfl, _, rfl, t, p, rfl, tp, _, rfl, ?_⟩
    unfold bsR at q
    refine ite2 (fun he => ?_) (fun he => ?_)
    · rw [if_pos he] at q
      obtain ⟨c, hc, hc2⟩ := esc_len he
      rw [hc2] at q
      have h2 := (List.getElem?_eq_some_iff.mp hc).1
      refine ⟨_, rfl, x, dx, _, rfl, h1, rfl, ?_⟩
      refine ⟨_, rfl, _, rfl, _, _, rfl, rfl, _, _, c, rfl, rfl, tp.line, atI_nat (j := p + 1) (by rw [S_tl]; exact hc), ?_⟩
      refine ⟨(by show 2 ≤ sizeLine; decide), fun a na => ⟨_, rfl, _, _, rfl, rfl, ?_⟩⟩
      have s1 : Same H (upd H a (.tup [.str "text", .str (S [c])])) := same_new na
      exact ⟨x, row, t, p, pl, p + 2, ps, _, .text [c], rfl, hs.same s1, dp_text upd_same, by omega, fun H' hs' k' => q H' hs' ((Kp.of s1).trans k')⟩
    · rw [if_neg he] at q
      refine ⟨_, rfl, rfl, _, rfl, _, _, rfl, rfl, _, _, _, rfl, rfl, _, rfl, ?_⟩
      have e1 : Txt.startswith3 (S t) ("\n" : Str) ((p : Int) + 1) = ([10] : List Nat).isPrefixOf (t.drop (p + 1)) := by
        rw [show ("\n" : Str) = S [10] by decide +kernel, show ((p : Int) + 1) = ((p + 1 : Nat) : Int) by omega, starts3 t [10] (by simp)]
      rw [e1]
      refine ite2 (fun hl => ?_) (fun hl => ?_)
      · rw [if_pos hl] at q
        have h2 := pre1 hl
        refine ⟨_, rfl, x, dx, _, rfl, h1, rfl, ?_⟩
        refine ⟨(by show 1 ≤ sizeLine; decide), fun a na => ⟨_, rfl, _, rfl, _, _, rfl, rfl, ?_⟩⟩
        have s1 : Same H (upd H a (.tup [.str "hard"])) := same_new na
        refine ⟨WhL, t, p + 2, by rw [lit_W]; rfl, ⟨by omega, ht⟩, ?_⟩
        exact ⟨x, row, t, p, pl, _, ps, _, .hard, rfl, hs.same s1, dp_hard upd_same, by omega, fun H' hs' k' => q H' hs' ((Kp.of s1).trans k')⟩
      · rw [if_neg hl] at q
        refine ⟨_, rfl, x, dx, _, rfl, h1, rfl, ?_⟩
        exact ⟨x, row, t, p, pl, ps, [92], by rw [show ("\\" : Str) = S [92] by decide +kernel]; rfl, hs, by decide, by omega, fun H' hs' k' => q H' hs' k'⟩
def hardB (t : List Nat) (pl p : Nat) : Bool := decide ((t.drop (max pl (p - 2))).take (p - max pl (p - 2)) = [32, 32])
/-- a line feed at p -/
def lfR (t : List Nat) (pl p : Nat) : Inl × Nat := (if hardB t pl p = true then .hard else .soft, pos t (ba WhL (t.drop (p + 1))))
def sp_take_line_feed (K : PySem.W.Frag) (C : Addr) : Sp := fun vs H Q _ => ∃ (x row : Addr) (t : List Nat) (p pl : Nat) (ps : List Inl), vs = [.ref x] ∧ ScanAt K C H x row t p pl ps ∧ p < t.length ∧ pl ≤ p ∧ t.length ≤ 100000 ∧ ps.length ≤ 99999 ∧ ∀ H', ScanAt K C H' x row t (lfR t pl p).2 (lfR t pl p).2 (ps ++ [(lfR t pl p).1]) → Kp x row H H' → Q .non H'
theorem ok_take_line_feed {P : Program} {w : World} {K : PySem.W.Frag} {mg : Str → Option Value} {base : Heap} (T : Txt w K mg) : FnOk P w K mg base CX0 2 T.a_take_line_feed T.d_take_line_feed ["scan"] (sp_take_line_feed K T.c_Scan) := by
  refine T.f_take_line_feed.ok sc_take_line_feed (fun vs H Q E h => ?_) (fun cdv A outer s H vs Q E hr h => ?_)
  · obtain ⟨x, row, t, p, pl, ps, rfl, _⟩ := h
    rfl
  · obtain ⟨x, row, t, p, pl, ps, rfl, hs, hp, hpl, ht, hn, q⟩ := h
    refine ⟨_, (pss_cons (ps_par (i := 1) (j := 2) (by rfl) sc_take_line_feed.nd rfl rfl (by decide) rfl rfl (pa_cons (pe_fld (pv 0) rfl) (pa_cons (pe_fld (pv 0) rfl) pa_nil)) (by rfl))
        (pss_cons (ps_set (i := 3) sc_take_line_feed.nd rfl (.inl rfl) pe_str)
        (pss_cons (ps_if (pt_cmpR op_eq (pe_slice sl_str (pv 1) (po_some (pe_callB (call_max2 rfl) (by rfl) T.z_max (by decide +kernel) (pa_cons (pe_fld (pv 0) rfl) (pa_cons (pe_op op_sub (pv 2) pe_int) pa_nil)))) (po_some (pv 2))) pe_str (nomark _)) (pss_one (ps_set (i := 3) sc_take_line_feed.nd rfl (.inl rfl) pe_str)) pss_nil)
        (pss_one (ps_expr (pe_meth (pv 0) T.cl_Scan T.me_Scan__put (ok_Scan__put T) (hr.mono (by decide)) T.b_Scan__put .nil pass0 (pa_cons (pe_tup (pa_cons (pv 3) pa_nil)) (pa_cons (pe_call (ok_behind_all T) (hr.mono (by decide)) (by rfl) T.g_behind_all T.f_behind_all.kp T.b_behind_all .nil pass0 (pa_cons (pe_glob (v := .str " \t") rfl T.g_WHITE ⟨_, rfl⟩) (pa_cons (pv 1) (pa_cons (pe_op op_add (pv 2) pe_int) pa_nil)))) pa_nil)))))))), ?_⟩
    obtain ⟨dx, kn, br, st, nt, bar, h1⟩ := hs.ob
    have tp : TP t p := ⟨by omega, ht⟩
    refine ⟨_, rfl, x, T.c_Scan, dx, _, _, rfl, h1, T.cl_Scan, T.na_Scan_content, rfl, _, rfl, x, T.c_Scan, dx, _, _, rfl, h1, T.cl_Scan, T.na_Scan_place, rfl, _, _, rfl, ?_⟩
    refine ⟨_, rfl, _, rfl, x, T.c_Scan, dx, _, _, rfl, h1, T.cl_Scan, T.na_Scan_plain, rfl, _, rfl, _, _, rfl, rfl, _, _, rfl, ?_⟩
    have em : (if (p : Int) - 2 > (pl : Int) then (p : Int) - 2 else (pl : Int)) = ((max pl (p - 2) : Nat) : Int) := by
      split <;> omega
    rw [em]
    refine ⟨_, rfl, _, rfl, _, rfl, S t, rfl, tp.line, ?_⟩
    rw [S_cut2 t _ _ (by omega : max pl (p - 2) ≤ p)]
    have eh : decide (V.str (S ((t.drop (max pl (p - 2))).take (p - max pl (p - 2)))) = V.str ("  " : Str)) = hardB t pl p := by
      unfold hardB
      rw [show ("  " : Str) = S [32, 32] by decide +kernel]
      exact decide_eq_decide.mpr ⟨fun e => S_inj (V.str.inj e), fun e => by rw [e]⟩
    refine ⟨rfl, _, rfl, ?_⟩
    rw [eh]
    unfold lfR at q
    refine ite2 (fun hb => ?_) (fun hb => ?_)
    · rw [if_pos hb] at q
      refine ⟨_, rfl, x, dx, _, rfl, h1, rfl, ?_⟩
      refine ⟨_, rfl, (by show 1 ≤ sizeLine; decide), fun a na => ⟨_, rfl, _, rfl, _, _, rfl, rfl, ?_⟩⟩
      have s1 : Same H (upd H a (.tup [.str "hard"])) := same_new na
      refine ⟨WhL, t, p + 1, by rw [lit_W]; rfl, ⟨by omega, ht⟩, ?_⟩
      exact ⟨x, row, t, p, pl, _, ps, _, .hard, rfl, hs.same s1, dp_hard upd_same, by omega, fun H' hs' k' => q H' hs' ((Kp.of s1).trans k')⟩
    · rw [if_neg hb] at q
      refine ⟨_, rfl, x, dx, _, rfl, h1, rfl, ?_⟩
      refine ⟨_, rfl, (by show 1 ≤ sizeLine; decide), fun a na => ⟨_, rfl, _, rfl, _, _, rfl, rfl, ?_⟩⟩
      have s1 : Same H (upd H a (.tup [.str "soft"])) := same_new na
      refine ⟨WhL, t, p + 1, by rw [lit_W]; rfl, ⟨by omega, ht⟩, ?_⟩
      exact ⟨x, row, t, p, pl, _, ps, _, .soft, rfl, hs.same s1, dp_soft upd_same, by omega, fun H' hs' k' => q H' hs' ((Kp.of s1).trans k')⟩

def StepL : List Nat := [92, 96, 60, 38, 10, 42, 95, 91, 33, 93]
def StepK : List Str := ["\\", "`", "<", "&", "\n", "*", "_", "[", "!", "]"]
theorem stepK : StepK = StepL.map fun c => S [c] := by decide +kernel
theorem look_some (z : Str) : ∀ (ps : List (Str × V)), (ps.lookup z).isSome = (ps.map (·.1)).contains z
  | [] => rfl
  | (k, v) :: ps => by
    rw [List.lookup_cons, List.map_cons, List.contains_cons]
    cases h : z == k with
    | true => rfl
    | false => exact look_some z ps
theorem step_in {ps : List (Str × V)} (e : ps.map (·.1) = StepK) (c : Nat) : (ps.lookup (S [c])).isSome = StepL.contains c := by
  rw [look_some, e, stepK]
  have h : ∀ l : List Nat, (l.map fun c => S [c]).contains (S [c]) = l.contains c := fun l => by
    induction l with
    | nil => rfl
    | cons a l ih =>
      rw [List.map_cons, List.contains_cons, List.contains_cons, ih]
      congr 1
      by_cases h : c = a
      · subst h
        rw [beq_self_eq_true, beq_self_eq_true]
      · rw [beq_eq_false_iff_ne.mpr h, beq_eq_false_iff_ne.mpr fun e => h (List.cons.inj (S_inj e)).1]
  exact h StepL
def nsL (l : List Nat) : List Nat := l.takeWhile fun c => !StepL.contains c
def plE (t : List Nat) (p : Nat) : Nat := p + 1 + (nsL (t.drop (p + 1))).length
def rstW (w : List Nat) : List Nat := (Txt.rstripChars (S w) (S WhL)).cps.toList
/-- plain signs from p on -/
def plW (t : List Nat) (p : Nat) : List Nat := if ([10] : List Nat).isPrefixOf (t.drop (plE t p)) = true then rstW ((t.drop p).take (plE t p - p)) else (t.drop p).take (plE t p - p)
theorem plE_le {t : List Nat} {p : Nat} (h : p < t.length) : plE t p ≤ t.length ∧ p < plE t p := by
  unfold plE nsL
  have h1 : ((t.drop (p + 1)).takeWhile fun c => !StepL.contains c).length ≤ (t.drop (p + 1)).length := by
    have e := List.takeWhile_append_dropWhile (p := fun c => !StepL.contains c) (l := t.drop (p + 1))
    have := congrArg List.length e
    rw [List.length_append] at this
    omega
  rw [List.length_drop] at h1
  omega
theorem tw_at {P : Nat → Bool} : ∀ {l : List Nat} {i : Nat}, i < (l.takeWhile P).length → ∃ c, l[i]? = some c ∧ P c = true
  | [], _, h => absurd h (Nat.not_lt_zero _)
  | a :: l, i, h => by
    rw [List.takeWhile_cons] at h
    by_cases e : P a = true
    · rw [if_pos e] at h
      cases i with
      | zero => exact ⟨a, rfl, e⟩
      | succ i => exact tw_at (l := l) (i := i) (by rw [List.length_cons] at h; omega)
    · rw [if_neg e] at h
      exact absurd h (Nat.not_lt_zero _)
theorem tw_end {P : Nat → Bool} : ∀ {l : List Nat}, (l.takeWhile P).length < l.length → ∃ c, l[(l.takeWhile P).length]? = some c ∧ P c = false
  | [], h => absurd h (Nat.not_lt_zero _)
  | a :: l, h => by
    by_cases e : P a = true
    · rw [List.takeWhile_cons, if_pos e] at h ⊢
      exact tw_end (l := l) (by rw [List.length_cons, List.length_cons] at h; omega)
    · rw [List.takeWhile_cons, if_neg e]
      exact ⟨a, rfl, by simpa using e⟩
theorem ns_at {t : List Nat} {p k : Nat} (h1 : p < k) (h2 : k < plE t p) : ∃ c, t[k]? = some c ∧ StepL.contains c = false := by
  unfold plE nsL at h2
  obtain ⟨c, e, hc⟩ := tw_at (i := k - (p + 1)) (by omega : k - (p + 1) < ((t.drop (p + 1)).takeWhile fun c => !StepL.contains c).length)
  rw [List.getElem?_drop] at e
  rw [show p + 1 + (k - (p + 1)) = k by omega] at e
  exact ⟨c, e, by simpa using hc⟩
theorem ns_end {t : List Nat} {p : Nat} (h : plE t p < t.length) : ∃ c, t[plE t p]? = some c ∧ StepL.contains c = true := by
  have h' := h
  unfold plE nsL at h'
  obtain ⟨c, e, hc⟩ := tw_end (l := t.drop (p + 1)) (P := fun c => !StepL.contains c) (by rw [List.length_drop]; omega)
  rw [List.getElem?_drop] at e
  exact ⟨c, e, by simpa using hc⟩
def sp_take_plain (K : PySem.W.Frag) (C : Addr) : Sp := fun vs H Q _ => ∃ (x row : Addr) (t : List Nat) (p pl : Nat) (ps : List Inl), vs = [.ref x] ∧ ScanAt K C H x row t p pl ps ∧ p < t.length ∧ t.length ≤ 100000 ∧ ps.length ≤ 99999 ∧ ∀ H', ScanAt K C H' x row t (plE t p) pl (ps ++ [.text (plW t p)]) → Kp x row H H' → Q .non H'
theorem ok_take_plain {P : Program} {w : World} {K : PySem.W.Frag} {mg : Str → Option Value} {base : Heap} (T : Txt w K mg) : FnOk P w K mg base CX0 1 T.a_take_plain T.d_take_plain ["scan"] (sp_take_plain K T.c_Scan) := by
  refine T.f_take_plain.ok sc_take_plain (fun vs H Q E h => ?_) (fun cdv A outer s H vs Q E hr h => ?_)
  · obtain ⟨x, row, t, p, pl, ps, rfl, _⟩ := h
    rfl
  · obtain ⟨x, row, t, p, pl, ps, rfl, hs, hp, ht, hn, q⟩ := h
    refine ⟨_, (pss_cons (ps_set (i := 1) sc_take_plain.nd rfl (.inl rfl) (pe_fld (pv 0) rfl))
        (pss_cons (ps_set (i := 2) sc_take_plain.nd rfl (.inl rfl) (pe_op op_add (pe_fld (pv 0) rfl) pe_int))
        (pss_cons (ps_while PassesOwn.never (PW.pt (pw_and (pt_cmpR op_lt (pv 2) (pe_callB call_len_str (by rfl) T.z_len PySem.boot_len (pa_cons (pv 1) pa_nil)) (nomark _)) (pw_and1 (pt_cmpR (op_notIn_ks T.k_STEPS) (pe_ix ix_str (pv 1) (pv 2) (fun _ _ => rfl)) (pe_glob (v := .ref T.a_STEPS) rfl T.g_STEPS rfl) (by rfl))))) (pss_one (ps_aug (i := 2) sc_take_plain.nd rfl (.inl rfl) pe_int ip_add)))
        (pss_cons (ps_set (i := 3) sc_take_plain.nd rfl (.inl rfl) (pe_slice sl_str (pv 1) (po_some (pe_fld (pv 0) rfl)) (po_some (pv 2))))
        (pss_cons (ps_if (pt_val (pe_bm PySem.F.plainAttrs_str PySem.F.slot_str_startswith PySem.F.type_str_startswith mt_startswith3 (pv 1) (pa_cons pe_str (pa_cons (pv 2) pa_nil)))) (pss_one (ps_set (i := 3) sc_take_plain.nd rfl (.inl rfl) (pe_bm PySem.F.plainAttrs_str PySem.F.slot_str_rstrip PySem.F.type_str_rstrip mt_rstripChars (pv 3) (pa_cons (pe_glob (v := .str " \t") rfl T.g_WHITE ⟨_, rfl⟩) pa_nil)))) pss_nil)
        (pss_cons (ps_expr (pe_bm PySem.F.plainAttrs_list PySem.F.slot_list_append PySem.F.type_list_append mt_append (pe_fld (pv 0) rfl) (pa_cons (pe_tup (pa_cons pe_str (pa_cons (pv 3) pa_nil))) pa_nil)))
        (pss_one (ps_fld (pv 0) (pv 2) rfl)))))))), ?_⟩
    have hl := fun vs e => hs.len (vs := vs) e
    have hne := hs.ne
    obtain ⟨⟨dx, kn, br, st, nt, bar, h1⟩, vs, h2, h3⟩ := hs
    have tp : TP t p := ⟨by omega, ht⟩
    have hE := plE_le hp
    refine ⟨_, rfl, x, T.c_Scan, dx, _, _, rfl, h1, T.cl_Scan, T.na_Scan_content, rfl, _, rfl, x, T.c_Scan, dx, _, _, rfl, h1, T.cl_Scan, T.na_Scan_place, rfl, _, _, rfl, rfl, ?_⟩
    refine ⟨fun m σ H' => H' = H ∧ ∃ k : Nat, σ = [some (.ref x), some (.str (S t)), some (.int (k : Int)), none] ∧ p < k ∧ k ≤ plE t p ∧ m = plE t p - k, ⟨plE t p - (p + 1), rfl, p + 1, rfl, by omega, by omega, rfl⟩, ?_⟩
    rintro m σ H' ⟨rfl, k, rfl, hk1, hk2, rfl⟩
    refine ⟨_, rfl, _, rfl, _, rfl, tp.line, _, _, rfl, rfl, _, rfl, ?_⟩
    have fin : ∀ (wt : List Nat) (a : Addr), H' a = none → wt = plW t p → ∃ (l : Addr) (xs : List V) (y : V), V.ref row = .ref l ∧ [V.ref a] = [y] ∧ (upd H' a (.tup [.str "text", .str (S wt)])) l = some (.lst xs) ∧ xs.length < sizeLine ∧ (∃ (b C' dx' : Addr) (fs : List (Str × V)), V.ref x = .ref b ∧ (upd (upd H' a (.tup [.str "text", .str (S wt)])) l (.lst (xs ++ [y]))) b = some (.ins C' dx' fs) ∧ Cls K C' ∧ NoAttr K C' "place" ∧ fs.length < 1000 ∧ Q .non (upd (upd (upd H' a (.tup [.str "text", .str (S wt)])) l (.lst (xs ++ [y]))) b (.ins C' dx' (putF "place" (.int ((plE t p : Nat) : Int)) fs)))) := fun wt a na ew => by
      have s1 : Same H' (upd H' a (.tup [.str "text", .str (S wt)])) := same_new na
      have da : Dp K (upd H' a (.tup [.str "text", .str (S wt)])) (.ref a) (Inl.text wt).toD := dp_text upd_same
      generalize (upd H' a (.tup [.str "text", .str (S wt)])) = H1 at s1 da ⊢
      have h21 := s1 _ _ h2
      have h11 := s1 _ _ h1
      have h31 := dpAll_same s1 h3
      have h1' : (upd H1 row (.lst (vs ++ [V.ref a]))) x = some (.ins T.c_Scan dx (scF t kn row br st p pl nt bar)) := by rw [upd_ne hne]; exact h11
      have hd : DpAll K (upd H1 row (.lst (vs ++ [V.ref a]))) (vs ++ [V.ref a]) (rowD (ps ++ [.text wt])) := by
        rw [rowD_app]
        refine dpAll_keep (L := row) Keeps.at ⟨vs, h21⟩ ?_ (dpAll_app h31 (.cons da .nil))
        have := noList_row (ps ++ [.text wt])
        rw [rowD_app] at this
        exact this
      refine ⟨row, vs, .ref a, rfl, rfl, h21, by rw [hl vs h2, sizeLine_eq]; omega, x, T.c_Scan, dx, _, rfl, h1', T.cl_Scan, T.na_Scan_place, (by show 9 < 1000; decide), ?_⟩
      rw [ew] at hd
      refine q _ ⟨⟨dx, kn, br, st, nt, bar, ?_⟩, vs ++ [.ref a], ?_, ?_⟩ fun b o n m e' => ?_
      · rw [upd_same]
        rfl
      · rw [upd_ne hne.symm, upd_same]
      · exact dpAll_ins (x := x) (H := upd H1 row (.lst (vs ++ [V.ref a]))) h1' (fun b o nb eb => by rw [upd_ne nb]; exact eb) hd
      · rw [upd_ne n, upd_ne m]
        exact s1 _ _ e'
    by_cases hlt : k < plE t p
    · obtain ⟨c, hc, hn2⟩ := ns_at hk1 hlt
      have h2t := (List.getElem?_eq_some_iff.mp hc).1
      refine ifT (decide_eq_true (by rw [S_len]; omega)) ?_
      refine ⟨_, rfl, _, rfl, _, _, c, rfl, rfl, tp.line, atI_nat (by rw [S_tl]; exact hc), S [c], rfl, rfl, _, rfl, ?_⟩
      rw [step_in (c := c) (by rfl), hn2]
      refine iteT ⟨fun σ' H2 => H2 = H' ∧ σ' = [some (.ref x), some (.str (S t)), some (.int ((k + 1 : Nat) : Int)), none], ?_, ?_⟩
      · rintro σ' H2 ⟨rfl, rfl⟩
        exact ⟨plE t p - (k + 1), by omega, rfl, k + 1, rfl, by omega, by omega, rfl⟩
      · exact ⟨_, rfl, _, _, rfl, rfl, rfl, rfl⟩
    · have ek : k = plE t p := by omega
      subst ek
      by_cases hlen : plE t p < t.length
      · obtain ⟨c, hc, hc2⟩ := ns_end hlen
        refine ifT (decide_eq_true (by rw [S_len]; omega)) ?_
        refine ⟨_, rfl, _, rfl, _, _, c, rfl, rfl, tp.line, atI_nat (by rw [S_tl]; exact hc), S [c], rfl, rfl, _, rfl, ?_⟩
        rw [step_in (c := c) (by rfl), hc2]
        refine iteF ?_
        refine ⟨_, rfl, _, rfl, x, T.c_Scan, dx, _, _, rfl, h1, T.cl_Scan, T.na_Scan_place, rfl, _, rfl, _, rfl, _, rfl, S t, rfl, tp.line, ?_⟩
        rw [S_cut2 t p _ (by omega : p ≤ plE t p)]
        refine ⟨_, rfl, rfl, _, rfl, _, _, _, rfl, rfl, _, rfl, ?_⟩
        rw [show ("\n" : Str) = S [10] by decide +kernel, starts3 t [10] (by simp)]
        refine ite2 (fun hb => ?_) (fun hb => ?_)
        · refine ⟨_, rfl, rfl, _, _, rfl, rfl, by rw [S_len, sizeLine_eq, List.length_take]; omega, ?_⟩
          rw [lit_W, S_of (Txt.rstripChars _ _)]
          refine ⟨_, rfl, x, T.c_Scan, dx, _, _, rfl, h1, T.cl_Scan, T.na_Scan_row, rfl, .inl ⟨rfl, _, SqL.of h2⟩, _, rfl, (by show 2 ≤ sizeLine; decide), fun a na => ?_⟩
          obtain ⟨l, xs, y, e1, e2, g1, g2, b, C', dx', fs, e3, g3, g4, g5, g6, g7⟩ := fin _ a na (by unfold plW; rw [if_pos hb]; try exact rfl)
          exact ⟨l, xs, y, e1, e2, g1, g2, _, rfl, _, rfl, b, C', dx', fs, e3, g3, g4, g5, g6, g7⟩
        · refine ⟨_, rfl, x, T.c_Scan, dx, _, _, rfl, h1, T.cl_Scan, T.na_Scan_row, rfl, .inl ⟨rfl, _, SqL.of h2⟩, _, rfl, (by show 2 ≤ sizeLine; decide), fun a na => ?_⟩
          obtain ⟨l, xs, y, e1, e2, g1, g2, b, C', dx', fs, e3, g3, g4, g5, g6, g7⟩ := fin _ a na (by unfold plW; rw [if_neg hb])
          exact ⟨l, xs, y, e1, e2, g1, g2, _, rfl, _, rfl, b, C', dx', fs, e3, g3, g4, g5, g6, g7⟩
      · refine ifF (decide_eq_false (by rw [S_len]; omega)) (iteF ?_)
        refine ⟨_, rfl, _, rfl, x, T.c_Scan, dx, _, _, rfl, h1, T.cl_Scan, T.na_Scan_place, rfl, _, rfl, _, rfl, _, rfl, S t, rfl, tp.line, ?_⟩
        rw [S_cut2 t p _ (by omega : p ≤ plE t p)]
        refine ⟨_, rfl, rfl, _, rfl, _, _, _, rfl, rfl, _, rfl, ?_⟩
        rw [show ("\n" : Str) = S [10] by decide +kernel, starts3 t [10] (by simp)]
        refine ite2 (fun hb => ?_) (fun hb => ?_)
        · refine ⟨_, rfl, rfl, _, _, rfl, rfl, by rw [S_len, sizeLine_eq, List.length_take]; omega, ?_⟩
          rw [lit_W, S_of (Txt.rstripChars _ _)]
          refine ⟨_, rfl, x, T.c_Scan, dx, _, _, rfl, h1, T.cl_Scan, T.na_Scan_row, rfl, .inl ⟨rfl, _, SqL.of h2⟩, _, rfl, (by show 2 ≤ sizeLine; decide), fun a na => ?_⟩
          obtain ⟨l, xs, y, e1, e2, g1, g2, b, C', dx', fs, e3, g3, g4, g5, g6, g7⟩ := fin _ a na (by unfold plW; rw [if_pos hb]; try exact rfl)
          exact ⟨l, xs, y, e1, e2, g1, g2, _, rfl, _, rfl, b, C', dx', fs, e3, g3, g4, g5, g6, g7⟩
        · refine ⟨_, rfl, x, T.c_Scan, dx, _, _, rfl, h1, T.cl_Scan, T.na_Scan_row, rfl, .inl ⟨rfl, _, SqL.of h2⟩, _, rfl, (by show 2 ≤ sizeLine; decide), fun a na => ?_⟩
          obtain ⟨l, xs, y, e1, e2, g1, g2, b, C', dx', fs, e3, g3, g4, g5, g6, g7⟩ := fin _ a na (by unfold plW; rw [if_neg hb])
          exact ⟨l, xs, y, e1, e2, g1, g2, _, rfl, _, rfl, b, C', dx', fs, e3, g3, g4, g5, g6, g7⟩

def txtI (w : List Nat) : List Inl := if w = [] then [] else [.text w]
/-- texts side by side made one -/
def jnR : List Nat → List Inl → List Inl
  | w, [] => txtI w
  | w, .text t :: r => jnR (w ++ t) r
  | w, x :: r => txtI w ++ x :: jnR [] r
def textsV (ws : List (List Nat)) : List V := ws.map fun l => V.str (S l)
def sp_add_text (K : PySem.W.Frag) : Sp := fun vs H Q _ => ∃ (a b : Addr) (ws : List (List Nat)) (made : List Inl) (us : List V), vs = [.ref a, .ref b] ∧ H a = some (.lst (textsV ws)) ∧ H b = some (.lst us) ∧ DpAll K H us (rowD made) ∧ ws.flatten.length ≤ 1000000 ∧ made.length ≤ 100000 ∧
  ∀ H' us', Keeps b H H' → H' b = some (.lst us') → DpAll K H' us' (rowD (made ++ txtI ws.flatten)) → Q .non H'
theorem sum_S (ls : List (List Nat)) : ((ls.map S).map (·.length)).sum = ls.flatten.length := by
  rw [List.length_flatten, List.map_map]
  refine congrArg List.sum ?_
  exact List.map_congr_left fun l _ => S_len l
theorem lit_em : ("" : Str) = S [] := by decide +kernel
theorem ok_add_text {P : Program} {w : World} {K : PySem.W.Frag} {mg : Str → Option Value} {base : Heap} (T : Txt w K mg) : FnOk P w K mg base CX0 1 T.a_add_text T.d_add_text ["texts", "made"] (sp_add_text K) := by
  refine T.f_add_text.ok sc_add_text (fun vs H Q E h => ?_) (fun cdv A outer s H vs Q E hr h => ?_)
  · obtain ⟨a, b, ws, made, us, rfl, _⟩ := h
    rfl
  · obtain ⟨a, b, ws, made, us, rfl, ha, hb, hd, hl, hn, q⟩ := h
    refine ⟨_, (pss_cons (ps_set (i := 2) sc_add_text.nd rfl (.inl rfl) (pe_join pe_str (pv 0)))
        (pss_one (ps_if (pt_cmpR op_ne (pv 2) pe_str (nomark _)) (pss_one (ps_expr (pe_bm PySem.F.plainAttrs_list PySem.F.slot_list_append PySem.F.type_list_append mt_append (pv 1) (pa_cons (pe_tup (pa_cons pe_str (pa_cons (pv 2) pa_nil))) pa_nil)))) pss_nil))), ?_⟩
    have lu : us.length = made.length := by rw [(dpAll_all2 hd).1, rowD_map, List.length_map]
    have e1 : textsV ws = (ws.map S).map V.str := by
      unfold textsV
      rw [List.map_map]
      rfl
    rw [e1] at ha
    refine ⟨⟨_, rfl⟩, _, rfl, _, a, ws.map S, rfl, rfl, .inl (SqL.of ha), ?_, ?_⟩
    · rw [sum_S, lit_em, S_len]
      show ws.flatten.length + _ * 0 ≤ _
      omega
    rw [lit_em, My.join_nil]
    refine ⟨_, rfl, rfl, _, rfl, ?_⟩
    have e2 : (!decide (V.str (S ws.flatten) = V.str (S []))) = !decide (ws.flatten = []) := by
      congr 1
      exact decide_eq_decide.mpr ⟨fun e => S_inj (V.str.inj e), fun e => by rw [e]⟩
    rw [e2]
    cases hz : decide (ws.flatten = []) with
    | true =>
      have hz' := of_decide_eq_true hz
      refine iteF (go_nx ?_)
      refine q H us (.refl _) hb ?_
      unfold txtI
      rw [if_pos hz', List.append_nil]
      exact hd
    | false =>
      have hz' := of_decide_eq_false hz
      refine iteT ⟨_, rfl, .inl ⟨rfl, _, SqL.of hb⟩, _, rfl, (by show 2 ≤ sizeLine; decide), fun c nc => ?_⟩
      have s1 : Same H (upd H c (.tup [.str "text", .str (S ws.flatten)])) := same_new nc
      have dc : Dp K (upd H c (.tup [.str "text", .str (S ws.flatten)])) (.ref c) (Inl.text ws.flatten).toD := dp_text upd_same
      generalize (upd H c (.tup [.str "text", .str (S ws.flatten)])) = H1 at s1 dc ⊢
      refine ⟨b, us, _, rfl, rfl, s1 _ _ hb, by rw [lu, sizeLine_eq]; omega, ?_⟩
      refine q _ (us ++ [.ref c]) ((Keeps.of s1).trans .at) upd_same ?_
      unfold txtI
      rw [if_neg hz', rowD_app]
      refine dpAll_keep (L := b) Keeps.at ⟨us, s1 _ _ hb⟩ ?_ (dpAll_app (dpAll_same s1 hd) (.cons dc .nil))
      have := noList_row (made ++ [.text ws.flatten])
      rw [rowD_app] at this
      exact this

theorem dp_tup2 {K : PySem.W.Frag} {G : Hp} {v : V} {ds : List PyData} (h : Dp K G v (.tuple ds)) : ∃ a us, v = .ref a ∧ SqT K G a us ∧ DpAll K G us ds := by
  cases h with
  | tup q r => exact ⟨_, _, rfl, q, r⟩
theorem toD_name (x : Inl) : ∃ rest, x.toD = .tuple (.str (nameI x) :: rest) := by cases x <;> exact ⟨_, rfl⟩
theorem inl_name {K : PySem.W.Frag} {G : Hp} {v : V} {x : Inl} (h : Dp K G v x.toD) : ∃ a us, v = .ref a ∧ SqT K G a (.str (nameI x) :: us) := by
  obtain ⟨rest, e⟩ := toD_name x
  rw [e] at h
  obtain ⟨a, us, rfl, sq, da⟩ := dp_tup2 h
  cases da with
  | cons h1 h2 =>
    cases h1
    exact ⟨a, _, rfl, sq⟩
theorem text_at {K : PySem.W.Frag} {G : Hp} {v : V} {t : List Nat} (h : Dp K G v (Inl.text t).toD) : ∃ a, v = .ref a ∧ SqT K G a [.str "text", .str (S t)] := by
  obtain ⟨a, us, rfl, sq, da⟩ := dp_tup2 (show Dp K G v (.tuple [.str "text", .str (S t)]) from h)
  cases da with
  | cons h1 h2 => cases h2 with
    | cons h3 h4 =>
      cases h4
      cases h1
      cases h3
      exact ⟨a, rfl, sq⟩
def txtN : List Inl → Nat
  | [] => 0
  | .text t :: r => t.length + txtN r
  | _ :: r => txtN r
theorem jn_step {x : Inl} (w : List Nat) (r : List Inl) : jnR w (x :: r) = match x with
  | .text t => jnR (w ++ t) r
  | y => txtI w ++ y :: jnR [] r := by cases x <;> rfl
theorem jn_other {x : Inl} (h : isT x = false) (w : List Nat) (r : List Inl) : jnR w (x :: r) = txtI w ++ x :: jnR [] r := by
  cases x <;> first | rfl | cases h
def sp_joined (K : PySem.W.Frag) : Sp := fun vs H Q _ => ∃ (r : Addr) (us : List V) (ps : List Inl), vs = [.ref r] ∧ H r = some (.lst us) ∧ DpAll K H us (rowD ps) ∧ ps.length ≤ 40000 ∧ txtN ps ≤ 1000000 ∧ ∀ H' v, Same H H' → Dp K H' v (.tuple (rowD (jnR [] ps))) → Q v H'
theorem ok_joined {P : Program} {w : World} {K : PySem.W.Frag} {mg : Str → Option Value} {base : Heap} (T : Txt w K mg) : FnOk P w K mg base CX0 2 T.a_joined T.d_joined ["row"] (sp_joined K) := by
  refine T.f_joined.ok sc_joined (fun vs H Q E h => ?_) (fun cdv A outer s H vs Q E hr h => ?_)
  · obtain ⟨r, us, ps, rfl, _⟩ := h
    rfl
  · obtain ⟨r, us, ps, rfl, hr0, hd, hn, ht, q⟩ := h
    refine ⟨_, (pss_cons (ps_set (i := 1) sc_joined.nd rfl (.inl rfl) (pe_lst pa_nil))
        (pss_cons (ps_set (i := 2) sc_joined.nd rfl (.inl rfl) (pe_lst pa_nil))
        (pss_cons (ps_for PassesOwn.never rfl (pi_list (pv 0)) (pg_name (i := 3) sc_joined.nd rfl (.inl rfl)) (pss_one (ps_if (pt_cmpR op_eq (pe_ix ix_tup (pv 3) pe_int (fun _ _ => rfl)) pe_str (nomark _)) (pss_one (ps_expr (pe_bm PySem.F.plainAttrs_list PySem.F.slot_list_append PySem.F.type_list_append mt_append (pv 2) (pa_cons (pe_ix ix_tup (pv 3) pe_int (fun _ _ => rfl)) pa_nil)))) (pss_cons (ps_expr (pe_call (ok_add_text T) (hr.mono (by decide)) (by rfl) T.g_add_text T.f_add_text.kp T.b_add_text .nil pass0 (pa_cons (pv 2) (pa_cons (pv 1) pa_nil))))
        (pss_cons (ps_set (i := 2) sc_joined.nd rfl (.inl rfl) (pe_lst pa_nil))
        (pss_one (ps_expr (pe_bm PySem.F.plainAttrs_list PySem.F.slot_list_append PySem.F.type_list_append mt_append (pv 1) (pa_cons (pv 3) pa_nil)))))))))
        (pss_cons (ps_expr (pe_call (ok_add_text T) (hr.mono (by decide)) (by rfl) T.g_add_text T.f_add_text.kp T.b_add_text .nil pass0 (pa_cons (pv 2) (pa_cons (pv 1) pa_nil))))
        (pss_one (ps_ret (pe_callTy call_tuple_of (by rfl) T.z_tuple (by decide +kernel) (pa_cons (pv 1) pa_nil)))))))), ?_⟩
    have al := dpAll_all2 hd
    have lu : us.length = ps.length := by rw [al.1, rowD_map, List.length_map]
    refine ⟨(by show 0 ≤ sizeLine; decide), fun m nm => ⟨(by show 0 ≤ sizeLine; decide), fun tx ntx => ?_⟩⟩
    have s0 : Same H (upd (upd H m (.lst [])) tx (.lst [])) := (same_new nm).trans (same_new ntx)
    have hm0 : (upd (upd H m (.lst [])) tx (.lst [])) m = some (.lst []) := same_new ntx _ _ upd_same
    have ht0 : (upd (upd H m (.lst [])) tx (.lst [])) tx = some (.lst []) := upd_same
    have nmt : m ≠ tx := ne_of_none (show (upd H m (.lst [])) m = some (.lst []) from upd_same) ntx
    have ntx0 : H tx = none := by
      rw [upd_ne nmt.symm] at ntx
      exact ntx
    generalize (upd (upd H m (.lst [])) tx (.lst [])) = H0 at s0 hm0 ht0 ⊢
    refine ⟨_, rfl, r, rfl, ⟨us, SqL.of (s0 _ _ hr0)⟩, ?_⟩
    refine for_list (K := K) (a := r) (xs := us) (fun i σ' H' => ∃ (ta : Addr) (o : Option V) (ws : List (List Nat)) (made : List Inl) (um : List V), σ' = [some (.ref r), some (.ref m), some (.ref ta), o] ∧ Same H H' ∧ H ta = none ∧ m ≠ ta ∧ H' ta = some (.lst (textsV ws)) ∧ H' m = some (.lst um) ∧ DpAll K H' um (rowD made) ∧ ws.length ≤ i ∧ made.length ≤ 2 * i ∧ ws.flatten.length + txtN (ps.drop i) ≤ txtN ps ∧ made ++ jnR ws.flatten (ps.drop i) = jnR [] ps) ?_ ?_ ?_ ?_
    · exact ⟨tx, none, [], [], [], rfl, s0, ntx0, nmt, ht0, hm0, .nil, Nat.le_refl _, Nat.le_refl _, by show 0 + txtN ps ≤ _; omega, rfl⟩
    · rintro i σ' H' _ ⟨ta, o, ws, made, um, rfl, s1, _⟩
      exact SqL.of (s1 _ _ hr0)
    · rintro i x σ' H' hx ⟨ta, o, ws, made, um, rfl, s1, nta, nm2, hta, hm, dm, lw, lm, lt, ej⟩
      have hi : i < ps.length := by
        rw [← lu]
        exact (List.getElem?_eq_some_iff.mp hx).1
      obtain ⟨y, hy⟩ : ∃ y, ps[i]? = some y := ⟨_, List.getElem?_eq_getElem hi⟩
      have hdr : ps.drop i = y :: ps.drop (i + 1) := by
        obtain ⟨h9, e9⟩ := List.getElem?_eq_some_iff.mp hy
        rw [← e9]
        exact List.drop_eq_getElem_cons h9
      have du : Dp K H' x y.toD := dp_same s1 (al.2 i x _ hx (by rw [rowD_map, List.getElem?_map, hy]; rfl))
      rw [hdr] at ej lt
      have lum : um.length = made.length := by rw [(dpAll_all2 dm).1, rowD_map, List.length_map]
      obtain ⟨b, ub, rfl, sqb⟩ := inl_name du
      refine ⟨_, rfl, b, _, _, _, rfl, rfl, sqb, atI_nat (j := 0) rfl, rfl, _, rfl, ?_⟩
      have e1 : decide (V.str (nameI y) = V.str ("text" : Str)) = isT y := by
        rw [← name_text]
        exact decide_eq_decide.mpr ⟨fun h => V.str.inj h, fun h => by rw [h]⟩
      rw [e1]
      cases hT : isT y with
      | true =>
        cases y with
        | text t =>
          obtain ⟨b', e', sq'⟩ := text_at du
          cases e'
          refine iteT ⟨_, rfl, .inl ⟨rfl, _, SqL.of hta⟩, _, rfl, b, _, _, _, rfl, rfl, sq', atI_nat (j := 1) rfl, ta, _, _, rfl, rfl, hta, by rw [show (textsV ws).length = ws.length from List.length_map ..]; rw [sizeLine_eq]; omega, ?_⟩
          have lt' : ws.flatten.length + (t.length + txtN (ps.drop (i + 1))) ≤ txtN ps := lt
          refine ⟨ta, _, ws ++ [t], made, um, rfl, fun c o e => ?_, nta, nm2, ?_, ?_, ?_, ?_, by omega, ?_, ?_⟩
          · rw [upd_ne (ne_of_none e nta)]
            exact s1 _ _ e
          · rw [upd_same]
            unfold textsV
            rw [List.map_append]
            rfl
          · rw [upd_ne nm2]
            exact hm
          · exact dpAll_keep (L := ta) Keeps.at ⟨_, hta⟩ (noList_row made) dm
          · rw [List.length_append, List.length_singleton]
            omega
          · rw [List.flatten_append, List.length_append, List.flatten_singleton]
            omega
          · rw [List.flatten_append, List.flatten_singleton]
            exact ej
        | _ => cases hT
      | false =>
        have lt' : txtN (y :: ps.drop (i + 1)) = txtN (ps.drop (i + 1)) := by cases y <;> first | rfl | cases hT
        rw [lt'] at lt
        rw [jn_other hT] at ej
        refine iteF ⟨_, rfl, _, rfl, ta, m, ws, made, um, rfl, hta, hm, dm, by omega, by omega, fun H2 um2 k2 hm2 dm2 => ?_⟩
        have s2 : Same H H2 := fun c o e => k2 c o (fun z => by rw [z, nm] at e; cases e) (s1 _ _ e)
        have du2 : Dp K H2 (.ref b) y.toD := dp_keep k2 ⟨_, hm⟩ (noList_toD y) du
        refine ⟨(by show 0 ≤ sizeLine; decide), fun t2 nt2 => ?_⟩
        have nt20 : H t2 = none := by
          cases e : H t2 with
          | none => rfl
          | some o => rw [s2 _ _ e] at nt2; cases nt2
        have hm3 : (upd H2 t2 (.lst [])) m = some (.lst um2) := same_new nt2 _ _ hm2
        have s3 : Same H2 (upd H2 t2 (.lst [])) := same_new nt2
        have nm3 : m ≠ t2 := ne_of_none hm2 nt2
        have lum2 : um2.length ≤ 2 * i + 1 := by
          rw [(dpAll_all2 dm2).1, rowD_map, List.length_map, List.length_append]
          have : (txtI ws.flatten).length ≤ 1 := by
            unfold txtI
            split
            · exact Nat.zero_le _
            · exact Nat.le_refl _
          omega
        refine ⟨_, rfl, .inl ⟨rfl, _, SqL.of hm3⟩, _, rfl, m, um2, _, rfl, rfl, hm3, by rw [sizeLine_eq]; omega, ?_⟩
        refine ⟨t2, _, [], made ++ txtI ws.flatten ++ [y], um2 ++ [.ref b], rfl, fun c o e => ?_, nt20, nm3, ?_, upd_same, ?_, Nat.zero_le _, ?_, ?_, ?_⟩
        · rw [upd_ne (ne_of_none e nm)]
          exact s3 _ _ (s2 _ _ e)
        · rw [upd_ne nm3.symm]
          exact upd_same
        · rw [rowD_app]
          refine dpAll_keep (L := m) Keeps.at ⟨_, hm3⟩ ?_ (dpAll_app (dpAll_same s3 dm2) (.cons (dp_same s3 du2) .nil))
          have := noList_row (made ++ txtI ws.flatten ++ [y])
          rw [rowD_app] at this
          exact this
        · have h9 := (dpAll_all2 dm2).1
          rw [rowD_map, List.length_map] at h9
          rw [List.length_append, List.length_singleton]
          omega
        · show 0 + txtN (ps.drop (i + 1)) ≤ txtN ps
          omega
        · rw [List.append_assoc, List.append_assoc]
          exact ej
    · rintro σ' H' ⟨ta, o, ws, made, um, rfl, s1, nta, nm2, hta, hm, dm, lw, lm, lt, ej⟩
      rw [lu, List.drop_length] at ej lt
      refine ⟨_, rfl, _, rfl, ta, m, ws, made, um, rfl, hta, hm, dm, by omega, by omega, fun H2 um2 k2 hm2 dm2 => ?_⟩
      have s2 : Same H H2 := fun c o e => k2 c o (fun z => by rw [z, nm] at e; cases e) (s1 _ _ e)
      refine ⟨_, rfl, m, um2, rfl, .inl ⟨SqL.of hm2, fun l nl => ?_⟩⟩
      refine q _ _ (s2.trans (same_new nl)) ?_
      rw [← ej]
      exact .tup (SqT.of upd_same) (dpAll_same (same_new nl) dm2)

def sp_pair (K : PySem.W.Frag) : Sp := fun vs H Q _ => ∃ r : Addr, vs = [.ref r] ∧ H r = some (.lst []) ∧ ∀ H', Same H H' → Q .non H'
theorem ok_pair {P : Program} {w : World} {K : PySem.W.Frag} {mg : Str → Option Value} {base : Heap} (T : Txt w K mg) : FnOk P w K mg base CX0 4 T.a_pair T.d_pair ["runs"] (sp_pair K) := by
  refine T.f_pair.ok sc_pair (fun vs H Q E h => ?_) (fun cdv A outer s H vs Q E hr h => ?_)
  · obtain ⟨r, rfl, _⟩ := h
    rfl
  · obtain ⟨r, rfl, hr0, q⟩ := h
    refine ⟨_, (pss_cons (ps_set (i := 1) sc_pair.nd rfl (.inl rfl) pe_dnewK)
        (pss_one (ps_for PassesOwn.never rfl (pi_enum (by rfl) T.z_enumerate (pa_cons (pv 0) pa_nil)) (pg_tup (by rfl) (pgs_cons (pg_name (i := 2) sc_pair.nd rfl (.inl rfl)) (pgs_cons (pg_name (i := 3) sc_pair.nd rfl (.inl rfl)) pgs_nil))) pss_dead))), ?_⟩
    refine fun p np => ?_
    have s0 : Same H (upd H p (.dK [])) := same_new np
    refine ⟨_, rfl, r, [], rfl, SqL.of (s0 _ _ hr0), for_it (walk_enum (K := K) (a := r) (xs := [])) (tb := fun _ _ _ => False) (D := { nx := fun _ H1 => Q .non H1, rt := Q }) (fun i σ H' => Same H H') s0 (fun i σ H' _ h => SqL.of (h _ _ hr0)) ?_ ?_⟩
    · intro i x σ H' H'' hi
      exact absurd hi (Nat.not_lt_zero _)
    · intro σ H' h
      exact q H' h
/-- what is no run -/
theorem tyx_inl {K : PySem.W.Frag} {G : Hp} {v : V} {x : Inl} (h : Dp K G v x.toD) : TyX K G v (.type "tuple") := by
  obtain ⟨a, us, rfl, sq⟩ := inl_name h
  rcases sq with (q | ⟨o, q⟩) | ⟨o, its, n, e, c, _⟩
  · exact .base (.tup q)
  · exact .fTuple q
  · exact .kTuple e c
def sp_built (K : PySem.W.Frag) : Sp := fun vs H Q _ => ∃ (r : Addr) (us : List V) (ps : List Inl), vs = [.ref r] ∧ H r = some (.lst us) ∧ DpAll K H us (rowD ps) ∧ ps.length ≤ 40000 ∧ txtN ps ≤ 1000000 ∧ ∀ H' v, Same H H' → Dp K H' v (.tuple (rowD (jnR [] ps))) → Q v H'
theorem ok_built {P : Program} {w : World} {K : PySem.W.Frag} {mg : Str → Option Value} {base : Heap} (T : Txt w K mg) : FnOk P w K mg base CX0 5 T.a_built T.d_built ["row"] (sp_built K) := by
  refine T.f_built.ok sc_built (fun vs H Q E h => ?_) (fun cdv A outer s H vs Q E hr h => ?_)
  · obtain ⟨r, us, ps, rfl, _⟩ := h
    rfl
  · obtain ⟨r, us, ps, rfl, hr0, hd, hn, ht, q⟩ := h
    refine ⟨_, (pss_cons (ps_expr (pe_call (ok_pair T) (hr.mono (by decide)) (by rfl) T.g_pair T.f_pair.kp T.b_pair .nil pass0 (pa_cons (pe_lc (own := [("one", 1)]) (g := (gName 1)) (tt := _) (by rfl) sc_built.nd (pi_list (pv 0)) (blkOk_by (own := [("one", 1)]) (N := ["row", "one", "open_rows", "word", "inner", "_"]) (sc := defScope s_built) (by decide +kernel)) (fun _ _ _ _ _ => (pg_name (i := 1) sc_built.nd rfl (Or.inl rfl))) (fun _ _ _ _ _ => (pts_one (pt_val (pe_callB (show CallR _ _ (rIsi K) from call_isi) (by rfl) T.z_isinstance (by decide +kernel) (pa_cons (pv 1) (pa_cons (pe_glob (v := .ref T.c_Run) rfl T.gc_Run rfl) pa_nil)))))) (fun _ _ _ _ _ => (pv 1))) pa_nil)))
        (pss_cons (ps_set (i := 2) sc_built.nd rfl (.inl rfl) (pe_lst (pa_cons (pe_lst pa_nil) pa_nil)))
        (pss_cons (ps_for PassesOwn.never rfl (pi_list (pv 0)) (pg_name (i := 1) sc_built.nd rfl (.inl rfl)) (pss_one (ps_if (pt_val (pe_callB call_isi (by rfl) T.z_isinstance (by decide +kernel) (pa_cons (pv 1) (pa_cons (pe_glob (v := .ref T.c_Run) rfl T.gc_Run rfl) pa_nil)))) pss_dead (pss_one (ps_expr (pe_bm PySem.F.plainAttrs_list PySem.F.slot_list_append PySem.F.type_list_append mt_append (pe_ix ix_list (pv 2) (pe_un un_neg pe_int) (fun _ _ => rfl)) (pa_cons (pv 1) pa_nil)))))))
        (pss_one (ps_ret (pe_call (ok_joined T) (hr.mono (by decide)) (by rfl) T.g_joined T.f_joined.kp T.b_joined .nil pass0 (pa_cons (pe_ix ix_list (pv 2) pe_int (fun _ _ => rfl)) pa_nil))))))), ?_⟩
    have al := dpAll_all2 hd
    have lu : us.length = ps.length := by rw [al.1, rowD_map, List.length_map]
    refine ⟨_, rfl, r, rfl, ⟨us, SqL.of hr0⟩, fun D nD => ?_⟩
    refine lc_list (K := K) (a := r) (xs := us) (fun i H' => Same H H' ∧ H' D = some (.lst [])) ⟨same_new nD, upd_same⟩ (fun i H' _ h => SqL.of (h.1 _ _ hr0)) ?_ ?_
    · rintro i x H' hx ⟨s1, hD⟩
      obtain ⟨y, hy⟩ : ∃ y, ps[i]? = some y := ⟨_, List.getElem?_eq_getElem (by rw [← lu]; exact (List.getElem?_eq_some_iff.mp hx).1)⟩
      have du : Dp K H' x y.toD := dp_same s1 (al.2 i x _ hx (by rw [rowD_map, List.getElem?_map, hy]; rfl))
      exact ⟨rfl, _, rfl, x, _, _, _, false, rfl, .own _, tyx_inl du, T.kit_Run_tuple, _, rfl, s1, hD⟩
    · rintro H1 ⟨s1, hD⟩
      refine ⟨D, rfl, hD, fun H2 s2 => ?_⟩
      refine ⟨(by show 0 ≤ sizeLine; decide), fun p1 np1 => ⟨(by show 1 ≤ sizeLine; decide), fun p2 np2 => ?_⟩⟩
      have s3 : Same H (upd (upd H2 p1 (.lst [])) p2 (.lst [.ref p1])) := (s1.trans s2).trans ((same_new np1).trans (same_new np2))
      have h1 : (upd (upd H2 p1 (.lst [])) p2 (.lst [.ref p1])) p1 = some (.lst []) := same_new np2 _ _ upd_same
      have h2 : (upd (upd H2 p1 (.lst [])) p2 (.lst [.ref p1])) p2 = some (.lst [.ref p1]) := upd_same
      have n12 : p1 ≠ p2 := ne_of_none (show (upd H2 p1 (.lst [])) p1 = some (.lst []) from upd_same) np2
      have n1 : H p1 = none := by
        cases e : H p1 with
        | none => rfl
        | some o => rw [(s1.trans s2) _ _ e] at np1; cases np1
      generalize (upd (upd H2 p1 (.lst [])) p2 (.lst [.ref p1])) = H3 at s3 h1 h2 ⊢
      refine ⟨_, rfl, r, rfl, ⟨us, SqL.of (s3 _ _ hr0)⟩, ?_⟩
      refine for_list (K := K) (a := r) (xs := us) (fun i σ' H' => ∃ o : Option V, σ' = [some (.ref r), o, some (.ref p2), none, none, none] ∧ Same H H' ∧ H' p1 = some (.lst (us.take i)) ∧ H' p2 = some (.lst [.ref p1])) ⟨none, rfl, s3, h1, h2⟩ ?_ ?_ ?_
      · rintro i σ' H' _ ⟨o, rfl, s4, _⟩
        exact SqL.of (s4 _ _ hr0)
      · rintro i x σ' H' hx ⟨o, rfl, s4, h3, h4⟩
        have hi : i < us.length := (List.getElem?_eq_some_iff.mp hx).1
        obtain ⟨y, hy⟩ : ∃ y, ps[i]? = some y := ⟨_, List.getElem?_eq_getElem (by rw [← lu]; exact hi)⟩
        have du : Dp K H' x y.toD := dp_same s4 (al.2 i x _ hx (by rw [rowD_map, List.getElem?_map, hy]; rfl))
        refine ⟨_, rfl, x, _, _, _, false, rfl, .own _, tyx_inl du, T.kit_Run_tuple, _, rfl, iteF ?_⟩
        refine ⟨_, rfl, _, rfl, p2, _, _, _, rfl, rfl, SqL.of h4, rfl, .inl ⟨rfl, _, SqL.of h3⟩, _, rfl, p1, _, _, rfl, rfl, h3, ?_, some x, rfl, fun c o2 e => (by rw [upd_ne (ne_of_none e n1)]; exact s4 _ _ e), ?_, ?_⟩
        · rw [sizeLine_eq, List.length_take]
          omega
        · rw [upd_same, List.take_add_one, hx]
          rfl
        · rw [upd_ne n12.symm]
          exact h4
      · rintro σ' H' ⟨o, rfl, s4, h3, h4⟩
        rw [List.take_length] at h3
        exact ⟨_, rfl, p2, _, _, _, rfl, rfl, SqL.of h4, rfl, p1, us, ps, rfl, h3, dpAll_same s4 hd, hn, ht, fun H5 v s5 dv => q _ _ (s4.trans s5) dv⟩

theorem find_bq (cs : List Nat) (p : Nat) : Txt.find3 (S cs) (S [96]) (p : Int) = -1 ∨ ∃ q : Nat, p ≤ q ∧ Txt.find3 (S cs) (S [96]) (p : Int) = (q : Int) ∧ cs[q]? = some 96 := by
  have h0 := find3_S cs [96] (by intro e; cases e) p
  rw [h0]
  cases h : findL [96] (cs.drop p) with
  | none => exact .inl rfl
  | some k =>
    obtain ⟨h1, _⟩ := findL_some (by intro e; cases e) h
    refine .inr ⟨p + k, Nat.le_add_right _ _, rfl, ?_⟩
    rw [List.drop_drop] at h1
    cases e : cs.drop (p + k) with
    | nil => rw [e] at h1; cases h1
    | cons c r =>
      rw [e] at h1
      have hc : c = 96 := by
        unfold List.isPrefixOf at h1
        rw [Bool.and_eq_true] at h1
        exact (eq_of_beq h1.1).symm
      have h2 : (cs.drop (p + k))[0]? = some c := by rw [e]; rfl
      rw [List.getElem?_drop, Nat.add_zero] at h2
      rw [h2, hc]
theorem bq_on {cs : List Nat} {p : Nat} (h : cs[p]? = some 96) : p < pos cs (ba [96] (cs.drop p)) ∧ pos cs (ba [96] (cs.drop p)) ≤ cs.length := by
  obtain ⟨hl, e⟩ := List.getElem?_eq_some_iff.mp h
  refine ⟨?_, pos_le _ _⟩
  have e2 : cs.drop p = 96 :: cs.drop (p + 1) := by
    rw [← e]
    exact List.drop_eq_getElem_cons hl
  unfold pos ba
  rw [e2, List.dropWhile_cons, if_pos (by rfl)]
  have h3 := (List.dropWhile_suffix (l := cs.drop (p + 1)) (fun c => [96].contains c)).length_le
  rw [List.length_drop] at h3
  omega
/-- lists of places by lengths -/
def DLs (H0 H : Hp) (d : Addr) (n : Nat) : Prop := H0 d = none ∧ ∃ kvs : List (Key × V), H d = some (.dK kvs) ∧ kvs.length ≤ n ∧ ∀ k v, valV kvs k = some v → ∃ a xs, v = .ref a ∧ H0 a = none ∧ a ≠ d ∧ H a = some (.lst xs) ∧ xs.length ≤ n
theorem find_0 (t w : List Nat) : Txt.find (S t) (S w) = Txt.find3 (S t) (S w) ((0 : Nat) : Int) := by
  unfold Txt.find Txt.find3
  rw [from_nat]
  cases Builtin.Str.occurrences (S t) (S w) 0 (S t).length 1 <;> rfl
def WSt (cs : List Nat) (H : Hp) (d : Addr) : Nat → L2.St → Hp → Prop := fun m σ H' => ∃ (i : Int) (n : Nat) (o : Option V), σ = [some (V.str (S cs)), some (.ref d), some (.int i), o] ∧ Same H H' ∧ DLs H H' d n ∧ n ≤ cs.length ∧ (i < 0 ∧ m = 0 ∨ ∃ p : Nat, i = (p : Int) ∧ cs[p]? = some 96 ∧ n ≤ p ∧ m = cs.length - p)
theorem wst_next {cs : List Nat} {H H' : Hp} {d : Addr} (p n : Nat) (o : Option V) (hp : p ≤ cs.length) (hnp : n ≤ p) (sm : Same H H') (dl : DLs H H' d n) : ∃ m, m ≤ cs.length - p ∧ WSt cs H d m [some (V.str (S cs)), some (.ref d), some (.int (Txt.find3 (S cs) (S [96]) (p : Int))), o] H' := by
  rcases find_bq cs p with e | ⟨q', hq, e, hc⟩
  · exact ⟨0, Nat.zero_le _, _, n, o, rfl, sm, dl, by omega, .inl ⟨by rw [e]; decide, rfl⟩⟩
  · exact ⟨cs.length - q', by omega, _, n, o, rfl, sm, dl, by omega, .inr ⟨q', e, hc, by omega, rfl⟩⟩
theorem dls_put {H0 H : Hp} {d a : Addr} {kvs : List (Key × V)} {n : Nat} {x : V} (h0 : H0 d = none) (hd : H d = some (.dK kvs)) (ln : kvs.length ≤ n + 1) (ha : H0 a = none) (ad : a ≠ d) (hl : ∀ j v, valV kvs j = some v → v = .ref a ∨ ∃ b xs, v = .ref b ∧ b ≠ a ∧ H0 b = none ∧ b ≠ d ∧ H b = some (.lst xs) ∧ xs.length ≤ n) {xs : List V} (lx : xs.length ≤ n) : DLs H0 (upd H a (.lst (xs ++ [x]))) d (n + 1) := by
  refine ⟨h0, kvs, by rw [upd_ne ad.symm]; exact hd, ln, fun j v hj => ?_⟩
  rcases hl j v hj with rfl | ⟨b, ys, rfl, ba, hb0, bd, hb, lb⟩
  · exact ⟨a, _, rfl, ha, ad, upd_same, by rw [List.length_append, List.length_singleton]; omega⟩
  · exact ⟨b, ys, rfl, hb0, bd, by rw [upd_ne ba]; exact hb, by omega⟩
def sp_strings_in (K : PySem.W.Frag) : Sp := fun vs H Q _ => ∃ cs : List Nat, vs = [.str (S cs)] ∧ cs.length ≤ 100000 ∧ ∀ H' d, Same H H' → DLs H H' d cs.length → Q (.ref d) H'
theorem ok_strings_in {P : Program} {w : World} {K : PySem.W.Frag} {mg : Str → Option Value} {base : Heap} (T : Txt w K mg) : FnOk P w K mg base CX0 2 T.a_strings_in T.d_strings_in ["text"] (sp_strings_in K) := by
  refine T.f_strings_in.ok sc_strings_in (fun vs H Q E h => ?_) (fun cdv A outer s H vs Q E hr h => ?_)
  · obtain ⟨cs, rfl, _⟩ := h
    rfl
  · obtain ⟨cs, rfl, hn, q⟩ := h
    refine ⟨_, (pss_cons (ps_set (i := 1) sc_strings_in.nd rfl (.inl rfl) pe_dnewK)
        (pss_cons (ps_set (i := 2) sc_strings_in.nd rfl (.inl rfl) (pe_bm PySem.F.plainAttrs_str PySem.F.slot_str_find PySem.F.type_str_find mt_find (pv 0) (pa_cons pe_str pa_nil)))
        (pss_cons (ps_while PassesOwn.never (pt_cmpR op_ge (pv 2) pe_int (nomark _)) (pss_cons (ps_set (i := 3) sc_strings_in.nd rfl (.inl rfl) (pe_call (ok_behind_all T) (hr.mono (by decide)) (by rfl) T.g_behind_all T.f_behind_all.kp T.b_behind_all .nil pass0 (pa_cons pe_str (pa_cons (pv 0) (pa_cons (pv 2) pa_nil)))))
        (pss_cons (ps_expr (pe_bm PySem.F.plainAttrs_list PySem.F.slot_list_append PySem.F.type_list_append mt_append (pe_dsetd (pv 1) (pe_op op_sub (pv 3) (pv 2)) (pe_lst pa_nil) ⟨rfl, rfl, rfl, rfl⟩) (pa_cons (pv 2) pa_nil)))
        (pss_one (ps_set (i := 2) sc_strings_in.nd rfl (.inl rfl) (pe_bm PySem.F.plainAttrs_str PySem.F.slot_str_find PySem.F.type_str_find mt_find3 (pv 0) (pa_cons pe_str (pa_cons (pv 3) pa_nil))))))))
        (pss_one (ps_ret (pv 1)))))), ?_⟩
    have bq : (Str.ofString "`") = S [96] := by decide +kernel
    rw [bq]
    refine fun d nd => ?_
    have s0 : Same H (upd H d (.dK [])) := same_new nd
    refine ⟨_, rfl, rfl, _, _, rfl, rfl, ?_⟩
    rw [find_0]
    obtain ⟨m0, _, w0⟩ := wst_next (H := H) (H' := upd H d (.dK [])) (d := d) (cs := cs) 0 0 none (Nat.zero_le _) (Nat.le_refl _) s0 ⟨nd, [], upd_same, Nat.le_refl _, fun k v e => by cases e⟩
    refine ⟨WSt cs H d, ⟨m0, w0⟩, ?_⟩
    rintro m σ H' ⟨i, n, o, rfl, sm, dl, hnl, hi⟩
    refine ⟨_, rfl, _, _, rfl, rfl, _, rfl, ite2 (fun h1 => ?_) (fun h1 => ?_)⟩
    · have h2 : 0 ≤ i := of_decide_eq_true h1
      rcases hi with ⟨h3, _⟩ | ⟨p, rfl, hc, hnp, rfl⟩
      · omega
      · obtain ⟨hp, hE⟩ := bq_on hc
        have hpl := (List.getElem?_eq_some_iff.mp hc).1
        refine ⟨fun σ' H2 => ∃ m', m' < cs.length - p ∧ WSt cs H d m' σ' H2, fun σ' H2 h => h, ?_⟩
        refine ⟨_, rfl, _, rfl, [96], cs, p, rfl, ⟨by omega, hn⟩, ?_⟩
        generalize pos cs (ba [96] (cs.drop p)) = E2 at hp hE ⊢
        obtain ⟨h0, kvs, hd, lk, hv⟩ := dl
        refine ⟨_, rfl, d, rfl, .inl ⟨kvs, .inl hd⟩, _, rfl, _, rfl, _, _, rfl, rfl, (by show 0 ≤ sizeLine; decide), fun a na => ?_⟩
        have na0 : H a = none := by
          cases e : H a with
          | none => rfl
          | some o => rw [sm _ _ e] at na; cases na
        have ad : a ≠ d := fun e => by rw [e, hd] at na; cases na
        have s1 : Same H' (upd H' a (.lst [])) := same_new na
        have ha1 : (upd H' a (.lst [])) a = some (.lst []) := upd_same
        generalize upd H' a (.lst []) = H1 at s1 ha1 ⊢
        have hd1 := s1 _ _ hd
        have sm1 := sm.trans s1
        refine ⟨kvs, .inl ((E2 : Int) - p), hd1, rfl, by rw [sizeLine_eq]; omega, fun v ev => ?_, fun en => ?_⟩
        · obtain ⟨b, xs, rfl, hb0, bd, hb, lb⟩ := hv _ _ ev
          have hb1 := s1 _ _ hb
          refine ⟨.inl ⟨rfl, _, SqL.of hb1⟩, _, rfl, b, xs, _, rfl, rfl, hb1, by rw [sizeLine_eq]; omega, _, rfl, rfl, _, rfl, _, _, _, rfl, rfl, ?_⟩
          obtain ⟨m', hm, w'⟩ := wst_next (H := H) (H' := upd H1 b (.lst (xs ++ [.int (p : Int)]))) (d := d) (cs := cs) E2 (n + 1) (some (.int (E2 : Nat))) hE (by omega) (fun c o2 e => by rw [upd_ne (ne_of_none e hb0)]; exact sm1 _ _ e) (dls_put h0 hd1 (by omega) hb0 bd (fun j v hj => by
            obtain ⟨b2, ys, rfl, e1, e2, e3, e4⟩ := hv j v hj
            by_cases e : b2 = b
            · exact .inl (by rw [e])
            · exact .inr ⟨b2, ys, rfl, e, e1, e2, s1 _ _ e3, e4⟩) lb)
          exact ⟨m', by omega, w'⟩
        · have ha2 : (upd H1 d (.dK (putK kvs (.inl ((E2 : Int) - p)) (.ref a)))) a = some (.lst []) := by rw [upd_ne ad]; exact ha1
          have hd2 : (upd H1 d (.dK (putK kvs (.inl ((E2 : Int) - p)) (.ref a)))) d = some (.dK (putK kvs (.inl ((E2 : Int) - p)) (.ref a))) := upd_same
          refine ⟨.inl ⟨rfl, _, SqL.of ha2⟩, _, rfl, a, [], _, rfl, rfl, ha2, by rw [sizeLine_eq]; decide, _, rfl, rfl, _, rfl, _, _, _, rfl, rfl, ?_⟩
          have lp := length_putK kvs (.inl ((E2 : Int) - p)) (.ref a)
          obtain ⟨m', hm, w'⟩ := wst_next (H := H) (H' := upd (upd H1 d (.dK (putK kvs (.inl ((E2 : Int) - p)) (.ref a)))) a (.lst ([] ++ [.int (p : Int)]))) (d := d) (cs := cs) E2 (n + 1) (some (.int (E2 : Nat))) hE (by omega) (fun c o2 e => by rw [upd_ne (ne_of_none e na0), upd_ne (ne_of_none e h0)]; exact sm1 _ _ e) (dls_put h0 hd2 (by omega) na0 ad (fun j v hj => by
            rw [valV_put] at hj
            by_cases e : j = .inl ((E2 : Int) - p)
            · rw [if_pos e] at hj
              exact .inl (Option.some.inj hj).symm
            · rw [if_neg e] at hj
              obtain ⟨b2, ys, rfl, e1, e2, e3, e4⟩ := hv j v hj
              exact .inr ⟨b2, ys, rfl, ne_of_none e3 na, e1, e2, by rw [upd_ne e2]; exact s1 _ _ e3, e4⟩) (Nat.zero_le _))
          exact ⟨m', by omega, w'⟩
    · obtain ⟨h0, kvs, hd, lk, hv⟩ := dl
      exact ⟨_, rfl, q _ _ sm ⟨h0, kvs, hd, by omega, fun k v e => by
        obtain ⟨b2, ys, rfl, e1, e2, e3, e4⟩ := hv k v e
        exact ⟨b2, ys, rfl, e1, e2, e3, by omega⟩⟩⟩

def sp_check_source (K : PySem.W.Frag) : Sp := fun vs H Q _ => ∃ z : Str, vs = [.str z] ∧ Q .non H
theorem ok_check_source {P : Program} {w : World} {K : PySem.W.Frag} {mg : Str → Option Value} {base : Heap} (T : Txt w K mg) : FnOk P w K mg base CX0 1 T.a_check_source T.d_check_source ["text"] (sp_check_source K) := by
  refine T.f_check_source.ok sc_check_source (fun vs H Q E h => ?_) (fun cdv A outer s H vs Q E hr h => ?_)
  · obtain ⟨z, rfl, _⟩ := h
    rfl
  · obtain ⟨z, rfl, q⟩ := h
    refine ⟨_, (pss_one (ps_if (pt_not (pt_val (pe_callB call_isi (by rfl) T.z_isinstance (by decide +kernel) (pa_cons (pv 0) (pa_cons (pe_bltn (v := .ty "str") (by rfl) T.z_str (by decide +kernel) rfl) pa_nil))))) (pss_one ps_dead) pss_nil)), ?_⟩
    exact ⟨_, rfl, .str z, .ty "str", _, _, true, rfl, .ty "str", .base (.str z), kit_ty (by decide +kernel : kitB "str" "str" = some true), _, rfl, iteF q⟩

theorem fnOk_none {P : Program} {w : World} {K : PySem.W.Frag} {mg : Str → Option Value} {base : Heap} {k : Nat} {f : Addr} {fd : FuncData} {ps : List Str} {sp : Sp} (no : ∀ vs H Q E, ¬ sp vs H Q E) : FnOk P w K mg base CX0 k f fd ps sp :=
  ⟨fun vs H Q E h => absurd h (no vs H Q E), fun A outer s H args us vs Q E _ _ _ _ h => absurd h (no vs H Q E)⟩
def sp_is_label (_ : PySem.W.Frag) : Sp := fun _ _ _ _ => False
theorem ok_is_label {P : Program} {w : World} {K : PySem.W.Frag} {mg : Str → Option Value} {base : Heap} (T : Txt w K mg) : FnOk P w K mg base CX0 5 T.a_is_label T.d_is_label ["thing"] (sp_is_label K) := by
  exact fnOk_none fun _ _ _ _ h => h
def sp_is_target (_ : PySem.W.Frag) : Sp := fun _ _ _ _ => False
theorem ok_is_target {P : Program} {w : World} {K : PySem.W.Frag} {mg : Str → Option Value} {base : Heap} (T : Txt w K mg) : FnOk P w K mg base CX0 1 T.a_is_target T.d_is_target ["thing"] (sp_is_target K) := by
  exact fnOk_none fun _ _ _ _ h => h
def sp_is_known (K : PySem.W.Frag) : Sp := fun vs H Q _ => ∃ d : Addr, vs = [.ref d] ∧ H d = some (.dK []) ∧ ∀ H', Same H H' → Q (.bl true) H'
theorem ok_is_known {P : Program} {w : World} {K : PySem.W.Frag} {mg : Str → Option Value} {base : Heap} (T : Txt w K mg) : FnOk P w K mg base CX0 6 T.a_is_known T.d_is_known ["thing"] (sp_is_known K) := by
  refine T.f_is_known.ok sc_is_known (fun vs H Q E h => ?_) (fun cdv A outer s H vs Q E hr h => ?_)
  · obtain ⟨d, rfl, _⟩ := h
    rfl
  · obtain ⟨d, rfl, hd, q⟩ := h
    refine ⟨_, (pss_cons (ps_if (pt_not (pt_val (pe_callB call_isi (by rfl) T.z_isinstance (by decide +kernel) (pa_cons (pv 0) (pa_cons (pe_bltn (v := .ty "dict") (by rfl) T.z_dict (by decide +kernel) rfl) pa_nil))))) (pss_one (ps_ret pe_bl)) pss_nil)
        (pss_one (ps_ret (pe_callB (cr_all rfl) (by rfl) T.z_all (by decide +kernel) (pa_cons (pe_lock (pe_lc (own := [("label", 1)]) (g := (gName 1)) (tt := tYes) (by rfl) sc_is_known.nd (pi_keys (pv 0)) (blkOk_by (own := [("label", 1)]) (N := ["thing", "label"]) (sc := defScope s_is_known) (by decide +kernel)) (fun _ _ _ _ _ => (pg_name (i := 1) sc_is_known.nd rfl (Or.inl rfl))) (fun _ _ _ _ _ => pts_nil) (fun _ _ _ _ _ => (pe_and (pe_call (ok_is_label T) (hr.mono (by decide)) (by rfl) T.g_is_label T.f_is_label.kp T.b_is_label .nil pass0 (pa_cons (pv 1) pa_nil)) (pe_one (pe_call (ok_is_target T) (hr.mono (by decide)) (by rfl) T.g_is_target T.f_is_target.kp T.b_is_target .nil pass0 (pa_cons (pe_dget (hu_of hr) (pv 0) (pv 1) (fun _ _ => rfl)) pa_nil))))))) pa_nil))))), ?_⟩
    refine ⟨_, rfl, .ref d, .ty "dict", _, _, true, rfl, .ty "dict", .base (.dK hd), kit_ty (by decide +kernel : kitB "dict" "dict" = some true), _, rfl, iteF ?_⟩
    refine ⟨d, _, hd, (by exact True.intro), fun od => ?_⟩
    refine ⟨_, rfl, d, od, rfl, .inl ⟨[], upd_same, fun D nD => ?_⟩⟩
    have nd : d ≠ D := ne_of_none upd_same nD
    have nD0 : H D = none := by rw [upd_ne nd.symm] at nD; exact nD
    refine lc_it (walk_keys (d := d) (o := od) (kvs := [])) (fun i H' => H' = upd (upd H d (.frz od (.dK []))) D (.lst [])) rfl (fun i H' _ e => by rw [e, upd_ne nd]; exact upd_same) ?_ ?_
    · intro i x H' H'' hi
      exact absurd hi (Nat.not_lt_zero _)
    · rintro H' rfl
      refine ⟨by rw [upd_ne nd]; exact upd_same, D, [], rfl, SqL.of (by rw [upd_ne nd.symm]; exact upd_same), q _ fun b o e => ?_⟩
      by_cases hb : b = d
      · rw [hb, upd_same, ← hd, ← hb, e]
      · rw [upd_ne hb, upd_ne (ne_of_none e nD0), upd_ne hb]
        exact e

theorem dc_it {J : It} {n : Nat} {G : Hp → Prop} {Y : Nat → Hp → V → Hp → Prop} (w : Walk J n G Y) {g : TG} {tt : TT} {tk tv : TE} {vs : List Nat} {σ : L2.St} {H1 : Hp} {D : Addr} {Qd : Hp → Prop} (Pv : Nat → Hp → Prop) (h0 : Pv 0 (upd H1 D (.dK []))) (hG : ∀ i H, i ≤ n → Pv i H → G H)
    (hs : ∀ i x H H', i < n → Pv i H → Y i H x H' → g x (wipe σ vs) H' fun σ2 H2 => wipe σ2 vs = wipe σ vs ∧ tt σ2 H2 fun b H3 =>
      if b = true then tk σ2 H3 fun y H4 => tv σ2 H4 fun z H5 => ∃ kvs k, y = kV k ∧ H5 D = some (.dK kvs) ∧ kvs.length < sizeLine ∧ Pv (i + 1) (upd H5 D (.dK (putK kvs k z))) else Pv (i + 1) H3) (hd : ∀ H, Pv n H → Qd H) :
    ∃ W : Nat → Nat → Hp → Prop, (∃ m, W 0 m (upd H1 D (.dK []))) ∧ ∀ i m H, W i m H →
      (J.stop i H ∧ Qd H) ∨ (J.go i H ∧ ∃ Nx : Hp → Prop, (∀ H', Nx H' → ∃ m', m' < m ∧ W (i + 1) m' H') ∧ ∀ x H', J.yld i H x H' → g x (wipe σ vs) H' fun σ2 H2 => wipe σ2 vs = wipe σ vs ∧ tt σ2 H2 fun b H3 =>
        if b = true then tk σ2 H3 fun y H4 => tv σ2 H4 fun z H5 => ∃ kvs k, y = kV k ∧ H5 D = some (.dK kvs) ∧ kvs.length < sizeLine ∧ Nx (upd H5 D (.dK (putK kvs k z))) else Nx H3) := by
  refine ⟨fun i m H => m = n - i ∧ i ≤ n ∧ Pv i H, ⟨n, by simp, Nat.zero_le _, h0⟩, ?_⟩
  rintro i m H ⟨rfl, hi, p⟩
  have q := hG i H hi p
  by_cases e : i = n
  · subst e
    exact .inl ⟨w.stops H q, hd H p⟩
  · have hlt : i < n := by omega
    exact .inr ⟨w.goes i H hlt q, Pv (i + 1), fun H' h' => ⟨n - (i + 1), by omega, rfl, hlt, h'⟩, fun x H' y => hs i x H H' hlt p (w.yields i H x H' hlt q y)⟩
def sp_Scan____init__ (K : PySem.W.Frag) (C : Addr) : Sp := fun vs H Q _ => ∃ (x kn dx : Addr) (t : List Nat), vs = [.ref x, .str (S t), .ref kn] ∧ t.length ≤ 100000 ∧ H x = some (.ins C dx []) ∧ ∀ H' row, ScanAt K C H' x row t 0 0 [] → (∀ b o, b ≠ x → H b = some o → H' b = some o) → H row = none → Q .non H'
theorem ok_Scan____init__ {P : Program} {w : World} {K : PySem.W.Frag} {mg : Str → Option Value} {base : Heap} (T : Txt w K mg) : FnOk P w K mg base CX0 3 T.a_Scan____init__ T.d_Scan____init__ ["self", "content", "known"] (sp_Scan____init__ K T.c_Scan) := by
  refine T.f_Scan____init__.ok sc_Scan____init__ (fun vs H Q E h => ?_) (fun cdv A outer s H vs Q E hr h => ?_)
  · obtain ⟨x, kn, dx, t, rfl, _⟩ := h
    rfl
  · obtain ⟨x, kn, dx, t, rfl, ht, hx, q⟩ := h
    refine ⟨_, (pss_cons (ps_fld (pv 0) (pv 1) rfl)
        (pss_cons (ps_fld (pv 0) (pv 2) rfl)
        (pss_cons (ps_fld (pv 0) pe_int rfl)
        (pss_cons (ps_fld (pv 0) (pe_lst pa_nil) rfl)
        (pss_cons (ps_fld (pv 0) pe_int rfl)
        (pss_cons (ps_fld (pv 0) (pe_lst pa_nil) rfl)
        (pss_cons (ps_fld (pv 0) pe_int rfl)
        (pss_cons (ps_fld (pv 0) pe_int rfl)
        (pss_cons (ps_set (i := 3) sc_Scan____init__.nd rfl (.inr rfl) (pe_call (ok_strings_in T) (hr.mono (by decide)) (by rfl) T.g_strings_in T.f_strings_in.kp T.b_strings_in .nil pass0 (pa_cons (pv 1) pa_nil)))
        (pss_one (ps_fld (pv 0) (pe_lock (pe_dc (own := [("length", 4)]) (g := (gName 4)) (tt := tYes) (by rfl) sc_Scan____init__.nd (pi_keys (pv 3)) (blkOk_by (own := [("length", 4)]) (N := ["self", "content", "known", "strings", "length"]) (sc := defScope s_Scan____init__) (by decide +kernel)) (fun _ _ _ _ _ => (pg_name (i := 4) sc_Scan____init__.nd rfl (Or.inl rfl))) (fun _ _ _ _ _ => pts_nil) (fun _ _ _ _ _ => (pv 4)) (fun _ _ _ _ _ => (show PE _ _ (tRevL K _) from pe_revL (pe_dget (hu_of hr) (pv 3) (pv 4) (fun _ _ => rfl)))))) rfl))))))))))), ?_⟩
    refine ⟨_, rfl, _, rfl, x, T.c_Scan, dx, _, rfl, hx, T.cl_Scan, T.na_Scan_content, (by show 0 < 1000; decide), ?_⟩
    refine ⟨_, rfl, _, rfl, x, T.c_Scan, dx, _, rfl, upd_same, T.cl_Scan, T.na_Scan_known, (by show 1 < 1000; decide), ?_⟩
    rw [upd_upd]
    refine ⟨_, rfl, x, T.c_Scan, dx, _, rfl, upd_same, T.cl_Scan, T.na_Scan_place, (by show 2 < 1000; decide), ?_⟩
    rw [upd_upd]
    refine ⟨(by show 0 ≤ sizeLine; decide), fun row nrow => ?_⟩
    have hxr : x ≠ row := ne_of_none upd_same nrow
    have nrow0 : H row = none := by rw [upd_ne hxr.symm] at nrow; exact nrow
    refine ⟨_, rfl, x, T.c_Scan, dx, _, rfl, by rw [upd_ne hxr]; exact upd_same, T.cl_Scan, T.na_Scan_row, (by show 3 < 1000; decide), ?_⟩
    refine ⟨_, rfl, x, T.c_Scan, dx, _, rfl, upd_same, T.cl_Scan, T.na_Scan_plain, (by show 4 < 1000; decide), ?_⟩
    rw [upd_upd]
    refine ⟨(by show 0 ≤ sizeLine; decide), fun br nbr => ?_⟩
    have hxb : x ≠ br := ne_of_none upd_same nbr
    have nbr1 := nbr
    rw [upd_ne hxb.symm] at nbr1
    refine ⟨_, rfl, x, T.c_Scan, dx, _, rfl, by rw [upd_ne hxb]; exact upd_same, T.cl_Scan, T.na_Scan_brackets, (by show 5 < 1000; decide), ?_⟩
    refine ⟨_, rfl, x, T.c_Scan, dx, _, rfl, upd_same, T.cl_Scan, T.na_Scan_noted, (by show 6 < 1000; decide), ?_⟩
    rw [upd_upd]
    refine ⟨_, rfl, x, T.c_Scan, dx, _, rfl, upd_same, T.cl_Scan, T.na_Scan_bar, (by show 7 < 1000; decide), ?_⟩
    rw [upd_upd]
    have hrb : row ≠ br := by
      intro e
      rw [e, upd_same] at nbr1
      cases nbr1
    have nbr0 : H br = none := by
      rw [upd_ne hrb.symm, upd_ne hxb.symm] at nbr1
      exact nbr1
    generalize hG : (upd (upd (upd (upd H x _) row (.lst [])) x _) br (.lst [])) = G
    have h9x := (upd_same : (upd G x (.ins T.c_Scan dx (putF "bar" (.int 0) (putF "noted" (.int 0) (putF "brackets" (.ref br) (putF "plain" (.int 0) (putF "row" (.ref row) (putF "place" (.int 0) (putF "known" (.ref kn) (putF "content" (.str (S t)) [])))))))))) x = _)
    have h9r : (upd G x (.ins T.c_Scan dx (putF "bar" (.int 0) (putF "noted" (.int 0) (putF "brackets" (.ref br) (putF "plain" (.int 0) (putF "row" (.ref row) (putF "place" (.int 0) (putF "known" (.ref kn) (putF "content" (.str (S t)) [])))))))))) row = some (.lst []) := by
      rw [upd_ne hxr.symm, ← hG, upd_ne hrb, upd_ne hxr.symm, upd_same]
    have h9k : ∀ b o, b ≠ x → H b = some o → (upd G x (.ins T.c_Scan dx (putF "bar" (.int 0) (putF "noted" (.int 0) (putF "brackets" (.ref br) (putF "plain" (.int 0) (putF "row" (.ref row) (putF "place" (.int 0) (putF "known" (.ref kn) (putF "content" (.str (S t)) [])))))))))) b = some o := fun b o nb e => by
      rw [upd_ne nb, ← hG, upd_ne (ne_of_none e nbr0), upd_ne nb, upd_ne (ne_of_none e nrow0), upd_ne nb]
      exact e
    generalize (upd G x (.ins T.c_Scan dx (putF "bar" (.int 0) (putF "noted" (.int 0) (putF "brackets" (.ref br) (putF "plain" (.int 0) (putF "row" (.ref row) (putF "place" (.int 0) (putF "known" (.ref kn) (putF "content" (.str (S t)) [])))))))))) = H9 at h9x h9r h9k ⊢
    refine ⟨_, rfl, t, rfl, ht, fun H1 d s1 dl => ?_⟩
    obtain ⟨nd9, kvs, hd, lk, hv⟩ := dl
    have h1x := s1 _ _ h9x
    have h1r := s1 _ _ h9r
    have h1k : ∀ b o, b ≠ x → H b = some o → H1 b = some o := fun b o nb e => s1 _ _ (h9k b o nb e)
    have ndx : x ≠ d := ne_of_none h9x nd9
    have ndr : row ≠ d := ne_of_none h9r nd9
    have nd0 : ∀ b o, b ≠ x → H b = some o → b ≠ d := fun b o nb e => ne_of_none (h9k b o nb e) nd9
    refine ⟨d, _, hd, (by exact True.intro), fun od => ?_⟩
    refine ⟨_, rfl, d, od, rfl, .inl ⟨kvs, upd_same, fun D nD => ?_⟩⟩
    have nDd : d ≠ D := ne_of_none upd_same nD
    have nD0 : H1 D = none := by rw [upd_ne nDd.symm] at nD; exact nD
    refine dc_it (walk_keys (d := d) (o := od) (kvs := kvs)) (fun i H' => Same (upd H1 d (.frz od (.dK kvs))) H' ∧ ∃ ks, H' D = some (.dK ks) ∧ ks.length ≤ i) ⟨same_new nD, [], upd_same, Nat.le_refl _⟩ (fun i H' _ e => e.1 _ _ upd_same) ?_ ?_
    · rintro i y H' H'' hi ⟨s2, ks, hks, lks⟩ ⟨rfl, k, v, hkv, rfl⟩
      have hfz := s2 _ _ (upd_same : (upd H1 d (.frz od (.dK kvs))) d = _)
      obtain ⟨v', hv'⟩ : ∃ v', valV kvs k = some v' := by
        cases e : valV kvs k with
        | none => exact absurd (List.mem_map.mpr ⟨(k, v), List.mem_of_getElem? hkv, rfl⟩) (valV_not e)
        | some v' => exact ⟨v', rfl⟩
      obtain ⟨a, xs, rfl, ha9, had, ha, la⟩ := hv k v' hv'
      have ha2 := s2 a _ (by rw [upd_ne had]; exact ha)
      refine ⟨rfl, _, rfl, _, rfl, _, rfl, d, _, rfl, .inl ⟨kvs, k, .inr ⟨od, hfz⟩, rfl, hv'.symm⟩, a, xs, rfl, SqL.of ha2, fun p np => ?_⟩
      have npD : D ≠ p := ne_of_none hks np
      refine ⟨ks, k, rfl, by rw [upd_ne npD]; exact hks, by rw [sizeLine_eq]; omega, fun b o e => ?_, _, upd_same, ?_⟩
      · rw [upd_ne (ne_of_none e nD), upd_ne (ne_of_none (s2 _ _ e) np)]
        exact s2 _ _ e
      · have := length_putK ks k (.ref p)
        omega
    · rintro H2 ⟨s2, ks, hks, lks⟩
      have t2 : ∀ b o, b ≠ d → H1 b = some o → H2 b = some o := fun b o nb e => s2 _ _ (by rw [upd_ne nb]; exact e)
      refine ⟨s2 _ _ upd_same, _, rfl, x, T.c_Scan, dx, _, rfl, by rw [upd_ne ndx]; exact t2 _ _ ndx h1x, T.cl_Scan, T.na_Scan_strings, (by show 8 < 1000; decide), ?_⟩
      refine q _ row ⟨⟨dx, kn, br, D, 0, 0, upd_same⟩, [], ?_, .nil⟩ (fun b o nb e => ?_) nrow0
      · rw [upd_ne hxr.symm, upd_ne ndr]
        exact t2 _ _ ndr h1r
      · rw [upd_ne nb, upd_ne (nd0 b o nb e)]
        exact t2 _ _ (nd0 b o nb e) (h1k b o nb e)

/-! ### the scan as a whole -/
def stR (t : List Nat) (p pl : Nat) (c : Nat) : Inl × Nat × Nat :=
  if c = 92 then ((bsR t p).1, (bsR t p).2, (bsR t p).2)
  else if c = 38 then ((rfR (t.drop p)).1, p + (rfR (t.drop p)).2, p + (rfR (t.drop p)).2)
  else if c = 10 then ((lfR t pl p).1, (lfR t pl p).2, (lfR t pl p).2)
  else (.text (plW t p), plE t p, pl)
def okS (c : Nat) : Prop := c = 92 ∨ c = 38 ∨ c = 10 ∨ StepL.contains c = false
/-- what is read from a place on -/
inductive Rd (t : List Nat) : Nat → Nat → List Inl → Prop
  | done {pl : Nat} : Rd t t.length pl []
  | step {p pl c : Nat} {i : Inl} {p' pl' : Nat} {ps : List Inl} : t[p]? = some c → okS c → stR t p pl c = (i, p', pl') → Rd t p' pl' ps → Rd t p pl (i :: ps)
def Jn (t : List Nat) (p pl : Nat) (w : List Nat) (out : List Inl) : Prop := ∃ ps, Rd t p pl ps ∧ jnR w ps = out
theorem pos_ba {ws a : List Nat} {c : Nat} {r t : List Nat} {q : Nat} (ht : t.drop q = a ++ c :: r) (ha : ∀ x ∈ a, ws.contains x = true) (hc : ws.contains c = false) : pos t (ba ws (t.drop q)) = q + a.length := by
  have e : ba ws (a ++ c :: r) = c :: r := by
    unfold ba
    clear ht
    induction a with
    | nil => rw [List.nil_append, List.dropWhile_cons, if_neg (by rw [hc]; exact Bool.false_ne_true)]
    | cons x a ih =>
      rw [List.cons_append, List.dropWhile_cons, if_pos (ha x (List.mem_cons_self ..))]
      exact ih fun y hy => ha y (List.mem_cons_of_mem _ hy)
  rw [ht, e]
  unfold pos
  have := congrArg List.length ht
  rw [List.length_drop, List.length_append, List.length_cons] at this
  rw [List.length_cons]
  omega
theorem at_drop {t : List Nat} {p c : Nat} {r : List Nat} (h : t.drop p = c :: r) : t[p]? = some c := by
  have := congrArg (fun l => l[0]?) h
  simpa using this
theorem drop_add {t : List Nat} {p : Nat} {a r : List Nat} (h : t.drop p = a ++ r) : t.drop (p + a.length) = r := by
  rw [← List.drop_drop, h, List.drop_left]
theorem drop_one {t : List Nat} {p c : Nat} {r : List Nat} (h : t.drop p = c :: r) : t.drop (p + 1) = r := drop_add (a := [c]) h
theorem tw_app {P : Nat → Bool} : ∀ {a : List Nat} {r : List Nat}, (∀ c ∈ a, P c = true) → (a ++ r).takeWhile P = a ++ r.takeWhile P
  | [], _, _ => rfl
  | c :: a, r, h => by
    rw [List.cons_append, List.takeWhile_cons, if_pos (h c (List.mem_cons_self ..)), tw_app fun x hx => h x (List.mem_cons_of_mem _ hx)]
    rfl
/-- signs that are taken together, the last one no white -/
structure Blk (b : List Nat) : Prop where
  pl : ∀ c ∈ b, StepL.contains c = false
  en : ∃ a c, b = a ++ [c] ∧ WhL.contains c = false
def blkB (b : List Nat) : Bool := b.all (fun c => !StepL.contains c) && !(WhL.contains (b.getLastD 32))
theorem blk_of {b : List Nat} (h : blkB b = true) : Blk b := by
  unfold blkB at h
  rw [Bool.and_eq_true, List.all_eq_true] at h
  refine ⟨fun c hc => by simpa using h.1 c hc, ?_⟩
  have h2 := h.2
  cases hb : b.getLast? with
  | none =>
    rw [List.getLast?_eq_none_iff.mp hb] at h2
    cases h2
  | some c =>
    obtain ⟨a, ha⟩ := List.getLast?_eq_some_iff.mp hb
    refine ⟨a, c, ha, ?_⟩
    rw [ha, List.getLastD_concat] at h2
    simpa using h2
theorem Blk.ne {b : List Nat} (h : Blk b) : b ≠ [] := by
  obtain ⟨a, c, rfl, _⟩ := h.en
  simp
/-- white at the end left out -/
def rW (l : List Nat) : List Nat := (l.reverse.dropWhile fun c => WhL.contains c).reverse
theorem rW_app {a x : List Nat} {c : Nat} (hc : WhL.contains c = false) : rW (a ++ [c] ++ x) = a ++ [c] ++ rW x := by
  unfold rW
  have h : ∀ y : List Nat, (y ++ (a ++ [c]).reverse).dropWhile (fun c => WhL.contains c) = y.dropWhile (fun c => WhL.contains c) ++ (a ++ [c]).reverse := by
    intro y
    induction y with
    | nil =>
      rw [List.nil_append, List.reverse_append]
      show (c :: a.reverse).dropWhile _ = _
      rw [List.dropWhile_cons, if_neg (by rw [hc]; exact Bool.false_ne_true)]
      rfl
    | cons z y ih =>
      rw [List.cons_append, List.dropWhile_cons, List.dropWhile_cons]
      split
      · exact ih
      · rfl
  rw [List.reverse_append, h, List.reverse_append, List.reverse_reverse]
theorem rW_white {l : List Nat} (h : ∀ c ∈ l, WhL.contains c = true) : rW l = [] := by
  unfold rW
  have : l.reverse.dropWhile (fun c => WhL.contains c) = [] := by
    have h2 : ∀ c ∈ l.reverse, WhL.contains c = true := fun c hc => h c (List.mem_reverse.mp hc)
    generalize l.reverse = y at h2
    induction y with
    | nil => rfl
    | cons z y ih =>
      rw [List.dropWhile_cons, if_pos (h2 z (List.mem_cons_self ..))]
      exact ih fun c hc => h2 c (List.mem_cons_of_mem _ hc)
  rw [this]
  rfl
theorem rstW_eq (t : List Nat) : rstW t = rW t := by
  have hg : (S WhL).cps.contains = fun c => WhL.contains c := by
    funext c
    simp [S]
  have hd : t.take (t.length - (t.reverse.takeWhile fun c => WhL.contains c).length) = rW t := by
    unfold rW
    have e := List.takeWhile_append_dropWhile (p := fun c => WhL.contains c) (l := t.reverse)
    have e2 : t = (t.reverse.dropWhile fun c => WhL.contains c).reverse ++ (t.reverse.takeWhile fun c => WhL.contains c).reverse := by
      rw [← List.reverse_append, e, List.reverse_reverse]
    have el := congrArg List.length e2
    rw [List.length_append, List.length_reverse, List.length_reverse] at el
    have : t.length - (t.reverse.takeWhile fun c => WhL.contains c).length = (t.reverse.dropWhile fun c => WhL.contains c).reverse.length := by
      rw [List.length_reverse]
      omega
    rw [this]
    have h9 := congrArg (List.take (t.reverse.dropWhile fun c => WhL.contains c).reverse.length) e2
    rw [List.take_left] at h9
    exact h9
  unfold rstW Txt.rstripChars Txt.stripBy stripSame stripped stripLo stripHi
  rw [hg]
  simp only [if_true, Bool.false_eq_true, if_false]
  rw [S_tl, S_len, List.drop_zero]
  split
  · rename_i h
    have h0 : t.length - (t.reverse.takeWhile fun c => WhL.contains c).length = t.length := by
      have := (Bool.and_eq_true_iff.mp h).2
      exact eq_of_beq this
    rw [h0, List.take_length] at hd
    rw [S_tl]
    exact hd
  · rw [PySem.StrLaws.strSub_toList, S_tl, List.drop_zero, Nat.sub_zero]
    exact hd
theorem st_plain {t : List Nat} {p pl c : Nat} (h : StepL.contains c = false) : stR t p pl c = (.text (plW t p), plE t p, pl) := by
  unfold stR
  have h1 : c ≠ 92 := fun e => by subst e; cases h
  have h2 : c ≠ 38 := fun e => by subst e; cases h
  have h3 : c ≠ 10 := fun e => by subst e; cases h
  rw [if_neg h1, if_neg h2, if_neg h3]
theorem ns_app {b r : List Nat} (h : ∀ c ∈ b, StepL.contains c = false) : nsL (b ++ r) = b ++ nsL r := by
  unfold nsL
  exact tw_app fun c hc => by rw [h c hc]; rfl
theorem ple_app {t b r : List Nat} {p : Nat} (ht : t.drop p = b ++ r) (h : ∀ c ∈ b, StepL.contains c = false) (hne : b ≠ []) : plE t p = p + b.length + (nsL r).length := by
  cases b with
  | nil => exact absurd rfl hne
  | cons c b =>
    unfold plE
    rw [drop_one (r := b ++ r) ht, ns_app fun x hx => h x (List.mem_cons_of_mem _ hx), List.length_append, List.length_cons]
    omega
theorem plw_app {t b r : List Nat} {p : Nat} (ht : t.drop p = b ++ r) (h : ∀ c ∈ b, StepL.contains c = false) (hne : b ≠ []) : plW t p = if ([10] : List Nat).isPrefixOf (r.drop (nsL r).length) = true then rW (b ++ nsL r) else b ++ nsL r := by
  have e1 := ple_app ht h hne
  have e2 : (t.drop p).take (plE t p - p) = b ++ nsL r := by
    rw [ht, e1, show p + b.length + (nsL r).length - p = b.length + (nsL r).length by omega, List.take_append, List.take_of_length_le (by omega), show b.length + (nsL r).length - b.length = (nsL r).length by omega]
    congr 1
    unfold nsL
    conv => lhs; arg 2; rw [← List.takeWhile_append_dropWhile (p := fun c => !StepL.contains c) (l := r)]
    rw [List.take_left]
  have e3 : t.drop (plE t p) = r.drop (nsL r).length := by
    rw [e1, show p + b.length + (nsL r).length = p + (b.length + (nsL r).length) by omega, ← List.drop_drop, ht, List.drop_append, List.drop_of_length_le (by omega), show b.length + (nsL r).length - b.length = (nsL r).length by omega, List.nil_append]
  unfold plW
  rw [e2, e3, rstW_eq]
theorem rd_end {t : List Nat} {pl : Nat} {ps : List Inl} {p : Nat} (h : Rd t p pl ps) (e : t.length ≤ p) : ps = [] := by
  cases h with
  | done => rfl
  | step h1 =>
    have := (List.getElem?_eq_some_iff.mp h1).1
    omega
theorem rd_inv {t : List Nat} {p pl : Nat} {ps : List Inl} (h : Rd t p pl ps) : (p = t.length ∧ ps = []) ∨ ∃ c i p' pl' ps', t[p]? = some c ∧ okS c ∧ stR t p pl c = (i, p', pl') ∧ Rd t p' pl' ps' ∧ ps = i :: ps' := by
  cases h with
  | done => exact .inl ⟨rfl, rfl⟩
  | step h1 h2 h3 h4 => exact .inr ⟨_, _, _, _, _, h1, h2, h3, h4, rfl⟩
/-- a block of plain signs -/
theorem jn_blk {t b r : List Nat} {p pl : Nat} {w : List Nat} {out : List Inl} (ht : t.drop p = b ++ r) (h : Blk b) (j : Jn t (p + b.length) pl (w ++ b) out) : Jn t p pl w out := by
  obtain ⟨ps, hr, hj⟩ := j
  have hne := h.ne
  have hdr := drop_add ht
  obtain ⟨c0, hc0⟩ : ∃ c, t[p]? = some c ∧ StepL.contains c = false := by
    cases b with
    | nil => exact absurd rfl hne
    | cons c b => exact ⟨c, at_drop ht, h.pl c (List.mem_cons_self ..)⟩
  have e1 := ple_app ht h.pl hne
  have e2 := plw_app ht h.pl hne
  have hlen : p + b.length + r.length = t.length := by
    have := congrArg List.length ht
    rw [List.length_drop, List.length_append] at this
    have : 0 < b.length := List.length_pos_iff.mpr hne
    omega
  obtain ⟨a, cl, hb, hcl⟩ := h.en
  cases hrr : r with
  | nil =>
    subst hrr
    have e3 := rd_end hr (by simp at hlen; omega)
    subst e3
    have e4 : plE t p = t.length := by
      rw [e1, show nsL [] = [] from rfl]
      exact hlen
    have e5 : plW t p = b := by
      rw [e2]
      show (if false = true then _ else b ++ nsL []) = b
      rw [if_neg Bool.false_ne_true]
      exact List.append_nil b
    refine ⟨[.text b], .step (c := c0) (pl' := pl) (p' := t.length) hc0.1 (.inr (.inr (.inr hc0.2))) ?_ .done, ?_⟩
    · rw [st_plain hc0.2, e4, e5]
    · exact hj
  | cons c r' =>
    subst hrr
    by_cases hc : StepL.contains c = true
    · have en : nsL (c :: r') = [] := by
        unfold nsL
        rw [List.takeWhile_cons, if_neg (by rw [hc]; exact Bool.false_ne_true)]
      have e4 : plE t p = p + b.length := by rw [e1, en]; rfl
      have e5 : plW t p = b := by
        rw [e2, en, List.append_nil]
        split
        · have := rW_app (a := a) (x := []) hcl
          rw [List.append_nil] at this
          rw [hb, this]
          exact List.append_nil _
        · rfl
      refine ⟨.text b :: ps, .step (c := c0) hc0.1 (.inr (.inr (.inr hc0.2))) ?_ hr, hj⟩
      rw [st_plain hc0.2, e4, e5]
    · have hc' : StepL.contains c = false := by simpa using hc
      rcases rd_inv hr with ⟨e0, _⟩ | ⟨c1, i, p', pl', ps', h1, h2, h3, h4, rfl⟩
      · rw [e0, List.length_cons] at hlen
        omega
      · have hcc : c1 = c := by
          have := at_drop hdr
          rw [h1] at this
          exact Option.some.inj this
        subst hcc
        rw [st_plain hc'] at h3
        obtain ⟨h5, h6⟩ := Prod.mk.inj h3
        obtain ⟨h7, h8⟩ := Prod.mk.inj h6
        subst h5 h7 h8
        have hn2 : ∀ x ∈ [c1], StepL.contains x = false := fun x hx => by rw [List.mem_singleton.mp hx]; exact hc'
        have en : nsL (c1 :: r') = c1 :: nsL r' := ns_app (b := [c1]) hn2
        have f1 := ple_app (t := t) (b := [c1]) (r := r') (p := p + b.length) hdr hn2 (by simp)
        have f2 := plw_app (t := t) (b := [c1]) (r := r') (p := p + b.length) hdr hn2 (by simp)
        have e4 : plE t p = plE t (p + b.length) := by rw [e1, f1, en]; simp; omega
        have e5 : plW t p = b ++ plW t (p + b.length) := by
          rw [e2, f2, en]
          show (if ([10] : List Nat).isPrefixOf ((c1 :: r').drop (nsL r').length.succ) = true then _ else _) = _
          rw [List.drop_succ_cons]
          split
          · rw [hb, rW_app hcl]
            rfl
          · rfl
        refine ⟨.text (b ++ plW t (p + b.length)) :: ps', .step (c := c0) hc0.1 (.inr (.inr (.inr hc0.2))) ?_ h4, ?_⟩
        · rw [st_plain hc0.2, e4, e5]
        · show jnR (w ++ (b ++ plW t (p + b.length))) ps' = out
          rw [← List.append_assoc]
          exact hj
/-! ### references, backslashes -/
theorem rd_jn {t : List Nat} {p pl c : Nat} {m : List Nat} {p' pl' : Nat} {w : List Nat} {out : List Inl} (h1 : t[p]? = some c) (h2 : okS c) (h3 : stR t p pl c = (.text m, p', pl')) (j : Jn t p' pl' (w ++ m) out) : Jn t p pl w out := by
  obtain ⟨ps, hr, hj⟩ := j
  exact ⟨_, .step h1 h2 h3 hr, hj⟩
theorem jn_ref {t a r : List Nat} {sg p pl : Nat} {w : List Nat} {out : List Inl} (ht : t.drop p = 38 :: (a ++ 59 :: r)) (h : RefOk a (some sg)) (j : Jn t (p + (a.length + 2)) (p + (a.length + 2)) (w ++ [sg]) out) : Jn t p pl w out := by
  refine rd_jn (at_drop ht) (.inr (.inl rfl)) ?_ j
  unfold stR
  rw [if_neg (by decide), if_pos rfl, ht]
  unfold rfR
  rw [ok_ref h r]
  rfl
theorem jn_amp {t r : List Nat} {p pl : Nat} {w : List Nat} {out : List Inl} (ht : t.drop p = 38 :: r) (h : refR (38 :: r) = none) (j : Jn t (p + 1) (p + 1) (w ++ [38]) out) : Jn t p pl w out := by
  refine rd_jn (at_drop ht) (.inr (.inl rfl)) ?_ j
  unfold stR
  rw [if_neg (by decide), if_pos rfl, ht]
  unfold rfR
  rw [h]
theorem jn_esc {t r : List Nat} {c p pl : Nat} {w : List Nat} {out : List Inl} (ht : t.drop p = 92 :: c :: r) (h : PunL.contains c = true) (j : Jn t (p + 2) (p + 2) (w ++ [c]) out) : Jn t p pl w out := by
  refine rd_jn (at_drop ht) (.inl rfl) ?_ j
  unfold stR bsR
  rw [if_pos rfl, ht, if_pos (show escR (92 :: c :: r) = true by show ((92 : Nat) == 92 && PunL.contains c) = true; rw [h]; rfl), drop_one ht]
  rfl
theorem jn_back {t r : List Nat} {c p pl : Nat} {w : List Nat} {out : List Inl} (ht : t.drop p = 92 :: c :: r) (h : PunL.contains c = false) (h10 : c ≠ 10) (j : Jn t (p + 1) (p + 1) (w ++ [92]) out) : Jn t p pl w out := by
  refine rd_jn (at_drop ht) (.inl rfl) ?_ j
  unfold stR bsR
  rw [if_pos rfl, ht, if_neg (show ¬ escR (92 :: c :: r) = true by show ¬ ((92 : Nat) == 92 && PunL.contains c) = true; rw [h]; simp), drop_one ht, if_neg]
  simp [List.isPrefixOf]
  exact fun e => h10 e.symm
/-! ### breaks -/
def Wht (a : List Nat) : Prop := ∀ c ∈ a, WhL.contains c = true
theorem jn_hard {t a r : List Nat} {c p pl : Nat} {w : List Nat} {out : List Inl} (ht : t.drop p = 92 :: 10 :: (a ++ c :: r)) (ha : Wht a) (hc : WhL.contains c = false) (j : Jn t (p + 2 + a.length) (p + 2 + a.length) [] out) : Jn t p pl w (txtI w ++ .hard :: out) := by
  obtain ⟨ps, hr, hj⟩ := j
  refine ⟨.hard :: ps, .step (at_drop ht) (.inl rfl) ?_ hr, ?_⟩
  · have h2 : t.drop (p + 2) = a ++ c :: r := drop_add (a := [92, 10]) ht
    unfold stR bsR
    rw [if_pos rfl, ht, if_neg (show ¬ escR (92 :: 10 :: (a ++ c :: r)) = true by show ¬ ((92 : Nat) == 92 && PunL.contains 10) = true; decide), drop_one ht, if_pos (by rfl), pos_ba h2 ha hc]
  · show txtI w ++ .hard :: jnR [] ps = _
    rw [hj]
/-- no white ahead of p -/
def Nw (t : List Nat) (p : Nat) : Prop := ∀ c, 1 ≤ p → t[p - 1]? = some c → c ≠ 32
def hardW (ws : List Nat) : Bool := decide (ws.drop (ws.length - 2) = [32, 32])
theorem wht_step {c : Nat} (h : WhL.contains c = true) : StepL.contains c = false := by
  have : c = 32 ∨ c = 9 := by simpa [WhL] using h
  rcases this with rfl | rfl <;> rfl
theorem hardB_W {t ws r : List Nat} {p pl : Nat} (ht : t.drop p = ws ++ r) (hpl : pl ≤ p) (hn : Nw t p) (hp : p ≤ t.length) : hardB t pl (p + ws.length) = hardW ws := by
  unfold hardB hardW
  refine decide_eq_decide.mpr ?_
  by_cases h2 : 2 ≤ ws.length
  · have em : max pl (p + ws.length - 2) = p + (ws.length - 2) := by omega
    rw [em, ← List.drop_drop, ht, List.drop_append, show ws.length - 2 - ws.length = 0 by omega, List.drop_zero]
    have e3 : p + ws.length - (p + (ws.length - 2)) = (ws.drop (ws.length - 2)).length := by rw [List.length_drop]; omega
    rw [e3, List.take_left]
  · have e1 : ws.drop (ws.length - 2) ≠ [32, 32] := fun e => by
      have := congrArg List.length e
      rw [List.length_drop] at this
      simp at this
      omega
    refine ⟨fun e => absurd e ?_, fun e => absurd e e1⟩
    intro e
    have hl := congrArg List.length e
    rw [List.length_take, List.length_drop] at hl
    simp at hl
    have hp1 : 1 ≤ p := by omega
    have e4 : (List.take (p + ws.length - max pl (p + ws.length - 2)) (List.drop (max pl (p + ws.length - 2)) t))[p - 1 - max pl (p + ws.length - 2)]? = some 32 := by
      rw [e]
      have : p - 1 - max pl (p + ws.length - 2) < 2 := by omega
      rcases (show p - 1 - max pl (p + ws.length - 2) = 0 ∨ p - 1 - max pl (p + ws.length - 2) = 1 by omega) with z | z <;> rw [z] <;> rfl
    rw [List.getElem?_take] at e4
    split at e4
    · rw [List.getElem?_drop, show max pl (p + ws.length - 2) + (p - 1 - max pl (p + ws.length - 2)) = p - 1 by omega] at e4
      exact hn 32 hp1 e4 rfl
    · cases e4
theorem lf_step {t a r : List Nat} {c q pl : Nat} (ht : t.drop q = 10 :: (a ++ c :: r)) (ha : Wht a) (hc : WhL.contains c = false) : stR t q pl 10 = (if hardB t pl q = true then .hard else .soft, q + 1 + a.length, q + 1 + a.length) := by
  unfold stR lfR
  rw [if_neg (by decide), if_neg (by decide), if_pos rfl, pos_ba (drop_one ht) ha hc]
theorem jn_other' (b : Bool) (w : List Nat) (ps : List Inl) : jnR w ((if b = true then .hard else .soft) :: ps) = txtI w ++ (if b = true then .hard else .soft) :: jnR [] ps := by cases b <;> rfl
theorem jn_break {t ws a r : List Nat} {c p pl : Nat} {w : List Nat} {out : List Inl} (ht : t.drop p = ws ++ 10 :: (a ++ c :: r)) (hw : Wht ws) (ha : Wht a) (hc : WhL.contains c = false) (hpl : pl ≤ p) (hn : Nw t p) (j : Jn t (p + ws.length + 1 + a.length) (p + ws.length + 1 + a.length) [] out) : Jn t p pl w (txtI w ++ (if hardW ws = true then .hard else .soft) :: out) := by
  obtain ⟨ps, hr, hj⟩ := j
  have hp : p ≤ t.length := by
    have := congrArg List.length ht
    rw [List.length_drop, List.length_append, List.length_cons] at this
    omega
  have hb := hardB_W ht hpl hn hp
  have hd := drop_add ht
  have step2 : Rd t (p + ws.length) pl ((if hardW ws = true then .hard else .soft) :: ps) := by
    refine .step (at_drop hd) (.inr (.inr (.inl rfl))) ?_ hr
    rw [lf_step hd ha hc, hb]
  by_cases h0 : ws = []
  · subst h0
    exact ⟨_, step2, by rw [jn_other', hj]⟩
  · have hpln : ∀ x ∈ ws, StepL.contains x = false := fun x hx => wht_step (hw x hx)
    obtain ⟨c0, hc0⟩ : ∃ c, t[p]? = some c ∧ StepL.contains c = false := by
      cases ws with
      | nil => exact absurd rfl h0
      | cons x ws => exact ⟨x, at_drop ht, hpln x (List.mem_cons_self ..)⟩
    have en : nsL (10 :: (a ++ c :: r)) = [] := rfl
    have e1 := ple_app ht hpln h0
    have e2 := plw_app ht hpln h0
    rw [en] at e1 e2
    have e3 : plW t p = [] := by
      rw [e2, if_pos (by rfl), List.append_nil]
      exact rW_white hw
    refine ⟨_, .step hc0.1 (.inr (.inr (.inr hc0.2))) (show stR t p pl c0 = (.text [], p + ws.length, pl) by rw [st_plain hc0.2, e1, e3]; rfl) step2, ?_⟩
    show jnR (w ++ []) _ = _
    rw [List.append_nil, jn_other', hj]

theorem pos_ge {t r : List Nat} {q : Nat} (hq : q ≤ t.length) (h : r.length ≤ t.length - q) : q ≤ pos t r := by
  unfold pos
  omega
theorem ba_len (ws r : List Nat) : (ba ws r).length ≤ r.length := dw_len _ _
theorem st_le {t : List Nat} {p pl c : Nat} (hc : t[p]? = some c) (hpl : pl ≤ p) : p < (stR t p pl c).2.1 ∧ (stR t p pl c).2.1 ≤ t.length ∧ (stR t p pl c).2.2 ≤ (stR t p pl c).2.1 := by
  have hp := (List.getElem?_eq_some_iff.mp hc).1
  have hb : ∀ q, q ≤ t.length → q ≤ pos t (ba WhL (t.drop q)) := fun q hq => pos_ge hq (by have := ba_len WhL (t.drop q); rw [List.length_drop] at this; exact this)
  unfold stR
  split
  · unfold bsR
    split
    · rename_i he
      obtain ⟨x, hx, _⟩ := esc_len he
      have := (List.getElem?_eq_some_iff.mp hx).1
      exact ⟨by show p < p + 2; omega, by show p + 2 ≤ _; omega, Nat.le_refl _⟩
    · split
      · rename_i _ hl
        have h2 := pre1 hl
        have h3 := hb (p + 2) (by omega)
        exact ⟨by show p < pos t _; omega, pos_le _ _, Nat.le_refl _⟩
      · exact ⟨by show p < p + 1; omega, by show p + 1 ≤ _; omega, Nat.le_refl _⟩
  · split
    · have h1 : 1 ≤ (rfR (t.drop p)).2 ∧ (rfR (t.drop p)).2 ≤ (t.drop p).length := by
        unfold rfR
        split
        · rename_i k c h
          exact refR_pos h
        · exact ⟨Nat.le_refl _, by rw [List.length_drop]; show 1 ≤ _; omega⟩
      rw [List.length_drop] at h1
      exact ⟨by show p < p + _; omega, by show p + _ ≤ _; omega, Nat.le_refl _⟩
    · split
      · have h3 := hb (p + 1) (by omega)
        exact ⟨by show p < pos t _; omega, pos_le _ _, Nat.le_refl _⟩
      · have := plE_le hp
        exact ⟨this.2, this.1, by show pl ≤ plE t p; omega⟩
theorem rd_len {t : List Nat} {p pl : Nat} {ps : List Inl} (h : Rd t p pl ps) : pl ≤ p → p + ps.length ≤ t.length := by
  induction h with
  | done => intro _; exact Nat.le_refl _
  | @step p pl c i p' pl' ps h1 h2 h3 h4 ih =>
    intro hpl
    obtain ⟨g1, g2, g3⟩ := st_le h1 hpl
    rw [h3] at g1 g2 g3
    have := ih g3
    rw [List.length_cons]
    have g1' : p < p' := g1
    omega
theorem rW_len (l : List Nat) : (rW l).length ≤ l.length := by
  unfold rW
  rw [List.length_reverse]
  have := dw_len (fun c => WhL.contains c) l.reverse
  rw [List.length_reverse] at this
  exact this
theorem plw_len (t : List Nat) (p : Nat) : (plW t p).length ≤ plE t p - p := by
  unfold plW
  have h : ((t.drop p).take (plE t p - p)).length ≤ plE t p - p := by
    rw [List.length_take]
    omega
  split
  · rw [rstW_eq]
    exact Nat.le_trans (rW_len _) h
  · exact h
theorem rd_txt {t : List Nat} {p pl : Nat} {ps : List Inl} (h : Rd t p pl ps) : pl ≤ p → p + txtN ps ≤ t.length := by
  induction h with
  | done => intro _; exact Nat.le_refl _
  | @step p pl c i p' pl' ps h1 h2 h3 h4 ih =>
    intro hpl
    obtain ⟨g1, g2, g3⟩ := st_le h1 hpl
    have e0 := h3
    rw [h3] at g1 g2 g3
    have := ih g3
    have g1' : p < p' := g1
    suffices txtN (i :: ps) ≤ (p' - p) + txtN ps by omega
    unfold stR at e0
    split at e0
    · have e1 := congrArg Prod.fst e0
      have e1' : (bsR t p).1 = i := e1
      rw [← e1']
      unfold bsR
      split
      · show 1 + txtN ps ≤ _; omega
      · split
        · show txtN ps ≤ _; omega
        · show 1 + txtN ps ≤ _; omega
    · split at e0
      · have e1 := congrArg Prod.fst e0
        have e1' : (rfR (t.drop p)).1 = i := e1
        rw [← e1']
        unfold rfR
        split
        · show 1 + txtN ps ≤ _; omega
        · show 1 + txtN ps ≤ _; omega
      · split at e0
        · have e1 := congrArg Prod.fst e0
          have e1' : (if hardB t pl p = true then Inl.hard else .soft) = i := e1
          rw [← e1']
          split
          · show txtN ps ≤ _; omega
          · show txtN ps ≤ _; omega
        · have e1 := congrArg Prod.fst e0
          have e1' : Inl.text (plW t p) = i := e1
          have e2 := congrArg (fun z => z.2.1) e0
          have e2' : plE t p = p' := e2
          rw [← e1']
          have := plw_len t p
          show (plW t p).length + txtN ps ≤ _
          omega
/-- the steps that are reached -/
def SS {w : World} {K : PySem.W.Frag} {mg : Str → Option Value} (T : Txt w K mg) (f : Addr) (sp : Sp) : Prop := (f = T.a_take_backslash ∧ sp = sp_take_backslash K T.c_Scan) ∨ (f = T.a_take_reference ∧ sp = sp_take_reference K T.c_Scan) ∨ (f = T.a_take_line_feed ∧ sp = sp_take_line_feed K T.c_Scan)
theorem AC {P : Program} {w : World} {K : PySem.W.Frag} {mg : Str → Option Value} {base : Heap} (T : Txt w K mg) : ∀ f sp, SS T f sp → Held P w K mg base 4 f sp := by
  intro f sp h
  rcases h with ⟨rfl, rfl⟩ | ⟨rfl, rfl⟩ | ⟨rfl, rfl⟩
  · exact ⟨_, _, fnOk_up (ok_take_backslash T) (by decide), T.f_take_backslash.kp, T.b_take_backslash⟩
  · exact ⟨_, _, fnOk_up (ok_take_reference T) (by decide), T.f_take_reference.kp, T.b_take_reference⟩
  · exact ⟨_, _, fnOk_up (ok_take_line_feed T) (by decide), T.f_take_line_feed.kp, T.b_take_line_feed⟩
def sp_scanned (K : PySem.W.Frag) : Sp := fun vs H Q _ => ∃ (kn : Addr) (t : List Nat) (ps : List Inl), vs = [.str (S t), .ref kn] ∧ t.length ≤ 30000 ∧ Asc t ∧ Rd t 0 0 ps ∧ ∀ H' v, Same H H' → Dp K H' v (.tuple (rowD (jnR [] ps))) → Q v H'
theorem ok_scanned {P : Program} {w : World} {K : PySem.W.Frag} {mg : Str → Option Value} {base : Heap} (T : Txt w K mg) : FnOk P w K mg base CX0 6 T.a_scanned T.d_scanned ["content", "known"] (sp_scanned K) := by
  refine T.f_scanned.ok sc_scanned (fun vs H Q E h => ?_) (fun cdv A outer s H vs Q E hr h => ?_)
  · obtain ⟨kn, t, ps, rfl, _⟩ := h
    rfl
  · obtain ⟨kn, t, ps, rfl, ht, ha, hrd, q⟩ := h
    refine ⟨_, (pss_cons (ps_set (i := 2) sc_scanned.nd rfl (.inl rfl) (pe_make T.mk_Scan (ok_Scan____init__ T) (hr.mono (by decide)) (by rfl) T.gc_Scan T.b_Scan____init__ .nil pass0 (pa_cons (pv 0) (pa_cons (pv 1) pa_nil))))
        (pss_cons (ps_while PassesOwn.never (pt_cmpR op_lt (pe_fld (pv 2) rfl) (pe_callB call_len_str (by rfl) T.z_len PySem.boot_len (pa_cons (pv 0) pa_nil)) (nomark _)) (pss_cons (ps_set (i := 3) sc_scanned.nd rfl (.inl rfl) (pe_ix ix_str (pv 0) (pe_fld (pv 2) rfl) (fun _ _ => rfl)))
        (pss_one (ps_if (pt_cmpR (op_in_ks T.k_STEPS) (pv 3) (pe_glob (v := .ref T.a_STEPS) rfl T.g_STEPS rfl) (by rfl)) (pss_cons (ps_set (i := 4) sc_scanned.nd rfl (.inl rfl) (pe_ix (ix_ks T.k_STEPS) (pe_glob (v := .ref T.a_STEPS) rfl T.g_STEPS rfl) (pv 3) (fun _ _ => rfl)))
        (pss_one (ps_expr (pe_callR (AC T) (hr.mono (by decide)) (i := 4) rfl (.inl rfl) (pa_cons (pv 2) pa_nil))))) (pss_one (ps_expr (pe_call (ok_take_plain T) (hr.mono (by decide)) (by rfl) T.g_take_plain T.f_take_plain.kp T.b_take_plain .nil pass0 (pa_cons (pv 2) pa_nil))))))))
        (pss_one (ps_ret (pe_call (ok_built T) (hr.mono (by decide)) (by rfl) T.g_built T.f_built.kp T.b_built .nil pass0 (pa_cons (pe_fld (pv 2) rfl) pa_nil)))))), ?_⟩
    refine ⟨_, rfl, _, rfl, fun x dx nx ndx hne => ?_⟩
    have s0 : Same H (upd (upd H dx (.own x)) x (.ins T.c_Scan dx [])) := (same_new ndx).trans (same_new (by rw [upd_ne hne.symm]; exact nx))
    refine ⟨x, kn, dx, t, rfl, by omega, upd_same, fun H1 row sc k1 nrow => ⟨rfl, ?_⟩⟩
    have hxn : ∀ b o, H b = some o → b ≠ x ∧ b ≠ row := fun b o e => ⟨ne_of_none e nx, ne_of_none (s0 _ _ e) nrow⟩
    have s1 : Same H H1 := fun b o e => k1 b o (hxn b o e).1 (s0 b o e)
    have rl := rd_len hrd (Nat.le_refl _)
    have rt := rd_txt hrd (Nat.le_refl _)
    refine ⟨fun m σ H' => ∃ (p pl : Nat) (dn rest : List Inl) (o1 o2 : Option V), σ = [some (.str (S t)), some (.ref kn), some (.ref x), o1, o2] ∧ ScanAt K T.c_Scan H' x row t p pl dn ∧ Rd t p pl rest ∧ dn ++ rest = ps ∧ pl ≤ p ∧ Same H H' ∧ m = t.length - p, ⟨_, 0, 0, [], ps, none, none, rfl, sc, hrd, rfl, Nat.le_refl _, s1, rfl⟩, ?_⟩
    rintro m σ H' ⟨p, pl, dn, rest, o1, o2, rfl, hs, hr2, hdn, hpl, s2, rfl⟩
    obtain ⟨dx', kn', br, st, nt, bar, h1⟩ := hs.ob
    have ldn : dn.length ≤ ps.length := by rw [← hdn, List.length_append]; omega
    refine ⟨_, rfl, x, T.c_Scan, dx', _, _, rfl, h1, T.cl_Scan, T.na_Scan_place, rfl, _, rfl, _, rfl, by rw [S_len, sizeLine_eq]; omega, _, _, rfl, rfl, _, rfl, ?_⟩
    rcases rd_inv hr2 with ⟨rfl, rfl⟩ | ⟨c, i, p', pl', rest', h2, h3, h4, h5, rfl⟩
    · rw [show decide ((t.length : Int) < ((S t).length : Int)) = false from decide_eq_false (by rw [S_len]; omega)]
      refine iteF ?_
      obtain ⟨vs, h6, h7⟩ := hs.ro
      rw [List.append_nil] at hdn
      subst hdn
      exact ⟨_, rfl, x, T.c_Scan, dx', _, _, rfl, h1, T.cl_Scan, T.na_Scan_row, rfl, row, vs, dn, rfl, h6, h7, by omega, by omega, fun H' v s' d' => q _ _ (s2.trans s') d'⟩
    · have hp := (List.getElem?_eq_some_iff.mp h2).1
      have hle := st_le h2 hpl
      rw [h4] at hle
      obtain ⟨g1, g2, g3⟩ := hle
      have g1' : p < p' := g1
      rw [show decide ((p : Int) < ((S t).length : Int)) = true from decide_eq_true (by rw [S_len]; omega)]
      have nxt : ∀ (σ' : L2.St) (H2 : Hp) (o3 o4 : Option V), σ' = [some (.str (S t)), some (.ref kn), some (.ref x), o3, o4] → ScanAt K T.c_Scan H2 x row t p' pl' (dn ++ [i]) → Kp x row H' H2 → ∃ m', m' < t.length - p ∧ ∃ (p pl : Nat) (dn rest : List Inl) (o1 o2 : Option V), σ' = [some (.str (S t)), some (.ref kn), some (.ref x), o1, o2] ∧ ScanAt K T.c_Scan H2 x row t p pl dn ∧ Rd t p pl rest ∧ dn ++ rest = ps ∧ pl ≤ p ∧ Same H H2 ∧ m' = t.length - p := fun σ' H2 o3 o4 e1 e2 e3 =>
        ⟨t.length - p', by have : p' ≤ t.length := g2; omega, p', pl', dn ++ [i], rest', o3, o4, e1, e2, h5, by rw [List.append_assoc]; exact hdn, g3, fun b o e => e3 b o (hxn b o e).1 (hxn b o e).2 (s2 b o e), rfl⟩
      refine iteT ⟨fun σ' H2 => ∃ m', m' < t.length - p ∧ ∃ (p pl : Nat) (dn rest : List Inl) (o1 o2 : Option V), σ' = [some (.str (S t)), some (.ref kn), some (.ref x), o1, o2] ∧ ScanAt K T.c_Scan H2 x row t p pl dn ∧ Rd t p pl rest ∧ dn ++ rest = ps ∧ pl ≤ p ∧ Same H H2 ∧ m' = t.length - p, fun σ' H2 h => h, ?_⟩
      refine ⟨_, rfl, _, rfl, x, T.c_Scan, dx', _, _, rfl, h1, T.cl_Scan, T.na_Scan_place, rfl, S t, p, c, rfl, rfl, by rw [S_len, sizeLine_eq]; omega, atI_nat (by rw [S_tl]; exact h2), ?_⟩
      refine ⟨_, rfl, S [c], rfl, rfl, _, rfl, ?_⟩
      rw [step_in (c := c) (by rfl)]
      rcases h3 with rfl | rfl | rfl | h3
      · refine iteT ⟨_, rfl, S [92], .ref T.a_take_backslash, rfl, rfl, (by rfl), _, sp_take_backslash K T.c_Scan, rfl, .inl ⟨rfl, rfl⟩, _, rfl, ?_⟩
        refine ⟨x, row, t, p, pl, dn, rfl, hs, hp, by omega, by omega, fun H2 hs2 kp => ?_⟩
        unfold stR at h4
        rw [if_pos rfl] at h4
        obtain ⟨e1, e2⟩ := Prod.mk.inj h4
        obtain ⟨e2, e3⟩ := Prod.mk.inj e2
        subst e1 e2 e3
        exact nxt _ _ _ _ rfl hs2 kp
      · refine iteT ⟨_, rfl, S [38], .ref T.a_take_reference, rfl, rfl, (by rfl), _, sp_take_reference K T.c_Scan, rfl, .inr (.inl ⟨rfl, rfl⟩), _, rfl, ?_⟩
        refine ⟨x, row, t, p, pl, dn, rfl, hs, ⟨by omega, by omega⟩, ha, by omega, fun H2 hs2 kp => ?_⟩
        unfold stR at h4
        rw [if_neg (by decide), if_pos rfl] at h4
        obtain ⟨e1, e2⟩ := Prod.mk.inj h4
        obtain ⟨e2, e3⟩ := Prod.mk.inj e2
        subst e1 e2 e3
        exact nxt _ _ _ _ rfl hs2 kp
      · refine iteT ⟨_, rfl, S [10], .ref T.a_take_line_feed, rfl, rfl, (by rfl), _, sp_take_line_feed K T.c_Scan, rfl, .inr (.inr ⟨rfl, rfl⟩), _, rfl, ?_⟩
        refine ⟨x, row, t, p, pl, dn, rfl, hs, hp, hpl, by omega, by omega, fun H2 hs2 kp => ?_⟩
        unfold stR at h4
        rw [if_neg (by decide), if_neg (by decide), if_pos rfl] at h4
        obtain ⟨e1, e2⟩ := Prod.mk.inj h4
        obtain ⟨e2, e3⟩ := Prod.mk.inj e2
        subst e1 e2 e3
        exact nxt _ _ _ _ rfl hs2 kp
      · rw [h3]
        refine iteF ⟨_, rfl, x, row, t, p, pl, dn, rfl, hs, hp, by omega, by omega, fun H2 hs2 kp => ?_⟩
        rw [st_plain h3] at h4
        obtain ⟨e1, e2⟩ := Prod.mk.inj h4
        obtain ⟨e2, e3⟩ := Prod.mk.inj e2
        subst e1 e2 e3
        exact nxt _ _ _ _ rfl hs2 kp

def sp_inlines (K : PySem.W.Frag) : Sp := fun vs H Q _ => ∃ (t : List Nat) (ps : List Inl), vs = [.str (S t), .non] ∧ t.length ≤ 30000 ∧ Asc t ∧ Rd t 0 0 ps ∧ ∀ H' v, Same H H' → Dp K H' v (.tuple (rowD (jnR [] ps))) → Q v H'
theorem ok_inlines {P : Program} {w : World} {K : PySem.W.Frag} {mg : Str → Option Value} {base : Heap} (T : Txt w K mg) : FnOk P w K mg base CX0 7 T.a_inlines T.d_inlines ["content", "known"] (sp_inlines K) := by
  refine fund_ok T.f_inlines sc_inlines (fun vs H Q E h => ?_) (fun cdv A outer s H vs Q E hr h => ?_)
  · obtain ⟨t, ps, rfl, _⟩ := h
    rfl
  · obtain ⟨t, ps, rfl, ht, ha, hrd, q⟩ := h
    refine ⟨_, (pss_cons (ps_expr (pe_call (ok_check_source T) (hr.mono (by decide)) (by rfl) T.g_check_source T.f_check_source.kp T.b_check_source .nil pass0 (pa_cons (pv 0) pa_nil)))
        (pss_cons (ps_if (pt_cmpR op_isN (pv 1) pe_non (nomark _)) (pss_one (ps_set (i := 1) sc_inlines.nd rfl (.inl rfl) pe_dnewK)) pss_nil)
        (pss_cons (ps_if (pt_not (pt_val (pe_call (ok_is_known T) (hr.mono (by decide)) (by rfl) T.g_is_known T.f_is_known.kp T.b_is_known .nil pass0 (pa_cons (pv 1) pa_nil)))) (pss_one ps_dead) pss_nil)
        (pss_one (ps_ret (pe_call (ok_scanned T) (hr.mono (by decide)) (by rfl) T.g_scanned T.f_scanned.kp T.b_scanned .nil pass0 (pa_cons (pv 0) (pa_cons (pv 1) pa_nil)))))))), ?_⟩
    refine ⟨_, rfl, S t, rfl, ?_⟩
    refine ⟨_, rfl, rfl, _, rfl, iteT fun d nd => ?_⟩
    refine ⟨_, rfl, d, rfl, upd_same, fun H1 s1 => ⟨_, rfl, iteF ?_⟩⟩
    have s2 : Same H H1 := (same_new nd).trans s1
    refine ⟨_, rfl, _, rfl, d, t, ps, rfl, ht, ha, hrd, fun H2 v s3 hd => q _ _ (s2.trans s3) hd⟩

/-! ### the draws: a list of three ints -/
theorem at0 (x y z : Int) : atI [V.int x, V.int y, V.int z] 0 = some (.int x) := atI_nat (j := 0) rfl
theorem at1 (x y z : Int) : atI [V.int x, V.int y, V.int z] 1 = some (.int y) := atI_nat (j := 1) rfl
theorem at2 (x y z : Int) : atI [V.int x, V.int y, V.int z] 2 = some (.int z) := atI_nat (j := 2) rfl
def sp__law_state (K : PySem.W.Frag) : Sp := fun vs H Q _ => ∃ (a : Addr) (ns : List Int) (k : Nat), vs = [.ref a, .int (k : Nat)] ∧ SqL K H a (ns.map V.int) ∧ ns.length ≤ 63 ∧ k ≤ 100 ∧ ∀ H' p, Same H H' → H p = none → Well3 H' p → Q (.ref p) H'
theorem ok__law_state {P : Program} {w : World} {K : PySem.W.Frag} {mg : Str → Option Value} {base : Heap} (T : Txt w K mg) : FnOk P w K mg base CX0 1 T.a__law_state T.d__law_state ["_law_script", "_law_k"] (sp__law_state K) := by
  refine T.f__law_state.ok sc__law_state (fun vs H Q E h => ?_) (fun cdv A outer s H vs Q E hr h => ?_)
  · obtain ⟨a, ns, k, rfl, _⟩ := h
    rfl
  · obtain ⟨a, ns, k, rfl, ha, hl, hk, q⟩ := h
    refine ⟨_, (pss_cons (ps_set (i := 2) sc__law_state.nd rfl (.inl rfl) (pe_ifExp (pt_cmpR op_lt (pv 1) (pe_callB call_len_seq (by rfl) T.z_len PySem.boot_len (pa_cons (pv 0) pa_nil)) (nomark _)) (pe_ix ix_list (pv 0) (pv 1) (fun _ _ => rfl)) (pe_op op_add (pe_op op_mul pe_int (pv 1)) pe_int)))
        (pss_one (ps_ret (pe_lst (pa_cons (pe_callB call_abs (by rfl) T.z_abs (by decide +kernel) (pa_cons (pv 2) pa_nil)) (pa_cons (pe_op op_add (pe_callB call_abs (by rfl) T.z_abs (by decide +kernel) (pa_cons (pv 2) pa_nil)) (pe_op op_mul pe_int (pv 1))) (pa_cons pe_int pa_nil))))))), ?_⟩
    refine asg_if (fun v H' => H' = H ∧ ∃ n : Int, v = .int n) (decide (k < ns.length)) (fun Qb qb => ⟨_, rfl, _, rfl, a, ns.map V.int, rfl, .inl ha, _, _, rfl, rfl, _, rfl, by rw [show decide ((k : Int) < ((ns.map V.int).length : Int)) = decide (k < ns.length) from decide_eq_decide.mpr (by rw [List.length_map]; omega)]; exact qb⟩) (fun h Qv qv => ?_) (fun h Qv qv => ?_) ?_
    · have hk2 := of_decide_eq_true h
      exact ⟨_, rfl, _, rfl, a, ns.map V.int, (k : Int), .int ns[k], rfl, rfl, ha, atI_nat (j := k) (by rw [List.getElem?_map, List.getElem?_eq_getElem hk2]; rfl), qv _ _ ⟨rfl, _, rfl⟩⟩
    · exact ⟨_, rfl, _, _, rfl, rfl, .inl (by constructor <;> omega), _, _, rfl, rfl, qv _ _ ⟨rfl, _, rfl⟩⟩
    · rintro v H' ⟨rfl, n, rfl⟩
      refine ⟨_, rfl, n, rfl, _, rfl, n, rfl, _, rfl, _, _, rfl, rfl, .inl (by constructor <;> omega), _, _, rfl, rfl, (by show 3 ≤ sizeLine; decide), fun p np => q _ p (same_new np) np ⟨_, _, _, upd_same⟩⟩
def sp__law_draw (K : PySem.W.Frag) : Sp := fun vs H Q _ => ∃ (L : Addr) (m : Int), vs = [.ref L, .int m] ∧ 0 < m ∧ m < 1000000 ∧ Well3 H L ∧
  ∀ H' d, Keeps L H H' → Well3 H' L → 0 ≤ d → d < m → Q (.int d) H'
theorem ok__law_draw {P : Program} {w : World} {K : PySem.W.Frag} {mg : Str → Option Value} {base : Heap} (T : Txt w K mg) : FnOk P w K mg base CX0 1 T.a__law_draw T.d__law_draw ["_law_well", "_law_many"] (sp__law_draw K) := by
  refine T.f__law_draw.ok sc__law_draw (fun vs H Q E h => ?_) (fun cdv A outer s H vs Q E hr h => ?_)
  · obtain ⟨L, m, rfl, _⟩ := h
    rfl
  · obtain ⟨L, m, rfl, hm0, hm1, ⟨x, y, z, hL⟩, q⟩ := h
    refine ⟨_, (pss_cons (ps_if (pt_cmpR op_ge (pe_ix ix_list (pv 0) pe_int (fun _ _ => rfl)) (pe_op op_pow pe_int pe_int) (nomark _)) (pss_cons (ps_set (i := 2) sc__law_draw.nd rfl (.inl rfl) (pe_op op_mod (pe_callTy call_int1 (by rfl) T.z_int (by decide +kernel) (pa_cons (pe_ix ix_list (pv 0) pe_int (fun _ _ => rfl)) pa_nil)) (pv 1)))
        (pss_cons (ps_asg (pe_op op_fdivW (pe_ix ix_list (pv 0) pe_int (fun _ _ => rfl)) (pv 1)) (pg_sub (pv 0) pe_int set_list))
        (pss_one (ps_ret (pv 2))))) pss_nil)
        (pss_cons (ps_asg (pe_op op_add (pe_ix ix_list (pv 0) pe_int (fun _ _ => rfl)) pe_int) (pg_sub (pv 0) pe_int set_list))
        (pss_cons (ps_set (i := 3) sc__law_draw.nd rfl (.inl rfl) (pe_op op_mod (pe_callTy call_int1 (by rfl) T.z_int (by decide +kernel) (pa_cons (pe_op op_mul (pe_op op_add (pe_op op_add (pe_op op_mod (pe_callTy call_int1 (by rfl) T.z_int (by decide +kernel) (pa_cons (pe_ix ix_list (pv 0) pe_int (fun _ _ => rfl)) pa_nil)) pe_int) (pe_op op_mul pe_int (pe_ix ix_list (pv 0) pe_int (fun _ _ => rfl)))) pe_int) pe_int) pa_nil)) pe_int))
        (pss_cons (ps_set (i := 3) sc__law_draw.nd rfl (.inl rfl) (pe_op op_mod (pe_callTy call_int1 (by rfl) T.z_int (by decide +kernel) (pa_cons (pe_op op_mul (pv 3) (pe_op op_add (pe_op op_fdivW (pv 3) pe_int) pe_int)) pa_nil)) pe_int))
        (pss_one (ps_ret (pe_op op_mod (pe_op op_mod (pe_callTy call_int1 (by rfl) T.z_int (by decide +kernel) (pa_cons (pe_op op_mul (pv 3) (pe_op op_add (pe_op op_fdivW (pv 3) pe_int) pe_int)) pa_nil)) pe_int) (pv 1)))))))), ?_⟩
    have wd : ∀ i j : Int, 0 < j → j < 10000000000 → CDivW i j := fun i j h1 h2 => wide_div (b := 40) h1 (by omega) (by decide) (by decide)
    refine ⟨_, rfl, L, _, _, _, rfl, rfl, SqL.of hL, at0 x y z, _, _, rfl, rfl, (by refine ⟨?_, ?_, ?_⟩ <;> decide), _, _, rfl, rfl, _, rfl, ite2 (fun _ => ?_) (fun _ => ?_)⟩
    · refine ⟨_, rfl, L, _, _, _, rfl, rfl, SqL.of hL, at0 x y z, .inl ⟨_, rfl, _, rfl, _, _, rfl, rfl, hm0, ?_⟩⟩
      refine ⟨_, rfl, L, _, _, _, rfl, rfl, SqL.of hL, at0 x y z, _, rfl, _, _, rfl, rfl, wd _ _ hm0 (by omega), _, rfl, L, _, _, 0, rfl, rfl, hL, rfl, ?_⟩
      exact ⟨_, rfl, q _ _ .at ⟨_, _, _, upd_same⟩ (Int.emod_nonneg _ (by omega)) (Int.emod_lt_of_pos _ hm0)⟩
    · -- well[2] = well[2] + 1
      refine ⟨_, rfl, L, _, _, _, rfl, rfl, SqL.of hL, at2 x y z, _, _, rfl, rfl, _, rfl, L, _, _, 2, rfl, rfl, hL, rfl, ?_⟩
      have k2 : Keeps L H (upd H L (.lst ([V.int x, V.int y, V.int z].set 2 (.int (z + 1))))) := .at
      have hL2 : (upd H L (.lst ([V.int x, V.int y, V.int z].set 2 (.int (z + 1))))) L = some (.lst [V.int x, V.int y, V.int (z + 1)]) := upd_same
      generalize (upd H L (.lst ([V.int x, V.int y, V.int z].set 2 (.int (z + 1))))) = H2 at hL2 k2 ⊢
      refine ⟨_, rfl, L, _, _, _, rfl, rfl, SqL.of hL2, at1 _ _ _, .inl ⟨_, rfl, _, _, rfl, rfl, (by show (0 : Int) < _; decide), _, rfl, L, _, _, _, rfl, rfl, SqL.of hL2, at2 _ _ _, _, _, rfl, rfl, .inl (by constructor <;> decide), _, _, rfl, rfl, _, _, rfl, rfl, _, _, rfl, rfl, .inr (by constructor <;> decide),
        .inl ⟨_, rfl, _, _, rfl, rfl, (by show (0 : Int) < _; decide), ?_⟩⟩⟩
      refine ⟨_, rfl, _, rfl, _, _, rfl, rfl, wd _ _ (by decide) (by decide), _, _, rfl, rfl, _, _, rfl, rfl, .inl (by constructor <;> omega), .inl ⟨_, rfl, _, _, rfl, rfl, (by show (0 : Int) < _; decide), ?_⟩⟩
      refine ⟨_, rfl, _, rfl, _, _, rfl, rfl, wd _ _ (by decide) (by decide), _, _, rfl, rfl, _, _, rfl, rfl, .inl (by constructor <;> omega), .inl ⟨_, rfl, _, _, rfl, rfl, (by show (0 : Int) < _; decide), _, rfl, _, _, rfl, rfl, hm0, ?_⟩⟩
      exact q _ _ k2 ⟨_, _, _, hL2⟩ (Int.emod_nonneg _ (by omega)) (Int.emod_lt_of_pos _ hm0)
def sp__law_one (K : PySem.W.Frag) : Sp := fun vs H Q _ => ∃ (L a : Addr) (xs : List V), vs = [.ref L, .ref a] ∧ SqL K H a xs ∧ a ≠ L ∧ xs ≠ [] ∧ xs.length < 1000000 ∧ Well3 H L ∧
  ∀ H' v, Keeps L H H' → Well3 H' L → v ∈ xs → Q v H'
theorem ok__law_one {P : Program} {w : World} {K : PySem.W.Frag} {mg : Str → Option Value} {base : Heap} (T : Txt w K mg) : FnOk P w K mg base CX0 2 T.a__law_one T.d__law_one ["_law_well", "_law_some"] (sp__law_one K) := by
  refine T.f__law_one.ok sc__law_one (fun vs H Q E h => ?_) (fun cdv A outer s H vs Q E hr h => ?_)
  · obtain ⟨L, a, xs, rfl, _⟩ := h
    rfl
  · obtain ⟨L, a, xs, rfl, hS, ha, hne, hlen, hW, q⟩ := h
    refine ⟨_, (pss_one (ps_ret (pe_ix ix_list (pv 1) (pe_call (ok__law_draw T) (hr.mono (by decide)) (by rfl) T.g__law_draw T.f__law_draw.kp T.b__law_draw .nil pass0 (pa_cons (pv 0) (pa_cons (pe_callB call_len_seq (by rfl) T.z_len PySem.boot_len (pa_cons (pv 1) pa_nil)) pa_nil))) (fun _ _ => rfl)))), ?_⟩
    have hpos : 0 < xs.length := List.length_pos_iff.mpr hne
    refine ⟨_, rfl, _, rfl, _, rfl, a, xs, rfl, .inl hS, L, _, rfl, by omega, by omega, hW, fun H' d k w h0 h1 => ?_⟩
    obtain ⟨j, rfl⟩ := Int.eq_ofNat_of_zero_le h0
    have hj : j < xs.length := by omega
    exact ⟨a, xs, _, xs[j], rfl, rfl, k.seq ha hS, atI_nat (List.getElem?_eq_getElem hj), q _ _ k w (List.getElem_mem hj)⟩

/-! ### menus: lists of tuples of constants -/
theorem tup_ne {H : Hp} {f L : Addr} {xs : List V} (h : H f = some (.tup xs)) (w : Well3 H L) : f ≠ L := by
  obtain ⟨x, y, z0, e⟩ := w
  exact ne_of h e fun z => by cases z
theorem keeps_upd {L D : Addr} {H H' : Hp} {o : HO} (k : Keeps L H H') (n : H D = none) : Keeps L H (upd H' D o) := fun b x hb e => by
  rw [upd_ne (ne_of_none e n)]
  exact k b x hb e
theorem well_upd {L D : Addr} {H : Hp} {o : HO} (w : Well3 H L) (n : D ≠ L) : Well3 (upd H D o) L := by
  obtain ⟨x, y, z0, e⟩ := w
  exact ⟨x, y, z0, by rw [upd_ne n.symm]; exact e⟩
theorem same_upd {D : Addr} {H H' : Hp} {o : HO} (k : Same H H') (n : H D = none) : Same H (upd H' D o) := fun b x e => by
  rw [upd_ne (ne_of_none e n)]
  exact k b x e
def conT : List V → TA
  | [] => tNil
  | v :: vs => tCons (tC v) (conT vs)
theorem con_read : ∀ (vs : List V) (σ : L2.St) (H : Hp) (P : List V → Hp → Prop), P vs H → conT vs σ H P
  | [], _, _, _, h => h
  | v :: vs, σ, H, P, h => con_read vs σ H (fun xs H2 => P (v :: xs) H2) h
def menuT : List (List V) → TA
  | [] => tNil
  | p :: ms => tCons (tTup (conT p)) (menuT ms)
def MAt (H : Hp) (v : V) (p : List V) : Prop := ∃ r, v = .ref r ∧ H r = some (.tup p)
def Menu (H : Hp) (xs : List V) (ms : List (List V)) : Prop := ∀ v ∈ xs, ∃ p ∈ ms, MAt H v p
theorem MAt.same {H H' : Hp} {v : V} {p : List V} (h : MAt H v p) (sm : Same H H') : MAt H' v p := by
  obtain ⟨r, e, h⟩ := h
  exact ⟨r, e, sm _ _ h⟩
theorem Menu.same {H H' : Hp} {xs : List V} {ms : List (List V)} (h : Menu H xs ms) (sm : Same H H') : Menu H' xs ms := fun v hv => by
  obtain ⟨p, hp, h⟩ := h v hv
  exact ⟨p, hp, h.same sm⟩
theorem Menu.keep {L : Addr} {H H' : Hp} {xs : List V} {ms : List (List V)} (h : Menu H xs ms) (w : Well3 H L) (k : Keeps L H H') : Menu H' xs ms := fun v hv => by
  obtain ⟨p, hp, r, e, h⟩ := h v hv
  exact ⟨p, hp, r, e, k _ _ (tup_ne h w) h⟩
theorem Menu.app {H : Hp} {xs ys : List V} {ms ns : List (List V)} (h : Menu H xs ms) (g : Menu H ys ns) : Menu H (xs ++ ys) (ms ++ ns) := fun v hv => by
  rcases List.mem_append.mp hv with hv | hv
  · obtain ⟨p, hp, h⟩ := h v hv
    exact ⟨p, List.mem_append_left _ hp, h⟩
  · obtain ⟨p, hp, h⟩ := g v hv
    exact ⟨p, List.mem_append_right _ hp, h⟩
theorem menu_read : ∀ (ms : List (List V)) (_ : ∀ p ∈ ms, p.length ≤ 10) (σ : L2.St) (H : Hp) (P : List V → Hp → Prop), (∀ H' xs, Same H H' → Menu H' xs ms → xs.length = ms.length → P xs H') → menuT ms σ H P
  | [], _, σ, H, P, h => h H [] (Same.refl _) (fun _ hv => by cases hv) rfl
  | p :: ms, hs, σ, H, P, h => by
    refine con_read p σ H _ ⟨by have := hs p (List.mem_cons_self ..); rw [sizeLine_eq]; omega, fun r nr => ?_⟩
    refine menu_read ms (fun q hq => hs q (List.mem_cons_of_mem _ hq)) σ _ _ fun H' xs sm hm hl => ?_
    refine h H' (.ref r :: xs) ((same_new nr).trans sm) (fun v hv => ?_) (by rw [List.length_cons, hl, List.length_cons])
    rcases List.mem_cons.mp hv with rfl | hv
    · exact ⟨p, List.mem_cons_self .., r, rfl, sm _ _ upd_same⟩
    · obtain ⟨q, hq, h'⟩ := hm v hv
      exact ⟨q, List.mem_cons_of_mem _ hq, h'⟩
def MsOk (ms : List (List V)) : Prop := ms.length ≤ 100 ∧ ∀ p ∈ ms, p.length ≤ 10
instance (ms : List (List V)) : Decidable (MsOk ms) := inferInstanceAs (Decidable (_ ∧ _))
/-- the list of a menu -/
theorem menu_list (ms : List (List V)) (hs : MsOk ms) (σ : L2.St) (H : Hp) (Q : VK) (h : ∀ H' a xs, Same H H' → H' a = some (.lst xs) → H a = none → Menu H' xs ms → xs.length = ms.length → Q (.ref a) H') : tLst (menuT ms) σ H Q := by
  refine menu_read ms hs.2 σ H _ fun H' xs sm hm hl => ⟨by rw [hl]; exact Nat.le_trans hs.1 (by decide), fun a na => ?_⟩
  refine h _ a xs (sm.trans (same_new na)) upd_same ?_ (hm.same (same_new na)) hl
  cases e : H a with
  | none => rfl
  | some o => rw [sm _ _ e] at na; cases na
theorem cat_menu {σ : L2.St} {H : Hp} {Q : VK} {i : Nat} {a : Addr} {xs : List V} {ms0 : List (List V)} (ms : List (List V)) (hs : MsOk ms) (hi : σ[i]? = some (some (.ref a))) (ha : H a = some (.lst xs)) (hm : Menu H xs ms0) (hl : xs.length ≤ 100)
    (h : ∀ H' c ys, Same H H' → H' c = some (.lst ys) → H c = none → Menu H' ys (ms0 ++ ms) → ys.length = xs.length + ms.length → Q (.ref c) H') : tOp rCat (tVar i) (tLst (menuT ms)) σ H Q := by
  refine ⟨_, hi, menu_list ms hs _ _ _ fun H2 b ys sm2 hb nb hm2 hl2 => ?_⟩
  have ha2 := sm2 _ _ ha
  have h1 := hs.1
  refine ⟨a, b, xs, ys, rfl, rfl, ha2, hb, by rw [hl2, sizeLine_eq]; omega, fun p np => ?_⟩
  have np0 : H p = none := by
    cases e : H p with
    | none => rfl
    | some o => rw [sm2 _ _ e] at np; cases np
  exact h _ p (xs ++ ys) (sm2.trans (same_new np)) upd_same np0 (((hm.same sm2).app hm2).same (same_new np)) (by rw [List.length_append, hl2])
/-- one of a menu that stands at an address -/
theorem one_at {K : PySem.W.Frag} {ms : List (List V)} {xs : List V} {a : Addr} {H : Hp} {Q : VK} {L : Addr} {E : XK} (w : Well3 H L) (ha : H a = some (.lst xs)) (hL : a ≠ L) (hm : Menu H xs ms) (h0 : xs ≠ []) (hl : xs.length ≤ 1000)
    (h : ∀ H' r p, Keeps L H H' → Well3 H' L → p ∈ ms → H' r = some (.tup p) → Q (.ref r) H') : sp__law_one K [.ref L, .ref a] H Q E := by
  refine ⟨L, a, xs, rfl, SqL.of ha, hL, h0, by omega, w, fun H2 v k2 w2 hv => ?_⟩
  obtain ⟨p, hp, r, rfl, hr⟩ := (hm.keep w k2) v hv
  exact h H2 r p k2 w2 hp hr
/-- one of a written menu -/
theorem one_menu {K : PySem.W.Frag} (ms : List (List V)) (h0 : ms ≠ []) (hs : MsOk ms) {σ : L2.St} {H : Hp} {Q : VK} {L : Addr} (w : Well3 H L) {i : Nat} (hi : σ[i]? = some (some (.ref L)))
    (h : ∀ H' r p, Keeps L H H' → Well3 H' L → p ∈ ms → H' r = some (.tup p) → Q (.ref r) H') :
    tCall (sp__law_one K) [] E0 (tCons (tVar i) (tCons (tLst (menuT ms)) tNil)) σ H Q := by
  refine ⟨_, hi, menu_list ms hs σ H _ fun H1 a xs sm ha na hm hl => ?_⟩
  have h1 := hs.1
  show sp__law_one K [.ref L, .ref a] H1 Q E0
  exact one_at (w.same sm) ha (w.ne na) hm (by intro z; rw [z] at hl; exact h0 (List.eq_nil_of_length_eq_zero hl.symm)) (by omega) fun H2 r p k2 w2 hp hr => h H2 r p ((Keeps.of sm).trans k2) w2 hp hr
/-- one of a list and a written menu behind it -/
theorem one_cat {K : PySem.W.Frag} {ms0 : List (List V)} {xs : List V} {a : Addr} (ms : List (List V)) (hs : MsOk ms) {σ : L2.St} {H : Hp} {Q : VK} {L : Addr} (w : Well3 H L) {i j : Nat} (hi : σ[i]? = some (some (.ref L))) (hj : σ[j]? = some (some (.ref a)))
    (ha : H a = some (.lst xs)) (hm : Menu H xs ms0) (h0 : xs ≠ []) (hl : xs.length ≤ 100)
    (h : ∀ H' r p, Keeps L H H' → Well3 H' L → p ∈ ms0 ++ ms → H' r = some (.tup p) → Q (.ref r) H') :
    tCall (sp__law_one K) [] E0 (tCons (tVar i) (tCons (tOp rCat (tVar j) (tLst (menuT ms))) tNil)) σ H Q := by
  refine ⟨_, hi, cat_menu ms hs hj ha hm hl fun H1 c ys sm hc nc hm1 hl1 => ?_⟩
  have h1 := hs.1
  show sp__law_one K [.ref L, .ref c] H1 Q E0
  exact one_at (w.same sm) hc (w.ne nc) hm1 (by intro z; rw [z] at hl1; have := List.length_pos_iff.mpr h0; simp at hl1; omega) (by omega) fun H2 r p k2 w2 hp hr => h H2 r p ((Keeps.of sm).trans k2) w2 hp hr
/-- one of some texts -/
theorem con_texts (ms : List Str) : (ms.map fun s => V.str s) = ms.map .str := rfl
theorem one_text {K : PySem.W.Frag} (ms : List (List Nat)) {vs : List V} (e : vs = ms.map fun s => V.str (S s)) (h0 : ms ≠ []) (hs : ms.length ≤ 100) {σ : L2.St} {H : Hp} {Q : VK} {L : Addr} (w : Well3 H L) {i : Nat} (hi : σ[i]? = some (some (.ref L)))
    (h : ∀ H' s, Keeps L H H' → Well3 H' L → s ∈ ms → Q (.str (S s)) H') :
    tCall (sp__law_one K) [] E0 (tCons (tVar i) (tCons (tLst (conT vs)) tNil)) σ H Q := by
  subst e
  refine ⟨_, hi, con_read _ σ H _ ⟨by rw [List.length_map]; exact Nat.le_trans hs (by decide), fun a na => ?_⟩⟩
  refine ⟨L, a, _, rfl, SqL.of upd_same, w.ne na, by simpa using h0, by rw [List.length_map]; omega, w.new na, fun H2 v k2 w2 hv => ?_⟩
  obtain ⟨s, hs, rfl⟩ := List.mem_map.mp hv
  exact h H2 s ((Keeps.new na).trans k2) w2 hs
theorem p0 (x y : V) : atI [x, y] 0 = some x := atI_nat (j := 0) rfl
theorem p1 (x y : V) : atI [x, y] 1 = some y := atI_nat (j := 1) rfl
/-- the draw of a number -/
theorem one_draw {K : PySem.W.Frag} {σ : L2.St} {H : Hp} {Q : VK} {L : Addr} (m : Nat) (hm : 0 < m ∧ m < 1000000) (w : Well3 H L) {i : Nat} (hi : σ[i]? = some (some (.ref L)))
    (h : ∀ H' (d : Nat), Keeps L H H' → Well3 H' L → d < m → Q (.int (d : Nat)) H') :
    tCall (sp__law_draw K) [] E0 (tCons (tVar i) (tCons (tC (.int (m : Nat))) tNil)) σ H Q :=
  ⟨_, hi, L, (m : Int), rfl, by omega, by omega, w, fun H' d k w' h0 h1 => by
    obtain ⟨j, rfl⟩ := Int.eq_ofNat_of_zero_le h0
    exact h H' j k w' (by omega)⟩
theorem seq_if_g {c : TT} {a b u : TS} {D : Ends} {σ : L2.St} {H : Hp} {i : Nat} {x : V} (P : L2.St → Hp → Prop) (h1 : ∀ N : L2.St → Hp → Prop, (∀ σ' H', P σ' H' → N σ' H') → tIfS c a b { D with nx := N } (σ.set i (some x)) H) (h2 : ∀ σ' H', P σ' H' → u D σ' H') :
    gName i x σ H { D with nx := tSeq (tIfS c a b) u D }.nx := h1 _ h2
theorem asg_if2 {t : TT} {ta tb : TE} {g : TG} {u : TS} {D : Ends} {σ : L2.St} {H : Hp} (R : Hp → Prop) (P : V → Hp → Prop) (ht : ∀ Qb : Bool → Hp → Prop, (∀ b H', R H' → Qb b H') → t σ H Qb) (ha : ∀ H', R H' → ValB ta σ H' P) (hb : ∀ H', R H' → ValB tb σ H' P)
    (hq : ∀ v H', P v H' → g v σ H' (u D)) : tSeq (tAsg (tIf t ta tb) g) u D σ H :=
  ht _ fun b H' r => by
    cases b with
    | true =>
      show (if true = true then _ else _)
      rw [if_pos rfl]
      exact ha H' r _ hq
    | false =>
      show (if false = true then _ else _)
      rw [if_neg Bool.false_ne_true]
      exact hb H' r _ hq
theorem asg_if2_g {t : TT} {ta tb : TE} {g : TG} {u : TS} {D : Ends} {σ : L2.St} {H : Hp} {i : Nat} {x : V} (R : Hp → Prop) (P : V → Hp → Prop) (ht : ∀ Qb : Bool → Hp → Prop, (∀ b H', R H' → Qb b H') → t (σ.set i (some x)) H Qb) (ha : ∀ H', R H' → ValB ta (σ.set i (some x)) H' P) (hb : ∀ H', R H' → ValB tb (σ.set i (some x)) H' P)
    (hq : ∀ v H', P v H' → g v (σ.set i (some x)) H' (u D)) : gName i x σ H { D with nx := tSeq (tAsg (tIf t ta tb) g) u D }.nx := asg_if2 R P ht ha hb hq
theorem asg_if_g {t : TT} {ta tb : TE} {g : TG} {u : TS} {D : Ends} {σ : L2.St} {H : Hp} {i : Nat} {x : V} (P : V → Hp → Prop) (b : Bool) (ht : AnsB t (σ.set i (some x)) H b) (ha : b = true → ValB ta (σ.set i (some x)) H P) (hb : b = false → ValB tb (σ.set i (some x)) H P)
    (hq : ∀ v H', P v H' → g v (σ.set i (some x)) H' (u D)) : gName i x σ H { D with nx := tSeq (tAsg (tIf t ta tb) g) u D }.nx := asg_if P b ht ha hb hq
theorem S_cut_last (l : List Nat) : cutS (S l) none (some (-1)) = S l.dropLast := by
  unfold cutS
  rw [HT.sIx_none, S_len, S_tl]
  show S _ = S _
  congr 1
  rw [List.drop_zero, Nat.sub_zero]
  have : HT.sIx l.length l.length (some (-1)) = l.length - 1 := by
    show (if (-1 : Int) < 0 then ((-1 : Int) + (l.length : Int)).toNat else min (-1 : Int).toNat l.length) = _
    rw [if_pos (by decide)]
    omega
  rw [this, List.dropLast_eq_take]
def AnsV (t : TE) (σ : L2.St) (H : Hp) (c : Bool) : Prop := ∀ Q : VK, Q (.bl c) H → t σ H Q
theorem andV {ta tb : TE} {σ : L2.St} {H : Hp} {a b : Bool} (ha : AnsV ta σ H a) (hb : AnsV tb σ H b) : AnsV (tAndV ta tb) σ H (a && b) := fun Q q => by
  refine ha _ ⟨a, rfl, ?_⟩
  cases a with
  | true => exact hb _ q
  | false => exact q
theorem orV {ta tb : TE} {σ : L2.St} {H : Hp} {a b : Bool} (ha : AnsV ta σ H a) (hb : AnsV tb σ H b) : AnsV (tOrV ta tb) σ H (a || b) := fun Q q => by
  refine ha _ ⟨a, rfl, ?_⟩
  cases a with
  | true => exact q
  | false => exact hb _ q

/-! ### pieces and breaks -/
def PcJ (x m : List Nat) : Prop := x ≠ [] ∧ m ≠ [] ∧ x.length ≤ 40 ∧ m.length ≤ 40 ∧ Asc x ∧ Asc m ∧ (∀ c, x.getLast? = some c → WhL.contains c = false) ∧
  ∀ (t : List Nat) (p pl : Nat) (w r : List Nat), t.drop p = x ++ r → pl ≤ p → ∃ pl', pl' ≤ p + x.length ∧ ∀ out, Jn t (p + x.length) pl' (w ++ m) out → Jn t p pl w out
def BrkJ (x : List Nat) (b : Inl) : Prop := x.length ≤ 40 ∧ Asc x ∧
  ∀ (t : List Nat) (p pl : Nat) (w r : List Nat), t.drop p = x ++ 119 :: r → pl ≤ p → Nw t p → ∃ pl', pl' ≤ p + x.length ∧ ∀ out, Jn t (p + x.length) pl' [] out → Jn t p pl w (txtI w ++ b :: out)
theorem last_app {x : List Nat} {c d : Nat} (h : (x ++ [c]).getLast? = some d) : d = c := by
  rw [List.getLast?_append] at h
  exact (Option.some.inj h).symm
theorem pc_ref {a : List Nat} {c : Nat} (h : RefOk a (some c)) (hc : c < 128) : PcJ (38 :: (a ++ [59])) [c] := by
  refine ⟨by simp, by simp, ?_, by simp, ?_, ?_, ?_, ?_⟩
  · have := h.2.2.2.2.1
    rw [List.length_cons, List.length_append, List.length_singleton]
    omega
  · intro x hx
    rcases List.mem_cons.mp hx with rfl | hx
    · decide
    · rcases List.mem_append.mp hx with hx | hx
      · exact h.2.2.2.1 x hx
      · rw [List.mem_singleton.mp hx]; decide
  · intro x hx
    rw [List.mem_singleton.mp hx]
    exact hc
  · intro d hd
    have : d = 59 := last_app (x := 38 :: a) hd
    subst this
    rfl
  · intro t p pl w r ht hpl
    have e : (38 :: (a ++ [59])).length = a.length + 2 := by rw [List.length_cons, List.length_append, List.length_singleton]
    refine ⟨p + (a.length + 2), by rw [e]; exact Nat.le_refl _, fun out j => ?_⟩
    rw [e] at j
    exact jn_ref (a := a) (r := r) (by rw [ht]; simp) h j
theorem pc_blk {b : List Nat} (h : Blk b) (hl : b.length ≤ 40) (ha : Asc b) : PcJ b b := by
  refine ⟨h.ne, h.ne, hl, hl, ha, ha, ?_, fun t p pl w r ht hpl => ⟨pl, by omega, fun out j => jn_blk ht h j⟩⟩
  intro d hd
  obtain ⟨a, c, rfl, hc⟩ := h.en
  rw [last_app hd]
  exact hc
theorem pc_esc {c : Nat} (h : PunL.contains c = true) : PcJ [92, c] [c] := by
  have hm : c ∈ PunL := by simpa using h
  have hw : ∀ c ∈ PunL, WhL.contains c = false ∧ c < 128 := by decide
  have h2 := hw c hm
  refine ⟨by simp, by simp, by simp, by simp, ?_, ?_, ?_, fun t p pl w r ht hpl => ⟨p + 2, Nat.le_refl _, fun out j => jn_esc (r := r) ht h j⟩⟩
  · intro x hx
    simp only [List.mem_cons, List.not_mem_nil, or_false] at hx
    rcases hx with rfl | rfl
    · decide
    · exact h2.2
  · intro x hx
    rw [List.mem_singleton.mp hx]
    exact h2.2
  · intro d hd
    rw [last_app (x := [92]) hd]
    exact h2.1
theorem blk_last {b : List Nat} (h : Blk b) (x : Nat) : ∀ c, (x :: b).getLast? = some c → WhL.contains c = false := by
  intro d hd
  obtain ⟨a, c, rfl, hc⟩ := h.en
  rw [last_app (x := x :: a) hd]
  exact hc
theorem pc_back {c : Nat} {b : List Nat} (h : Blk (c :: b)) (hl : b.length ≤ 30) (ha : Asc (c :: b)) (hp : PunL.contains c = false) (h10 : c ≠ 10) : PcJ (92 :: c :: b) (92 :: c :: b) := by
  have as : Asc (92 :: c :: b) := fun x hx => by
    rcases List.mem_cons.mp hx with rfl | hx
    · decide
    · exact ha x hx
  have l : (92 :: c :: b).length ≤ 40 := by rw [List.length_cons, List.length_cons]; omega
  refine ⟨by simp, by simp, l, l, as, as, blk_last h 92, fun t p pl w r ht hpl => ⟨p + 1, by rw [List.length_cons]; omega, fun out j => ?_⟩⟩
  refine jn_back (r := b ++ r) ht hp h10 ?_
  have hd : t.drop (p + 1) = (c :: b) ++ r := drop_one ht
  refine jn_blk hd h ?_
  have e1 : p + (92 :: c :: b).length = p + 1 + (c :: b).length := by simp only [List.length_cons]; omega
  rw [e1] at j
  rw [List.append_assoc]
  exact j
/-- no reference, whatever stands behind -/
def noneB (b : List Nat) : Bool := match findL [59] b with
  | some k => decide (8 < k) || decide (meantR (b.take k) = none)
  | none => b.contains 46
theorem numR_out {c : Nat} {w ds : List Nat} (h : c ∈ w) (hd : lo1 c ∉ ds) (B : Nat) : numR B ds w = none := by
  unfold numR
  split
  · rfl
  · split
    · rename_i h2
      rw [List.all_eq_true] at h2
      have := h2 (lo1 c) (List.mem_map.mpr ⟨c, h, rfl⟩)
      exact absurd (by simpa using this) hd
    · rfl
theorem names_dot : ∀ p ∈ NamesL, 46 ∉ p.1 := by decide
theorem lookup_out {c : Nat} {w : List Nat} (h : c ∈ w) : ∀ {ps : List (List Nat × Nat)}, (∀ p ∈ ps, c ∉ p.1) → ps.lookup w = none
  | [], _ => rfl
  | p :: ps, hp => by
    rw [List.lookup_cons]
    have h1 := hp p (List.mem_cons_self ..)
    have e : (w == p.1) = false := beq_eq_false_iff_ne.mpr fun e => h1 (e ▸ h)
    rw [e]
    exact lookup_out h fun q hq => hp q (List.mem_cons_of_mem _ hq)
theorem meant_dot {w : List Nat} (h : 46 ∈ w) : meantR w = none := by
  unfold meantR
  have h1 : ∀ {x : List Nat}, x.isPrefixOf w = true → 46 ∉ x → 46 ∈ w.drop x.length := by
    intro x hx hn
    obtain ⟨s, rfl⟩ := List.isPrefixOf_iff_prefix.mp hx
    rw [List.drop_left]
    rcases List.mem_append.mp h with z | z
    · exact absurd z hn
    · exact z
  split
  · rename_i h2
    have h3 : 46 ∈ w.drop 2 := by
      rcases Bool.or_eq_true_iff.mp h2 with z | z
      · exact h1 z (by decide)
      · exact h1 z (by decide)
    rw [numR_out h3 (by decide)]
    rfl
  · split
    · rename_i h2
      have h3 : 46 ∈ w.drop 1 := h1 h2 (by decide)
      rw [numR_out h3 (by decide)]
      rfl
    · exact lookup_out h names_dot
theorem findL_split {b : List Nat} {k : Nat} (h : findL [59] b = some k) : 59 ∉ b.take k ∧ b = b.take k ++ 59 :: b.drop (k + 1) ∧ b[k]? = some 59 := by
  induction b generalizing k with
  | nil => cases h
  | cons x b ih =>
    have hx : findL [59] (x :: b) = if ([59] : List Nat).isPrefixOf (x :: b) = true then some 0 else (findL [59] b).map (· + 1) := rfl
    rw [hx] at h
    by_cases e : x = 59
    · subst e
      rw [if_pos (by rfl)] at h
      cases h
      exact ⟨by simp, rfl, rfl⟩
    · rw [if_neg (by simp [List.isPrefixOf]; exact fun q => e q.symm)] at h
      cases hf : findL [59] b with
      | none => rw [hf] at h; cases h
      | some j =>
        rw [hf] at h
        cases h
        obtain ⟨h1, h2, h3⟩ := ih hf
        refine ⟨?_, ?_, by rw [List.getElem?_cons_succ]; exact h3⟩
        · show 59 ∉ x :: b.take j
          intro q
          rcases List.mem_cons.mp q with q | q
          · exact e q.symm
          · exact h1 q
        · show x :: b = x :: (b.take j ++ 59 :: b.drop (j + 1))
          rw [← h2]
theorem findL_no {b : List Nat} (h : findL [59] b = none) : 59 ∉ b := by
  induction b with
  | nil => simp
  | cons x b ih =>
    have hx : findL [59] (x :: b) = if ([59] : List Nat).isPrefixOf (x :: b) = true then some 0 else (findL [59] b).map (· + 1) := rfl
    rw [hx] at h
    by_cases e : x = 59
    · subst e
      rw [if_pos (by rfl)] at h
      cases h
    · rw [if_neg (by simp [List.isPrefixOf]; exact fun q => e q.symm)] at h
      cases hf : findL [59] b with
      | some j => rw [hf] at h; cases h
      | none =>
        intro q
        rcases List.mem_cons.mp q with q | q
        · exact e q.symm
        · exact ih hf q
theorem none_ref {b : List Nat} (h : noneB b = true) (r : List Nat) : refR (38 :: (b ++ r)) = none := by
  unfold noneB at h
  cases hf : findL [59] b with
  | some k =>
    rw [hf] at h
    obtain ⟨h1, h2, _⟩ := findL_split hf
    have e : 38 :: (b ++ r) = 38 :: (b.take k ++ 59 :: (b.drop (k + 1) ++ r)) := by
      conv => lhs; rw [h2]
      simp
    rw [e, ref_at h1]
    split
    · rename_i hk
      have hlk : (b.take k).length = k := by
        have := congrArg List.length h2
        rw [List.length_append, List.length_cons, List.length_take, List.length_drop] at this
        rw [List.length_take]
        omega
      rw [hlk] at hk
      rcases Bool.or_eq_true_iff.mp h with z | z
      · have := of_decide_eq_true z
        omega
      · rw [of_decide_eq_true z]
        rfl
    · rfl
  | none =>
    rw [hf] at h
    have hno := findL_no hf
    have h46 : 46 ∈ b := by simpa using h
    unfold refR
    rw [if_pos (by rfl)]
    cases hk : findL [59] ((38 :: (b ++ r)).take 10) with
    | none => rfl
    | some k =>
      dsimp only
      obtain ⟨g1, g2, hk11⟩ := findL_split hk
      have hkb : b.length < k := by
        by_cases hlt : k ≤ b.length
        · exfalso
          have e9 : (38 :: (b ++ r))[k]? = some 59 := by
            rw [List.getElem?_take] at hk11
            split at hk11
            · exact hk11
            · cases hk11
          cases k with
          | zero => cases e9
          | succ j =>
            rw [List.getElem?_cons_succ, List.getElem?_append_left (by omega)] at e9
            exact hno (List.mem_of_getElem? e9)
        · omega
      rw [meant_dot]
      · rfl
      · show 46 ∈ (b ++ r).take (k - 1)
        rw [List.take_append, List.take_of_length_le (by omega)]
        exact List.mem_append_left _ h46
theorem pc_bad {b : List Nat} (hn : noneB b = true) (h : Blk b) (hl : b.length ≤ 30) (ha : Asc b) : PcJ (38 :: b) (38 :: b) := by
  have as : Asc (38 :: b) := fun x hx => by
    rcases List.mem_cons.mp hx with rfl | hx
    · decide
    · exact ha x hx
  have l : (38 :: b).length ≤ 40 := by rw [List.length_cons]; omega
  refine ⟨by simp, by simp, l, l, as, as, blk_last h 38, fun t p pl w r ht hpl => ⟨p + 1, by rw [List.length_cons]; omega, fun out j => ?_⟩⟩
  refine jn_amp (r := b ++ r) ht (none_ref hn r) ?_
  refine jn_blk (drop_one ht) h ?_
  have e1 : p + (38 :: b).length = p + 1 + b.length := by simp only [List.length_cons]; omega
  rw [e1] at j
  rw [List.append_assoc]
  exact j
theorem pc_ampamp : PcJ [38, 97, 109, 112, 38, 46] [38, 97, 109, 112, 38, 46] := by
  refine ⟨by decide, by decide, by decide, by decide, by unfold Asc; decide, by unfold Asc; decide, by intro c h; cases h; rfl, fun t p pl w r ht hpl => ⟨p + 5, by show p + 5 ≤ p + 6; omega, fun out j => ?_⟩⟩
  have ht' : t.drop p = 38 :: ([97, 109, 112, 38, 46] ++ r) := by rw [ht]; rfl
  have ht2 : t.drop p = 38 :: ([97, 109, 112] ++ ([38, 46] ++ r)) := by rw [ht]; rfl
  refine jn_amp (r := [97, 109, 112, 38, 46] ++ r) ht' (none_ref (b := [97, 109, 112, 38, 46]) (by decide +kernel) r) ?_
  refine jn_blk (b := [97, 109, 112]) (r := [38, 46] ++ r) (drop_one ht2) (blk_of (by decide)) ?_
  have h2 : t.drop (p + 1 + [97, 109, 112].length) = 38 :: ([46] ++ r) := drop_add (a := [97, 109, 112]) (drop_one ht2)
  refine jn_amp h2 (none_ref (b := [46]) (by decide +kernel) r) ?_
  refine jn_blk (b := [46]) (r := r) (drop_one h2) (blk_of (by decide)) ?_
  have e : w ++ [38] ++ [97, 109, 112] ++ [38] ++ [46] = w ++ [38, 97, 109, 112, 38, 46] := by simp
  rw [e]
  exact j
theorem bk_ws {ws a : List Nat} (hw : Wht ws) (ha : Wht a) (h : (ws ++ 10 :: a).length ≤ 40) : BrkJ (ws ++ 10 :: a) (if hardW ws = true then .hard else .soft) := by
  have wa : ∀ c, WhL.contains c = true → c < 128 := fun c hc => by
    have : c = 32 ∨ c = 9 := by simpa [WhL] using hc
    rcases this with rfl | rfl <;> decide
  refine ⟨h, fun x hx => ?_, fun t p pl w r ht hpl hn => ⟨p + (ws ++ 10 :: a).length, Nat.le_refl _, fun out j => ?_⟩⟩
  · rcases List.mem_append.mp hx with hx | hx
    · exact wa x (hw x hx)
    · rcases List.mem_cons.mp hx with rfl | hx
      · decide
      · exact wa x (ha x hx)
  · have e : p + (ws ++ 10 :: a).length = p + ws.length + 1 + a.length := by rw [List.length_append, List.length_cons]; omega
    rw [e] at j
    exact jn_break (r := r) (c := 119) (by rw [ht]; simp) hw ha (by rfl) hpl hn j
theorem bk_bs {a : List Nat} (ha : Wht a) (h : (92 :: 10 :: a).length ≤ 40) : BrkJ (92 :: 10 :: a) .hard := by
  have wa : ∀ c, WhL.contains c = true → c < 128 := fun c hc => by
    have : c = 32 ∨ c = 9 := by simpa [WhL] using hc
    rcases this with rfl | rfl <;> decide
  refine ⟨h, fun x hx => ?_, fun t p pl w r ht hpl hn => ⟨p + (92 :: 10 :: a).length, Nat.le_refl _, fun out j => ?_⟩⟩
  · rcases List.mem_cons.mp hx with rfl | hx
    · decide
    · rcases List.mem_cons.mp hx with rfl | hx
      · decide
      · exact wa x (ha x hx)
  · have e : p + (92 :: 10 :: a).length = p + 2 + a.length := by simp only [List.length_cons]; omega
    rw [e] at j
    exact jn_hard (r := r) (c := 119) (by rw [ht]; simp) ha (by rfl) j
/-- what was read of a text, whatever stands behind -/
def Rs (T : List Nat) (pre : List Inl) (w : List Nat) : Prop := Asc T ∧ (∀ c, T.getLast? = some c → WhL.contains c = false) ∧ ∀ r, ∃ pl, pl ≤ T.length ∧ ∀ out, Jn (T ++ r) T.length pl w out → Jn (T ++ r) 0 0 [] (pre ++ out)
theorem rs_nil : Rs [] [] [] := ⟨fun _ h => (by cases h), fun _ h => (by cases h), fun r => ⟨0, Nat.le_refl _, fun out j => j⟩⟩
theorem last_add {T x : List Nat} (hx : x ≠ []) {c : Nat} (h : (T ++ x).getLast? = some c) : x.getLast? = some c := by
  rw [List.getLast?_append] at h
  cases e : x.getLast? with
  | none => exact absurd (List.getLast?_eq_none_iff.mp e) hx
  | some d => rw [e] at h; exact h
theorem rs_piece {T : List Nat} {pre : List Inl} {w x m : List Nat} (h : Rs T pre w) (g : PcJ x m) : Rs (T ++ x) pre (w ++ m) := by
  obtain ⟨h1, h2, h3⟩ := h
  obtain ⟨g1, _, _, _, g4, _, g5, g6⟩ := g
  refine ⟨fun c hc => ?_, fun c hc => g5 c (last_add g1 hc), fun r => ?_⟩
  · rcases List.mem_append.mp hc with hc | hc
    · exact h1 c hc
    · exact g4 c hc
  · obtain ⟨pl, hpl, h4⟩ := h3 (x ++ r)
    obtain ⟨pl', hpl', g7⟩ := g6 (T ++ (x ++ r)) T.length pl w r (List.drop_left ..) hpl
    refine ⟨pl', by rw [List.length_append]; exact hpl', fun out j => ?_⟩
    rw [List.append_assoc, List.length_append] at j
    rw [List.append_assoc]
    exact h4 out (g7 out j)
theorem nw_end {T r : List Nat} (h : ∀ c, T.getLast? = some c → WhL.contains c = false) : Nw (T ++ r) T.length := by
  intro c h1 e e32
  rw [List.getElem?_append_left (by omega)] at e
  have : T.getLast? = some c := by rw [List.getLast?_eq_getElem?]; exact e
  have := h c this
  rw [e32] at this
  cases this
theorem rs_break {T : List Nat} {pre : List Inl} {w x : List Nat} {b : Inl} (h : Rs T pre w) (g : BrkJ x b) : Rs (T ++ x ++ [119]) (pre ++ txtI w ++ [b]) [119] := by
  obtain ⟨h1, h2, h3⟩ := h
  obtain ⟨_, g4, g6⟩ := g
  refine ⟨fun c hc => ?_, fun c hc => ?_, fun r => ?_⟩
  · rcases List.mem_append.mp hc with hc | hc
    · rcases List.mem_append.mp hc with hc | hc
      · exact h1 c hc
      · exact g4 c hc
    · rw [List.mem_singleton.mp hc]; decide
  · rw [last_app hc]; rfl
  · obtain ⟨pl, hpl, h4⟩ := h3 (x ++ 119 :: r)
    obtain ⟨pl', hpl', g7⟩ := g6 (T ++ (x ++ 119 :: r)) T.length pl w r (List.drop_left ..) hpl (nw_end h2)
    have et : T ++ x ++ [119] ++ r = T ++ (x ++ 119 :: r) := by simp
    refine ⟨pl', by simp only [List.length_append]; omega, fun out j => ?_⟩
    rw [et] at j ⊢
    have ho : pre ++ txtI w ++ [b] ++ out = pre ++ (txtI w ++ b :: out) := by simp
    rw [ho]
    refine h4 _ (g7 out ?_)
    refine jn_blk (b := [119]) (r := r) (drop_add (List.drop_left ..)) (blk_of (by decide)) ?_
    have el : (T ++ x ++ [119]).length = T.length + x.length + [119].length := by simp only [List.length_append]
    rw [el] at j
    exact j
theorem rs_end {T : List Nat} {pre : List Inl} {w : List Nat} (h : Rs T pre w) : ∃ ps, Rd T 0 0 ps ∧ jnR [] ps = pre ++ txtI w := by
  obtain ⟨pl, _, h3⟩ := h.2.2 []
  rw [List.append_nil] at h3
  exact h3 (txtI w) ⟨[], .done, rfl⟩
/-! ### whole texts -/
def goO : Nat → List Nat → Nat → Nat → Option (List Inl)
  | 0, _, _, _ => none
  | n + 1, t, p, pl => match t[p]? with
    | none => if p = t.length then some [] else none
    | some c => if c = 92 ∨ c = 38 ∨ c = 10 ∨ StepL.contains c = false then (goO n t (stR t p pl c).2.1 (stR t p pl c).2.2).map fun ps => (stR t p pl c).1 :: ps else none
theorem goO_ok : ∀ (n : Nat) {t : List Nat} {p pl : Nat} {ps : List Inl}, goO n t p pl = some ps → Rd t p pl ps
  | 0, _, _, _, _, h => by cases h
  | n + 1, t, p, pl, ps, h => by
    unfold goO at h
    cases e : t[p]? with
    | none =>
      rw [e] at h
      dsimp only at h
      split at h
      · rename_i hp
        subst hp
        cases h
        exact .done
      · cases h
    | some c =>
      rw [e] at h
      dsimp only at h
      split at h
      · rename_i hc
        cases hg : goO n t (stR t p pl c).2.1 (stR t p pl c).2.2 with
        | none => rw [hg] at h; cases h
        | some qs =>
          rw [hg] at h
          cases h
          exact .step e hc rfl (goO_ok n hg)
      · cases h

/-! ### the law's texts -/
def MarksL : List Nat := [33, 34, 35, 36, 38, 39, 40, 41, 42, 43, 44, 45, 46, 47, 58, 59, 60, 61, 62, 63, 64, 91, 92, 93, 94, 95, 96, 123, 124, 125, 126]
theorem lit_marks : ("!\"#$&'()*+,-./:;<=>?\x40[\\]^_`{|}~" : Str) = S MarksL := by decide +kernel
def sp__law_marks (K : PySem.W.Frag) : Sp := fun vs H Q _ => vs = [] ∧ Q (.str (S MarksL)) H
theorem ok__law_marks {P : Program} {w : World} {K : PySem.W.Frag} {mg : Str → Option Value} {base : Heap} (T : Txt w K mg) : FnOk P w K mg base CX0 1 T.a__law_marks T.d__law_marks [] (sp__law_marks K) := by
  refine T.f__law_marks.ok sc__law_marks (fun vs H Q E h => ?_) (fun cdv A outer s H vs Q E hr h => ?_)
  · obtain ⟨rfl, _⟩ := h
    rfl
  · obtain ⟨rfl, q⟩ := h
    refine ⟨_, (pss_one (ps_ret pe_str)), ?_⟩
    rw [← lit_marks] at q
    exact q
theorem names_split : Txt.split (("amp lt gt quot apos num ast lowbar grave lsqb rsqb lpar rpar lcub rcub" : Str) ++ (" bsol excl Tab NewLine" : Str)) (" " : Str) = NamesL.map fun q => S q.1 := by decide +kernel
theorem names_signs : ("&<>\"'#*_`[](){}\\!\t\n" : Str).cps.toList = NamesL.map fun q => q.2 := by decide +kernel
def NamesM : List (List V) := NamesL.map fun p => [.str (S p.1), .str (S [p.2])]
def sp__law_names (K : PySem.W.Frag) : Sp := fun vs H Q _ => vs = [] ∧ ∀ H' a xs, Same H H' → H a = none → H' a = some (.lst xs) → xs.length = 19 → Menu H' xs NamesM → Q (.ref a) H'
theorem ok__law_names {P : Program} {w : World} {K : PySem.W.Frag} {mg : Str → Option Value} {base : Heap} (T : Txt w K mg) : FnOk P w K mg base CX0 1 T.a__law_names T.d__law_names [] (sp__law_names K) := by
  refine T.f__law_names.ok sc__law_names (fun vs H Q E h => ?_) (fun cdv A outer s H vs Q E hr h => ?_)
  · obtain ⟨rfl, _⟩ := h
    rfl
  · obtain ⟨rfl, q⟩ := h
    refine ⟨_, (pss_cons (ps_set (i := 0) sc__law_names.nd rfl (.inl rfl) pe_str)
        (pss_cons (ps_set (i := 0) sc__law_names.nd rfl (.inl rfl) (pe_split (pe_op op_add_str (pv 0) pe_str) pe_str))
        (pss_one (ps_ret (pe_listzip rfl (by rfl) T.z_list (by rfl) T.z_zip (pa_cons (pv 0) (pa_cons pe_str pa_nil))))))), ?_⟩
    refine ⟨_, rfl, _, _, rfl, rfl, (by decide +kernel), ⟨_, rfl⟩, _, _, rfl, rfl, (by decide +kernel), (by decide +kernel), ?_⟩
    rw [names_split]
    intro p np
    refine ⟨_, rfl, p, _, NamesL.map fun q => V.str (S q.1), rfl, SqL.of (by rw [upd_same, List.map_map]; rfl), (by decide +kernel), (by decide), (by decide), fun H' L Ts k nL hL hTs hm => ?_⟩
    have s1 : Same H (upd H p (.lst ((NamesL.map fun q => S q.1).map V.str))) := same_new np
    have nL0 : H L = none := by
      cases e : H L with
      | none => rfl
      | some o => rw [s1 _ _ e] at nL; cases nL
    refine q H' L (Ts.map V.ref) (fun b o e => k b o (s1 b o e)) nL0 hL (by rw [List.length_map, hTs]; rfl) fun v hv => ?_
    obtain ⟨T1, hT1, rfl⟩ := List.mem_map.mp hv
    obtain ⟨j, hj⟩ := List.mem_iff_getElem?.mp hT1
    have hjl := (List.getElem?_eq_some_iff.mp hj).1
    have hjn : j < 19 := by rw [hTs] at hjl; exact hjl
    obtain ⟨pr, hpr⟩ : ∃ pr, NamesL[j]? = some pr := ⟨_, List.getElem?_eq_getElem (by exact hjn)⟩
    obtain ⟨_, m2⟩ := hm j T1 (V.str (S pr.1)) pr.2 hj (by rw [List.getElem?_map, hpr]; rfl) (by rw [names_signs, List.getElem?_map, hpr]; rfl)
    exact ⟨_, List.mem_map.mpr ⟨pr, List.mem_of_getElem? hpr, rfl⟩, T1, rfl, m2⟩

def SigL : List Nat := [9, 10, 32, 33, 34, 35, 36, 38, 39, 40, 41, 42, 43, 44, 45, 46, 47, 48, 57, 58, 59, 60, 61, 62, 63, 64, 65, 90, 91, 92, 93, 94, 95, 96, 97, 122, 123, 124, 125, 126]
theorem lit_sig : ("\t\n !\"#$&'()*+,-./09:;<=>?\x40AZ[\\]^_`az{|}~" : Str) = S SigL := by decide +kernel
def dig45 (n : Nat) : List Nat := ((toString ((n : Nat) : Int) : String) : Str).cps.toList
theorem dec45 : ∀ n ∈ SigL, ∀ z, z < 4 → refOkB (35 :: (List.replicate z 48 ++ dig45 n)) (some n) = true := by decide +kernel
def HexU : List Nat := [48, 49, 50, 51, 52, 53, 54, 55, 56, 57, 65, 66, 67, 68, 69, 70]
theorem hex45 : ∀ n ∈ SigL, ∀ z, z < 4 → ∀ X ∈ [120, 88], ∀ F ∈ [HexL, HexU], refOkB (35 :: X :: (List.replicate z 48 ++ [F.getD (n / 16) 0, F.getD (n % 16) 0])) (some n) = true := by decide +kernel
theorem hexs45 : ([.str "0123456789abcdef", .str "0123456789ABCDEF"] : List V) = ([HexL, HexU] : List (List Nat)).map fun s => V.str (S s) := by decide +kernel
theorem exes45 : ([.str "x", .str "X"] : List V) = ([[120], [88]] : List (List Nat)).map fun s => V.str (S s) := by decide +kernel
theorem rep45 (z : Nat) : (List.replicate z [48]).flatten = List.replicate z 48 := by
  induction z with
  | zero => rfl
  | succ z ih => rw [List.replicate_succ, List.flatten_cons, ih]; rfl
theorem sig45 : ∀ n ∈ SigL, n < 128 := by decide
theorem name45 : ∀ p ∈ NamesL, refOkB p.1 (some p.2) = true ∧ p.2 < 128 := by decide +kernel
def BadL : List (List Nat) := [[38, 97, 109, 112, 32], [38, 99, 111, 112, 121, 59], [38, 35, 59], [38, 35, 120, 59], [38, 35, 48, 59], [38, 35, 49, 50, 55, 59], [38, 35, 49, 50, 51, 52, 53, 54, 55, 56, 59], [38, 65, 77, 80, 59], [38, 35, 120, 71, 59], [38, 32, 97, 109, 112, 59], [38, 35, 51, 55, 59], [38, 59], [38, 35, 120, 48, 48, 48, 48, 48, 52, 49, 59], [38, 97, 109, 112, 38], [38, 116, 97, 98, 59], [38, 35, 51, 49, 59], [38, 35, 120, 50, 53, 59], [38, 110, 101, 119, 108, 105, 110, 101, 59], [38, 108, 116, 58], [38, 35, 32, 54, 53, 59], [38, 97, 109, 59, 112, 59]]
def badOk (b : List Nat) : Bool := match b ++ [46] with
  | 38 :: r => noneB r && blkB r && decide (r.length ≤ 30) && r.all (fun c => decide (c < 128))
  | _ => false
theorem bad45 : ∀ b ∈ BadL, b = [38, 97, 109, 112, 38] ∨ badOk b = true := by decide +kernel
theorem pc_bads {b : List Nat} (h : b ∈ BadL) : PcJ (b ++ [46]) (b ++ [46]) := by
  rcases bad45 b h with rfl | h2
  · exact pc_ampamp
  · unfold badOk at h2
    generalize b ++ [46] = y at h2
    cases y with
    | nil => cases h2
    | cons c r =>
      by_cases hc : c = 38
      · subst hc
        replace h2 : (noneB r && blkB r && decide (r.length ≤ 30) && r.all fun c => decide (c < 128)) = true := h2
        rw [Bool.and_eq_true, Bool.and_eq_true, Bool.and_eq_true, List.all_eq_true] at h2
        exact pc_bad h2.1.1.1 (blk_of h2.1.1.2) (of_decide_eq_true h2.1.2) fun x hx => of_decide_eq_true (h2.2 x hx)
      · exfalso
        split at h2
        · rename_i e
          exact hc (List.cons.inj e).1
        · cases h2
def Bad1 : List V := [.str "&amp ", .str "&copy;", .str "&#;", .str "&#x;", .str "&#0;", .str "&#127;", .str "&#12345678;", .str "&AMP;", .str "&#xG;", .str "& amp;", .str "&#37;"]
def Bad2 : List V := [.str "&;", .str "&#x0000041;", .str "&amp&", .str "&tab;", .str "&#31;", .str "&#x25;", .str "&newline;", .str "&lt:", .str "&# 65;", .str "&am;p;"]
theorem bads45 : Bad1 ++ Bad2 = BadL.map fun s => V.str (S s) := by decide +kernel
theorem lit_amp45 : ("&" : Str) = S [38] := by decide +kernel
theorem lit_semi45 : (";" : Str) = S [59] := by decide +kernel
theorem lit_dec45 : ("&#" : Str) = S [38, 35] := by decide +kernel
theorem lit_zero45 : ("0" : Str) = S [48] := by decide +kernel
theorem lit_dot45 : ("." : Str) = S [46] := by decide +kernel
theorem add45 {a b : List Nat} {n : Nat} (h : a.length + b.length ≤ n) (hn : n ≤ 1000 := by decide) : (S a).length + (S b).length ≤ sizeLine := by
  rw [S_len, S_len, sizeLine_eq]
  omega
def sp__law_reference (K : PySem.W.Frag) : Sp := fun vs H Q _ => ∃ L : Addr, vs = [.ref L] ∧ Well3 H L ∧
  ∀ H' r x m, Keeps L H H' → Well3 H' L → H' r = some (.tup [.str (S x), .str (S m)]) → PcJ x m → Q (.ref r) H'
theorem ok__law_reference {P : Program} {w : World} {K : PySem.W.Frag} {mg : Str → Option Value} {base : Heap} (T : Txt w K mg) : FnOk P w K mg base CX0 3 T.a__law_reference T.d__law_reference ["_law_well"] (sp__law_reference K) := by
  refine T.f__law_reference.ok sc__law_reference (fun vs H Q E h => ?_) (fun cdv A outer s H vs Q E hr h => ?_)
  · obtain ⟨L, rfl, _⟩ := h
    rfl
  · obtain ⟨L, rfl, hW, q⟩ := h
    refine ⟨_, (pss_cons (ps_set (i := 1) sc__law_reference.nd rfl (.inl rfl) (pe_call (ok__law_draw T) (hr.mono (by decide)) (by rfl) T.g__law_draw T.f__law_draw.kp T.b__law_draw .nil pass0 (pa_cons (pv 0) (pa_cons pe_int pa_nil))))
        (pss_cons (ps_if (pt_cmpR op_lt (pv 1) pe_int (nomark _)) (pss_cons (ps_asg (pe_call (ok__law_one T) (hr.mono (by decide)) (by rfl) T.g__law_one T.f__law_one.kp T.b__law_one .nil pass0 (pa_cons (pv 0) (pa_cons (pe_call0 (ok__law_names T) (hr.mono (by decide)) (by rfl) T.g__law_names T.f__law_names.kp T.b__law_names .nil pass0) pa_nil))) (pg_tup (by rfl) (pgs_cons (pg_name (i := 2) sc__law_reference.nd rfl (.inl rfl)) (pgs_cons (pg_name (i := 3) sc__law_reference.nd rfl (.inl rfl)) pgs_nil))))
        (pss_one (ps_ret (pe_tup (pa_cons (pe_op op_add_str (pe_op op_add_str pe_str (pv 2)) pe_str) (pa_cons (pv 3) pa_nil)))))) pss_nil)
        (pss_cons (ps_set (i := 3) sc__law_reference.nd rfl (.inl rfl) (pe_call (ok__law_one T) (hr.mono (by decide)) (by rfl) T.g__law_one T.f__law_one.kp T.b__law_one .nil pass0 (pa_cons (pv 0) (pa_cons (pe_callTy (call_list_txt rfl) (by rfl) T.z_list (by decide +kernel) (pa_cons pe_str pa_nil)) pa_nil))))
        (pss_cons (ps_set (i := 4) sc__law_reference.nd rfl (.inl rfl) (pe_callB call_ord (by rfl) T.z_ord (by decide +kernel) (pa_cons (pv 3) pa_nil)))
        (pss_cons (ps_if (pt_cmpR op_eq (pv 1) pe_int (nomark _)) (pss_one (ps_ret (pe_tup (pa_cons (pe_op op_add_str (pe_op op_add_str (pe_op op_add_str pe_str (pe_op op_mul_txt pe_str (pe_call (ok__law_draw T) (hr.mono (by decide)) (by rfl) T.g__law_draw T.f__law_draw.kp T.b__law_draw .nil pass0 (pa_cons (pv 0) (pa_cons pe_int pa_nil))))) (pe_callTy call_str_int (by rfl) T.z_str (by decide +kernel) (pa_cons (pv 4) pa_nil))) pe_str) (pa_cons (pv 3) pa_nil))))) pss_nil)
        (pss_cons (ps_if (pt_cmpR op_eq (pv 1) pe_int (nomark _)) (pss_cons (ps_set (i := 5) sc__law_reference.nd rfl (.inl rfl) (pe_call (ok__law_one T) (hr.mono (by decide)) (by rfl) T.g__law_one T.f__law_one.kp T.b__law_one .nil pass0 (pa_cons (pv 0) (pa_cons (pe_lst (pa_cons pe_str (pa_cons pe_str pa_nil))) pa_nil))))
        (pss_cons (ps_set (i := 6) sc__law_reference.nd rfl (.inl rfl) (pe_op op_add_str (pe_ix ix_str (pv 5) (pe_op op_fdivW (pv 4) pe_int) (fun _ _ => rfl)) (pe_ix ix_str (pv 5) (pe_op op_mod (pe_callTy call_int1 (by rfl) T.z_int (by decide +kernel) (pa_cons (pv 4) pa_nil)) pe_int) (fun _ _ => rfl))))
        (pss_one (ps_ret (pe_tup (pa_cons (pe_op op_add_str (pe_op op_add_str (pe_op op_add_str (pe_op op_add_str pe_str (pe_call (ok__law_one T) (hr.mono (by decide)) (by rfl) T.g__law_one T.f__law_one.kp T.b__law_one .nil pass0 (pa_cons (pv 0) (pa_cons (pe_lst (pa_cons pe_str (pa_cons pe_str pa_nil))) pa_nil)))) (pe_op op_mul_txt pe_str (pe_call (ok__law_draw T) (hr.mono (by decide)) (by rfl) T.g__law_draw T.f__law_draw.kp T.b__law_draw .nil pass0 (pa_cons (pv 0) (pa_cons pe_int pa_nil))))) (pv 6)) pe_str) (pa_cons (pv 3) pa_nil))))))) pss_nil)
        (pss_cons (ps_set (i := 7) sc__law_reference.nd rfl (.inl rfl) (pe_lst (pa_cons pe_str (pa_cons pe_str (pa_cons pe_str (pa_cons pe_str (pa_cons pe_str (pa_cons pe_str (pa_cons pe_str (pa_cons pe_str (pa_cons pe_str (pa_cons pe_str (pa_cons pe_str pa_nil)))))))))))))
        (pss_cons (ps_set (i := 7) sc__law_reference.nd rfl (.inl rfl) (pe_op op_cat (pv 7) (pe_lst (pa_cons pe_str (pa_cons pe_str (pa_cons pe_str (pa_cons pe_str (pa_cons pe_str (pa_cons pe_str (pa_cons pe_str (pa_cons pe_str (pa_cons pe_str (pa_cons pe_str pa_nil)))))))))))))
        (pss_cons (ps_set (i := 8) sc__law_reference.nd rfl (.inl rfl) (pe_op op_add_str (pe_call (ok__law_one T) (hr.mono (by decide)) (by rfl) T.g__law_one T.f__law_one.kp T.b__law_one .nil pass0 (pa_cons (pv 0) (pa_cons (pv 7) pa_nil))) pe_str))
        (pss_one (ps_ret (pe_tup (pa_cons (pv 8) (pa_cons (pv 8) pa_nil)))))))))))))), ?_⟩
    refine one_draw 5 (by decide) hW rfl fun H1 d k1 w1 hd => ?_
    refine ⟨_, rfl, _, _, rfl, rfl, _, rfl, ite2 (fun hway => ?_) (fun hway => ?_)⟩
    · refine ⟨_, rfl, rfl, fun H2 a xs s2 na ha hl hm => ?_⟩
      refine one_at (E := E0) (w1.same s2) ha ((w1.ne na)) hm (by intro z; rw [z] at hl; cases hl) (by omega) fun H3 r p k3 w3 hp hr3 => ?_
      obtain ⟨nm, hnm, rfl⟩ := List.mem_map.mp hp
      refine ⟨r, _, rfl, SqT.of hr3, rfl, _, _, rfl, _, _, rfl, rfl, ?_⟩
      obtain ⟨n1, n2⟩ := name45 nm hnm
      have ro := refOk_of n1
      have ln := ro.2.2.2.2.1
      rw [lit_amp45, lit_semi45]
      refine ⟨_, rfl, _, _, rfl, rfl, add45 (n := 100) (by simp; omega), ?_⟩
      rw [S_app]
      refine ⟨_, _, rfl, rfl, add45 (n := 100) (by simp; omega), ?_⟩
      rw [S_app]
      refine ⟨_, rfl, (by show 2 ≤ sizeLine; decide), fun r2 nr2 => ?_⟩
      have et : [38] ++ nm.1 ++ [59] = 38 :: (nm.1 ++ [59]) := by simp
      rw [et]
      exact q _ r2 _ _ (((k1.trans (Keeps.of s2)).trans k3).trans (.new nr2)) (w3.new nr2) upd_same (pc_ref ro n2)
    · rw [lit_sig]
      refine ⟨_, rfl, _, rfl, (by decide), fun l nl => ?_⟩
      refine ⟨L, l, _, rfl, SqL.of upd_same, w1.ne nl, (by intro z; cases z), (by rw [List.length_map, S_tl]; decide), w1.new nl, fun H2 v k2 w2 hv => ?_⟩
      obtain ⟨n, hn, rfl⟩ := List.mem_map.mp hv
      rw [S_tl] at hn
      have kk2 := (k1.trans (.new nl)).trans k2
      have hn128 := sig45 n hn
      have en : (({ cps := #[n] } : Str).cps.getD 0 0) = n := rfl
      refine ⟨_, rfl, _, rfl, rfl, ?_⟩
      rw [en]
      refine ⟨_, rfl, rfl, _, rfl, ite2 (fun hway2 => ?_) (fun hway2 => ?_)⟩
      · rw [lit_dec45, lit_semi45, lit_zero45]
        refine one_draw 4 (by decide) w2 rfl fun H3 z k3 w3 hz => ?_
        have hd1 := dec45 n hn z hz
        have ro := refOk_of hd1
        have ld := ro.2.2.2.2.1
        rw [List.length_cons, List.length_append, List.length_replicate] at ld
        have hlog : ((n : Nat) : Int).natAbs.log2 < 1920 := by
          rw [Int.natAbs_natCast]
          by_cases h0 : n = 0
          · subst h0
            decide
          · exact (Nat.log2_lt h0).mpr (Nat.lt_of_lt_of_le hn128 (by decide +kernel))
        refine ⟨[48], z, rfl, rfl, by decide, by decide, by omega, ?_⟩
        rw [rep45]
        refine ⟨_, _, rfl, rfl, add45 (n := 100) (by rw [List.length_replicate]; simp; omega), ?_⟩
        rw [S_app]
        refine ⟨_, rfl, _, rfl, hlog, ?_⟩
        rw [show Str.ofString (toString ((n : Nat) : Int)) = S (dig45 n) from S_of _]
        refine ⟨_, _, rfl, rfl, add45 (n := 100) (by rw [List.length_append, List.length_replicate]; simp; omega), ?_⟩
        rw [S_app]
        refine ⟨_, _, rfl, rfl, add45 (n := 100) (by rw [List.length_append, List.length_append, List.length_replicate]; simp; omega), ?_⟩
        rw [S_app]
        refine ⟨_, rfl, (by show 2 ≤ sizeLine; decide), fun r2 nr2 => ?_⟩
        have et : [38, 35] ++ List.replicate z 48 ++ dig45 n ++ [59] = 38 :: ((35 :: (List.replicate z 48 ++ dig45 n)) ++ [59]) := by simp
        rw [et]
        exact q _ r2 _ [n] ((kk2.trans k3).trans (.new nr2)) (w3.new nr2) upd_same (pc_ref ro hn128)
      · refine ⟨_, rfl, rfl, _, rfl, ite2 (fun hway3 => ?_) (fun hway3 => ?_)⟩
        · refine one_text [HexL, HexU] hexs45 (by decide) (by decide) w2 rfl fun H3 F k3 w3 hF => ?_
          have hFl : F.length = 16 := by
            simp only [List.mem_cons, List.not_mem_nil, or_false] at hF
            rcases hF with rfl | rfl <;> rfl
          have gd : ∀ j, j < 16 → F[j]? = some (F.getD j 0) := fun j hj => by
            rw [List.getD_eq_getElem?_getD, List.getElem?_eq_getElem (by omega)]
            rfl
          have i1 : atI (F.map fun c => V.str ⟨#[c]⟩) ((n : Int) / 16) = some (V.str ⟨#[F.getD (n / 16) 0]⟩) := by
            rw [show ((n : Int) / 16) = ((n / 16 : Nat) : Int) by omega]
            exact atI_nat (by rw [List.getElem?_map, gd _ (by omega)]; rfl)
          have hl16 : (S F).length ≤ sizeLine := by rw [S_len, hFl]; decide
          refine ⟨_, rfl, _, rfl, _, _, rfl, rfl, wide_div (b := 40) (by decide) (by decide) (by decide) (by decide), S F, (n : Int) / 16, F.getD (n / 16) 0, rfl, rfl, hl16, ?_, ?_⟩
          · rw [show ((n : Int) / 16) = ((n / 16 : Nat) : Int) by omega]
            exact atI_nat (by rw [S_tl]; exact gd _ (by omega))
          refine ⟨_, rfl, _, rfl, .inl ⟨_, rfl, _, _, rfl, rfl, (by show (0 : Int) < _; decide), S F, (n : Int) % 16, F.getD (n % 16) 0, rfl, rfl, hl16, ?_, ?_⟩⟩
          · rw [show ((n : Int) % 16) = ((n % 16 : Nat) : Int) by omega]
            exact atI_nat (by rw [S_tl]; exact gd _ (by omega))
          refine ⟨_, _, rfl, rfl, add45 (a := [F.getD (n / 16) 0]) (b := [F.getD (n % 16) 0]) (n := 10) (by simp), ?_⟩
          rw [show (⟨#[F.getD (n / 16) 0]⟩ : Str) = S [F.getD (n / 16) 0] from rfl, show (⟨#[F.getD (n % 16) 0]⟩ : Str) = S [F.getD (n % 16) 0] from rfl, S_app, lit_dec45, lit_semi45, lit_zero45]
          refine one_text [[120], [88]] exes45 (by decide) (by decide) w3 rfl fun H4 Xs k4 w4 hX => ?_
          obtain ⟨X, hX2, rfl⟩ : ∃ x ∈ [120, 88], Xs = [x] := by
            simp only [List.mem_cons, List.not_mem_nil, or_false] at hX
            rcases hX with rfl | rfl
            · exact ⟨120, by decide, rfl⟩
            · exact ⟨88, by decide, rfl⟩
          refine ⟨_, _, rfl, rfl, add45 (n := 100) (by simp), ?_⟩
          rw [S_app]
          refine one_draw 4 (by decide) w4 rfl fun H5 z k5 w5 hz => ?_
          have ro := refOk_of (hex45 n hn z hz X hX2 F hF)
          refine ⟨[48], z, rfl, rfl, by decide, by decide, by omega, ?_⟩
          rw [rep45]
          refine ⟨_, _, rfl, rfl, add45 (n := 100) (by rw [List.length_replicate]; simp; omega), ?_⟩
          rw [S_app]
          refine ⟨_, rfl, _, _, rfl, rfl, add45 (n := 100) (by rw [List.length_append, List.length_replicate]; simp; omega), ?_⟩
          rw [S_app]
          refine ⟨_, _, rfl, rfl, add45 (n := 100) (by rw [List.length_append, List.length_append, List.length_replicate]; simp; omega), ?_⟩
          rw [S_app]
          refine ⟨_, rfl, (by show 2 ≤ sizeLine; decide), fun r2 nr2 => ?_⟩
          have et : [38, 35] ++ [X] ++ List.replicate z 48 ++ ([F.getD (n / 16) 0] ++ [F.getD (n % 16) 0]) ++ [59] = 38 :: ((35 :: X :: (List.replicate z 48 ++ [F.getD (n / 16) 0, F.getD (n % 16) 0])) ++ [59]) := by simp
          rw [et]
          exact q _ r2 _ [n] ((((kk2.trans k3).trans k4).trans k5).trans (.new nr2)) (w5.new nr2) upd_same (pc_ref ro hn128)
        · refine ⟨(by show 11 ≤ sizeLine; decide), fun a na => ?_⟩
          have ha1 : (upd H2 a (.lst Bad1)) a = some (.lst Bad1) := upd_same
          refine ⟨_, rfl, (by show 10 ≤ sizeLine; decide), fun b nb => ?_⟩
          have nab : a ≠ b := ne_of_none ha1 nb
          refine ⟨a, b, Bad1, Bad2, rfl, rfl, by rw [upd_ne nab]; exact ha1, upd_same, by decide, fun c nc => ?_⟩
          have wa := w2.new (o := .lst Bad1) na
          have wb := wa.new (o := .lst Bad2) nb
          have wc := wb.new (o := .lst (Bad1 ++ Bad2)) nc
          have kc : Keeps L H2 (upd (upd (upd H2 a (.lst Bad1)) b (.lst Bad2)) c (.lst (Bad1 ++ Bad2))) := ((Keeps.new na).trans (.new nb)).trans (.new nc)
          refine ⟨_, rfl, _, rfl, L, c, Bad1 ++ Bad2, rfl, SqL.of upd_same, wb.ne nc, (by intro z; cases z), (by decide), wc, fun H3 v k3 w3 hv => ?_⟩
          rw [bads45] at hv
          obtain ⟨x, hx, rfl⟩ := List.mem_map.mp hv
          have pc := pc_bads hx
          have lx := pc.2.2.1
          rw [List.length_append, List.length_singleton] at lx
          rw [lit_dot45]
          refine ⟨_, _, rfl, rfl, add45 (n := 100) (by simp; omega), ?_⟩
          rw [S_app]
          exact ⟨_, rfl, _, rfl, (by show 2 ≤ sizeLine; decide), fun r2 nr2 => q _ r2 _ _ (((kk2.trans kc).trans k3).trans (.new nr2)) (w3.new nr2) upd_same pc⟩

theorem lit_bs45 : ("\\" : Str) = S [92] := by decide +kernel
theorem marks_pun : ∀ c ∈ MarksL, PunL.contains c = true := by decide
def BackL : List (List Nat) := [[97], [55], [122], [32, 98]]
theorem backs45 : ([.str "a", .str "7", .str "z", .str " b"] : List V) = BackL.map fun s => V.str (S s) := by decide +kernel
def PlainL : List (List Nat) := [[97], [98], [99, 32, 100], [55], [101, 9, 102], [46], [120, 32, 32, 121]]
theorem plains45 : ([.str "a", .str "b", .str "c d", .str "7", .str "e\tf", .str ".", .str "x  y"] : List V) = PlainL.map fun s => V.str (S s) := by decide +kernel
def okBack (b : List Nat) : Bool := match b with
  | c :: r => blkB (c :: r) && decide (r.length ≤ 30) && (c :: r).all (fun c => decide (c < 128)) && !PunL.contains c && decide (c ≠ 10)
  | [] => false
theorem back_ok : ∀ b ∈ BackL, okBack b = true := by decide
theorem pc_backs {b : List Nat} (h : b ∈ BackL) : PcJ (92 :: b) (92 :: b) := by
  have h2 := back_ok b h
  cases b with
  | nil => cases h2
  | cons c r =>
    replace h2 : (blkB (c :: r) && decide (r.length ≤ 30) && (c :: r).all (fun c => decide (c < 128)) && !PunL.contains c && decide (c ≠ 10)) = true := h2
    rw [Bool.and_eq_true, Bool.and_eq_true, Bool.and_eq_true, Bool.and_eq_true, List.all_eq_true] at h2
    exact pc_back (blk_of h2.1.1.1.1) (of_decide_eq_true h2.1.1.1.2) (fun x hx => of_decide_eq_true (h2.1.1.2 x hx)) (by simpa using h2.1.2) (of_decide_eq_true h2.2)
theorem plain_ok : ∀ b ∈ PlainL, blkB b = true ∧ b.length ≤ 40 ∧ ∀ c ∈ b, c < 128 := by decide
def sp__law_piece (K : PySem.W.Frag) : Sp := fun vs H Q _ => ∃ L : Addr, vs = [.ref L] ∧ Well3 H L ∧
  ∀ H' r x m, Keeps L H H' → Well3 H' L → H' r = some (.tup [.str (S x), .str (S m)]) → PcJ x m → Q (.ref r) H'
theorem ok__law_piece {P : Program} {w : World} {K : PySem.W.Frag} {mg : Str → Option Value} {base : Heap} (T : Txt w K mg) : FnOk P w K mg base CX0 4 T.a__law_piece T.d__law_piece ["_law_well"] (sp__law_piece K) := by
  refine T.f__law_piece.ok sc__law_piece (fun vs H Q E h => ?_) (fun cdv A outer s H vs Q E hr h => ?_)
  · obtain ⟨L, rfl, _⟩ := h
    rfl
  · obtain ⟨L, rfl, hW, q⟩ := h
    refine ⟨_, (pss_cons (ps_set (i := 1) sc__law_piece.nd rfl (.inl rfl) (pe_call (ok__law_draw T) (hr.mono (by decide)) (by rfl) T.g__law_draw T.f__law_draw.kp T.b__law_draw .nil pass0 (pa_cons (pv 0) (pa_cons pe_int pa_nil))))
        (pss_cons (ps_if (pt_cmpR op_eq (pv 1) pe_int (nomark _)) (pss_cons (ps_set (i := 2) sc__law_piece.nd rfl (.inl rfl) (pe_call (ok__law_one T) (hr.mono (by decide)) (by rfl) T.g__law_one T.f__law_one.kp T.b__law_one .nil pass0 (pa_cons (pv 0) (pa_cons (pe_callTy (call_list_txt rfl) (by rfl) T.z_list (by decide +kernel) (pa_cons (pe_call0 (ok__law_marks T) (hr.mono (by decide)) (by rfl) T.g__law_marks T.f__law_marks.kp T.b__law_marks .nil pass0) pa_nil)) pa_nil))))
        (pss_one (ps_ret (pe_tup (pa_cons (pe_op op_add_str pe_str (pv 2)) (pa_cons (pv 2) pa_nil)))))) pss_nil)
        (pss_cons (ps_if (pt_cmpR op_eq (pv 1) pe_int (nomark _)) (pss_cons (ps_set (i := 2) sc__law_piece.nd rfl (.inl rfl) (pe_call (ok__law_one T) (hr.mono (by decide)) (by rfl) T.g__law_one T.f__law_one.kp T.b__law_one .nil pass0 (pa_cons (pv 0) (pa_cons (pe_lst (pa_cons pe_str (pa_cons pe_str (pa_cons pe_str (pa_cons pe_str pa_nil))))) pa_nil))))
        (pss_one (ps_ret (pe_tup (pa_cons (pe_op op_add_str pe_str (pv 2)) (pa_cons (pe_op op_add_str pe_str (pv 2)) pa_nil)))))) pss_nil)
        (pss_cons (ps_if (pt_cmpR op_lt (pv 1) pe_int (nomark _)) (pss_one (ps_ret (pe_call (ok__law_reference T) (hr.mono (by decide)) (by rfl) T.g__law_reference T.f__law_reference.kp T.b__law_reference .nil pass0 (pa_cons (pv 0) pa_nil)))) pss_nil)
        (pss_cons (ps_set (i := 3) sc__law_piece.nd rfl (.inl rfl) (pe_call (ok__law_one T) (hr.mono (by decide)) (by rfl) T.g__law_one T.f__law_one.kp T.b__law_one .nil pass0 (pa_cons (pv 0) (pa_cons (pe_lst (pa_cons pe_str (pa_cons pe_str (pa_cons pe_str (pa_cons pe_str (pa_cons pe_str (pa_cons pe_str (pa_cons pe_str pa_nil)))))))) pa_nil))))
        (pss_one (ps_ret (pe_tup (pa_cons (pv 3) (pa_cons (pv 3) pa_nil)))))))))), ?_⟩
    refine one_draw 7 (by decide) hW rfl fun H1 d k1 w1 hd => ?_
    refine ⟨_, rfl, rfl, _, rfl, ite2 (fun hway => ?_) (fun hway => ?_)⟩
    · refine ⟨_, rfl, rfl, _, rfl, (by rw [S_size]; decide), fun l nl => ?_⟩
      rw [S_tl]
      refine ⟨L, l, _, rfl, SqL.of upd_same, w1.ne nl, (by intro z; cases z), (by rw [List.length_map]; decide), w1.new nl, fun H2 v k2 w2 hv => ?_⟩
      obtain ⟨n, hn, rfl⟩ := List.mem_map.mp hv
      rw [lit_bs45]
      refine ⟨_, rfl, _, _, rfl, rfl, add45 (a := [92]) (b := [n]) (n := 10) (by simp), ?_⟩
      rw [show (⟨#[n]⟩ : Str) = S [n] from rfl, S_app]
      exact ⟨_, rfl, (by show 2 ≤ sizeLine; decide), fun r nr => q _ r [92, n] [n] (((k1.trans (.new nl)).trans k2).trans (.new nr)) (w2.new nr) upd_same (pc_esc (marks_pun n hn))⟩
    · refine ⟨_, rfl, rfl, _, rfl, ite2 (fun hway2 => ?_) (fun hway2 => ?_)⟩
      · refine one_text BackL backs45 (by decide) (by decide) w1 rfl fun H2 b k2 w2 hb => ?_
        have pc := pc_backs hb
        have lx := pc.2.2.1
        rw [List.length_cons] at lx
        rw [lit_bs45]
        refine ⟨_, rfl, _, _, rfl, rfl, add45 (n := 100) (by simp; omega), ?_⟩
        rw [S_app]
        refine ⟨_, rfl, _, _, rfl, rfl, add45 (n := 100) (by simp; omega), ?_⟩
        rw [S_app]
        exact ⟨(by show 2 ≤ sizeLine; decide), fun r nr => q _ r (92 :: b) (92 :: b) ((k1.trans k2).trans (.new nr)) (w2.new nr) upd_same pc⟩
      · refine ⟨_, rfl, _, _, rfl, rfl, _, rfl, ite2 (fun hway3 => ?_) (fun hway3 => ?_)⟩
        · exact ⟨_, rfl, L, rfl, w1, fun H' r x m k w hr pc => q H' r x m (k1.trans k) w hr pc⟩
        · refine one_text PlainL plains45 (by decide) (by decide) w1 rfl fun H2 b k2 w2 hb => ?_
          obtain ⟨p1, p2, p3⟩ := plain_ok b hb
          exact ⟨_, rfl, _, rfl, (by show 2 ≤ sizeLine; decide), fun r nr => q _ r b b ((k1.trans k2).trans (.new nr)) (w2.new nr) upd_same (pc_blk (blk_of p1) p2 p3)⟩
/-! ### breaks -/
def BrkM : List (List Nat × Inl) := [([10], .soft), ([32, 10], .soft), ([32, 32, 10], .hard), ([32, 32, 32, 32, 10], .hard), ([9, 10], .soft), ([32, 32, 9, 10], .soft)]
def BrkN : List (List Nat × Inl) := [([9, 32, 32, 10], .hard), ([92, 10], .hard), ([32, 9, 32, 10], .soft)]
def brkV (q : List Nat × Inl) : List V := [.str (S q.1), .str (nameI q.2)]
def BM1 : List (List V) := [[.str "\n", .str "soft"], [.str " \n", .str "soft"], [.str "  \n", .str "hard"], [.str "    \n", .str "hard"], [.str "\t\n", .str "soft"], [.str "  \t\n", .str "soft"]]
def BM2 : List (List V) := [[.str "\t  \n", .str "hard"], [.str "\\\n", .str "hard"], [.str " \t \n", .str "soft"]]
theorem bm_eq : BM1 ++ BM2 = (BrkM ++ BrkN).map brkV := by decide +kernel
theorem bm1_ok : MsOk BM1 := by decide +kernel
theorem bm2_ok : MsOk BM2 := by decide +kernel
def AftL : List (List Nat) := [[], [], [32], [32, 32], [9], [32, 9, 32]]
theorem afts45 : ([.str "", .str "", .str " ", .str "  ", .str "\t", .str " \t "] : List V) = AftL.map fun s => V.str (S s) := by decide +kernel
theorem aft_ok : ∀ a ∈ AftL, (∀ c ∈ a, WhL.contains c = true) ∧ a.length ≤ 3 := by decide
theorem brk_ok : ∀ q ∈ BrkM ++ BrkN, (q.1 = [92, 10] ∧ q.2 = .hard) ∨ (q.1 = q.1.dropLast ++ [10] ∧ (∀ c ∈ q.1.dropLast, WhL.contains c = true) ∧ (if hardW q.1.dropLast = true then Inl.hard else .soft) = q.2 ∧ q.1.length ≤ 6) := by
  intro q hq
  simp only [BrkM, BrkN, List.cons_append, List.nil_append, List.mem_cons, List.not_mem_nil, or_false] at hq
  rcases hq with rfl | rfl | rfl | rfl | rfl | rfl | rfl | rfl | rfl <;> first | exact .inl ⟨rfl, rfl⟩ | exact .inr ⟨rfl, by decide, rfl, by decide⟩
theorem brk_j {q : List Nat × Inl} {a : List Nat} (hq : q ∈ BrkM ++ BrkN) (ha : a ∈ AftL) : BrkJ (q.1 ++ a) q.2 := by
  obtain ⟨a1, a2⟩ := aft_ok a ha
  rcases brk_ok q hq with ⟨h1, h2⟩ | ⟨h1, h2, h3, h4⟩
  · rw [h1, h2]
    exact bk_bs a1 (by show a.length + 2 ≤ 40; omega)
  · have e : q.1 ++ a = q.1.dropLast ++ 10 :: a := by
      conv => lhs; rw [h1]
      simp
    have l := congrArg List.length e
    rw [List.length_append] at l
    rw [← h3, e]
    exact bk_ws h2 a1 (by rw [← l]; omega)
theorem brk_small : ∀ q ∈ BrkM ++ BrkN, q.1.length ≤ 6 := by
  intro q hq
  simp only [BrkM, BrkN, List.cons_append, List.nil_append, List.mem_cons, List.not_mem_nil, or_false] at hq
  rcases hq with rfl | rfl | rfl | rfl | rfl | rfl | rfl | rfl | rfl <;> decide
theorem brk_name : ∀ q ∈ BrkM ++ BrkN, q.2 = .hard ∨ q.2 = .soft := by
  intro q hq
  simp only [BrkM, BrkN, List.cons_append, List.nil_append, List.mem_cons, List.not_mem_nil, or_false] at hq
  rcases hq with rfl | rfl | rfl | rfl | rfl | rfl | rfl | rfl | rfl <;> first | exact .inl rfl | exact .inr rfl
def sp__law_break (K : PySem.W.Frag) : Sp := fun vs H Q _ => ∃ L : Addr, vs = [.ref L] ∧ Well3 H L ∧
  ∀ H' r x b, Keeps L H H' → Well3 H' L → H' r = some (.tup [.str (S x), .str (nameI b)]) → (b = .hard ∨ b = .soft) → BrkJ x b → Q (.ref r) H'
theorem ok__law_break {P : Program} {w : World} {K : PySem.W.Frag} {mg : Str → Option Value} {base : Heap} (T : Txt w K mg) : FnOk P w K mg base CX0 3 T.a__law_break T.d__law_break ["_law_well"] (sp__law_break K) := by
  refine T.f__law_break.ok sc__law_break (fun vs H Q E h => ?_) (fun cdv A outer s H vs Q E hr h => ?_)
  · obtain ⟨L, rfl, _⟩ := h
    rfl
  · obtain ⟨L, rfl, hW, q⟩ := h
    refine ⟨_, (pss_cons (ps_set (i := 1) sc__law_break.nd rfl (.inl rfl) (pe_lst (pa_cons (pe_tup (pa_cons pe_str (pa_cons pe_str pa_nil))) (pa_cons (pe_tup (pa_cons pe_str (pa_cons pe_str pa_nil))) (pa_cons (pe_tup (pa_cons pe_str (pa_cons pe_str pa_nil))) (pa_cons (pe_tup (pa_cons pe_str (pa_cons pe_str pa_nil))) (pa_cons (pe_tup (pa_cons pe_str (pa_cons pe_str pa_nil))) (pa_cons (pe_tup (pa_cons pe_str (pa_cons pe_str pa_nil))) pa_nil))))))))
        (pss_cons (ps_asg (pe_call (ok__law_one T) (hr.mono (by decide)) (by rfl) T.g__law_one T.f__law_one.kp T.b__law_one .nil pass0 (pa_cons (pv 0) (pa_cons (pe_op op_cat (pv 1) (pe_lst (pa_cons (pe_tup (pa_cons pe_str (pa_cons pe_str pa_nil))) (pa_cons (pe_tup (pa_cons pe_str (pa_cons pe_str pa_nil))) (pa_cons (pe_tup (pa_cons pe_str (pa_cons pe_str pa_nil))) pa_nil))))) pa_nil))) (pg_tup (by rfl) (pgs_cons (pg_name (i := 2) sc__law_break.nd rfl (.inl rfl)) (pgs_cons (pg_name (i := 3) sc__law_break.nd rfl (.inl rfl)) pgs_nil))))
        (pss_one (ps_ret (pe_tup (pa_cons (pe_op op_add_str (pv 2) (pe_call (ok__law_one T) (hr.mono (by decide)) (by rfl) T.g__law_one T.f__law_one.kp T.b__law_one .nil pass0 (pa_cons (pv 0) (pa_cons (pe_lst (pa_cons pe_str (pa_cons pe_str (pa_cons pe_str (pa_cons pe_str (pa_cons pe_str (pa_cons pe_str pa_nil))))))) pa_nil)))) (pa_cons (pv 3) pa_nil))))))), ?_⟩
    unfold tSeq tAsg
    dsimp only
    refine menu_list BM1 bm1_ok _ _ _ fun H1 a xs s1 ha na hm hl => ?_
    refine one_cat BM2 bm2_ok (hW.same s1) rfl rfl ha hm (by intro z; rw [z] at hl; cases hl) (by rw [hl]; decide) fun H2 r p k2 w2 hp hr2 => ?_
    rw [bm_eq] at hp
    obtain ⟨bq, hbq, rfl⟩ := List.mem_map.mp hp
    refine ⟨r, _, rfl, SqT.of hr2, rfl, _, _, rfl, _, _, rfl, rfl, ?_⟩
    refine ⟨_, rfl, one_text AftL afts45 (by decide) (by decide) w2 rfl fun H3 af k3 w3 haf => ?_⟩
    have b1 := brk_small bq hbq
    have b2 := (aft_ok af haf).2
    refine ⟨_, _, rfl, rfl, add45 (n := 100) (by omega), ?_⟩
    rw [S_app]
    exact ⟨_, rfl, (by show 2 ≤ sizeLine; decide), fun r2 nr2 => q _ r2 _ bq.2 ((((Keeps.of s1).trans k2).trans k3).trans (.new nr2)) (w3.new nr2) upd_same (brk_name bq hbq) (brk_j hbq haf)⟩

/-! ### data read off expressions -/
theorem same_refl {H : Hp} : Same H H := fun _ _ e => e
def DR (K : PySem.W.Frag) (G : Hp) (σ : L2.St) (te : TE) (d : PyData) : Prop := ∀ H Q, Same G H → (∀ v H', Same H H' → Dp K H' v d → Q v H') → te σ H Q
def DRs (K : PySem.W.Frag) (G : Hp) (σ : L2.St) (t : TA) (ds : List PyData) : Prop := ∀ H Q, Same G H → (∀ vs H', Same H H' → DpAll K H' vs ds → Q vs H') → t σ H Q
section
variable {K : PySem.W.Frag} {G : Hp} {σ : L2.St} {te ta tb : TE} {t : TA} {d : PyData} {ds es : List PyData}
theorem dr_str {x : Str} : DR K G σ (tC (.str x)) (.str x) := fun _ _ _ q => q _ _ same_refl (.str x)
theorem dr_int {i : Int} : DR K G σ (tC (.int i)) (.int i) := fun _ _ _ q => q _ _ same_refl (.int i)
theorem dr_bl {b : Bool} : DR K G σ (tC (.bl b)) (.bool b) := fun _ _ _ q => q _ _ same_refl (.bl b)
theorem dr_non : DR K G σ (tC .non) .none := fun _ _ _ q => q _ _ same_refl .non
theorem dr_var {i : Nat} {v : V} (hs : σ[i]? = some (some v)) (h : Dp K G v d) : DR K G σ (tVar i) d := fun _ _ s q => ⟨v, hs, q _ _ same_refl (dp_same s h)⟩
theorem drs_nil : DRs K G σ tNil [] := fun _ _ _ q => q _ _ same_refl .nil
theorem drs_cons (h : DR K G σ te d) (r : DRs K G σ t ds) : DRs K G σ (tCons te t) (d :: ds) := fun H Q s q => h H _ s fun v H1 s1 hv => r H1 _ (s.trans s1) fun vs H2 s2 hvs => q _ _ (s1.trans s2) (.cons (dp_same s2 hv) hvs)
theorem dr_tup (h : DRs K G σ t ds) (n : ds.length ≤ 1000) : DR K G σ (tTup t) (.tuple ds) := fun H Q s q => h H _ s fun vs H1 s1 hvs => ⟨by rw [(dpAll_all2 hvs).1, sizeLine_eq]; omega, fun p np => q _ _ (s1.trans (same_new np)) (.tup (SqT.of upd_same) (dpAll_same (same_new np) hvs))⟩
theorem dr_lst (h : DRs K G σ t ds) (n : ds.length ≤ 1000) : DR K G σ (tLst t) (.list ds) := fun H Q s q => h H _ s fun vs H1 s1 hvs => ⟨by rw [(dpAll_all2 hvs).1, sizeLine_eq]; omega, fun p np => q _ _ (s1.trans (same_new np)) (.lst (SqL.of upd_same) (dpAll_same (same_new np) hvs))⟩
end
section
variable {K : PySem.W.Frag} {G : Hp} {t : TA} {ds : List PyData} {g : TG} {u : TS} {D : Ends} {σ : L2.St} {H : Hp}
theorem asg_drs (h : DRs K G σ t ds) (s : Same G H) (n : ds.length ≤ 1000) (k : ∀ vs H' l, Same H H' → H l = none → H' l = some (.lst vs) → DpAll K H' vs ds → g (.ref l) σ H' (u D)) : tSeq (tAsg (tLst t) g) u D σ H :=
  h H _ s fun vs H1 s1 d1 => ⟨by rw [(dpAll_all2 d1).1, sizeLine_eq]; omega, fun l nl => k vs _ l (s1.trans (same_new nl)) (by
    cases e : H l with
    | none => rfl
    | some o => rw [s1 _ _ e] at nl; cases nl) upd_same (dpAll_same (same_new nl) d1)⟩
theorem asg_drs_g {i : Nat} {x : V} (h : DRs K G (σ.set i (some x)) t ds) (s : Same G H) (n : ds.length ≤ 1000) (k : ∀ vs H' l, Same H H' → H l = none → H' l = some (.lst vs) → DpAll K H' vs ds → g (.ref l) (σ.set i (some x)) H' (u D)) : gName i x σ H { D with nx := tSeq (tAsg (tLst t) g) u D }.nx := asg_drs h s n k
theorem asg_cat {j : Nat} {a : Addr} {xs : List V} {es : List PyData} (hj : σ[j]? = some (some (.ref a))) (ha : H a = some (.lst xs)) (dx : DpAll K H xs es) (h : DRs K G σ t ds) (s : Same G H) (n : ds.length + es.length ≤ 1000) (k : ∀ vs H' l, Same H H' → H l = none → H' l = some (.lst vs) → DpAll K H' vs (es ++ ds) → g (.ref l) σ H' (u D)) : tSeq (tAsg (tOp rCat (tVar j) (tLst t)) g) u D σ H :=
  ⟨_, hj, h H _ s fun vs H1 s1 d1 => ⟨by rw [(dpAll_all2 d1).1, sizeLine_eq]; omega, fun b nb => by
    have ha2 := (same_new (o := .lst vs) nb) _ _ (s1 _ _ ha)
    refine ⟨a, b, xs, vs, rfl, rfl, ha2, upd_same, by rw [(dpAll_all2 d1).1, (dpAll_all2 dx).1, sizeLine_eq]; omega, fun c nc => ?_⟩
    have s2 := (s1.trans (same_new (o := .lst vs) nb)).trans (same_new (o := .lst (xs ++ vs)) nc)
    refine k (xs ++ vs) _ c s2 ?_ upd_same (dpAll_app (dpAll_same s2 dx) (dpAll_same ((same_new nb).trans (same_new nc)) d1))
    cases e : H c with
    | none => rfl
    | some o => rw [((s1.trans (same_new (o := .lst vs) nb))) _ _ e] at nc; cases nc⟩⟩
theorem asg_cat_g {i : Nat} {x : V} {j : Nat} {a : Addr} {xs : List V} {es : List PyData} (hj : (σ.set i (some x))[j]? = some (some (.ref a))) (ha : H a = some (.lst xs)) (dx : DpAll K H xs es) (h : DRs K G (σ.set i (some x)) t ds) (s : Same G H) (n : ds.length + es.length ≤ 1000) (k : ∀ vs H' l, Same H H' → H l = none → H' l = some (.lst vs) → DpAll K H' vs (es ++ ds) → g (.ref l) (σ.set i (some x)) H' (u D)) : gName i x σ H { D with nx := tSeq (tAsg (tOp rCat (tVar j) (tLst t)) g) u D }.nx := asg_cat hj ha dx h s n k
end

/-! ### texts with white at their ends -/
def aI : Inl := .text [97]
def bI : Inl := .text [98]
def E1 : List (Str × List Inl) := [(" a ", [.text [32, 97, 32]]), ("a\n\nb", [aI, .soft, .soft, bI]), ("a\n", [aI, .soft]), ("\n", [.soft])]
def E2 : List (Str × List Inl) := [("a\n\n\n b", [aI, .soft, .soft, .soft, bI]), ("\na", [.soft, aI]), ("a  \n", [aI, .hard])]
def E3 : List (Str × List Inl) := [("a\\\n\nb", [aI, .hard, .soft, bI]), ("", []), ("\ta\t", [.text [9, 97, 9]])]
def EndsE : List (Str × List Inl) := E1 ++ E2 ++ E3
theorem ends_rd : ∀ q ∈ EndsE, ∃ ps, Rd q.1.cps.toList 0 0 ps ∧ jnR [] ps = q.2 := by
  intro q hq
  simp only [EndsE, E1, E2, E3, List.cons_append, List.nil_append, List.mem_cons, List.not_mem_nil, or_false] at hq
  rcases hq with rfl | rfl | rfl | rfl | rfl | rfl | rfl | rfl | rfl | rfl
  · exact ⟨_, goO_ok 20 (ps := [.text [32, 97, 32]]) (by kernel_rfl), rfl⟩
  · exact ⟨_, goO_ok 20 (ps := [aI, .soft, .soft, bI]) (by kernel_rfl), rfl⟩
  · exact ⟨_, goO_ok 20 (ps := [aI, .soft]) (by kernel_rfl), rfl⟩
  · exact ⟨_, goO_ok 20 (ps := [.soft]) (by kernel_rfl), rfl⟩
  · exact ⟨_, goO_ok 20 (ps := [aI, .soft, .soft, .soft, bI]) (by kernel_rfl), rfl⟩
  · exact ⟨_, goO_ok 20 (ps := [.soft, aI]) (by kernel_rfl), rfl⟩
  · exact ⟨_, goO_ok 20 (ps := [aI, .hard]) (by kernel_rfl), rfl⟩
  · exact ⟨_, goO_ok 20 (ps := [aI, .hard, .soft, bI]) (by kernel_rfl), rfl⟩
  · exact ⟨_, goO_ok 20 (ps := []) (by kernel_rfl), rfl⟩
  · exact ⟨_, goO_ok 20 (ps := [.text [9, 97, 9]]) (by kernel_rfl), rfl⟩
theorem ends_asc : ∀ q ∈ EndsE, q.1.cps.toList.length ≤ 30 ∧ ∀ c ∈ q.1.cps.toList, c < 128 := by
  intro q hq
  simp only [EndsE, E1, E2, E3, List.cons_append, List.nil_append, List.mem_cons, List.not_mem_nil, or_false] at hq
  rcases hq with rfl | rfl | rfl | rfl | rfl | rfl | rfl | rfl | rfl | rfl <;> decide +kernel
def endD (q : Str × List Inl) : PyData := .tuple [.str q.1, .tuple (rowD q.2)]
def tA : PyData := .tuple [.str "text", .str "a"]
def tB45 : PyData := .tuple [.str "text", .str "b"]
def tS45 : PyData := .tuple [.str "soft"]
def tH45 : PyData := .tuple [.str "hard"]
theorem e1_data : ([.tuple [.str " a ", .tuple [.tuple [.str "text", .str " a "]]], .tuple [.str "a\n\nb", .tuple [tA, tS45, tS45, tB45]], .tuple [.str "a\n", .tuple [tA, tS45]], .tuple [.str "\n", .tuple [tS45]]] : List PyData) = E1.map endD := by kernel_rfl
theorem e2_data : ([.tuple [.str "a\n\n\n b", .tuple [tA, tS45, tS45, tS45, tB45]], .tuple [.str "\na", .tuple [tS45, tA]], .tuple [.str "a  \n", .tuple [tA, tH45]]] : List PyData) = E2.map endD := by kernel_rfl
theorem e3_data : ([.tuple [.str "a\\\n\nb", .tuple [tA, tH45, tS45, tB45]], .tuple [.str "", .tuple []], .tuple [.str "\ta\t", .tuple [.tuple [.str "text", .str "\ta\t"]]]] : List PyData) = E3.map endD := by kernel_rfl
theorem noList_rows : ∀ l : List (Str × List Inl), noListAll (l.map fun q => PyData.tuple (rowD q.2)) = true
  | [] => rfl
  | q :: l => by
    show (noListAll (rowD q.2) && noListAll (l.map fun q => PyData.tuple (rowD q.2))) = true
    rw [noList_row, noList_rows l]
    rfl
theorem ends_shaped : SeqAt.shaped (.list (EndsE.map fun q => PyData.tuple (rowD q.2))) = true := by decide +kernel
theorem ends_eqv : PyData.eqv (.list (EndsE.map fun q => PyData.tuple (rowD q.2))) (.list (EndsE.map fun q => PyData.tuple (rowD q.2))) = true := by decide +kernel
def sp__law_ends_right (_ : PySem.W.Frag) : Sp := fun vs H Q _ => vs = [] ∧ ∀ H', Same H H' → Q (.bl true) H'
theorem ok__law_ends_right {P : Program} {w : World} {K : PySem.W.Frag} {mg : Str → Option Value} {base : Heap} (T : Txt w K mg) : FnOk P w K mg base CX0 8 T.a__law_ends_right T.d__law_ends_right [] (sp__law_ends_right K) := by
  refine T.f__law_ends_right.ok sc__law_ends_right (fun vs H Q E h => ?_) (fun cdv A outer s H vs Q E hr h => ?_)
  · obtain ⟨rfl, _⟩ := h
    rfl
  · obtain ⟨rfl, q⟩ := h
    refine ⟨_, (pss_cons (ps_asg (pe_tup (pa_cons (pe_tup (pa_cons pe_str (pa_cons pe_str pa_nil))) (pa_cons (pe_tup (pa_cons pe_str (pa_cons pe_str pa_nil))) (pa_cons (pe_tup (pa_cons pe_str pa_nil)) pa_nil)))) (pg_tup (by rfl) (pgs_cons (pg_name (i := 0) sc__law_ends_right.nd rfl (.inl rfl)) (pgs_cons (pg_name (i := 1) sc__law_ends_right.nd rfl (.inl rfl)) (pgs_cons (pg_name (i := 2) sc__law_ends_right.nd rfl (.inl rfl)) pgs_nil)))))
        (pss_cons (ps_set (i := 3) sc__law_ends_right.nd rfl (.inl rfl) (pe_lst (pa_cons (pe_tup (pa_cons pe_str (pa_cons (pe_tup (pa_cons (pe_tup (pa_cons pe_str (pa_cons pe_str pa_nil))) pa_nil)) pa_nil))) (pa_cons (pe_tup (pa_cons pe_str (pa_cons (pe_tup (pa_cons (pv 0) (pa_cons (pv 2) (pa_cons (pv 2) (pa_cons (pv 1) pa_nil))))) pa_nil))) (pa_cons (pe_tup (pa_cons pe_str (pa_cons (pe_tup (pa_cons (pv 0) (pa_cons (pv 2) pa_nil))) pa_nil))) (pa_cons (pe_tup (pa_cons pe_str (pa_cons (pe_tup (pa_cons (pv 2) pa_nil)) pa_nil))) pa_nil))))))
        (pss_cons (ps_set (i := 3) sc__law_ends_right.nd rfl (.inl rfl) (pe_op op_cat (pv 3) (pe_lst (pa_cons (pe_tup (pa_cons pe_str (pa_cons (pe_tup (pa_cons (pv 0) (pa_cons (pv 2) (pa_cons (pv 2) (pa_cons (pv 2) (pa_cons (pv 1) pa_nil)))))) pa_nil))) (pa_cons (pe_tup (pa_cons pe_str (pa_cons (pe_tup (pa_cons (pv 2) (pa_cons (pv 0) pa_nil))) pa_nil))) (pa_cons (pe_tup (pa_cons pe_str (pa_cons (pe_tup (pa_cons (pv 0) (pa_cons (pe_tup (pa_cons pe_str pa_nil)) pa_nil))) pa_nil))) pa_nil))))))
        (pss_cons (ps_set (i := 3) sc__law_ends_right.nd rfl (.inl rfl) (pe_op op_cat (pv 3) (pe_lst (pa_cons (pe_tup (pa_cons pe_str (pa_cons (pe_tup (pa_cons (pv 0) (pa_cons (pe_tup (pa_cons pe_str pa_nil)) (pa_cons (pv 2) (pa_cons (pv 1) pa_nil))))) pa_nil))) (pa_cons (pe_tup (pa_cons pe_str (pa_cons (pe_tup pa_nil) pa_nil))) (pa_cons (pe_tup (pa_cons pe_str (pa_cons (pe_tup (pa_cons (pe_tup (pa_cons pe_str (pa_cons pe_str pa_nil))) pa_nil)) pa_nil))) pa_nil))))))
        (pss_one (ps_ret (pe_cmpR (op_eqD hr.units) (pe_lc (own := [("_law_text", 4), ("_law_due", 5)]) (g := (gTup K 2 (gCons (gName 4) (gCons (gName 5) gNil)))) (tt := tYes) (by rfl) sc__law_ends_right.nd (pi_list (pv 3)) (blkOk_by (own := [("_law_text", 4), ("_law_due", 5)]) (N := ["_law_a", "_law_b", "_law_soft", "_law_rows", "_law_text", "_law_due"]) (sc := defScope s__law_ends_right) (by decide +kernel)) (fun _ _ _ _ _ => (pg_tup (by rfl) (pgs_cons (pg_name (i := 4) sc__law_ends_right.nd rfl (.inl rfl)) (pgs_cons (pg_name (i := 5) sc__law_ends_right.nd rfl (.inl rfl)) pgs_nil)))) (fun _ _ _ _ _ => pts_nil) (fun _ _ _ _ _ => (pe_call (ok_inlines T) (hr.mono (by decide)) (by rfl) T.g_inlines T.f_inlines.kp T.bd_inlines (.cons (show RelV V.non Value.none from rfl) .nil) pass0 (pa_cons (pv 4) pa_nil)))) (pe_lc (own := [("_law_text", 4), ("_law_due", 5)]) (g := (gTup K 2 (gCons (gName 4) (gCons (gName 5) gNil)))) (tt := tYes) (by rfl) sc__law_ends_right.nd (pi_list (pv 3)) (blkOk_by (own := [("_law_text", 4), ("_law_due", 5)]) (N := ["_law_a", "_law_b", "_law_soft", "_law_rows", "_law_text", "_law_due"]) (sc := defScope s__law_ends_right) (by decide +kernel)) (fun _ _ _ _ _ => (pg_tup (by rfl) (pgs_cons (pg_name (i := 4) sc__law_ends_right.nd rfl (.inl rfl)) (pgs_cons (pg_name (i := 5) sc__law_ends_right.nd rfl (.inl rfl)) pgs_nil)))) (fun _ _ _ _ _ => pts_nil) (fun _ _ _ _ _ => (pv 5))) (nomark _)))))))), ?_⟩
    refine ⟨(by show 2 ≤ sizeLine; decide), fun pa npa => ⟨(by show 2 ≤ sizeLine; decide), fun pb npb => ⟨(by show 1 ≤ sizeLine; decide), fun pc npc => ⟨(by show 3 ≤ sizeLine; decide), fun pt npt => ?_⟩⟩⟩⟩
    obtain ⟨H4, hH4⟩ : ∃ X, X = upd (upd (upd (upd H pa (.tup [.str "text", .str "a"])) pb (.tup [.str "text", .str "b"])) pc (.tup [.str "soft"])) pt (.tup [.ref pa, .ref pb, .ref pc]) := ⟨_, rfl⟩
    have s1 : Same H H4 := by
      rw [hH4]
      exact (same_new npa).trans ((same_new npb).trans ((same_new npc).trans (same_new npt)))
    have ha : H4 pa = some (.tup [.str "text", .str "a"]) := by
      rw [hH4]
      exact (same_new npb).trans ((same_new npc).trans (same_new npt)) _ _ upd_same
    have hb : H4 pb = some (.tup [.str "text", .str "b"]) := by
      rw [hH4]
      exact (same_new npc).trans (same_new npt) _ _ upd_same
    have hc : H4 pc = some (.tup [.str "soft"]) := by
      rw [hH4]
      exact same_new npt _ _ upd_same
    have ht : H4 pt = some (.tup [.ref pa, .ref pb, .ref pc]) := by
      rw [hH4]
      exact upd_same
    rw [← hH4]
    clear hH4 npa npb npc npt
    have da : Dp K H4 (.ref pa) tA := .tup (SqT.of ha) (.cons (.str _) (.cons (.str _) .nil))
    have db : Dp K H4 (.ref pb) tB45 := .tup (SqT.of hb) (.cons (.str _) (.cons (.str _) .nil))
    have dc : Dp K H4 (.ref pc) tS45 := .tup (SqT.of hc) (.cons (.str _) .nil)
    have hd : ∀ {σ : L2.St}, DR K H4 σ (tTup (tCons (tC (.str "hard")) tNil)) tH45 := fun {σ} => dr_tup (drs_cons dr_str drs_nil) (by decide)
    refine ⟨pt, _, rfl, SqT.of ht, rfl, _, _, rfl, _, _, rfl, _, _, rfl, rfl, ?_⟩
    have r1 : ∀ σ : L2.St, σ[0]? = some (some (.ref pa)) → σ[1]? = some (some (.ref pb)) → σ[2]? = some (some (.ref pc)) → DRs K H4 σ _ (E1.map endD) := fun σ h0 h1 h2 => by
      rw [← e1_data]
      exact drs_cons (dr_tup (drs_cons dr_str (drs_cons (dr_tup (drs_cons (dr_tup (drs_cons dr_str (drs_cons dr_str drs_nil)) (by decide)) drs_nil) (by decide)) drs_nil)) (by decide))
        (drs_cons (dr_tup (drs_cons dr_str (drs_cons (dr_tup (drs_cons (dr_var h0 da) (drs_cons (dr_var h2 dc) (drs_cons (dr_var h2 dc) (drs_cons (dr_var h1 db) drs_nil)))) (by decide)) drs_nil)) (by decide))
        (drs_cons (dr_tup (drs_cons dr_str (drs_cons (dr_tup (drs_cons (dr_var h0 da) (drs_cons (dr_var h2 dc) drs_nil)) (by decide)) drs_nil)) (by decide))
        (drs_cons (dr_tup (drs_cons dr_str (drs_cons (dr_tup (drs_cons (dr_var h2 dc) drs_nil) (by decide)) drs_nil)) (by decide)) drs_nil)))
    have r2 : ∀ σ : L2.St, σ[0]? = some (some (.ref pa)) → σ[1]? = some (some (.ref pb)) → σ[2]? = some (some (.ref pc)) → DRs K H4 σ _ (E2.map endD) := fun σ h0 h1 h2 => by
      rw [← e2_data]
      exact drs_cons (dr_tup (drs_cons dr_str (drs_cons (dr_tup (drs_cons (dr_var h0 da) (drs_cons (dr_var h2 dc) (drs_cons (dr_var h2 dc) (drs_cons (dr_var h2 dc) (drs_cons (dr_var h1 db) drs_nil))))) (by decide)) drs_nil)) (by decide))
        (drs_cons (dr_tup (drs_cons dr_str (drs_cons (dr_tup (drs_cons (dr_var h2 dc) (drs_cons (dr_var h0 da) drs_nil)) (by decide)) drs_nil)) (by decide))
        (drs_cons (dr_tup (drs_cons dr_str (drs_cons (dr_tup (drs_cons (dr_var h0 da) (drs_cons hd drs_nil)) (by decide)) drs_nil)) (by decide)) drs_nil))
    have r3 : ∀ σ : L2.St, σ[0]? = some (some (.ref pa)) → σ[1]? = some (some (.ref pb)) → σ[2]? = some (some (.ref pc)) → DRs K H4 σ _ (E3.map endD) := fun σ h0 h1 h2 => by
      rw [← e3_data]
      exact drs_cons (dr_tup (drs_cons dr_str (drs_cons (dr_tup (drs_cons (dr_var h0 da) (drs_cons hd (drs_cons (dr_var h2 dc) (drs_cons (dr_var h1 db) drs_nil)))) (by decide)) drs_nil)) (by decide))
        (drs_cons (dr_tup (drs_cons dr_str (drs_cons (dr_tup drs_nil (by decide)) drs_nil)) (by decide))
        (drs_cons (dr_tup (drs_cons dr_str (drs_cons (dr_tup (drs_cons (dr_tup (drs_cons dr_str (drs_cons dr_str drs_nil)) (by decide)) drs_nil) (by decide)) drs_nil)) (by decide)) drs_nil))
    refine asg_drs_g (r1 _ rfl rfl rfl) same_refl (by decide) fun v1 H5 l1 s5 n1 h5 d5 => ?_
    refine asg_cat_g (j := 3) rfl h5 d5 (r2 _ rfl rfl rfl) s5 (by decide) fun v2 H6 l2 s6 n2 h6 d6 => ?_
    refine asg_cat_g (j := 3) rfl h6 d6 (r3 _ rfl rfl rfl) (s5.trans s6) (by decide) fun v3 H7 l3 s7 n3 h7 d7 => ?_
    have e7 : E1.map endD ++ E2.map endD ++ E3.map endD = EndsE.map endD := by
      rw [← List.map_append, ← List.map_append]
      rfl
    rw [e7] at d7
    have al := dpAll_all2 d7
    have l7 : v3.length = EndsE.length := by rw [al.1, List.length_map]
    have sH : Same H H7 := s1.trans (s5.trans (s6.trans s7))
    have row : ∀ (G : Hp) (i : Nat) (x : V), Same H7 G → v3[i]? = some x → ∃ q, EndsE[i]? = some q ∧ ∃ r v, x = .ref r ∧ SqT K G r [.str q.1, v] ∧ Dp K G v (.tuple (rowD q.2)) := fun G i x sG hx => by
      have hi : i < EndsE.length := by rw [← l7]; exact (List.getElem?_eq_some_iff.mp hx).1
      obtain ⟨q, hq⟩ : ∃ q, EndsE[i]? = some q := ⟨_, List.getElem?_eq_getElem hi⟩
      have d := dp_same sG (al.2 i x _ hx (by rw [List.getElem?_map, hq]; rfl))
      obtain ⟨r, us, rfl, sq, da2⟩ := dp_tup2 (show Dp K G x (.tuple [.str q.1, .tuple (rowD q.2)]) from d)
      cases da2 with
      | cons g1 g2 => cases g2 with
        | cons g3 g4 =>
          cases g4
          cases g1
          exact ⟨q, hq, r, _, rfl, sq, g3⟩
    refine ⟨_, rfl, l3, rfl, ⟨v3, SqL.of h7⟩, fun D1 nD1 => ?_⟩
    refine lc_list (K := K) (a := l3) (xs := v3) (fun i H' => Same H7 H' ∧ ∃ acc, H' D1 = some (.lst acc) ∧ DpAll K H' acc ((EndsE.take i).map fun q => PyData.tuple (rowD q.2))) ⟨same_new nD1, [], upd_same, .nil⟩ (fun i H' _ h => SqL.of (h.1 _ _ h7)) ?_ ?_
    · rintro i x H' hx ⟨s8, acc, hacc, dacc⟩
      obtain ⟨q0, hq0, r, v, rfl, sq, dv⟩ := row H' i x s8 hx
      obtain ⟨ps, hrd, hj⟩ := ends_rd q0 (List.mem_of_getElem? hq0)
      obtain ⟨b1, b2⟩ := ends_asc q0 (List.mem_of_getElem? hq0)
      have lacc := (dpAll_all2 dacc).1
      rw [List.length_map, List.length_take] at lacc
      refine ⟨r, _, rfl, sq, rfl, _, _, rfl, _, _, rfl, rfl, rfl, _, rfl, q0.1.cps.toList, ps, by rw [← S_of]; rfl, by omega, b2, hrd, fun H2 v2 s9 d2 => ?_⟩
      have nD7 : H7 D1 = none := nD1
      have hacc2 := s9 _ _ hacc
      refine ⟨acc, hacc2, by rw [lacc, sizeLine_eq]; exact Nat.lt_of_le_of_lt (Nat.min_le_right _ _) (by decide), fun b o e => ?_, acc ++ [v2], upd_same, ?_⟩
      · rw [upd_ne (ne_of_none e nD7)]
        exact s9 _ _ (s8 _ _ e)
      · rw [List.take_add_one, hq0, Option.toList_some, List.map_append]
        refine dpAll_keep (L := D1) Keeps.at ⟨_, hacc2⟩ ?_ (dpAll_app (dpAll_same s9 dacc) (.cons (by show Dp K H2 v2 (.tuple (rowD q0.2)); rw [← hj]; exact d2) .nil))
        rw [← List.map_append]
        exact noList_rows _
    · rintro H8 ⟨s8, acc, hacc, dacc⟩
      rw [l7, List.take_length] at dacc
      have nD1' : H8 D1 = some (.lst acc) := hacc
      refine ⟨_, rfl, l3, rfl, ⟨v3, SqL.of (s8 _ _ h7)⟩, fun D2 nD2 => ?_⟩
      have nDD : D1 ≠ D2 := ne_of_none hacc nD2
      refine lc_list (K := K) (a := l3) (xs := v3) (fun i H' => Same H8 H' ∧ ∃ acc2, H' D2 = some (.lst acc2) ∧ DpAll K H' acc2 ((EndsE.take i).map fun q => PyData.tuple (rowD q.2))) ⟨same_new nD2, [], upd_same, .nil⟩ (fun i H' _ h => SqL.of (h.1 _ _ (s8 _ _ h7))) ?_ ?_
      · rintro i x H' hx ⟨s9, acc2, hacc2, dacc2⟩
        obtain ⟨q0, hq0, r, v, rfl, sq, dv⟩ := row H' i x (s8.trans s9) hx
        have lacc := (dpAll_all2 dacc2).1
        rw [List.length_map, List.length_take] at lacc
        refine ⟨r, _, rfl, sq, rfl, _, _, rfl, _, _, rfl, rfl, rfl, _, rfl, ?_⟩
        refine ⟨acc2, hacc2, by rw [lacc, sizeLine_eq]; exact Nat.lt_of_le_of_lt (Nat.min_le_right _ _) (by decide), fun b o e => ?_, acc2 ++ [v], upd_same, ?_⟩
        · rw [upd_ne (ne_of_none e nD2)]
          exact s9 _ _ e
        · rw [List.take_add_one, hq0, Option.toList_some, List.map_append]
          refine dpAll_keep (L := D2) Keeps.at ⟨_, hacc2⟩ ?_ (dpAll_app dacc2 (.cons dv .nil))
          rw [← List.map_append]
          exact noList_rows _
      · rintro H9 ⟨s9, acc2, hacc2, dacc2⟩
        rw [l7, List.take_length] at dacc2
        refine ⟨_, _, .lst (SqL.of (s9 _ _ hacc)) (dpAll_same s9 dacc), .lst (SqL.of hacc2) dacc2, ends_shaped, ends_shaped, ?_⟩
        rw [ends_eqv]
        exact q _ (sH.trans (s8.trans s9))

/-! ### the law -/
def simpI : Inl → Bool
  | .text t => t.all fun c => decide (c < 128)
  | .soft => true
  | .hard => true
  | _ => false
theorem simp_lay : ∀ {ps : List Inl}, ps.all simpI = true → PyData.canLayAll0 (rowD ps) = true
  | [], _ => rfl
  | x :: ps, h => by
    rw [List.all_cons, Bool.and_eq_true] at h
    have ih := simp_lay h.2
    have hx : PyData.canLay0 x.toD = true := by
      cases x with
      | text t =>
        have ha : Sm t := fun c hc => by
          have := List.all_eq_true.mp h.1 c hc
          have := of_decide_eq_true this
          omega
        show (PyData.strOk _ && (PyData.strOk (S t) && true)) = true
        rw [ha.ok]
        decide +kernel
      | soft => decide +kernel
      | hard => decide +kernel
      | _ => cases h.1
    show (PyData.canLay0 x.toD && PyData.canLayAll0 (rowD ps)) = true
    rw [hx, ih]
    rfl
theorem simp_depth : ∀ {ps : List Inl}, ps.all simpI = true → PyData.depthAll (rowD ps) ≤ 1
  | [], _ => Nat.zero_le _
  | x :: ps, h => by
    rw [List.all_cons, Bool.and_eq_true] at h
    have ih := simp_depth h.2
    have hx : PyData.depth x.toD ≤ 1 := by
      cases x with
      | text t => exact Nat.le_refl _
      | soft => exact Nat.le_refl _
      | hard => exact Nat.le_refl _
      | _ => cases h.1
    show max (PyData.depth x.toD) (PyData.depthAll (rowD ps)) ≤ 1
    omega
theorem simp_list {ps : List Inl} (h : ps.all simpI = true) : SeqAt.shaped (.list (rowD ps)) = true := by
  show (PyData.canLayAll0 _ && decide (PyData.depthAll _ + 1 ≤ 64)) = true
  have := simp_depth h
  rw [simp_lay h, decide_eq_true (by omega)]
  rfl
theorem simp_tup {ps : List Inl} (h : ps.all simpI = true) : SeqAt.shaped (.tuple (rowD ps)) = true := by
  show (PyData.canLayAll0 _ && decide (PyData.depthAll _ + 1 ≤ 64)) = true
  have := simp_depth h
  rw [simp_lay h, decide_eq_true (by omega)]
  rfl
theorem simp_eqv {ps : List Inl} (h : ps.all simpI = true) : PyData.eqv (.tuple (rowD ps)) (.tuple (rowD ps)) = true := PySem.SeqAt.eqv_refl _ (simp_lay h)
theorem eqv_nil (ps : List Inl) : PyData.eqv (.list (rowD ps)) (.list []) = ps.isEmpty := by cases ps <;> rfl
theorem dp_split {K : PySem.W.Frag} {G : Hp} : ∀ {us : List V} {ds : List PyData} {d : PyData}, DpAll K G us (ds ++ [d]) → ∃ us0 v, us = us0 ++ [v] ∧ DpAll K G us0 ds ∧ Dp K G v d
  | _, [], _, h => by
    cases h with
    | cons a b => cases b; exact ⟨[], _, rfl, .nil, a⟩
  | _, e :: ds, d, h => by
    cases h with
    | cons a b =>
      obtain ⟨us0, v, rfl, h1, h2⟩ := dp_split b
      exact ⟨_ :: us0, v, rfl, .cons a h1, h2⟩
theorem seq_same {K : PySem.W.Frag} {H H' : Hp} {a : Addr} {xs : List V} (s : Same H H') (h : SqL K H a xs) : SqL K H' a xs := by
  rcases h with (h | ⟨o, h⟩) | h
  · exact .inl (.inl (s _ _ h))
  · exact .inl (.inr ⟨o, s _ _ h⟩)
  · exact .inr h
theorem lit_w45 : ("w" : Str) = S [119] := by decide +kernel
structure LI (K : PySem.W.Frag) (H0 H : Hp) (L ro : Addr) (T : List Nat) (pre : List Inl) (w : List Nat) (us : List V) (i : Nat) : Prop where
  sm : Same H0 H
  l0 : H0 L = none
  r0 : H0 ro = none
  ne : ro ≠ L
  wl : Well3 H L
  ro : H ro = some (.lst us)
  dp : DpAll K H us (rowD (pre ++ txtI w))
  rs : Rs T pre w
  si : (pre ++ txtI w).all simpI = true
  wn : w = [] → pre = []
  lt : T.length ≤ 45 * i
  lw : w.length ≤ 45 * i
  lr : (pre ++ txtI w).length ≤ 2 * i
theorem LI.keep {K : PySem.W.Frag} {H0 H H' : Hp} {L ro : Addr} {T : List Nat} {pre : List Inl} {w : List Nat} {us : List V} {i : Nat} (h : LI K H0 H L ro T pre w us i) (k : Keeps L H H') (w' : Well3 H' L) : LI K H0 H' L ro T pre w us i :=
  ⟨fun b o e => k b o (fun z => by rw [z, h.l0] at e; cases e) (h.sm b o e), h.l0, h.r0, h.ne, w', k _ _ h.ne h.ro, dpAll_keep k h.wl.lst (noList_row _) h.dp, h.rs, h.si, h.wn, h.lt, h.lw, h.lr⟩
theorem LI.new {K : PySem.W.Frag} {H0 H : Hp} {L ro p : Addr} {o : HO} {T : List Nat} {pre : List Inl} {w : List Nat} {us : List V} {i : Nat} (h : LI K H0 H L ro T pre w us i) (n : H p = none) : LI K H0 (upd H p o) L ro T pre w us i := h.keep (.new n) (h.wl.new n)
theorem LI.same {K : PySem.W.Frag} {H0 H H' : Hp} {L ro : Addr} {T : List Nat} {pre : List Inl} {w : List Nat} {us : List V} {i : Nat} (h : LI K H0 H L ro T pre w us i) (s : Same H H') : LI K H0 H' L ro T pre w us i := h.keep (.of s) (h.wl.same s)
theorem LI.len {K : PySem.W.Frag} {H0 H : Hp} {L ro : Addr} {T : List Nat} {pre : List Inl} {w : List Nat} {us : List V} {i : Nat} (h : LI K H0 H L ro T pre w us i) : us.length = (pre ++ txtI w).length := by rw [(dpAll_all2 h.dp).1, rowD_map, List.length_map]
theorem txtI_ne {w : List Nat} (h : w ≠ []) : txtI w = [.text w] := if_neg h
theorem simp_txt {w : List Nat} (h : Asc w) : (txtI w).all simpI = true := by
  unfold txtI
  split
  · rfl
  · show ((w.all fun c => decide (c < 128)) && true) = true
    rw [Bool.and_true, List.all_eq_true]
    exact fun c hc => decide_eq_true (h c hc)
theorem simp_asc {w : List Nat} {pre : List Inl} (h : (pre ++ txtI w).all simpI = true) : Asc w := by
  rw [List.all_append, Bool.and_eq_true] at h
  intro c hc
  have hw : w ≠ [] := fun e => by rw [e] at hc; cases hc
  have h2 := h.2
  rw [txtI_ne hw] at h2
  have h3 : ((w.all fun c => decide (c < 128)) && true) = true := h2
  rw [Bool.and_true, List.all_eq_true] at h3
  exact of_decide_eq_true (h3 c hc)
/-- the row written at its end, or one more put -/
theorem LI.put {K : PySem.W.Frag} {H0 H : Hp} {L ro : Addr} {T : List Nat} {pre : List Inl} {w : List Nat} {us us0 : List V} {i : Nat} {x m : List Nat} {v : V} (h : LI K H0 H L ro T pre w us i) (pc : PcJ x m)
    (d0 : DpAll K H us0 (rowD pre)) (dv : Dp K H v (Inl.text (w ++ m)).toD) : LI K H0 (upd H ro (.lst (us0 ++ [v]))) L ro (T ++ x) pre (w ++ m) (us0 ++ [v]) (i + 1) := by
  have hm : w ++ m ≠ [] := by
    intro e
    exact pc.2.1 (List.append_eq_nil_iff.mp e).2
  have hsi := h.si
  have am : Asc (w ++ m) := fun c hc => by
    rcases List.mem_append.mp hc with hc | hc
    · exact simp_asc h.si c hc
    · exact pc.2.2.2.2.2.1 c hc
  rw [List.all_append, Bool.and_eq_true] at hsi
  have e1 : rowD (pre ++ txtI (w ++ m)) = rowD pre ++ [(Inl.text (w ++ m)).toD] := by rw [txtI_ne hm, rowD_app]; rfl
  refine ⟨fun b o e => ?_, h.l0, h.r0, h.ne, h.wl.upd h.ne, upd_same, ?_, rs_piece h.rs pc, ?_, fun e => absurd e hm, ?_, ?_, ?_⟩
  · rw [upd_ne (fun z => by rw [z, h.r0] at e; cases e)]
    exact h.sm b o e
  · refine dpAll_keep (L := ro) Keeps.at ⟨_, h.ro⟩ (noList_row _) ?_
    rw [e1]
    exact dpAll_app d0 (.cons dv .nil)
  · rw [List.all_append, hsi.1, simp_txt am]
    rfl
  · rw [List.length_append]
    have := h.lt
    have := pc.2.2.1
    omega
  · rw [List.length_append]
    have := h.lw
    have := pc.2.2.2.1
    omega
  · have := h.lr
    rw [List.length_append] at this ⊢
    rw [txtI_ne hm, List.length_singleton]
    omega
theorem LI.brk {K : PySem.W.Frag} {H0 H : Hp} {L ro p1 p2 l c : Addr} {T : List Nat} {pre : List Inl} {w : List Nat} {us : List V} {i : Nat} {x : List Nat} {b : Inl} (h : LI K H0 H L ro T pre w us i) (bj : BrkJ x b) (hb : b = .hard ∨ b = .soft)
    (n1 : H p1 = none) (n2 : (upd H p1 (.tup [.str (nameI b)])) p2 = none) (n3 : (upd (upd H p1 (.tup [.str (nameI b)])) p2 (.tup [.str "text", .str "w"])) l = none) (n4 : (upd (upd (upd H p1 (.tup [.str (nameI b)])) p2 (.tup [.str "text", .str "w"])) l (.lst [.ref p1, .ref p2])) c = none) :
    LI K H0 (upd (upd (upd (upd H p1 (.tup [.str (nameI b)])) p2 (.tup [.str "text", .str "w"])) l (.lst [.ref p1, .ref p2])) c (.lst (us ++ [.ref p1, .ref p2]))) L c (T ++ x ++ [119]) (pre ++ txtI w ++ [b]) [119] (us ++ [.ref p1, .ref p2]) (i + 1) := by
  have h2 := ((h.new (o := .tup [.str (nameI b)]) n1).new (o := .tup [.str "text", .str "w"]) n2).new (o := .lst [.ref p1, .ref p2]) n3
  have s4 := same_new (o := .lst (us ++ [.ref p1, .ref p2])) n4
  have q1 : (upd (upd (upd H p1 (.tup [.str (nameI b)])) p2 (.tup [.str "text", .str "w"])) l (.lst [.ref p1, .ref p2])) p1 = some (.tup [.str (nameI b)]) := ((same_new n2).trans (same_new n3)) _ _ upd_same
  have q2 : (upd (upd (upd H p1 (.tup [.str (nameI b)])) p2 (.tup [.str "text", .str "w"])) l (.lst [.ref p1, .ref p2])) p2 = some (.tup [.str "text", .str "w"]) := (same_new n3) _ _ upd_same
  generalize (upd (upd (upd H p1 (.tup [.str (nameI b)])) p2 (.tup [.str "text", .str "w"])) l (.lst [.ref p1, .ref p2])) = H1 at h2 s4 q1 q2 n4 ⊢
  have e1 : rowD (pre ++ txtI w ++ [b] ++ txtI [119]) = rowD (pre ++ txtI w) ++ [b.toD, (Inl.text [119]).toD] := by
    rw [List.append_assoc, rowD_app]
    rfl
  have db : Dp K H1 (.ref p1) b.toD := by
    rcases hb with rfl | rfl
    · exact dp_hard q1
    · exact dp_soft q1
  have dw : Dp K H1 (.ref p2) (Inl.text [119]).toD := dp_text (by rw [q2, lit_w45])
  refine ⟨fun b' o e => s4 _ _ (h2.sm b' o e), h2.l0, ?_, h2.wl.ne n4, h2.wl.new n4, upd_same, ?_, rs_break h2.rs bj, ?_, fun e => (by cases e), ?_, ?_, ?_⟩
  · cases e : H0 c with
    | none => rfl
    | some o => rw [h2.sm _ _ e] at n4; cases n4
  · rw [e1]
    exact dpAll_same s4 (dpAll_app h2.dp (.cons db (.cons dw .nil)))
  · have e2 : simpI b = true := by rcases hb with rfl | rfl <;> rfl
    rw [List.all_append, List.all_append, h2.si]
    show (simpI b && true && true) = true
    rw [e2]
    rfl
  · have := h2.lt
    have := bj.1
    rw [List.length_append, List.length_append, List.length_singleton]
    omega
  · show 1 ≤ 45 * (i + 1)
    omega
  · have := h2.lr
    rw [List.length_append, List.length_append]
    show _ + 1 + 1 ≤ _
    omega
def sp_law (K : PySem.W.Frag) : Sp := fun vs H Q _ => ∃ (a : Addr) (ns : List Int), vs = [.ref a] ∧ SqL K H a (ns.map V.int) ∧ ns.length ≤ 63 ∧ ∀ H', Q (.bl true) H'
theorem ok_law {P : Program} {w : World} {K : PySem.W.Frag} {mg : Str → Option Value} {base : Heap} {f : Addr} {fd : FuncData} (T : Txt w K mg) (F : Fun K "law" "law" s_law f fd) : FnOk P w K mg base CX0 100 f fd ["_law_script"] (sp_law K) := by
  refine F.ok sc_law (fun vs H Q E h => ?_) (fun cdv A outer s H vs Q E hr h => ?_)
  · obtain ⟨a, ns, rfl, _⟩ := h
    rfl
  · obtain ⟨a, ns, rfl, ha, hl, q⟩ := h
    refine ⟨_, (pss_cons (ps_if (pt_not (pt_val (pe_call0 (ok__law_ends_right T) (hr.mono (by decide)) (by rfl) T.g__law_ends_right T.f__law_ends_right.kp T.b__law_ends_right .nil pass0))) (pss_one (ps_ret pe_bl)) pss_nil)
        (pss_cons (ps_for PassesOwn.never rfl (pi_range1 (by rfl) T.z_range (pa_cons (pe_callB (call_max2 rfl) (by rfl) T.z_max (by decide +kernel) (pa_cons pe_int (pa_cons (pe_callB (call_min2 rfl) (by rfl) T.z_min (by decide +kernel) (pa_cons pe_int (pa_cons (pe_callB call_len_seq (by rfl) T.z_len PySem.boot_len (pa_cons (pv 0) pa_nil)) pa_nil))) pa_nil))) pa_nil)) (pg_name (i := 1) sc_law.nd rfl (.inl rfl)) (pss_cons (ps_set (i := 2) sc_law.nd rfl (.inl rfl) (pe_call (ok__law_state T) (hr.mono (by decide)) (by rfl) T.g__law_state T.f__law_state.kp T.b__law_state .nil pass0 (pa_cons (pv 0) (pa_cons (pv 1) pa_nil))))
        (pss_one (ps_for PassesOwn.never rfl (pi_range1 (by rfl) T.z_range (pa_cons pe_int pa_nil)) (pg_name (i := 3) sc_law.nd rfl (.inl rfl)) (pss_cons (ps_par (i := 4) (j := 5) (by rfl) sc_law.nd rfl rfl (by decide) rfl rfl (pa_cons pe_str (pa_cons (pe_lst pa_nil) pa_nil)) (by rfl))
        (pss_cons (ps_for PassesOwn.never rfl (pi_range1 (by rfl) T.z_range (pa_cons (pe_op op_add pe_int (pe_call (ok__law_draw T) (hr.mono (by decide)) (by rfl) T.g__law_draw T.f__law_draw.kp T.b__law_draw .nil pass0 (pa_cons (pv 2) (pa_cons pe_int pa_nil)))) pa_nil)) (pg_name (i := 6) sc_law.nd rfl (.inl rfl)) (pss_cons (ps_asg (pe_call (ok__law_piece T) (hr.mono (by decide)) (by rfl) T.g__law_piece T.f__law_piece.kp T.b__law_piece .nil pass0 (pa_cons (pv 2) pa_nil)) (pg_tup (by rfl) (pgs_cons (pg_name (i := 7) sc_law.nd rfl (.inl rfl)) (pgs_cons (pg_name (i := 8) sc_law.nd rfl (.inl rfl)) pgs_nil))))
        (pss_cons (ps_set (i := 4) sc_law.nd rfl (.inl rfl) (pe_op op_add_str (pv 4) (pv 7)))
        (pss_cons (ps_if (PW.pt (pw_and (pt_cmpR (op_neD hr.units) (pv 5) (pe_lst pa_nil) (nomark _)) (pw_and1 (pt_cmpR op_eq (pe_ix ix_tup (pe_ix ix_list (pv 5) (pe_un un_neg pe_int) (fun _ _ => rfl)) pe_int (fun _ _ => rfl)) pe_str (nomark _))))) (pss_one (ps_asg (pe_tup (pa_cons pe_str (pa_cons (pe_op op_add_str (pe_ix ix_tup (pe_ix ix_list (pv 5) (pe_un un_neg pe_int) (fun _ _ => rfl)) pe_int (fun _ _ => rfl)) (pv 8)) pa_nil))) (pg_sub (pv 5) (pe_un un_neg pe_int) set_list))) (pss_one (ps_expr (pe_bm PySem.F.plainAttrs_list PySem.F.slot_list_append PySem.F.type_list_append mt_append (pv 5) (pa_cons (pe_tup (pa_cons pe_str (pa_cons (pv 8) pa_nil))) pa_nil)))))
        (pss_one (ps_if (PW.pt (pw_or (pt_cmpR op_eq (pe_call (ok__law_draw T) (hr.mono (by decide)) (by rfl) T.g__law_draw T.f__law_draw.kp T.b__law_draw .nil pass0 (pa_cons (pv 2) (pa_cons pe_int pa_nil))) pe_int (nomark _)) (pw_or1 (pt_cmpR op_gt (pe_op op_sub (pe_callB call_len_str (by rfl) T.z_len PySem.boot_len (pa_cons (pv 4) pa_nil)) (pe_bm PySem.F.plainAttrs_str PySem.F.slot_str_rfind PySem.F.type_str_rfind mt_rfind (pv 4) (pa_cons pe_str pa_nil))) pe_int (nomark _))))) (pss_cons (ps_asg (pe_call (ok__law_break T) (hr.mono (by decide)) (by rfl) T.g__law_break T.f__law_break.kp T.b__law_break .nil pass0 (pa_cons (pv 2) pa_nil)) (pg_tup (by rfl) (pgs_cons (pg_name (i := 7) sc_law.nd rfl (.inl rfl)) (pgs_cons (pg_name (i := 9) sc_law.nd rfl (.inl rfl)) pgs_nil))))
        (pss_cons (ps_set (i := 4) sc_law.nd rfl (.inl rfl) (pe_op op_add_str (pe_op op_add_str (pv 4) (pv 7)) pe_str))
        (pss_one (ps_set (i := 5) sc_law.nd rfl (.inl rfl) (pe_op op_cat (pv 5) (pe_lst (pa_cons (pe_tup (pa_cons (pv 9) pa_nil)) (pa_cons (pe_tup (pa_cons pe_str (pa_cons pe_str pa_nil))) pa_nil)))))))) pss_nil))))))
        (pss_one (ps_if (pt_cmpR (op_neD hr.units) (pe_call (ok_inlines T) (hr.mono (by decide)) (by rfl) T.g_inlines T.f_inlines.kp T.bd_inlines (.cons (show RelV V.non Value.none from rfl) .nil) pass0 (pa_cons (pv 4) pa_nil)) (pe_callTy call_tuple_of (by rfl) T.z_tuple (by decide +kernel) (pa_cons (pv 5) pa_nil)) (nomark _)) (pss_one (ps_ret pe_bl)) pss_nil))))))))
        (pss_one (ps_ret pe_bl)))), ?_⟩
    refine ⟨rfl, fun H1 s1 => ⟨_, rfl, iteF ?_⟩⟩
    have ha1 := seq_same s1 ha
    refine ⟨_, rfl, a, ns.map V.int, rfl, .inl ha1, _, _, rfl, _, _, rfl, ?_⟩
    obtain ⟨n, hn, en⟩ : ∃ n : Nat, n ≤ 8 ∧ (if (if ((ns.map V.int).length : Int) < 8 then ((ns.map V.int).length : Int) else 8) > 1 then (if ((ns.map V.int).length : Int) < 8 then ((ns.map V.int).length : Int) else 8) else 1) = (n : Int) := by
      by_cases h8 : ((ns.map V.int).length : Int) < 8
      · rw [if_pos h8]
        by_cases h1 : ((ns.map V.int).length : Int) > 1
        · exact ⟨(ns.map V.int).length, by omega, by rw [if_pos h1]⟩
        · exact ⟨1, by omega, by rw [if_neg h1]; rfl⟩
      · rw [if_neg h8]
        exact ⟨8, by omega, by rw [if_pos (by decide)]; rfl⟩
    rw [en]
    refine ⟨_, rfl, by omega, by omega, for_range (lo := 0) (n := ((n : Nat) : Int).toNat) (fun i σ H' => (∃ (v1 v2 v3 v4 v5 v6 v7 v8 v9 : Option V), σ = [some (.ref a), v1, v2, v3, v4, v5, v6, v7, v8, v9]) ∧ Same H1 H') ⟨⟨_, _, _, _, _, _, _, _, _, rfl⟩, .refl _⟩ ?_ ?_⟩
    · rintro k σ H2 hk ⟨⟨v1, v2, v3, v4, v5, v6, v7, v8, v9, rfl⟩, s2⟩
      rw [Int.toNat_natCast] at hk
      refine ⟨_, rfl, _, rfl, a, ns, k, by rw [Int.zero_add]; rfl, seq_same s2 ha1, hl, by omega, fun H3 L s3 nL wL => ?_⟩
      refine ⟨_, rfl, by decide, by decide, for_range (lo := 0) (n := 4) (fun j σ H' => (∃ (v3 v4 v5 v6 v7 v8 v9 : Option V), σ = [some (.ref a), some (.int (0 + (k : Int))), some (.ref L), v3, v4, v5, v6, v7, v8, v9]) ∧ Same H2 H' ∧ Well3 H' L) ⟨⟨_, _, _, _, _, _, _, rfl⟩, s3, wL⟩ ?_ ?_⟩
      · rintro j σ H4 hj ⟨⟨w3, w4, w5, w6, w7, w8, w9, rfl⟩, s4, wl4⟩
        refine ⟨(by show 0 ≤ sizeLine; decide), fun ro nro => ?_⟩
        refine ⟨_, _, rfl, ?_⟩
        have nL2 : H2 L = none := nL
        have nro2 : H2 ro = none := by
          cases e : H2 ro with
          | none => rfl
          | some o => rw [s4 _ _ e] at nro; cases nro
        refine one_draw 30 (by decide) (wl4.new nro) rfl fun H5 d k5 wl5 hd => ?_
        have hro5 : H5 ro = some (.lst []) := k5 _ _ (wl4.ne nro) upd_same
        have li0 : LI K H2 H5 L ro [] [] [] [] 0 := ⟨fun b o e => k5 b o (fun z => by rw [z, nL2] at e; cases e) (by rw [upd_ne (fun z => by rw [z, nro2] at e; cases e)]; exact s4 b o e), nL2, nro2, wl4.ne nro, wl5, hro5, .nil, rs_nil, rfl, fun _ => rfl, Nat.le_refl _, Nat.le_refl _, Nat.le_refl _⟩
        refine ⟨_, _, rfl, rfl, _, rfl, by omega, by omega, for_range (lo := 0) (n := (1 + (d : Int)).toNat) (fun i σ' H' => ∃ (T : List Nat) (pre : List Inl) (w : List Nat) (ro : Addr) (us : List V) (v6 v7 v8 v9 : Option V) (c : Nat), σ' = [some (.ref a), some (.int (0 + (k : Int))), some (.ref L), some (.int (0 + (j : Int))), some (.str (S T)), some (.ref ro), v6, v7, v8, v9] ∧ c ≤ 2 * i ∧ LI K H2 H' L ro T pre w us c) ⟨[], [], [], ro, [], _, _, _, _, 0, rfl, Nat.le_refl _, li0⟩ ?_ ?_⟩
        · rintro i σ' H6 hi ⟨T0, pre, w0, ro, us, v6, v7, v8, v9, cc, rfl, hcc, li⟩
          have hi30 : i ≤ 30 := by omega
          refine ⟨_, rfl, L, rfl, li.wl, fun H7 r x m k7 wl7 hr7 pc => ?_⟩
          have li7 := li.keep k7 wl7
          refine ⟨r, _, rfl, SqT.of hr7, rfl, _, _, rfl, _, _, rfl, rfl, ?_⟩
          have b1 := pc.2.2.1
          have b2 := pc.2.2.2.1
          have b3 := li.lt
          have b4 := li.lw
          refine ⟨_, rfl, _, rfl, _, _, rfl, rfl, by rw [S_len, S_len, sizeLine_eq]; omega, ?_⟩
          rw [S_app]
          refine seq_if_g (fun σ' H' => ∃ us', σ' = [some (.ref a), some (.int (0 + (k : Int))), some (.ref L), some (.int (0 + (j : Int))), some (.str (S (T0 ++ x))), some (.ref ro), some (.int (0 + (i : Int))), some (.str (S x)), some (.str (S m)), v9] ∧ LI K H2 H' L ro (T0 ++ x) pre (w0 ++ m) us' (cc + 1)) (fun N qN => ?_) ?_
          · by_cases hw : w0 = []
            · have hp := li7.wn hw
              subst hw hp
              have hus : us = [] := by
                have := li7.len
                exact List.eq_nil_of_length_eq_zero this
              subst hus
              refine ⟨_, rfl, (by show 0 ≤ sizeLine; decide), fun p np => ?_⟩
              have li8 := li7.new (o := .lst []) np
              refine ⟨_, _, .lst (SqL.of li8.ro) .nil, .lst (SqL.of upd_same) .nil, rfl, rfl, _, rfl, iteF (iteF ?_)⟩
              refine ⟨_, rfl, .inl ⟨rfl, _, SqL.of li8.ro⟩, _, rfl, (by show 2 ≤ sizeLine; decide), fun c nc => ?_⟩
              have li9 := li8.new (o := .tup [.str "text", .str (S m)]) nc
              refine ⟨ro, [], _, rfl, rfl, li9.ro, by decide, qN _ _ ⟨_, rfl, li9.put (us0 := []) pc .nil (dp_text upd_same)⟩⟩
            · have e0 : rowD (pre ++ txtI w0) = rowD pre ++ [(Inl.text w0).toD] := by rw [txtI_ne hw, rowD_app]; rfl
              have dp7 := li7.dp
              rw [e0] at dp7
              obtain ⟨us0, v0, rfl, d0, dv⟩ := dp_split dp7
              refine ⟨_, rfl, (by show 0 ≤ sizeLine; decide), fun p np => ?_⟩
              have li8 := li7.new (o := .lst []) np
              have d08 := dpAll_same (same_new (o := .lst []) np) d0
              have dv8 := dp_same (same_new (o := .lst []) np) dv
              refine ⟨_, _, .lst (SqL.of li8.ro) li8.dp, .lst (SqL.of upd_same) .nil, simp_list li8.si, rfl, ?_⟩
              rw [eqv_nil, txtI_ne hw, show (pre ++ [Inl.text w0]).isEmpty = false from by cases pre <;> rfl]
              obtain ⟨b', rfl, sq'⟩ := text_at dv8
              generalize hG8 : upd H7 p (.lst []) = G8 at li8 d08 dv8 sq' ⊢
              refine ⟨_, rfl, iteT ?_⟩
              refine ⟨_, rfl, _, rfl, ro, _, _, _, rfl, rfl, SqL.of li8.ro, atI_last us0 _, b', _, _, _, rfl, rfl, sq', atI_nat (j := 0) rfl, rfl, _, rfl, ite2 (fun _ => ?_) (fun h9 => absurd (decide_eq_true rfl) h9)⟩
              have lwb : (w0 ++ m).length ≤ 10000 := by rw [List.length_append]; omega
              refine ⟨_, rfl, _, rfl, ro, _, _, _, rfl, rfl, SqL.of li8.ro, atI_last us0 _, b', _, _, _, rfl, rfl, sq', atI_nat (j := 1) rfl, _, rfl, _, _, rfl, rfl, by rw [S_len, S_len, sizeLine_eq]; omega, ?_⟩
              rw [S_app]
              refine ⟨(by show 2 ≤ sizeLine; decide), fun c nc => ?_⟩
              have li10 := li8.new (o := .tup [.str "text", .str (S (w0 ++ m))]) nc
              have d10 := dpAll_same (same_new (o := .tup [.str "text", .str (S (w0 ++ m))]) nc) d08
              have dvt : Dp K (upd G8 c (.tup [.str "text", .str (S (w0 ++ m))])) (.ref c) (Inl.text (w0 ++ m)).toD := dp_text upd_same
              have hix : ixN (us0 ++ [V.ref b']).length (-1) = some us0.length := by
                have hl : (us0 ++ [V.ref b']).length = us0.length + 1 := by simp
                unfold ixN
                rw [hl, if_neg (by decide), if_pos (by omega)]
                congr 1
                omega
              refine ⟨_, rfl, _, rfl, ro, _, _, us0.length, rfl, rfl, li10.ro, hix, ?_⟩
              rw [show (us0 ++ [V.ref b']).set us0.length (.ref c) = us0 ++ [.ref c] by simp]
              exact qN _ _ ⟨_, rfl, li10.put pc d10 dvt⟩
          · rintro σ8 H8 ⟨us8, rfl, li8⟩
            refine one_draw 5 (by decide) li8.wl rfl fun H9 d9 k9 wl9 hd9 => ?_
            have li9 := li8.keep k9 wl9
            have c1 := li9.lt
            have hnl : (S (T0 ++ x)).length ≤ sizeLine := by rw [S_len, sizeLine_eq]; omega
            refine ⟨rfl, _, rfl, ite2 (fun _ => iteT ?_) (fun _ => ?_)⟩
            rotate_left
            · refine ⟨_, rfl, S (T0 ++ x), rfl, hnl, _, rfl, rfl, S (T0 ++ x), _, rfl, rfl, _, _, rfl, rfl, _, _, rfl, rfl, _, rfl, ite2 (fun _ => ?_) (fun _ => ?_)⟩
              rotate_left
              · exact ⟨T0 ++ x, pre, w0 ++ m, ro, us8, _, _, _, _, cc + 1, rfl, by omega, li9⟩
              · refine ⟨_, rfl, L, rfl, li9.wl, fun H10 r2 x2 b2 k10 wl10 hr10 hb2 bj => ?_⟩
                have li10 := li9.keep k10 wl10
                have bx := bj.1
                refine ⟨r2, _, rfl, SqT.of hr10, rfl, _, _, rfl, _, _, rfl, rfl, ?_⟩
                refine ⟨_, rfl, _, rfl, _, _, rfl, rfl, by rw [S_len, S_len, sizeLine_eq]; omega, ?_⟩
                rw [S_app]
                refine ⟨_, _, rfl, rfl, by rw [lit_w45, S_len, S_len, sizeLine_eq, List.length_append]; simp only [List.length_singleton]; omega, ?_⟩
                rw [show S (T0 ++ x ++ x2) ++ Str.ofString "w" = S (T0 ++ x ++ x2 ++ [119]) from by rw [lit_w45, S_app]]
                refine ⟨_, rfl, _, rfl, (by show 1 ≤ sizeLine; decide), fun p1 n1 => ⟨(by show 2 ≤ sizeLine; decide), fun p2 n2 => ⟨(by show 2 ≤ sizeLine; decide), fun l n3 => ?_⟩⟩⟩
                have li11 := ((li10.new (o := .tup [.str (nameI b2)]) n1).new (o := .tup [.str "text", .str "w"]) n2).new (o := .lst [.ref p1, .ref p2]) n3
                have lr11 := li11.lr
                have ll11 := li11.len
                refine ⟨ro, l, us8, _, rfl, rfl, li11.ro, upd_same, by rw [ll11, sizeLine_eq]; simp only [List.length_cons, List.length_nil]; omega, fun c n4 => ?_⟩
                exact ⟨T0 ++ x ++ x2 ++ [119], pre ++ txtI (w0 ++ m) ++ [b2], [119], c, _, _, _, _, _, cc + 1 + 1, rfl, by omega, li10.brk bj hb2 n1 n2 n3 n4⟩
            · refine ⟨_, rfl, L, rfl, li9.wl, fun H10 r2 x2 b2 k10 wl10 hr10 hb2 bj => ?_⟩
              have li10 := li9.keep k10 wl10
              have bx := bj.1
              refine ⟨r2, _, rfl, SqT.of hr10, rfl, _, _, rfl, _, _, rfl, rfl, ?_⟩
              refine ⟨_, rfl, _, rfl, _, _, rfl, rfl, by rw [S_len, S_len, sizeLine_eq]; omega, ?_⟩
              rw [S_app]
              refine ⟨_, _, rfl, rfl, by rw [lit_w45, S_len, S_len, sizeLine_eq, List.length_append]; simp only [List.length_singleton]; omega, ?_⟩
              rw [show S (T0 ++ x ++ x2) ++ Str.ofString "w" = S (T0 ++ x ++ x2 ++ [119]) from by rw [lit_w45, S_app]]
              refine ⟨_, rfl, _, rfl, (by show 1 ≤ sizeLine; decide), fun p1 n1 => ⟨(by show 2 ≤ sizeLine; decide), fun p2 n2 => ⟨(by show 2 ≤ sizeLine; decide), fun l n3 => ?_⟩⟩⟩
              have li11 := ((li10.new (o := .tup [.str (nameI b2)]) n1).new (o := .tup [.str "text", .str "w"]) n2).new (o := .lst [.ref p1, .ref p2]) n3
              have lr11 := li11.lr
              have ll11 := li11.len
              refine ⟨ro, l, us8, _, rfl, rfl, li11.ro, upd_same, by rw [ll11, sizeLine_eq]; simp only [List.length_cons, List.length_nil]; omega, fun c n4 => ?_⟩
              exact ⟨T0 ++ x ++ x2 ++ [119], pre ++ txtI (w0 ++ m) ++ [b2], [119], c, _, _, _, _, _, cc + 1 + 1, rfl, by omega, li10.brk bj hb2 n1 n2 n3 n4⟩
        · rintro σ' H6 ⟨T0, pre, w0, ro, us, v6, v7, v8, v9, cc, rfl, hcc, li⟩
          obtain ⟨ps, hrd, hj⟩ := rs_end li.rs
          have lt := li.lt
          refine ⟨_, rfl, T0, ps, rfl, by omega, li.rs.1, hrd, fun H7 v7' s7 hv => ?_⟩
          have li7 := li.same s7
          rw [hj] at hv
          refine ⟨_, rfl, ro, us, rfl, .inl ⟨SqL.of li7.ro, fun l nl => ?_⟩⟩
          refine ⟨_, _, dp_same (same_new nl) hv, .tup (SqT.of upd_same) (dpAll_same (same_new nl) li7.dp), simp_tup li.si, simp_tup li.si, ?_⟩
          rw [simp_eqv li.si]
          refine ⟨_, rfl, iteF ?_⟩
          exact ⟨⟨_, _, _, _, _, _, _, rfl⟩, (li7.new nl).sm, (li7.new nl).wl⟩
      · rintro σ H4 ⟨⟨w3, w4, w5, w6, w7, w8, w9, rfl⟩, s4, wl4⟩
        exact ⟨⟨_, _, _, _, _, _, _, _, _, rfl⟩, s2.trans s4⟩
    · rintro σ H2 ⟨⟨v1, v2, v3, v4, v5, v6, v7, v8, v9, rfl⟩, s2⟩
      exact q _

set_option maxHeartbeats 4000000 in
theorem all_mk {l : PySem.W.OpenLaw} {w : World} {K : PySem.W.Frag} {h : Heap} {mg : Str → Option Value} {fa : Addr} (X : K.In h) (G : h.Ns mainGlobals mg) (hfa : mg "law" = some (.ref fa))
    {C_Bracket : Addr} (qc_Bracket : PySem.W.nsIn K mainGlobals "Bracket" = some (some (.ref C_Bracket))) (pg_Bracket : PySem.W.plainGet K C_Bracket Str.empty = true) (hd_Bracket : PySem.W.hasDictIn K C_Bracket = true) (po_Bracket : PySem.W.plainOver K C_Bracket = true) (sa_Bracket : PySem.W.findIn K (.ref C_Bracket) "__setattr__" = some (some (.builtin "object.__setattr__"))) (mk_Bracket : PySem.W.makesIn K C_Bracket = true) (kc_Bracket : PySem.W.keepIn K (.ref C_Bracket) = true)
    (na_Bracket_number : PySem.W.findIn K (.ref C_Bracket) "number" = some none)
    (na_Bracket_index : PySem.W.findIn K (.ref C_Bracket) "index" = some none)
    (na_Bracket_place : PySem.W.findIn K (.ref C_Bracket) "place" = some none)
    (na_Bracket_is_image : PySem.W.findIn K (.ref C_Bracket) "is_image" = some none)
    {C_Scan : Addr} (qc_Scan : PySem.W.nsIn K mainGlobals "Scan" = some (some (.ref C_Scan))) (pg_Scan : PySem.W.plainGet K C_Scan Str.empty = true) (hd_Scan : PySem.W.hasDictIn K C_Scan = true) (po_Scan : PySem.W.plainOver K C_Scan = true) (sa_Scan : PySem.W.findIn K (.ref C_Scan) "__setattr__" = some (some (.builtin "object.__setattr__"))) (mk_Scan : PySem.W.makesIn K C_Scan = true) (kc_Scan : PySem.W.keepIn K (.ref C_Scan) = true)
    (na_Scan_content : PySem.W.findIn K (.ref C_Scan) "content" = some none)
    (na_Scan_known : PySem.W.findIn K (.ref C_Scan) "known" = some none)
    (na_Scan_place : PySem.W.findIn K (.ref C_Scan) "place" = some none)
    (na_Scan_row : PySem.W.findIn K (.ref C_Scan) "row" = some none)
    (na_Scan_plain : PySem.W.findIn K (.ref C_Scan) "plain" = some none)
    (na_Scan_brackets : PySem.W.findIn K (.ref C_Scan) "brackets" = some none)
    (na_Scan_noted : PySem.W.findIn K (.ref C_Scan) "noted" = some none)
    (na_Scan_bar : PySem.W.findIn K (.ref C_Scan) "bar" = some none)
    (na_Scan_strings : PySem.W.findIn K (.ref C_Scan) "strings" = some none)
    {C_Run : Addr} (qc_Run : PySem.W.nsIn K mainGlobals "Run" = some (some (.ref C_Run))) (pg_Run : PySem.W.plainGet K C_Run Str.empty = true) (hd_Run : PySem.W.hasDictIn K C_Run = true) (po_Run : PySem.W.plainOver K C_Run = true) (sa_Run : PySem.W.findIn K (.ref C_Run) "__setattr__" = some (some (.builtin "object.__setattr__"))) (mk_Run : PySem.W.makesIn K C_Run = true) (kc_Run : PySem.W.keepIn K (.ref C_Run) = true)
    (na_Run_sign : PySem.W.findIn K (.ref C_Run) "sign" = some none)
    (na_Run_length : PySem.W.findIn K (.ref C_Run) "length" = some none)
    (na_Run_left : PySem.W.findIn K (.ref C_Run) "left" = some none)
    (na_Run_opens : PySem.W.findIn K (.ref C_Run) "opens" = some none)
    (na_Run_closes : PySem.W.findIn K (.ref C_Run) "closes" = some none)
    (na_Run_ended : PySem.W.findIn K (.ref C_Run) "ended" = some none)
    (na_Run_begun : PySem.W.findIn K (.ref C_Run) "begun" = some none)
    (kit_Run_tuple : PySem.W.kitOne K (.type "tuple") (.ref C_Run) = some false)
    {f0 : Addr} {od0 an0 : Option Addr} {sl0 : Array (Option Value)} {oc0 kV0 dc0 pm0 cd0 ct0 : Value}
    (a0 : PySem.W.nsIn K mainGlobals "behind_all" = some (some (.ref f0))) (l0 : K.lookup f0 = some ⟨oc0, od0, .func (PySem.W.fnOf "behind_all" "behind_all" (defArgs s_behind_all) (defBody s_behind_all) (defScope s_behind_all) .none kV0 dc0 pm0 an0 cd0 ct0), sl0⟩) (c0 : PySem.W.codeIn K cd0 "behind_all" = true) (k0 : PySem.W.keepIn K (.ref f0) = true)
    {f1 : Addr} {od1 an1 : Option Addr} {sl1 : Array (Option Value)} {oc1 kV1 dc1 pm1 cd1 ct1 : Value}
    (a1 : PySem.W.nsIn K mainGlobals "behind_gap" = some (some (.ref f1))) (l1 : K.lookup f1 = some ⟨oc1, od1, .func (PySem.W.fnOf "behind_gap" "behind_gap" (defArgs s_behind_gap) (defBody s_behind_gap) (defScope s_behind_gap) .none kV1 dc1 pm1 an1 cd1 ct1), sl1⟩) (c1 : PySem.W.codeIn K cd1 "behind_gap" = true) (k1 : PySem.W.keepIn K (.ref f1) = true)
    {f2 : Addr} {od2 an2 : Option Addr} {sl2 : Array (Option Value)} {oc2 kV2 dc2 pm2 cd2 ct2 : Value}
    (a2 : PySem.W.nsIn K mainGlobals "behind_first" = some (some (.ref f2))) (l2 : K.lookup f2 = some ⟨oc2, od2, .func (PySem.W.fnOf "behind_first" "behind_first" (defArgs s_behind_first) (defBody s_behind_first) (defScope s_behind_first) .none kV2 dc2 pm2 an2 cd2 ct2), sl2⟩) (c2 : PySem.W.codeIn K cd2 "behind_first" = true) (k2 : PySem.W.keepIn K (.ref f2) = true)
    {f3 : Addr} {od3 an3 : Option Addr} {sl3 : Array (Option Value)} {oc3 kV3 dc3 pm3 cd3 ct3 : Value}
    (a3 : PySem.W.nsIn K mainGlobals "behind_sign" = some (some (.ref f3))) (l3 : K.lookup f3 = some ⟨oc3, od3, .func (PySem.W.fnOf "behind_sign" "behind_sign" (defArgs s_behind_sign) (defBody s_behind_sign) (defScope s_behind_sign) .none kV3 dc3 pm3 an3 cd3 ct3), sl3⟩) (c3 : PySem.W.codeIn K cd3 "behind_sign" = true) (k3 : PySem.W.keepIn K (.ref f3) = true)
    {f4 : Addr} {od4 an4 : Option Addr} {sl4 : Array (Option Value)} {oc4 kV4 dc4 pm4 cd4 ct4 : Value}
    (a4 : PySem.W.nsIn K mainGlobals "is_escape" = some (some (.ref f4))) (l4 : K.lookup f4 = some ⟨oc4, od4, .func (PySem.W.fnOf "is_escape" "is_escape" (defArgs s_is_escape) (defBody s_is_escape) (defScope s_is_escape) .none kV4 dc4 pm4 an4 cd4 ct4), sl4⟩) (c4 : PySem.W.codeIn K cd4 "is_escape" = true) (k4 : PySem.W.keepIn K (.ref f4) = true)
    {f5 : Addr} {od5 an5 : Option Addr} {sl5 : Array (Option Value)} {oc5 kV5 dc5 pm5 cd5 ct5 : Value}
    (a5 : PySem.W.nsIn K mainGlobals "first_plain" = some (some (.ref f5))) (l5 : K.lookup f5 = some ⟨oc5, od5, .func (PySem.W.fnOf "first_plain" "first_plain" (defArgs s_first_plain) (defBody s_first_plain) (defScope s_first_plain) .none kV5 dc5 pm5 an5 cd5 ct5), sl5⟩) (c5 : PySem.W.codeIn K cd5 "first_plain" = true) (k5 : PySem.W.keepIn K (.ref f5) = true)
    {f6 : Addr} {od6 an6 : Option Addr} {sl6 : Array (Option Value)} {oc6 kV6 dc6 pm6 cd6 ct6 : Value}
    (a6 : PySem.W.nsIn K mainGlobals "strings_in" = some (some (.ref f6))) (l6 : K.lookup f6 = some ⟨oc6, od6, .func (PySem.W.fnOf "strings_in" "strings_in" (defArgs s_strings_in) (defBody s_strings_in) (defScope s_strings_in) .none kV6 dc6 pm6 an6 cd6 ct6), sl6⟩) (c6 : PySem.W.codeIn K cd6 "strings_in" = true) (k6 : PySem.W.keepIn K (.ref f6) = true)
    {f7 : Addr} {od7 an7 : Option Addr} {sl7 : Array (Option Value)} {oc7 kV7 dc7 pm7 cd7 ct7 : Value}
    (a7 : PySem.W.nsIn K mainGlobals "reference_at" = some (some (.ref f7))) (l7 : K.lookup f7 = some ⟨oc7, od7, .func (PySem.W.fnOf "reference_at" "reference_at" (defArgs s_reference_at) (defBody s_reference_at) (defScope s_reference_at) .none kV7 dc7 pm7 an7 cd7 ct7), sl7⟩) (c7 : PySem.W.codeIn K cd7 "reference_at" = true) (k7 : PySem.W.keepIn K (.ref f7) = true)
    {f8 : Addr} {od8 an8 : Option Addr} {sl8 : Array (Option Value)} {oc8 kV8 dc8 pm8 cd8 ct8 : Value}
    (a8 : PySem.W.nsIn K mainGlobals "decoded" = some (some (.ref f8))) (l8 : K.lookup f8 = some ⟨oc8, od8, .func (PySem.W.fnOf "decoded" "decoded" (defArgs s_decoded) (defBody s_decoded) (defScope s_decoded) .none kV8 dc8 pm8 an8 cd8 ct8), sl8⟩) (c8 : PySem.W.codeIn K cd8 "decoded" = true) (k8 : PySem.W.keepIn K (.ref f8) = true)
    {f9 : Addr} {od9 an9 : Option Addr} {sl9 : Array (Option Value)} {oc9 kV9 dc9 pm9 cd9 ct9 : Value}
    (a9 : PySem.W.nsIn K mainGlobals "decoded_at" = some (some (.ref f9))) (l9 : K.lookup f9 = some ⟨oc9, od9, .func (PySem.W.fnOf "decoded_at" "decoded_at" (defArgs s_decoded_at) (defBody s_decoded_at) (defScope s_decoded_at) .none kV9 dc9 pm9 an9 cd9 ct9), sl9⟩) (c9 : PySem.W.codeIn K cd9 "decoded_at" = true) (k9 : PySem.W.keepIn K (.ref f9) = true)
    {f10 : Addr} {od10 an10 : Option Addr} {sl10 : Array (Option Value)} {oc10 kV10 dc10 pm10 cd10 ct10 : Value}
    (a10 : PySem.W.nsIn K mainGlobals "sign_meant" = some (some (.ref f10))) (l10 : K.lookup f10 = some ⟨oc10, od10, .func (PySem.W.fnOf "sign_meant" "sign_meant" (defArgs s_sign_meant) (defBody s_sign_meant) (defScope s_sign_meant) .none kV10 dc10 pm10 an10 cd10 ct10), sl10⟩) (c10 : PySem.W.codeIn K cd10 "sign_meant" = true) (k10 : PySem.W.keepIn K (.ref f10) = true)
    {f11 : Addr} {od11 an11 : Option Addr} {sl11 : Array (Option Value)} {oc11 kV11 dc11 pm11 cd11 ct11 : Value}
    (a11 : PySem.W.nsIn K mainGlobals "number_in" = some (some (.ref f11))) (l11 : K.lookup f11 = some ⟨oc11, od11, .func (PySem.W.fnOf "number_in" "number_in" (defArgs s_number_in) (defBody s_number_in) (defScope s_number_in) .none kV11 dc11 pm11 an11 cd11 ct11), sl11⟩) (c11 : PySem.W.codeIn K cd11 "number_in" = true) (k11 : PySem.W.keepIn K (.ref f11) = true)
    {f12 : Addr} {od12 an12 : Option Addr} {sl12 : Array (Option Value)} {oc12 kV12 dc12 pm12 cd12 ct12 : Value}
    (a12 : PySem.W.nsIn K mainGlobals "sign_of" = some (some (.ref f12))) (l12 : K.lookup f12 = some ⟨oc12, od12, .func (PySem.W.fnOf "sign_of" "sign_of" (defArgs s_sign_of) (defBody s_sign_of) (defScope s_sign_of) .none kV12 dc12 pm12 an12 cd12 ct12), sl12⟩) (c12 : PySem.W.codeIn K cd12 "sign_of" = true) (k12 : PySem.W.keepIn K (.ref f12) = true)
    {f13 : Addr} {od13 an13 : Option Addr} {sl13 : Array (Option Value)} {oc13 kV13 dc13 pm13 cd13 ct13 : Value}
    (a13 : PySem.W.nsIn K mainGlobals "normalised" = some (some (.ref f13))) (l13 : K.lookup f13 = some ⟨oc13, od13, .func (PySem.W.fnOf "normalised" "normalised" (defArgs s_normalised) (defBody s_normalised) (defScope s_normalised) .none kV13 dc13 pm13 an13 cd13 ct13), sl13⟩) (c13 : PySem.W.codeIn K cd13 "normalised" = true) (k13 : PySem.W.keepIn K (.ref f13) = true)
    {f14 : Addr} {od14 an14 : Option Addr} {sl14 : Array (Option Value)} {oc14 kV14 dc14 pm14 cd14 ct14 : Value}
    (a14 : PySem.W.nsIn K mainGlobals "is_label_text" = some (some (.ref f14))) (l14 : K.lookup f14 = some ⟨oc14, od14, .func (PySem.W.fnOf "is_label_text" "is_label_text" (defArgs s_is_label_text) (defBody s_is_label_text) (defScope s_is_label_text) .none kV14 dc14 pm14 an14 cd14 ct14), sl14⟩) (c14 : PySem.W.codeIn K cd14 "is_label_text" = true) (k14 : PySem.W.keepIn K (.ref f14) = true)
    {f15 : Addr} {od15 an15 : Option Addr} {sl15 : Array (Option Value)} {oc15 kV15 dc15 pm15 cd15 ct15 : Value}
    (a15 : PySem.W.nsIn K mainGlobals "is_label" = some (some (.ref f15))) (l15 : K.lookup f15 = some ⟨oc15, od15, .func (PySem.W.fnOf "is_label" "is_label" (defArgs s_is_label) (defBody s_is_label) (defScope s_is_label) .none kV15 dc15 pm15 an15 cd15 ct15), sl15⟩) (c15 : PySem.W.codeIn K cd15 "is_label" = true) (k15 : PySem.W.keepIn K (.ref f15) = true)
    {f16 : Addr} {od16 an16 : Option Addr} {sl16 : Array (Option Value)} {oc16 kV16 dc16 pm16 cd16 ct16 : Value}
    (a16 : PySem.W.nsIn K mainGlobals "label_at" = some (some (.ref f16))) (l16 : K.lookup f16 = some ⟨oc16, od16, .func (PySem.W.fnOf "label_at" "label_at" (defArgs s_label_at) (defBody s_label_at) (defScope s_label_at) .none kV16 dc16 pm16 an16 cd16 ct16), sl16⟩) (c16 : PySem.W.codeIn K cd16 "label_at" = true) (k16 : PySem.W.keepIn K (.ref f16) = true)
    {f17 : Addr} {od17 an17 : Option Addr} {sl17 : Array (Option Value)} {oc17 kV17 dc17 pm17 cd17 ct17 : Value}
    (a17 : PySem.W.nsIn K mainGlobals "target_at" = some (some (.ref f17))) (l17 : K.lookup f17 = some ⟨oc17, od17, .func (PySem.W.fnOf "target_at" "target_at" (defArgs s_target_at) (defBody s_target_at) (defScope s_target_at) .none kV17 dc17 pm17 an17 cd17 ct17), sl17⟩) (c17 : PySem.W.codeIn K cd17 "target_at" = true) (k17 : PySem.W.keepIn K (.ref f17) = true)
    {f18 : Addr} {od18 an18 : Option Addr} {sl18 : Array (Option Value)} {oc18 kV18 dc18 pm18 cd18 ct18 : Value}
    (a18 : PySem.W.nsIn K mainGlobals "title_or_none" = some (some (.ref f18))) (l18 : K.lookup f18 = some ⟨oc18, od18, .func (PySem.W.fnOf "title_or_none" "title_or_none" (defArgs s_title_or_none) (defBody s_title_or_none) (defScope s_title_or_none) .none kV18 dc18 pm18 an18 cd18 ct18), sl18⟩) (c18 : PySem.W.codeIn K cd18 "title_or_none" = true) (k18 : PySem.W.keepIn K (.ref f18) = true)
    {f19 : Addr} {od19 an19 : Option Addr} {sl19 : Array (Option Value)} {oc19 kV19 dc19 pm19 cd19 ct19 : Value}
    (a19 : PySem.W.nsIn K mainGlobals "destination_at" = some (some (.ref f19))) (l19 : K.lookup f19 = some ⟨oc19, od19, .func (PySem.W.fnOf "destination_at" "destination_at" (defArgs s_destination_at) (defBody s_destination_at) (defScope s_destination_at) .none kV19 dc19 pm19 an19 cd19 ct19), sl19⟩) (c19 : PySem.W.codeIn K cd19 "destination_at" = true) (k19 : PySem.W.keepIn K (.ref f19) = true)
    {f20 : Addr} {od20 an20 : Option Addr} {sl20 : Array (Option Value)} {oc20 kV20 dc20 pm20 cd20 ct20 : Value}
    (a20 : PySem.W.nsIn K mainGlobals "title_at" = some (some (.ref f20))) (l20 : K.lookup f20 = some ⟨oc20, od20, .func (PySem.W.fnOf "title_at" "title_at" (defArgs s_title_at) (defBody s_title_at) (defScope s_title_at) .none kV20 dc20 pm20 an20 cd20 ct20), sl20⟩) (c20 : PySem.W.codeIn K cd20 "title_at" = true) (k20 : PySem.W.keepIn K (.ref f20) = true)
    {f21 : Addr} {od21 an21 : Option Addr} {sl21 : Array (Option Value)} {oc21 kV21 dc21 pm21 cd21 ct21 : Value}
    (a21 : PySem.W.nsIn K mainGlobals "enclosed_at" = some (some (.ref f21))) (l21 : K.lookup f21 = some ⟨oc21, od21, .func (PySem.W.fnOf "enclosed_at" "enclosed_at" (defArgs s_enclosed_at) (defBody s_enclosed_at) (defScope s_enclosed_at) .none kV21 dc21 pm21 an21 cd21 ct21), sl21⟩) (c21 : PySem.W.codeIn K cd21 "enclosed_at" = true) (k21 : PySem.W.keepIn K (.ref f21) = true)
    {f22 : Addr} {od22 an22 : Option Addr} {sl22 : Array (Option Value)} {oc22 kV22 dc22 pm22 cd22 ct22 : Value}
    (a22 : PySem.W.nsIn K mainGlobals "behind_bare" = some (some (.ref f22))) (l22 : K.lookup f22 = some ⟨oc22, od22, .func (PySem.W.fnOf "behind_bare" "behind_bare" (defArgs s_behind_bare) (defBody s_behind_bare) (defScope s_behind_bare) .none kV22 dc22 pm22 an22 cd22 ct22), sl22⟩) (c22 : PySem.W.codeIn K cd22 "behind_bare" = true) (k22 : PySem.W.keepIn K (.ref f22) = true)
    {f23 : Addr} {od23 an23 : Option Addr} {sl23 : Array (Option Value)} {oc23 kV23 dc23 pm23 cd23 ct23 : Value}
    (a23 : PySem.W.nsIn K mainGlobals "tag_at" = some (some (.ref f23))) (l23 : K.lookup f23 = some ⟨oc23, od23, .func (PySem.W.fnOf "tag_at" "tag_at" (defArgs s_tag_at) (defBody s_tag_at) (defScope s_tag_at) .none kV23 dc23 pm23 an23 cd23 ct23), sl23⟩) (c23 : PySem.W.codeIn K cd23 "tag_at" = true) (k23 : PySem.W.keepIn K (.ref f23) = true)
    {f24 : Addr} {od24 an24 : Option Addr} {sl24 : Array (Option Value)} {oc24 kV24 dc24 pm24 cd24 ct24 : Value}
    (a24 : PySem.W.nsIn K mainGlobals "open_tag_at" = some (some (.ref f24))) (l24 : K.lookup f24 = some ⟨oc24, od24, .func (PySem.W.fnOf "open_tag_at" "open_tag_at" (defArgs s_open_tag_at) (defBody s_open_tag_at) (defScope s_open_tag_at) .none kV24 dc24 pm24 an24 cd24 ct24), sl24⟩) (c24 : PySem.W.codeIn K cd24 "open_tag_at" = true) (k24 : PySem.W.keepIn K (.ref f24) = true)
    {f25 : Addr} {od25 an25 : Option Addr} {sl25 : Array (Option Value)} {oc25 kV25 dc25 pm25 cd25 ct25 : Value}
    (a25 : PySem.W.nsIn K mainGlobals "closing_tag_at" = some (some (.ref f25))) (l25 : K.lookup f25 = some ⟨oc25, od25, .func (PySem.W.fnOf "closing_tag_at" "closing_tag_at" (defArgs s_closing_tag_at) (defBody s_closing_tag_at) (defScope s_closing_tag_at) .none kV25 dc25 pm25 an25 cd25 ct25), sl25⟩) (c25 : PySem.W.codeIn K cd25 "closing_tag_at" = true) (k25 : PySem.W.keepIn K (.ref f25) = true)
    {f26 : Addr} {od26 an26 : Option Addr} {sl26 : Array (Option Value)} {oc26 kV26 dc26 pm26 cd26 ct26 : Value}
    (a26 : PySem.W.nsIn K mainGlobals "attribute_at" = some (some (.ref f26))) (l26 : K.lookup f26 = some ⟨oc26, od26, .func (PySem.W.fnOf "attribute_at" "attribute_at" (defArgs s_attribute_at) (defBody s_attribute_at) (defScope s_attribute_at) .none kV26 dc26 pm26 an26 cd26 ct26), sl26⟩) (c26 : PySem.W.codeIn K cd26 "attribute_at" = true) (k26 : PySem.W.keepIn K (.ref f26) = true)
    {f27 : Addr} {od27 an27 : Option Addr} {sl27 : Array (Option Value)} {oc27 kV27 dc27 pm27 cd27 ct27 : Value}
    (a27 : PySem.W.nsIn K mainGlobals "value_at" = some (some (.ref f27))) (l27 : K.lookup f27 = some ⟨oc27, od27, .func (PySem.W.fnOf "value_at" "value_at" (defArgs s_value_at) (defBody s_value_at) (defScope s_value_at) .none kV27 dc27 pm27 an27 cd27 ct27), sl27⟩) (c27 : PySem.W.codeIn K cd27 "value_at" = true) (k27 : PySem.W.keepIn K (.ref f27) = true)
    {f28 : Addr} {od28 an28 : Option Addr} {sl28 : Array (Option Value)} {oc28 kV28 dc28 pm28 cd28 ct28 : Value}
    (a28 : PySem.W.nsIn K mainGlobals "name_at" = some (some (.ref f28))) (l28 : K.lookup f28 = some ⟨oc28, od28, .func (PySem.W.fnOf "name_at" "name_at" (defArgs s_name_at) (defBody s_name_at) (defScope s_name_at) .none kV28 dc28 pm28 an28 cd28 ct28), sl28⟩) (c28 : PySem.W.codeIn K cd28 "name_at" = true) (k28 : PySem.W.keepIn K (.ref f28) = true)
    {f29 : Addr} {od29 an29 : Option Addr} {sl29 : Array (Option Value)} {oc29 kV29 dc29 pm29 cd29 ct29 : Value}
    (a29 : PySem.W.nsIn K mainGlobals "is_letter" = some (some (.ref f29))) (l29 : K.lookup f29 = some ⟨oc29, od29, .func (PySem.W.fnOf "is_letter" "is_letter" (defArgs s_is_letter) (defBody s_is_letter) (defScope s_is_letter) .none kV29 dc29 pm29 an29 cd29 ct29), sl29⟩) (c29 : PySem.W.codeIn K cd29 "is_letter" = true) (k29 : PySem.W.keepIn K (.ref f29) = true)
    {f30 : Addr} {od30 an30 : Option Addr} {sl30 : Array (Option Value)} {oc30 kV30 dc30 pm30 cd30 ct30 : Value}
    (a30 : PySem.W.nsIn K mainGlobals "autolink_at" = some (some (.ref f30))) (l30 : K.lookup f30 = some ⟨oc30, od30, .func (PySem.W.fnOf "autolink_at" "autolink_at" (defArgs s_autolink_at) (defBody s_autolink_at) (defScope s_autolink_at) .none kV30 dc30 pm30 an30 cd30 ct30), sl30⟩) (c30 : PySem.W.codeIn K cd30 "autolink_at" = true) (k30 : PySem.W.keepIn K (.ref f30) = true)
    {f31 : Addr} {od31 an31 : Option Addr} {sl31 : Array (Option Value)} {oc31 kV31 dc31 pm31 cd31 ct31 : Value}
    (a31 : PySem.W.nsIn K mainGlobals "begins_with_scheme" = some (some (.ref f31))) (l31 : K.lookup f31 = some ⟨oc31, od31, .func (PySem.W.fnOf "begins_with_scheme" "begins_with_scheme" (defArgs s_begins_with_scheme) (defBody s_begins_with_scheme) (defScope s_begins_with_scheme) .none kV31 dc31 pm31 an31 cd31 ct31), sl31⟩) (c31 : PySem.W.codeIn K cd31 "begins_with_scheme" = true) (k31 : PySem.W.keepIn K (.ref f31) = true)
    {f32 : Addr} {od32 an32 : Option Addr} {sl32 : Array (Option Value)} {oc32 kV32 dc32 pm32 cd32 ct32 : Value}
    (a32 : PySem.W.nsIn K mainGlobals "is_address" = some (some (.ref f32))) (l32 : K.lookup f32 = some ⟨oc32, od32, .func (PySem.W.fnOf "is_address" "is_address" (defArgs s_is_address) (defBody s_is_address) (defScope s_is_address) .none kV32 dc32 pm32 an32 cd32 ct32), sl32⟩) (c32 : PySem.W.codeIn K cd32 "is_address" = true) (k32 : PySem.W.keepIn K (.ref f32) = true)
    {f33 : Addr} {od33 an33 : Option Addr} {sl33 : Array (Option Value)} {oc33 kV33 dc33 pm33 cd33 ct33 : Value}
    (a33 : PySem.W.nsIn K mainGlobals "is_part" = some (some (.ref f33))) (l33 : K.lookup f33 = some ⟨oc33, od33, .func (PySem.W.fnOf "is_part" "is_part" (defArgs s_is_part) (defBody s_is_part) (defScope s_is_part) .none kV33 dc33 pm33 an33 cd33 ct33), sl33⟩) (c33 : PySem.W.codeIn K cd33 "is_part" = true) (k33 : PySem.W.keepIn K (.ref f33) = true)
    {f34 : Addr} {od34 an34 : Option Addr} {sl34 : Array (Option Value)} {oc34 kV34 dc34 pm34 cd34 ct34 : Value}
    (a34 : PySem.W.nsIn K mainGlobals "run_at" = some (some (.ref f34))) (l34 : K.lookup f34 = some ⟨oc34, od34, .func (PySem.W.fnOf "run_at" "run_at" (defArgs s_run_at) (defBody s_run_at) (defScope s_run_at) .none kV34 dc34 pm34 an34 cd34 ct34), sl34⟩) (c34 : PySem.W.codeIn K cd34 "run_at" = true) (k34 : PySem.W.keepIn K (.ref f34) = true)
    {f35 : Addr} {od35 an35 : Option Addr} {sl35 : Array (Option Value)} {oc35 kV35 dc35 pm35 cd35 ct35 : Value}
    (a35 : PySem.W.nsIn K mainGlobals "kind_of" = some (some (.ref f35))) (l35 : K.lookup f35 = some ⟨oc35, od35, .func (PySem.W.fnOf "kind_of" "kind_of" (defArgs s_kind_of) (defBody s_kind_of) (defScope s_kind_of) .none kV35 dc35 pm35 an35 cd35 ct35), sl35⟩) (c35 : PySem.W.codeIn K cd35 "kind_of" = true) (k35 : PySem.W.keepIn K (.ref f35) = true)
    {f36 : Addr} {od36 an36 : Option Addr} {sl36 : Array (Option Value)} {oc36 kV36 dc36 pm36 cd36 ct36 : Value}
    (a36 : PySem.W.nsIn K mainGlobals "pair" = some (some (.ref f36))) (l36 : K.lookup f36 = some ⟨oc36, od36, .func (PySem.W.fnOf "pair" "pair" (defArgs s_pair) (defBody s_pair) (defScope s_pair) .none kV36 dc36 pm36 an36 cd36 ct36), sl36⟩) (c36 : PySem.W.codeIn K cd36 "pair" = true) (k36 : PySem.W.keepIn K (.ref f36) = true)
    {f37 : Addr} {od37 an37 : Option Addr} {sl37 : Array (Option Value)} {oc37 kV37 dc37 pm37 cd37 ct37 : Value}
    (a37 : PySem.W.nsIn K mainGlobals "sort_of" = some (some (.ref f37))) (l37 : K.lookup f37 = some ⟨oc37, od37, .func (PySem.W.fnOf "sort_of" "sort_of" (defArgs s_sort_of) (defBody s_sort_of) (defScope s_sort_of) .none kV37 dc37 pm37 an37 cd37 ct37), sl37⟩) (c37 : PySem.W.codeIn K cd37 "sort_of" = true) (k37 : PySem.W.keepIn K (.ref f37) = true)
    {f38 : Addr} {od38 an38 : Option Addr} {sl38 : Array (Option Value)} {oc38 kV38 dc38 pm38 cd38 ct38 : Value}
    (a38 : PySem.W.nsIn K mainGlobals "stack_of_partner" = some (some (.ref f38))) (l38 : K.lookup f38 = some ⟨oc38, od38, .func (PySem.W.fnOf "stack_of_partner" "stack_of_partner" (defArgs s_stack_of_partner) (defBody s_stack_of_partner) (defScope s_stack_of_partner) .none kV38 dc38 pm38 an38 cd38 ct38), sl38⟩) (c38 : PySem.W.codeIn K cd38 "stack_of_partner" = true) (k38 : PySem.W.keepIn K (.ref f38) = true)
    {f39 : Addr} {od39 an39 : Option Addr} {sl39 : Array (Option Value)} {oc39 kV39 dc39 pm39 cd39 ct39 : Value}
    (a39 : PySem.W.nsIn K mainGlobals "may_pair" = some (some (.ref f39))) (l39 : K.lookup f39 = some ⟨oc39, od39, .func (PySem.W.fnOf "may_pair" "may_pair" (defArgs s_may_pair) (defBody s_may_pair) (defScope s_may_pair) .none kV39 dc39 pm39 an39 cd39 ct39), sl39⟩) (c39 : PySem.W.codeIn K cd39 "may_pair" = true) (k39 : PySem.W.keepIn K (.ref f39) = true)
    {f40 : Addr} {od40 an40 : Option Addr} {sl40 : Array (Option Value)} {oc40 kV40 dc40 pm40 cd40 ct40 : Value}
    (a40 : PySem.W.nsIn K mainGlobals "take_both" = some (some (.ref f40))) (l40 : K.lookup f40 = some ⟨oc40, od40, .func (PySem.W.fnOf "take_both" "take_both" (defArgs s_take_both) (defBody s_take_both) (defScope s_take_both) .none kV40 dc40 pm40 an40 cd40 ct40), sl40⟩) (c40 : PySem.W.codeIn K cd40 "take_both" = true) (k40 : PySem.W.keepIn K (.ref f40) = true)
    {f41 : Addr} {od41 an41 : Option Addr} {sl41 : Array (Option Value)} {oc41 kV41 dc41 pm41 cd41 ct41 : Value}
    (a41 : PySem.W.nsIn K mainGlobals "built" = some (some (.ref f41))) (l41 : K.lookup f41 = some ⟨oc41, od41, .func (PySem.W.fnOf "built" "built" (defArgs s_built) (defBody s_built) (defScope s_built) .none kV41 dc41 pm41 an41 cd41 ct41), sl41⟩) (c41 : PySem.W.codeIn K cd41 "built" = true) (k41 : PySem.W.keepIn K (.ref f41) = true)
    {f42 : Addr} {od42 an42 : Option Addr} {sl42 : Array (Option Value)} {oc42 kV42 dc42 pm42 cd42 ct42 : Value}
    (a42 : PySem.W.nsIn K mainGlobals "joined" = some (some (.ref f42))) (l42 : K.lookup f42 = some ⟨oc42, od42, .func (PySem.W.fnOf "joined" "joined" (defArgs s_joined) (defBody s_joined) (defScope s_joined) .none kV42 dc42 pm42 an42 cd42 ct42), sl42⟩) (c42 : PySem.W.codeIn K cd42 "joined" = true) (k42 : PySem.W.keepIn K (.ref f42) = true)
    {f43 : Addr} {od43 an43 : Option Addr} {sl43 : Array (Option Value)} {oc43 kV43 dc43 pm43 cd43 ct43 : Value}
    (a43 : PySem.W.nsIn K mainGlobals "add_text" = some (some (.ref f43))) (l43 : K.lookup f43 = some ⟨oc43, od43, .func (PySem.W.fnOf "add_text" "add_text" (defArgs s_add_text) (defBody s_add_text) (defScope s_add_text) .none kV43 dc43 pm43 an43 cd43 ct43), sl43⟩) (c43 : PySem.W.codeIn K cd43 "add_text" = true) (k43 : PySem.W.keepIn K (.ref f43) = true)
    {f44 : Addr} {od44 an44 : Option Addr} {sl44 : Array (Option Value)} {oc44 kV44 dc44 pm44 cd44 ct44 : Value}
    (a44 : PySem.W.nsIn K mainGlobals "scanned" = some (some (.ref f44))) (l44 : K.lookup f44 = some ⟨oc44, od44, .func (PySem.W.fnOf "scanned" "scanned" (defArgs s_scanned) (defBody s_scanned) (defScope s_scanned) .none kV44 dc44 pm44 an44 cd44 ct44), sl44⟩) (c44 : PySem.W.codeIn K cd44 "scanned" = true) (k44 : PySem.W.keepIn K (.ref f44) = true)
    {f45 : Addr} {od45 an45 : Option Addr} {sl45 : Array (Option Value)} {oc45 kV45 dc45 pm45 cd45 ct45 : Value}
    (a45 : PySem.W.nsIn K mainGlobals "take_plain" = some (some (.ref f45))) (l45 : K.lookup f45 = some ⟨oc45, od45, .func (PySem.W.fnOf "take_plain" "take_plain" (defArgs s_take_plain) (defBody s_take_plain) (defScope s_take_plain) .none kV45 dc45 pm45 an45 cd45 ct45), sl45⟩) (c45 : PySem.W.codeIn K cd45 "take_plain" = true) (k45 : PySem.W.keepIn K (.ref f45) = true)
    {f46 : Addr} {od46 an46 : Option Addr} {sl46 : Array (Option Value)} {oc46 kV46 dc46 pm46 cd46 ct46 : Value}
    (a46 : PySem.W.nsIn K mainGlobals "take_backslash" = some (some (.ref f46))) (l46 : K.lookup f46 = some ⟨oc46, od46, .func (PySem.W.fnOf "take_backslash" "take_backslash" (defArgs s_take_backslash) (defBody s_take_backslash) (defScope s_take_backslash) .none kV46 dc46 pm46 an46 cd46 ct46), sl46⟩) (c46 : PySem.W.codeIn K cd46 "take_backslash" = true) (k46 : PySem.W.keepIn K (.ref f46) = true)
    {f47 : Addr} {od47 an47 : Option Addr} {sl47 : Array (Option Value)} {oc47 kV47 dc47 pm47 cd47 ct47 : Value}
    (a47 : PySem.W.nsIn K mainGlobals "take_backquotes" = some (some (.ref f47))) (l47 : K.lookup f47 = some ⟨oc47, od47, .func (PySem.W.fnOf "take_backquotes" "take_backquotes" (defArgs s_take_backquotes) (defBody s_take_backquotes) (defScope s_take_backquotes) .none kV47 dc47 pm47 an47 cd47 ct47), sl47⟩) (c47 : PySem.W.codeIn K cd47 "take_backquotes" = true) (k47 : PySem.W.keepIn K (.ref f47) = true)
    {f48 : Addr} {od48 an48 : Option Addr} {sl48 : Array (Option Value)} {oc48 kV48 dc48 pm48 cd48 ct48 : Value}
    (a48 : PySem.W.nsIn K mainGlobals "code_text" = some (some (.ref f48))) (l48 : K.lookup f48 = some ⟨oc48, od48, .func (PySem.W.fnOf "code_text" "code_text" (defArgs s_code_text) (defBody s_code_text) (defScope s_code_text) .none kV48 dc48 pm48 an48 cd48 ct48), sl48⟩) (c48 : PySem.W.codeIn K cd48 "code_text" = true) (k48 : PySem.W.keepIn K (.ref f48) = true)
    {f49 : Addr} {od49 an49 : Option Addr} {sl49 : Array (Option Value)} {oc49 kV49 dc49 pm49 cd49 ct49 : Value}
    (a49 : PySem.W.nsIn K mainGlobals "take_angle" = some (some (.ref f49))) (l49 : K.lookup f49 = some ⟨oc49, od49, .func (PySem.W.fnOf "take_angle" "take_angle" (defArgs s_take_angle) (defBody s_take_angle) (defScope s_take_angle) .none kV49 dc49 pm49 an49 cd49 ct49), sl49⟩) (c49 : PySem.W.codeIn K cd49 "take_angle" = true) (k49 : PySem.W.keepIn K (.ref f49) = true)
    {f50 : Addr} {od50 an50 : Option Addr} {sl50 : Array (Option Value)} {oc50 kV50 dc50 pm50 cd50 ct50 : Value}
    (a50 : PySem.W.nsIn K mainGlobals "take_reference" = some (some (.ref f50))) (l50 : K.lookup f50 = some ⟨oc50, od50, .func (PySem.W.fnOf "take_reference" "take_reference" (defArgs s_take_reference) (defBody s_take_reference) (defScope s_take_reference) .none kV50 dc50 pm50 an50 cd50 ct50), sl50⟩) (c50 : PySem.W.codeIn K cd50 "take_reference" = true) (k50 : PySem.W.keepIn K (.ref f50) = true)
    {f51 : Addr} {od51 an51 : Option Addr} {sl51 : Array (Option Value)} {oc51 kV51 dc51 pm51 cd51 ct51 : Value}
    (a51 : PySem.W.nsIn K mainGlobals "take_line_feed" = some (some (.ref f51))) (l51 : K.lookup f51 = some ⟨oc51, od51, .func (PySem.W.fnOf "take_line_feed" "take_line_feed" (defArgs s_take_line_feed) (defBody s_take_line_feed) (defScope s_take_line_feed) .none kV51 dc51 pm51 an51 cd51 ct51), sl51⟩) (c51 : PySem.W.codeIn K cd51 "take_line_feed" = true) (k51 : PySem.W.keepIn K (.ref f51) = true)
    {f52 : Addr} {od52 an52 : Option Addr} {sl52 : Array (Option Value)} {oc52 kV52 dc52 pm52 cd52 ct52 : Value}
    (a52 : PySem.W.nsIn K mainGlobals "take_run" = some (some (.ref f52))) (l52 : K.lookup f52 = some ⟨oc52, od52, .func (PySem.W.fnOf "take_run" "take_run" (defArgs s_take_run) (defBody s_take_run) (defScope s_take_run) .none kV52 dc52 pm52 an52 cd52 ct52), sl52⟩) (c52 : PySem.W.codeIn K cd52 "take_run" = true) (k52 : PySem.W.keepIn K (.ref f52) = true)
    {f53 : Addr} {od53 an53 : Option Addr} {sl53 : Array (Option Value)} {oc53 kV53 dc53 pm53 cd53 ct53 : Value}
    (a53 : PySem.W.nsIn K mainGlobals "take_bracket" = some (some (.ref f53))) (l53 : K.lookup f53 = some ⟨oc53, od53, .func (PySem.W.fnOf "take_bracket" "take_bracket" (defArgs s_take_bracket) (defBody s_take_bracket) (defScope s_take_bracket) .none kV53 dc53 pm53 an53 cd53 ct53), sl53⟩) (c53 : PySem.W.codeIn K cd53 "take_bracket" = true) (k53 : PySem.W.keepIn K (.ref f53) = true)
    {f54 : Addr} {od54 an54 : Option Addr} {sl54 : Array (Option Value)} {oc54 kV54 dc54 pm54 cd54 ct54 : Value}
    (a54 : PySem.W.nsIn K mainGlobals "take_exclamation" = some (some (.ref f54))) (l54 : K.lookup f54 = some ⟨oc54, od54, .func (PySem.W.fnOf "take_exclamation" "take_exclamation" (defArgs s_take_exclamation) (defBody s_take_exclamation) (defScope s_take_exclamation) .none kV54 dc54 pm54 an54 cd54 ct54), sl54⟩) (c54 : PySem.W.codeIn K cd54 "take_exclamation" = true) (k54 : PySem.W.keepIn K (.ref f54) = true)
    {f55 : Addr} {od55 an55 : Option Addr} {sl55 : Array (Option Value)} {oc55 kV55 dc55 pm55 cd55 ct55 : Value}
    (a55 : PySem.W.nsIn K mainGlobals "note" = some (some (.ref f55))) (l55 : K.lookup f55 = some ⟨oc55, od55, .func (PySem.W.fnOf "note" "note" (defArgs s_note) (defBody s_note) (defScope s_note) .none kV55 dc55 pm55 an55 cd55 ct55), sl55⟩) (c55 : PySem.W.codeIn K cd55 "note" = true) (k55 : PySem.W.keepIn K (.ref f55) = true)
    {f56 : Addr} {od56 an56 : Option Addr} {sl56 : Array (Option Value)} {oc56 kV56 dc56 pm56 cd56 ct56 : Value}
    (a56 : PySem.W.nsIn K mainGlobals "take_end" = some (some (.ref f56))) (l56 : K.lookup f56 = some ⟨oc56, od56, .func (PySem.W.fnOf "take_end" "take_end" (defArgs s_take_end) (defBody s_take_end) (defScope s_take_end) .none kV56 dc56 pm56 an56 cd56 ct56), sl56⟩) (c56 : PySem.W.codeIn K cd56 "take_end" = true) (k56 : PySem.W.keepIn K (.ref f56) = true)
    {f57 : Addr} {od57 an57 : Option Addr} {sl57 : Array (Option Value)} {oc57 kV57 dc57 pm57 cd57 ct57 : Value}
    (a57 : PySem.W.nsIn K mainGlobals "found_behind" = some (some (.ref f57))) (l57 : K.lookup f57 = some ⟨oc57, od57, .func (PySem.W.fnOf "found_behind" "found_behind" (defArgs s_found_behind) (defBody s_found_behind) (defScope s_found_behind) .none kV57 dc57 pm57 an57 cd57 ct57), sl57⟩) (c57 : PySem.W.codeIn K cd57 "found_behind" = true) (k57 : PySem.W.keepIn K (.ref f57) = true)
    {f58 : Addr} {od58 an58 : Option Addr} {sl58 : Array (Option Value)} {oc58 kV58 dc58 pm58 cd58 ct58 : Value}
    (a58 : PySem.W.nsIn K mainGlobals "own_label" = some (some (.ref f58))) (l58 : K.lookup f58 = some ⟨oc58, od58, .func (PySem.W.fnOf "own_label" "own_label" (defArgs s_own_label) (defBody s_own_label) (defScope s_own_label) .none kV58 dc58 pm58 an58 cd58 ct58), sl58⟩) (c58 : PySem.W.codeIn K cd58 "own_label" = true) (k58 : PySem.W.keepIn K (.ref f58) = true)
    {f59 : Addr} {od59 an59 : Option Addr} {sl59 : Array (Option Value)} {oc59 kV59 dc59 pm59 cd59 ct59 : Value}
    (a59 : PySem.W.nsIn K mainGlobals "check_source" = some (some (.ref f59))) (l59 : K.lookup f59 = some ⟨oc59, od59, .func (PySem.W.fnOf "check_source" "check_source" (defArgs s_check_source) (defBody s_check_source) (defScope s_check_source) .none kV59 dc59 pm59 an59 cd59 ct59), sl59⟩) (c59 : PySem.W.codeIn K cd59 "check_source" = true) (k59 : PySem.W.keepIn K (.ref f59) = true)
    {f60 : Addr} {od60 an60 : Option Addr} {sl60 : Array (Option Value)} {oc60 kV60 dc60 pm60 cd60 ct60 : Value}
    {dV60 : Value} {tD60 : Addr} {oD60 : Option Addr} {nD60 : Nat} {wD60 : Array (Option Value)}
    (a60 : PySem.W.nsIn K mainGlobals "inlines" = some (some (.ref f60))) (l60 : K.lookup f60 = some ⟨oc60, od60, .func (PySem.W.fnOf "inlines" "inlines" (defArgs s_inlines) (defBody s_inlines) (defScope s_inlines) dV60 kV60 dc60 pm60 an60 cd60 ct60), sl60⟩) (c60 : PySem.W.codeIn K cd60 "inlines" = true) (k60 : PySem.W.keepIn K (.ref f60) = true)
    (E60 : dV60 = .ref tD60) (D60 : K.lookup tD60 = some ⟨.type "tuple", oD60, .seq #[.none] nD60, wD60⟩)
    {f61 : Addr} {od61 an61 : Option Addr} {sl61 : Array (Option Value)} {oc61 kV61 dc61 pm61 cd61 ct61 : Value}
    (a61 : PySem.W.nsIn K mainGlobals "is_known" = some (some (.ref f61))) (l61 : K.lookup f61 = some ⟨oc61, od61, .func (PySem.W.fnOf "is_known" "is_known" (defArgs s_is_known) (defBody s_is_known) (defScope s_is_known) .none kV61 dc61 pm61 an61 cd61 ct61), sl61⟩) (c61 : PySem.W.codeIn K cd61 "is_known" = true) (k61 : PySem.W.keepIn K (.ref f61) = true)
    {f62 : Addr} {od62 an62 : Option Addr} {sl62 : Array (Option Value)} {oc62 kV62 dc62 pm62 cd62 ct62 : Value}
    (a62 : PySem.W.nsIn K mainGlobals "is_target" = some (some (.ref f62))) (l62 : K.lookup f62 = some ⟨oc62, od62, .func (PySem.W.fnOf "is_target" "is_target" (defArgs s_is_target) (defBody s_is_target) (defScope s_is_target) .none kV62 dc62 pm62 an62 cd62 ct62), sl62⟩) (c62 : PySem.W.codeIn K cd62 "is_target" = true) (k62 : PySem.W.keepIn K (.ref f62) = true)
    {f63 : Addr} {od63 an63 : Option Addr} {sl63 : Array (Option Value)} {oc63 kV63 dc63 pm63 cd63 ct63 : Value}
    (a63 : PySem.W.nsIn K mainGlobals "_law_state" = some (some (.ref f63))) (l63 : K.lookup f63 = some ⟨oc63, od63, .func (PySem.W.fnOf "_law_state" "_law_state" (defArgs s__law_state) (defBody s__law_state) (defScope s__law_state) .none kV63 dc63 pm63 an63 cd63 ct63), sl63⟩) (c63 : PySem.W.codeIn K cd63 "_law_state" = true) (k63 : PySem.W.keepIn K (.ref f63) = true)
    {f64 : Addr} {od64 an64 : Option Addr} {sl64 : Array (Option Value)} {oc64 kV64 dc64 pm64 cd64 ct64 : Value}
    (a64 : PySem.W.nsIn K mainGlobals "_law_draw" = some (some (.ref f64))) (l64 : K.lookup f64 = some ⟨oc64, od64, .func (PySem.W.fnOf "_law_draw" "_law_draw" (defArgs s__law_draw) (defBody s__law_draw) (defScope s__law_draw) .none kV64 dc64 pm64 an64 cd64 ct64), sl64⟩) (c64 : PySem.W.codeIn K cd64 "_law_draw" = true) (k64 : PySem.W.keepIn K (.ref f64) = true)
    {f65 : Addr} {od65 an65 : Option Addr} {sl65 : Array (Option Value)} {oc65 kV65 dc65 pm65 cd65 ct65 : Value}
    (a65 : PySem.W.nsIn K mainGlobals "_law_one" = some (some (.ref f65))) (l65 : K.lookup f65 = some ⟨oc65, od65, .func (PySem.W.fnOf "_law_one" "_law_one" (defArgs s__law_one) (defBody s__law_one) (defScope s__law_one) .none kV65 dc65 pm65 an65 cd65 ct65), sl65⟩) (c65 : PySem.W.codeIn K cd65 "_law_one" = true) (k65 : PySem.W.keepIn K (.ref f65) = true)
    {f66 : Addr} {od66 an66 : Option Addr} {sl66 : Array (Option Value)} {oc66 kV66 dc66 pm66 cd66 ct66 : Value}
    (a66 : PySem.W.nsIn K mainGlobals "_law_marks" = some (some (.ref f66))) (l66 : K.lookup f66 = some ⟨oc66, od66, .func (PySem.W.fnOf "_law_marks" "_law_marks" (defArgs s__law_marks) (defBody s__law_marks) (defScope s__law_marks) .none kV66 dc66 pm66 an66 cd66 ct66), sl66⟩) (c66 : PySem.W.codeIn K cd66 "_law_marks" = true) (k66 : PySem.W.keepIn K (.ref f66) = true)
    {f67 : Addr} {od67 an67 : Option Addr} {sl67 : Array (Option Value)} {oc67 kV67 dc67 pm67 cd67 ct67 : Value}
    (a67 : PySem.W.nsIn K mainGlobals "_law_names" = some (some (.ref f67))) (l67 : K.lookup f67 = some ⟨oc67, od67, .func (PySem.W.fnOf "_law_names" "_law_names" (defArgs s__law_names) (defBody s__law_names) (defScope s__law_names) .none kV67 dc67 pm67 an67 cd67 ct67), sl67⟩) (c67 : PySem.W.codeIn K cd67 "_law_names" = true) (k67 : PySem.W.keepIn K (.ref f67) = true)
    {f68 : Addr} {od68 an68 : Option Addr} {sl68 : Array (Option Value)} {oc68 kV68 dc68 pm68 cd68 ct68 : Value}
    (a68 : PySem.W.nsIn K mainGlobals "_law_reference" = some (some (.ref f68))) (l68 : K.lookup f68 = some ⟨oc68, od68, .func (PySem.W.fnOf "_law_reference" "_law_reference" (defArgs s__law_reference) (defBody s__law_reference) (defScope s__law_reference) .none kV68 dc68 pm68 an68 cd68 ct68), sl68⟩) (c68 : PySem.W.codeIn K cd68 "_law_reference" = true) (k68 : PySem.W.keepIn K (.ref f68) = true)
    {f69 : Addr} {od69 an69 : Option Addr} {sl69 : Array (Option Value)} {oc69 kV69 dc69 pm69 cd69 ct69 : Value}
    (a69 : PySem.W.nsIn K mainGlobals "_law_piece" = some (some (.ref f69))) (l69 : K.lookup f69 = some ⟨oc69, od69, .func (PySem.W.fnOf "_law_piece" "_law_piece" (defArgs s__law_piece) (defBody s__law_piece) (defScope s__law_piece) .none kV69 dc69 pm69 an69 cd69 ct69), sl69⟩) (c69 : PySem.W.codeIn K cd69 "_law_piece" = true) (k69 : PySem.W.keepIn K (.ref f69) = true)
    {f70 : Addr} {od70 an70 : Option Addr} {sl70 : Array (Option Value)} {oc70 kV70 dc70 pm70 cd70 ct70 : Value}
    (a70 : PySem.W.nsIn K mainGlobals "_law_break" = some (some (.ref f70))) (l70 : K.lookup f70 = some ⟨oc70, od70, .func (PySem.W.fnOf "_law_break" "_law_break" (defArgs s__law_break) (defBody s__law_break) (defScope s__law_break) .none kV70 dc70 pm70 an70 cd70 ct70), sl70⟩) (c70 : PySem.W.codeIn K cd70 "_law_break" = true) (k70 : PySem.W.keepIn K (.ref f70) = true)
    {f71 : Addr} {od71 an71 : Option Addr} {sl71 : Array (Option Value)} {oc71 kV71 dc71 pm71 cd71 ct71 : Value}
    (a71 : PySem.W.nsIn K mainGlobals "_law_ends_right" = some (some (.ref f71))) (l71 : K.lookup f71 = some ⟨oc71, od71, .func (PySem.W.fnOf "_law_ends_right" "_law_ends_right" (defArgs s__law_ends_right) (defBody s__law_ends_right) (defScope s__law_ends_right) .none kV71 dc71 pm71 an71 cd71 ct71), sl71⟩) (c71 : PySem.W.codeIn K cd71 "_law_ends_right" = true) (k71 : PySem.W.keepIn K (.ref f71) = true)
    {f72 : Addr} {od72 an72 : Option Addr} {sl72 : Array (Option Value)} {oc72 kV72 dc72 pm72 cd72 ct72 : Value}
    (a72 : PySem.W.nsIn K mainGlobals "law" = some (some (.ref f72))) (l72 : K.lookup f72 = some ⟨oc72, od72, .func (PySem.W.fnOf "law" "law" (defArgs s_law) (defBody s_law) (defScope s_law) .none kV72 dc72 pm72 an72 cd72 ct72), sl72⟩) (c72 : PySem.W.codeIn K cd72 "law" = true) (k72 : PySem.W.keepIn K (.ref f72) = true)
    {f73 : Addr} {od73 an73 : Option Addr} {sl73 : Array (Option Value)} {oc73 kV73 dc73 pm73 cd73 ct73 : Value}
    (a73 : PySem.W.findIn K (.ref C_Bracket) "__init__" = some (some (.ref f73))) (i73 : PySem.W.isFn K (.ref f73) = true) (l73 : K.lookup f73 = some ⟨oc73, od73, .func (PySem.W.fnOf "__init__" "Bracket.__init__" (defArgs s_Bracket____init__) (defBody s_Bracket____init__) (defScope s_Bracket____init__) .none kV73 dc73 pm73 an73 cd73 ct73), sl73⟩) (c73 : PySem.W.codeIn K cd73 "Bracket.__init__" = true) (k73 : PySem.W.keepIn K (.ref f73) = true)
    {f74 : Addr} {od74 an74 : Option Addr} {sl74 : Array (Option Value)} {oc74 kV74 dc74 pm74 cd74 ct74 : Value}
    (a74 : PySem.W.findIn K (.ref C_Scan) "__init__" = some (some (.ref f74))) (i74 : PySem.W.isFn K (.ref f74) = true) (l74 : K.lookup f74 = some ⟨oc74, od74, .func (PySem.W.fnOf "__init__" "Scan.__init__" (defArgs s_Scan____init__) (defBody s_Scan____init__) (defScope s_Scan____init__) .none kV74 dc74 pm74 an74 cd74 ct74), sl74⟩) (c74 : PySem.W.codeIn K cd74 "Scan.__init__" = true) (k74 : PySem.W.keepIn K (.ref f74) = true)
    {f75 : Addr} {od75 an75 : Option Addr} {sl75 : Array (Option Value)} {oc75 kV75 dc75 pm75 cd75 ct75 : Value}
    (a75 : PySem.W.findIn K (.ref C_Scan) "put" = some (some (.ref f75))) (i75 : PySem.W.isFn K (.ref f75) = true) (l75 : K.lookup f75 = some ⟨oc75, od75, .func (PySem.W.fnOf "put" "Scan.put" (defArgs s_Scan__put) (defBody s_Scan__put) (defScope s_Scan__put) .none kV75 dc75 pm75 an75 cd75 ct75), sl75⟩) (c75 : PySem.W.codeIn K cd75 "Scan.put" = true) (k75 : PySem.W.keepIn K (.ref f75) = true)
    {f76 : Addr} {od76 an76 : Option Addr} {sl76 : Array (Option Value)} {oc76 kV76 dc76 pm76 cd76 ct76 : Value}
    (a76 : PySem.W.findIn K (.ref C_Scan) "put_text" = some (some (.ref f76))) (i76 : PySem.W.isFn K (.ref f76) = true) (l76 : K.lookup f76 = some ⟨oc76, od76, .func (PySem.W.fnOf "put_text" "Scan.put_text" (defArgs s_Scan__put_text) (defBody s_Scan__put_text) (defScope s_Scan__put_text) .none kV76 dc76 pm76 an76 cd76 ct76), sl76⟩) (c76 : PySem.W.codeIn K cd76 "Scan.put_text" = true) (k76 : PySem.W.keepIn K (.ref f76) = true)
    {f77 : Addr} {od77 an77 : Option Addr} {sl77 : Array (Option Value)} {oc77 kV77 dc77 pm77 cd77 ct77 : Value}
    (a77 : PySem.W.findIn K (.ref C_Scan) "is_active" = some (some (.ref f77))) (i77 : PySem.W.isFn K (.ref f77) = true) (l77 : K.lookup f77 = some ⟨oc77, od77, .func (PySem.W.fnOf "is_active" "Scan.is_active" (defArgs s_Scan__is_active) (defBody s_Scan__is_active) (defScope s_Scan__is_active) .none kV77 dc77 pm77 an77 cd77 ct77), sl77⟩) (c77 : PySem.W.codeIn K cd77 "Scan.is_active" = true) (k77 : PySem.W.keepIn K (.ref f77) = true)
    {f78 : Addr} {od78 an78 : Option Addr} {sl78 : Array (Option Value)} {oc78 kV78 dc78 pm78 cd78 ct78 : Value}
    (a78 : PySem.W.findIn K (.ref C_Run) "__init__" = some (some (.ref f78))) (i78 : PySem.W.isFn K (.ref f78) = true) (l78 : K.lookup f78 = some ⟨oc78, od78, .func (PySem.W.fnOf "__init__" "Run.__init__" (defArgs s_Run____init__) (defBody s_Run____init__) (defScope s_Run____init__) .none kV78 dc78 pm78 an78 cd78 ct78), sl78⟩) (c78 : PySem.W.codeIn K cd78 "Run.__init__" = true) (k78 : PySem.W.keepIn K (.ref f78) = true)
    {f79 : Addr} {od79 an79 : Option Addr} {sl79 : Array (Option Value)} {oc79 kV79 dc79 pm79 cd79 ct79 : Value}
    (a79 : PySem.W.findIn K (.ref C_Run) "is_both" = some (some (.ref f79))) (i79 : PySem.W.isFn K (.ref f79) = true) (l79 : K.lookup f79 = some ⟨oc79, od79, .func (PySem.W.fnOf "is_both" "Run.is_both" (defArgs s_Run__is_both) (defBody s_Run__is_both) (defScope s_Run__is_both) .none kV79 dc79 pm79 an79 cd79 ct79), sl79⟩) (c79 : PySem.W.codeIn K cd79 "Run.is_both" = true) (k79 : PySem.W.keepIn K (.ref f79) = true)
    (z_abs : PySem.W.nsIn K mainGlobals "abs" = some none)
    (z_all : PySem.W.nsIn K mainGlobals "all" = some none)
    (z_dict : PySem.W.nsIn K mainGlobals "dict" = some none)
    (z_enumerate : PySem.W.nsIn K mainGlobals "enumerate" = some none)
    (z_int : PySem.W.nsIn K mainGlobals "int" = some none)
    (z_isinstance : PySem.W.nsIn K mainGlobals "isinstance" = some none)
    (z_len : PySem.W.nsIn K mainGlobals "len" = some none)
    (z_list : PySem.W.nsIn K mainGlobals "list" = some none)
    (z_max : PySem.W.nsIn K mainGlobals "max" = some none)
    (z_min : PySem.W.nsIn K mainGlobals "min" = some none)
    (z_ord : PySem.W.nsIn K mainGlobals "ord" = some none)
    (z_range : PySem.W.nsIn K mainGlobals "range" = some none)
    (z_str : PySem.W.nsIn K mainGlobals "str" = some none)
    (z_tuple : PySem.W.nsIn K mainGlobals "tuple" = some none)
    (z_zip : PySem.W.nsIn K mainGlobals "zip" = some none)
    {t_INLINE_WHITE : Tok} (q_INLINE_WHITE : PySem.W.nsIn K mainGlobals "INLINE_WHITE" = some (some (.str " \t\n" t_INLINE_WHITE)))
    {t_PUNCTUATION : Tok} (q_PUNCTUATION : PySem.W.nsIn K mainGlobals "PUNCTUATION" = some (some (.str "!\"#$&'()*+,-./:;<=>?\x40[\\]^_{|}~`" t_PUNCTUATION)))
    {A_NAMES : Addr} {es_NAMES : Array DictEntry} {n_NAMES : Nat} (q_NAMES : PySem.W.nsIn K mainGlobals "NAMES" = some (some (.ref A_NAMES)))
    (L_NAMES : K.lookup A_NAMES = some ⟨.type "dict", none, .dict es_NAMES n_NAMES, #[]⟩) (KL_NAMES : PySem.W.KeysLit w.params es_NAMES.toList) (W_NAMES : (A_NAMES == sysModules) = false) (EN_NAMES : EntS es_NAMES.toList [("amp", .str "&"), ("lt", .str "<"), ("gt", .str ">"), ("quot", .str "\""), ("apos", .str "'"), ("num", .str "#"), ("ast", .str "*"), ("lowbar", .str "_"), ("grave", .str "`"), ("lsqb", .str "["), ("rsqb", .str "]"), ("lpar", .str "("), ("rpar", .str ")"), ("lcub", .str "{"), ("rcub", .str "}"), ("bsol", .str "\\"), ("excl", .str "!"), ("Tab", .str "\t"), ("NewLine", .str "\n")])
    {A_SIGN_ROWS : Addr} {e_SIGN_ROWS_0 e_SIGN_ROWS_1 e_SIGN_ROWS_2 : Addr} {O_SIGN_ROWS : Option Addr} {n_SIGN_ROWS : Nat} {w_SIGN_ROWS : Array (Option Value)} (q_SIGN_ROWS : PySem.W.nsIn K mainGlobals "SIGN_ROWS" = some (some (.ref A_SIGN_ROWS)))
    (L_SIGN_ROWS : K.lookup A_SIGN_ROWS = some ⟨.type "tuple", O_SIGN_ROWS, .seq #[.ref e_SIGN_ROWS_0, .ref e_SIGN_ROWS_1, .ref e_SIGN_ROWS_2] n_SIGN_ROWS, w_SIGN_ROWS⟩)
    {O_SIGN_ROWS_0 : Option Addr} {n_SIGN_ROWS_0 : Nat} {w_SIGN_ROWS_0 : Array (Option Value)} {u_SIGN_ROWS_0_0 u_SIGN_ROWS_0_1 : Tok} (L_SIGN_ROWS_0 : K.lookup e_SIGN_ROWS_0 = some ⟨.type "tuple", O_SIGN_ROWS_0, .seq #[.int 9 u_SIGN_ROWS_0_0, .str "\t\n" u_SIGN_ROWS_0_1] n_SIGN_ROWS_0, w_SIGN_ROWS_0⟩)
    {O_SIGN_ROWS_1 : Option Addr} {n_SIGN_ROWS_1 : Nat} {w_SIGN_ROWS_1 : Array (Option Value)} {u_SIGN_ROWS_1_0 u_SIGN_ROWS_1_1 : Tok} (L_SIGN_ROWS_1 : K.lookup e_SIGN_ROWS_1 = some ⟨.type "tuple", O_SIGN_ROWS_1, .seq #[.int 32 u_SIGN_ROWS_1_0, .str " !\"#$" u_SIGN_ROWS_1_1] n_SIGN_ROWS_1, w_SIGN_ROWS_1⟩)
    {O_SIGN_ROWS_2 : Option Addr} {n_SIGN_ROWS_2 : Nat} {w_SIGN_ROWS_2 : Array (Option Value)} {u_SIGN_ROWS_2_0 u_SIGN_ROWS_2_1 : Tok} (L_SIGN_ROWS_2 : K.lookup e_SIGN_ROWS_2 = some ⟨.type "tuple", O_SIGN_ROWS_2, .seq #[.int 38 u_SIGN_ROWS_2_0, .str "&'()*+,-./0123456789:;<=>?@ABCDEFGHIJKLMNOPQRSTUVWXYZ[\\]^_`abcdefghijklmnopqrstuvwxyz{|}~" u_SIGN_ROWS_2_1] n_SIGN_ROWS_2, w_SIGN_ROWS_2⟩)
    {t_LONGEST : Tok} (q_LONGEST : PySem.W.nsIn K mainGlobals "LONGEST" = some (some (.int 10 t_LONGEST)))
    {t_LONGEST_LABEL : Tok} (q_LONGEST_LABEL : PySem.W.nsIn K mainGlobals "LONGEST_LABEL" = some (some (.int 999 t_LONGEST_LABEL)))
    {t_MOST_BRACKETS : Tok} (q_MOST_BRACKETS : PySem.W.nsIn K mainGlobals "MOST_BRACKETS" = some (some (.int 32 t_MOST_BRACKETS)))
    {t_BARE_ENDS : Tok} (q_BARE_ENDS : PySem.W.nsIn K mainGlobals "BARE_ENDS" = some (some (.str " \t\n()" t_BARE_ENDS)))
    {A_TITLE_SIGNS : Addr} {es_TITLE_SIGNS : Array DictEntry} {n_TITLE_SIGNS : Nat} {e_TITLE_SIGNS_0 e_TITLE_SIGNS_1 e_TITLE_SIGNS_2 : Addr} (q_TITLE_SIGNS : PySem.W.nsIn K mainGlobals "TITLE_SIGNS" = some (some (.ref A_TITLE_SIGNS)))
    (L_TITLE_SIGNS : K.lookup A_TITLE_SIGNS = some ⟨.type "dict", none, .dict es_TITLE_SIGNS n_TITLE_SIGNS, #[]⟩) (KL_TITLE_SIGNS : PySem.W.KeysLit w.params es_TITLE_SIGNS.toList) (W_TITLE_SIGNS : (A_TITLE_SIGNS == sysModules) = false) (EN_TITLE_SIGNS : EntS es_TITLE_SIGNS.toList [("\"", .ref e_TITLE_SIGNS_0), ("'", .ref e_TITLE_SIGNS_1), ("(", .ref e_TITLE_SIGNS_2)])
    {O_TITLE_SIGNS_0 : Option Addr} {n_TITLE_SIGNS_0 : Nat} {w_TITLE_SIGNS_0 : Array (Option Value)} {u_TITLE_SIGNS_0_0 u_TITLE_SIGNS_0_1 : Tok} (L_TITLE_SIGNS_0 : K.lookup e_TITLE_SIGNS_0 = some ⟨.type "tuple", O_TITLE_SIGNS_0, .seq #[.str "\"" u_TITLE_SIGNS_0_0, .str "\"" u_TITLE_SIGNS_0_1] n_TITLE_SIGNS_0, w_TITLE_SIGNS_0⟩)
    {O_TITLE_SIGNS_1 : Option Addr} {n_TITLE_SIGNS_1 : Nat} {w_TITLE_SIGNS_1 : Array (Option Value)} {u_TITLE_SIGNS_1_0 u_TITLE_SIGNS_1_1 : Tok} (L_TITLE_SIGNS_1 : K.lookup e_TITLE_SIGNS_1 = some ⟨.type "tuple", O_TITLE_SIGNS_1, .seq #[.str "'" u_TITLE_SIGNS_1_0, .str "'" u_TITLE_SIGNS_1_1] n_TITLE_SIGNS_1, w_TITLE_SIGNS_1⟩)
    {O_TITLE_SIGNS_2 : Option Addr} {n_TITLE_SIGNS_2 : Nat} {w_TITLE_SIGNS_2 : Array (Option Value)} {u_TITLE_SIGNS_2_0 u_TITLE_SIGNS_2_1 : Tok} (L_TITLE_SIGNS_2 : K.lookup e_TITLE_SIGNS_2 = some ⟨.type "tuple", O_TITLE_SIGNS_2, .seq #[.str "()" u_TITLE_SIGNS_2_0, .str ")" u_TITLE_SIGNS_2_1] n_TITLE_SIGNS_2, w_TITLE_SIGNS_2⟩)
    {t_WHITE : Tok} (q_WHITE : PySem.W.nsIn K mainGlobals "WHITE" = some (some (.str " \t" t_WHITE)))
    {t_LETTERS : Tok} (q_LETTERS : PySem.W.nsIn K mainGlobals "LETTERS" = some (some (.str "abcdefghijklmnopqrstuvwxyzABCDEFGHIJKLMNOPQRSTUVWXYZ" t_LETTERS)))
    {t_NAME_SIGNS : Tok} (q_NAME_SIGNS : PySem.W.nsIn K mainGlobals "NAME_SIGNS" = some (some (.str "abcdefghijklmnopqrstuvwxyzABCDEFGHIJKLMNOPQRSTUVWXYZ0123456789-" t_NAME_SIGNS)))
    {t_KEY_SIGNS : Tok} (q_KEY_SIGNS : PySem.W.nsIn K mainGlobals "KEY_SIGNS" = some (some (.str "abcdefghijklmnopqrstuvwxyzABCDEFGHIJKLMNOPQRSTUVWXYZ0123456789_.:-" t_KEY_SIGNS)))
    {t_NO_BARE_SIGNS : Tok} (q_NO_BARE_SIGNS : PySem.W.nsIn K mainGlobals "NO_BARE_SIGNS" = some (some (.str " \t\n\"'=<>`" t_NO_BARE_SIGNS)))
    {t_SCHEME_SIGNS : Tok} (q_SCHEME_SIGNS : PySem.W.nsIn K mainGlobals "SCHEME_SIGNS" = some (some (.str "abcdefghijklmnopqrstuvwxyzABCDEFGHIJKLMNOPQRSTUVWXYZ0123456789+.-" t_SCHEME_SIGNS)))
    {t_LOCAL_SIGNS : Tok} (q_LOCAL_SIGNS : PySem.W.nsIn K mainGlobals "LOCAL_SIGNS" = some (some (.str "abcdefghijklmnopqrstuvwxyzABCDEFGHIJKLMNOPQRSTUVWXYZ0123456789.!#$&'*+/=?^_`{|}~-" t_LOCAL_SIGNS)))
    {t_PART_SIGNS : Tok} (q_PART_SIGNS : PySem.W.nsIn K mainGlobals "PART_SIGNS" = some (some (.str "abcdefghijklmnopqrstuvwxyzABCDEFGHIJKLMNOPQRSTUVWXYZ0123456789-" t_PART_SIGNS)))
    {t_ENDS : Tok} (q_ENDS : PySem.W.nsIn K mainGlobals "ENDS" = some (some (.str " \t\n<>" t_ENDS)))
    {t_SHORTEST_SCHEME : Tok} (q_SHORTEST_SCHEME : PySem.W.nsIn K mainGlobals "SHORTEST_SCHEME" = some (some (.int 2 t_SHORTEST_SCHEME)))
    {t_LONGEST_SCHEME : Tok} (q_LONGEST_SCHEME : PySem.W.nsIn K mainGlobals "LONGEST_SCHEME" = some (some (.int 32 t_LONGEST_SCHEME)))
    {t_LONGEST_PART : Tok} (q_LONGEST_PART : PySem.W.nsIn K mainGlobals "LONGEST_PART" = some (some (.int 63 t_LONGEST_PART)))
    {A_STEPS : Addr} {es_STEPS : Array DictEntry} {n_STEPS : Nat} (q_STEPS : PySem.W.nsIn K mainGlobals "STEPS" = some (some (.ref A_STEPS)))
    (L_STEPS : K.lookup A_STEPS = some ⟨.type "dict", none, .dict es_STEPS n_STEPS, #[]⟩) (KL_STEPS : PySem.W.KeysLit w.params es_STEPS.toList) (W_STEPS : (A_STEPS == sysModules) = false) (EN_STEPS : EntS es_STEPS.toList [("\\", .ref f46), ("`", .ref f47), ("<", .ref f49), ("&", .ref f50), ("\n", .ref f51), ("*", .ref f52), ("_", .ref f52), ("[", .ref f53), ("!", .ref f54), ("]", .ref f56)])
    : ∃ fd : FuncData, (∀ (s : Shared) (v : Value), BindsTo s fd ⟨[v], []⟩ [("_law_script", v)]) ∧ ∀ base : Heap, K.In base → base.Ns mainGlobals mg → FnOk l.prog w K mg base CX0 100 fa fd ["_law_script"] (sp_law K) := by
  have e := hfa.symm.trans (PySem.W.mg_of X G a72)
  cases e
  have F0 := fun_mk (st := s_behind_all) l0 c0 k0
  have F1 := fun_mk (st := s_behind_gap) l1 c1 k1
  have F2 := fun_mk (st := s_behind_first) l2 c2 k2
  have F3 := fun_mk (st := s_behind_sign) l3 c3 k3
  have F4 := fun_mk (st := s_is_escape) l4 c4 k4
  have F5 := fun_mk (st := s_first_plain) l5 c5 k5
  have F6 := fun_mk (st := s_strings_in) l6 c6 k6
  have F7 := fun_mk (st := s_reference_at) l7 c7 k7
  have F8 := fun_mk (st := s_decoded) l8 c8 k8
  have F9 := fun_mk (st := s_decoded_at) l9 c9 k9
  have F10 := fun_mk (st := s_sign_meant) l10 c10 k10
  have F11 := fun_mk (st := s_number_in) l11 c11 k11
  have F12 := fun_mk (st := s_sign_of) l12 c12 k12
  have F13 := fun_mk (st := s_normalised) l13 c13 k13
  have F14 := fun_mk (st := s_is_label_text) l14 c14 k14
  have F15 := fun_mk (st := s_is_label) l15 c15 k15
  have F16 := fun_mk (st := s_label_at) l16 c16 k16
  have F17 := fun_mk (st := s_target_at) l17 c17 k17
  have F18 := fun_mk (st := s_title_or_none) l18 c18 k18
  have F19 := fun_mk (st := s_destination_at) l19 c19 k19
  have F20 := fun_mk (st := s_title_at) l20 c20 k20
  have F21 := fun_mk (st := s_enclosed_at) l21 c21 k21
  have F22 := fun_mk (st := s_behind_bare) l22 c22 k22
  have F23 := fun_mk (st := s_tag_at) l23 c23 k23
  have F24 := fun_mk (st := s_open_tag_at) l24 c24 k24
  have F25 := fun_mk (st := s_closing_tag_at) l25 c25 k25
  have F26 := fun_mk (st := s_attribute_at) l26 c26 k26
  have F27 := fun_mk (st := s_value_at) l27 c27 k27
  have F28 := fun_mk (st := s_name_at) l28 c28 k28
  have F29 := fun_mk (st := s_is_letter) l29 c29 k29
  have F30 := fun_mk (st := s_autolink_at) l30 c30 k30
  have F31 := fun_mk (st := s_begins_with_scheme) l31 c31 k31
  have F32 := fun_mk (st := s_is_address) l32 c32 k32
  have F33 := fun_mk (st := s_is_part) l33 c33 k33
  have F34 := fun_mk (st := s_run_at) l34 c34 k34
  have F35 := fun_mk (st := s_kind_of) l35 c35 k35
  have F36 := fun_mk (st := s_pair) l36 c36 k36
  have F37 := fun_mk (st := s_sort_of) l37 c37 k37
  have F38 := fun_mk (st := s_stack_of_partner) l38 c38 k38
  have F39 := fun_mk (st := s_may_pair) l39 c39 k39
  have F40 := fun_mk (st := s_take_both) l40 c40 k40
  have F41 := fun_mk (st := s_built) l41 c41 k41
  have F42 := fun_mk (st := s_joined) l42 c42 k42
  have F43 := fun_mk (st := s_add_text) l43 c43 k43
  have F44 := fun_mk (st := s_scanned) l44 c44 k44
  have F45 := fun_mk (st := s_take_plain) l45 c45 k45
  have F46 := fun_mk (st := s_take_backslash) l46 c46 k46
  have F47 := fun_mk (st := s_take_backquotes) l47 c47 k47
  have F48 := fun_mk (st := s_code_text) l48 c48 k48
  have F49 := fun_mk (st := s_take_angle) l49 c49 k49
  have F50 := fun_mk (st := s_take_reference) l50 c50 k50
  have F51 := fun_mk (st := s_take_line_feed) l51 c51 k51
  have F52 := fun_mk (st := s_take_run) l52 c52 k52
  have F53 := fun_mk (st := s_take_bracket) l53 c53 k53
  have F54 := fun_mk (st := s_take_exclamation) l54 c54 k54
  have F55 := fun_mk (st := s_note) l55 c55 k55
  have F56 := fun_mk (st := s_take_end) l56 c56 k56
  have F57 := fun_mk (st := s_found_behind) l57 c57 k57
  have F58 := fun_mk (st := s_own_label) l58 c58 k58
  have F59 := fun_mk (st := s_check_source) l59 c59 k59
  have F60 : FunD K "inlines" "inlines" (defArgs s_inlines) (defBody s_inlines) (defScope s_inlines) [.non] [] f60 _ := ⟨⟨_, _, _, _, _, _, _, _, _, _, rfl, l60, c60, .inr ⟨by simp, _, _, [.none], _, E60, D60, rfl, .cons rfl .nil⟩, .inl rfl⟩, k60⟩
  have F61 := fun_mk (st := s_is_known) l61 c61 k61
  have F62 := fun_mk (st := s_is_target) l62 c62 k62
  have F63 := fun_mk (st := s__law_state) l63 c63 k63
  have F64 := fun_mk (st := s__law_draw) l64 c64 k64
  have F65 := fun_mk (st := s__law_one) l65 c65 k65
  have F66 := fun_mk (st := s__law_marks) l66 c66 k66
  have F67 := fun_mk (st := s__law_names) l67 c67 k67
  have F68 := fun_mk (st := s__law_reference) l68 c68 k68
  have F69 := fun_mk (st := s__law_piece) l69 c69 k69
  have F70 := fun_mk (st := s__law_break) l70 c70 k70
  have F71 := fun_mk (st := s__law_ends_right) l71 c71 k71
  have F72 := fun_mk (st := s_law) l72 c72 k72
  have F73 := fun_mk (st := s_Bracket____init__) l73 c73 k73
  have F74 := fun_mk (st := s_Scan____init__) l74 c74 k74
  have F75 := fun_mk (st := s_Scan__put) l75 c75 k75
  have F76 := fun_mk (st := s_Scan__put_text) l76 c76 k76
  have F77 := fun_mk (st := s_Scan__is_active) l77 c77 k77
  have F78 := fun_mk (st := s_Run____init__) l78 c78 k78
  have F79 := fun_mk (st := s_Run__is_both) l79 c79 k79
  have b0 := F0.binds (ps := ["signs", "text", "place"]) fun _ _ _ _ _ _ us hl => match us, hl with | [_, _, _], _ => rfl
  have b1 := F1.binds (ps := ["text", "place"]) fun _ _ _ _ _ _ us hl => match us, hl with | [_, _], _ => rfl
  have b2 := F2.binds (ps := ["words", "text", "place"]) fun _ _ _ _ _ _ us hl => match us, hl with | [_, _, _], _ => rfl
  have b3 := F3.binds (ps := ["sign", "text", "place"]) fun _ _ _ _ _ _ us hl => match us, hl with | [_, _, _], _ => rfl
  have b4 := F4.binds (ps := ["text", "place"]) fun _ _ _ _ _ _ us hl => match us, hl with | [_, _], _ => rfl
  have b5 := F5.binds (ps := ["signs", "text", "place"]) fun _ _ _ _ _ _ us hl => match us, hl with | [_, _, _], _ => rfl
  have b6 := F6.binds (ps := ["text"]) fun _ _ _ _ _ _ us hl => match us, hl with | [_], _ => rfl
  have b7 := F7.binds (ps := ["text", "place"]) fun _ _ _ _ _ _ us hl => match us, hl with | [_, _], _ => rfl
  have b8 := F8.binds (ps := ["text"]) fun _ _ _ _ _ _ us hl => match us, hl with | [_], _ => rfl
  have b9 := F9.binds (ps := ["text", "place"]) fun _ _ _ _ _ _ us hl => match us, hl with | [_, _], _ => rfl
  have b10 := F10.binds (ps := ["words"]) fun _ _ _ _ _ _ us hl => match us, hl with | [_], _ => rfl
  have b11 := F11.binds (ps := ["digits", "signs", "base"]) fun _ _ _ _ _ _ us hl => match us, hl with | [_, _, _], _ => rfl
  have b12 := F12.binds (ps := ["number"]) fun _ _ _ _ _ _ us hl => match us, hl with | [_], _ => rfl
  have b13 := F13.binds (ps := ["text"]) fun _ _ _ _ _ _ us hl => match us, hl with | [_], _ => rfl
  have b14 := F14.binds (ps := ["thing"]) fun _ _ _ _ _ _ us hl => match us, hl with | [_], _ => rfl
  have b15 := F15.binds (ps := ["thing"]) fun _ _ _ _ _ _ us hl => match us, hl with | [_], _ => rfl
  have b16 := F16.binds (ps := ["text", "place"]) fun _ _ _ _ _ _ us hl => match us, hl with | [_, _], _ => rfl
  have b17 := F17.binds (ps := ["text", "place"]) fun _ _ _ _ _ _ us hl => match us, hl with | [_, _], _ => rfl
  have b18 := F18.binds (ps := ["text", "place"]) fun _ _ _ _ _ _ us hl => match us, hl with | [_, _], _ => rfl
  have b19 := F19.binds (ps := ["text", "place"]) fun _ _ _ _ _ _ us hl => match us, hl with | [_, _], _ => rfl
  have b20 := F20.binds (ps := ["text", "place"]) fun _ _ _ _ _ _ us hl => match us, hl with | [_, _], _ => rfl
  have b21 := F21.binds (ps := ["barred", "closing", "text", "place"]) fun _ _ _ _ _ _ us hl => match us, hl with | [_, _, _, _], _ => rfl
  have b22 := F22.binds (ps := ["text", "place"]) fun _ _ _ _ _ _ us hl => match us, hl with | [_, _], _ => rfl
  have b23 := F23.binds (ps := ["text", "place"]) fun _ _ _ _ _ _ us hl => match us, hl with | [_, _], _ => rfl
  have b24 := F24.binds (ps := ["text", "place"]) fun _ _ _ _ _ _ us hl => match us, hl with | [_, _], _ => rfl
  have b25 := F25.binds (ps := ["text", "place"]) fun _ _ _ _ _ _ us hl => match us, hl with | [_, _], _ => rfl
  have b26 := F26.binds (ps := ["text", "place"]) fun _ _ _ _ _ _ us hl => match us, hl with | [_, _], _ => rfl
  have b27 := F27.binds (ps := ["text", "place"]) fun _ _ _ _ _ _ us hl => match us, hl with | [_, _], _ => rfl
  have b28 := F28.binds (ps := ["text", "place"]) fun _ _ _ _ _ _ us hl => match us, hl with | [_, _], _ => rfl
  have b29 := F29.binds (ps := ["text", "place"]) fun _ _ _ _ _ _ us hl => match us, hl with | [_, _], _ => rfl
  have b30 := F30.binds (ps := ["text", "place"]) fun _ _ _ _ _ _ us hl => match us, hl with | [_, _], _ => rfl
  have b31 := F31.binds (ps := ["words"]) fun _ _ _ _ _ _ us hl => match us, hl with | [_], _ => rfl
  have b32 := F32.binds (ps := ["words"]) fun _ _ _ _ _ _ us hl => match us, hl with | [_], _ => rfl
  have b33 := F33.binds (ps := ["words"]) fun _ _ _ _ _ _ us hl => match us, hl with | [_], _ => rfl
  have b34 := F34.binds (ps := ["content", "place"]) fun _ _ _ _ _ _ us hl => match us, hl with | [_, _], _ => rfl
  have b35 := F35.binds (ps := ["sign"]) fun _ _ _ _ _ _ us hl => match us, hl with | [_], _ => rfl
  have b36 := F36.binds (ps := ["runs"]) fun _ _ _ _ _ _ us hl => match us, hl with | [_], _ => rfl
  have b37 := F37.binds (ps := ["run"]) fun _ _ _ _ _ _ us hl => match us, hl with | [_], _ => rfl
  have b38 := F38.binds (ps := ["run", "stacks"]) fun _ _ _ _ _ _ us hl => match us, hl with | [_, _], _ => rfl
  have b39 := F39.binds (ps := ["sort", "other"]) fun _ _ _ _ _ _ us hl => match us, hl with | [_, _], _ => rfl
  have b40 := F40.binds (ps := ["partner", "run"]) fun _ _ _ _ _ _ us hl => match us, hl with | [_, _], _ => rfl
  have b41 := F41.binds (ps := ["row"]) fun _ _ _ _ _ _ us hl => match us, hl with | [_], _ => rfl
  have b42 := F42.binds (ps := ["row"]) fun _ _ _ _ _ _ us hl => match us, hl with | [_], _ => rfl
  have b43 := F43.binds (ps := ["texts", "made"]) fun _ _ _ _ _ _ us hl => match us, hl with | [_, _], _ => rfl
  have b44 := F44.binds (ps := ["content", "known"]) fun _ _ _ _ _ _ us hl => match us, hl with | [_, _], _ => rfl
  have b45 := F45.binds (ps := ["scan"]) fun _ _ _ _ _ _ us hl => match us, hl with | [_], _ => rfl
  have b46 := F46.binds (ps := ["scan"]) fun _ _ _ _ _ _ us hl => match us, hl with | [_], _ => rfl
  have b47 := F47.binds (ps := ["scan"]) fun _ _ _ _ _ _ us hl => match us, hl with | [_], _ => rfl
  have b48 := F48.binds (ps := ["words"]) fun _ _ _ _ _ _ us hl => match us, hl with | [_], _ => rfl
  have b49 := F49.binds (ps := ["scan"]) fun _ _ _ _ _ _ us hl => match us, hl with | [_], _ => rfl
  have b50 := F50.binds (ps := ["scan"]) fun _ _ _ _ _ _ us hl => match us, hl with | [_], _ => rfl
  have b51 := F51.binds (ps := ["scan"]) fun _ _ _ _ _ _ us hl => match us, hl with | [_], _ => rfl
  have b52 := F52.binds (ps := ["scan"]) fun _ _ _ _ _ _ us hl => match us, hl with | [_], _ => rfl
  have b53 := F53.binds (ps := ["scan"]) fun _ _ _ _ _ _ us hl => match us, hl with | [_], _ => rfl
  have b54 := F54.binds (ps := ["scan"]) fun _ _ _ _ _ _ us hl => match us, hl with | [_], _ => rfl
  have b55 := F55.binds (ps := ["scan", "words", "is_image"]) fun _ _ _ _ _ _ us hl => match us, hl with | [_, _, _], _ => rfl
  have b56 := F56.binds (ps := ["scan"]) fun _ _ _ _ _ _ us hl => match us, hl with | [_], _ => rfl
  have b57 := F57.binds (ps := ["scan", "bracket"]) fun _ _ _ _ _ _ us hl => match us, hl with | [_, _], _ => rfl
  have b58 := F58.binds (ps := ["scan", "bracket"]) fun _ _ _ _ _ _ us hl => match us, hl with | [_, _], _ => rfl
  have b59 := F59.binds (ps := ["text"]) fun _ _ _ _ _ _ us hl => match us, hl with | [_], _ => rfl
  have b60 := fund_binds (ps := ["content", "known"]) F60 1 fun _ _ _ _ _ _ _ us its hu hi => match us, its, hu, hi with | [_], [_], _, _ => ⟨_, rfl, rfl⟩
  have b61 := F61.binds (ps := ["thing"]) fun _ _ _ _ _ _ us hl => match us, hl with | [_], _ => rfl
  have b62 := F62.binds (ps := ["thing"]) fun _ _ _ _ _ _ us hl => match us, hl with | [_], _ => rfl
  have b63 := F63.binds (ps := ["_law_script", "_law_k"]) fun _ _ _ _ _ _ us hl => match us, hl with | [_, _], _ => rfl
  have b64 := F64.binds (ps := ["_law_well", "_law_many"]) fun _ _ _ _ _ _ us hl => match us, hl with | [_, _], _ => rfl
  have b65 := F65.binds (ps := ["_law_well", "_law_some"]) fun _ _ _ _ _ _ us hl => match us, hl with | [_, _], _ => rfl
  have b66 := F66.binds (ps := []) fun _ _ _ _ _ _ us hl => match us, hl with | [], _ => rfl
  have b67 := F67.binds (ps := []) fun _ _ _ _ _ _ us hl => match us, hl with | [], _ => rfl
  have b68 := F68.binds (ps := ["_law_well"]) fun _ _ _ _ _ _ us hl => match us, hl with | [_], _ => rfl
  have b69 := F69.binds (ps := ["_law_well"]) fun _ _ _ _ _ _ us hl => match us, hl with | [_], _ => rfl
  have b70 := F70.binds (ps := ["_law_well"]) fun _ _ _ _ _ _ us hl => match us, hl with | [_], _ => rfl
  have b71 := F71.binds (ps := []) fun _ _ _ _ _ _ us hl => match us, hl with | [], _ => rfl
  have b73 := F73.binds (ps := ["self", "number", "index", "place", "is_image"]) fun _ _ _ _ _ _ us hl => match us, hl with | [_, _, _, _, _], _ => rfl
  have b74 := F74.binds (ps := ["self", "content", "known"]) fun _ _ _ _ _ _ us hl => match us, hl with | [_, _, _], _ => rfl
  have b75 := F75.binds (ps := ["self", "one", "end"]) fun _ _ _ _ _ _ us hl => match us, hl with | [_, _, _], _ => rfl
  have b76 := F76.binds (ps := ["self", "words"]) fun _ _ _ _ _ _ us hl => match us, hl with | [_, _], _ => rfl
  have b77 := F77.binds (ps := ["self", "bracket"]) fun _ _ _ _ _ _ us hl => match us, hl with | [_, _], _ => rfl
  have b78 := F78.binds (ps := ["self", "sign", "length", "opens", "closes"]) fun _ _ _ _ _ _ us hl => match us, hl with | [_, _, _, _, _], _ => rfl
  have b79 := F79.binds (ps := ["self"]) fun _ _ _ _ _ _ us hl => match us, hl with | [_], _ => rfl
  have T : Txt w K mg := {
    a_behind_all := f0, d_behind_all := _, f_behind_all := F0, g_behind_all := PySem.W.mg_of X G a0, b_behind_all := b0,
    a_behind_gap := f1, d_behind_gap := _, f_behind_gap := F1, g_behind_gap := PySem.W.mg_of X G a1, b_behind_gap := b1,
    a_behind_first := f2, d_behind_first := _, f_behind_first := F2, g_behind_first := PySem.W.mg_of X G a2, b_behind_first := b2,
    a_behind_sign := f3, d_behind_sign := _, f_behind_sign := F3, g_behind_sign := PySem.W.mg_of X G a3, b_behind_sign := b3,
    a_is_escape := f4, d_is_escape := _, f_is_escape := F4, g_is_escape := PySem.W.mg_of X G a4, b_is_escape := b4,
    a_first_plain := f5, d_first_plain := _, f_first_plain := F5, g_first_plain := PySem.W.mg_of X G a5, b_first_plain := b5,
    a_strings_in := f6, d_strings_in := _, f_strings_in := F6, g_strings_in := PySem.W.mg_of X G a6, b_strings_in := b6,
    a_reference_at := f7, d_reference_at := _, f_reference_at := F7, g_reference_at := PySem.W.mg_of X G a7, b_reference_at := b7,
    a_decoded := f8, d_decoded := _, f_decoded := F8, g_decoded := PySem.W.mg_of X G a8, b_decoded := b8,
    a_decoded_at := f9, d_decoded_at := _, f_decoded_at := F9, g_decoded_at := PySem.W.mg_of X G a9, b_decoded_at := b9,
    a_sign_meant := f10, d_sign_meant := _, f_sign_meant := F10, g_sign_meant := PySem.W.mg_of X G a10, b_sign_meant := b10,
    a_number_in := f11, d_number_in := _, f_number_in := F11, g_number_in := PySem.W.mg_of X G a11, b_number_in := b11,
    a_sign_of := f12, d_sign_of := _, f_sign_of := F12, g_sign_of := PySem.W.mg_of X G a12, b_sign_of := b12,
    a_normalised := f13, d_normalised := _, f_normalised := F13, g_normalised := PySem.W.mg_of X G a13, b_normalised := b13,
    a_is_label_text := f14, d_is_label_text := _, f_is_label_text := F14, g_is_label_text := PySem.W.mg_of X G a14, b_is_label_text := b14,
    a_is_label := f15, d_is_label := _, f_is_label := F15, g_is_label := PySem.W.mg_of X G a15, b_is_label := b15,
    a_label_at := f16, d_label_at := _, f_label_at := F16, g_label_at := PySem.W.mg_of X G a16, b_label_at := b16,
    a_target_at := f17, d_target_at := _, f_target_at := F17, g_target_at := PySem.W.mg_of X G a17, b_target_at := b17,
    a_title_or_none := f18, d_title_or_none := _, f_title_or_none := F18, g_title_or_none := PySem.W.mg_of X G a18, b_title_or_none := b18,
    a_destination_at := f19, d_destination_at := _, f_destination_at := F19, g_destination_at := PySem.W.mg_of X G a19, b_destination_at := b19,
    a_title_at := f20, d_title_at := _, f_title_at := F20, g_title_at := PySem.W.mg_of X G a20, b_title_at := b20,
    a_enclosed_at := f21, d_enclosed_at := _, f_enclosed_at := F21, g_enclosed_at := PySem.W.mg_of X G a21, b_enclosed_at := b21,
    a_behind_bare := f22, d_behind_bare := _, f_behind_bare := F22, g_behind_bare := PySem.W.mg_of X G a22, b_behind_bare := b22,
    a_tag_at := f23, d_tag_at := _, f_tag_at := F23, g_tag_at := PySem.W.mg_of X G a23, b_tag_at := b23,
    a_open_tag_at := f24, d_open_tag_at := _, f_open_tag_at := F24, g_open_tag_at := PySem.W.mg_of X G a24, b_open_tag_at := b24,
    a_closing_tag_at := f25, d_closing_tag_at := _, f_closing_tag_at := F25, g_closing_tag_at := PySem.W.mg_of X G a25, b_closing_tag_at := b25,
    a_attribute_at := f26, d_attribute_at := _, f_attribute_at := F26, g_attribute_at := PySem.W.mg_of X G a26, b_attribute_at := b26,
    a_value_at := f27, d_value_at := _, f_value_at := F27, g_value_at := PySem.W.mg_of X G a27, b_value_at := b27,
    a_name_at := f28, d_name_at := _, f_name_at := F28, g_name_at := PySem.W.mg_of X G a28, b_name_at := b28,
    a_is_letter := f29, d_is_letter := _, f_is_letter := F29, g_is_letter := PySem.W.mg_of X G a29, b_is_letter := b29,
    a_autolink_at := f30, d_autolink_at := _, f_autolink_at := F30, g_autolink_at := PySem.W.mg_of X G a30, b_autolink_at := b30,
    a_begins_with_scheme := f31, d_begins_with_scheme := _, f_begins_with_scheme := F31, g_begins_with_scheme := PySem.W.mg_of X G a31, b_begins_with_scheme := b31,
    a_is_address := f32, d_is_address := _, f_is_address := F32, g_is_address := PySem.W.mg_of X G a32, b_is_address := b32,
    a_is_part := f33, d_is_part := _, f_is_part := F33, g_is_part := PySem.W.mg_of X G a33, b_is_part := b33,
    a_run_at := f34, d_run_at := _, f_run_at := F34, g_run_at := PySem.W.mg_of X G a34, b_run_at := b34,
    a_kind_of := f35, d_kind_of := _, f_kind_of := F35, g_kind_of := PySem.W.mg_of X G a35, b_kind_of := b35,
    a_pair := f36, d_pair := _, f_pair := F36, g_pair := PySem.W.mg_of X G a36, b_pair := b36,
    a_sort_of := f37, d_sort_of := _, f_sort_of := F37, g_sort_of := PySem.W.mg_of X G a37, b_sort_of := b37,
    a_stack_of_partner := f38, d_stack_of_partner := _, f_stack_of_partner := F38, g_stack_of_partner := PySem.W.mg_of X G a38, b_stack_of_partner := b38,
    a_may_pair := f39, d_may_pair := _, f_may_pair := F39, g_may_pair := PySem.W.mg_of X G a39, b_may_pair := b39,
    a_take_both := f40, d_take_both := _, f_take_both := F40, g_take_both := PySem.W.mg_of X G a40, b_take_both := b40,
    a_built := f41, d_built := _, f_built := F41, g_built := PySem.W.mg_of X G a41, b_built := b41,
    a_joined := f42, d_joined := _, f_joined := F42, g_joined := PySem.W.mg_of X G a42, b_joined := b42,
    a_add_text := f43, d_add_text := _, f_add_text := F43, g_add_text := PySem.W.mg_of X G a43, b_add_text := b43,
    a_scanned := f44, d_scanned := _, f_scanned := F44, g_scanned := PySem.W.mg_of X G a44, b_scanned := b44,
    a_take_plain := f45, d_take_plain := _, f_take_plain := F45, g_take_plain := PySem.W.mg_of X G a45, b_take_plain := b45,
    a_take_backslash := f46, d_take_backslash := _, f_take_backslash := F46, g_take_backslash := PySem.W.mg_of X G a46, b_take_backslash := b46,
    a_take_backquotes := f47, d_take_backquotes := _, f_take_backquotes := F47, g_take_backquotes := PySem.W.mg_of X G a47, b_take_backquotes := b47,
    a_code_text := f48, d_code_text := _, f_code_text := F48, g_code_text := PySem.W.mg_of X G a48, b_code_text := b48,
    a_take_angle := f49, d_take_angle := _, f_take_angle := F49, g_take_angle := PySem.W.mg_of X G a49, b_take_angle := b49,
    a_take_reference := f50, d_take_reference := _, f_take_reference := F50, g_take_reference := PySem.W.mg_of X G a50, b_take_reference := b50,
    a_take_line_feed := f51, d_take_line_feed := _, f_take_line_feed := F51, g_take_line_feed := PySem.W.mg_of X G a51, b_take_line_feed := b51,
    a_take_run := f52, d_take_run := _, f_take_run := F52, g_take_run := PySem.W.mg_of X G a52, b_take_run := b52,
    a_take_bracket := f53, d_take_bracket := _, f_take_bracket := F53, g_take_bracket := PySem.W.mg_of X G a53, b_take_bracket := b53,
    a_take_exclamation := f54, d_take_exclamation := _, f_take_exclamation := F54, g_take_exclamation := PySem.W.mg_of X G a54, b_take_exclamation := b54,
    a_note := f55, d_note := _, f_note := F55, g_note := PySem.W.mg_of X G a55, b_note := b55,
    a_take_end := f56, d_take_end := _, f_take_end := F56, g_take_end := PySem.W.mg_of X G a56, b_take_end := b56,
    a_found_behind := f57, d_found_behind := _, f_found_behind := F57, g_found_behind := PySem.W.mg_of X G a57, b_found_behind := b57,
    a_own_label := f58, d_own_label := _, f_own_label := F58, g_own_label := PySem.W.mg_of X G a58, b_own_label := b58,
    a_check_source := f59, d_check_source := _, f_check_source := F59, g_check_source := PySem.W.mg_of X G a59, b_check_source := b59,
    a_inlines := f60, d_inlines := _, f_inlines := F60, g_inlines := PySem.W.mg_of X G a60, bd_inlines := b60,
    a_is_known := f61, d_is_known := _, f_is_known := F61, g_is_known := PySem.W.mg_of X G a61, b_is_known := b61,
    a_is_target := f62, d_is_target := _, f_is_target := F62, g_is_target := PySem.W.mg_of X G a62, b_is_target := b62,
    a__law_state := f63, d__law_state := _, f__law_state := F63, g__law_state := PySem.W.mg_of X G a63, b__law_state := b63,
    a__law_draw := f64, d__law_draw := _, f__law_draw := F64, g__law_draw := PySem.W.mg_of X G a64, b__law_draw := b64,
    a__law_one := f65, d__law_one := _, f__law_one := F65, g__law_one := PySem.W.mg_of X G a65, b__law_one := b65,
    a__law_marks := f66, d__law_marks := _, f__law_marks := F66, g__law_marks := PySem.W.mg_of X G a66, b__law_marks := b66,
    a__law_names := f67, d__law_names := _, f__law_names := F67, g__law_names := PySem.W.mg_of X G a67, b__law_names := b67,
    a__law_reference := f68, d__law_reference := _, f__law_reference := F68, g__law_reference := PySem.W.mg_of X G a68, b__law_reference := b68,
    a__law_piece := f69, d__law_piece := _, f__law_piece := F69, g__law_piece := PySem.W.mg_of X G a69, b__law_piece := b69,
    a__law_break := f70, d__law_break := _, f__law_break := F70, g__law_break := PySem.W.mg_of X G a70, b__law_break := b70,
    a__law_ends_right := f71, d__law_ends_right := _, f__law_ends_right := F71, g__law_ends_right := PySem.W.mg_of X G a71, b__law_ends_right := b71,
    a_Bracket____init__ := f73, d_Bracket____init__ := _, f_Bracket____init__ := F73, b_Bracket____init__ := b73,
    a_Scan____init__ := f74, d_Scan____init__ := _, f_Scan____init__ := F74, b_Scan____init__ := b74,
    a_Scan__put := f75, d_Scan__put := _, f_Scan__put := F75, b_Scan__put := b75,
    a_Scan__put_text := f76, d_Scan__put_text := _, f_Scan__put_text := F76, b_Scan__put_text := b76,
    a_Scan__is_active := f77, d_Scan__is_active := _, f_Scan__is_active := F77, b_Scan__is_active := b77,
    a_Run____init__ := f78, d_Run____init__ := _, f_Run____init__ := F78, b_Run____init__ := b78,
    a_Run__is_both := f79, d_Run__is_both := _, f_Run__is_both := F79, b_Run__is_both := b79,
    c_Bracket := C_Bracket, gc_Bracket := PySem.W.mg_of X G qc_Bracket, cl_Bracket := ⟨pg_Bracket, hd_Bracket, po_Bracket, sa_Bracket⟩, na_Bracket_number := na_Bracket_number, na_Bracket_index := na_Bracket_index, na_Bracket_place := na_Bracket_place, na_Bracket_is_image := na_Bracket_is_image, mk_Bracket := ⟨mk_Bracket, a73, i73, kc_Bracket⟩,
    c_Scan := C_Scan, gc_Scan := PySem.W.mg_of X G qc_Scan, cl_Scan := ⟨pg_Scan, hd_Scan, po_Scan, sa_Scan⟩, na_Scan_content := na_Scan_content, na_Scan_known := na_Scan_known, na_Scan_place := na_Scan_place, na_Scan_row := na_Scan_row, na_Scan_plain := na_Scan_plain, na_Scan_brackets := na_Scan_brackets, na_Scan_noted := na_Scan_noted, na_Scan_bar := na_Scan_bar, na_Scan_strings := na_Scan_strings, me_Scan__put := ⟨a75, i75, k75⟩, me_Scan__put_text := ⟨a76, i76, k76⟩, me_Scan__is_active := ⟨a77, i77, k77⟩, mk_Scan := ⟨mk_Scan, a74, i74, kc_Scan⟩,
    c_Run := C_Run, gc_Run := PySem.W.mg_of X G qc_Run, cl_Run := ⟨pg_Run, hd_Run, po_Run, sa_Run⟩, na_Run_sign := na_Run_sign, na_Run_length := na_Run_length, na_Run_left := na_Run_left, na_Run_opens := na_Run_opens, na_Run_closes := na_Run_closes, na_Run_ended := na_Run_ended, na_Run_begun := na_Run_begun, kit_Run_tuple := kit_Run_tuple, me_Run__is_both := ⟨a79, i79, k79⟩, mk_Run := ⟨mk_Run, a78, i78, kc_Run⟩,
    z_abs := PySem.W.mg_none_of X G z_abs,
    z_all := PySem.W.mg_none_of X G z_all,
    z_dict := PySem.W.mg_none_of X G z_dict,
    z_enumerate := PySem.W.mg_none_of X G z_enumerate,
    z_int := PySem.W.mg_none_of X G z_int,
    z_isinstance := PySem.W.mg_none_of X G z_isinstance,
    z_len := PySem.W.mg_none_of X G z_len,
    z_list := PySem.W.mg_none_of X G z_list,
    z_max := PySem.W.mg_none_of X G z_max,
    z_min := PySem.W.mg_none_of X G z_min,
    z_ord := PySem.W.mg_none_of X G z_ord,
    z_range := PySem.W.mg_none_of X G z_range,
    z_str := PySem.W.mg_none_of X G z_str,
    z_tuple := PySem.W.mg_none_of X G z_tuple,
    z_zip := PySem.W.mg_none_of X G z_zip,
    t_INLINE_WHITE := t_INLINE_WHITE, g_INLINE_WHITE := PySem.W.mg_of X G q_INLINE_WHITE,
    t_PUNCTUATION := t_PUNCTUATION, g_PUNCTUATION := PySem.W.mg_of X G q_PUNCTUATION,
    a_NAMES := A_NAMES, g_NAMES := PySem.W.mg_of X G q_NAMES, k_NAMES := ⟨_, _, ⟨L_NAMES, KL_NAMES, W_NAMES⟩, EN_NAMES⟩,
    a_SIGN_ROWS := A_SIGN_ROWS, o_SIGN_ROWS := O_SIGN_ROWS, n_SIGN_ROWS := n_SIGN_ROWS, w_SIGN_ROWS := w_SIGN_ROWS, g_SIGN_ROWS := PySem.W.mg_of X G q_SIGN_ROWS, l_SIGN_ROWS := L_SIGN_ROWS, e_SIGN_ROWS_0 := e_SIGN_ROWS_0, o_SIGN_ROWS_0 := O_SIGN_ROWS_0, n_SIGN_ROWS_0 := n_SIGN_ROWS_0, w_SIGN_ROWS_0 := w_SIGN_ROWS_0, l_SIGN_ROWS_0 := L_SIGN_ROWS_0, u_SIGN_ROWS_0_0 := u_SIGN_ROWS_0_0, u_SIGN_ROWS_0_1 := u_SIGN_ROWS_0_1, e_SIGN_ROWS_1 := e_SIGN_ROWS_1, o_SIGN_ROWS_1 := O_SIGN_ROWS_1, n_SIGN_ROWS_1 := n_SIGN_ROWS_1, w_SIGN_ROWS_1 := w_SIGN_ROWS_1, l_SIGN_ROWS_1 := L_SIGN_ROWS_1, u_SIGN_ROWS_1_0 := u_SIGN_ROWS_1_0, u_SIGN_ROWS_1_1 := u_SIGN_ROWS_1_1, e_SIGN_ROWS_2 := e_SIGN_ROWS_2, o_SIGN_ROWS_2 := O_SIGN_ROWS_2, n_SIGN_ROWS_2 := n_SIGN_ROWS_2, w_SIGN_ROWS_2 := w_SIGN_ROWS_2, l_SIGN_ROWS_2 := L_SIGN_ROWS_2, u_SIGN_ROWS_2_0 := u_SIGN_ROWS_2_0, u_SIGN_ROWS_2_1 := u_SIGN_ROWS_2_1,
    t_LONGEST := t_LONGEST, g_LONGEST := PySem.W.mg_of X G q_LONGEST,
    t_LONGEST_LABEL := t_LONGEST_LABEL, g_LONGEST_LABEL := PySem.W.mg_of X G q_LONGEST_LABEL,
    t_MOST_BRACKETS := t_MOST_BRACKETS, g_MOST_BRACKETS := PySem.W.mg_of X G q_MOST_BRACKETS,
    t_BARE_ENDS := t_BARE_ENDS, g_BARE_ENDS := PySem.W.mg_of X G q_BARE_ENDS,
    a_TITLE_SIGNS := A_TITLE_SIGNS, g_TITLE_SIGNS := PySem.W.mg_of X G q_TITLE_SIGNS, k_TITLE_SIGNS := ⟨_, _, ⟨L_TITLE_SIGNS, KL_TITLE_SIGNS, W_TITLE_SIGNS⟩, EN_TITLE_SIGNS⟩, e_TITLE_SIGNS_0 := e_TITLE_SIGNS_0, o_TITLE_SIGNS_0 := O_TITLE_SIGNS_0, n_TITLE_SIGNS_0 := n_TITLE_SIGNS_0, w_TITLE_SIGNS_0 := w_TITLE_SIGNS_0, l_TITLE_SIGNS_0 := L_TITLE_SIGNS_0, u_TITLE_SIGNS_0_0 := u_TITLE_SIGNS_0_0, u_TITLE_SIGNS_0_1 := u_TITLE_SIGNS_0_1, e_TITLE_SIGNS_1 := e_TITLE_SIGNS_1, o_TITLE_SIGNS_1 := O_TITLE_SIGNS_1, n_TITLE_SIGNS_1 := n_TITLE_SIGNS_1, w_TITLE_SIGNS_1 := w_TITLE_SIGNS_1, l_TITLE_SIGNS_1 := L_TITLE_SIGNS_1, u_TITLE_SIGNS_1_0 := u_TITLE_SIGNS_1_0, u_TITLE_SIGNS_1_1 := u_TITLE_SIGNS_1_1, e_TITLE_SIGNS_2 := e_TITLE_SIGNS_2, o_TITLE_SIGNS_2 := O_TITLE_SIGNS_2, n_TITLE_SIGNS_2 := n_TITLE_SIGNS_2, w_TITLE_SIGNS_2 := w_TITLE_SIGNS_2, l_TITLE_SIGNS_2 := L_TITLE_SIGNS_2, u_TITLE_SIGNS_2_0 := u_TITLE_SIGNS_2_0, u_TITLE_SIGNS_2_1 := u_TITLE_SIGNS_2_1,
    t_WHITE := t_WHITE, g_WHITE := PySem.W.mg_of X G q_WHITE,
    t_LETTERS := t_LETTERS, g_LETTERS := PySem.W.mg_of X G q_LETTERS,
    t_NAME_SIGNS := t_NAME_SIGNS, g_NAME_SIGNS := PySem.W.mg_of X G q_NAME_SIGNS,
    t_KEY_SIGNS := t_KEY_SIGNS, g_KEY_SIGNS := PySem.W.mg_of X G q_KEY_SIGNS,
    t_NO_BARE_SIGNS := t_NO_BARE_SIGNS, g_NO_BARE_SIGNS := PySem.W.mg_of X G q_NO_BARE_SIGNS,
    t_SCHEME_SIGNS := t_SCHEME_SIGNS, g_SCHEME_SIGNS := PySem.W.mg_of X G q_SCHEME_SIGNS,
    t_LOCAL_SIGNS := t_LOCAL_SIGNS, g_LOCAL_SIGNS := PySem.W.mg_of X G q_LOCAL_SIGNS,
    t_PART_SIGNS := t_PART_SIGNS, g_PART_SIGNS := PySem.W.mg_of X G q_PART_SIGNS,
    t_ENDS := t_ENDS, g_ENDS := PySem.W.mg_of X G q_ENDS,
    t_SHORTEST_SCHEME := t_SHORTEST_SCHEME, g_SHORTEST_SCHEME := PySem.W.mg_of X G q_SHORTEST_SCHEME,
    t_LONGEST_SCHEME := t_LONGEST_SCHEME, g_LONGEST_SCHEME := PySem.W.mg_of X G q_LONGEST_SCHEME,
    t_LONGEST_PART := t_LONGEST_PART, g_LONGEST_PART := PySem.W.mg_of X G q_LONGEST_PART,
    a_STEPS := A_STEPS, g_STEPS := PySem.W.mg_of X G q_STEPS, k_STEPS := ⟨_, _, ⟨L_STEPS, KL_STEPS, W_STEPS⟩, EN_STEPS⟩ }
  exact ⟨PySem.W.fnOf "law" "law" (defArgs s_law) (defBody s_law) (defScope s_law) .none kV72 dc72 pm72 an72 cd72 ct72, fun s v => .of_eq rfl, fun base _ _ => ok_law T F72⟩
end K45
open PySem PySem.W PyProof.Rows
set_option maxHeartbeats 0 in
theorem PySem.Challenge.cw_plainmark_k45_backslashes_breaks_and_ref_holds : PySem.Challenge.rw_plainmark_k45_backslashes_breaks_and_ref.Holds := by
  w_on; o_law; k_head; (case hw => w_witness2)
  k_fill
  refine L2.walk_of (l := PySem.Challenge.rw_plainmark_k45_backslashes_breaks_and_ref) (n := 63) (k := 100) (x := "_law_script") (CX := fun _ => L2.CX0) (sp := fun w => K45.sp_law _) rfl (by decide) rfl ⟨rfl, by decide, by decide⟩ (fun w h Y => PySem.W.kIn_of Y) ?F (fun _ _ a ns hl _ hS => ⟨a, ns, rfl, hS, hl, fun _ => rfl⟩) (fun _ _ _ _ _ h => h)
  case F =>
    intro w mg fa h KX G hmg
    refine' K45.all_mk KX G hmg ?qc_Bracket ?pg_Bracket ?hd_Bracket ?po_Bracket ?sa_Bracket ?mk_Bracket ?kc_Bracket ?na_Bracket_number ?na_Bracket_index ?na_Bracket_place ?na_Bracket_is_image ?qc_Scan ?pg_Scan ?hd_Scan ?po_Scan ?sa_Scan ?mk_Scan ?kc_Scan ?na_Scan_content ?na_Scan_known ?na_Scan_place ?na_Scan_row ?na_Scan_plain ?na_Scan_brackets ?na_Scan_noted ?na_Scan_bar ?na_Scan_strings ?qc_Run ?pg_Run ?hd_Run ?po_Run ?sa_Run ?mk_Run ?kc_Run ?na_Run_sign ?na_Run_length ?na_Run_left ?na_Run_opens ?na_Run_closes ?na_Run_ended ?na_Run_begun ?kit_Run_tuple ?a0 ?l0 ?c0 ?k0 ?a1 ?l1 ?c1 ?k1 ?a2 ?l2 ?c2 ?k2 ?a3 ?l3 ?c3 ?k3 ?a4 ?l4 ?c4 ?k4 ?a5 ?l5 ?c5 ?k5 ?a6 ?l6 ?c6 ?k6 ?a7 ?l7 ?c7 ?k7 ?a8 ?l8 ?c8 ?k8 ?a9 ?l9 ?c9 ?k9 ?a10 ?l10 ?c10 ?k10 ?a11 ?l11 ?c11 ?k11 ?a12 ?l12 ?c12 ?k12 ?a13 ?l13 ?c13 ?k13 ?a14 ?l14 ?c14 ?k14 ?a15 ?l15 ?c15 ?k15 ?a16 ?l16 ?c16 ?k16 ?a17 ?l17 ?c17 ?k17 ?a18 ?l18 ?c18 ?k18 ?a19 ?l19 ?c19 ?k19 ?a20 ?l20 ?c20 ?k20 ?a21 ?l21 ?c21 ?k21 ?a22 ?l22 ?c22 ?k22 ?a23 ?l23 ?c23 ?k23 ?a24 ?l24 ?c24 ?k24 ?a25 ?l25 ?c25 ?k25 ?a26 ?l26 ?c26 ?k26 ?a27 ?l27 ?c27 ?k27 ?a28 ?l28 ?c28 ?k28 ?a29 ?l29 ?c29 ?k29 ?a30 ?l30 ?c30 ?k30 ?a31 ?l31 ?c31 ?k31 ?a32 ?l32 ?c32 ?k32 ?a33 ?l33 ?c33 ?k33 ?a34 ?l34 ?c34 ?k34 ?a35 ?l35 ?c35 ?k35 ?a36 ?l36 ?c36 ?k36 ?a37 ?l37 ?c37 ?k37 ?a38 ?l38 ?c38 ?k38 ?a39 ?l39 ?c39 ?k39 ?a40 ?l40 ?c40 ?k40 ?a41 ?l41 ?c41 ?k41 ?a42 ?l42 ?c42 ?k42 ?a43 ?l43 ?c43 ?k43 ?a44 ?l44 ?c44 ?k44 ?a45 ?l45 ?c45 ?k45 ?a46 ?l46 ?c46 ?k46 ?a47 ?l47 ?c47 ?k47 ?a48 ?l48 ?c48 ?k48 ?a49 ?l49 ?c49 ?k49 ?a50 ?l50 ?c50 ?k50 ?a51 ?l51 ?c51 ?k51 ?a52 ?l52 ?c52 ?k52 ?a53 ?l53 ?c53 ?k53 ?a54 ?l54 ?c54 ?k54 ?a55 ?l55 ?c55 ?k55 ?a56 ?l56 ?c56 ?k56 ?a57 ?l57 ?c57 ?k57 ?a58 ?l58 ?c58 ?k58 ?a59 ?l59 ?c59 ?k59 ?a60 ?l60 ?c60 ?k60 ?E60 ?D60 ?a61 ?l61 ?c61 ?k61 ?a62 ?l62 ?c62 ?k62 ?a63 ?l63 ?c63 ?k63 ?a64 ?l64 ?c64 ?k64 ?a65 ?l65 ?c65 ?k65 ?a66 ?l66 ?c66 ?k66 ?a67 ?l67 ?c67 ?k67 ?a68 ?l68 ?c68 ?k68 ?a69 ?l69 ?c69 ?k69 ?a70 ?l70 ?c70 ?k70 ?a71 ?l71 ?c71 ?k71 ?a72 ?l72 ?c72 ?k72 ?a73 ?i73 ?l73 ?c73 ?k73 ?a74 ?i74 ?l74 ?c74 ?k74 ?a75 ?i75 ?l75 ?c75 ?k75 ?a76 ?i76 ?l76 ?c76 ?k76 ?a77 ?i77 ?l77 ?c77 ?k77 ?a78 ?i78 ?l78 ?c78 ?k78 ?a79 ?i79 ?l79 ?c79 ?k79 ?z_abs ?z_all ?z_dict ?z_enumerate ?z_int ?z_isinstance ?z_len ?z_list ?z_max ?z_min ?z_ord ?z_range ?z_str ?z_tuple ?z_zip ?q_INLINE_WHITE ?q_PUNCTUATION ?q_NAMES ?L_NAMES ?KL_NAMES ?W_NAMES ?EN_NAMES ?q_SIGN_ROWS ?L_SIGN_ROWS ?L_SIGN_ROWS_0 ?L_SIGN_ROWS_1 ?L_SIGN_ROWS_2 ?q_LONGEST ?q_LONGEST_LABEL ?q_MOST_BRACKETS ?q_BARE_ENDS ?q_TITLE_SIGNS ?L_TITLE_SIGNS ?KL_TITLE_SIGNS ?W_TITLE_SIGNS ?EN_TITLE_SIGNS ?L_TITLE_SIGNS_0 ?L_TITLE_SIGNS_1 ?L_TITLE_SIGNS_2 ?q_WHITE ?q_LETTERS ?q_NAME_SIGNS ?q_KEY_SIGNS ?q_NO_BARE_SIGNS ?q_SCHEME_SIGNS ?q_LOCAL_SIGNS ?q_PART_SIGNS ?q_ENDS ?q_SHORTEST_SCHEME ?q_LONGEST_SCHEME ?q_LONGEST_PART ?q_STEPS ?L_STEPS ?KL_STEPS ?W_STEPS ?EN_STEPS
    (case qc_Bracket => k_is); (case pg_Bracket => k_is); (case hd_Bracket => k_is); (case po_Bracket => k_is); (case sa_Bracket => k_is); (case mk_Bracket => k_is); (case kc_Bracket => k_is); (case na_Bracket_number => k_is); (case na_Bracket_index => k_is); (case na_Bracket_place => k_is); (case na_Bracket_is_image => k_is); (case qc_Scan => k_is); (case pg_Scan => k_is); (case hd_Scan => k_is); (case po_Scan => k_is); (case sa_Scan => k_is); (case mk_Scan => k_is); (case kc_Scan => k_is); (case na_Scan_content => k_is); (case na_Scan_known => k_is); (case na_Scan_place => k_is); (case na_Scan_row => k_is); (case na_Scan_plain => k_is); (case na_Scan_brackets => k_is); (case na_Scan_noted => k_is); (case na_Scan_bar => k_is); (case na_Scan_strings => k_is); (case qc_Run => k_is); (case pg_Run => k_is); (case hd_Run => k_is); (case po_Run => k_is); (case sa_Run => k_is); (case mk_Run => k_is); (case kc_Run => k_is); (case na_Run_sign => k_is); (case na_Run_length => k_is); (case na_Run_left => k_is); (case na_Run_opens => k_is); (case na_Run_closes => k_is); (case na_Run_ended => k_is); (case na_Run_begun => k_is); (case kit_Run_tuple => kit_is); (case a0 => k_is); (case l0 => k_is); (case c0 => k_is); (case k0 => k_is); (case a1 => k_is); (case l1 => k_is); (case c1 => k_is); (case k1 => k_is); (case a2 => k_is); (case l2 => k_is); (case c2 => k_is); (case k2 => k_is); (case a3 => k_is); (case l3 => k_is); (case c3 => k_is); (case k3 => k_is); (case a4 => k_is); (case l4 => k_is); (case c4 => k_is); (case k4 => k_is); (case a5 => k_is); (case l5 => k_is); (case c5 => k_is); (case k5 => k_is); (case a6 => k_is); (case l6 => k_is); (case c6 => k_is); (case k6 => k_is); (case a7 => k_is); (case l7 => k_is); (case c7 => k_is); (case k7 => k_is); (case a8 => k_is); (case l8 => k_is); (case c8 => k_is); (case k8 => k_is); (case a9 => k_is); (case l9 => k_is); (case c9 => k_is); (case k9 => k_is); (case a10 => k_is); (case l10 => k_is); (case c10 => k_is); (case k10 => k_is); (case a11 => k_is); (case l11 => k_is); (case c11 => k_is); (case k11 => k_is); (case a12 => k_is); (case l12 => k_is); (case c12 => k_is); (case k12 => k_is); (case a13 => k_is); (case l13 => k_is); (case c13 => k_is); (case k13 => k_is); (case a14 => k_is); (case l14 => k_is); (case c14 => k_is); (case k14 => k_is); (case a15 => k_is); (case l15 => k_is); (case c15 => k_is); (case k15 => k_is); (case a16 => k_is); (case l16 => k_is); (case c16 => k_is); (case k16 => k_is); (case a17 => k_is); (case l17 => k_is); (case c17 => k_is); (case k17 => k_is); (case a18 => k_is); (case l18 => k_is); (case c18 => k_is); (case k18 => k_is); (case a19 => k_is); (case l19 => k_is); (case c19 => k_is); (case k19 => k_is); (case a20 => k_is); (case l20 => k_is); (case c20 => k_is); (case k20 => k_is); (case a21 => k_is); (case l21 => k_is); (case c21 => k_is); (case k21 => k_is); (case a22 => k_is); (case l22 => k_is); (case c22 => k_is); (case k22 => k_is); (case a23 => k_is); (case l23 => k_is); (case c23 => k_is); (case k23 => k_is); (case a24 => k_is); (case l24 => k_is); (case c24 => k_is); (case k24 => k_is); (case a25 => k_is); (case l25 => k_is); (case c25 => k_is); (case k25 => k_is); (case a26 => k_is); (case l26 => k_is); (case c26 => k_is); (case k26 => k_is); (case a27 => k_is); (case l27 => k_is); (case c27 => k_is); (case k27 => k_is); (case a28 => k_is); (case l28 => k_is); (case c28 => k_is); (case k28 => k_is); (case a29 => k_is); (case l29 => k_is); (case c29 => k_is); (case k29 => k_is); (case a30 => k_is); (case l30 => k_is); (case c30 => k_is); (case k30 => k_is); (case a31 => k_is); (case l31 => k_is); (case c31 => k_is); (case k31 => k_is); (case a32 => k_is); (case l32 => k_is); (case c32 => k_is); (case k32 => k_is); (case a33 => k_is); (case l33 => k_is); (case c33 => k_is); (case k33 => k_is); (case a34 => k_is); (case l34 => k_is); (case c34 => k_is); (case k34 => k_is); (case a35 => k_is); (case l35 => k_is); (case c35 => k_is); (case k35 => k_is); (case a36 => k_is); (case l36 => k_is); (case c36 => k_is); (case k36 => k_is); (case a37 => k_is); (case l37 => k_is); (case c37 => k_is); (case k37 => k_is); (case a38 => k_is); (case l38 => k_is); (case c38 => k_is); (case k38 => k_is); (case a39 => k_is); (case l39 => k_is); (case c39 => k_is); (case k39 => k_is); (case a40 => k_is); (case l40 => k_is); (case c40 => k_is); (case k40 => k_is); (case a41 => k_is); (case l41 => k_is); (case c41 => k_is); (case k41 => k_is); (case a42 => k_is); (case l42 => k_is); (case c42 => k_is); (case k42 => k_is); (case a43 => k_is); (case l43 => k_is); (case c43 => k_is); (case k43 => k_is); (case a44 => k_is); (case l44 => k_is); (case c44 => k_is); (case k44 => k_is); (case a45 => k_is); (case l45 => k_is); (case c45 => k_is); (case k45 => k_is); (case a46 => k_is); (case l46 => k_is); (case c46 => k_is); (case k46 => k_is); (case a47 => k_is); (case l47 => k_is); (case c47 => k_is); (case k47 => k_is); (case a48 => k_is); (case l48 => k_is); (case c48 => k_is); (case k48 => k_is); (case a49 => k_is); (case l49 => k_is); (case c49 => k_is); (case k49 => k_is); (case a50 => k_is); (case l50 => k_is); (case c50 => k_is); (case k50 => k_is); (case a51 => k_is); (case l51 => k_is); (case c51 => k_is); (case k51 => k_is); (case a52 => k_is); (case l52 => k_is); (case c52 => k_is); (case k52 => k_is); (case a53 => k_is); (case l53 => k_is); (case c53 => k_is); (case k53 => k_is); (case a54 => k_is); (case l54 => k_is); (case c54 => k_is); (case k54 => k_is); (case a55 => k_is); (case l55 => k_is); (case c55 => k_is); (case k55 => k_is); (case a56 => k_is); (case l56 => k_is); (case c56 => k_is); (case k56 => k_is); (case a57 => k_is); (case l57 => k_is); (case c57 => k_is); (case k57 => k_is); (case a58 => k_is); (case l58 => k_is); (case c58 => k_is); (case k58 => k_is); (case a59 => k_is); (case l59 => k_is); (case c59 => k_is); (case k59 => k_is); (case a60 => k_is); (case l60 => k_is); (case c60 => k_is); (case k60 => k_is); (case E60 => rfl); (case D60 => k_is); (case a61 => k_is); (case l61 => k_is); (case c61 => k_is); (case k61 => k_is); (case a62 => k_is); (case l62 => k_is); (case c62 => k_is); (case k62 => k_is); (case a63 => k_is); (case l63 => k_is); (case c63 => k_is); (case k63 => k_is); (case a64 => k_is); (case l64 => k_is); (case c64 => k_is); (case k64 => k_is); (case a65 => k_is); (case l65 => k_is); (case c65 => k_is); (case k65 => k_is); (case a66 => k_is); (case l66 => k_is); (case c66 => k_is); (case k66 => k_is); (case a67 => k_is); (case l67 => k_is); (case c67 => k_is); (case k67 => k_is); (case a68 => k_is); (case l68 => k_is); (case c68 => k_is); (case k68 => k_is); (case a69 => k_is); (case l69 => k_is); (case c69 => k_is); (case k69 => k_is); (case a70 => k_is); (case l70 => k_is); (case c70 => k_is); (case k70 => k_is); (case a71 => k_is); (case l71 => k_is); (case c71 => k_is); (case k71 => k_is); (case a72 => k_is); (case l72 => k_is); (case c72 => k_is); (case k72 => k_is); (case a73 => k_is); (case i73 => k_is); (case l73 => k_is); (case c73 => k_is); (case k73 => k_is); (case a74 => k_is); (case i74 => k_is); (case l74 => k_is); (case c74 => k_is); (case k74 => k_is); (case a75 => k_is); (case i75 => k_is); (case l75 => k_is); (case c75 => k_is); (case k75 => k_is); (case a76 => k_is); (case i76 => k_is); (case l76 => k_is); (case c76 => k_is); (case k76 => k_is); (case a77 => k_is); (case i77 => k_is); (case l77 => k_is); (case c77 => k_is); (case k77 => k_is); (case a78 => k_is); (case i78 => k_is); (case l78 => k_is); (case c78 => k_is); (case k78 => k_is); (case a79 => k_is); (case i79 => k_is); (case l79 => k_is); (case c79 => k_is); (case k79 => k_is); (case z_abs => k_is); (case z_all => k_is); (case z_dict => k_is); (case z_enumerate => k_is); (case z_int => k_is); (case z_isinstance => k_is); (case z_len => k_is); (case z_list => k_is); (case z_max => k_is); (case z_min => k_is); (case z_ord => k_is); (case z_range => k_is); (case z_str => k_is); (case z_tuple => k_is); (case z_zip => k_is); (case q_INLINE_WHITE => k_is); (case q_PUNCTUATION => k_is); (case q_NAMES => k_is); (case L_NAMES => k_is); (case KL_NAMES => exact ⟨⟨_, _, rfl, rfl⟩, ⟨⟨_, _, rfl, rfl⟩, ⟨⟨_, _, rfl, rfl⟩, ⟨⟨_, _, rfl, rfl⟩, ⟨⟨_, _, rfl, rfl⟩, ⟨⟨_, _, rfl, rfl⟩, ⟨⟨_, _, rfl, rfl⟩, ⟨⟨_, _, rfl, rfl⟩, ⟨⟨_, _, rfl, rfl⟩, ⟨⟨_, _, rfl, rfl⟩, ⟨⟨_, _, rfl, rfl⟩, ⟨⟨_, _, rfl, rfl⟩, ⟨⟨_, _, rfl, rfl⟩, ⟨⟨_, _, rfl, rfl⟩, ⟨⟨_, _, rfl, rfl⟩, ⟨⟨_, _, rfl, rfl⟩, ⟨⟨_, _, rfl, rfl⟩, ⟨⟨_, _, rfl, rfl⟩, ⟨⟨_, _, rfl, rfl⟩, True.intro⟩⟩⟩⟩⟩⟩⟩⟩⟩⟩⟩⟩⟩⟩⟩⟩⟩⟩⟩); (case W_NAMES => rfl); (case EN_NAMES => exact ⟨⟨_, rfl⟩, ⟨_, rfl⟩, ⟨⟨_, rfl⟩, ⟨_, rfl⟩, ⟨⟨_, rfl⟩, ⟨_, rfl⟩, ⟨⟨_, rfl⟩, ⟨_, rfl⟩, ⟨⟨_, rfl⟩, ⟨_, rfl⟩, ⟨⟨_, rfl⟩, ⟨_, rfl⟩, ⟨⟨_, rfl⟩, ⟨_, rfl⟩, ⟨⟨_, rfl⟩, ⟨_, rfl⟩, ⟨⟨_, rfl⟩, ⟨_, rfl⟩, ⟨⟨_, rfl⟩, ⟨_, rfl⟩, ⟨⟨_, rfl⟩, ⟨_, rfl⟩, ⟨⟨_, rfl⟩, ⟨_, rfl⟩, ⟨⟨_, rfl⟩, ⟨_, rfl⟩, ⟨⟨_, rfl⟩, ⟨_, rfl⟩, ⟨⟨_, rfl⟩, ⟨_, rfl⟩, ⟨⟨_, rfl⟩, ⟨_, rfl⟩, ⟨⟨_, rfl⟩, ⟨_, rfl⟩, ⟨⟨_, rfl⟩, ⟨_, rfl⟩, ⟨⟨_, rfl⟩, ⟨_, rfl⟩, True.intro⟩⟩⟩⟩⟩⟩⟩⟩⟩⟩⟩⟩⟩⟩⟩⟩⟩⟩⟩); (case q_SIGN_ROWS => k_is); (case L_SIGN_ROWS => k_is); (case L_SIGN_ROWS_0 => k_is); (case L_SIGN_ROWS_1 => k_is); (case L_SIGN_ROWS_2 => k_is); (case q_LONGEST => k_is); (case q_LONGEST_LABEL => k_is); (case q_MOST_BRACKETS => k_is); (case q_BARE_ENDS => k_is); (case q_TITLE_SIGNS => k_is); (case L_TITLE_SIGNS => k_is); (case KL_TITLE_SIGNS => exact ⟨⟨_, _, rfl, rfl⟩, ⟨⟨_, _, rfl, rfl⟩, ⟨⟨_, _, rfl, rfl⟩, True.intro⟩⟩⟩); (case W_TITLE_SIGNS => rfl); (case EN_TITLE_SIGNS => exact ⟨⟨_, rfl⟩, rfl, ⟨⟨_, rfl⟩, rfl, ⟨⟨_, rfl⟩, rfl, True.intro⟩⟩⟩); (case L_TITLE_SIGNS_0 => k_is); (case L_TITLE_SIGNS_1 => k_is); (case L_TITLE_SIGNS_2 => k_is); (case q_WHITE => k_is); (case q_LETTERS => k_is); (case q_NAME_SIGNS => k_is); (case q_KEY_SIGNS => k_is); (case q_NO_BARE_SIGNS => k_is); (case q_SCHEME_SIGNS => k_is); (case q_LOCAL_SIGNS => k_is); (case q_PART_SIGNS => k_is); (case q_ENDS => k_is); (case q_SHORTEST_SCHEME => k_is); (case q_LONGEST_SCHEME => k_is); (case q_LONGEST_PART => k_is); (case q_STEPS => k_is); (case L_STEPS => k_is); (case KL_STEPS => exact ⟨⟨_, _, rfl, rfl⟩, ⟨⟨_, _, rfl, rfl⟩, ⟨⟨_, _, rfl, rfl⟩, ⟨⟨_, _, rfl, rfl⟩, ⟨⟨_, _, rfl, rfl⟩, ⟨⟨_, _, rfl, rfl⟩, ⟨⟨_, _, rfl, rfl⟩, ⟨⟨_, _, rfl, rfl⟩, ⟨⟨_, _, rfl, rfl⟩, ⟨⟨_, _, rfl, rfl⟩, True.intro⟩⟩⟩⟩⟩⟩⟩⟩⟩⟩); (case W_STEPS => rfl); (case EN_STEPS => exact ⟨⟨_, rfl⟩, rfl, ⟨⟨_, rfl⟩, rfl, ⟨⟨_, rfl⟩, rfl, ⟨⟨_, rfl⟩, rfl, ⟨⟨_, rfl⟩, rfl, ⟨⟨_, rfl⟩, rfl, ⟨⟨_, rfl⟩, rfl, ⟨⟨_, rfl⟩, rfl, ⟨⟨_, rfl⟩, rfl, ⟨⟨_, rfl⟩, rfl, True.intro⟩⟩⟩⟩⟩⟩⟩⟩⟩⟩)
