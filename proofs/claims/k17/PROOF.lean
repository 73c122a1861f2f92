import PyProof.Rows.All
import Wide.All
import OpenK.AllK
import Wide.FinOn
import HandS.ForMost
import HandS.Wide
import HandS.StrMore
import HandS.Style
import HandS.Flow
import HandS.Walk
import PyProof.Draws
import PyProof.StrOps2

import HandS.IntHex
import HandS.Dict
import HandS.More
import KE.KIntText
import HandS.ReplaceLit
import PyProof.ToksMono
import HandS.CallLocal
import HandS.RevRange
import HandS.Conv
import HandS.Zip
import HandS.TupAny
import HandS.ReplaceDef
import HandS.ReplaceList
import KE.GoesMore
import KE.GoesZip
import OpenK.KMore
import PySem.Challenge.RW_plainmark_k17_escaped_and_words

set_option Elab.async false
set_option linter.all false
set_option maxRecDepth 100000
/-! words of my own over the hand layer -/
namespace My
open PySem PySem.Spec PyProof.Rows L2

/-- a text by its signs -/
def S (l : List Nat) : Str := ⟨l.toArray⟩
theorem S_tl (l : List Nat) : (S l).cps.toList = l := by simp [S]
theorem S_of (z : Str) : z = S z.cps.toList := by
  cases z
  simp [S]
theorem S_len (l : List Nat) : (S l).length = l.length := by simp [S, Str.length]
theorem S_size (l : List Nat) : (S l).cps.size = l.length := by simp [S]
theorem S_get (l : List Nat) (i : Nat) : (S l).cps[i]? = l[i]? := by simp [S]
theorem S_app (a b : List Nat) : S a ++ S b = S (a ++ b) := by
  show (⟨a.toArray ++ b.toArray⟩ : Str) = ⟨(a ++ b).toArray⟩
  simp
theorem S_inj {a b : List Nat} (h : S a = S b) : a = b := by
  have := congrArg (fun z : Str => z.cps.toList) h
  simpa [S] using this
theorem S_dec (a b : List Nat) : decide (V.str (S a) = V.str (S b)) = decide (a = b) := by
  by_cases h : a = b
  · subst h
    simp
  · have h2 : ¬ V.str (S a) = V.str (S b) := fun e => h (S_inj (V.str.inj e))
    simp [h, h2]
theorem S_cut (l : List Nat) (k : Nat) : cutS (S l) (some (k : Int)) none = S (l.drop k) := by
  unfold cutS
  rw [HT.sIx_nat, HT.sIx_none, S_len, S_tl]
  show S _ = S _
  congr 1
  by_cases h : k ≤ l.length
  · rw [Nat.min_eq_left h]
    exact List.take_of_length_le (by rw [List.length_drop]; omega)
  · rw [Nat.min_eq_right (by omega), Nat.sub_self, List.take_zero, List.drop_of_length_le (by omega)]
theorem S_cut2 (l : List Nat) (j k : Nat) (h : j ≤ k) : cutS (S l) (some (j : Int)) (some (k : Int)) = S ((l.drop j).take (k - j)) := by
  unfold cutS
  rw [HT.sIx_nat, HT.sIx_nat, S_len, S_tl]
  show S _ = S _
  congr 1
  by_cases h1 : j ≤ l.length
  · rw [Nat.min_eq_left h1]
    by_cases h2 : k ≤ l.length
    · rw [Nat.min_eq_left h2]
    · rw [Nat.min_eq_right (by omega), List.take_of_length_le (by rw [List.length_drop]; omega), List.take_of_length_le (by rw [List.length_drop]; omega)]
  · rw [List.drop_of_length_le (by omega), List.drop_of_length_le (by omega), List.take_nil, List.take_nil]

/-- all that is tracked but L stays -/
def Keeps (L : Addr) (H H' : Hp) : Prop := ∀ b o, b ≠ L → H b = some o → H' b = some o
theorem Keeps.refl {L : Addr} (H : Hp) : Keeps L H H := fun _ _ _ h => h
theorem Keeps.trans {L : Addr} {H H1 H2 : Hp} (a : Keeps L H H1) (b : Keeps L H1 H2) : Keeps L H H2 := fun c o n h => b c o n (a c o n h)
theorem Keeps.new {L p : Addr} {H : Hp} {o : HO} (h : H p = none) : Keeps L H (upd H p o) := fun b u _ e => by
  rw [upd_ne (ne_of_none e h)]
  exact e
theorem Keeps.at {L : Addr} {H : Hp} {o : HO} : Keeps L H (upd H L o) := fun b u n e => by
  rw [upd_ne n]
  exact e
theorem Keeps.of {L : Addr} {H H' : Hp} (h : Same H H') : Keeps L H H' := fun b o _ e => h b o e
theorem same_new {p : Addr} {H : Hp} {o : HO} (h : H p = none) : Same H (upd H p o) := fun b u e => by
  rw [upd_ne (ne_of_none e h)]
  exact e
/-- a well of draws -/
def Well (H : Hp) (L : Addr) : Prop := ∃ x y : Int, H L = some (.lst [.int x, .int y])
theorem Well.same {H H' : Hp} {L : Addr} (h : Well H L) (s : Same H H') : Well H' L := by
  obtain ⟨x, y, e⟩ := h
  exact ⟨x, y, s _ _ e⟩
theorem Well.new {H : Hp} {L p : Addr} {o : HO} (h : Well H L) (n : H p = none) : Well (upd H p o) L := h.same (same_new n)
theorem Well.ne {H : Hp} {L p : Addr} (h : Well H L) (n : H p = none) : p ≠ L := by
  obtain ⟨x, y, e⟩ := h
  exact (ne_of_none e n).symm
theorem Well.kept {H H' : Hp} {L p : Addr} (h : Well H L) (k : Keeps L H H') (w : Well H' L) (n : H' p = none) : H p = none := by
  cases q : H p with
  | none => rfl
  | some o =>
    have z := k p o (w.ne n) q
    rw [n] at z
    cases z
theorem Keeps.free {L p : Addr} {H H' : Hp} (k : Keeps L H H') (n : H' p = none) (h : p ≠ L) : H p = none := by
  cases q : H p with
  | none => rfl
  | some o =>
    have z := k p o h q
    rw [n] at z
    cases z
theorem Keeps.seq {K : PySem.W.Frag} {L a : Addr} {H H' : Hp} {xs : List V} (k : Keeps L H H') (n : a ≠ L) (h : SqL K H a xs) : SqL K H' a xs := by
  rcases h with (h | ⟨o, h⟩) | h
  · exact .inl (.inl (k _ _ n h))
  · exact .inl (.inr ⟨o, k _ _ n h⟩)
  · exact .inr h
theorem Keeps.tup {K : PySem.W.Frag} {L a : Addr} {H H' : Hp} {xs : List V} (k : Keeps L H H') (n : a ≠ L) (h : SqT K H a xs) : SqT K H' a xs := by
  rcases h with (h | ⟨o, h⟩) | h
  · exact .inl (.inl (k _ _ n h))
  · exact .inl (.inr ⟨o, k _ _ n h⟩)
  · exact .inr h

section
variable {X : Cx}
/-- one sign, so often -/
theorem op_mul_str : OpR X (binaryOp .Mult) (fun x y H Q => ∃ (c j : Nat), x = .str (S [c]) ∧ y = .int (j : Int) ∧ j ≤ 1000 ∧ Q (.str (S (List.replicate j c))) H) := by
  intro pins s σ H x y v u Q I rx ry h
  obtain ⟨c, j, rfl, rfl, hj, q⟩ := h
  obtain ⟨t, rfl⟩ := rx
  obtain ⟨t', rfl⟩ := ry
  have hlen : (S [c]).length = 1 := S_len _
  refine PySem.P.mul_str (by simp; omega) (fun _ _ => by
    rw [hlen]
    have : (1 : Int) ≤ (2 ^ 63 - 1) / (j : Int) := by
      by_cases hj0 : j = 0
      · omega
      · refine Int.le_ediv_of_mul_le (by omega) ?_
        omega
    omega) (fun _ _ => by
    rw [hlen]
    have : (j : Int).toNat = j := by omega
    rw [this]
    exact decide_eq_false (by rw [sizeLine_eq]; omega)) ?_
  have fin : ∀ (l : List Nat), l = List.replicate j c → ∀ (v : Value) (k : Nat), RelV (.str (S l)) v → EP X pins σ Q v { s with toks := k } := fun l e v k r => ⟨.str (S l), H, I.tok _, r, by rw [e]; exact q⟩
  by_cases h0 : (j : Int) < 1
  · have e0 : j = 0 := by omega
    rw [if_pos h0]
    exact ⟨by decide, fin [] (by rw [e0]; rfl) _ _ ⟨_, rfl⟩⟩
  · rw [if_neg h0]
    by_cases h1 : j = 1
    · subst h1
      rw [if_pos (by rfl)]
      exact fin [c] rfl _ s.toks ⟨_, rfl⟩
    · rw [if_neg (by rw [hlen]; simp; omega)]
      have e : (⟨(List.replicate (j : Int).toNat (S [c]).cps).foldl (· ++ ·) #[]⟩ : Str) = S (List.replicate j c) := by
        have ej : (j : Int).toNat = j := by omega
        rw [ej]
        have gen : ∀ (n : Nat) (acc : List Nat), (List.replicate n (S [c]).cps).foldl (· ++ ·) acc.toArray = (acc ++ List.replicate n c).toArray := by
          intro n
          induction n with
          | zero => intro acc; simp
          | succ n ih =>
            intro acc
            rw [List.replicate_succ, List.foldl_cons]
            have : acc.toArray ++ (S [c]).cps = (acc ++ [c]).toArray := by simp [S]
            rw [this, ih, List.replicate_succ]
            simp
        have := gen j []
        simp at this
        unfold S
        congr 1
      rw [e]
      refine ⟨?_, fin _ rfl _ _ ⟨_, rfl⟩⟩
      rw [S_len, List.length_replicate, sizeLine_eq]
      omega

/-- a text with its places -/
def Its2 (z : Str) : It :=
  ⟨fun i _ => i < z.cps.size, fun i H v H' => ∃ T c, v = .ref T ∧ H T = none ∧ H' = upd H T (.tup [.int (i : Nat), .str (S [c])]) ∧ z.cps[i]? = some c, fun i _ => i = z.cps.size⟩
theorem turn_enumS {P : Program} {w : World} {K : PySem.W.Frag} {elts : List Expr} {kk : Nat} {tpos : Pos} (z : Str) (t : Tok) (e it : Addr) :
    Turn P w K (.Tuple elts kk tpos) (Its2 z) [e, it] e (fun i h => (∃ old, IsEnum h e it ((i : Nat) : Int) old) ∧ h.IsStrIter it (strIterType z) z t i ∧ e ≠ it) where
  mem := List.mem_cons_self ..
  obj := fun i h st b hb => by
    obtain ⟨⟨old, he⟩, ⟨o, ho, hc, hd⟩, _⟩ := st
    rcases List.mem_cons.mp hb with rfl | hb
    · exact ⟨_, he, fun v q => nomatch q⟩
    · rw [List.mem_singleton.mp hb]
      exact ⟨o, ho, fun v q => by rw [hd] at q; cases q⟩
  keep := fun i h h' st k => by
    obtain ⟨⟨old, he⟩, ⟨o, ho, r⟩, hne⟩ := st
    exact ⟨⟨old, k e (by simp) _ he⟩, ⟨o, k it (by simp) o ho, r⟩, hne⟩
  item := by
    intro X hP hw hK hc i pins s σ H E I hf st hg
    subst hP hw hK
    obtain ⟨⟨old, he⟩, hit, hne⟩ := st
    have hel : e < s.heap.objs.size := Heap.lt_size he
    have hil : it < s.heap.objs.size := by
      obtain ⟨_, q, _⟩ := hit
      exact Heap.lt_size q
    have hef : e ∉ [it] := fun q => hne (List.mem_singleton.mp q)
    have D : Draws X.prog X.w X.A.in1 it [it] z.cps.size (fun i v => ∃ c u, z.cps[i]? = some c ∧ v = .str ⟨#[c]⟩ u) (fun i h => h.IsStrIter it (strIterType z) z t i) := by
      unfold strIterType
      cases ha : z.cps.all (· < 128)
      · simpa [ha] using Draws.strWide (prog := X.prog) (w := X.w) (A := X.A.in1) (I.ok.hd hc) it z t
      · simpa [ha] using Draws.strAscii (prog := X.prog) (w := X.w) (A := X.A.in1) (I.ok.hd hc) it z t
    refine wpAny_pyNext_enum_itemD D he hit hg hne hef fun x h' tk hx ho hit' hT hsz hk => ?_
    obtain ⟨c, u, hcx, rfl⟩ := hx
    refine ⟨_, rfl, wpAny_letOwnedTupleGo_enum (s := { s with heap := h', toks := tk + 1 }) ho fun h'' he' sb => ?_⟩
    have hT2 : h''.get? s.heap.objs.size = some { cls := .type "tuple", data := .seq #[.int i tk, .str ⟨#[c]⟩ u] } := (sb.2 _ (Nat.ne_of_gt hel)).trans hT
    have new : ObjOk X.prog X.w (upd H s.heap.objs.size (.tup [.int (i : Nat), .str (S [c])])) h'' s.heap.objs.size (.tup [.int (i : Nat), .str (S [c])]) :=
      ⟨by show 2 ≤ sizeLine; decide, [.int i tk, .str ⟨#[c]⟩ u], .cons ⟨_, rfl⟩ (.cons ⟨_, rfl⟩ .nil), ⟨_, hT2, rfl, _, rfl⟩⟩
    have hold : ∀ b ob, b ∉ [e, it] → s.heap.get? b = some ob → h''.get? b = some ob := fun b ob hb q =>
      (sb.2 b (fun q => hb (by simp [q]))).trans (hk b ob (fun q => hb (by simp [q])) (fun q => hb (by simp [q])) q)
    have I1 : Inv X pins σ (upd H s.heap.objs.size (.tup [.int (i : Nat), .str (S [c])])) { s with heap := h'', toks := tk + 1 } :=
      I.turnedNew (t' := tk + 1) (ch := [e, it]) hold hf (Nat.le_refl _) new
    refine ⟨.ref s.heap.objs.size, _, I1, rfl, ⟨_, c, rfl, I.hok.fresh (Nat.le_refl _), rfl, hcx⟩, ⟨⟨.str ⟨#[c]⟩ u, ?_⟩, ?_, hne⟩, fun b hb => ?_⟩
    · have e1 : ((i + 1 : Nat) : Int) = (i : Int) + 1 := Int.natCast_succ i
      rw [e1]
      exact he'
    · obtain ⟨o, q, r⟩ := hit'
      exact ⟨o, (sb.2 it (Ne.symm hne)).trans q, r⟩
    · have hb' : b < s.heap.objs.size := by
        rcases List.mem_cons.mp hb with q | q
        · rw [q]
          exact hel
        · rw [List.mem_singleton.mp q]
          exact hil
      rw [upd_ne (Nat.ne_of_lt hb')]
      exact (hf b hb).1
  done := by
    intro X hP hw hK hc i pins s σ H E I hf st hg
    subst hP hw hK
    obtain ⟨⟨old, he⟩, hit, hne⟩ := st
    obtain ⟨f0, f1, f2, f3, f4, f5⟩ := hf it (by simp)
    have D : Draws X.prog X.w X.A.in1 it [it] z.cps.size (fun i v => ∃ c u, z.cps[i]? = some c ∧ v = .str ⟨#[c]⟩ u) (fun i h => h.IsStrIter it (strIterType z) z t i) := by
      unfold strIterType
      cases ha : z.cps.all (· < 128)
      · simpa [ha] using Draws.strWide (prog := X.prog) (w := X.w) (A := X.A.in1) (I.ok.hd hc) it z t
      · simpa [ha] using Draws.strAscii (prog := X.prog) (w := X.w) (A := X.A.in1) (I.ok.hd hc) it z t
    have hi : i = z.cps.size := hg
    subst hi
    exact wpAny_pyNext_enum_endD D he hit fun h' eb => ⟨rfl, I.turned (t' := s.toks) (fun b o hb q => eb b o hb q) f0 f1 f3 f4 f5⟩
  self := fun A i s Q E st h => by
    obtain ⟨⟨_, he⟩, _⟩ := st
    exact wpAny_pyIter_enum he h
def iEnumS (ta : TA) : TI := fun σ H R => ta σ H fun vs H1 => ∃ z, vs = [.str z] ∧ R (Its2 z) H1
theorem pi_enumS {e : Expr} {ta : TA} {p pos tpos : Pos} {elts : List Expr} {kk : Nat} (hg : Gl X "enumerate") (hm : X.mg "enumerate" = none) (ha : PA X [e] ta)
    (hs : starEach [e] X.env = [(false, eval e X.env)] := by rfl) : PI X (.Tuple elts kk tpos) (.Call (.Name "enumerate" p) [e] [] pos) (iEnumS ta) := by
  refine ⟨fun pins s σ H R I h => ?_⟩
  refine Call_ (ld_blt I hg hm boot_enumerate (PyProof.Rows.callWith_type1 (thn (ha.run pos pins s σ H _ I h) fun us s1 ⟨vs, H1, I1, r1, q1⟩ => ?_) hs rfl))
  obtain ⟨z, rfl, q⟩ := q1
  obtain ⟨u1, rfl, r⟩ := vals1 r1
  obtain ⟨t, rfl⟩ := r
  refine PySem.call_enumerate_str fun h' he hit hsz hk => wpAny_pyIter_enum he ?_
  have I2 : Inv X pins σ H1 { s1 with heap := h' } := I1.kept (t' := s1.toks) hk
  refine ⟨s1.heap.objs.size + 1, [s1.heap.objs.size + 1, s1.heap.objs.size], _, _, H1, rfl, I2, turn_enumS z t (s1.heap.objs.size + 1) s1.heap.objs.size, ⟨⟨.none, he⟩, hit, Nat.succ_ne_self _⟩, fun b hb => ?_, q⟩
  have hle : s1.heap.objs.size ≤ b := by
    rcases List.mem_cons.mp hb with q | q
    · rw [q]
      exact Nat.le_succ _
    · rw [List.mem_singleton.mp q]
      exact Nat.le_refl _
  exact I1.fpOk hle (I1.hok.fresh hle)
theorem walk_enumS {z : Str} : Walk (Its2 z) z.cps.size (fun _ => True) (fun i H v H' => ∃ T c, v = .ref T ∧ H T = none ∧ H' = upd H T (.tup [.int (i : Nat), .str (S [c])]) ∧ z.cps[i]? = some c) :=
  ⟨fun _ _ hi _ => hi, fun _ _ => rfl, fun _ _ _ _ _ _ y => y⟩
end

/-! ### data -/
def Sm (l : List Nat) : Prop := ∀ c ∈ l, c < 1114112
theorem Sm.ok {l : List Nat} (h : Sm l) : PyData.strOk (S l) = true := by
  unfold PyData.strOk S
  rw [Array.all_eq_true']
  intro c hc
  exact decide_eq_true (h c (by simpa using hc))
theorem Sm.drop {l : List Nat} (h : Sm l) (n : Nat) : Sm (l.drop n) := fun c hc => h c (List.mem_of_mem_drop hc)
theorem dp_strs {K : PySem.W.Frag} {H : Hp} : ∀ ls : List (List Nat), DpAll K H (ls.map fun l => V.str (S l)) (ls.map fun l => PyData.str (S l))
  | [] => .nil
  | l :: r => .cons (.str _) (dp_strs r)
theorem canLay_strs : ∀ {ls : List (List Nat)}, (∀ l ∈ ls, Sm l) → PyData.canLayAll0 (ls.map fun l => PyData.str (S l)) = true
  | [], _ => rfl
  | l :: r, h => by
    show (PyData.strOk (S l) && PyData.canLayAll0 (r.map fun l => PyData.str (S l))) = true
    rw [(h l (List.mem_cons_self ..)).ok, canLay_strs fun z hz => h z (List.mem_cons_of_mem _ hz)]
    rfl
theorem depth_strs : ∀ ls : List (List Nat), PyData.depthAll (ls.map fun l => PyData.str (S l)) = 0
  | [] => rfl
  | l :: r => by
    show max 0 (PyData.depthAll (r.map fun l => PyData.str (S l))) = 0
    rw [depth_strs r]
    rfl
theorem shaped_strs {ls : List (List Nat)} (h : ∀ l ∈ ls, Sm l) : SeqAt.shaped (.list (ls.map fun l => PyData.str (S l))) = true := by
  show (PyData.canLayAll0 _ && decide (PyData.depthAll _ + 1 ≤ 64)) = true
  rw [canLay_strs h, depth_strs]
  rfl
theorem eq_strs {ls : List (List Nat)} (h : ∀ l ∈ ls, Sm l) : PyData.eqv (.list (ls.map fun l => PyData.str (S l))) (.list (ls.map fun l => PyData.str (S l))) = true :=
  PySem.SeqAt.eqv_refl _ (canLay_strs h)
/-- a text and two ints -/
def D3 (l : List Nat) (b c : Int) : PyData := .tuple [.str (S l), .int b, .int c]
theorem dp3 {K : PySem.W.Frag} {H : Hp} {a : Addr} {l : List Nat} {b c : Int} (h : SqT K H a [.str (S l), .int b, .int c]) : Dp K H (.ref a) (D3 l b c) :=
  .tup h (.cons (.str _) (.cons (.int _) (.cons (.int _) .nil)))
theorem lay3 {l : List Nat} (h : Sm l) (b c : Int) : (D3 l b c).canLay0 = true := by
  show (PyData.strOk (S l) && (true && (true && true))) = true
  rw [h.ok]
  rfl
theorem shaped3 {l : List Nat} (h : Sm l) (b c : Int) : SeqAt.shaped (D3 l b c) = true := by
  show ((D3 l b c).canLay0 && decide ((D3 l b c).depth ≤ 64)) = true
  rw [lay3 h]
  rfl
theorem eq3 {l : List Nat} (h : Sm l) (b c : Int) : PyData.eqv (D3 l b c) (D3 l b c) = true := PySem.SeqAt.eqv_refl _ (lay3 h b c)

/-! ### a if t else b -/
def AnsB (t : TT) (σ : L2.St) (H : Hp) (b : Bool) : Prop := ∀ Q : Bool → Hp → Prop, Q b H → t σ H Q
def ValB (te : TE) (σ : L2.St) (H : Hp) (P : V → Hp → Prop) : Prop := ∀ Q : VK, (∀ v H', P v H' → Q v H') → te σ H Q
theorem tif_val {t : TT} {ta tb : TE} {σ : L2.St} {H : Hp} {P : V → Hp → Prop} (b : Bool) (ht : AnsB t σ H b) (ha : b = true → ValB ta σ H P) (hb : b = false → ValB tb σ H P) : ValB (tIf t ta tb) σ H P := by
  intro Q q
  refine ht _ ?_
  cases b with
  | true =>
    rw [if_pos rfl]
    exact ha rfl Q q
  | false =>
    rw [if_neg Bool.false_ne_true]
    exact hb rfl Q q
theorem sum_le : ∀ {ls : List (List Nat)} {k : Nat}, (∀ l ∈ ls, l.length ≤ k) → ((ls.map S).map (·.length)).sum ≤ k * ls.length
  | [], k, _ => by simp
  | a :: r, k, h => by
    have ih := sum_le (ls := r) (k := k) fun l hl => h l (List.mem_cons_of_mem _ hl)
    have ha := h a (List.mem_cons_self ..)
    rw [List.map_cons, List.map_cons, List.sum_cons, S_len, List.length_cons, Nat.mul_succ]
    omega

theorem asg_if {t : TT} {ta tb : TE} {g : TG} {u : TS} {D : Ends} {σ : L2.St} {H : Hp} (P : V → Hp → Prop) (b : Bool) (ht : AnsB t σ H b) (ha : b = true → ValB ta σ H P) (hb : b = false → ValB tb σ H P)
    (hq : ∀ v H', P v H' → g v σ H' (u D)) : tSeq (tAsg (tIf t ta tb) g) u D σ H :=
  tif_val b ht ha hb (fun v H' => g v σ H' (u D)) hq
theorem go_nx {D : Ends} {σ : L2.St} {H : Hp} (q : D.nx σ H) : tNext D σ H := q
end My

/-! ### texts by their signs: what the methods tell -/
namespace My
open PySem PySem.Spec PyProof.Rows L2 PySem.StrLaws PySem.Builtin.Str
theorem from_nat (n p : Nat) : fromIndex n (p : Int) = p := by
  unfold fromIndex
  have : ¬ (p : Int) < 0 := by omega
  rw [if_neg this]
  omega
theorem to_nat (n p : Nat) : toIndexW n (p : Int) = min n p := by
  unfold toIndexW
  have : ¬ (p : Int) < 0 := by omega
  rw [if_neg this]
  omega
theorem sub_S (t w : List Nat) (i : Nat) : subAt (S t) (S w) i = ((t.drop i).take w.length == w) := by
  rw [subAt_eq, S_tl, S_tl, S_len]
theorem take_pre : ∀ (w r : List Nat), (r.take w.length == w) = w.isPrefixOf r
  | [], r => by simp [List.isPrefixOf]
  | a :: w, [] => by simp [List.isPrefixOf]
  | a :: w, b :: r => by
    show (b :: r.take w.length == a :: w) = (a == b && w.isPrefixOf r)
    rw [← take_pre w r]
    show (b == a && (r.take w.length == w)) = _
    have e : (b == a) = (a == b) := by
      by_cases h : a = b
      · rw [h]
      · rw [beq_eq_false_iff_ne.mpr h, beq_eq_false_iff_ne.mpr fun e => h e.symm]
    rw [e]
theorem pre_len : ∀ (w r : List Nat), w.isPrefixOf r = true → w.length ≤ r.length
  | [], r, _ => Nat.zero_le _
  | a :: w, [], h => by cases h
  | a :: w, b :: r, h => by
    have h2 : w.isPrefixOf r = true := (Bool.and_eq_true_iff.mp (show (a == b && w.isPrefixOf r) = true from h)).2
    have := pre_len w r h2
    simp
    omega
theorem at_S (t w : List Nat) (hw : w ≠ []) (i : Nat) : At (S t) (S w) (S t).length i ↔ w.isPrefixOf (t.drop i) = true := by
  unfold At
  rw [sub_S, take_pre, S_len, S_len]
  constructor
  · exact fun h => h.2
  · intro h
    refine ⟨?_, h⟩
    have := pre_len _ _ h
    rw [List.length_drop] at this
    have h0 : 0 < w.length := List.length_pos_iff.mpr hw
    omega
theorem starts3 (t w : List Nat) (hw : w ≠ []) (p : Nat) : Txt.startswith3 (S t) (S w) (p : Int) = w.isPrefixOf (t.drop p) := by
  unfold Txt.startswith3
  rw [from_nat, sub_S, take_pre]
  cases h : w.isPrefixOf (t.drop p) with
  | false => simp
  | true =>
    have := (at_S t w hw p).mpr h
    have h1 : p + (S w).length ≤ (S t).length := this.1
    simp [h1]
theorem starts1 (t w : List Nat) (hw : w ≠ []) : Txt.startswith (S t) (S w) = w.isPrefixOf t := by
  have := starts3 t w hw 0
  unfold Txt.startswith3 at this
  rw [from_nat, List.drop_zero] at this
  exact this
/-- the first place of w -/
def findL (w : List Nat) : List Nat → Option Nat
  | [] => if w = [] then some 0 else none
  | c :: r => if w.isPrefixOf (c :: r) = true then some 0 else (findL w r).map (· + 1)
theorem findL_some {w : List Nat} : ∀ {r : List Nat} {k : Nat}, w ≠ [] → findL w r = some k → w.isPrefixOf (r.drop k) = true ∧ ∀ j, j < k → w.isPrefixOf (r.drop j) = false
  | [], k, hw, h => by
    unfold findL at h
    rw [if_neg hw] at h
    cases h
  | c :: r, k, hw, h => by
    unfold findL at h
    split at h
    · rename_i hp
      cases h
      exact ⟨hp, fun j hj => absurd hj (Nat.not_lt_zero _)⟩
    · rename_i hp
      cases hf : findL w r with
      | none => rw [hf] at h; cases h
      | some k' =>
        rw [hf] at h
        have e : k' + 1 = k := Option.some.inj h
        subst e
        obtain ⟨h1, h2⟩ := findL_some hw hf
        refine ⟨h1, fun j hj => ?_⟩
        cases j with
        | zero => exact eq_false_of_ne_true hp
        | succ j => exact h2 j (by omega)
theorem findL_none {w : List Nat} : ∀ {r : List Nat}, w ≠ [] → findL w r = none → ∀ j, w.isPrefixOf (r.drop j) = false
  | [], hw, _, j => by
    rw [List.drop_nil]
    cases w with
    | nil => exact absurd rfl hw
    | cons a w => rfl
  | c :: r, hw, h, j => by
    unfold findL at h
    split at h
    · cases h
    · rename_i hp
      cases hf : findL w r with
      | some k => rw [hf] at h; cases h
      | none =>
        cases j with
        | zero => exact eq_false_of_ne_true hp
        | succ j => exact findL_none hw hf j
theorem find3_S (t w : List Nat) (hw : w ≠ []) (p : Nat) : Txt.find3 (S t) (S w) (p : Int) = match findL w (t.drop p) with | some k => ((p + k : Nat) : Int) | none => -1 := by
  unfold Txt.find3
  rw [from_nat]
  rcases occ_head_from (S t) (S w) p 1 (Nat.le_refl _) with ⟨h0, hn⟩ | ⟨i, r, h0, hp, ha, hn⟩
  · rw [h0]
    cases hf : findL w (t.drop p) with
    | none => rfl
    | some k =>
      have h1 := (findL_some hw hf).1
      rw [List.drop_drop] at h1
      exact absurd ((at_S t w hw (p + k)).mpr h1) (hn (p + k) (by omega))
  · rw [h0]
    have ha' := (at_S t w hw i).mp ha
    cases hf : findL w (t.drop p) with
    | none =>
      have h1 := findL_none hw hf (i - p)
      rw [List.drop_drop, show p + (i - p) = i by omega, ha'] at h1
      cases h1
    | some k =>
      obtain ⟨h1, h2⟩ := findL_some hw hf
      rw [List.drop_drop] at h1
      have e : i = p + k := by
        rcases Nat.lt_trichotomy i (p + k) with h | h | h
        · have h3 := h2 (i - p) (by omega)
          rw [List.drop_drop, show p + (i - p) = i by omega, ha'] at h3
          cases h3
        · exact h
        · exact absurd ((at_S t w hw (p + k)).mpr h1) (hn (p + k) (by omega) h)
      show ((i : Nat) : Int) = _
      rw [e]
/-- one text in another -/
def inL (w r : List Nat) : Bool := (findL w r).isSome
theorem in_S (t w : List Nat) (hw : w ≠ []) : (!(occurrences (S t) (S w) 0 (S t).length 1).isEmpty) = inL w t := by
  have h := find3_S t w hw 0
  unfold Txt.find3 at h
  rw [from_nat, List.drop_zero] at h
  unfold inL
  cases ho : occurrences (S t) (S w) 0 (S t).length 1 with
  | nil =>
    rw [ho] at h
    cases hf : findL w t with
    | none => rfl
    | some k =>
      rw [hf] at h
      have h' : (-1 : Int) = ((0 + k : Nat) : Int) := h
      omega
  | cons a b =>
    rw [ho] at h
    cases hf : findL w t with
    | none =>
      rw [hf] at h
      have h' : ((a : Nat) : Int) = -1 := h
      omega
    | some k => rfl
/-- signs counted -/
theorem occ_count (t : List Nat) (c hi limit : Nat) : ∀ (n a : Nat) (st : Array Nat × Nat), st.2 ≤ a → st.1.size + n ≤ limit → hi ≤ t.length → a + n = hi + 1 ∨ (n = 0 ∧ hi < a) →
    (forIn (List.range' a n) st (occBody (S t) (S [c]) hi limit)).run.fst.size = st.1.size + ((t.drop a).take (hi - a)).count c
  | 0, a, st, h1, h2, h3, h4 => by
    have : hi - a = 0 := by omega
    rw [this]
    simp
  | n + 1, a, st, h1, h2, h3, h4 => by
    rw [List.range'_succ, List.forIn_cons]
    have hl : (S [c]).length = 1 := S_len _
    have stay : ¬ (((st.1.size < limit ∧ st.2 ≤ a) ∧ a + (S [c]).length ≤ hi) ∧ subAt (S t) (S [c]) a = true) →
        (occBody (S t) (S [c]) hi limit a st) = pure (ForInStep.yield st) := fun z => by
      unfold occBody
      rw [if_neg z]
    by_cases ha : a < hi
    · have hat : a < t.length := by omega
      have hd : t.drop a = t[a] :: t.drop (a + 1) := List.drop_eq_getElem_cons hat
      have hs : hi - a = (hi - (a + 1)) + 1 := by omega
      have hsub : subAt (S t) (S [c]) a = (t[a] == c) := by
        rw [sub_S, hd]
        show (t[a] :: (t.drop (a + 1)).take 0 == [c]) = _
        rw [List.take_zero]
        by_cases h : t[a] = c <;> simp [h]
      have hcnt : ((t.drop a).take (hi - a)).count c = ((t.drop (a + 1)).take (hi - (a + 1))).count c + if t[a] == c then 1 else 0 := by
        rw [hd, hs, List.take_succ_cons, List.count_cons]
      rw [hcnt]
      by_cases hc : t[a] = c
      · have e : occBody (S t) (S [c]) hi limit a st = pure (ForInStep.yield (st.1.push a, a + (S [c]).length)) := by
          unfold occBody
          rw [if_pos ⟨⟨⟨by omega, h1⟩, by omega⟩, by rw [hsub]; simp [hc]⟩]
        rw [e, hl]
        have ih := occ_count t c hi limit n (a + 1) (st.1.push a, a + 1) (Nat.le_refl _) (by rw [Array.size_push]; omega) h3 (by omega)
        have e1 : (if t[a] == c then 1 else 0) = 1 := by rw [hc]; simp
        rw [e1]
        refine Eq.trans ih ?_
        rw [Array.size_push]
        omega
      · rw [stay (fun z => by have := z.2; rw [hsub] at this; simp at this; exact hc this)]
        have ih := occ_count t c hi limit n (a + 1) st (by omega) (by omega) h3 (by omega)
        have e1 : (if t[a] == c then 1 else 0) = 0 := by simp [hc]
        rw [e1]
        exact ih
    · rw [stay (fun z => by have := z.1.2; omega)]
      have ih := occ_count t c hi limit n (a + 1) st (by omega) (by omega) h3 (by omega)
      have e0 : hi - a = 0 := by omega
      have e1 : hi - (a + 1) = 0 := by omega
      rw [e1] at ih
      rw [e0]
      refine Eq.trans ih ?_
      simp
theorem count_S (t : List Nat) (c p e : Nat) (he : e ≤ t.length) (hp : p ≤ e) : Txt.countIn (S t) (S [c]) (p : Int) (e : Int) = (((t.drop p).take (e - p)).count c : Nat) := by
  unfold Txt.countIn
  rw [from_nat, to_nat, S_len, Nat.min_eq_right he, occ_eq]
  have h := occ_count t c e (t.length + 1) (e + 1 - p) p (#[], p) (Nat.le_refl _) (by simp; omega) he (by omega)
  rw [Array.length_toList]
  congr 1
  rw [h]
  simp
/-- blank: nothing but such signs -/
theorem tw_all {g : Nat → Bool} : ∀ {t : List Nat}, t.all g = true → t.takeWhile g = t
  | [], _ => rfl
  | a :: r, h => by
    have h2 := Bool.and_eq_true_iff.mp (show (g a && r.all g) = true from h)
    rw [List.takeWhile_cons, if_pos h2.1, tw_all h2.2]
theorem tw_not {g : Nat → Bool} : ∀ {t : List Nat}, t.all g = false → ∃ c r, t.drop (t.takeWhile g).length = c :: r ∧ g c = false
  | [], h => by cases h
  | a :: r, h => by
    rw [List.takeWhile_cons]
    cases hg : g a with
    | false => exact ⟨a, r, by simp, hg⟩
    | true =>
      have h2 : r.all g = false := by
        have : (g a && r.all g) = false := h
        rw [hg] at this
        simpa using this
      obtain ⟨c, r', h3, h4⟩ := tw_not h2
      exact ⟨c, r', by simpa using h3, h4⟩
theorem strip_nil (t w : List Nat) : ((Txt.stripChars (S t) (S w)).cps.toList = []) ↔ t.all (fun c => w.contains c) = true := by
  have hg : (S w).cps.contains = fun c => w.contains c := by
    funext c
    simp [S]
  unfold Txt.stripChars Txt.stripBy stripSame stripped stripLo stripHi
  rw [hg]
  simp only [if_true]
  rw [S_tl, S_len]
  cases h : t.all (fun c => w.contains c) with
  | true =>
    have e := tw_all h
    rw [e, List.drop_length]
    simp only [List.reverse_nil, List.takeWhile_nil, List.length_nil, Nat.sub_zero]
    have key : (if (t.length == 0 && t.length == t.length) = true then S t else strSub (S t) t.length t.length).cps.toList = [] := by
      by_cases h0 : (t.length == 0 && t.length == t.length) = true
      · rw [if_pos h0, S_tl]
        have h1 : t.length = 0 := by simpa using h0
        exact List.length_eq_zero_iff.mp h1
      · rw [if_neg h0, strSub_toList, Nat.sub_self, List.take_zero]
    exact ⟨fun _ => trivial, fun _ => key⟩
  | false =>
    constructor
    · intro h0
      exfalso
      obtain ⟨c, r, h1, h2⟩ := tw_not h
      have hlen : (t.takeWhile (fun c => w.contains c)).length < t.length := by
        have := congrArg List.length h1
        rw [List.length_drop, List.length_cons] at this
        omega
      split at h0
      · rw [S_tl] at h0
        rw [h0] at hlen
        simp at hlen
      · rw [strSub_toList, S_tl, h1] at h0
        have hr : ((c :: r).reverse.takeWhile (fun c => w.contains c)).length ≤ r.length := by
          rw [List.reverse_cons]
          by_cases hall : r.reverse.all (fun c => w.contains c) = true
          · rw [List.takeWhile_append_of_pos (by simpa using hall), List.takeWhile_cons, if_neg (by rw [h2]; exact Bool.false_ne_true)]
            simp
          · obtain ⟨x, y, h5, h6⟩ := tw_not (eq_false_of_ne_true hall)
            have h7 : (r.reverse.takeWhile (fun c => w.contains c)).length < r.reverse.length := by
              have := congrArg List.length h5
              rw [List.length_drop] at this
              simp at this
              simp
              omega
            have h8 : (r.reverse ++ [c]).takeWhile (fun c => w.contains c) = r.reverse.takeWhile (fun c => w.contains c) := by
              have e := List.takeWhile_append (p := fun c => w.contains c) (xs := r.reverse) (ys := [c])
              rw [e, if_neg (by omega)]
            rw [h8]
            have := List.length_reverse (as := r)
            omega
        have h9 : (c :: r).length = t.length - (t.takeWhile (fun c => w.contains c)).length := by
          rw [← h1, List.length_drop]
        have h10 := congrArg List.length h0
        rw [List.length_take] at h10
        simp only [List.length_cons, List.length_nil] at h10 h9
        omega
    · intro h1
      cases h1
theorem strip_blank (t w : List Nat) : decide (V.str (Txt.stripChars (S t) (S w)) = V.str (S [])) = t.all (fun c => w.contains c) := by
  rw [S_of (Txt.stripChars (S t) (S w)), S_dec]
  cases h : t.all (fun c => w.contains c) with
  | true => exact decide_eq_true ((strip_nil t w).mpr h)
  | false => exact decide_eq_false fun z => by rw [(strip_nil t w).mp z] at h; cases h
/-- small letters, great letters -/
theorem lower_S (t : List Nat) (h : ∀ c ∈ t, c < 128) : Txt.lower (S t) = S (t.map lo1) := by
  rw [lower_ascii (by rw [S_tl]; exact h)]
  show (⟨t.toArray.map lo1⟩ : Str) = ⟨(t.map lo1).toArray⟩
  simp
theorem upper_S (t : List Nat) (h : ∀ c ∈ t, c < 128) : Txt.upper (S t) = S (t.map up1) := by
  rw [upper_ascii (by rw [S_tl]; exact h)]
  show (⟨t.toArray.map up1⟩ : Str) = ⟨(t.map up1).toArray⟩
  simp
end My

/-! ### more words: a written dict of texts, update, int by a base, find up to an end -/
namespace My
open PySem PySem.Spec PyProof.Rows L2 PySem.StrLaws PySem.Builtin.Str
/-! a written dict of the module, its keys texts -/
def EntS : List DictEntry → List (Str × V) → Prop
  | [], [] => True
  | e :: es, p :: ps => (∃ t, e.key = .str p.1 t) ∧ RelV p.2 e.val ∧ EntS es ps
  | _, _ => False
structure KDictS (K : PySem.W.Frag) (w : World) (d : Addr) (ps : List (Str × V)) : Prop where
  here : ∃ es n, KDict K w d es n ∧ EntS es.toList ps
theorem entS_find (k : Str) : ∀ {es : List DictEntry} {ps : List (Str × V)}, EntS es ps →
    match ps.lookup k with
    | none => (es.find? fun e => Value.isStrOf k e.key).map (·.val) = none
    | some v => ∃ u, (es.find? fun e => Value.isStrOf k e.key).map (·.val) = some u ∧ RelV v u
  | [], [], _ => rfl
  | [], _ :: _, h => h.elim
  | _ :: _, [], h => h.elim
  | e :: es, p :: ps, ⟨⟨t, h1⟩, h2, r⟩ => by
    have ih := entS_find k r
    rw [List.find?_cons, List.lookup_cons, h1]
    by_cases h : k = p.1
    · subst h
      have e1 : Value.isStrOf p.1 (.str p.1 t) = true := by simp [Value.isStrOf]
      rw [e1, beq_self_eq_true]
      exact ⟨_, rfl, h2⟩
    · have e1 : Value.isStrOf k (.str p.1 t) = false := by
        cases q : Value.isStrOf k (.str p.1 t) with
        | false => rfl
        | true =>
          obtain ⟨t', e⟩ := Value.isStrOf_shape q
          cases e
          exact absurd rfl h
      rw [e1, beq_eq_false_iff_ne.mpr h]
      exact ih
section
variable {X : Cx} {d : Addr} {ps : List (Str × V)}
theorem kds_map {prog : Program} {w : World} {h : Heap} {K : PySem.W.Frag} (D : KDictS K w d ps) (I : K.In h) (k : Str) : (d == sysModules) = false ∧ ∃ f : Str → Option Value, h.MapOf (strKind prog w) d f ∧
    match ps.lookup k with
    | none => f k = none
    | some v => ∃ u, f k = some u ∧ RelV v u := by
  obtain ⟨es, n, D, he⟩ := D.here
  refine ⟨D.low, _, PySem.W.mapOf_K (prog := prog) I D.at_ D.lit, ?_⟩
  have := entS_find k he
  obtain ⟨l⟩ := es
  simpa only [findBy, List.find?_toArray] using this
theorem op_in_ks (D : KDictS X.K X.w d ps) : OpR X (compareOp .In) (fun x y H Q => ∃ z : Str, x = .str z ∧ y = .ref d ∧ Q (.bl (ps.lookup z).isSome) H) := by
  intro pins s σ H x y v u Q I rx ry h
  obtain ⟨z, rfl, rfl, q⟩ := h
  obtain ⟨t, rfl⟩ := rx
  cases ry
  obtain ⟨low, f, hm, hf⟩ := kds_map (prog := X.prog) D I.kIn z
  refine wpAny_in_of (PySem.strKind_is X.prog X.w z t) low hm ?_
  refine ⟨.bl (ps.lookup z).isSome, H, I.tok _, ?_, q⟩
  show Value.bool _ = Value.bool _
  cases e : ps.lookup z with
  | none => rw [e] at hf; rw [show f z = none from hf]; rfl
  | some v => rw [e] at hf; obtain ⟨u, h1, _⟩ := hf; rw [h1]; rfl
theorem op_notIn_ks (D : KDictS X.K X.w d ps) : OpR X (compareOp .NotIn) (fun x y H Q => ∃ z : Str, x = .str z ∧ y = .ref d ∧ Q (.bl (!(ps.lookup z).isSome)) H) := by
  intro pins s σ H x y v u Q I rx ry h
  obtain ⟨z, rfl, rfl, q⟩ := h
  obtain ⟨t, rfl⟩ := rx
  cases ry
  obtain ⟨low, f, hm, hf⟩ := kds_map (prog := X.prog) D I.kIn z
  refine wpAny_notIn_of (PySem.strKind_is X.prog X.w z t) low hm ?_
  refine ⟨.bl (!(ps.lookup z).isSome), H, I.tok _, ?_, q⟩
  show Value.bool _ = Value.bool _
  cases e : ps.lookup z with
  | none => rw [e] at hf; rw [show f z = none from hf]; rfl
  | some v => rw [e] at hf; obtain ⟨u, h1, _⟩ := hf; rw [h1]; rfl
theorem ix_ks (D : KDictS X.K X.w d ps) : IxR X (fun x y H Q => ∃ (z : Str) (v : V), x = .ref d ∧ y = .str z ∧ ps.lookup z = some v ∧ Q v H) := by
  intro value slice pins s σ H x y v u Q I rx ry h hs
  obtain ⟨z, a, rfl, rfl, e, q⟩ := h
  obtain rfl : v = Value.ref d := rx
  obtain ⟨t, rfl⟩ := ry
  obtain ⟨low, f, hm, hf⟩ := kds_map (prog := X.prog) D I.kIn z
  rw [e] at hf
  obtain ⟨u, h1, ru⟩ := hf
  exact tail_any hm.typeIs slot_dict_getitem.lookup (wpAny_getItem_of (strKind_is X.prog X.w z t) hm h1 ⟨a, H, I.tok _, ru, q⟩) hs
/-- NAMES.get(key) -/
theorem pe_kget {o e : Expr} {to te : TE} {apos cpos : Pos} (D : KDictS X.K X.w d ps) (ho : PE X o to) (he : PE X e te) (m : M1 X o "get" apos e cpos) :
    PE X (.Call (.Attribute o "get" apos) [e] [] cpos) (fun σ H Q => to σ H fun x H1 => x = .ref d ∧ te σ H1 fun y H2 => ∃ z : Str, y = .str z ∧ Q ((ps.lookup z).getD .non) H2) := by
  refine ⟨fun pins s σ H Q I h => ?_⟩
  refine wpAny_Call_method m.base m.few m.line PySem.F.plainAttrs_dict PySem.F.slot_dict_get PySem.F.type_dict_get (thn (ho.run pins s σ H _ I h) fun u s1 ⟨x, H1, I1, rx, ex, q1⟩ => ?_)
  subst ex
  obtain rfl : u = Value.ref d := rx
  obtain ⟨low, f, hm, hf⟩ := kds_map (prog := X.prog) D I1.kIn ""
  refine ⟨hm.typeIs, hm.noDict, ?_⟩
  rw [m.trees]
  refine Calls.callWith_builtin rfl (Calls.evalArgs_plain (Calls.spliced_cons (thn (he.run pins s1 σ H1 _ I1 q1) fun iv s2 ⟨y, H2, I2, ry, z, ez, q2⟩ => Calls.spliced_nil ?_)))
  subst ez
  obtain ⟨t, rfl⟩ := ry
  obtain ⟨low, f, hm, hf⟩ := kds_map (prog := X.prog) D I2.kIn z
  refine call_meetsIn PySem.F.slot_dict_get hm.typeIs PySem.F.entry_dict_get (PySem.F.args_dict_get_2 _ _) (meets_dict_get (strKind X.prog X.w) d (strKind_is X.prog X.w z t) low) ⟨_, hm, ?_⟩
  refine ⟨(ps.lookup z).getD .non, H2, I2.tok _, ?_, q2⟩
  cases e : ps.lookup z with
  | none => rw [e] at hf; rw [show f z = none from hf]; rfl
  | some v => rw [e] at hf; obtain ⟨u, h1, r⟩ := hf; rw [h1]; exact r
end
/-! d.update(e) -/
def rUpd : V → List V → Hp → VK → Prop := fun x vs H Q => ∃ (a b : Addr) (kvs more : List (Key × V)), x = .ref a ∧ vs = [.ref b] ∧ a ≠ b ∧ H a = some (.dK kvs) ∧ H b = some (.dK more) ∧ kvs.length + more.length ≤ 1000 ∧
  Q .non (upd H a (.dK (mergeK kvs more)))
theorem mtd_update {X : Cx} : MtR X "dict.update" rUpd := by
  intro pins s σ H x vs v us Q I rx rv h
  obtain ⟨a, b, kvs, more, ex, ev, hne, e, e2, hl, q⟩ := h
  subst ex
  subst ev
  obtain rfl : v = Value.ref a := rx
  obtain ⟨u, rfl, ru⟩ := rv.one
  obtain rfl : u = Value.ref b := ru
  obtain ⟨z, hd, vs1, rel, dd⟩ := dk_of I.hok e
  obtain ⟨z2, hd2, vs2, rel2, dd2⟩ := dk_of I.hok e2
  have hz : (mergeK kvs more).length ≤ sizeLine := by
    have h1 := length_mergeK more kvs
    rw [sizeLine_eq]
    omega
  refine call_meetsIn PySem.F.slot_dict_update dd.typeIs PySem.F.entry_dict_update (PySem.F.args_dict_update_2 _ _) (meets_dict_update (mixKind X.prog X.w) a b hne hd2)
    ⟨vs1, vs2, dd, dd2, by rw [← rel.length, ← rel2.length, sizeLine_eq]; omega, fun h' dd' _ hs => ?_⟩
  have he : ∃ q, h'.get? a = some q := let ⟨q, _, _, hq, _⟩ := dd'; ⟨q, hq⟩
  exact ⟨.non, _, d_write (t' := s.toks) I (by rw [e]; exact True.intro) hs he (dk_new hz hd (rel2.merge rel) dd'), rfl, q⟩
/-! find up to an end -/
theorem occ_take (t w : List Nat) (lo hi : Nat) (h : hi ≤ t.length) : occurrences (S t) (S w) lo hi 1 = occurrences (S (t.take hi)) (S w) lo hi 1 := by
  rw [occ_eq, occ_eq]
  have e : occBody (S t) (S w) hi 1 = occBody (S (t.take hi)) (S w) hi 1 := by
    funext i st
    unfold occBody
    by_cases hc : i + (S w).length ≤ hi
    · have e2 : subAt (S t) (S w) i = subAt (S (t.take hi)) (S w) i := by
        rw [S_len] at hc
        rw [sub_S, sub_S, List.drop_take, List.take_take, Nat.min_eq_left (by omega)]
      rw [e2]
    · rw [if_neg fun z => hc z.1.2, if_neg fun z => hc z.1.2]
  rw [e]
theorem findIn_S (t w : List Nat) (hw : w ≠ []) (p j : Nat) : Txt.findIn (S t) (S w) (p : Int) ((p + j : Nat) : Int) = match findL w ((t.drop p).take j) with | some k => ((p + k : Nat) : Int) | none => -1 := by
  unfold Txt.findIn
  rw [from_nat, to_nat, S_len]
  by_cases hp : p ≤ t.length
  · have h1 : min t.length (p + j) ≤ t.length := Nat.min_le_left _ _
    rw [occ_take t w p _ h1]
    have h2 := find3_S (t.take (min t.length (p + j))) w hw p
    unfold Txt.find3 at h2
    rw [from_nat, S_len, List.length_take, Nat.min_eq_left h1, List.drop_take] at h2
    have e : (t.drop p).take (min t.length (p + j) - p) = (t.drop p).take j := by
      by_cases hj : p + j ≤ t.length
      · rw [Nat.min_eq_right hj, Nat.add_sub_cancel_left]
      · rw [Nat.min_eq_left (by omega), List.take_of_length_le (by rw [List.length_drop]; omega), List.take_of_length_le (by rw [List.length_drop]; omega)]
    rw [e] at h2
    exact h2
  · rw [List.drop_of_length_le (by omega), List.take_nil]
    have hn : findL w [] = none := by
      unfold findL
      rw [if_neg hw]
    rw [hn, Nat.min_eq_left (by omega)]
    have : occurrences (S t) (S w) p t.length 1 = [] := by
      have h2 := find3_S t w hw p
      unfold Txt.find3 at h2
      rw [from_nat, List.drop_of_length_le (by omega), hn, S_len] at h2
      cases ho : occurrences (S t) (S w) p t.length 1 with
      | nil => rfl
      | cons a b =>
        rw [ho] at h2
        have h3 : ((a : Nat) : Int) = -1 := h2
        omega
    rw [this]
/-! int(text, 10) -/
open PySem.NumText PySem.Calls
def IsDec (c : Nat) : Prop := 48 ≤ c ∧ c ≤ 57
def decNum (l : List Nat) : Nat := l.foldl (fun a c => a * 10 + (c - 48)) 0
theorem step_dec {ds : Array Nat} {b : Bool} {c : Nat} (h : IsDec c) : PySem.NumText.step 10 (ds, b) c = some (ds.push (c - 48), true) := by
  unfold IsDec at h
  unfold PySem.NumText.step
  rw [if_neg (by rw [beq_iff_eq]; omega)]
  have e : digit? c = some (c - 48) := by
    unfold digit?
    rw [if_pos (Hx.bb h.1 h.2)]
  rw [e]
  exact if_pos (by omega)
theorem foldl_dec : ∀ (cs : List Nat) (ds : Array Nat), (∀ c ∈ cs, IsDec c) → cs.foldlM (PySem.NumText.step 10) (ds, true) = some (cs.foldl (fun acc c => acc.push (c - 48)) ds, true)
  | [], _, _ => rfl
  | c :: cs, ds, h => by
    rw [List.foldlM_cons, step_dec (h c (List.mem_cons_self ..))]
    show cs.foldlM (PySem.NumText.step 10) (ds.push (c - 48), true) = _
    exact foldl_dec cs (ds.push (c - 48)) fun d hd => h d (List.mem_cons_of_mem _ hd)
theorem digits_dec {cs : List Nat} (h : ∀ c ∈ cs, IsDec c) (hne : cs ≠ []) : digits? 10 cs = some (cs.foldl (fun acc c => acc.push (c - 48)) #[]) := by
  cases cs with
  | nil => exact absurd rfl hne
  | cons c cs =>
    unfold digits?
    rw [List.foldlM_cons, step_dec (h c (List.mem_cons_self ..))]
    show (cs.foldlM (PySem.NumText.step 10) ((#[] : Array Nat).push (c - 48), true)).bind _ = _
    rw [foldl_dec cs _ fun d hd => h d (List.mem_cons_of_mem _ hd)]
    rfl
theorem push_dec : ∀ (cs : List Nat) (ds : Array Nat), (cs.foldl (fun acc c => acc.push (c - 48)) ds).foldl (fun acc d => acc * 10 + d) 0 = cs.foldl (fun a c => a * 10 + (c - 48)) (ds.foldl (fun acc d => acc * 10 + d) 0)
  | [], _ => rfl
  | c :: cs, ds => by
    rw [List.foldl_cons, push_dec cs (ds.push (c - 48)), List.foldl_cons]
    congr 1
    simp
theorem dec_hex {cs : List Nat} (h : ∀ c ∈ cs, IsDec c) : ∀ c ∈ cs, Hx.IsHex c := fun c hc => .inl (h c hc)
theorem size_dec : ∀ (cs : List Nat) (ds : Array Nat), (cs.foldl (fun acc c => acc.push (c - 48)) ds).size = ds.size + cs.length
  | [], ds => rfl
  | c :: cs, ds => by
    rw [List.foldl_cons, size_dec cs (ds.push (c - 48)), Array.size_push, List.length_cons]
    omega
theorem read_dec {cs : List Nat} (h : ∀ c ∈ cs, IsDec c) (hne : cs ≠ []) (hl : cs.length ≤ 640) : (int_private% "readNumeral") 0 10 cs = (int_private% "Numeral.value") ((decNum cs : Nat) : Int) := by
  have hr : ∀ c ∈ cs.reverse, IsDec c := fun c hc => h c (List.mem_reverse.mp hc)
  refine (readNumeral_eq 0 10 cs).trans ?_
  rw [Hx.dropB (dec_hex h), Hx.signH (dec_hex h)]
  show judge 0 false (based 10 cs).1 (based 10 cs).2.1 (digits? (based 10 cs).1 (((based 10 cs).2.2.reverse.dropWhile blank).reverse)) = _
  rw [based_ten]
  show judge 0 false 10 false (digits? 10 ((cs.reverse.dropWhile blank).reverse)) = _
  rw [Hx.dropB (dec_hex hr), List.reverse_reverse, digits_dec h hne]
  have hz : ¬ ((10 : Nat) == 10 && (cs.foldl (fun acc c => acc.push (c - 48)) (#[] : Array Nat)).size > 6000) = true := by
    rw [size_dec]
    simp
    omega
  have ej : judge 0 false 10 false (some (cs.foldl (fun acc c => acc.push (c - 48)) #[])) = (if ((10 : Nat) == 10 && (cs.foldl (fun acc c => acc.push (c - 48)) (#[] : Array Nat)).size > 6000) = true then (int_private% "Numeral.byTheLibrary") else (int_private% "Numeral.value") (((cs.foldl (fun acc c => acc.push (c - 48)) (#[] : Array Nat)).foldl (fun acc d => acc * 10 + d) 0 : Nat) : Int)) := rfl
  rw [ej, if_neg hz]
  show (int_private% "Numeral.value") (((cs.foldl (fun acc c => acc.push (c - 48)) (#[] : Array Nat)).foldl (fun acc d => acc * 10 + d) 0 : Nat) : Int) = _
  have z : (#[] : Array Nat).foldl (fun acc d => acc * 10 + d) 0 = 0 := by first | rfl | simp
  rw [push_dec, z] <;> rfl
structure Hid (p : Prop) : Prop where
  out : p
set_option maxHeartbeats 4000000 in
theorem gives_dec {x : PySem.Str} {u t : Tok} (hl : x.length ≤ 640) (h : ∀ c ∈ x.cps.toList, IsDec c) (hne : x.cps.toList ≠ []) :
    Gives (Builtin.«int.__new__» ⟨[.type "int", .str x u, .int 10 t], []⟩) (.int ((decNum x.cps.toList : Nat) : Int)) :=
  .of_wp fun M A E s Q hQ => by
    obtain ⟨hp, g, d, tk, os⟩ := s
    have f1 := F.conv_sub_int
    have f2 := F.madeHere_int
    have f6 : typeOf (.str x u) = pure (.type "str") := rfl
    obtain ⟨e1, e2⟩ := Hx.seen_hex (dec_hex h)
    have hs : (numSeenOf x).length ≤ 640 := by
      rw [e2, Array.length_toList]
      exact hl
    have hr : (int_private% "readNumeral") 0 10 (numSeenOf x) = (int_private% "Numeral.value") ((decNum x.cps.toList : Nat) : Int) := by
      rw [e2]
      exact read_dec h hne (by rw [Array.length_toList]; exact hl)
    have ha : ((numSeenOf x).length == (numTextOf x).length) = true := by
      rw [e1, e2]
      exact beq_self_eq_true _
    have hk := Hid.mk (And.intro hs (And.intro hr ha))
    clear hs hr ha e1 e2 hl hne h
    repeat (any_goals (first
      | assumption
      | ((with_reducible show wpAny _ _ ((int_private% "intFromText") _ _ _) _ _ _); refine Hx.wp_textB hk.out.1 hk.out.2.1 hk.out.2.2 ?_)
      | wp_step))
    all_goals first | exact ⟨_, rfl, hQ⟩ | skip
theorem call_dec {prog : Program} {w : World} {A : Around} {E : Value → Shared → Prop} {s : Shared} {Q : Value → Shared → Prop} {x : PySem.Str} {u t : Tok} (hl : x.length ≤ 640) (h : ∀ c ∈ x.cps.toList, IsDec c) (hne : x.cps.toList ≠ [])
    (hQ : Q (.int ((decNum x.cps.toList : Nat) : Int) s.toks) { s with toks := s.toks + 1 }) : wpAny (model prog w) A (call (.type "int") [.str x u, .int 10 t]) Q E s :=
  callType_new F.called_int F.newNe_int (Hx.typeCall_int_2 _ _) (Hx.newCall_int_2 _ _) (fun obj => F.initArgs_range_2 obj _ _) F.entry_int_new (gives_dec hl h hne).meets (show (Made.int ((decNum x.cps.toList : Nat) : Int)).post _ s from ⟨rfl, hQ⟩)
/-- int(text, base) of base 10 and 16 -/
def IsB (B : Nat) (c : Nat) : Prop := if B = 16 then Hx.IsHex c else IsDec c
def numB (B : Nat) (l : List Nat) : Nat := if B = 16 then Hx.hexNum l else decNum l
theorem call_int_base {X : Cx} : CallR X (.type "int") (fun xs H Q => ∃ (l : List Nat) (B : Nat), xs = [.str (S l), .int (B : Int)] ∧ (B = 10 ∨ B = 16) ∧ l ≠ [] ∧ l.length ≤ 640 ∧ (∀ c ∈ l, IsB B c) ∧ Q (.int ((numB B l : Nat) : Int)) H) := by
  intro pins s σ H xs us Q I r h
  obtain ⟨l, B, rfl, hB, hne, hl, hx, q⟩ := h
  obtain ⟨u, w', rfl, r1, r2⟩ := vals2 r
  obtain ⟨t1, rfl⟩ := r1
  obtain ⟨t2, rfl⟩ := r2
  rcases hB with rfl | rfl
  · exact call_dec (x := S l) (by rw [S_len]; exact hl) (by rw [S_tl]; exact hx) (by rw [S_tl]; exact hne) ⟨.int ((numB 10 l : Nat) : Int), H, I.tok _, ⟨_, by rw [S_tl]; rfl⟩, q⟩
  · exact Hx.call_hex (x := S l) (by rw [S_len]; exact hl) (by rw [S_tl]; exact hx) (by rw [S_tl]; exact hne) ⟨.int ((numB 16 l : Nat) : Int), H, I.tok _, ⟨_, by rw [S_tl]; rfl⟩, q⟩
/-! strip signs at the begin -/
theorem lstrip_S (t w : List Nat) : Txt.lstripChars (S t) (S w) = S (t.drop (t.takeWhile (fun c => w.contains c)).length) := by
  have hg : (S w).cps.contains = fun c => w.contains c := by
    funext c
    simp [S]
  unfold Txt.lstripChars Txt.stripBy stripSame stripped stripLo stripHi
  rw [hg]
  simp only [if_true, Bool.false_eq_true, if_false]
  rw [S_tl, S_len]
  have key : ∀ k : Nat, strSub (S t) k t.length = S (t.drop k) := by
    intro k
    rw [S_of (strSub (S t) k t.length), strSub_toList, S_tl]
    congr 1
    exact List.take_of_length_le (by rw [List.length_drop]; omega)
  split
  · rename_i h
    have h0 : (t.takeWhile (fun c => w.contains c)).length = 0 := by
      have := (Bool.and_eq_true_iff.mp h).1
      exact eq_of_beq this
    rw [h0, List.drop_zero]
  · exact key _
end My

/-! ### joined texts -/
namespace My
open PySem PySem.Spec PyProof.Rows L2
theorem join_S (sep : List Nat) (ls : List (List Nat)) : Txt.join (S sep) (ls.map S) = S (TL.joinL sep ls) := by
  rw [TL.join_eq]
  have e := TL.tl_join (S sep) (ls.map S)
  have e2 : (ls.map S).map TL.tl = ls := by
    rw [List.map_map]
    conv => rhs; rw [← List.map_id ls]
    exact List.map_congr_left fun l _ => S_tl l
  rw [e2] at e
  have e3 : TL.tl (S sep) = sep := S_tl _
  rw [e3] at e
  rw [S_of (Str.join (S sep) (ls.map S))]
  exact congrArg S e
theorem join_nil (ls : List (List Nat)) : Txt.join (S []) (ls.map S) = S ls.flatten := by
  rw [join_S]
  congr 1
  induction ls with
  | nil => rfl
  | cons a r ih =>
    cases r with
    | nil => simp [TL.joinL]
    | cons b r =>
      show a ++ ([] ++ TL.joinL [] (b :: r)) = _
      rw [ih]
      simp
end My

/-! ### a text, so often; a tuple in which a token is out -/
namespace My
open PySem PySem.Spec PyProof.Rows L2
section
variable {X : Cx}
theorem op_mul_txt : OpR X (binaryOp .Mult) (fun x y H Q => ∃ (l : List Nat) (j : Nat), x = .str (S l) ∧ y = .int (j : Int) ∧ 1 ≤ l.length ∧ l.length ≤ 1000 ∧ j ≤ 1000 ∧ Q (.str (S (List.replicate j l).flatten)) H) := by
  intro pins s σ H x y v u Q I rx ry h
  obtain ⟨l, j, rfl, rfl, hl1, hl2, hj, q⟩ := h
  obtain ⟨t, rfl⟩ := rx
  obtain ⟨t', rfl⟩ := ry
  have hlen : (S l).length = l.length := S_len _
  have hmul : l.length * j ≤ 1000000 := Nat.le_trans (Nat.mul_le_mul hl2 hj) (by decide)
  refine PySem.P.mul_str (by simp; omega) (fun hn _ => by
    rw [hlen]
    have hj0 : 0 < j := by omega
    have : (l.length : Int) ≤ (2 ^ 63 - 1) / (j : Int) := by
      refine Int.le_ediv_of_mul_le (by omega) ?_
      have : ((l.length * j : Nat) : Int) ≤ 1000000 := by omega
      rw [Int.natCast_mul] at this
      omega
    omega) (fun _ _ => by
    rw [hlen]
    have : (j : Int).toNat = j := by omega
    rw [this]
    exact decide_eq_false (by rw [sizeLine_eq]; omega)) ?_
  have fin : ∀ (m : List Nat), m = (List.replicate j l).flatten → ∀ (v : Value) (k : Nat), RelV (.str (S m)) v → EP X pins σ Q v { s with toks := k } := fun m e v k r => ⟨.str (S m), H, I.tok _, r, by rw [e]; exact q⟩
  by_cases h0 : (j : Int) < 1
  · have e0 : j = 0 := by omega
    rw [if_pos h0]
    exact ⟨by decide, fin [] (by rw [e0]; rfl) _ _ ⟨_, rfl⟩⟩
  · rw [if_neg h0]
    by_cases h1 : j = 1
    · subst h1
      rw [if_pos (by rfl)]
      exact fin l (by simp) _ s.toks ⟨_, rfl⟩
    · rw [if_neg (by rw [hlen, Bool.or_eq_true, beq_iff_eq, beq_iff_eq]; omega)]
      have e : (⟨(List.replicate (j : Int).toNat (S l).cps).foldl (· ++ ·) #[]⟩ : Str) = S (List.replicate j l).flatten := by
        have ej : (j : Int).toNat = j := by omega
        rw [ej]
        have gen : ∀ (n : Nat) (acc : List Nat), (List.replicate n (S l).cps).foldl (· ++ ·) acc.toArray = (acc ++ (List.replicate n l).flatten).toArray := by
          intro n
          induction n with
          | zero => intro acc; simp
          | succ n ih =>
            intro acc
            rw [List.replicate_succ, List.foldl_cons]
            have : acc.toArray ++ (S l).cps = (acc ++ l).toArray := by simp [S]
            rw [this, ih, List.replicate_succ]
            simp
        have := gen j []
        simp at this
        unfold S
        congr 1
      rw [e]
      refine ⟨?_, fin _ rfl _ _ ⟨_, rfl⟩⟩
      rw [S_len, List.length_flatten, List.map_replicate, sizeLine_eq]
      have : (List.replicate j l.length).sum = j * l.length := by
        clear fin q h1 h0 e
        induction j with
        | zero => simp
        | succ j ih => rw [List.replicate_succ, List.sum_cons, ih (by omega) (Nat.le_trans (Nat.mul_le_mul_left _ (Nat.le_succ _)) hmul), Nat.succ_mul, Nat.add_comm]
      rw [this, Nat.mul_comm]
      omega
theorem pa_consT {a : Expr} {op : Operator} {c : Int} {j : Nat} {pc pos0 : Pos} {es : List Expr} {r : R2} {ta : TE} {t : TA} (ho : OpR X (binaryOp op) r) (ha : PE X a ta) (hr : PAT X es t)
    (hs : starEach (.BinOp a op (.Constant (.int c) j pc) pos0 :: es) X.env = (false, eval (.BinOp a op (.Constant (.int c) j pc) pos0) X.env) :: starEach es X.env := by rfl) :
    PA X (.BinOp a op (.Constant (.int c) j pc) pos0 :: es) (tCons (tOp r ta (tC (.int c))) t) := by
  refine ⟨fun pos pins s σ H Q I h => ?_⟩
  rw [hs]
  show wpAny _ _ (spliced ((false, eval (.BinOp a op (.Constant (.int c) j pc) pos0) X.env) :: backTo pos (starEach es X.env))) _ _ s
  refine Calls.spliced_cons (wpAny_BinOp (thn (ha.run pins s σ H _ I h) fun v s1 ⟨x, H1, I1, r1, q1⟩ => wpAny_Constant_int ?_))
  refine wpAny_mono (PySem.wpAny_toks_of (n := 1) (by show 1 ≤ s1.toks + 1; omega) (ho pins _ σ H1 x (.int c) v _ _ (I1.tok _) r1 ⟨_, rfl⟩ q1)) (fun w s2 q => ?_) fun _ _ z => z.2
  obtain ⟨hk, y, H2, I2, r2, q2⟩ := q
  exact thn (hr pos pins s2 σ H2 _ hk I2 q2) fun us s3 ⟨xs, H3, I3, r3, q3⟩ => ⟨y :: xs, H3, I3, .cons r2 r3, q3⟩
end
end My

namespace My
open PySem PySem.Spec PyProof.Rows L2
/-! ### joins of ways, once more by their answers -/
theorem andB' {ta tb : TT} {σ : L2.St} {H : Hp} {a b : Bool} (ha : AnsB ta σ H a) (hb : AnsB tb σ H b) : AnsB (tAnd ta tb) σ H (a && b) := fun Q q => by
  refine ha _ ?_
  cases a with
  | true => exact iteT (hb _ q)
  | false => exact iteF q
theorem if_g {c : TT} {a b u : TS} {D : Ends} {σ : L2.St} {H : Hp} {i : Nat} {x : V} {bb : Bool} (hc : AnsB c (σ.set i (some x)) H bb) (h : if bb = true then a { D with nx := u D } (σ.set i (some x)) H else b { D with nx := u D } (σ.set i (some x)) H) :
    gName i x σ H { D with nx := tSeq (tIfS c a b) u D }.nx := hc _ h
theorem if_n {c : TT} {a b u : TS} {D : Ends} {σ : L2.St} {H : Hp} {bb : Bool} (hc : AnsB c σ H bb) (h : if bb = true then a { D with nx := u D } σ H else b { D with nx := u D } σ H) :
    tNext { D with nx := tSeq (tIfS c a b) u D } σ H := hc _ h
theorem tif_const {t : TT} {x y : V} {σ : L2.St} {H : Hp} {Q : VK} (b : Bool) (ht : AnsB t σ H b) (h : ∀ v, v = (if b = true then x else y) → Q v H) : tIf t (tC x) (tC y) σ H Q := by
  refine ht _ ?_
  cases b with
  | true => exact iteT (h x rfl)
  | false => exact iteF (h y rfl)
theorem for_tif {t : TT} {ta tb : TE} {g : TG} {body u : TS} {D : Ends} {σ : L2.St} {H : Hp} (P : V → Hp → Prop) (b : Bool) (ht : AnsB t σ H b) (ha : b = true → ValB ta σ H P) (hb : b = false → ValB tb σ H P)
    (hq : ∀ v H', P v H' → tFor (iRng1 (fun _ _ R => R [v] H')) g body { D with nx := u D } σ H') : tSeq (tFor (iRng1 (tCons (tIf t ta tb) tNil)) g body) u D σ H := by
  refine tif_val (P := P) b ht ha hb (fun v H' => tNil σ H' fun xs H2 => ∃ j : Int, v :: xs = [.int j] ∧ -(2 ^ 62) ≤ j ∧ j < 2 ^ 62 ∧ _) fun v H' p => ?_
  exact hq v H' p
theorem for_tif_g {t : TT} {ta tb : TE} {g : TG} {body u : TS} {D : Ends} {σ : L2.St} {H : Hp} {i : Nat} {x : V} (P : V → Hp → Prop) (b : Bool) (ht : AnsB t (σ.set i (some x)) H b) (ha : b = true → ValB ta (σ.set i (some x)) H P) (hb : b = false → ValB tb (σ.set i (some x)) H P)
    (hq : ∀ v H', P v H' → tFor (iRng1 (fun _ _ R => R [v] H')) g body { D with nx := u D } (σ.set i (some x)) H') : gName i x σ H { D with nx := tSeq (tFor (iRng1 (tCons (tIf t ta tb) tNil)) g body) u D }.nx :=
  for_tif P b ht ha hb hq
theorem keeps_upd {L D : Addr} {H H' : Hp} {o : HO} (k : Keeps L H H') (n : H D = none) : Keeps L H (upd H' D o) := fun b x hb e => by
  rw [upd_ne (ne_of_none e n)]
  exact k b x hb e
/-- one sign -/
def isSign : V → Bool
  | .str z => z.cps.size == 1 && z.cps.all fun c => decide (c < 128)
  | _ => false
theorem isSign_of {v : V} (h : isSign v = true) : ∃ c, v = .str (S [c]) ∧ c < 128 := by
  cases v with
  | str z =>
    unfold isSign at h
    rw [Bool.and_eq_true] at h
    obtain ⟨⟨l⟩⟩ := z
    match l, h with
    | [c], h => exact ⟨c, rfl, by simpa using h.2⟩
    | [], h => simp at h
    | _ :: _ :: _, h => simp at h
  | _ => cases h
/-- a text of signs below 128 -/
def isText : V → Bool
  | .str z => z.cps.all fun c => decide (c < 128)
  | _ => false
theorem isText_of {v : V} (h : isText v = true) : ∃ l, v = .str (S l) ∧ ∀ c ∈ l, c < 128 := by
  cases v with
  | str z =>
    obtain ⟨⟨l⟩⟩ := z
    exact ⟨l, rfl, by unfold isText at h; simpa using h⟩
  | _ => cases h
def Drawn (n : Nat) (l : List Nat) : Prop := l.length ≤ n ∧ ∀ c ∈ l, c < 128
theorem low_sm {l : List Nat} (h : ∀ c ∈ l, c < 128) : Sm l := fun c hc => Nat.lt_trans (h c hc) (by decide)
theorem flatten_len {k : Nat} : ∀ {ls : List (List Nat)}, (∀ l ∈ ls, l.length ≤ k) → ls.flatten.length ≤ k * ls.length
  | [], _ => Nat.zero_le _
  | a :: r, h => by
    have ih := flatten_len (ls := r) (k := k) fun l hl => h l (List.mem_cons_of_mem _ hl)
    have ha := h a (List.mem_cons_self ..)
    rw [List.flatten_cons, List.length_append, List.length_cons, Nat.mul_succ]
    omega
end My

namespace My
open PySem PySem.Spec PyProof.Rows L2
/-! ### zip of a tuple and a list -/
/-- the tuple at a and the list at b as they stand at each turn, the items in new pairs -/
def ItzM (K : PySem.W.Frag) (a b : Addr) : It :=
  ⟨fun i H => ∃ (xs ys : List V) (x y : V), SqT K H a xs ∧ SqL K H b ys ∧ xs[i]? = some x ∧ ys[i]? = some y,
    fun i H v H' => ∃ T x y, v = .ref T ∧ H T = none ∧ H' = upd H T (.tup [x, y]) ∧ (∀ xs, SqT K H a xs → xs[i]? = some x) ∧ ∀ ys, SqL K H b ys → ys[i]? = some y,
    fun i H => ∃ xs ys : List V, SqT K H a xs ∧ SqL K H b ys ∧ (i = xs.length ∧ i ≤ ys.length ∨ i = ys.length ∧ i ≤ xs.length)⟩
/-- all the cells of the zip lie apart -/
structure Apart5 (z TI TO i1 i2 a b : Addr) : Prop where
  TIz : TI ≠ z
  TOz : TO ≠ z
  TITO : TI ≠ TO
  TIi1 : TI ≠ i1
  TIi2 : TI ≠ i2
  zi1 : z ≠ i1
  zi2 : z ≠ i2
  Ti1 : TO ≠ i1
  Ti2 : TO ≠ i2
  i12 : i1 ≠ i2
  za : z ≠ a
  zb : z ≠ b
  Ta : TO ≠ a
  Tb : TO ≠ b
  a1 : a ≠ i1
  a2 : a ≠ i2
  b1 : b ≠ i1
  b2 : b ≠ i2
theorem apart_n (n a b : Nat) (ha : a < n) (hb : b < n) : Apart5 (n + 4) (n + 2) (n + 3) n (n + 1) a b := by
  refine ⟨?_, ?_, ?_, ?_, ?_, ?_, ?_, ?_, ?_, ?_, ?_, ?_, ?_, ?_, ?_, ?_, ?_, ?_⟩ <;> (show ¬ (@Eq Nat _ _)) <;> omega
theorem Apart5.sep {z TI TO i1 i2 a b : Addr} (D : Apart5 z TI TO i1 i2 a b) : ZipSep2 z TI TO i1 i2 [i1, a] [i2, b] where
  TIz := D.TIz
  TOz := D.TOz
  TITO := D.TITO
  TIi1 := D.TIi1
  mem1 := by simp
  zf1 := by simp [D.zi1, D.za]
  Tf1 := by simp [D.Ti1, D.Ta]
  TIi2 := D.TIi2
  mem2 := by simp
  zf2 := by simp [D.zi2, D.zb]
  Tf2 := by simp [D.Ti2, D.Tb]
  sep1_2 := by simp [D.i12, D.b1.symm]
  sep2_1 := by simp [D.i12.symm, D.a2.symm]
theorem turn_zipM {P : Program} {w : World} {K : PySem.W.Frag} {elts : List Expr} {kk : Nat} {tpos : Pos} {a b z TI TO i1 i2 : Addr} (D : Apart5 z TI TO i1 i2 a b) :
    Turn P w K (.Tuple elts kk tpos) (ItzM K a b) [z, TI, TO, i1, i2] z (fun i h => IsZip h z TI TO .none ∧ IsTupOf2 h TI (.ref i1) (.ref i2) ∧ (∃ x y, IsTupOf2 h TO x y) ∧ h.IsTupleIter i1 a i ∧ h.IsListIter i2 b i) where
  mem := by simp
  obj := fun i h st c hc => by
    obtain ⟨hz, hTI, ⟨x, y, hTO⟩, ⟨o1, e1, _, d1⟩, ⟨o2, e2, _, d2⟩⟩ := st
    have e' : c = z ∨ c = TI ∨ c = TO ∨ c = i1 ∨ c = i2 := by simpa using hc
    rcases e' with q | q | q | q | q
    · rw [q]; exact ⟨_, hz, fun v q => nomatch q⟩
    · rw [q]; exact ⟨_, hTI, fun v q => nomatch q⟩
    · rw [q]; exact ⟨_, hTO, fun v q => nomatch q⟩
    · rw [q]; exact ⟨o1, e1, fun v q => by rw [d1] at q; cases q⟩
    · rw [q]; exact ⟨o2, e2, fun v q => by rw [d2] at q; cases q⟩
  keep := fun i h h' st k => by
    obtain ⟨hz, hTI, ⟨x, y, hTO⟩, h1, h2⟩ := st
    exact ⟨k z (by simp) _ hz, k TI (by simp) _ hTI, ⟨x, y, k TO (by simp) _ hTO⟩, h1.at fun o q => k i1 (by simp) o q, h2.at fun o q => k i2 (by simp) o q⟩
  item := by
    intro X hP hw hK hc i pins s σ H E I hf st hg
    subst hP hw hK
    obtain ⟨hz, hTI, ⟨x0, y0, hTO⟩, h1, h2⟩ := st
    obtain ⟨xs, ys, x, y, hqx, hqy, hx, hy⟩ := hg
    obtain ⟨its, rv, p, _⟩ := I.tuple hqx
    obtain ⟨its2, rv2, p2, _⟩ := I.list hqy
    obtain ⟨u, hu, ru⟩ := rv.get hx
    obtain ⟨u2, hu2, ru2⟩ := rv2.get hy
    have hzl : z < s.heap.objs.size := Heap.lt_size hz
    have D1 := PySem.Draws.tuple (prog := X.prog) (w := X.w) (A := X.A.in1) (I.ok.hd hc) i1 a D.a1 its.toArray
    have D2 := PySem.Draws.list (prog := X.prog) (w := X.w) (A := X.A.in1) (I.ok.hd hc) i2 b D.b2 its2.toArray
    have hlt1 : i < its.toArray.size := by
      have := (List.getElem?_eq_some_iff.mp hu).1
      simpa using this
    have hlt2 : i < its2.toArray.size := by
      have := (List.getElem?_eq_some_iff.mp hu2).1
      simpa using this
    refine wpAny_pyNext_zipD2_item D.sep D1 D2 hz hTI hTO ⟨h1, p⟩ ⟨h2, p2.isList⟩ hlt1 hlt2 fun x1 x2 h' tk y1 y2 z' TO' st1' st2' hT hsz hk => ?_
    have ex1 : x1 = u := by
      have : some u = some x1 := by rw [← hu]; simpa using y1
      exact (Option.some.inj this).symm
    have ex2 : x2 = u2 := by
      have : some u2 = some x2 := by rw [← hu2]; simpa using y2
      exact (Option.some.inj this).symm
    subst ex1 ex2
    obtain ⟨h1', _⟩ := st1'
    obtain ⟨h2', _⟩ := st2'
    refine ⟨_, rfl, wpAny_letOwnedTupleGo_zip (s := { s with heap := h', toks := tk }) z' fun h'' z'' sb => ?_⟩
    have hT2 : h''.get? s.heap.objs.size = some { cls := .type "tuple", data := .seq #[x1, x2] } := (sb.2 _ (Nat.ne_of_gt hzl)).trans hT
    have new : ObjOk X.prog X.w (upd H s.heap.objs.size (.tup [x, y])) h'' s.heap.objs.size (.tup [x, y]) :=
      ⟨by show 2 ≤ sizeLine; decide, [x1, x2], .cons ru (.cons ru2 .nil), ⟨_, hT2, rfl, _, rfl⟩⟩
    have I1 : Inv X pins σ (upd H s.heap.objs.size (.tup [x, y])) { s with heap := h'', toks := tk } :=
      I.turnedNew (t' := tk) (ch := [z, TI, TO, i1, i2]) (fun c o hb q => (sb.2 c (fun q' => hb (by simp [q']))).trans (hk c o (fun q' => hb (by simp [q'])) (fun q' => hb (by simp [q'])) (fun q' => hb (by simp [q'])) (fun q' => hb (by simp [q'])) q)) hf (Nat.le_refl _) new
    refine ⟨.ref s.heap.objs.size, _, I1, rfl, ⟨_, x, y, rfl, I.hok.fresh (Nat.le_refl _), rfl, fun l hl => by rw [I.tuple_inj hl hqx]; exact hx, fun l hl => by rw [I.list_inj hl hqy]; exact hy⟩, ⟨z'', ?_, ⟨x1, x2, ?_⟩, ?_, ?_⟩, fun c hcm => ?_⟩
    · exact (sb.2 _ D.TIz).trans (hk _ _ D.TIz D.TITO D.TIi1 D.TIi2 hTI)
    · exact (sb.2 _ D.TOz).trans TO'
    · exact h1'.at fun o q => (sb.2 _ D.zi1.symm).trans q
    · exact h2'.at fun o q => (sb.2 _ D.zi2.symm).trans q
    · have hlt : c < s.heap.objs.size := by
        have e' : c = z ∨ c = TI ∨ c = TO ∨ c = i1 ∨ c = i2 := by simpa using hcm
        rcases e' with q | q | q | q | q
        · rw [q]; exact hzl
        · rw [q]; exact Heap.lt_size hTI
        · rw [q]; exact Heap.lt_size hTO
        · rw [q]; obtain ⟨_, e1, _⟩ := h1; exact Heap.lt_size e1
        · rw [q]; obtain ⟨_, e2, _⟩ := h2; exact Heap.lt_size e2
      rw [upd_ne (Nat.ne_of_lt hlt)]
      exact (hf c hcm).1
  done := by
    intro X hP hw hK hc i pins s σ H E I hf st hg
    subst hP hw hK
    obtain ⟨hz, hTI, ⟨x0, y0, hTO⟩, h1, h2⟩ := st
    obtain ⟨xs, ys, hqx, hqy, hend⟩ := hg
    obtain ⟨its, rv, p, _⟩ := I.tuple hqx
    obtain ⟨its2, rv2, p2, _⟩ := I.list hqy
    have l1 := rv.length
    have l2 := rv2.length
    have D1 := PySem.Draws.tuple (prog := X.prog) (w := X.w) (A := X.A.in1) (I.ok.hd hc) i1 a D.a1 its.toArray
    have D2 := PySem.Draws.list (prog := X.prog) (w := X.w) (A := X.A.in1) (I.ok.hd hc) i2 b D.b2 its2.toArray
    have s1 : its.toArray.size = its.length := by simp
    have s2 : its2.toArray.size = its2.length := by simp
    exact wpAny_pyNext_zipD2_end D.sep D1 D2 hz hTI hTO ⟨h1, p⟩ ⟨h2, p2.isList⟩ (by omega) (by omega) (by omega) fun h' tk hk => ⟨rfl, I.turnedL (t' := tk) (ch := [z, TI, TO, i1, i2]) (fun c o hb q =>
      hk c o (fun q' => hb (by simp [q'])) (fun q' => hb (by simp [q'])) (fun q' => hb (by simp [q'])) (fun q' => hb (by simp [q'])) q) hf⟩
  self := fun A i s Q E st h => wpAny_pyIter_zip st.1 h
def iZipM (K : PySem.W.Frag) (ta : TA) : TI := fun σ H R => ta σ H fun vs H1 => ∃ a b xs ys, vs = [.ref a, .ref b] ∧ SqT K H1 a xs ∧ SqL K H1 b ys ∧ R (ItzM K a b) H1
theorem pi_zipM {X : Cx} {e e2 : Expr} {ta : TA} {p pos tpos : Pos} {elts : List Expr} {kk : Nat} (hg : Gl X "zip") (hm : X.mg "zip" = none) (ha : PA X [e, e2] ta)
    (hs : starEach [e, e2] X.env = (false, eval e X.env) :: starEach [e2] X.env := by rfl) (hpl : (backTo pos (starEach [e2] X.env)).any (·.1) = false := by rfl) :
    PI X (.Tuple elts kk tpos) (.Call (.Name "zip" p) [e, e2] [] pos) (iZipM X.K ta) := by
  refine ⟨fun pins s σ H R I h => ?_⟩
  refine Call_ (ld_blt I hg hm PyProof.Rows.boot_zip (PyProof.Rows.callWith_type1 (thn (ha.run pos pins s σ H _ I h) fun us s1 ⟨vs, H1, I1, r1, q1⟩ => ?_) hs hpl))
  obtain ⟨a, b, xs, ys, ex, hqx, hqy, q⟩ := q1
  subst ex
  cases r1 with
  | cons r rr =>
    cases rr with
    | cons r' rr =>
      cases rr
      cases r
      cases r'
      have fresh5 : ∀ c, c ∈ [s1.heap.objs.size + 4, s1.heap.objs.size + 2, s1.heap.objs.size + 3, s1.heap.objs.size, s1.heap.objs.size + 1] → FpOk X pins H1 c := fun c hcm => by
        have e' : c = s1.heap.objs.size + 4 ∨ c = s1.heap.objs.size + 2 ∨ c = s1.heap.objs.size + 3 ∨ c = s1.heap.objs.size ∨ c = s1.heap.objs.size + 1 := by simpa using hcm
        have hle : s1.heap.objs.size ≤ c := by
          rcases e' with z | z | z | z | z
          · rw [z]; exact Nat.le_add_right _ _
          · rw [z]; exact Nat.le_add_right _ _
          · rw [z]; exact Nat.le_add_right _ _
          · rw [z]; exact Nat.le_refl _
          · rw [z]; exact Nat.le_add_right _ _
        exact I1.fpOk hle (I1.hok.fresh hle)
      obtain ⟨its, rv, p1, _⟩ := I1.tuple hqx
      obtain ⟨its2, rv2, p2, _⟩ := I1.list hqy
      obtain ⟨o1, ho1, _⟩ := id p1
      refine PySem.zip_begins2 (begins_tuple a its.toArray) (begins_list b its2.toArray) p1 p2.isList fun h' hz hTI hTO h1 h2 hsz hk => wpAny_pyIter_zip hz ?_
      have I2 : Inv X pins σ H1 { s1 with heap := h' } := I1.kept (t' := s1.toks) hk
      exact ⟨s1.heap.objs.size + 4, [s1.heap.objs.size + 4, s1.heap.objs.size + 2, s1.heap.objs.size + 3, s1.heap.objs.size, s1.heap.objs.size + 1], _, _, H1, rfl, I2, turn_zipM (apart_n s1.heap.objs.size a b (Heap.lt_size ho1) p2.lt), ⟨hz, hTI, ⟨_, _, hTO⟩, ⟨_, h1, rfl, rfl⟩, ⟨_, h2, rfl, rfl⟩⟩, fresh5, q⟩
theorem walk_zipM {K : PySem.W.Frag} {a b : Addr} {xs ys : List V} (hl : xs.length = ys.length) : Walk (ItzM K a b) xs.length (fun H => SqT K H a xs ∧ SqL K H b ys) (YPair (fun i => xs[i]?) (fun i => ys[i]?)) := by
  refine ⟨fun i _ hi q => ?_, fun _ q => ⟨xs, ys, q.1, q.2, .inl ⟨rfl, by omega⟩⟩, fun i H v H' _ q y => ?_⟩
  · have h2 : i < ys.length := by omega
    exact ⟨xs, ys, xs[i], ys[i], q.1, q.2, by simp [hi], by simp [h2]⟩
  · obtain ⟨T, x, z, h1, h2, h3, h4, h5⟩ := y
    exact ⟨T, x, z, h1, h2, h3, h4 xs q.1, h5 ys q.2⟩
end My

namespace My
open PySem PySem.Spec PyProof.Rows L2
/-! ### f(k = v, ..) without positional arguments; a def of one parameter, by name -/
section
variable {X : Cx} {CX : CXT} {k : Nat} {f : Addr} {fd : FuncData} {ps ks : List Str} {sp : Sp} {E : XK} {x : Str} {p pos : Pos} {kws : List Keyword} {tk : TA} {g : List Value → List Value → List Value} {gV : List V → List V → List V}
theorem pe_callK0 (F : FnOk X.prog X.w X.K X.mg X.base CX k f fd ps sp) (hr : Room k X.A) (hg : Gl X x) (hm : X.mg x = some (.ref f)) (hk : PySem.W.keepIn X.K (.ref f) = true) (hb : KBinds X.K fd ps ks g gV) (hx : Passes CX X E)
    (hkw : PK X kws tk) (hall : (backToKw pos (keywordEach kws X.env)).all (·.1.isSome) = true := by rfl) (hks : (backToKw pos (keywordEach kws X.env)).filterMap (·.1) = ks := by rfl)
    (hdb : (x == ("__debug__" : Str)) = false := by decide)
    (hpl : ((backTo pos (starEach [] X.env)).any (·.1) || (backToKw pos (keywordEach kws X.env)).any (·.1.isNone)) = false := by rfl) :
    PE X (.Call (.Name x p) [] kws pos) (tCallK sp gV E tNil tk) := by
  refine ⟨fun pins s σ H Q I h => ?_⟩
  refine wpAny_Call_Name_kw (ld_glob I hg hm ?_ hdb)
  refine PySem.W.callWith_KW0 (h₀ := X.base) I.ok.mod.kin hk hall ?_ hpl
  refine thn (hkw.run pos pins s σ H _ I h) fun ws s2 ⟨zs, H2, I2, rz, q2⟩ => ⟨I2.kIn, ?_⟩
  rw [hks]
  exact run_fnk F hr hb hx I2 .nil rz q2
end
/-- of several defs that the slot may hold, each with its promises -/
def tCallR (i : Nat) (S : Addr → Sp → Prop) (t : TA) : TE := fun σ H Q => ∃ f sp, σ[i]? = some (some (.ref f)) ∧ S f sp ∧ t σ H fun vs H1 => sp vs H1 Q (fun _ _ _ => False)
theorem pe_callR {X : Cx} {k i : Nat} {x : Str} {p pos : Pos} {e : Expr} {es : List Expr} {t : TA} {S : Addr → Sp → Prop} (A : ∀ f sp, S f sp → Held X.prog X.w X.K X.mg X.base k f sp) (hr : Room k X.A) (hN : X.N[i]? = some x) (hv : Vis X.env.scope x) (ha : PA X (e :: es) t)
    (hdb : (x == ("__debug__" : Str)) = false := by decide) (hcd : (x == ("__classdict__" : Str)) = false := by decide)
    (he : starEach (e :: es) X.env = (false, eval e X.env) :: starEach es X.env := by rfl) (hpl : (backTo pos (starEach es X.env)).any (·.1) = false := by rfl) : PE X (.Call (.Name x p) (e :: es) [] pos) (tCallR i S t) := by
  refine ⟨fun pins s σ H Q I h => ?_⟩
  obtain ⟨f, sp, hs, hS, ht⟩ := h
  obtain ⟨fd, ps, F, hk, hb⟩ := (A f sp hS).ex
  refine (pe_callL (i := i) (f := f) (sp := sp) (dvs := []) (E := fun _ _ _ => False) F hr hN hv hk hb .nil (fun _ _ _ _ _ _ _ z => z.elim) ha hdb hcd he hpl).run pins s σ H Q I ⟨hs, ?_⟩
  have e0 : (fun (vs : List V) (H1 : Hp) => sp (vs ++ []) H1 Q (fun _ _ _ => False)) = fun vs H1 => sp vs H1 Q (fun _ _ _ => False) := by
    funext vs H1
    rw [List.append_nil]
  show t σ H (fun vs H1 => sp (vs ++ []) H1 Q (fun _ _ _ => False))
  rw [e0]
  exact ht
theorem fnOk_up {P : Program} {w : World} {K : PySem.W.Frag} {mg : Str → Option Value} {base : Heap} {CX : CXT} {k k' : Nat} {f : Addr} {fd : FuncData} {ps : List Str} {sp : Sp} (h : FnOk P w K mg base CX k f fd ps sp) (hk : k ≤ k') : FnOk P w K mg base CX k' f fd ps sp :=
  ⟨h.len, fun A outer s H args us vs Q E hr => h.run A outer s H args us vs Q E (hr.mono hk)⟩
theorem kbinds_one {K : PySem.W.Frag} {x qual p : Str} {st : Stmt} {f : Addr} {fd : FuncData} (F : Fun K x qual st f fd)
    (h1 : ∀ (kV doc pm : Value) (an : Option Addr) (cdv ct : Value) (u : Value), bindArgs (PySem.W.fnOf x qual (defArgs st) (defBody st) (defScope st) .none kV doc pm an cdv ct) ⟨[u], []⟩ = pure [(p, u)])
    (h2 : ∀ (kV doc pm : Value) (an : Option Addr) (cdv ct : Value) (u : Value), bindArgs (PySem.W.fnOf x qual (defArgs st) (defBody st) (defScope st) .none kV doc pm an cdv ct) ⟨[], [(p, u)]⟩ = pure [(p, u)]) :
    KBinds K fd [p] [p] (fun us ws => us ++ ws) (fun vs zs => vs ++ zs) := by
  obtain ⟨oc, od, kV, doc, pm, an, cdv, ct, osl, rfl, lk, hcd⟩ := F.ex
  refine ⟨fun s us ws _ hl => ?_, fun r1 r2 => ?_⟩
  · match us, ws, hl with
    | [u], [], _ => exact .of_eq (h1 kV doc pm an cdv ct u)
    | [], [u], _ => exact .of_eq (h2 kV doc pm an cdv ct u)
  · induction r1 with
    | nil => exact r2
    | cons r _ ih => exact .cons r ih
end My

namespace My
open PySem PySem.Spec PyProof.Rows L2
/-! ### two rows, item by item -/
def All2 {α β : Type} (R : α → β → Prop) (xs : List α) (ys : List β) : Prop := xs.length = ys.length ∧ ∀ (i : Nat) (x : α) (y : β), xs[i]? = some x → ys[i]? = some y → R x y
section
variable {α β : Type} {R : α → β → Prop} {xs xs' : List α} {ys ys' : List β}
theorem All2.nil : All2 R ([] : List α) ([] : List β) := ⟨rfl, fun i x y h => by simp at h⟩
theorem All2.mono {R' : α → β → Prop} (h : All2 R xs ys) (f : ∀ x y, R x y → R' x y) : All2 R' xs ys := ⟨h.1, fun i x y a b => f x y (h.2 i x y a b)⟩
theorem All2.cons {x : α} {y : β} (r : R x y) (h : All2 R xs ys) : All2 R (x :: xs) (y :: ys) := by
  refine ⟨by simp [h.1], fun i a b ha hb => ?_⟩
  cases i with
  | zero =>
    rw [List.getElem?_cons_zero] at ha hb
    cases ha
    cases hb
    exact r
  | succ i =>
    rw [List.getElem?_cons_succ] at ha hb
    exact h.2 i a b ha hb
theorem All2.app (h : All2 R xs ys) (g : All2 R xs' ys') : All2 R (xs ++ xs') (ys ++ ys') := by
  refine ⟨by simp [h.1, g.1], fun i a b ha hb => ?_⟩
  by_cases c : i < xs.length
  · rw [List.getElem?_append_left c] at ha
    rw [List.getElem?_append_left (by rw [← h.1]; exact c)] at hb
    exact h.2 i a b ha hb
  · rw [List.getElem?_append_right (by omega)] at ha
    rw [List.getElem?_append_right (by rw [← h.1]; omega), ← h.1] at hb
    exact g.2 _ a b ha hb
theorem All2.one {x : α} {y : β} (r : R x y) : All2 R [x] [y] := .cons r .nil
theorem All2.drop (h : All2 R xs ys) (n : Nat) : All2 R (xs.drop n) (ys.drop n) :=
  ⟨by simp [h.1], fun i a b ha hb => h.2 (n + i) a b (by rw [List.getElem?_drop] at ha; exact ha) (by rw [List.getElem?_drop] at hb; exact hb)⟩
theorem All2.take (h : All2 R xs ys) (n : Nat) : All2 R (xs.take n) (ys.take n) := by
  refine ⟨by simp [h.1], fun i a b ha hb => ?_⟩
  rw [List.getElem?_take] at ha hb
  split at ha
  · rename_i c
    rw [if_pos c] at hb
    exact h.2 i a b ha hb
  · cases ha
theorem All2.get (h : All2 R xs ys) {i : Nat} {y : β} (hy : ys[i]? = some y) : ∃ x, xs[i]? = some x ∧ R x y := by
  have hi : i < xs.length := by rw [h.1]; exact (List.getElem?_eq_some_iff.mp hy).1
  exact ⟨xs[i], List.getElem?_eq_getElem hi, h.2 i _ _ (List.getElem?_eq_getElem hi) hy⟩
theorem All2.map {γ : Type} {f : γ → β} {zs : List γ} : All2 R xs (zs.map f) ↔ All2 (fun x z => R x (f z)) xs zs := by
  constructor
  · intro h
    refine ⟨by simpa using h.1, fun i x z hx hz => h.2 i x (f z) hx (by rw [List.getElem?_map, hz]; rfl)⟩
  · intro h
    refine ⟨by simpa using h.1, fun i x y hx hy => ?_⟩
    rw [List.getElem?_map] at hy
    cases e : zs[i]? with
    | none => rw [e] at hy; cases hy
    | some z => rw [e] at hy; cases hy; exact h.2 i x z hx e
end
theorem dpAll_all2 {K : PySem.W.Frag} {H : Hp} : ∀ {vs : List V} {ds : List PyData}, DpAll K H vs ds → All2 (Dp K H) vs ds
  | _, _, .nil => .nil
  | _, _, .cons h r => .cons h (dpAll_all2 r)
theorem all2_dpAll {K : PySem.W.Frag} {H : Hp} : ∀ {vs : List V} {ds : List PyData}, All2 (Dp K H) vs ds → DpAll K H vs ds
  | [], [], _ => .nil
  | [], _ :: _, h => by have := h.1; simp at this
  | _ :: _, [], h => by have := h.1; simp at this
  | v :: vs, d :: ds, h => .cons (h.2 0 v d rfl rfl) (all2_dpAll ⟨by have := h.1; simpa using this, fun i x y hx hy => h.2 (i + 1) x y hx hy⟩)
theorem same_tup {K : PySem.W.Frag} {H H' : Hp} {a : Addr} {xs : List V} (s : Same H H') (h : SqT K H a xs) : SqT K H' a xs := by
  rcases h with (h | ⟨o, h⟩) | h
  · exact .inl (.inl (s _ _ h))
  · exact .inl (.inr ⟨o, s _ _ h⟩)
  · exact .inr h
mutual
theorem dp_same {K : PySem.W.Frag} {H H' : Hp} (s : Same H H') : ∀ {v : V} {d : PyData}, Dp K H v d → Dp K H' v d
  | _, _, .non => .non
  | _, _, .bl b => .bl b
  | _, _, .int i => .int i
  | _, _, .str x => .str x
  | _, _, .lst h r => .lst (s.seq h) (dpAll_same s r)
  | _, _, .tup h r => .tup (same_tup s h) (dpAll_same s r)
theorem dpAll_same {K : PySem.W.Frag} {H H' : Hp} (s : Same H H') : ∀ {vs : List V} {ds : List PyData}, DpAll K H vs ds → DpAll K H' vs ds
  | _, _, .nil => .nil
  | _, _, .cons h r => .cons (dp_same s h) (dpAll_same s r)
end
/-! ### the heap without some places -/
def Rest (H : Hp) (L : List Addr) : Hp := fun b => if b ∈ L then none else H b
theorem rest_in {H : Hp} {L : List Addr} {b : Addr} (h : b ∈ L) : Rest H L b = none := if_pos h
theorem rest_out {H : Hp} {L : List Addr} {b : Addr} (h : b ∉ L) : Rest H L b = H b := if_neg h
theorem rest_same {H : Hp} {L : List Addr} : Same (Rest H L) H := fun b o e => by
  unfold Rest at e
  split at e
  · cases e
  · exact e
theorem same_rest {G H : Hp} {L : List Addr} (s : Same G H) (n : ∀ b ∈ L, G b = none) : Same G (Rest H L) := fun b o e => by
  by_cases h : b ∈ L
  · rw [n b h] at e
    cases e
  · rw [rest_out h]
    exact s b o e
theorem rest_mono {H H' : Hp} {L : List Addr} (s : Same H H') : Same (Rest H L) (Rest H' L) := same_rest (fun b o e => s b o (rest_same b o e)) fun _ h => rest_in h
theorem rest_upd {H : Hp} {L : List Addr} {a : Addr} {o : HO} (h : a ∈ L) : Rest (upd H a o) L = Rest H L := by
  funext b
  by_cases hb : b ∈ L
  · rw [rest_in hb, rest_in hb]
  · rw [rest_out hb, rest_out hb, upd_ne fun e => hb (by rw [e]; exact h)]
theorem rest_less {H : Hp} {L L' : List Addr} (h : ∀ b ∈ L', b ∈ L) : Same (Rest H L) (Rest H L') := fun b o e => by
  have hb : b ∉ L := fun z => by rw [rest_in z] at e; cases e
  rw [rest_out hb] at e
  rw [rest_out fun z => hb (h b z)]
  exact e
end My

namespace My
open PySem PySem.Spec PyProof.Rows L2
/-- a well of draws, and how many parts may be made -/
def Well3 (H : Hp) (L : Addr) : Prop := ∃ x y z : Int, H L = some (.lst [.int x, .int y, .int z])
theorem Well3.lst {H : Hp} {L : Addr} (h : Well3 H L) : ∃ xs, H L = some (.lst xs) := by
  obtain ⟨x, y, z, e⟩ := h
  exact ⟨_, e⟩
theorem Well3.same {H H' : Hp} {L : Addr} (h : Well3 H L) (s : Same H H') : Well3 H' L := by
  obtain ⟨x, y, z, e⟩ := h
  exact ⟨x, y, z, s _ _ e⟩
theorem Well3.new {H : Hp} {L p : Addr} {o : HO} (h : Well3 H L) (n : H p = none) : Well3 (upd H p o) L := h.same (same_new n)
theorem Well3.ne {H : Hp} {L p : Addr} (h : Well3 H L) (n : H p = none) : p ≠ L := by
  obtain ⟨x, y, z, e⟩ := h
  exact (ne_of_none e n).symm
theorem Well3.upd {H : Hp} {L p : Addr} {o : HO} (h : Well3 H L) (n : p ≠ L) : Well3 (upd H p o) L := by
  obtain ⟨x, y, z, e⟩ := h
  exact ⟨x, y, z, by rw [upd_ne n.symm]; exact e⟩
/-! ### data without lists -/
mutual
def noList : PyData → Bool
  | .list _ => false
  | .tuple ds => noListAll ds
  | .dict _ => false
  | _ => true
def noListAll : List PyData → Bool
  | [] => true
  | d :: ds => noList d && noListAll ds
end
mutual
theorem dp_rest {K : PySem.W.Frag} {H : Hp} {L : List Addr} (hL : ∀ b ∈ L, ∃ xs, H b = some (.lst xs)) : ∀ {v : V} {d : PyData}, noList d = true → Dp K H v d → Dp K (Rest H L) v d
  | _, _, _, .non => .non
  | _, _, _, .bl b => .bl b
  | _, _, _, .int i => .int i
  | _, _, _, .str x => .str x
  | _, _, h, .lst _ _ => by unfold noList at h; cases h
  | _, _, h, .tup (a := a) q r => by
    refine .tup ?_ (dpAll_rest hL (by unfold noList at h; exact h) r)
    rcases q with (q | ⟨o, q⟩) | q
    · refine .inl (.inl ?_)
      rw [rest_out fun z => ?_]
      · exact q
      · obtain ⟨xs, e⟩ := hL _ z
        rw [e] at q
        cases q
    · refine .inl (.inr ⟨o, ?_⟩)
      rw [rest_out fun z => ?_]
      · exact q
      · obtain ⟨xs, e⟩ := hL _ z
        rw [e] at q
        cases q
    · exact .inr q
theorem dpAll_rest {K : PySem.W.Frag} {H : Hp} {L : List Addr} (hL : ∀ b ∈ L, ∃ xs, H b = some (.lst xs)) : ∀ {vs : List V} {ds : List PyData}, noListAll ds = true → DpAll K H vs ds → DpAll K (Rest H L) vs ds
  | _, _, _, .nil => .nil
  | _, _, h, .cons q r => by
    unfold noListAll at h
    rw [Bool.and_eq_true] at h
    exact .cons (dp_rest hL h.1 q) (dpAll_rest hL h.2 r)
end
theorem dp_keep {K : PySem.W.Frag} {H H' : Hp} {L : Addr} {v : V} {d : PyData} (k : Keeps L H H') (hL : ∃ xs, H L = some (.lst xs)) (n : noList d = true) (h : Dp K H v d) : Dp K H' v d := by
  have h1 := dp_rest (L := [L]) (fun b hb => by rw [List.mem_singleton.mp hb]; exact hL) n h
  refine dp_same (fun b o e => ?_) h1
  have hb : b ≠ L := fun z => by rw [z, rest_in (by simp)] at e; cases e
  rw [rest_out (by simpa using hb)] at e
  exact k b o hb e
end My

namespace My
open PySem PySem.Spec PyProof.Rows L2
/-! ### rows within one another, gone through from the outermost on -/
def tot {X : Type} (N : List X → Nat) : List (List X) → Nat
  | [] => 0
  | r :: rs => N r + tot N rs
theorem tot_app {X : Type} (N : List X → Nat) : ∀ a b : List (List X), tot N (a ++ b) = tot N a + tot N b
  | [], b => by simp [tot]
  | r :: a, b => by
    show N r + tot N (a ++ b) = N r + tot N a + tot N b
    rw [tot_app N a b]
    omega
theorem keeps_rest {R : Addr} {H H' : Hp} {L : List Addr} (k : Keeps R H H') (h : R ∈ L) : Same (Rest H L) (Rest H' L) := same_rest (fun b o e => by
    by_cases hb : b ∈ L
    · rw [rest_in hb] at e
      cases e
    · rw [rest_out hb] at e
      exact k b o (fun z => hb (by rw [z]; exact h)) e) fun _ h => rest_in h
theorem keeps_same {R : Addr} {G H H' : Hp} (k : Keeps R H H') (s : Same G H) (n : G R = none) : Same G H' := fun b o e => k b o (fun z => by rw [z, n] at e; cases e) (s b o e)
theorem cutV_nat (zs : List V) {b e : Nat} (hb : b ≤ e) (he : e ≤ zs.length) : cutV zs (some (b : Int)) (some (e : Int)) = (zs.drop b).take (e - b) := by
  unfold cutV
  rw [HT.sIx_nat, HT.sIx_nat, Nat.min_eq_left he, Nat.min_eq_left (Nat.le_trans hb he)]
theorem flat_one {α : Type} (x : α) : ∀ n, (List.replicate n [x]).flatten = List.replicate n x
  | 0 => rfl
  | n + 1 => by
    rw [List.replicate_succ, List.flatten_cons, flat_one x n, List.replicate_succ]
    rfl
structure Fold where
  X : Type
  toD : X → PyData
  sub : X → List (List X)
  N : List X → Nat
  hN : ∀ row, N row = 1 + row.length + tot N (row.flatMap sub)
  Ok : List X → Prop
  inh : ∀ row x r, Ok row → x ∈ row → r ∈ sub x → Ok r
  RR : Hp → V → List X → Prop
  mono : ∀ G G' v r, Same G G' → RR G v r → RR G' v r
section
variable {F : Fold}
theorem tot_len : ∀ rs : List (List F.X), rs.length ≤ tot F.N rs
  | [] => Nat.le_refl _
  | r :: rs => by
    have h1 := tot_len rs
    have h2 := F.hN r
    show rs.length + 1 ≤ F.N r + tot F.N rs
    omega
theorem tot_mem : ∀ {rs : List (List F.X)} {r : List F.X}, r ∈ rs → F.N r ≤ tot F.N rs
  | q :: rs, r, h => by
    show F.N r ≤ F.N q + tot F.N rs
    rcases List.mem_cons.mp h with rfl | h
    · omega
    · have := tot_mem h
      omega
theorem ixN_nat {n k : Nat} (h : k < n) : ixN n (k : Int) = some k := by
  unfold ixN
  rw [if_pos (Int.natCast_nonneg k), if_pos (by omega)]
  rfl
def RowIs (K : PySem.W.Frag) (F : Fold) (G : Hp) (v : V) (row : List F.X) : Prop := ∃ a vs, v = .ref a ∧ SqT K G a vs ∧ All2 (fun u x => Dp K G u (F.toD x)) vs row
theorem RowIs.same {K : PySem.W.Frag} {G G' : Hp} {v : V} {row : List F.X} (s : Same G G') (h : RowIs K F G v row) : RowIs K F G' v row := by
  obtain ⟨a, vs, e, q, r⟩ := h
  exact ⟨a, vs, e, same_tup s q, r.mono fun _ _ d => dp_same s d⟩
theorem dp_row {K : PySem.W.Frag} {G : Hp} {v : V} {row : List F.X} (h : Dp K G v (.tuple (row.map F.toD))) : RowIs K F G v row := by
  cases h with
  | tup q r => exact ⟨_, _, rfl, q, All2.map.mp (dpAll_all2 r)⟩
def InOk (K : PySem.W.Frag) (F : Fold) (sp : Sp) : Prop := ∀ (G H : Hp) (v : V) (x : F.X) (Q : VK), Same G H → Dp K G v (F.toD x) →
  (∀ p H' ws, Same H H' → H p = none → H' p = some (.lst ws) → All2 (RowIs K F G) ws (F.sub x) → Q (.ref p) H') → sp [v] H Q (fun _ _ _ => False)
/-- the results of the rows in each of a row -/
def InnerIs (F : Fold) (G H : Hp) (w : V) (x : F.X) : Prop := ∃ l vs, w = .ref l ∧ H l = some (.lst vs) ∧ All2 (F.RR G) vs (F.sub x)
/-- what is new in G' is new in H, too -/
def NewIn (G G' H : Hp) : Prop := ∀ b, G' b ≠ none → G b ≠ none ∨ H b = none
def MadeOk (K : PySem.W.Frag) (F : Fold) (sp : Sp) : Prop := ∀ (G H : Hp) (v : V) (L : Addr) (ws : List V) (row : List F.X) (Q : VK), Same G H → RowIs K F G v row → F.Ok row → row.length ≤ 100000 → H L = some (.lst ws) →
  All2 (InnerIs F G H) ws row → (∀ r H' G', Same H H' → Same G G' → Same G' H' → NewIn G G' H → F.RR G' r row → Q r H') → sp [v, .ref L] H Q (fun _ _ _ => False)
def PlaceOk (F : Fold) (rs : List (List F.X)) (j : Nat) (x : F.X) (be : Nat × Nat) : Prop := j < be.1 ∧ be.1 ≤ be.2 ∧ be.2 ≤ rs.length ∧ (rs.drop be.1).take (be.2 - be.1) = F.sub x
theorem PlaceOk.app {rs more : List (List F.X)} {j : Nat} {x : F.X} {be : Nat × Nat} (h : PlaceOk F rs j x be) : PlaceOk F (rs ++ more) j x be := by
  obtain ⟨h1, h2, h3, h4⟩ := h
  refine ⟨h1, h2, by simp; omega, ?_⟩
  rw [List.drop_append_of_le_length (by omega), List.take_append_of_le_length (by simp; omega)]
  exact h4
theorem PlaceOk.new {rs : List (List F.X)} {j : Nat} {x : F.X} (h : j < rs.length) : PlaceOk F (rs ++ F.sub x) j x (rs.length, rs.length + (F.sub x).length) := by
  refine ⟨h, by simp, by simp, ?_⟩
  show ((rs ++ F.sub x).drop rs.length).take (rs.length + (F.sub x).length - rs.length) = F.sub x
  rw [List.drop_left, Nat.add_sub_cancel_left, List.take_length]
def PairAt (H : Hp) (t : V) (be : Nat × Nat) : Prop := ∃ q, t = .ref q ∧ H q = some (.tup [.int (be.1 : Nat), .int (be.2 : Nat)])
def NumIs (H : Hp) (v : V) (ps : List (Nat × Nat)) : Prop := ∃ a ts, v = .ref a ∧ H a = some (.lst ts) ∧ All2 (PairAt H) ts ps
theorem PairAt.same {G G' : Hp} {v : V} {be : Nat × Nat} (s : Same G G') (h : PairAt G v be) : PairAt G' v be := by
  obtain ⟨q, e, h⟩ := h
  exact ⟨q, e, s _ _ h⟩
theorem NumIs.same {G G' : Hp} {v : V} {ps : List (Nat × Nat)} (s : Same G G') (h : NumIs G v ps) : NumIs G' v ps := by
  obtain ⟨a, ts, e, h, r⟩ := h
  exact ⟨a, ts, e, s _ _ h, r.mono fun _ _ p => p.same s⟩
/-- so far the rows were gone through -/
structure Gone (F : Fold) (rs : List (List F.X)) (ps : List (List (Nat × Nat))) : Prop where
  le : ps.length ≤ rs.length
  at_ : ∀ j row pj, rs[j]? = some row → ps[j]? = some pj → All2 (PlaceOk F rs j) row pj
theorem Gone.step {rs : List (List F.X)} {ps : List (List (Nat × Nat))} {row : List F.X} {nums : List (Nat × Nat)} (h : Gone F rs ps) (hr : rs[ps.length]? = some row)
    (hn : All2 (PlaceOk F (rs ++ row.flatMap F.sub) ps.length) row nums) : Gone F (rs ++ row.flatMap F.sub) (ps ++ [nums]) := by
  have hlt : ps.length < rs.length := (List.getElem?_eq_some_iff.mp hr).1
  refine ⟨by simp; omega, fun j r pj h1 h2 => ?_⟩
  by_cases c : j < ps.length
  · rw [List.getElem?_append_left (by omega)] at h1
    rw [List.getElem?_append_left c] at h2
    exact (h.at_ j r pj h1 h2).mono fun _ _ p => p.app
  · have hj : j = ps.length := by
      have := (List.getElem?_eq_some_iff.mp h2).1
      simp at this
      omega
    subst hj
    rw [List.getElem?_append_left hlt, hr] at h1
    rw [List.getElem?_append_right (Nat.le_refl _), Nat.sub_self] at h2
    cases h1
    cases h2
    exact hn
theorem Gone.left {rs : List (List F.X)} {k : Nat} {row : List F.X} (hr : rs[k]? = some row) : tot F.N ((rs ++ row.flatMap F.sub).drop (k + 1)) + 1 + row.length = tot F.N (rs.drop k) := by
  have hlt : k < rs.length := (List.getElem?_eq_some_iff.mp hr).1
  have e : rs.drop k = row :: rs.drop (k + 1) := by
    rw [List.drop_eq_getElem_cons hlt]
    have := List.getElem?_eq_getElem hlt
    rw [hr] at this
    cases this
    rfl
  rw [List.drop_append_of_le_length (by omega), tot_app, e]
  show tot F.N (rs.drop (k + 1)) + tot F.N (row.flatMap F.sub) + 1 + row.length = F.N row + tot F.N (rs.drop (k + 1))
  rw [F.hN row]
  omega
end
end My

/-! ### inlines as trees -/
namespace IM
open PySem PySem.Spec PyProof.Rows L2 My
inductive Inl where
  | text (t : List Nat)
  | code (t : List Nat)
  | html (t : List Nat)
  | soft
  | hard
  | emph (r : List Inl)
  | strong (r : List Inl)
  | link (d : List Nat) (t : Option (List Nat)) (r : List Inl)
  | image (d : List Nat) (t : Option (List Nat)) (r : List Inl)
def optD : Option (List Nat) → PyData
  | none => .none
  | some t => .str (S t)
mutual
def Inl.toD : Inl → PyData
  | .text t => .tuple [.str "text", .str (S t)]
  | .code t => .tuple [.str "code", .str (S t)]
  | .html t => .tuple [.str "html", .str (S t)]
  | .soft => .tuple [.str "soft"]
  | .hard => .tuple [.str "hard"]
  | .emph r => .tuple [.str "emph", .tuple (rowD r)]
  | .strong r => .tuple [.str "strong", .tuple (rowD r)]
  | .link d t r => .tuple [.str "link", .str (S d), optD t, .tuple (rowD r)]
  | .image d t r => .tuple [.str "image", .str (S d), optD t, .tuple (rowD r)]
def rowD : List Inl → List PyData
  | [] => []
  | x :: r => x.toD :: rowD r
end
theorem rowD_map : ∀ r : List Inl, rowD r = r.map Inl.toD
  | [] => rfl
  | x :: r => by
    show x.toD :: rowD r = x.toD :: r.map Inl.toD
    rw [rowD_map r]
mutual
def Inl.words : Inl → List Nat
  | .text t => t
  | .code t => t
  | .html _ => []
  | .soft => [32]
  | .hard => [32]
  | .emph r => rowW r
  | .strong r => rowW r
  | .link _ _ r => rowW r
  | .image _ _ r => rowW r
def rowW : List Inl → List Nat
  | [] => []
  | x :: r => x.words ++ rowW r
end
theorem rowW_app : ∀ a b : List Inl, rowW (a ++ b) = rowW a ++ rowW b
  | [], b => rfl
  | x :: a, b => by
    show x.words ++ rowW (a ++ b) = x.words ++ rowW a ++ rowW b
    rw [rowW_app a b, List.append_assoc]
theorem rowW_one (x : Inl) : rowW [x] = x.words := List.append_nil _
theorem rowW_mem : ∀ {r : List Inl} {x : Inl}, x ∈ r → x.words.length ≤ (rowW r).length
  | y :: r, x, h => by
    show x.words.length ≤ (y.words ++ rowW r).length
    rw [List.length_append]
    rcases List.mem_cons.mp h with rfl | h
    · omega
    · have := rowW_mem h
      omega
def Inl.sub : Inl → List (List Inl)
  | .emph r => [r]
  | .strong r => [r]
  | .link _ _ r => [r]
  | .image _ _ r => [r]
  | _ => []
mutual
def Inl.rows : Inl → Nat
  | .emph r => 1 + rowN r
  | .strong r => 1 + rowN r
  | .link _ _ r => 1 + rowN r
  | .image _ _ r => 1 + rowN r
  | _ => 0
def rowN : List Inl → Nat
  | [] => 0
  | x :: r => 1 + x.rows + rowN r
end
theorem rowN_tot : ∀ r : List Inl, rowN r = r.length + tot (fun r => 1 + rowN r) (r.flatMap Inl.sub)
  | [] => rfl
  | x :: r => by
    have ih := rowN_tot r
    rw [List.flatMap_cons, tot_app]
    have e : x.rows = tot (fun r => 1 + rowN r) x.sub := by cases x <;> rfl
    show 1 + x.rows + rowN r = r.length + 1 + _
    omega
def wordsF : Fold where
  X := Inl
  toD := Inl.toD
  sub := Inl.sub
  N := fun r => 1 + rowN r
  hN := fun r => by rw [rowN_tot r]; omega
  Ok := fun r => (rowW r).length ≤ 1000000
  inh := fun row x r ho hx hr => by
    have := rowW_mem hx
    have e : x.words = rowW r := by
      cases x <;> simp only [Inl.sub, List.mem_singleton, List.not_mem_nil] at hr <;> (subst hr; rfl)
    rw [← e]
    omega
  RR := fun _ v r => v = .str (S (rowW r))
  mono := fun _ _ _ _ _ h => h
mutual
theorem noList_toD : ∀ x : Inl, noList x.toD = true
  | .text t => rfl
  | .code t => rfl
  | .html t => rfl
  | .soft => rfl
  | .hard => rfl
  | .emph r => by
    show (noList (.str "emph") && (noListAll (rowD r) && true)) = true
    rw [noList_row r]
    rfl
  | .strong r => by
    show (noList (.str "strong") && (noListAll (rowD r) && true)) = true
    rw [noList_row r]
    rfl
  | .link d t r => by
    show (noList (.str "link") && (noList (.str (S d)) && (noList (optD t) && (noListAll (rowD r) && true)))) = true
    rw [noList_row r]
    cases t <;> rfl
  | .image d t r => by
    show (noList (.str "image") && (noList (.str (S d)) && (noList (optD t) && (noListAll (rowD r) && true)))) = true
    rw [noList_row r]
    cases t <;> rfl
theorem noList_row : ∀ r : List Inl, noListAll (rowD r) = true
  | [] => rfl
  | x :: r => by
    show (noList x.toD && noListAll (rowD r)) = true
    rw [noList_toD x, noList_row r]
    rfl
end
/-! bounds: at most w in a row, d rows within one another -/
def Leaf : Inl → Prop
  | .text t => t.length ≤ 20 ∧ Sm t
  | .code t => t.length ≤ 20 ∧ Sm t
  | .html t => Sm t
  | .soft => True
  | .hard => True
  | _ => False
def optSm : Option (List Nat) → Prop
  | none => True
  | some t => Sm t
def Bd (w : Nat) : Nat → Inl → Prop
  | 0, x => Leaf x
  | d + 1, x => match x with
    | .emph r => r.length ≤ w ∧ ∀ y ∈ r, Bd w d y
    | .strong r => r.length ≤ w ∧ ∀ y ∈ r, Bd w d y
    | .link g t r => Sm g ∧ optSm t ∧ r.length ≤ w ∧ ∀ y ∈ r, Bd w d y
    | .image g t r => Sm g ∧ optSm t ∧ r.length ≤ w ∧ ∀ y ∈ r, Bd w d y
    | x => Leaf x
theorem Bd.leaf {w d : Nat} {x : Inl} (h : Leaf x) : Bd w d x := by
  cases d with
  | zero => exact h
  | succ d => cases x <;> first | exact h | exact h.elim
theorem Bd.up {w : Nat} : ∀ {d : Nat} {x : Inl}, Bd w d x → Bd w (d + 1) x
  | 0, x, h => .leaf h
  | d + 1, x, h => by
    cases x with
    | emph r => exact ⟨h.1, fun y hy => Bd.up (h.2 y hy)⟩
    | strong r => exact ⟨h.1, fun y hy => Bd.up (h.2 y hy)⟩
    | link g t r => exact ⟨h.1, h.2.1, h.2.2.1, fun y hy => Bd.up (h.2.2.2 y hy)⟩
    | image g t r => exact ⟨h.1, h.2.1, h.2.2.1, fun y hy => Bd.up (h.2.2.2 y hy)⟩
    | _ => exact h
theorem Bd.le {w d e : Nat} {x : Inl} (h : Bd w d x) (l : d ≤ e) : Bd w e x := by
  induction l with
  | refl => exact h
  | step _ ih => exact ih.up
theorem rowW_le {k : Nat} : ∀ {r : List Inl}, (∀ y ∈ r, y.words.length ≤ k) → (rowW r).length ≤ r.length * k
  | [], _ => Nat.zero_le _
  | x :: r, h => by
    show (x.words ++ rowW r).length ≤ (r.length + 1) * k
    rw [List.length_append, Nat.succ_mul]
    have h1 := h x (List.mem_cons_self ..)
    have h2 := rowW_le (r := r) fun y hy => h y (List.mem_cons_of_mem _ hy)
    omega
theorem rowN_le {k : Nat} : ∀ {r : List Inl}, (∀ y ∈ r, y.rows ≤ k) → rowN r ≤ r.length * (1 + k)
  | [], _ => Nat.zero_le _
  | x :: r, h => by
    show 1 + x.rows + rowN r ≤ (r.length + 1) * (1 + k)
    rw [Nat.succ_mul]
    have h1 := h x (List.mem_cons_self ..)
    have h2 := rowN_le (r := r) fun y hy => h y (List.mem_cons_of_mem _ hy)
    omega
def capN (w : Nat) : Nat → Nat
  | 0 => 0
  | d + 1 => 1 + w * (1 + capN w d)
theorem Leaf.words {x : Inl} (h : Leaf x) : x.words.length ≤ 20 := by
  cases x <;> first | exact h.1 | exact h.elim | (show _ ≤ 20; decide) | exact Nat.zero_le _
theorem Leaf.rows {x : Inl} (h : Leaf x) : x.rows = 0 := by
  cases x <;> first | rfl | exact h.elim
theorem Bd.row {w d : Nat} {r : List Inl} {P : Nat} (hl : r.length ≤ w) (hp : (rowW r).length ≤ r.length * P) : (rowW r).length ≤ w * P := Nat.le_trans hp (Nat.mul_le_mul_right _ hl)
theorem Bd.words {w : Nat} (hw : 1 ≤ w) : ∀ {d : Nat} {x : Inl}, Bd w d x → x.words.length ≤ 20 * w ^ d
  | 0, x, h => by
    have := Leaf.words h
    simpa using this
  | d + 1, x, h => by
    have h20 : 20 ≤ 20 * w ^ (d + 1) := Nat.le_mul_of_pos_right _ (Nat.pow_pos (by omega))
    have step : ∀ r : List Inl, r.length ≤ w → (∀ y ∈ r, Bd w d y) → (rowW r).length ≤ 20 * w ^ (d + 1) := fun r hl hr => by
      have h1 := rowW_le (k := 20 * w ^ d) fun y hy => Bd.words hw (hr y hy)
      have h2 := Nat.mul_le_mul_right (20 * w ^ d) hl
      have e : w * (20 * w ^ d) = 20 * w ^ (d + 1) := by rw [Nat.pow_succ, Nat.mul_left_comm, Nat.mul_comm w]
      omega
    cases x with
    | emph r => exact step r h.1 h.2
    | strong r => exact step r h.1 h.2
    | link g t r => exact step r h.2.2.1 h.2.2.2
    | image g t r => exact step r h.2.2.1 h.2.2.2
    | text t => exact Nat.le_trans (Leaf.words h) h20
    | code t => exact Nat.le_trans (Leaf.words h) h20
    | html t => exact Nat.le_trans (Leaf.words h) h20
    | soft => exact Nat.le_trans (Leaf.words (x := .soft) trivial) h20
    | hard => exact Nat.le_trans (Leaf.words (x := .hard) trivial) h20
theorem Bd.rows {w : Nat} : ∀ {d : Nat} {x : Inl}, Bd w d x → x.rows ≤ capN w d
  | 0, x, h => by rw [Leaf.rows h]; exact Nat.zero_le _
  | d + 1, x, h => by
    have step : ∀ r : List Inl, r.length ≤ w → (∀ y ∈ r, Bd w d y) → 1 + rowN r ≤ capN w (d + 1) := fun r hl hr => by
      have h1 := rowN_le (k := capN w d) fun y hy => Bd.rows (hr y hy)
      have h2 := Nat.mul_le_mul_right (1 + capN w d) hl
      show 1 + rowN r ≤ 1 + w * (1 + capN w d)
      omega
    cases x with
    | emph r => exact step r h.1 h.2
    | strong r => exact step r h.1 h.2
    | link g t r => exact step r h.2.2.1 h.2.2.2
    | image g t r => exact step r h.2.2.1 h.2.2.2
    | _ => exact Nat.zero_le _
/-! the data are well shaped -/
theorem optD_lay {t : Option (List Nat)} (h : optSm t) : (optD t).canLay0 = true := by
  cases t with
  | none => rfl
  | some t => exact Sm.ok h
theorem optD_depth (t : Option (List Nat)) : (optD t).depth = 0 := by cases t <;> rfl
theorem layAll : ∀ {r : List Inl}, (∀ y ∈ r, y.toD.canLay0 = true) → PyData.canLayAll0 (rowD r) = true
  | [], _ => rfl
  | x :: r, h => by
    show (x.toD.canLay0 && PyData.canLayAll0 (rowD r)) = true
    rw [h x (List.mem_cons_self ..), layAll fun y hy => h y (List.mem_cons_of_mem _ hy)]
    rfl
theorem depthAll_le {k : Nat} : ∀ {r : List Inl}, (∀ y ∈ r, y.toD.depth ≤ k) → PyData.depthAll (rowD r) ≤ k
  | [], _ => Nat.zero_le _
  | x :: r, h => by
    show max x.toD.depth (PyData.depthAll (rowD r)) ≤ k
    have h1 := h x (List.mem_cons_self ..)
    have h2 := depthAll_le (r := r) fun y hy => h y (List.mem_cons_of_mem _ hy)
    omega
theorem Leaf.lay {x : Inl} (h : Leaf x) : x.toD.canLay0 = true ∧ x.toD.depth ≤ 1 := by
  cases x with
  | text t => exact ⟨by show (PyData.strOk "text" && (PyData.strOk (S t) && true)) = true; rw [h.2.ok]; decide +kernel, Nat.le_refl _⟩
  | code t => exact ⟨by show (PyData.strOk "code" && (PyData.strOk (S t) && true)) = true; rw [h.2.ok]; decide +kernel, Nat.le_refl _⟩
  | html t => exact ⟨by show (PyData.strOk "html" && (PyData.strOk (S t) && true)) = true; rw [Sm.ok h]; decide +kernel, Nat.le_refl _⟩
  | soft => exact ⟨by show (PyData.strOk "soft" && true) = true; decide +kernel, Nat.le_refl _⟩
  | hard => exact ⟨by show (PyData.strOk "hard" && true) = true; decide +kernel, Nat.le_refl _⟩
  | _ => exact h.elim
theorem Bd.lay {w : Nat} : ∀ {d : Nat} {x : Inl}, Bd w d x → x.toD.canLay0 = true ∧ x.toD.depth ≤ 2 * d + 1
  | 0, x, h => Leaf.lay h
  | d + 1, x, h => by
    have step : ∀ r : List Inl, (∀ y ∈ r, Bd w d y) → PyData.canLayAll0 (rowD r) = true ∧ PyData.depthAll (rowD r) ≤ 2 * d + 1 := fun r hr =>
      ⟨layAll fun y hy => (Bd.lay (hr y hy)).1, depthAll_le fun y hy => (Bd.lay (hr y hy)).2⟩
    have two : ∀ (z : Str) (r : List Inl), PyData.strOk z = true → (∀ y ∈ r, Bd w d y) → (PyData.tuple [.str z, .tuple (rowD r)]).canLay0 = true ∧ (PyData.tuple [.str z, .tuple (rowD r)]).depth ≤ 2 * (d + 1) + 1 := fun z r hz hr => by
      obtain ⟨h1, h2⟩ := step r hr
      constructor
      · show (PyData.strOk z && (PyData.canLayAll0 (rowD r) && true)) = true
        rw [hz, h1]
        rfl
      · show max 0 (max (PyData.depthAll (rowD r) + 1) 0) + 1 ≤ 2 * (d + 1) + 1
        omega
    have four : ∀ (z : Str) (g : List Nat) (t : Option (List Nat)) (r : List Inl), PyData.strOk z = true → Sm g → optSm t → (∀ y ∈ r, Bd w d y) → (PyData.tuple [.str z, .str (S g), optD t, .tuple (rowD r)]).canLay0 = true ∧ (PyData.tuple [.str z, .str (S g), optD t, .tuple (rowD r)]).depth ≤ 2 * (d + 1) + 1 := fun z g t r hz hg ht hr => by
      obtain ⟨h1, h2⟩ := step r hr
      constructor
      · show (PyData.strOk z && (PyData.strOk (S g) && ((optD t).canLay0 && (PyData.canLayAll0 (rowD r) && true)))) = true
        rw [hz, hg.ok, optD_lay ht, h1]
        rfl
      · show max 0 (max 0 (max (optD t).depth (max (PyData.depthAll (rowD r) + 1) 0))) + 1 ≤ 2 * (d + 1) + 1
        rw [optD_depth]
        omega
    have lf : Leaf x → x.toD.canLay0 = true ∧ x.toD.depth ≤ 2 * (d + 1) + 1 := fun h => ⟨(Leaf.lay h).1, Nat.le_trans (Leaf.lay h).2 (by omega)⟩
    cases x with
    | emph r => exact two "emph" r (by decide +kernel) h.2
    | strong r => exact two "strong" r (by decide +kernel) h.2
    | link g t r => exact four "link" g t r (by decide +kernel) h.1 h.2.1 h.2.2.2
    | image g t r => exact four "image" g t r (by decide +kernel) h.1 h.2.1 h.2.2.2
    | text t => exact lf h
    | code t => exact lf h
    | html t => exact lf h
    | soft => exact lf trivial
    | hard => exact lf trivial
end IM

namespace K17
open PySem PySem.Spec PyProof.Rows L2 My IM
def topS (i : Nat) : Stmt := PySem.Challenge.pw_plainmark_k17_escaped_and_words.main.body.getD i (.Pass ⟨0, 0, 0, 0⟩)
abbrev s_rows_in_inline : Stmt := topS 1
abbrev s_folded : Stmt := topS 2
abbrev s_escaped : Stmt := topS 4
abbrev s_words : Stmt := topS 5
abbrev s_row_words : Stmt := topS 6
abbrev s_words_of_inline : Stmt := topS 7
abbrev s__law_well : Stmt := topS 9
abbrev s__law_draw : Stmt := topS 10
abbrev s__law_one : Stmt := topS 11
abbrev s__law_string : Stmt := topS 12
abbrev s__law_target : Stmt := topS 13
abbrev s__law_inline : Stmt := topS 14
abbrev s__law_row : Stmt := topS 15
abbrev s__law_escaped : Stmt := topS 16
abbrev s__law_chain : Stmt := topS 17
abbrev s__law_gathered : Stmt := topS 18
abbrev s_law : Stmt := topS 19
theorem sc_rows_in_inline : FnScope ["inline"] ["inline"] (defScope s_rows_in_inline) := ⟨rfl, rfl, rfl, by decide +kernel, rfl, by decide +kernel, by decide +kernel⟩
theorem sc_folded : FnScope ["row", "rows_in", "made", "rows", "places", "numbers", "current", "one", "begin", "results", "number", "inner", "end"] ["row", "rows_in", "made"] (defScope s_folded) := ⟨rfl, rfl, rfl, by decide +kernel, rfl, by decide +kernel, by decide +kernel⟩
theorem sc_escaped : FnScope ["text"] ["text"] (defScope s_escaped) := ⟨rfl, rfl, rfl, by decide +kernel, rfl, by decide +kernel, by decide +kernel⟩
theorem sc_words : FnScope ["row"] ["row"] (defScope s_words) := ⟨rfl, rfl, rfl, by decide +kernel, rfl, by decide +kernel, by decide +kernel⟩
theorem sc_row_words : FnScope ["row", "inner", "inline", "rows"] ["row", "inner"] (defScope s_row_words) := ⟨rfl, rfl, rfl, by decide +kernel, rfl, by decide +kernel, by decide +kernel⟩
theorem sc_words_of_inline : FnScope ["inline", "rows", "word"] ["inline", "rows"] (defScope s_words_of_inline) := ⟨rfl, rfl, rfl, by decide +kernel, rfl, by decide +kernel, by decide +kernel⟩
theorem sc__law_well : FnScope ["_law_cell"] ["_law_cell"] (defScope s__law_well) := ⟨rfl, rfl, rfl, by decide +kernel, rfl, by decide +kernel, by decide +kernel⟩
theorem sc__law_draw : FnScope ["_law_well_here", "_law_many", "_law_digit", "_law_number", "_law_more"] ["_law_well_here", "_law_many"] (defScope s__law_draw) := ⟨rfl, rfl, rfl, by decide +kernel, rfl, by decide +kernel, by decide +kernel⟩
theorem sc__law_one : FnScope ["_law_well_here", "_law_some"] ["_law_well_here", "_law_some"] (defScope s__law_one) := ⟨rfl, rfl, rfl, by decide +kernel, rfl, by decide +kernel, by decide +kernel⟩
theorem sc__law_string : FnScope ["_law_well_here", "_law_most", "_law_signs", "_law_k"] ["_law_well_here", "_law_most"] (defScope s__law_string) := ⟨rfl, rfl, rfl, by decide +kernel, rfl, by decide +kernel, by decide +kernel⟩
theorem sc__law_target : FnScope ["_law_well_here", "_law_goal"] ["_law_well_here"] (defScope s__law_target) := ⟨rfl, rfl, rfl, by decide +kernel, rfl, by decide +kernel, by decide +kernel⟩
theorem sc__law_inline : FnScope ["_law_well_here", "_law_deep", "_law_is_linked", "_law_has_html", "_law_way", "_law_goal", "_law_title"] ["_law_well_here", "_law_deep", "_law_is_linked", "_law_has_html"] (defScope s__law_inline) := ⟨rfl, rfl, rfl, by decide +kernel, rfl, by decide +kernel, by decide +kernel⟩
theorem sc__law_row : FnScope ["_law_well_here", "_law_deep", "_law_is_linked", "_law_has_html", "_law_found", "_law_k", "_law_one_here"] ["_law_well_here", "_law_deep", "_law_is_linked", "_law_has_html"] (defScope s__law_row) := ⟨rfl, rfl, rfl, by decide +kernel, rfl, by decide +kernel, by decide +kernel⟩
theorem sc__law_escaped : FnScope ["_law_piece", "_law_found", "_law_sign"] ["_law_piece"] (defScope s__law_escaped) := ⟨rfl, rfl, rfl, by decide +kernel, rfl, by decide +kernel, by decide +kernel⟩
theorem sc__law_chain : FnScope ["_law_well_here", "_law_one_here", "_law_turn", "_law_way"] ["_law_well_here"] (defScope s__law_chain) := ⟨rfl, rfl, rfl, by decide +kernel, rfl, by decide +kernel, by decide +kernel⟩
theorem sc__law_gathered : FnScope ["_law_some", "_law_found", "_law_one_here"] ["_law_some"] (defScope s__law_gathered) := ⟨rfl, rfl, rfl, by decide +kernel, rfl, by decide +kernel, by decide +kernel⟩
theorem sc_law : FnScope ["_law_script", "_law_cell", "_law_well_here", "_law_turn", "_law_one_here", "_law_other", "_law_some", "_law_more", "_law_deep"] ["_law_script"] (defScope s_law) := ⟨rfl, rfl, rfl, by decide +kernel, rfl, by decide +kernel, by decide +kernel⟩
structure Txt (K : PySem.W.Frag) (mg : Str → Option Value) where
  a_rows_in_inline : Addr
  d_rows_in_inline : FuncData
  f_rows_in_inline : Fun K "rows_in_inline" "rows_in_inline" s_rows_in_inline a_rows_in_inline d_rows_in_inline
  g_rows_in_inline : mg "rows_in_inline" = some (.ref a_rows_in_inline)
  b_rows_in_inline : Binds K d_rows_in_inline ["inline"] []
  a_folded : Addr
  d_folded : FuncData
  f_folded : Fun K "folded" "folded" s_folded a_folded d_folded
  g_folded : mg "folded" = some (.ref a_folded)
  b_folded : Binds K d_folded ["row", "rows_in", "made"] []
  a_escaped : Addr
  d_escaped : FuncData
  f_escaped : Fun K "escaped" "escaped" s_escaped a_escaped d_escaped
  g_escaped : mg "escaped" = some (.ref a_escaped)
  b_escaped : Binds K d_escaped ["text"] []
  a_words : Addr
  d_words : FuncData
  f_words : Fun K "words" "words" s_words a_words d_words
  g_words : mg "words" = some (.ref a_words)
  b_words : Binds K d_words ["row"] []
  a_row_words : Addr
  d_row_words : FuncData
  f_row_words : Fun K "row_words" "row_words" s_row_words a_row_words d_row_words
  g_row_words : mg "row_words" = some (.ref a_row_words)
  b_row_words : Binds K d_row_words ["row", "inner"] []
  a_words_of_inline : Addr
  d_words_of_inline : FuncData
  f_words_of_inline : Fun K "words_of_inline" "words_of_inline" s_words_of_inline a_words_of_inline d_words_of_inline
  g_words_of_inline : mg "words_of_inline" = some (.ref a_words_of_inline)
  b_words_of_inline : Binds K d_words_of_inline ["inline", "rows"] []
  a__law_well : Addr
  d__law_well : FuncData
  f__law_well : Fun K "_law_well" "_law_well" s__law_well a__law_well d__law_well
  g__law_well : mg "_law_well" = some (.ref a__law_well)
  b__law_well : Binds K d__law_well ["_law_cell"] []
  a__law_draw : Addr
  d__law_draw : FuncData
  f__law_draw : Fun K "_law_draw" "_law_draw" s__law_draw a__law_draw d__law_draw
  g__law_draw : mg "_law_draw" = some (.ref a__law_draw)
  b__law_draw : Binds K d__law_draw ["_law_well_here", "_law_many"] []
  a__law_one : Addr
  d__law_one : FuncData
  f__law_one : Fun K "_law_one" "_law_one" s__law_one a__law_one d__law_one
  g__law_one : mg "_law_one" = some (.ref a__law_one)
  b__law_one : Binds K d__law_one ["_law_well_here", "_law_some"] []
  a__law_string : Addr
  d__law_string : FuncData
  f__law_string : Fun K "_law_string" "_law_string" s__law_string a__law_string d__law_string
  g__law_string : mg "_law_string" = some (.ref a__law_string)
  b__law_string : Binds K d__law_string ["_law_well_here", "_law_most"] []
  a__law_target : Addr
  d__law_target : FuncData
  f__law_target : Fun K "_law_target" "_law_target" s__law_target a__law_target d__law_target
  g__law_target : mg "_law_target" = some (.ref a__law_target)
  b__law_target : Binds K d__law_target ["_law_well_here"] []
  a__law_inline : Addr
  d__law_inline : FuncData
  f__law_inline : Fun K "_law_inline" "_law_inline" s__law_inline a__law_inline d__law_inline
  g__law_inline : mg "_law_inline" = some (.ref a__law_inline)
  b__law_inline : Binds K d__law_inline ["_law_well_here", "_law_deep", "_law_is_linked", "_law_has_html"] []
  a__law_row : Addr
  d__law_row : FuncData
  f__law_row : Fun K "_law_row" "_law_row" s__law_row a__law_row d__law_row
  g__law_row : mg "_law_row" = some (.ref a__law_row)
  b__law_row : Binds K d__law_row ["_law_well_here", "_law_deep", "_law_is_linked", "_law_has_html"] []
  a__law_escaped : Addr
  d__law_escaped : FuncData
  f__law_escaped : Fun K "_law_escaped" "_law_escaped" s__law_escaped a__law_escaped d__law_escaped
  g__law_escaped : mg "_law_escaped" = some (.ref a__law_escaped)
  b__law_escaped : Binds K d__law_escaped ["_law_piece"] []
  a__law_chain : Addr
  d__law_chain : FuncData
  f__law_chain : Fun K "_law_chain" "_law_chain" s__law_chain a__law_chain d__law_chain
  g__law_chain : mg "_law_chain" = some (.ref a__law_chain)
  b__law_chain : Binds K d__law_chain ["_law_well_here"] []
  a__law_gathered : Addr
  d__law_gathered : FuncData
  f__law_gathered : Fun K "_law_gathered" "_law_gathered" s__law_gathered a__law_gathered d__law_gathered
  g__law_gathered : mg "_law_gathered" = some (.ref a__law_gathered)
  b__law_gathered : Binds K d__law_gathered ["_law_some"] []
  z_int : mg "int" = none
  z_len : mg "len" = none
  z_range : mg "range" = none
  z_reversed : mg "reversed" = none
  z_tuple : mg "tuple" = none
  z_zip : mg "zip" = none
/-! ### folded -/
def sp_folded (K : PySem.W.Frag) (S : Addr → Sp → Prop) : Sp := fun vs H Q _ => ∃ (F : Fold) (v : V) (f g : Addr) (spf spg : Sp) (row : List F.X) (G : Hp), vs = [v, .ref f, .ref g] ∧ S f spf ∧ S g spg ∧ InOk K F spf ∧ MadeOk K F spg ∧
  Same G H ∧ RowIs K F G v row ∧ F.Ok row ∧ F.N row ≤ 100000 ∧ ∀ r H' G', Same H H' → Same G G' → Same G' H' → NewIn G G' H → F.RR G' r row → Q r H'
theorem small62 {n : Nat} (h : n ≤ 100000) : ((n : Nat) : Int) < 2 ^ 62 ∧ -(2 ^ 62) ≤ ((n : Nat) : Int) := by
  constructor <;> omega
theorem ok_folded {P : Program} {w : World} {K : PySem.W.Frag} {mg : Str → Option Value} {base : Heap} (T : Txt K mg) (S : Addr → Sp → Prop) (A1 : ∀ f sp, S f sp → Held P w K mg base 3 f sp) :
    FnOk P w K mg base CX0 4 T.a_folded T.d_folded ["row", "rows_in", "made"] (sp_folded K S) := by
  have A2 := A1
  refine T.f_folded.ok sc_folded (fun vs H Q E h => ?_) (fun cdv A outer s H vs Q E hr h => ?_)
  · obtain ⟨F, v, f, g, spf, spg, row, G, rfl, _⟩ := h
    rfl
  · obtain ⟨F, v, f, g, spf, spg, row0, G, rfl, hSf, hSg, hIn, hMade, hG, hrow, hok, hN, q⟩ := h
    refine ⟨_, (pss_cons (ps_set (i := 3) sc_folded.nd rfl (.inl rfl) (pe_lst (pa_cons (pv 0) pa_nil)))
        (pss_cons (ps_set (i := 4) sc_folded.nd rfl (.inl rfl) (pe_lst pa_nil))
        (pss_cons (ps_while PassesOwn.never (pt_cmpR op_lt (pe_callB call_len_seq (by rfl) T.z_len PySem.boot_len (pa_cons (pv 4) pa_nil)) (pe_callB call_len_seq (by rfl) T.z_len PySem.boot_len (pa_cons (pv 3) pa_nil)) (nomark _)) (pss_cons (ps_set (i := 5) sc_folded.nd rfl (.inl rfl) (pe_lst pa_nil))
        (pss_cons (ps_set (i := 6) sc_folded.nd rfl (.inl rfl) (pe_ix ix_list (pv 3) (pe_callB call_len_seq (by rfl) T.z_len PySem.boot_len (pa_cons (pv 4) pa_nil)) (fun _ _ => rfl)))
        (pss_cons (ps_for PassesOwn.never rfl (pi_tup (pv 6)) (pg_name (i := 7) sc_folded.nd rfl (.inl rfl)) (pss_cons (ps_set (i := 8) sc_folded.nd rfl (.inl rfl) (pe_callB call_len_seq (by rfl) T.z_len PySem.boot_len (pa_cons (pv 3) pa_nil)))
        (pss_cons (ps_expr (pe_bm PySem.F.plainAttrs_list PySem.F.slot_list_extend PySem.F.type_list_extend mt_extend (pv 3) (pa_cons (pe_callR A1 (hr.mono (by decide)) (i := 1) rfl (.inl rfl) (pa_cons (pv 7) pa_nil)) pa_nil)))
        (pss_one (ps_expr (pe_bm PySem.F.plainAttrs_list PySem.F.slot_list_append PySem.F.type_list_append mt_append (pv 5) (pa_cons (pe_tup (pa_cons (pv 8) (pa_cons (pe_callB call_len_seq (by rfl) T.z_len PySem.boot_len (pa_cons (pv 3) pa_nil)) pa_nil))) pa_nil)))))))
        (pss_one (ps_expr (pe_bm PySem.F.plainAttrs_list PySem.F.slot_list_append PySem.F.type_list_append mt_append (pv 4) (pa_cons (pv 5) pa_nil))))))))
        (pss_cons (ps_set (i := 9) sc_folded.nd rfl (.inr rfl) (pe_op op_rep (pe_lst (pa_cons pe_non pa_nil)) (pe_callB call_len_seq (by rfl) T.z_len PySem.boot_len (pa_cons (pv 3) pa_nil))))
        (pss_cons (ps_for PassesOwn.never rfl (pi_revR (by rfl) T.z_reversed (prg_1 (by rfl) T.z_range (pe_callB call_len_seq (by rfl) T.z_len PySem.boot_len (pa_cons (pv 3) pa_nil)))) (pg_name (i := 10) sc_folded.nd rfl (.inl rfl)) (pss_cons (ps_setLc (i := 11) (own := [("begin", 8), ("end", 12)]) (g := (gTup K 2 (gCons (gName 8) (gCons (gName 12) gNil)))) (tt := tYes) (by rfl) sc_folded.nd rfl rfl (sw_true rfl rfl rfl (by decide +kernel)) (pi_list (pe_ix ix_list (pv 4) (pv 10) (fun _ _ => rfl))) (blkOk_by (own := [("begin", 8), ("end", 12)]) (N := ["row", "rows_in", "made", "rows", "places", "numbers", "current", "one", "begin", "results", "number", "inner", "end"]) (sc := defScope s_folded) (by decide +kernel)) (fun _ _ _ _ _ => (pg_tup (by rfl) (pgs_cons (pg_name (i := 8) sc_folded.nd rfl (.inl rfl)) (pgs_cons (pg_name (i := 12) sc_folded.nd rfl (.inl rfl)) pgs_nil)))) (fun _ _ _ _ _ => pts_nil) (fun _ _ _ _ _ => (pe_slice (show SlR _ (rSlL K) from sl_list) (pv 9) (po_some (pv 8)) (po_some (pv 12)))))
        (pss_one (ps_asg (pe_callR A2 (hr.mono (by decide)) (i := 2) rfl (.inl rfl) (pa_cons (pe_ix ix_list (pv 3) (pv 10) (fun _ _ => rfl)) (pa_cons (pv 11) pa_nil))) (pg_sub (pv 9) (pv 10) set_list)))))
        (pss_one (ps_ret (pe_ix ix_list (pv 9) pe_int (fun _ _ => rfl))))))))), ?_⟩
    refine ⟨_, rfl, (by show 1 ≤ sizeLine; decide), fun R nR => ⟨(by show 0 ≤ sizeLine; decide), fun Pl nP => ?_⟩⟩
    have hRP : R ≠ Pl := ne_of_none upd_same nP
    have nP0 : H Pl = none := by
      rw [upd_ne hRP.symm] at nP
      exact nP
    have gR : G R = none := hG.free nR
    have gP : G Pl = none := hG.free nP0
    have hlen0 : ∀ rs : List (List F.X), ∀ k, k + tot F.N (rs.drop k) ≤ F.N row0 → k ≤ rs.length → rs.length ≤ 100000 := fun rs k e hk => by
      have := tot_len (F := F) (rs.drop k)
      rw [List.length_drop] at this
      omega
    refine ⟨fun m σ H' => ∃ rws rs pvs ps a5 a6 a7 a8, σ = [some v, some (.ref f), some (.ref g), some (.ref R), some (.ref Pl), a5, a6, a7, a8, none, none, none, none] ∧ Same H H' ∧ H' R = some (.lst rws) ∧ H' Pl = some (.lst pvs) ∧
      All2 (RowIs K F G) rws rs ∧ All2 (NumIs (Rest H' [R, Pl])) pvs ps ∧ Gone F rs ps ∧ (∀ r ∈ rs, F.Ok r ∧ r.length ≤ 100000) ∧ rs[0]? = some row0 ∧ ps.length + tot F.N (rs.drop ps.length) ≤ F.N row0 ∧ m = tot F.N (rs.drop ps.length), ⟨F.N row0, ?_⟩, ?_⟩
    · refine ⟨[v], [row0], [], [], none, none, none, none, rfl, (same_new nR).trans (same_new nP), by rw [upd_ne hRP]; exact upd_same, upd_same, .one hrow, .nil, ⟨Nat.zero_le _, fun j r pj _ h => by simp at h⟩, fun r hr => ?_, rfl, ?_, ?_⟩
      · rw [List.mem_singleton] at hr
        rw [hr]
        exact ⟨hok, by have := F.hN row0; omega⟩
      · show 0 + (F.N row0 + 0) ≤ F.N row0
        omega
      · show F.N row0 = F.N row0 + 0
        omega
    · rintro m σ H1 ⟨rws, rs, pvs, ps, a5, a6, a7, a8, rfl, s1, hR, hP, aR, aP, gone, oks, h0, hM, rfl⟩
      have hlen := hlen0 rs _ hM gone.le
      have l1 := aR.1
      have l2 := aP.1
      refine ⟨_, rfl, Pl, pvs, rfl, .inl (SqL.of hP), _, rfl, R, rws, rfl, .inl (SqL.of hR), _, _, rfl, rfl, _, rfl, ite2 (fun c => ?_) (fun c => ?_)⟩
      · -- one more row
        have hlt : ps.length < rs.length := by
          have := of_decide_eq_true c
          omega
        obtain ⟨row, hrow1⟩ : ∃ row, rs[ps.length]? = some row := ⟨_, List.getElem?_eq_getElem hlt⟩
        obtain ⟨wv, hwv, rowIs⟩ := aR.get hrow1
        have okr : F.Ok row := (oks row (List.mem_of_getElem? hrow1)).1
        obtain ⟨a, us, rfl, sqa, dps⟩ := rowIs
        have left := Gone.left hrow1
        let rs0 := rs
        refine ⟨fun σ' H' => ∃ rws rs pvs ps' a5 a6 a7 a8, σ' = [some v, some (.ref f), some (.ref g), some (.ref R), some (.ref Pl), a5, a6, a7, a8, none, none, none, none] ∧ Same H H' ∧ H' R = some (.lst rws) ∧ H' Pl = some (.lst pvs) ∧
          All2 (RowIs K F G) rws rs ∧ All2 (NumIs (Rest H' [R, Pl])) pvs ps' ∧ Gone F rs ps' ∧ (∀ r ∈ rs, F.Ok r ∧ r.length ≤ 100000) ∧ rs[0]? = some row0 ∧ ps'.length + tot F.N (rs.drop ps'.length) ≤ F.N row0 ∧ tot F.N (rs.drop ps'.length) < tot F.N (rs0.drop ps.length), ?_, ?_⟩
        · rintro σ' H' ⟨rws, rs', pvs, ps', a5, a6, a7, a8, e1, e2, e3, e4, e5, e6, e7, e8, e9, e10, e11⟩
          exact ⟨_, e11, rws, rs', pvs, ps', a5, a6, a7, a8, e1, e2, e3, e4, e5, e6, e7, e8, e9, e10, rfl⟩
        · refine ⟨(by show 0 ≤ sizeLine; decide), fun n nn => ?_⟩
          have hnR : n ≠ R := (ne_of_none hR nn).symm
          have hnP : n ≠ Pl := (ne_of_none hP nn).symm
          have gn : G n = none := (hG.trans s1).free nn
          refine ⟨_, rfl, _, rfl, Pl, pvs, rfl, .inl (SqL.of (by rw [upd_ne hnP.symm]; exact hP)), R, rws, _, _, rfl, rfl, SqL.of (by rw [upd_ne hnR.symm]; exact hR), atI_nat (by rw [l2]; exact hwv), ?_⟩
          refine ⟨_, rfl, a, rfl, ⟨us, same_tup (hG.trans (s1.trans (same_new nn))) sqa⟩, ?_⟩
          refine for_tup (xs := us) (fun i σ' H' => ∃ rws' ts nums b7 b8, σ' = [some v, some (.ref f), some (.ref g), some (.ref R), some (.ref Pl), some (.ref n), some (.ref a), b7, b8, none, none, none, none] ∧ Keeps R H1 H' ∧ H' R = some (.lst rws') ∧ H' n = some (.lst ts) ∧
            All2 (RowIs K F G) rws' (rs ++ (row.take i).flatMap F.sub) ∧ All2 (PairAt (Rest H' [R, Pl, n])) ts nums ∧ All2 (PlaceOk F (rs ++ (row.take i).flatMap F.sub) ps.length) (row.take i) nums) ?_ ?_ ?_ ?_
          · refine ⟨rws, [], [], a7, a8, rfl, .of (same_new nn), by rw [upd_ne hnR.symm]; exact hR, upd_same, ?_, .nil, .nil⟩
            rw [List.take_zero, List.flatMap_nil, List.append_nil]
            exact aR
          · rintro i σ' H2 _ ⟨rws', ts, nums, b7, b8, rfl, kp, _⟩
            exact same_tup (keeps_same kp (hG.trans s1) gR) sqa
          · rintro i x σ' H2 hx ⟨rws', ts, nums, b7, b8, rfl, kp, hR2, hn2, aR2, aN2, aP2⟩
            have hi : i < row.length := by rw [← dps.1]; exact (List.getElem?_eq_some_iff.mp hx).1
            obtain ⟨y, hy⟩ : ∃ y, row[i]? = some y := ⟨_, List.getElem?_eq_getElem hi⟩
            have dx : Dp K G x (F.toD y) := dps.2 i x y hx hy
            have sG2 : Same G H2 := keeps_same kp (hG.trans s1) gR
            have lR2 := aR2.1
            have small : (rs ++ (row.take (i + 1)).flatMap F.sub).length ≤ 100000 := by
              have h1 := tot_len (F := F) ((rs ++ row.flatMap F.sub).drop (ps.length + 1))
              have h2 : ((row.take (i + 1)).flatMap F.sub).length ≤ (row.flatMap F.sub).length := by
                conv => rhs; rw [← List.take_append_drop (i + 1) row, List.flatMap_append]
                simp
              rw [List.length_drop] at h1
              rw [List.length_append] at h1 ⊢
              omega
            have et : (row.take (i + 1)).flatMap F.sub = (row.take i).flatMap F.sub ++ F.sub y := by
              rw [List.take_add_one, hy, List.flatMap_append]
              simp
            rw [et, ← List.append_assoc] at small
            refine ⟨_, rfl, R, rws', rfl, .inl (SqL.of hR2), ?_⟩
            refine ⟨_, rfl, .inl ⟨rfl, _, SqL.of hR2⟩, f, spf, rfl, hSf, _, rfl, hIn G H2 x y _ sG2 dx fun p H3 zs s3 np hp az => ?_⟩
            have lz := az.1
            have ll : (rws' ++ zs).length ≤ 100000 := by
              rw [List.length_append, lR2, lz, ← List.length_append]
              exact small
            refine ⟨R, p, rws', zs, rfl, rfl, s3 _ _ hR2, hp, Nat.le_trans (by rw [← List.length_append]; exact ll) (by decide), ?_⟩
            have hnR2 : n ≠ R := hnR
            have hn3 : (upd H3 R (.lst (rws' ++ zs))) n = some (.lst ts) := by
              rw [upd_ne hnR]
              exact s3 _ _ hn2
            refine ⟨_, rfl, .inl ⟨rfl, _, SqL.of hn3⟩, _, rfl, _, rfl, R, _, rfl, .inl (SqL.of upd_same), (by show 2 ≤ sizeLine; decide), fun t nt => ?_⟩
            have tR : t ≠ R := (ne_of_none upd_same nt).symm
            have tn : t ≠ n := (ne_of_none hn3 nt).symm
            have kp3 : Keeps R H1 (upd (upd H3 R (.lst (rws' ++ zs))) t (.tup [.int (rws'.length : Nat), .int ((rws' ++ zs).length : Nat)])) := (kp.trans (.of s3)).trans (Keeps.at.trans (.of (same_new nt)))
            have hR4 : (upd (upd H3 R (.lst (rws' ++ zs))) t (.tup [.int (rws'.length : Nat), .int ((rws' ++ zs).length : Nat)])) R = some (.lst (rws' ++ zs)) := by
              rw [upd_ne tR.symm]
              exact upd_same
            have ht4 : (upd (upd H3 R (.lst (rws' ++ zs))) t (.tup [.int (rws'.length : Nat), .int ((rws' ++ zs).length : Nat)])) t = some (.tup [.int (rws'.length : Nat), .int ((rws' ++ zs).length : Nat)]) := upd_same
            have hn4 : (upd (upd H3 R (.lst (rws' ++ zs))) t (.tup [.int (rws'.length : Nat), .int ((rws' ++ zs).length : Nat)])) n = some (.lst ts) := by
              rw [upd_ne tn.symm]
              exact hn3
            have s4 : Same (upd H3 R (.lst (rws' ++ zs))) (upd (upd H3 R (.lst (rws' ++ zs))) t (.tup [.int (rws'.length : Nat), .int ((rws' ++ zs).length : Nat)])) := same_new nt
            have kp2 : Keeps R H1 (upd H3 R (.lst (rws' ++ zs))) := (kp.trans (.of s3)).trans Keeps.at
            have tP : t ≠ Pl := (ne_of_none (kp2 _ _ hRP.symm hP) nt).symm
            generalize (upd (upd H3 R (.lst (rws' ++ zs))) t (.tup [.int (rws'.length : Nat), .int ((rws' ++ zs).length : Nat)])) = H4 at kp3 hR4 ht4 hn4 s4 ⊢
            have tsl : ts.length ≤ 100000 := by
              rw [aN2.1, ← aP2.1, List.length_take]
              omega
            refine ⟨n, ts, _, rfl, rfl, hn4, Nat.lt_of_le_of_lt tsl (by decide), ?_⟩
            refine ⟨rws' ++ zs, ts ++ [.ref t], nums ++ [(rws'.length, (rws' ++ zs).length)], _, _, rfl, ?_, ?_, upd_same, ?_, ?_, ?_⟩
            · exact fun b o hb e => by
                rw [upd_ne (ne_of_none e nn)]
                exact kp3 b o hb e
            · rw [upd_ne hnR.symm]
              exact hR4
            · rw [et, ← List.append_assoc]
              exact aR2.app az
            · rw [rest_upd (by simp)]
              refine (aN2.mono fun _ _ p => p.same ?_).app (.one ⟨t, rfl, ?_⟩)
              · refine same_rest (fun b o e => ?_) fun _ h => rest_in h
                have hb : b ∉ [R, Pl, n] := fun z => by rw [rest_in z] at e; cases e
                rw [rest_out hb] at e
                have hbR : b ≠ R := fun z => hb (by rw [z]; simp)
                have e3 : (upd H3 R (.lst (rws' ++ zs))) b = some o := by
                  rw [upd_ne hbR]
                  exact s3 _ _ e
                exact s4 _ _ e3
              · rw [rest_out (by simp [tR, tP, tn])]
                exact ht4
            · rw [et, ← List.append_assoc, List.take_add_one, hy]
              refine (aP2.mono fun _ _ p => p.app).app (.one ?_)
              have hp : PlaceOk F ((rs ++ (row.take i).flatMap F.sub) ++ F.sub y) ps.length y ((rs ++ (row.take i).flatMap F.sub).length, (rs ++ (row.take i).flatMap F.sub).length + (F.sub y).length) := .new (by rw [List.length_append]; omega)
              rw [List.length_append, lz, lR2]
              exact hp
          · rintro σ' H2 ⟨rws', ts, nums, b7, b8, rfl, kp, hR2, hn2, aR2, aN2, aP2⟩
            have ful : row.take us.length = row := by rw [dps.1]; exact List.take_length
            rw [ful] at aR2 aP2
            have hP2 : H2 Pl = some (.lst pvs) := kp _ _ hRP.symm hP
            have pl : pvs.length ≤ 100000 := by omega
            refine ⟨_, rfl, .inl ⟨rfl, _, SqL.of hP2⟩, _, rfl, Pl, pvs, _, rfl, rfl, hP2, Nat.lt_of_le_of_lt pl (by decide), ?_⟩
            refine ⟨rws', rs ++ row.flatMap F.sub, pvs ++ [.ref n], ps ++ [nums], some (.ref n), some (.ref a), b7, b8, rfl, ?_, ?_, upd_same, aR2, ?_, gone.step hrow1 aP2, fun r hr => ?_, ?_, ?_, ?_⟩
            · exact fun b o e => by
                rw [upd_ne (ne_of_none e nP0)]
                exact keeps_same kp s1 nR _ _ e
            · rw [upd_ne hRP]
              exact hR2
            · rw [rest_upd (by simp)]
              refine (aP.mono fun _ _ p => p.same (keeps_rest kp (by simp))).app (.one ⟨n, ts, rfl, ?_, ?_⟩)
              · rw [rest_out (by simp [hnR, hnP])]
                exact hn2
              · exact aN2.mono fun _ _ p => p.same (rest_less (by simp))
            · rcases List.mem_append.mp hr with hr | hr
              · exact oks r hr
              · obtain ⟨x, hx, hr⟩ := List.mem_flatMap.mp hr
                refine ⟨F.inh row x r okr hx hr, ?_⟩
                have h1 := tot_mem (F := F) (List.mem_flatMap.mpr ⟨x, hx, hr⟩)
                have h2 := F.hN r
                have h3 := F.hN row
                have h4 := tot_mem (F := F) (rs := rs.drop ps.length) (r := row) (List.mem_of_getElem? (i := 0) (by rw [List.getElem?_drop]; exact hrow1))
                omega
            · rw [List.getElem?_append_left (by omega)]
              exact h0
            · rw [List.length_append]
              show ps.length + 1 + tot F.N ((rs ++ row.flatMap F.sub).drop (ps.length + 1)) ≤ F.N row0
              omega
            · rw [List.length_append]
              show tot F.N ((rs ++ row.flatMap F.sub).drop (ps.length + 1)) < tot F.N (rs.drop ps.length)
              omega
      · -- all rows are gone through
        have full : ps.length = rs.length := by
          have := gone.le
          have : ¬ (pvs.length < rws.length) := fun z => c (decide_eq_true (by omega))
          omega
        obtain ⟨hn1, hn2⟩ := small62 hlen
        refine ⟨(by show 1 ≤ sizeLine; decide), fun q0 nq0 => ⟨_, rfl, R, rws, rfl, .inl (SqL.of ((same_new nq0) _ _ hR)), q0, _, [.non], rfl, rfl, upd_same, by omega, by omega, ?_, fun Z nZ => ?_⟩⟩
        · rw [List.length_singleton, Nat.one_mul, sizeLine_eq]
          omega
        rw [flat_one, Int.toNat_natCast]
        have s2 : Same H1 (upd (upd H1 q0 (.lst [.non])) Z (.lst (List.replicate rws.length .non))) := (same_new nq0).trans (same_new nZ)
        have hZ0 : (upd (upd H1 q0 (.lst [.non])) Z (.lst (List.replicate rws.length V.non))) Z = some (.lst (List.replicate rws.length .non)) := upd_same
        have nZ1 : H1 Z = none := (same_new nq0).free nZ
        generalize (upd (upd H1 q0 (.lst [.non])) Z (.lst (List.replicate rws.length V.non))) = H2 at s2 hZ0 ⊢
        have hZR : Z ≠ R := (ne_of_none hR nZ1).symm
        have hZP : Z ≠ Pl := (ne_of_none hP nZ1).symm
        refine ⟨_, rfl, R, rws, rfl, .inl (SqL.of (s2 _ _ hR)), _, rfl, by omega, by omega, by omega, by omega, ?_⟩
        refine for_it walk_rangeC (fun i σ' H' => ∃ zs b10 b11, σ' = [some v, some (.ref f), some (.ref g), some (.ref R), some (.ref Pl), a5, a6, a7, a8, some (.ref Z), b10, b11, none] ∧ Keeps Z H2 H' ∧ H' Z = some (.lst zs) ∧ zs.length = rs.length ∧
          ∃ Gk, Same G Gk ∧ Same Gk H' ∧ Gk Z = none ∧ NewIn G Gk H ∧ ∀ j z r, rs.length - i ≤ j → zs[j]? = some z → rs[j]? = some r → F.RR Gk z r) ?_ (fun _ _ _ _ _ => trivial) ?_ ?_
        · refine ⟨_, none, none, rfl, .of (Same.refl _), hZ0, by rw [List.length_replicate, l1], G, Same.refl _, hG.trans (s1.trans s2), (hG.trans s1).free nZ1, fun b hb => .inl hb, fun j z r hj h1 h2 => ?_⟩
          have := (List.getElem?_eq_some_iff.mp h2).1
          omega
        · rintro i x σ' H9 H3 hi ⟨zs, b10, b11, rfl, kp, hZ, lz, Gk, g1, g2, g3, g4, rr⟩ ⟨rfl, ex⟩
          have hi' : i < rws.length := by
            have : ((rws.length : Int) - 0).toNat = rws.length := by omega
            omega
          obtain ⟨k, hk, ek⟩ : ∃ k : Nat, k = rws.length - 1 - i ∧ (0 + ((((rws.length : Int) - 0).toNat : Nat) : Int) - 1 + (i : Nat) * (-1) : Int) = (k : Int) := ⟨_, rfl, by omega⟩
          obtain rfl : x = .int (k : Int) := ex.trans (congrArg V.int ek)
          have hkl : k < rs.length := by omega
          obtain ⟨row, hrow1⟩ : ∃ row, rs[k]? = some row := ⟨_, List.getElem?_eq_getElem hkl⟩
          obtain ⟨pk, hpk⟩ : ∃ pk, ps[k]? = some pk := ⟨_, List.getElem?_eq_getElem (by omega)⟩
          obtain ⟨wv, hwv, rowIs⟩ := aR.get hrow1
          obtain ⟨nv, hnv, n, ts, rfl, hnts, prs⟩ := aP.get hpk
          have plc := gone.at_ k row pk hrow1 hpk
          have kR : ∀ {b o}, b ≠ Z → H1 b = some o → H3 b = some o := fun hb e => kp _ _ hb (s2 _ _ e)
          have hR3 : H3 R = some (.lst rws) := kR hZR.symm hR
          have hP3 : H3 Pl = some (.lst pvs) := kR hZP.symm hP
          have s3 : Same (Rest H1 [R, Pl]) H3 := fun b o e => by
            refine kR (fun z => ?_) (rest_same _ _ e)
            rw [z] at e
            rw [rest_same _ _ e] at nZ1
            cases nZ1
          have hn3 : H3 n = some (.lst ts) := s3 _ _ hnts
          refine ⟨_, rfl, _, rfl, Pl, pvs, _, _, rfl, rfl, SqL.of hP3, atI_nat hnv, n, rfl, ⟨ts, SqL.of hn3⟩, fun L nL => ?_⟩
          have hLZ : L ≠ Z := (ne_of_none hZ nL).symm
          refine lc_list (xs := ts) (fun t H4 => ∃ ws, Keeps L H3 H4 ∧ H4 L = some (.lst ws) ∧ All2 (InnerIs F Gk (Rest H4 [L])) ws (row.take t)) ⟨[], .of (same_new nL), upd_same, .nil⟩ ?_ ?_ ?_
          · rintro t H4 _ ⟨ws, k4, _⟩
            exact SqL.of (k4 n _ (ne_of_none hn3 nL) hn3)
          · rintro t x H4 hx ⟨ws, k4, hL4, aw⟩
            obtain ⟨be, hbe, q1, rfl, hq1⟩ : ∃ be, pk[t]? = some be ∧ PairAt (Rest H1 [R, Pl]) x be := by
              have ht : t < pk.length := by rw [← prs.1]; exact (List.getElem?_eq_some_iff.mp hx).1
              exact ⟨_, List.getElem?_eq_getElem ht, prs.2 t x _ hx (List.getElem?_eq_getElem ht)⟩
            obtain ⟨y, hy, p1, p2, p3, p4⟩ := plc.get hbe
            have hq4 : H4 q1 = some (.tup [.int (be.1 : Nat), .int (be.2 : Nat)]) := k4 _ _ (ne_of_none (s3 _ _ hq1) nL) (s3 _ _ hq1)
            have hZ4 : H4 Z = some (.lst zs) := k4 _ _ hLZ.symm hZ
            refine ⟨q1, _, rfl, SqT.of hq4, rfl, _, _, rfl, _, _, rfl, rfl, rfl, ?_⟩
            refine ⟨_, rfl, _, rfl, _, rfl, _, rfl, _, rfl, Z, zs, rfl, SqL.of hZ4, fun l nl => ?_⟩
            have hs := oks row (List.mem_of_getElem? hrow1)
            have hwl : ws.length ≤ 100000 := by
              rw [aw.1, List.length_take]
              have := hs.2
              omega
            have lL : l ≠ L := (ne_of_none hL4 nl).symm
            have ey : row.take (t + 1) = row.take t ++ [y] := by rw [List.take_add_one, hy]; rfl
            have allR : All2 (F.RR Gk) (zs.drop (k + 1)) (rs.drop (k + 1)) := by
              refine ⟨by simp [lz], fun j z r h1 h2 => ?_⟩
              rw [List.getElem?_drop] at h1 h2
              exact rr _ z r (by omega) h1 h2
            refine ⟨ws, by rw [upd_ne lL.symm]; exact hL4, Nat.lt_of_le_of_lt hwl (by decide), ws ++ [.ref l], ?_, upd_same, ?_⟩
            · exact (k4.trans (.of (same_new nl))).trans Keeps.at
            · rw [ey, rest_upd (by simp)]
              refine (aw.mono fun _ _ p => ?_).app (.one ⟨l, cutV zs (some (be.1 : Int)) (some (be.2 : Int)), rfl, ?_, ?_⟩)
              · obtain ⟨l', vs, e1, e2, e3⟩ := p
                exact ⟨l', vs, e1, rest_mono (same_new nl) _ _ e2, e3⟩
              · rw [rest_out (by simpa using lL)]
                exact upd_same
              · rw [cutV_nat zs p2 (by omega), ← p4]
                have := (allR.drop (be.1 - (k + 1))).take (be.2 - be.1)
                rw [List.drop_drop, List.drop_drop, show k + 1 + (be.1 - (k + 1)) = be.1 by omega] at this
                exact this
          · rintro H4 ⟨ws, k4, hL4, aw⟩
            have s34 : Same H3 H4 := keeps_same k4 (Same.refl _) nL
            have ful : row.take ts.length = row := by rw [prs.1, ← plc.1]; exact List.take_length
            rw [ful] at aw
            have hZ4 := s34 _ _ hZ
            refine ⟨g, spg, rfl, hSg, _, rfl, _, rfl, R, rws, _, _, rfl, rfl, SqL.of (s34 _ _ hR3), atI_nat hwv, _, rfl, hMade Gk H4 wv L ws row _ (g2.trans s34) (rowIs.same g1) (oks row (List.mem_of_getElem? hrow1)).1 (oks row (List.mem_of_getElem? hrow1)).2 hL4 (aw.mono fun _ _ p => ?_) fun r H5 G5 t1 t2 t3 t4 t5 => ?_⟩
            · obtain ⟨l', vs, e1, e2, e3⟩ := p
              exact ⟨l', vs, e1, rest_same _ _ e2, e3⟩
            · have hZ5 := t1 _ _ hZ4
              have gZ5 : G5 Z = none := by
                cases e : G5 Z with
                | none => rfl
                | some o =>
                  rcases t4 Z (by rw [e]; exact fun z => nomatch z) with z | z
                  · exact absurd g3 z
                  · rw [z] at hZ4
                    cases hZ4
              refine ⟨_, rfl, _, rfl, Z, zs, _, k, rfl, rfl, hZ5, ixN_nat (by omega), zs.set k r, _, _, rfl, ?_, upd_same, by rw [List.length_set, lz], G5, g1.trans t2, ?_, gZ5, ?_, ?_⟩
              · exact (kp.trans (.of (s34.trans t1))).trans Keeps.at
              · exact fun b o e => by
                  rw [upd_ne fun z => by rw [z, gZ5] at e; cases e]
                  exact t3 _ _ e
              · intro b hb
                rcases t4 b hb with z | z
                · exact g4 b z
                · refine .inr ?_
                  have sH : Same H H4 := (keeps_same kp (s1.trans s2) (s1.free nZ1)).trans s34
                  exact sH.free z
              · intro j z r' hj h1 h2
                by_cases c2 : j = k
                · subst c2
                  rw [List.getElem?_set_self (by omega)] at h1
                  cases h1
                  rw [hrow1] at h2
                  cases h2
                  exact t5
                · rw [List.getElem?_set_ne (fun z => c2 z.symm)] at h1
                  exact F.mono _ _ _ _ t2 (rr j z r' (by omega) h1 h2)
        · rintro σ' H3 ⟨zs, b10, b11, rfl, kp, hZ, lz, Gk, g1, g2, g3, g4, rr⟩
          have hz0 : 0 < zs.length := by
            have := (List.getElem?_eq_some_iff.mp h0).1
            omega
          refine ⟨_, rfl, Z, zs, _, zs[0], rfl, rfl, SqL.of hZ, atI_nat (List.getElem?_eq_getElem hz0), q _ H3 Gk (keeps_same kp (s1.trans s2) (s1.free nZ1)) g1 g2 g4 (rr 0 _ _ ?_ (List.getElem?_eq_getElem hz0) h0)⟩
          omega

/-! ### words of inlines -/
theorem ifT {b : Bool} {A B : Prop} (h : b = true) (a : A) : if b = true then A else B := by
  rw [if_pos h]
  exact a
theorem ifF {b : Bool} {A B : Prop} (h : b = false) (a : B) : if b = true then A else B := by
  rw [if_neg (by rw [h]; exact Bool.false_ne_true)]
  exact a
theorem dpAll_c {K : PySem.W.Frag} {G : Hp} {vs : List V} {d : PyData} {ds : List PyData} (h : DpAll K G vs (d :: ds)) : ∃ v us, vs = v :: us ∧ Dp K G v d ∧ DpAll K G us ds := by
  cases h with
  | cons h r => exact ⟨_, _, rfl, h, r⟩
theorem dpAll_0 {K : PySem.W.Frag} {G : Hp} {vs : List V} (h : DpAll K G vs []) : vs = [] := by
  cases h
  rfl
theorem dp_tup {K : PySem.W.Frag} {G : Hp} {v : V} {ds : List PyData} (h : Dp K G v (.tuple ds)) : ∃ a us, v = .ref a ∧ SqT K G a us ∧ DpAll K G us ds := by
  cases h with
  | tup q r => exact ⟨_, _, rfl, q, r⟩
theorem dp_str {K : PySem.W.Frag} {G : Hp} {v : V} {z : Str} (h : Dp K G v (.str z)) : v = .str z := by
  cases h
  rfl
def tagOf : Inl → Str
  | .text _ => "text"
  | .code _ => "code"
  | .html _ => "html"
  | .soft => "soft"
  | .hard => "hard"
  | .emph _ => "emph"
  | .strong _ => "strong"
  | .link _ _ _ => "link"
  | .image _ _ _ => "image"
/-- an inline by its items -/
inductive InlAt (K : PySem.W.Frag) (G : Hp) (a : Addr) : Inl → Prop
  | text {t : List Nat} : SqT K G a [.str "text", .str (S t)] → InlAt K G a (.text t)
  | code {t : List Nat} : SqT K G a [.str "code", .str (S t)] → InlAt K G a (.code t)
  | html {t : List Nat} : SqT K G a [.str "html", .str (S t)] → InlAt K G a (.html t)
  | soft : SqT K G a [.str "soft"] → InlAt K G a .soft
  | hard : SqT K G a [.str "hard"] → InlAt K G a .hard
  | emph {u : V} {r : List Inl} : SqT K G a [.str "emph", u] → Dp K G u (.tuple (rowD r)) → InlAt K G a (.emph r)
  | strong {u : V} {r : List Inl} : SqT K G a [.str "strong", u] → Dp K G u (.tuple (rowD r)) → InlAt K G a (.strong r)
  | link {u t : V} {d : List Nat} {tt : Option (List Nat)} {r : List Inl} : SqT K G a [.str "link", .str (S d), t, u] → Dp K G t (optD tt) → Dp K G u (.tuple (rowD r)) → InlAt K G a (.link d tt r)
  | image {u t : V} {d : List Nat} {tt : Option (List Nat)} {r : List Inl} : SqT K G a [.str "image", .str (S d), t, u] → Dp K G t (optD tt) → Dp K G u (.tuple (rowD r)) → InlAt K G a (.image d tt r)
theorem inl_at {K : PySem.W.Frag} {G : Hp} {v : V} : ∀ {x : Inl}, Dp K G v x.toD → ∃ a, v = .ref a ∧ InlAt K G a x := by
  intro x h
  have one : ∀ {n : Str} {v : V}, Dp K G v (.tuple [.str n]) → ∃ a, v = .ref a ∧ SqT K G a [.str n] := fun h => by
    obtain ⟨a, us, rfl, q, r⟩ := dp_tup h
    obtain ⟨u, us1, rfl, r1, w1⟩ := dpAll_c r
    cases dp_str r1
    cases dpAll_0 w1
    exact ⟨a, rfl, q⟩
  have two : ∀ {n : Str} {v : V} {d : PyData}, Dp K G v (.tuple [.str n, d]) → ∃ a u, v = .ref a ∧ SqT K G a [.str n, u] ∧ Dp K G u d := fun h => by
    obtain ⟨a, us, rfl, q, r⟩ := dp_tup h
    obtain ⟨u, us1, rfl, r1, w1⟩ := dpAll_c r
    obtain ⟨u2, us2, rfl, r2, w2⟩ := dpAll_c w1
    cases dp_str r1
    cases dpAll_0 w2
    exact ⟨a, u2, rfl, q, r2⟩
  have four : ∀ {n z : Str} {v : V} {d d2 : PyData}, Dp K G v (.tuple [.str n, .str z, d, d2]) → ∃ a u u2, v = .ref a ∧ SqT K G a [.str n, .str z, u, u2] ∧ Dp K G u d ∧ Dp K G u2 d2 := fun h => by
    obtain ⟨a, us, rfl, q, r⟩ := dp_tup h
    obtain ⟨u, us1, rfl, r1, w1⟩ := dpAll_c r
    obtain ⟨u2, us2, rfl, r2, w2⟩ := dpAll_c w1
    obtain ⟨u3, us3, rfl, r3, w3⟩ := dpAll_c w2
    obtain ⟨u4, us4, rfl, r4, w4⟩ := dpAll_c w3
    cases dp_str r1
    cases dp_str r2
    cases dpAll_0 w4
    exact ⟨a, u3, u4, rfl, q, r3, r4⟩
  cases x with
  | text t => obtain ⟨a, u, rfl, q, r⟩ := two h; cases dp_str r; exact ⟨a, rfl, .text q⟩
  | code t => obtain ⟨a, u, rfl, q, r⟩ := two h; cases dp_str r; exact ⟨a, rfl, .code q⟩
  | html t => obtain ⟨a, u, rfl, q, r⟩ := two h; cases dp_str r; exact ⟨a, rfl, .html q⟩
  | soft => obtain ⟨a, rfl, q⟩ := one h; exact ⟨a, rfl, .soft q⟩
  | hard => obtain ⟨a, rfl, q⟩ := one h; exact ⟨a, rfl, .hard q⟩
  | emph r => obtain ⟨a, u, rfl, q, r⟩ := two h; exact ⟨a, rfl, .emph q r⟩
  | strong r => obtain ⟨a, u, rfl, q, r⟩ := two h; exact ⟨a, rfl, .strong q r⟩
  | link d t r => obtain ⟨a, u, u2, rfl, q, r1, r2⟩ := four h; exact ⟨a, rfl, .link q r1 r2⟩
  | image d t r => obtain ⟨a, u, u2, rfl, q, r1, r2⟩ := four h; exact ⟨a, rfl, .image q r1 r2⟩
theorem row_is {K : PySem.W.Frag} {F : Fold} {G : Hp} {u : V} {row : List F.X} {ds : List PyData} (h : Dp K G u (.tuple ds)) (e : ds = row.map F.toD) : RowIs K F G u row := by
  subst e
  exact dp_row h
theorem at1 {z u : V} {us : List V} : atI (z :: u :: us) 1 = some u := atI_nat (j := 1) rfl
theorem at3 {z u1 u2 u : V} {us : List V} : atI (z :: u1 :: u2 :: u :: us) 3 = some u := atI_nat (j := 3) rfl
theorem at0 {z : Str} {us : List V} : atI (V.str z :: us) 0 = some (.str z) := atI_nat (j := 0) rfl
def sp_rows_in_inline (K : PySem.W.Frag) : Sp := fun vs H Q _ => ∃ (G : Hp) (v : V) (x : Inl), vs = [v] ∧ Same G H ∧ Dp K G v x.toD ∧
  ∀ p H' ws, Same H H' → H p = none → H' p = some (.lst ws) → All2 (RowIs K wordsF G) ws x.sub → Q (.ref p) H'
theorem ok_rows_in_inline {P : Program} {w : World} {K : PySem.W.Frag} {mg : Str → Option Value} {base : Heap} (T : Txt K mg) : FnOk P w K mg base CX0 1 T.a_rows_in_inline T.d_rows_in_inline ["inline"] (sp_rows_in_inline K) := by
  refine T.f_rows_in_inline.ok sc_rows_in_inline (fun vs H Q E h => ?_) (fun cdv A outer s H vs Q E hr h => ?_)
  · obtain ⟨G, v, x, rfl, _⟩ := h
    rfl
  · obtain ⟨G, v, x, rfl, sG, hv, q⟩ := h
    refine ⟨_, (pss_cons (ps_if (pt_cmpR op_in_seq (pe_ix ix_tup (pv 0) pe_int (fun _ _ => rfl)) (pe_tup (pa_cons pe_str (pa_cons pe_str pa_nil))) (by rfl)) (pss_one (ps_ret (pe_lst (pa_cons (pe_ix ix_tup (pv 0) pe_int (fun _ _ => rfl)) pa_nil)))) pss_nil)
        (pss_cons (ps_if (pt_cmpR op_in_seq (pe_ix ix_tup (pv 0) pe_int (fun _ _ => rfl)) (pe_tup (pa_cons pe_str (pa_cons pe_str pa_nil))) (by rfl)) (pss_one (ps_ret (pe_lst (pa_cons (pe_ix ix_tup (pv 0) pe_int (fun _ _ => rfl)) pa_nil)))) pss_nil)
        (pss_one (ps_ret (pe_lst pa_nil))))), ?_⟩
    obtain ⟨a, rfl, ha⟩ := inl_at hv
    have fin0 : ∀ (H1 : Hp), Same H H1 → x.sub = [] → ∀ p, H1 p = none → Q (.ref p) (upd H1 p (.lst [])) := fun H1 s1 e p np => q p _ [] (s1.trans (same_new np)) (s1.free np) upd_same (by rw [e]; exact .nil)
    have fin1 : ∀ (H1 : Hp) (u : V) (r : List Inl), Same H H1 → x.sub = [r] → Dp K G u (.tuple (rowD r)) → ∀ p, H1 p = none → Q (.ref p) (upd H1 p (.lst [u])) := fun H1 u r s1 e hu p np =>
      q p _ [u] (s1.trans (same_new np)) (s1.free np) upd_same (by rw [e]; exact .one (row_is hu (rowD_map r)))
    cases ha <;> rename_i hq
    all_goals refine ⟨_, rfl, a, _, _, _, rfl, rfl, same_tup sG (by assumption), at0, (by show 2 ≤ sizeLine; decide), fun t nt => ⟨t, _, rfl, .inr (SqT.of upd_same), rfl, (by decide +kernel), _, rfl, ?_⟩⟩
    all_goals first | refine ifF (by decide +kernel) ?_ | refine ifT (by decide +kernel) ?_
    iterate 5
      · refine ⟨_, rfl, a, _, _, _, rfl, rfl, same_tup (sG.trans (same_new nt)) (by assumption), at0, (by show 2 ≤ sizeLine; decide), fun t2 nt2 => ⟨t2, _, rfl, .inr (SqT.of upd_same), rfl, (by decide +kernel), _, rfl, ifF (by decide +kernel) ?_⟩⟩
        exact ⟨(by show 0 ≤ sizeLine; decide), fun p np => fin0 _ ((same_new nt).trans (same_new nt2)) rfl p np⟩
    iterate 2
      · exact ⟨_, rfl, a, _, _, _, rfl, rfl, same_tup (sG.trans (same_new nt)) (by assumption), at1, (by show 1 ≤ sizeLine; decide), fun p np => fin1 _ _ _ (same_new nt) rfl (by assumption) p np⟩
    iterate 2
      · refine ⟨_, rfl, a, _, _, _, rfl, rfl, same_tup (sG.trans (same_new nt)) (by assumption), at0, (by show 2 ≤ sizeLine; decide), fun t2 nt2 => ⟨t2, _, rfl, .inr (SqT.of upd_same), rfl, (by decide +kernel), _, rfl, ifT (by decide +kernel) ?_⟩⟩
        exact ⟨_, rfl, a, _, _, _, rfl, rfl, same_tup ((sG.trans (same_new nt)).trans (same_new nt2)) (by assumption), at3, (by show 1 ≤ sizeLine; decide), fun p np => fin1 _ _ _ ((same_new nt).trans (same_new nt2)) rfl (by assumption) p np⟩
theorem in_rows_in_inline {K : PySem.W.Frag} : InOk K wordsF (sp_rows_in_inline K) := fun G H v x Q sG hv q => ⟨G, v, x, rfl, sG, hv, q⟩
theorem sum_S (ls : List (List Nat)) : ((ls.map S).map (·.length)).sum = ls.flatten.length := by
  rw [List.length_flatten, List.map_map]
  refine congrArg List.sum ?_
  exact List.map_congr_left fun l _ => S_len l
theorem lit_em : ("" : Str) = S [] := by decide +kernel
theorem lit_bl : (" " : Str) = S [32] := by decide +kernel
def sp_words_of_inline (K : PySem.W.Frag) : Sp := fun vs H Q _ => ∃ (G : Hp) (v : V) (x : Inl) (l : Addr), vs = [v, .ref l] ∧ Same G H ∧ Dp K G v x.toD ∧ H l = some (.lst (x.sub.map fun r => V.str (S (rowW r)))) ∧ x.words.length ≤ 1000000 ∧
  ∀ H', Same H H' → Q (.str (S x.words)) H'
theorem sub_flat (x : Inl) : x.sub.map (fun r => V.str (S (rowW r))) = ((x.sub.map rowW).map S).map V.str := by
  rw [List.map_map, List.map_map]
  rfl
theorem ok_words_of_inline {P : Program} {w : World} {K : PySem.W.Frag} {mg : Str → Option Value} {base : Heap} (T : Txt K mg) : FnOk P w K mg base CX0 1 T.a_words_of_inline T.d_words_of_inline ["inline", "rows"] (sp_words_of_inline K) := by
  refine T.f_words_of_inline.ok sc_words_of_inline (fun vs H Q E h => ?_) (fun cdv A outer s H vs Q E hr h => ?_)
  · obtain ⟨G, v, x, l, rfl, _⟩ := h
    rfl
  · obtain ⟨G, v, x, l, rfl, sG, hv, hl, hb, q⟩ := h
    refine ⟨_, (pss_cons (ps_set (i := 2) sc_words_of_inline.nd rfl (.inl rfl) (pe_ix ix_tup (pv 0) pe_int (fun _ _ => rfl)))
        (pss_cons (ps_if (pt_cmpR op_in_seq (pv 2) (pe_tup (pa_cons pe_str (pa_cons pe_str pa_nil))) (by rfl)) (pss_one (ps_ret (pe_ix ix_tup (pv 0) pe_int (fun _ _ => rfl)))) pss_nil)
        (pss_cons (ps_if (pt_cmpR op_in_seq (pv 2) (pe_tup (pa_cons pe_str (pa_cons pe_str pa_nil))) (by rfl)) (pss_one (ps_ret pe_str)) pss_nil)
        (pss_one (ps_ret (pe_join pe_str (pv 1))))))), ?_⟩
    obtain ⟨a, rfl, ha⟩ := inl_at hv
    have jn : ∀ (H1 : Hp), Same H H1 → x.words = (x.sub.map rowW).flatten → ∃ a p, ∃ ys : List Str, V.str "" = .str a ∧ [V.ref l] = [.ref p] ∧ (SqL K H1 p (ys.map V.str) ∨ SqT K H1 p (ys.map V.str)) ∧ (ys.map (·.length)).sum + ys.length * a.length ≤ 16777216 ∧ Q (.str (Txt.join a ys)) H1 := fun H1 s1 e => by
      refine ⟨_, l, (x.sub.map rowW).map S, rfl, rfl, .inl (SqL.of (s1 _ _ (by rw [← sub_flat]; exact hl))), ?_, ?_⟩
      · rw [sum_S, ← e, lit_em, S_len]
        show x.words.length + _ * 0 ≤ _
        omega
      · rw [lit_em, My.join_nil, ← e]
        exact q H1 s1
    have q32 : ∀ H', Same H H' → x.words = [32] → Q (.str " ") H' := fun H' s1 e => by
      have := q H' s1
      rw [e, ← lit_bl] at this
      exact this
    cases ha <;> rename_i hq
    all_goals refine ⟨_, rfl, a, _, _, _, rfl, rfl, same_tup sG (by assumption), at0, ?_⟩
    all_goals refine ⟨_, rfl, (by show 2 ≤ sizeLine; decide), fun t nt => ⟨t, _, rfl, .inr (SqT.of upd_same), rfl, (by decide +kernel), _, rfl, ?_⟩⟩
    all_goals first | refine ifF (by decide +kernel) ?_ | refine ifT (by decide +kernel) ?_
    iterate 2
      · exact ⟨_, rfl, a, _, _, _, rfl, rfl, same_tup (sG.trans (same_new nt)) (by assumption), at1, q _ (same_new nt)⟩
    · refine ⟨_, rfl, (by show 2 ≤ sizeLine; decide), fun t2 nt2 => ⟨t2, _, rfl, .inr (SqT.of upd_same), rfl, (by decide +kernel), _, rfl, ifF (by decide +kernel) ?_⟩⟩
      refine ⟨⟨_, rfl⟩, _, rfl, ?_⟩
      exact jn _ ((same_new nt).trans (same_new nt2)) rfl
    iterate 2
      · refine ⟨_, rfl, (by show 2 ≤ sizeLine; decide), fun t2 nt2 => ⟨t2, _, rfl, .inr (SqT.of upd_same), rfl, (by decide +kernel), _, rfl, ifT (by decide +kernel) ?_⟩⟩
        exact q32 _ ((same_new nt).trans (same_new nt2)) rfl
    iterate 4
      · refine ⟨_, rfl, (by show 2 ≤ sizeLine; decide), fun t2 nt2 => ⟨t2, _, rfl, .inr (SqT.of upd_same), rfl, (by decide +kernel), _, rfl, ifF (by decide +kernel) ?_⟩⟩
        refine ⟨⟨_, rfl⟩, _, rfl, ?_⟩
        exact jn _ ((same_new nt).trans (same_new nt2)) (List.append_nil _).symm
def sp_row_words (K : PySem.W.Frag) : Sp := fun vs H Q _ => ∃ (G : Hp) (v : V) (L : Addr) (ws : List V) (row : List Inl), vs = [v, .ref L] ∧ Same G H ∧ RowIs K wordsF G v row ∧ wordsF.Ok row ∧ row.length ≤ 100000 ∧ H L = some (.lst ws) ∧ All2 (InnerIs wordsF G H) ws row ∧
  ∀ H', Same H H' → Q (.str (S (rowW row))) H'
theorem ok_row_words {P : Program} {w : World} {K : PySem.W.Frag} {mg : Str → Option Value} {base : Heap} (T : Txt K mg) : FnOk P w K mg base CX0 2 T.a_row_words T.d_row_words ["row", "inner"] (sp_row_words K) := by
  refine T.f_row_words.ok sc_row_words (fun vs H Q E h => ?_) (fun cdv A outer s H vs Q E hr h => ?_)
  · obtain ⟨G, v, L, ws, row, rfl, _⟩ := h
    rfl
  · obtain ⟨G, v, L, ws, row, rfl, sG, hv, hok, hlen, hL, aw, q⟩ := h
    refine ⟨_, (pss_one (ps_ret (pe_join pe_str (pe_lc (own := [("inline", 2), ("rows", 3)]) (g := (gTup K 2 (gCons (gName 2) (gCons (gName 3) gNil)))) (tt := tYes) (by rfl) sc_row_words.nd (pi_zipM (by rfl) T.z_zip (pa_cons (pv 0) (pa_cons (pv 1) pa_nil))) (blkOk_by (own := [("inline", 2), ("rows", 3)]) (N := ["row", "inner", "inline", "rows"]) (sc := defScope s_row_words) (by decide +kernel)) (fun _ _ _ _ _ => (pg_tup (by rfl) (pgs_cons (pg_name (i := 2) sc_row_words.nd rfl (.inl rfl)) (pgs_cons (pg_name (i := 3) sc_row_words.nd rfl (.inl rfl)) pgs_nil)))) (fun _ _ _ _ _ => pts_nil) (fun _ _ _ _ _ => (pe_call (ok_words_of_inline T) (hr.mono (by decide)) (by rfl) T.g_words_of_inline T.f_words_of_inline.kp T.b_words_of_inline .nil pass0 (pa_cons (pv 2) (pa_cons (pv 3) pa_nil)))))))), ?_⟩
    obtain ⟨a, us, rfl, sqa, dps⟩ := hv
    refine ⟨⟨_, rfl⟩, _, rfl, _, rfl, a, L, us, ws, rfl, same_tup sG sqa, SqL.of hL, fun D nD => ?_⟩
    have e1 : us.length = ws.length := by rw [dps.1, aw.1]
    have sm : (row.map fun x : Inl => x.words).flatten = rowW row := by
      clear q hok hlen dps aw
      induction row with
      | nil => rfl
      | cons x r ih =>
        show x.words ++ (r.map fun x : Inl => x.words).flatten = x.words ++ rowW r
        rw [ih]
    refine lc_it (walk_zipM e1) (fun i H1 => Same H H1 ∧ H1 D = some (.lst ((row.take i).map fun x : Inl => V.str (S x.words)))) ?_ ?_ ?_ ?_
    · exact ⟨same_new nD, upd_same⟩
    · rintro i H1 _ ⟨s1, _⟩
      exact ⟨same_tup (sG.trans s1) sqa, SqL.of (s1 _ _ hL)⟩
    · rintro i x H1 H1' hi ⟨s1, hD⟩ ⟨Tp, x1, x2, rfl, nT, rfl, h1, h2⟩
      obtain ⟨y, hy⟩ : ∃ y, row[i]? = some y := ⟨_, List.getElem?_eq_getElem (by have : us.length = row.length := dps.1; omega)⟩
      have dx : Dp K G x1 (Inl.toD y) := dps.2 i x1 y h1 hy
      obtain ⟨l, vs, rfl, hl, av⟩ := aw.2 i x2 y h2 hy
      have evs : vs = y.sub.map fun r => V.str (S (rowW r)) := by
        refine List.ext_getElem? fun j => ?_
        cases e : (y.sub)[j]? with
        | none =>
          rw [List.getElem?_map, e]
          refine List.getElem?_eq_none ?_
          have : vs.length = y.sub.length := av.1
          rw [this]
          exact List.getElem?_eq_none_iff.mp e
        | some r =>
          obtain ⟨z, hz, rz⟩ := av.get e
          rw [List.getElem?_map, e, hz, rz]
          rfl
      rw [evs] at hl
      have nTD : Tp ≠ D := (ne_of_none hD nT).symm
      have s2 : Same H (upd H1 Tp (.tup [x1, .ref l])) := s1.trans (same_new nT)
      refine ⟨Tp, _, rfl, SqT.of upd_same, rfl, _, _, rfl, _, _, rfl, rfl, rfl, ?_⟩
      have hyw : y.words.length ≤ 1000000 := Nat.le_trans (rowW_mem (List.mem_of_getElem? hy)) hok
      refine ⟨_, rfl, _, rfl, G, x1, y, l, rfl, sG.trans s2, dx, s2 _ _ hl, hyw, fun H2 s3 => ?_⟩
      refine ⟨_, s3 _ _ (by rw [upd_ne nTD.symm]; exact hD), ?_, ?_, ?_⟩
      · rw [List.length_map, List.length_take]
        refine Nat.lt_of_le_of_lt (Nat.le_trans (Nat.min_le_right _ _) hlen) (by decide)
      · exact fun b o e => by
          rw [upd_ne (ne_of_none e nD)]
          exact s3 _ _ (s2 _ _ e)
      · rw [List.take_add_one, hy, List.map_append]
        exact upd_same
    · rintro H1 ⟨s1, hD⟩
      have ful : row.take us.length = row := by rw [dps.1]; exact List.take_length
      rw [ful] at hD
      have e2 : (row.map fun x : Inl => V.str (S x.words)) = ((row.map fun x : Inl => x.words).map S).map V.str := by
        rw [List.map_map, List.map_map]
        rfl
      rw [e2] at hD
      refine ⟨_, D, (row.map fun x : Inl => x.words).map S, rfl, rfl, .inl (SqL.of hD), ?_, ?_⟩
      · rw [sum_S, sm, lit_em, S_len]
        have : (rowW row).length ≤ 1000000 := hok
        show (rowW row).length + _ * 0 ≤ _
        omega
      · rw [lit_em, My.join_nil, sm]
        exact q H1 s1
theorem made_row_words {K : PySem.W.Frag} : MadeOk K wordsF (sp_row_words K) :=
  fun G H v L ws row Q sG hv ho hl hL aw q => ⟨G, v, L, ws, row, rfl, sG, hv, ho, hl, hL, aw, fun H' s1 => q _ H' G s1 (Same.refl _) (sG.trans s1) (fun b hb => .inl hb) rfl⟩
def SW {K : PySem.W.Frag} {mg : Str → Option Value} (T : Txt K mg) : Addr → Sp → Prop := fun f sp => (f = T.a_rows_in_inline ∧ sp = sp_rows_in_inline K) ∨ (f = T.a_row_words ∧ sp = sp_row_words K)
theorem AW {P : Program} {w : World} {K : PySem.W.Frag} {mg : Str → Option Value} {base : Heap} (T : Txt K mg) : ∀ f sp, SW T f sp → Held P w K mg base 3 f sp := by
  rintro f sp (⟨rfl, rfl⟩ | ⟨rfl, rfl⟩)
  · exact ⟨_, _, fnOk_up (ok_rows_in_inline T) (by decide), T.f_rows_in_inline.kp, T.b_rows_in_inline⟩
  · exact ⟨_, _, fnOk_up (ok_row_words T) (by decide), T.f_row_words.kp, T.b_row_words⟩
def sp_words (K : PySem.W.Frag) : Sp := fun vs H Q _ => ∃ (v : V) (row : List Inl), vs = [v] ∧ Dp K H v (.tuple (rowD row)) ∧ (rowW row).length ≤ 1000000 ∧ 1 + rowN row ≤ 100000 ∧ ∀ H', Same H H' → Q (.str (S (rowW row))) H'
theorem ok_words {P : Program} {w : World} {K : PySem.W.Frag} {mg : Str → Option Value} {base : Heap} (T : Txt K mg) : FnOk P w K mg base CX0 5 T.a_words T.d_words ["row"] (sp_words K) := by
  refine T.f_words.ok sc_words (fun vs H Q E h => ?_) (fun cdv A outer s H vs Q E hr h => ?_)
  · obtain ⟨v, row, rfl, _⟩ := h
    rfl
  · obtain ⟨v, row, rfl, hv, ho, hn, q⟩ := h
    refine ⟨_, (pss_one (ps_ret (pe_call (ok_folded T (SW T) (AW T)) (hr.mono (by decide)) (by rfl) T.g_folded T.f_folded.kp T.b_folded .nil pass0 (pa_cons (pv 0) (pa_cons (pe_glob (v := .ref T.a_rows_in_inline) rfl T.g_rows_in_inline rfl) (pa_cons (pe_glob (v := .ref T.a_row_words) rfl T.g_row_words rfl) pa_nil)))))), ?_⟩
    exact ⟨_, rfl, wordsF, v, _, _, _, _, row, H, rfl, .inl ⟨rfl, rfl⟩, .inr ⟨rfl, rfl⟩, in_rows_in_inline, made_row_words, Same.refl _, row_is hv (rowD_map row), ho, hn, fun r H' G' s1 _ _ _ e => by
      cases (show r = .str (S (rowW row)) from e)
      exact q H' s1⟩

/-! ### escaped -/
theorem fun_okT {P : Program} {w : World} {K : PySem.W.Frag} {mg : Str → Option Value} {base : Heap} {x qual : Str} {st : Stmt} {f : Addr} {fd : FuncData} {N ps : List Str} {k : Nat} {sp : Sp} (F : Fun K x qual st f fd) (S : FnScope N ps (defScope st)) (hnc : ∀ y ∈ (defScope st).names, y.2 ≠ .cell) (hps : 1 ≤ ps.length)
    (len : ∀ vs H Q E, sp vs H Q E → vs.length = ps.length)
    (hbody : ∀ (cdv : Value) (A : Around) (outer : List Env) (s : Shared) (H : Hp) (vs : List V) (Q : VK) (E : XK), Room k (A.deeper (envOfC qual (defScope st) s.heap.objs.size f cdv)) → sp vs H Q E →
      ∃ t, PSsT (cxOf CX0 P w K mg base N qual (defScope st) f cdv A outer s H E) (defBody st) t ∧ t { nx := fun _ H' => Q .non H', rt := Q } (start N vs) H) : FnOk P w K mg base CX0 (k + 1) f fd ps sp := by
  obtain ⟨oc, od, kV, doc, pm, an, cdv, ct, osl, rfl, lk, hcd⟩ := F.ex
  exact fn_ofT lk hcd S hnc hps len fun A outer s H vs Q E hr hsp => hbody cdv A outer s H vs Q E hr hsp
/-- a sign as it stands in a page -/
def escC (c : Nat) : List Nat := if c = 38 then [38, 97, 109, 112, 59] else if c = 60 then [38, 108, 116, 59] else if c = 62 then [38, 103, 116, 59] else if c = 34 then [38, 113, 117, 111, 116, 59] else [c]
def escL (l : List Nat) : List Nat := l.flatMap escC
theorem escL_app (a b : List Nat) : escL (a ++ b) = escL a ++ escL b := List.flatMap_append
theorem escC_len (c : Nat) : (escC c).length ≤ 6 := by
  unfold escC
  repeat' split
  all_goals simp
theorem escL_len : ∀ l : List Nat, (escL l).length ≤ 6 * l.length
  | [] => Nat.zero_le _
  | c :: r => by
    show (escC c ++ escL r).length ≤ 6 * (r.length + 1)
    rw [List.length_append]
    have := escC_len c
    have := escL_len r
    omega
open PySem.StrLaws in
/-- one sign is exchanged -/
theorem repl_one (y : Nat) (z : List Nat) : ∀ l : List Nat, replL [y] z l = l.flatMap fun c => if c = y then z else [c]
  | [] => replL_nil
  | c :: r => by
    rw [List.flatMap_cons]
    by_cases h : c = y
    · subst h
      rw [replL_hit (by simp) (by simp), if_pos rfl, ← repl_one c z r]
      rfl
    · rw [replL_miss (by simpa using h), if_neg h, repl_one y z r]
      rfl
theorem flat_flat (f g : Nat → List Nat) (l : List Nat) : (l.flatMap f).flatMap g = l.flatMap fun c => (f c).flatMap g := List.flatMap_assoc
theorem esc_chain (l : List Nat) : (((l.flatMap fun c => if c = 38 then [38, 97, 109, 112, 59] else [c]).flatMap fun c => if c = 60 then [38, 108, 116, 59] else [c]).flatMap fun c => if c = 62 then [38, 103, 116, 59] else [c]).flatMap (fun c => if c = 34 then [38, 113, 117, 111, 116, 59] else [c]) = escL l := by
  rw [flat_flat, flat_flat, flat_flat]
  unfold escL
  refine congrArg (fun f => List.flatMap f l) (funext fun c => ?_)
  unfold escC
  by_cases h1 : c = 38
  · subst h1
    rfl
  · rw [if_neg h1, if_neg h1]
    by_cases h2 : c = 60
    · subst h2
      rfl
    · rw [if_neg h2]
      by_cases h3 : c = 62
      · subst h3
        rfl
      · rw [if_neg h3]
        by_cases h4 : c = 34
        · subst h4
          rfl
        · rw [if_neg h4]
          simp [h2, h3, h4]
theorem repl_S (l y z : List Nat) (hy : 1 ≤ y.length) : Txt.replace (S l) (S y) (S z) = S (PySem.StrLaws.replL y z l) := by
  rw [S_of (Txt.replace (S l) (S y) (S z))]
  have := PySem.StrLaws.replace_list (x := S l) (y := S y) (z := S z) (by rw [S_len]; exact hy)
  rw [S_tl, S_tl, S_tl] at this
  rw [this]
def sp_escaped (K : PySem.W.Frag) : Sp := fun vs H Q _ => ∃ l : List Nat, vs = [.str (S l)] ∧ l.length ≤ 10000 ∧ Q (.str (S (escL l))) H
theorem lit_e1 : ("&" : Str) = S [38] ∧ ("&amp;" : Str) = S [38, 97, 109, 112, 59] ∧ ("<" : Str) = S [60] ∧ ("&lt;" : Str) = S [38, 108, 116, 59] ∧ (">" : Str) = S [62] ∧ ("&gt;" : Str) = S [38, 103, 116, 59] ∧ ("\"" : Str) = S [34] ∧ ("&quot;" : Str) = S [38, 113, 117, 111, 116, 59] := by decide +kernel
theorem flat_len (y : Nat) (z : List Nat) (k : Nat) (hz : z.length ≤ k) (hk : 1 ≤ k) : ∀ l : List Nat, (l.flatMap fun c => if c = y then z else [c]).length ≤ k * l.length
  | [] => Nat.zero_le _
  | c :: r => by
    rw [List.flatMap_cons, List.length_append, List.length_cons, Nat.mul_succ]
    have := flat_len y z k hz hk r
    have h : (if c = y then z else [c]).length ≤ k := by
      split
      · exact hz
      · exact hk
    omega
theorem ok_escaped {P : Program} {w : World} {K : PySem.W.Frag} {mg : Str → Option Value} {base : Heap} (T : Txt K mg) : FnOk P w K mg base CX0 1 T.a_escaped T.d_escaped ["text"] (sp_escaped K) := by
  refine fun_okT T.f_escaped sc_escaped (by decide +kernel) (by decide) (fun vs H Q E h => ?_) (fun cdv A outer s H vs Q E hr h => ?_)
  · obtain ⟨l, rfl, _⟩ := h
    rfl
  · obtain ⟨l, rfl, hl, q⟩ := h
    refine ⟨_, CwR.psst_one (CwR.pst_ret (CwR.pet_replT (CwR.pet_replT (CwR.pet_replT (CwR.pet_replC (pv 0)))))), ?_⟩
    obtain ⟨e1, e2, e3, e4, e5, e6, e7, e8⟩ := lit_e1
    have hr1 := repl_one 38 [38, 97, 109, 112, 59] l
    have l1 := flat_len 38 [38, 97, 109, 112, 59] 5 (by decide) (by decide) l
    have l2 := flat_len 60 [38, 108, 116, 59] 4 (by decide) (by decide) (l.flatMap fun c => if c = 38 then [38, 97, 109, 112, 59] else [c])
    have l3 := flat_len 62 [38, 103, 116, 59] 4 (by decide) (by decide) ((l.flatMap fun c => if c = 38 then [38, 97, 109, 112, 59] else [c]).flatMap fun c => if c = 60 then [38, 108, 116, 59] else [c])
    refine ⟨_, rfl, S l, rfl, ?_, S (l.flatMap fun c => if c = 38 then [38, 97, 109, 112, 59] else [c]), ?_, ?_, S ((l.flatMap fun c => if c = 38 then [38, 97, 109, 112, 59] else [c]).flatMap fun c => if c = 60 then [38, 108, 116, 59] else [c]), ?_, ?_, S (((l.flatMap fun c => if c = 38 then [38, 97, 109, 112, 59] else [c]).flatMap fun c => if c = 60 then [38, 108, 116, 59] else [c]).flatMap fun c => if c = 62 then [38, 103, 116, 59] else [c]), ?_, ?_, ?_⟩
    · rw [e2, S_len, S_len]
      show l.length + (l.length + 1) * 5 ≤ _
      omega
    · rw [e1, e2, repl_S _ _ _ (by decide), repl_one]
    · rw [e4, S_len, S_len]
      show _ + (_ + 1) * 4 ≤ _
      omega
    · rw [e3, e4, repl_S _ _ _ (by decide), repl_one]
    · rw [e6, S_len, S_len]
      show _ + (_ + 1) * 4 ≤ _
      omega
    · rw [e5, e6, repl_S _ _ _ (by decide), repl_one]
    · rw [e8, S_len, S_len]
      show _ + (_ + 1) * 6 ≤ _
      omega
    · rw [e7, e8, repl_S _ _ _ (by decide), repl_one, esc_chain]
      exact q
theorem kb_escaped {K : PySem.W.Frag} {mg : Str → Option Value} (T : Txt K mg) : KBinds K T.d_escaped ["text"] ["text"] (fun us ws => us ++ ws) (fun vs zs => vs ++ zs) := kbinds_one T.f_escaped (fun _ _ _ _ _ _ _ => rfl) (fun _ _ _ _ _ _ _ => rfl)



/-! ### the draws -/
def sp__law_well (K : PySem.W.Frag) : Sp := fun vs H Q _ => ∃ n : Int, vs = [.int n] ∧ ∀ p, H p = none → Q (.ref p) (upd H p (.lst [.int n, .int 0, .int 200]))
theorem ok__law_well {P : Program} {w : World} {K : PySem.W.Frag} {mg : Str → Option Value} {base : Heap} (T : Txt K mg) : FnOk P w K mg base CX0 1 T.a__law_well T.d__law_well ["_law_cell"] (sp__law_well K) := by
  refine T.f__law_well.ok sc__law_well (fun vs H Q E h => ?_) (fun cdv A outer s H vs Q E hr h => ?_)
  · obtain ⟨n, rfl, _⟩ := h
    rfl
  · obtain ⟨n, rfl, q⟩ := h
    refine ⟨_, (pss_one (ps_ret (pe_lst (pa_cons (pe_callTy call_int1 (by rfl) T.z_int (by decide +kernel) (pa_cons (pv 0) pa_nil)) (pa_cons pe_int (pa_cons pe_int pa_nil)))))), ?_⟩
    exact ⟨_, rfl, .inl ⟨_, rfl, (by show 3 ≤ sizeLine; decide), fun p hp => q p hp⟩⟩
def sp__law_draw (K : PySem.W.Frag) : Sp := fun vs H Q _ => ∃ (L : Addr) (m : Int), vs = [.ref L, .int m] ∧ 0 < m ∧ m < 1000000 ∧ Well3 H L ∧
  ∀ H' d, Keeps L H H' → Well3 H' L → 0 ≤ d → d < m → Q (.int d) H'
theorem ok__law_draw {P : Program} {w : World} {K : PySem.W.Frag} {mg : Str → Option Value} {base : Heap} (T : Txt K mg) : FnOk P w K mg base CX0 1 T.a__law_draw T.d__law_draw ["_law_well_here", "_law_many"] (sp__law_draw K) := by
  refine T.f__law_draw.ok sc__law_draw (fun vs H Q E h => ?_) (fun cdv A outer s H vs Q E hr h => ?_)
  · obtain ⟨L, m, rfl, _⟩ := h
    rfl
  · obtain ⟨L, m, rfl, hm0, hm1, ⟨x, y, z3, hL⟩, q⟩ := h
    refine ⟨_, (pss_cons (ps_if (pt_cmpR op_ge (pe_ix ix_list (pv 0) pe_int (fun _ _ => rfl)) (pe_op op_pow pe_int pe_int) (nomark _)) (pss_cons (ps_set (i := 2) sc__law_draw.nd rfl (.inl rfl) (pe_op op_mod (pe_callTy call_int1 (by rfl) T.z_int (by decide +kernel) (pa_cons (pe_ix ix_list (pv 0) pe_int (fun _ _ => rfl)) pa_nil)) (pv 1)))
        (pss_cons (ps_asg (pe_op op_fdivW (pe_ix ix_list (pv 0) pe_int (fun _ _ => rfl)) (pv 1)) (pg_sub (pv 0) pe_int set_list))
        (pss_one (ps_ret (pv 2))))) pss_nil)
        (pss_cons (ps_asg (pe_op op_add (pe_ix ix_list (pv 0) pe_int (fun _ _ => rfl)) pe_int) (pg_sub (pv 0) pe_int set_list))
        (pss_cons (ps_set (i := 3) sc__law_draw.nd rfl (.inl rfl) (pe_op op_mod (pe_callTy call_int1 (by rfl) T.z_int (by decide +kernel) (pa_cons (pe_op op_mul (pe_callTy call_int1 (by rfl) T.z_int (by decide +kernel) (pa_cons (pe_op op_add (pe_op op_add (pe_op op_mod (pe_callTy call_int1 (by rfl) T.z_int (by decide +kernel) (pa_cons (pe_ix ix_list (pv 0) pe_int (fun _ _ => rfl)) pa_nil)) pe_int) (pe_op op_mul pe_int (pe_ix ix_list (pv 0) pe_int (fun _ _ => rfl)))) pe_int) pa_nil)) pe_int) pa_nil)) pe_int))
        (pss_cons (ps_set (i := 4) sc__law_draw.nd rfl (.inl rfl) (pe_op op_mod (pe_callTy call_int1 (by rfl) T.z_int (by decide +kernel) (pa_cons (pe_op op_fdivW (pe_ix ix_list (pv 0) pe_int (fun _ _ => rfl)) pe_int) pa_nil)) pe_int))
        (pss_cons (ps_set (i := 3) sc__law_draw.nd rfl (.inl rfl) (pe_op op_mod (pe_callTy call_int1 (by rfl) T.z_int (by decide +kernel) (pa_cons (pe_op op_mul (pv 3) (pe_op op_add (pe_op op_add (pe_op op_fdivW (pv 3) pe_int) pe_int) (pv 4))) pa_nil)) pe_int))
        (pss_one (ps_ret (pe_op op_mod (pe_callTy call_int1 (by rfl) T.z_int (by decide +kernel) (pa_cons (pe_op op_fdivW (pe_op op_mod (pe_callTy call_int1 (by rfl) T.z_int (by decide +kernel) (pa_cons (pe_op op_mul (pv 3) (pe_op op_add (pe_op op_fdivW (pv 3) pe_int) pe_int)) pa_nil)) pe_int) pe_int) pa_nil)) (pv 1))))))))), ?_⟩
    have a0 : ∀ x y : Int, atI [V.int x, V.int y, V.int z3] 0 = some (.int x) := fun x y => atI_nat (j := 0) rfl
    have a1 : ∀ x y : Int, atI [V.int x, V.int y, V.int z3] 1 = some (.int y) := fun x y => atI_nat (j := 1) rfl
    have wd : ∀ i j : Int, 0 < j → j < 10000000000 → CDivW i j := fun i j h1 h2 => wide_div (b := 40) h1 (by omega) (by decide) (by decide)
    refine ⟨_, rfl, L, _, _, _, rfl, rfl, SqL.of hL, a0 x y, _, _, rfl, rfl, (by refine ⟨?_, ?_, ?_⟩ <;> decide), _, _, rfl, rfl, _, rfl, ite2 (fun _ => ?_) (fun _ => ?_)⟩
    · refine ⟨_, rfl, L, _, _, _, rfl, rfl, SqL.of hL, a0 x y, .inl ⟨_, rfl, _, rfl, _, _, rfl, rfl, hm0, ?_⟩⟩
      refine ⟨_, rfl, L, _, _, _, rfl, rfl, SqL.of hL, a0 x y, _, rfl, _, _, rfl, rfl, wd _ _ hm0 (by omega), _, rfl, L, _, _, 0, rfl, rfl, hL, rfl, ?_⟩
      exact ⟨_, rfl, q _ _ .at ⟨_, _, _, upd_same⟩ (Int.emod_nonneg _ (by omega)) (Int.emod_lt_of_pos _ hm0)⟩
    · -- well[1] = well[1] + 1
      refine ⟨_, rfl, L, _, _, _, rfl, rfl, SqL.of hL, a1 x y, _, _, rfl, rfl, _, rfl, L, _, _, 1, rfl, rfl, hL, rfl, ?_⟩
      have k2 : Keeps L H (upd H L (.lst ([V.int x, V.int y, V.int z3].set 1 (.int (y + 1))))) := .at
      have hL2 : (upd H L (.lst ([V.int x, V.int y, V.int z3].set 1 (.int (y + 1))))) L = some (.lst [V.int x, V.int (y + 1), V.int z3]) := upd_same
      generalize (upd H L (.lst ([V.int x, V.int y, V.int z3].set 1 (.int (y + 1))))) = H2 at hL2 k2 ⊢
      refine ⟨_, rfl, L, _, _, _, rfl, rfl, SqL.of hL2, a0 _ _, .inl ⟨_, rfl, _, _, rfl, rfl, (by show (0 : Int) < _; decide), _, rfl, L, _, _, _, rfl, rfl, SqL.of hL2, a1 _ _, _, _, rfl, rfl, .inl (by constructor <;> decide), _, _, rfl, rfl, _, _, rfl, rfl,
        .inl ⟨_, rfl, _, _, rfl, rfl, .inr (by constructor <;> decide), .inl ⟨_, rfl, _, _, rfl, rfl, (by show (0 : Int) < _; decide), ?_⟩⟩⟩⟩
      refine ⟨_, rfl, L, _, _, _, rfl, rfl, SqL.of hL2, a0 _ _, _, _, rfl, rfl, wd _ _ (by decide) (by decide), .inl ⟨_, rfl, _, _, rfl, rfl, (by show (0 : Int) < _; decide), ?_⟩⟩
      refine ⟨_, rfl, _, rfl, _, _, rfl, rfl, wd _ _ (by decide) (by decide), _, _, rfl, rfl, _, rfl, _, _, rfl, rfl, _, _, rfl, rfl, .inl (by constructor <;> omega), .inl ⟨_, rfl, _, _, rfl, rfl, (by show (0 : Int) < _; decide), ?_⟩⟩
      refine ⟨_, rfl, _, rfl, _, _, rfl, rfl, wd _ _ (by decide) (by decide), _, _, rfl, rfl, _, _, rfl, rfl, .inl (by constructor <;> omega), .inl ⟨_, rfl, _, _, rfl, rfl, (by show (0 : Int) < _; decide), _, _, rfl, rfl, wd _ _ (by decide) (by decide), .inl ⟨_, rfl, _, rfl, _, _, rfl, rfl, hm0, ?_⟩⟩⟩
      exact q _ _ k2 ⟨_, _, _, hL2⟩ (Int.emod_nonneg _ (by omega)) (Int.emod_lt_of_pos _ hm0)
def sp__law_one (K : PySem.W.Frag) : Sp := fun vs H Q _ => ∃ (L a : Addr) (xs : List V), vs = [.ref L, .ref a] ∧ SqL K H a xs ∧ a ≠ L ∧ xs ≠ [] ∧ xs.length < 1000000 ∧ Well3 H L ∧
  ∀ H' v, Keeps L H H' → Well3 H' L → v ∈ xs → Q v H'
theorem ok__law_one {P : Program} {w : World} {K : PySem.W.Frag} {mg : Str → Option Value} {base : Heap} (T : Txt K mg) : FnOk P w K mg base CX0 2 T.a__law_one T.d__law_one ["_law_well_here", "_law_some"] (sp__law_one K) := by
  refine T.f__law_one.ok sc__law_one (fun vs H Q E h => ?_) (fun cdv A outer s H vs Q E hr h => ?_)
  · obtain ⟨L, a, xs, rfl, _⟩ := h
    rfl
  · obtain ⟨L, a, xs, rfl, hS, ha, hne, hlen, hW, q⟩ := h
    refine ⟨_, (pss_one (ps_ret (pe_ix ix_list (pv 1) (pe_call (ok__law_draw T) (hr.mono (by decide)) (by rfl) T.g__law_draw T.f__law_draw.kp T.b__law_draw .nil pass0 (pa_cons (pv 0) (pa_cons (pe_callB call_len_seq (by rfl) T.z_len PySem.boot_len (pa_cons (pv 1) pa_nil)) pa_nil))) (fun _ _ => rfl)))), ?_⟩
    have hpos : 0 < xs.length := List.length_pos_iff.mpr hne
    refine ⟨_, rfl, _, rfl, _, rfl, a, xs, rfl, .inl hS, L, _, rfl, by omega, by omega, hW, fun H' d k w h0 h1 => ?_⟩
    obtain ⟨j, rfl⟩ := Int.eq_ofNat_of_zero_le h0
    have hj : j < xs.length := by omega
    exact ⟨a, xs, _, xs[j], rfl, rfl, k.seq ha hS, atI_nat (List.getElem?_eq_getElem hj), q _ _ k w (List.getElem_mem hj)⟩

/-! ### what the law draws -/
def sp__law_string (K : PySem.W.Frag) : Sp := fun vs H Q _ => ∃ (L : Addr) (m : Nat), vs = [.ref L, .int (m : Nat)] ∧ 0 < m ∧ m ≤ 20 ∧ Well3 H L ∧ ∀ H' l, Keeps L H H' → Well3 H' L → Drawn m l → Q (.str (S l)) H'
theorem ok__law_string {P : Program} {w : World} {K : PySem.W.Frag} {mg : Str → Option Value} {base : Heap} (T : Txt K mg) : FnOk P w K mg base CX0 3 T.a__law_string T.d__law_string ["_law_well_here", "_law_most"] (sp__law_string K) := by
  refine T.f__law_string.ok sc__law_string (fun vs H Q E h => ?_) (fun cdv A outer s H vs Q E hr h => ?_)
  · obtain ⟨L, m, rfl, _⟩ := h
    rfl
  · obtain ⟨L, m, rfl, hm0, hm1, hW, q⟩ := h
    refine ⟨_, (pss_cons (ps_set (i := 2) sc__law_string.nd rfl (.inr rfl) (pe_lst (pa_cons pe_str (pa_cons pe_str (pa_cons pe_str (pa_cons pe_str (pa_cons pe_str (pa_cons pe_str (pa_cons pe_str (pa_cons pe_str (pa_cons pe_str (pa_cons pe_str (pa_cons pe_str (pa_cons pe_str (pa_cons pe_str (pa_cons pe_str (pa_cons pe_str (pa_cons pe_str pa_nil))))))))))))))))))
        (pss_cons (ps_set (i := 2) sc__law_string.nd rfl (.inr rfl) (pe_op op_cat (pv 2) (pe_lst (pa_cons pe_str (pa_cons pe_str (pa_cons pe_str (pa_cons pe_str (pa_cons pe_str (pa_cons pe_str pa_nil)))))))))
        (pss_one (ps_ret (pe_join pe_str (pe_lc (own := [("_law_k", 3)]) (g := (gName 3)) (tt := tYes) (by rfl) sc__law_string.nd (pi_range1 (by rfl) T.z_range (pa_cons (pe_op op_add pe_int (pe_call (ok__law_draw T) (hr.mono (by decide)) (by rfl) T.g__law_draw T.f__law_draw.kp T.b__law_draw .nil pass0 (pa_cons (pv 0) (pa_cons (pv 1) pa_nil)))) pa_nil)) (blkOk_by (own := [("_law_k", 3)]) (N := ["_law_well_here", "_law_most", "_law_signs", "_law_k"]) (sc := defScope s__law_string) (by decide +kernel)) (fun _ _ _ _ _ => (pg_name (i := 3) sc__law_string.nd rfl (Or.inl rfl))) (fun _ _ _ _ _ => pts_nil) (fun _ _ _ _ _ => (pe_call (ok__law_one T) (hr.mono (by decide)) (by rfl) T.g__law_one T.f__law_one.kp T.b__law_one .nil pass0 (pa_cons (pv 0) (pa_cons (pv 2) pa_nil)))))))))), ?_⟩
    refine ⟨(by show 16 ≤ sizeLine; decide), fun p1 n1 => ?_⟩
    generalize hx1 : ([_, _, _, _, _, _, _, _, _, _, _, _, _, _, _, _] : List V) = xs1
    have l1 : xs1.length = 16 := by rw [← hx1]; rfl
    have g1 : xs1.all isSign = true := by rw [← hx1]; decide +kernel
    clear hx1
    refine ⟨_, rfl, (by show 6 ≤ sizeLine; decide), fun p2 n2 => ?_⟩
    generalize hx2 : ([_, _, _, _, _, _] : List V) = xs2
    have l2 : xs2.length = 6 := by rw [← hx2]; rfl
    have g2 : xs2.all isSign = true := by rw [← hx2]; decide +kernel
    clear hx2
    refine ⟨p1, p2, xs1, xs2, rfl, rfl, by rw [upd_ne (ne_of_none upd_same n2)]; exact upd_same, upd_same, (by rw [l1, l2]; decide), fun p n => ?_⟩
    have lms : (xs1 ++ xs2).length = 22 := by rw [List.length_append, l1, l2]
    have sms : (xs1 ++ xs2).all isSign = true := by rw [List.all_append, g1, g2]; rfl
    generalize xs1 ++ xs2 = ms at lms sms ⊢
    have npL : p ≠ L := ((hW.new n1).new n2).ne n
    have k1 : Keeps L H (upd (upd (upd H p1 (.lst xs1)) p2 (.lst xs2)) p (.lst ms)) := ((Keeps.new (L := L) n1).trans (Keeps.new n2)).trans (Keeps.new (o := .lst ms) n)
    have w1 : Well3 (upd (upd (upd H p1 (.lst xs1)) p2 (.lst xs2)) p (.lst ms)) L := ((hW.new n1).new n2).new (o := .lst ms) n
    have hp : (upd (upd (upd H p1 (.lst xs1)) p2 (.lst xs2)) p (.lst ms)) p = some (.lst ms) := upd_same
    generalize upd (upd (upd H p1 (.lst xs1)) p2 (.lst xs2)) p (HO.lst ms) = H1 at w1 k1 hp ⊢
    refine ⟨⟨_, rfl⟩, _, rfl, _, rfl, L, m, rfl, by omega, by omega, w1, fun H2 d k2 w2 h0 h1 => ?_⟩
    refine ⟨_, _, rfl, rfl, _, rfl, by omega, by omega, fun D nD => ?_⟩
    have nDL : D ≠ L := w2.ne nD
    have hp2 := k2 _ _ npL hp
    have nDp : D ≠ p := (ne_of_none hp2 nD).symm
    have nD0 : H D = none := (k1.trans k2).free nD nDL
    refine lc_range (lo := 0) (n := (1 + d).toNat) (fun i H' => Keeps L H H' ∧ Well3 H' L ∧ H' p = some (.lst ms) ∧ ∃ l : List Nat, H' D = some (.lst (l.map fun c => V.str (S [c]))) ∧ l.length = i ∧ ∀ c ∈ l, c < 128) ?_ ?_ ?_
    · exact ⟨keeps_upd (k1.trans k2) nD0, w2.new nD, by rw [upd_ne nDp.symm]; exact hp2, [], upd_same, rfl, fun c hc => by cases hc⟩
    · rintro i H3 hi ⟨k3, w3, hp3, l, hD, hl, hc⟩
      refine ⟨rfl, _, rfl, _, rfl, L, p, ms, rfl, SqL.of hp3, npL, (by intro e; rw [e] at lms; cases lms), by omega, w3, fun H4 v k4 w4 hv => ?_⟩
      obtain ⟨c, rfl, hc2⟩ := isSign_of (List.all_eq_true.mp sms v hv)
      refine ⟨_, k4 _ _ nDL hD, by rw [List.length_map, sizeLine_eq]; omega, keeps_upd (k3.trans k4) nD0, w4.upd nDL, by rw [upd_ne nDp.symm]; exact k4 _ _ npL hp3, l ++ [c], by rw [upd_same, List.map_append]; rfl, by rw [List.length_append, hl]; rfl, fun x hx => ?_⟩
      rcases List.mem_append.mp hx with hx | hx
      · exact hc x hx
      · rw [List.mem_singleton.mp hx]
        exact hc2
    · rintro H3 ⟨k3, w3, hp3, l, hD, hl, hc⟩
      have e1 : (l.map fun c => V.str (S [c])) = ((l.map fun c => [c]).map S).map V.str := by
        rw [List.map_map, List.map_map]
        rfl
      have e2 : (l.map fun c => [c]).flatten = l := by
        clear hD hl hc e1
        induction l with
        | nil => rfl
        | cons c r ih => rw [List.map_cons, List.flatten_cons, ih]; rfl
      rw [e1] at hD
      have hle : l.length ≤ m := by omega
      refine ⟨_, D, (l.map fun c => [c]).map S, rfl, rfl, .inl (SqL.of hD), ?_, ?_⟩
      · rw [sum_S, e2, lit_em, S_len]
        show l.length + _ * 0 ≤ _
        omega
      · rw [lit_em, My.join_nil, e2]
        exact q H3 l k3 w3 ⟨hle, hc⟩
def optV : Option (List Nat) → V
  | none => .non
  | some t => .str (S t)
theorem optV_dp {K : PySem.W.Frag} {H : Hp} (t : Option (List Nat)) : Dp K H (optV t) (optD t) := by
  cases t with
  | none => exact .non
  | some t => exact .str _
def isOpt : V → Bool
  | .non => true
  | v => isText v
theorem isOpt_of {v : V} (h : isOpt v = true) : ∃ t, v = optV t ∧ optSm t := by
  cases v with
  | non => exact ⟨none, rfl, trivial⟩
  | str z =>
    obtain ⟨l, e, hl⟩ := isText_of (v := .str z) h
    exact ⟨some l, e, low_sm hl⟩
  | _ => cases h
def sp__law_target (K : PySem.W.Frag) : Sp := fun vs H Q _ => ∃ (L : Addr), vs = [.ref L] ∧ Well3 H L ∧ ∀ H' p g t, Keeps L H H' → Well3 H' L → H p = none → H' p = some (.tup [.str (S g), optV t]) → Sm g → optSm t → Q (.ref p) H'
theorem text_S {l : List Nat} (h : ∀ c ∈ l, c < 128) : isText (.str (S l)) = true := by
  unfold isText S
  simpa using h
theorem rep_low {l : List Nat} (h : ∀ c ∈ l, c < 128) (j : Nat) : ∀ c ∈ (List.replicate j l).flatten, c < 128 := fun c hc => by
  obtain ⟨x, hx, hc⟩ := List.mem_flatten.mp hc
  rw [(List.mem_replicate.mp hx).2] at hc
  exact h c hc
theorem lit_long : ("/long" : Str) = S [47, 108, 111, 110, 103] ∧ ("a <b" : Str) = S [97, 32, 60, 98] := by decide +kernel
theorem ok__law_target {P : Program} {w : World} {K : PySem.W.Frag} {mg : Str → Option Value} {base : Heap} (T : Txt K mg) : FnOk P w K mg base CX0 4 T.a__law_target T.d__law_target ["_law_well_here"] (sp__law_target K) := by
  refine T.f__law_target.ok sc__law_target (fun vs H Q E h => ?_) (fun cdv A outer s H vs Q E hr h => ?_)
  · obtain ⟨L, rfl, _⟩ := h
    rfl
  · obtain ⟨L, rfl, hW, q⟩ := h
    refine ⟨_, (pss_cons (ps_set (i := 1) sc__law_target.nd rfl (.inl rfl) (pe_call (ok__law_one T) (hr.mono (by decide)) (by rfl) T.g__law_one T.f__law_one.kp T.b__law_one .nil pass0 (pa_cons (pv 0) (pa_cons (pe_lst (pa_cons pe_str (pa_cons pe_str (pa_cons pe_str (pa_cons pe_str (pa_cons (pe_call (ok__law_string T) (hr.mono (by decide)) (by rfl) T.g__law_string T.f__law_string.kp T.b__law_string .nil pass0 (pa_cons (pv 0) (pa_cons pe_int pa_nil))) (pa_cons (pe_op op_mul_txt pe_str (pe_call (ok__law_draw T) (hr.mono (by decide)) (by rfl) T.g__law_draw T.f__law_draw.kp T.b__law_draw .nil pass0 (pa_cons (pv 0) (pa_cons pe_int pa_nil)))) pa_nil))))))) pa_nil))))
        (pss_one (ps_ret (pe_tup (pa_cons (pv 1) (pa_cons (pe_call (ok__law_one T) (hr.mono (by decide)) (by rfl) T.g__law_one T.f__law_one.kp T.b__law_one .nil pass0 (pa_cons (pv 0) (pa_cons (pe_lst (pa_cons pe_non (pa_cons pe_non (pa_cons pe_str (pa_cons pe_str (pa_cons (pe_call (ok__law_string T) (hr.mono (by decide)) (by rfl) T.g__law_string T.f__law_string.kp T.b__law_string .nil pass0 (pa_cons (pv 0) (pa_cons pe_int pa_nil))) (pa_cons (pe_op op_mul_txt pe_str (pe_call (ok__law_draw T) (hr.mono (by decide)) (by rfl) T.g__law_draw T.f__law_draw.kp T.b__law_draw .nil pass0 (pa_cons (pv 0) (pa_cons pe_int pa_nil)))) pa_nil))))))) pa_nil))) pa_nil)))))), ?_⟩
    obtain ⟨e1, e2⟩ := lit_long
    refine ⟨_, rfl, _, rfl, L, 5, rfl, by decide, by decide, hW, fun H1 l1 k1 w1 d1 => ⟨_, rfl, L, 40, rfl, by decide, by decide, w1, fun H2 d k2 w2 h0 h1 => ?_⟩⟩
    refine ⟨_, d.toNat, by rw [e1], by rw [Int.toNat_of_nonneg h0], by decide, by decide, by omega, (by show 6 ≤ sizeLine; decide), fun p np => ?_⟩
    have npL : p ≠ L := w2.ne np
    refine ⟨L, p, _, rfl, SqL.of upd_same, npL, by simp, by show 6 < 1000000; decide, w2.new np, fun H3 v k3 w3 hv => ?_⟩
    have hg : ∃ g, v = .str (S g) ∧ ∀ c ∈ g, c < 128 := by
      refine isText_of ?_
      have : ∀ v ∈ [V.str "", V.str "/u", V.str "a b", V.str "<&>\"", V.str (S l1), V.str (S (List.replicate d.toNat [47, 108, 111, 110, 103]).flatten)], isText v = true := by
        intro v hv
        simp only [List.mem_cons, List.not_mem_nil, or_false] at hv
        rcases hv with rfl | rfl | rfl | rfl | rfl | rfl
        · decide +kernel
        · decide +kernel
        · decide +kernel
        · decide +kernel
        · exact text_S d1.2
        · exact text_S (rep_low (by decide) _)
      exact this v hv
    obtain ⟨g, rfl, hg⟩ := hg
    refine ⟨_, rfl, _, rfl, _, rfl, L, 5, rfl, by decide, by decide, w3, fun H4 l2 k4 w4 d2 => ⟨_, rfl, L, 50, rfl, by decide, by decide, w4, fun H5 d' k5 w5 h0' h1' => ?_⟩⟩
    refine ⟨_, d'.toNat, by rw [e2], by rw [Int.toNat_of_nonneg h0'], by decide, by decide, by omega, (by show 6 ≤ sizeLine; decide), fun p2 np2 => ?_⟩
    have np2L : p2 ≠ L := w5.ne np2
    refine ⟨L, p2, _, rfl, SqL.of upd_same, np2L, by simp, by show 6 < 1000000; decide, w5.new np2, fun H6 v k6 w6 hv => ?_⟩
    have ht : ∃ t, v = optV t ∧ optSm t := by
      refine isOpt_of ?_
      have : ∀ v ∈ [V.non, V.non, V.str "", V.str "t", V.str (S l2), V.str (S (List.replicate d'.toNat [97, 32, 60, 98]).flatten)], isOpt v = true := by
        intro v hv
        simp only [List.mem_cons, List.not_mem_nil, or_false] at hv
        rcases hv with rfl | rfl | rfl | rfl | rfl | rfl
        · rfl
        · rfl
        · decide +kernel
        · decide +kernel
        · exact text_S d2.2
        · exact text_S (rep_low (by decide) _)
      exact this v hv
    obtain ⟨t, rfl, ht⟩ := ht
    have kk : Keeps L H H6 := ((((k1.trans k2).trans (.new np)).trans k3).trans ((k4.trans k5).trans (.new np2))).trans k6
    exact ⟨(by show 2 ≤ sizeLine; decide), fun r nr => q _ r g t (kk.trans (.new nr)) (w6.new nr) (kk.free nr (w6.ne nr)) upd_same (low_sm hg) ht⟩

/-! ### drawn inlines -/
def sp__law_inline (K : PySem.W.Frag) (n : Nat) : Sp := fun vs H Q _ => ∃ (L : Addr) (z : Int) (deep : Nat) (b1 b2 : Bool), vs = [.ref L, .int z, .bl b1, .bl b2] ∧ z = (deep : Int) ∧ deep < n ∧ Well3 H L ∧
  ∀ H' v x, Keeps L H H' → Well3 H' L → Dp K H' v (Inl.toD x) → Bd 3 deep x → Q v H'
def sp__law_row (K : PySem.W.Frag) (n : Nat) : Sp := fun vs H Q _ => ∃ (L : Addr) (z : Int) (deep : Nat) (b1 b2 : Bool), vs = [.ref L, .int z, .bl b1, .bl b2] ∧ z = (deep : Int) ∧ deep < n ∧ n ≤ 10 ∧ Well3 H L ∧
  ∀ H' v r, Keeps L H H' → Well3 H' L → Dp K H' v (.tuple (rowD r)) → r.length ≤ 3 → (∀ y ∈ r, Bd 3 deep y) → Q v H'
theorem at2l {x y z : V} : atI [x, y, z] 2 = some z := atI_nat (j := 2) rfl
theorem at2a {x y : V} {d : Int} (h : d = 2) : atI [x, y] (d - 2) = some x := by
  subst h
  exact atI_nat (j := 0) rfl
theorem at2b {x y : V} {d : Int} (h : d = 3) : atI [x, y] (d - 2) = some y := by
  subst h
  exact atI_nat (j := 1) rfl
theorem at5 {x y : V} {d : Int} (h : d = 5 ∨ d = 6) : ∃ v, atI [x, y] (d - 5) = some v ∧ (v = x ∨ v = y) := by
  rcases h with rfl | rfl
  · exact ⟨x, atI_nat (j := 0) rfl, .inl rfl⟩
  · exact ⟨y, atI_nat (j := 1) rfl, .inr rfl⟩
theorem htmls_low : ∀ v ∈ ([.str "<b>", .str "</b>", .str "<!-- c -->", .str "<a\nb>"] : List V), isText v = true := by
  have : ([.str "<b>", .str "</b>", .str "<!-- c -->", .str "<a\nb>"] : List V).all isText = true := by decide +kernel
  exact List.all_eq_true.mp this
theorem dp_one {K : PySem.W.Frag} {H : Hp} {p : Addr} {z : Str} (h : H p = some (.tup [.str z])) : Dp K H (.ref p) (.tuple [.str z]) := .tup (SqT.of h) (.cons (.str _) .nil)
theorem dp_two {K : PySem.W.Frag} {H : Hp} {p : Addr} {z : Str} {u : V} {d : PyData} (h : H p = some (.tup [.str z, u])) (hu : Dp K H u d) : Dp K H (.ref p) (.tuple [.str z, d]) := .tup (SqT.of h) (.cons (.str _) (.cons hu .nil))
theorem dp_four {K : PySem.W.Frag} {H : Hp} {p : Addr} {z y : Str} {t u : V} {d d2 : PyData} (h : H p = some (.tup [.str z, .str y, t, u])) (ht : Dp K H t d) (hu : Dp K H u d2) : Dp K H (.ref p) (.tuple [.str z, .str y, d, d2]) :=
  .tup (SqT.of h) (.cons (.str _) (.cons (.str _) (.cons ht (.cons hu .nil))))
theorem ok__law_inline {P : Program} {w : World} {K : PySem.W.Frag} {mg : Str → Option Value} {base : Heap} (T : Txt K mg) (n : Nat) (GR : FnOk P w K mg base CX0 (6 + 2 * n) T.a__law_row T.d__law_row ["_law_well_here", "_law_deep", "_law_is_linked", "_law_has_html"] (sp__law_row K n)) (hn : n ≤ 10) :
    FnOk P w K mg base CX0 (6 + 2 * n + 1) T.a__law_inline T.d__law_inline ["_law_well_here", "_law_deep", "_law_is_linked", "_law_has_html"] (sp__law_inline K (n + 1)) := by
  refine T.f__law_inline.ok sc__law_inline (fun vs H Q E h => ?_) (fun cdv A outer s H vs Q E hr h => ?_)
  · obtain ⟨L, z, deep, b1, b2, rfl, _⟩ := h
    rfl
  · obtain ⟨L, z, deep, b1, b2, rfl, rfl, hd, ⟨x0, y0, z0, hL⟩, q⟩ := h
    refine ⟨_, (pss_cons (ps_asg (pe_op op_sub (pe_ix ix_list (pv 0) pe_int (fun _ _ => rfl)) pe_int) (pg_sub (pv 0) pe_int set_list))
        (pss_cons (ps_set (i := 4) sc__law_inline.nd rfl (.inl rfl) (pe_call (ok__law_draw T) (hr.mono (by omega)) (by rfl) T.g__law_draw T.f__law_draw.kp T.b__law_draw .nil pass0 (pa_cons (pv 0) (pa_cons (pe_ifExp (pt_cmpR op_gt (pv 1) pe_int (nomark _)) pe_int pe_int) pa_nil))))
        (pss_cons (ps_if (PW.pt (pw_and (pt_cmpR op_eq (pv 4) pe_int (nomark _)) (pw_and1 (pt_val (pv 3))))) (pss_one (ps_ret (pe_tup (pa_cons pe_str (pa_cons (pe_call (ok__law_one T) (hr.mono (by omega)) (by rfl) T.g__law_one T.f__law_one.kp T.b__law_one .nil pass0 (pa_cons (pv 0) (pa_cons (pe_lst (pa_cons pe_str (pa_cons pe_str (pa_cons pe_str (pa_cons pe_str pa_nil))))) pa_nil))) pa_nil))))) pss_nil)
        (pss_cons (ps_if (pt_cmpR op_lt (pv 4) pe_int (nomark _)) (pss_one (ps_ret (pe_tup (pa_cons pe_str (pa_cons (pe_call (ok__law_string T) (hr.mono (by omega)) (by rfl) T.g__law_string T.f__law_string.kp T.b__law_string .nil pass0 (pa_cons (pv 0) (pa_cons pe_int pa_nil))) pa_nil))))) pss_nil)
        (pss_cons (ps_if (pt_cmpR op_lt (pv 4) pe_int (nomark _)) (pss_one (ps_ret (pe_ix ix_list (pe_lst (pa_cons (pe_tup (pa_cons pe_str pa_nil)) (pa_cons (pe_tup (pa_cons pe_str (pa_cons (pe_call (ok__law_string T) (hr.mono (by omega)) (by rfl) T.g__law_string T.f__law_string.kp T.b__law_string .nil pass0 (pa_cons (pv 0) (pa_cons pe_int pa_nil))) pa_nil))) pa_nil))) (pe_op op_sub (pv 4) pe_int) (fun _ _ => rfl)))) pss_nil)
        (pss_cons (ps_if (pt_cmpR op_eq (pv 4) pe_int (nomark _)) (pss_one (ps_ret (pe_tup (pa_cons pe_str pa_nil)))) pss_nil)
        (pss_cons (ps_if (pt_cmpR op_lt (pv 4) pe_int (nomark _)) (pss_one (ps_ret (pe_tup (pa_cons (pe_ix ix_list (pe_lst (pa_cons pe_str (pa_cons pe_str pa_nil))) (pe_op op_sub (pv 4) pe_int) (fun _ _ => rfl)) (pa_cons (pe_orT (pe_call GR (hr.mono (by omega)) (by rfl) T.g__law_row T.f__law_row.kp T.b__law_row .nil pass0 (pa_cons (pv 0) (pa_cons (pe_op op_sub (pv 1) pe_int) (pa_cons (pv 2) (pa_cons (pv 3) pa_nil))))) (pe_one (pe_tup (pa_cons (pe_tup (pa_cons pe_str pa_nil)) pa_nil)))) pa_nil))))) pss_nil)
        (pss_cons (ps_asg (pe_call (ok__law_target T) (hr.mono (by omega)) (by rfl) T.g__law_target T.f__law_target.kp T.b__law_target .nil pass0 (pa_cons (pv 0) pa_nil)) (pg_tup (by rfl) (pgs_cons (pg_name (i := 5) sc__law_inline.nd rfl (.inl rfl)) (pgs_cons (pg_name (i := 6) sc__law_inline.nd rfl (.inl rfl)) pgs_nil))))
        (pss_cons (ps_if (PW.pt (pw_and (pt_cmpR op_eq (pv 4) pe_int (nomark _)) (pw_and1 (pt_not (pt_val (pv 2)))))) (pss_one (ps_ret (pe_tup (pa_cons pe_str (pa_cons (pv 5) (pa_cons (pv 6) (pa_cons (pe_call GR (hr.mono (by omega)) (by rfl) T.g__law_row T.f__law_row.kp T.b__law_row .nil pass0 (pa_cons (pv 0) (pa_cons (pe_op op_sub (pv 1) pe_int) (pa_cons pe_bl (pa_cons (pv 3) pa_nil))))) pa_nil))))))) pss_nil)
        (pss_one (ps_ret (pe_tup (pa_cons pe_str (pa_cons (pv 5) (pa_cons (pv 6) (pa_cons (pe_call GR (hr.mono (by omega)) (by rfl) T.g__law_row T.f__law_row.kp T.b__law_row .nil pass0 (pa_cons (pv 0) (pa_cons (pe_op op_sub (pv 1) pe_int) (pa_cons pe_bl (pa_cons (pv 3) pa_nil))))) pa_nil)))))))))))))))), ?_⟩
    refine ⟨_, rfl, L, _, _, _, rfl, rfl, SqL.of hL, at2l, _, _, rfl, rfl, _, rfl, L, _, _, 2, rfl, rfl, hL, rfl, ?_⟩
    have k1 : Keeps L H (upd H L (.lst ([V.int x0, V.int y0, V.int z0].set 2 (.int (z0 - 1))))) := .at
    have w1 : Well3 (upd H L (.lst ([V.int x0, V.int y0, V.int z0].set 2 (.int (z0 - 1))))) L := ⟨_, _, _, upd_same⟩
    generalize (upd H L (.lst ([V.int x0, V.int y0, V.int z0].set 2 (.int (z0 - 1))))) = H1 at k1 w1 ⊢
    refine ⟨_, rfl, tif_const (decide (0 < deep)) (fun Qb qb => ⟨_, rfl, _, _, rfl, rfl, _, rfl, ?_⟩) fun v hv => ?_⟩
    · have e : decide ((deep : Int) > 0) = decide (0 < deep) := decide_eq_decide.mpr (by omega)
      rw [e]
      exact qb
    obtain ⟨m, rfl, hm0, hm1, hm2⟩ : ∃ m : Int, v = .int m ∧ 0 < m ∧ m ≤ 9 ∧ (deep = 0 → m ≤ 4) := by
      by_cases c : 0 < deep
      · rw [if_pos (decide_eq_true c)] at hv
        exact ⟨9, hv, by decide, by decide, by omega⟩
      · rw [if_neg (by simpa using c)] at hv
        exact ⟨4, hv, by decide, by decide, fun _ => by decide⟩
    refine ⟨L, m, rfl, hm0, by omega, w1, fun H2 d k2 w2 d0 dm => ?_⟩
    have kk := k1.trans k2
    have nsub : ∀ {p : Addr}, H2 p = none → H p = none := fun {p} np => kk.free np (w2.ne np)
    refine if_g (bb := decide (d = 0) && b2) (andB' (fun Qb qb => ⟨_, rfl, rfl, _, rfl, by rw [decide_eq_decide.mpr (show V.int d = V.int 0 ↔ d = 0 from ⟨fun h => V.int.inj h, fun h => by rw [h]⟩)]; exact qb⟩) (fun Qb qb => ⟨_, rfl, _, rfl, qb⟩)) ?_
    cases c0 : decide (d = 0) && b2 with
    | true =>
      refine iteT ?_
      refine ⟨_, rfl, (by show 4 ≤ sizeLine; decide), fun p np => ?_⟩
      refine ⟨L, p, _, rfl, SqL.of upd_same, w2.ne np, by simp, by show 4 < 1000000; decide, w2.new np, fun H3 v k3 w3 hv => ?_⟩
      obtain ⟨t, rfl, ht⟩ := isText_of (htmls_low v hv)
      exact ⟨(by show 2 ≤ sizeLine; decide), fun r nr => q _ _ (.html t) (((kk.trans (.new np)).trans k3).trans (.new nr)) (w3.new nr) (dp_two upd_same (.str _)) (.leaf (low_sm ht))⟩
    | false =>
      refine iteF ?_
      refine if_n (bb := decide (d < 2)) (fun Qb qb => ⟨_, rfl, _, _, rfl, rfl, _, rfl, qb⟩) ?_
      cases c2 : decide (d < 2) with
      | true =>
        refine iteT ?_
        refine ⟨_, rfl, L, 5, rfl, by decide, by decide, w2, fun H3 t k3 w3 dt => ?_⟩
        exact ⟨(by show 2 ≤ sizeLine; decide), fun r nr => q _ _ (.text t) ((kk.trans k3).trans (.new nr)) (w3.new nr) (dp_two upd_same (.str _)) (.leaf ⟨Nat.le_trans dt.1 (by decide), low_sm dt.2⟩)⟩
      | false =>
        have h2 : 2 ≤ d := by have := of_decide_eq_false c2; omega
        refine iteF ?_
        refine if_n (bb := decide (d < 4)) (fun Qb qb => ⟨_, rfl, _, _, rfl, rfl, _, rfl, qb⟩) ?_
        cases c4 : decide (d < 4) with
        | true =>
          have h4 := of_decide_eq_true c4
          refine iteT ?_
          refine ⟨(by show 1 ≤ sizeLine; decide), fun p1 np1 => ⟨_, rfl, L, 4, rfl, by decide, by decide, w2.new np1, fun H3 t k3 w3 dt => ⟨(by show 2 ≤ sizeLine; decide), fun p2 np2 => ⟨(by show 2 ≤ sizeLine; decide), fun p3 np3 => ?_⟩⟩⟩⟩
          have hp1 : H3 p1 = some (.tup [.str "soft"]) := k3 _ _ (w2.ne np1) upd_same
          have hp1' : (upd (upd H3 p2 (.tup [.str "code", .str (S t)])) p3 (.lst [.ref p1, .ref p2])) p1 = some (.tup [.str "soft"]) := (same_new np3) _ _ ((same_new np2) _ _ hp1)
          have hp2' : (upd (upd H3 p2 (.tup [.str "code", .str (S t)])) p3 (.lst [.ref p1, .ref p2])) p2 = some (.tup [.str "code", .str (S t)]) := (same_new np3) _ _ upd_same
          have hp3' : (upd (upd H3 p2 (.tup [.str "code", .str (S t)])) p3 (.lst [.ref p1, .ref p2])) p3 = some (.lst [.ref p1, .ref p2]) := upd_same
          have k5 : Keeps L H (upd (upd H3 p2 (.tup [.str "code", .str (S t)])) p3 (.lst [.ref p1, .ref p2])) := (((kk.trans (.new np1)).trans k3).trans (.new np2)).trans (.new np3)
          have w5 := (w3.new (o := .tup [.str "code", .str (S t)]) np2).new (o := .lst [.ref p1, .ref p2]) np3
          by_cases c3 : d = 2
          · exact ⟨_, rfl, _, _, rfl, rfl, p3, _, _, _, rfl, rfl, SqL.of hp3', at2a c3, q _ _ .soft k5 w5 (dp_one hp1') (.leaf trivial)⟩
          · exact ⟨_, rfl, _, _, rfl, rfl, p3, _, _, _, rfl, rfl, SqL.of hp3', at2b (by omega), q _ _ (.code t) k5 w5 (dp_two hp2' (.str _)) (.leaf ⟨Nat.le_trans dt.1 (by decide), low_sm dt.2⟩)⟩
        | false =>
          have h4 : 4 ≤ d := by have := of_decide_eq_false c4; omega
          have hdeep : 0 < deep := by
            rcases Nat.eq_zero_or_pos deep with e | e
            · have := hm2 e
              omega
            · exact e
          obtain ⟨d1, rfl⟩ : ∃ d1, deep = d1 + 1 := ⟨deep - 1, by omega⟩
          refine iteF ?_
          refine if_n (bb := decide (d = 4)) (fun Qb qb => ⟨_, rfl, rfl, _, rfl, by rw [decide_eq_decide.mpr (show V.int d = V.int 4 ↔ d = 4 from ⟨fun h => V.int.inj h, fun h => by rw [h]⟩)]; exact qb⟩) ?_
          cases c5 : decide (d = 4) with
          | true =>
            refine iteT ?_
            exact ⟨(by show 1 ≤ sizeLine; decide), fun r nr => q _ _ .hard (kk.trans (.new nr)) (w2.new nr) (dp_one upd_same) (.leaf trivial)⟩
          | false =>
            have h5 : 5 ≤ d := by have := of_decide_eq_false c5; omega
            refine iteF ?_
            refine if_n (bb := decide (d < 7)) (fun Qb qb => ⟨_, rfl, _, _, rfl, rfl, _, rfl, qb⟩) ?_
            cases c7 : decide (d < 7) with
            | true =>
              have h7 := of_decide_eq_true c7
              refine iteT ?_
              obtain ⟨v, hv, hvv⟩ := at5 (x := V.str "emph") (y := V.str "strong") (d := d) (by omega)
              refine ⟨(by show 2 ≤ sizeLine; decide), fun p1 np1 => ⟨_, rfl, _, _, rfl, rfl, p1, _, _, v, rfl, rfl, SqL.of upd_same, hv, ?_⟩⟩
              refine ⟨_, rfl, _, rfl, _, _, rfl, rfl, _, rfl, _, rfl, L, _, d1, b1, b2, rfl, by omega, by omega, hn, w2.new np1, fun H3 u r k3 w3 hu hl hb => ?_⟩
              obtain ⟨a, us, rfl, sqa, dps⟩ := dp_tup hu
              have hus : us.isEmpty = r.isEmpty := by
                cases r with
                | nil => cases dpAll_0 dps; rfl
                | cons y r => obtain ⟨_, _, rfl, _⟩ := dpAll_c dps; rfl
              refine ⟨!us.isEmpty, .inr (.inl ⟨us, sqa, rfl⟩), ?_⟩
              have fin : ∀ (H4 : Hp) (u : V) (r : List Inl), Keeps L H H4 → Well3 H4 L → Dp K H4 u (.tuple (rowD r)) → r.length ≤ 3 → (∀ y ∈ r, Bd 3 d1 y) → ∀ p, H4 p = none → Q (.ref p) (upd H4 p (.tup [v, u])) := fun H4 u r k4 w4 hu hl hb p np => by
                rcases hvv with rfl | rfl
                · exact q _ _ (.emph r) (k4.trans (.new np)) (w4.new np) (dp_two upd_same (dp_same (same_new np) hu)) ⟨hl, hb⟩
                · exact q _ _ (.strong r) (k4.trans (.new np)) (w4.new np) (dp_two upd_same (dp_same (same_new np) hu)) ⟨hl, hb⟩
              have k3' : Keeps L H H3 := (kk.trans (.new np1)).trans k3
              cases ce : us.isEmpty with
              | false => exact iteT ⟨(by show 2 ≤ sizeLine; decide), fun p np => fin H3 _ r k3' w3 hu hl hb p np⟩
              | true =>
                refine iteF ⟨(by show 1 ≤ sizeLine; decide), fun p2 np2 => ⟨(by show 1 ≤ sizeLine; decide), fun p3 np3 => ⟨(by show 2 ≤ sizeLine; decide), fun p np => ?_⟩⟩⟩
                refine fin _ _ [.soft] ((k3'.trans (.new np2)).trans (.new np3)) ((w3.new np2).new np3) (.tup (SqT.of upd_same) (.cons (dp_one ((same_new np3) _ _ upd_same)) .nil)) (by decide) (fun y hy => ?_) p np
                rw [List.mem_singleton.mp hy]
                exact .leaf trivial
            | false =>
              refine iteF ?_
              refine ⟨_, rfl, L, rfl, w2, fun H3 p g t k3 w3 np hp hg ht => ?_⟩
              refine ⟨p, _, rfl, SqT.of hp, rfl, _, _, rfl, _, _, rfl, rfl, ?_⟩
              have kk3 := kk.trans k3
              have fin : ∀ (H4 : Hp) (u : V) (r : List Inl), Keeps L H3 H4 → Well3 H4 L → Dp K H4 u (.tuple (rowD r)) → r.length ≤ 3 → (∀ y ∈ r, Bd 3 d1 y) → ∀ p, H4 p = none → Q (.ref p) (upd H4 p (.tup [.str "link", .str (S g), optV t, u])) ∧ Q (.ref p) (upd H4 p (.tup [.str "image", .str (S g), optV t, u])) := fun H4 u r k4 w4 hu hl hb p np => 
                ⟨q _ _ (.link g t r) ((kk3.trans k4).trans (.new np)) (w4.new np) (dp_four upd_same (optV_dp t) (dp_same (same_new np) hu)) ⟨hg, ht, hl, hb⟩,
                 q _ _ (.image g t r) ((kk3.trans k4).trans (.new np)) (w4.new np) (dp_four upd_same (optV_dp t) (dp_same (same_new np) hu)) ⟨hg, ht, hl, hb⟩⟩
              refine if_g (bb := decide (d = 7) && !b1) (andB' (fun Qb qb => ⟨_, rfl, rfl, _, rfl, by rw [decide_eq_decide.mpr (show V.int d = V.int 7 ↔ d = 7 from ⟨fun h => V.int.inj h, fun h => by rw [h]⟩)]; exact qb⟩) (fun Qb qb => ⟨_, rfl, _, rfl, qb⟩)) ?_
              cases c8 : decide (d = 7) && !b1 with
              | true =>
                refine iteT ⟨_, rfl, _, rfl, _, rfl, _, rfl, _, _, rfl, rfl, _, rfl, L, _, d1, true, b2, rfl, by omega, by omega, hn, w3, fun H4 u r k4 w4 hu hl hb => ?_⟩
                exact ⟨(by show 4 ≤ sizeLine; decide), fun p2 np2 => (fin H4 u r k4 w4 hu hl hb p2 np2).1⟩
              | false =>
                refine iteF ⟨_, rfl, _, rfl, _, rfl, _, rfl, _, _, rfl, rfl, _, rfl, L, _, d1, false, b2, rfl, by omega, by omega, hn, w3, fun H4 u r k4 w4 hu hl hb => ?_⟩
                exact ⟨(by show 4 ≤ sizeLine; decide), fun p2 np2 => (fin H4 u r k4 w4 hu hl hb p2 np2).2⟩

/-! ### drawn rows -/
theorem shaped_row {r : List Inl} {d : Nat} (hd : d ≤ 20) (h : ∀ y ∈ r, Bd 3 d y) : SeqAt.shaped (.list (rowD r)) = true := by
  show (PyData.canLayAll0 (rowD r) && decide (PyData.depthAll (rowD r) + 1 ≤ 64)) = true
  have h2 := depthAll_le (r := r) (k := 2 * d + 1) fun y hy => (Bd.lay (h y hy)).2
  rw [layAll fun y hy => (Bd.lay (h y hy)).1, decide_eq_true (by omega)]
  rfl
theorem atLast {xs : List V} {x : V} : atI (xs ++ [x]) (-1) = some x := by
  have e : ixN (xs ++ [x]).length (-1) = some xs.length := by
    unfold ixN
    rw [if_neg (by decide), if_pos (by rw [List.length_append, List.length_singleton]; omega)]
    congr 1
    rw [List.length_append, List.length_singleton]
    omega
  unfold atI
  rw [e]
  show (xs ++ [x])[xs.length]? = some x
  rw [List.getElem?_append_right (Nat.le_refl _), Nat.sub_self]
  rfl
theorem rowD_app : ∀ a b : List Inl, rowD (a ++ b) = rowD a ++ rowD b
  | [], b => rfl
  | x :: a, b => by
    show x.toD :: rowD (a ++ b) = x.toD :: (rowD a ++ rowD b)
    rw [rowD_app a b]
theorem dpAll_app {K : PySem.W.Frag} {H : Hp} : ∀ {vs us : List V} {ds es : List PyData}, DpAll K H vs ds → DpAll K H us es → DpAll K H (vs ++ us) (ds ++ es)
  | _, _, _, _, .nil, g => g
  | _, _, _, _, .cons h r, g => .cons h (dpAll_app r g)
theorem dpAll_keep {K : PySem.W.Frag} {H H' : Hp} {L : Addr} {vs : List V} {ds : List PyData} (k : Keeps L H H') (hL : ∃ xs, H L = some (.lst xs)) (n : noListAll ds = true) (h : DpAll K H vs ds) : DpAll K H' vs ds := by
  have h1 := dpAll_rest (L := [L]) (fun b hb => by rw [List.mem_singleton.mp hb]; exact hL) n h
  refine dpAll_same (fun b o e => ?_) h1
  have hb : b ≠ L := fun z => by rw [z, rest_in (by simp)] at e; cases e
  rw [rest_out (by simpa using hb)] at e
  exact k b o hb e
theorem ok__law_row {P : Program} {w : World} {K : PySem.W.Frag} {mg : Str → Option Value} {base : Heap} (T : Txt K mg) (n : Nat) (GI : FnOk P w K mg base CX0 (6 + 2 * n + 1) T.a__law_inline T.d__law_inline ["_law_well_here", "_law_deep", "_law_is_linked", "_law_has_html"] (sp__law_inline K (n + 1))) :
    FnOk P w K mg base CX0 (6 + 2 * n + 1 + 1) T.a__law_row T.d__law_row ["_law_well_here", "_law_deep", "_law_is_linked", "_law_has_html"] (sp__law_row K (n + 1)) := by
  refine T.f__law_row.ok sc__law_row (fun vs H Q E h => ?_) (fun cdv A outer s H vs Q E hr h => ?_)
  · obtain ⟨L, z, deep, b1, b2, rfl, _⟩ := h
    rfl
  · obtain ⟨L, z, deep, b1, b2, rfl, rfl, hd, hn, hW, q⟩ := h
    obtain ⟨x0, y0, z0, hL⟩ := id hW
    refine ⟨_, (pss_cons (ps_set (i := 4) sc__law_row.nd rfl (.inl rfl) (pe_lst pa_nil))
        (pss_cons (ps_for PassesOwn.never rfl (pi_range1 (by rfl) T.z_range (pa_cons (pe_ifExp (pt_cmpR op_gt (pe_ix ix_list (pv 0) pe_int (fun _ _ => rfl)) pe_int (nomark _)) (pe_call (ok__law_draw T) (hr.mono (by omega)) (by rfl) T.g__law_draw T.f__law_draw.kp T.b__law_draw .nil pass0 (pa_cons (pv 0) (pa_cons pe_int pa_nil))) pe_int) pa_nil)) (pg_name (i := 5) sc__law_row.nd rfl (.inl rfl)) (pss_cons (ps_set (i := 6) sc__law_row.nd rfl (.inl rfl) (pe_call GI (hr.mono (by omega)) (by rfl) T.g__law_inline T.f__law_inline.kp T.b__law_inline .nil pass0 (pa_cons (pv 0) (pa_cons (pv 1) (pa_cons (pv 2) (pa_cons (pv 3) pa_nil))))))
        (pss_one (ps_if (PW.pt (pw_or (pt_cmpR (op_eqD hr.units) (pv 4) (pe_lst pa_nil) (nomark _)) (pw_or (pt_cmpR op_ne (pe_ix ix_tup (pv 6) pe_int (fun _ _ => rfl)) pe_str (nomark _)) (pw_or1 (pt_cmpR op_ne (pe_ix ix_tup (pe_ix ix_list (pv 4) (pe_un un_neg pe_int) (fun _ _ => rfl)) pe_int (fun _ _ => rfl)) pe_str (nomark _)))))) (pss_one (ps_expr (pe_bm PySem.F.plainAttrs_list PySem.F.slot_list_append PySem.F.type_list_append mt_append (pv 4) (pa_cons (pv 6) pa_nil)))) pss_nil))))
        (pss_one (ps_ret (pe_callTy call_tuple_of (by rfl) T.z_tuple (by decide +kernel) (pa_cons (pv 4) pa_nil)))))), ?_⟩
    refine ⟨(by show 0 ≤ sizeLine; decide), fun D nD => ?_⟩
    have nDL : D ≠ L := hW.ne nD
    refine for_tif_g (fun v H' => ∃ k : Nat, v = .int (k : Int) ∧ k ≤ 3 ∧ Keeps L (upd H D (.lst [])) H' ∧ Well3 H' L) (decide (0 < z0)) (fun Qb qb => ⟨_, rfl, L, _, _, _, rfl, rfl, SqL.of (by rw [upd_ne nDL.symm]; exact hL), at2l, _, _, rfl, rfl, _, rfl, qb⟩) (fun _ => ?_) (fun _ => ?_) ?_
    · intro Qv qv
      exact ⟨_, rfl, L, 4, rfl, by decide, by decide, hW.new nD, fun H2 d k2 w2 d0 d1 => qv _ _ ⟨d.toNat, by rw [Int.toNat_of_nonneg d0], by omega, k2, w2⟩⟩
    · intro Qv qv
      exact qv _ _ ⟨0, rfl, by decide, .of (Same.refl _), hW.new nD⟩
    rintro v H2 ⟨k, rfl, hk, k2, w2⟩
    refine ⟨_, rfl, by omega, by omega, ?_⟩
    refine for_range (lo := 0) (n := (k : Int).toNat) (fun i σ' H' => ∃ vs r a5 a6, σ' = [some (.ref L), some (.int (deep : Int)), some (.bl b1), some (.bl b2), some (.ref D), a5, a6] ∧ Keeps L H H' ∧ Well3 H' L ∧ H' D = some (.lst vs) ∧ DpAll K H' vs (rowD r) ∧ r.length ≤ i ∧ ∀ y ∈ r, Bd 3 deep y) ?_ ?_ ?_
    · exact ⟨[], [], none, none, rfl, (Keeps.new nD).trans k2, w2, k2 _ _ nDL upd_same, .nil, Nat.le_refl _, fun y hy => by cases hy⟩
    · rintro i σ' H3 hi ⟨vs, r, a5, a6, rfl, k3, w3, hD, dps, hl, hb⟩
      refine ⟨_, rfl, _, rfl, _, rfl, _, rfl, L, _, deep, b1, b2, rfl, rfl, hd, w3, fun H4 v x k4 w4 hv hx => ?_⟩
      have hD4 : H4 D = some (.lst vs) := k4 _ _ nDL hD
      have dps4 : DpAll K H4 vs (rowD r) := dpAll_keep k4 w3.lst (noList_row r) dps
      have lvs : vs.length = r.length := by
        have := (dpAll_all2 dps4).1
        rw [rowD_map, List.length_map] at this
        exact this
      have kH4 := k3.trans k4
      have add : ∀ (H5 : Hp), Same H4 H5 → Keeps L H (upd H5 D (.lst (vs ++ [v]))) ∧ Well3 (upd H5 D (.lst (vs ++ [v]))) L ∧ (upd H5 D (.lst (vs ++ [v]))) D = some (.lst (vs ++ [v])) ∧ DpAll K (upd H5 D (.lst (vs ++ [v]))) (vs ++ [v]) (rowD (r ++ [x])) ∧ (r ++ [x]).length ≤ i + 1 ∧ ∀ y ∈ r ++ [x], Bd 3 deep y := fun H5 s5 => by
        refine ⟨keeps_upd (kH4.trans (.of s5)) nD, (w4.same s5).upd nDL, upd_same, ?_, by rw [List.length_append, List.length_singleton]; omega, fun y hy => ?_⟩
        · rw [rowD_app]
          refine dpAll_keep (L := D) Keeps.at ⟨vs, s5 _ _ hD4⟩ ?_ (dpAll_same s5 (dpAll_app dps4 (.cons hv .nil)))
          rw [← rowD_app]
          exact noList_row _
        · rcases List.mem_append.mp hy with hy | hy
          · exact hb y hy
          · rw [List.mem_singleton.mp hy]
            exact hx
      have small : vs.length < sizeLine := by rw [lvs, sizeLine_eq]; omega
      obtain ⟨a, rfl, ha⟩ := inl_at hv
      obtain ⟨zt, us, hsq⟩ : ∃ zt us, SqT K H4 a (.str zt :: us) := by cases ha <;> exact ⟨_, _, by assumption⟩
      refine ⟨_, rfl, (by show 0 ≤ sizeLine; decide), fun p np => ?_⟩
      have s5 := same_new (o := .lst []) np
      refine ⟨.list (rowD r), .list [], .lst (SqL.of (s5 _ _ hD4)) (dpAll_same s5 dps4), .lst (SqL.of upd_same) .nil, shaped_row (by omega) hb, rfl, _, rfl, ?_⟩
      cases r with
      | nil =>
        refine iteT ?_
        refine ⟨_, rfl, .inl ⟨rfl, _, SqL.of (s5 _ _ hD4)⟩, _, rfl, D, vs, _, rfl, rfl, s5 _ _ hD4, small, ?_⟩
        exact ⟨_, _, _, _, rfl, add _ s5⟩
      | cons y0 r0 =>
        refine ifF rfl ?_
        refine ⟨_, rfl, a, _, _, _, rfl, rfl, same_tup s5 hsq, at0, rfl, _, rfl, ite2 (fun _ => ?_) (fun _ => ?_)⟩
        · refine ⟨_, rfl, .inl ⟨rfl, _, SqL.of (s5 _ _ hD4)⟩, _, rfl, D, vs, _, rfl, rfl, s5 _ _ hD4, small, ?_⟩
          exact ⟨_, _, _, _, rfl, add _ s5⟩
        · -- the last one of those that were found
          obtain ⟨ys, yl, ey⟩ : ∃ ys yl, vs = ys ++ [yl] := by
            refine ⟨vs.dropLast, vs.getLast (fun e => ?_), (List.dropLast_concat_getLast _).symm⟩
            rw [e] at lvs
            cases lvs
          obtain ⟨xl, hxl⟩ : ∃ xl : Inl, Dp K H4 yl xl.toD := by
            have h2 := (dpAll_all2 dps4)
            rw [rowD_map] at h2
            have h3 := All2.map.mp h2
            have : vs[ys.length]? = some yl := by rw [ey, List.getElem?_append_right (Nat.le_refl _), Nat.sub_self]; rfl
            have hlt : ys.length < (y0 :: r0).length := by rw [← h3.1, ey]; simp
            exact ⟨_, h3.2 _ _ _ this (List.getElem?_eq_getElem hlt)⟩
          obtain ⟨al, rfl, hal⟩ := inl_at hxl
          obtain ⟨zl, usl, hsl⟩ : ∃ zt us, SqT K H4 al (.str zt :: us) := by cases hal <;> exact ⟨_, _, by assumption⟩
          refine ⟨_, rfl, _, rfl, D, vs, _, _, rfl, rfl, SqL.of (s5 _ _ hD4), by rw [ey]; exact atLast, al, _, _, _, rfl, rfl, same_tup s5 hsl, at0, rfl, _, rfl, ite2 (fun _ => ?_) (fun _ => ?_)⟩
          · refine ⟨_, rfl, .inl ⟨rfl, _, SqL.of (s5 _ _ hD4)⟩, _, rfl, D, vs, _, rfl, rfl, s5 _ _ hD4, small, ?_⟩
            exact ⟨_, _, _, _, rfl, add _ s5⟩
          · exact ⟨vs, y0 :: r0, _, _, rfl, kH4.trans (.of s5), w4.same s5, s5 _ _ hD4, dpAll_same s5 dps4, Nat.le_succ_of_le hl, hb⟩
    · rintro σ' H3 ⟨vs, r, a5, a6, rfl, k3, w3, hD, dps, hl, hb⟩
      refine ⟨_, rfl, D, vs, rfl, .inl ⟨SqL.of hD, fun p np => ?_⟩⟩
      exact q _ _ r (k3.trans (.new np)) (w3.new np) (.tup (SqT.of upd_same) (dpAll_same (same_new np) dps)) (by omega) hb

/-! ### both by the number of rows within one another -/
theorem fnOk_none {P : Program} {w : World} {K : PySem.W.Frag} {mg : Str → Option Value} {base : Heap} {k : Nat} {f : Addr} {fd : FuncData} {ps : List Str} {sp : Sp} (no : ∀ vs H Q E, ¬ sp vs H Q E) : FnOk P w K mg base CX0 k f fd ps sp :=
  ⟨fun vs H Q E h => absurd h (no vs H Q E), fun A outer s H args us vs Q E _ _ _ _ h => absurd h (no vs H Q E)⟩
theorem rows_ok {P : Program} {w : World} {K : PySem.W.Frag} {mg : Str → Option Value} {base : Heap} (T : Txt K mg) : ∀ n, n ≤ 10 → FnOk P w K mg base CX0 (6 + 2 * n) T.a__law_row T.d__law_row ["_law_well_here", "_law_deep", "_law_is_linked", "_law_has_html"] (sp__law_row K n)
  | 0, _ => fnOk_none fun vs H Q E h => by
    obtain ⟨_, _, deep, _, _, _, _, hd, _⟩ := h
    omega
  | n + 1, hn => by
    have e : 6 + 2 * (n + 1) = 6 + 2 * n + 1 + 1 := by omega
    rw [e]
    exact ok__law_row T n (ok__law_inline T n (rows_ok T n (by omega)) (by omega))
theorem row4 {P : Program} {w : World} {K : PySem.W.Frag} {mg : Str → Option Value} {base : Heap} (T : Txt K mg) : FnOk P w K mg base CX0 14 T.a__law_row T.d__law_row ["_law_well_here", "_law_deep", "_law_is_linked", "_law_has_html"] (sp__law_row K 4) := rows_ok T 4 (by decide)
/-! ### a chain -/
def sp__law_chain (K : PySem.W.Frag) : Sp := fun vs H Q _ => ∃ (L : Addr), vs = [.ref L] ∧ Well3 H L ∧ ∀ H' v x, Keeps L H H' → Well3 H' L → Dp K H' v (Inl.toD x) → Bd 1 30 x → Q v H'
theorem atd {x y : V} {d : Int} (h0 : 0 ≤ d) (h2 : d < 2) : ∃ v, atI [x, y] d = some v ∧ (v = x ∨ v = y) := by
  obtain rfl | rfl : d = 0 ∨ d = 1 := by omega
  · exact ⟨x, atI_nat (j := 0) rfl, .inl rfl⟩
  · exact ⟨y, atI_nat (j := 1) rfl, .inr rfl⟩
theorem ver_int (d j : Int) : decide (V.int d = V.int j) = decide (d = j) := decide_eq_decide.mpr ⟨fun h => V.int.inj h, fun h => by rw [h]⟩
theorem ok__law_chain {P : Program} {w : World} {K : PySem.W.Frag} {mg : Str → Option Value} {base : Heap} (T : Txt K mg) : FnOk P w K mg base CX0 4 T.a__law_chain T.d__law_chain ["_law_well_here"] (sp__law_chain K) := by
  refine T.f__law_chain.ok sc__law_chain (fun vs H Q E h => ?_) (fun cdv A outer s H vs Q E hr h => ?_)
  · obtain ⟨L, rfl, _⟩ := h
    rfl
  · obtain ⟨L, rfl, hW, q⟩ := h
    refine ⟨_, (pss_cons (ps_set (i := 1) sc__law_chain.nd rfl (.inl rfl) (pe_tup (pa_cons pe_str (pa_cons (pe_call (ok__law_string T) (hr.mono (by decide)) (by rfl) T.g__law_string T.f__law_string.kp T.b__law_string .nil pass0 (pa_cons (pv 0) (pa_cons pe_int pa_nil))) pa_nil))))
        (pss_cons (ps_for PassesOwn.never rfl (pi_range1 (by rfl) T.z_range (pa_cons (pe_call (ok__law_draw T) (hr.mono (by decide)) (by rfl) T.g__law_draw T.f__law_draw.kp T.b__law_draw .nil pass0 (pa_cons (pv 0) (pa_cons pe_int pa_nil))) pa_nil)) (pg_name (i := 2) sc__law_chain.nd rfl (.inl rfl)) (pss_cons (ps_set (i := 3) sc__law_chain.nd rfl (.inl rfl) (pe_call (ok__law_draw T) (hr.mono (by decide)) (by rfl) T.g__law_draw T.f__law_draw.kp T.b__law_draw .nil pass0 (pa_cons (pv 0) (pa_cons pe_int pa_nil))))
        (pss_one (ps_set (i := 1) sc__law_chain.nd rfl (.inl rfl) (pe_ifExp (pt_cmpR op_eq (pv 3) pe_int (nomark _)) (pe_tup (pa_cons pe_str (pa_cons pe_str (pa_cons pe_non (pa_cons (pe_tup (pa_cons (pv 1) pa_nil)) pa_nil))))) (pe_tup (pa_cons (pe_ix ix_list (pe_lst (pa_cons pe_str (pa_cons pe_str pa_nil))) (pv 3) (fun _ _ => rfl)) (pa_cons (pe_tup (pa_cons (pv 1) pa_nil)) pa_nil))))))))
        (pss_one (ps_ret (pv 1))))), ?_⟩
    refine ⟨_, rfl, L, 3, rfl, by decide, by decide, hW, fun H1 t k1 w1 dt => ⟨(by show 2 ≤ sizeLine; decide), fun p np => ?_⟩⟩
    refine ⟨_, rfl, L, 30, rfl, by decide, by decide, w1.new np, fun H2 d k2 w2 d0 d1 => ⟨d, rfl, by omega, by omega, ?_⟩⟩
    have hp2 : H2 p = some (.tup [.str "text", .str (S t)]) := k2 _ _ (w1.ne np) upd_same
    refine for_range (lo := 0) (n := d.toNat) (fun i σ' H' => ∃ v x a2 a3, σ' = [some (.ref L), some v, a2, a3] ∧ Keeps L H H' ∧ Well3 H' L ∧ Dp K H' v (Inl.toD x) ∧ Bd 1 i x) ?_ ?_ ?_
    · exact ⟨.ref p, .text t, none, none, rfl, (k1.trans (.new np)).trans k2, w2, dp_two hp2 (.str _), ⟨Nat.le_trans dt.1 (by decide), low_sm dt.2⟩⟩
    · rintro i σ' H3 hi ⟨v, x, a2, a3, rfl, k3, w3, hv, hb⟩
      refine ⟨_, rfl, L, 3, rfl, by decide, by decide, w3, fun H4 d4 k4 w4 d40 d41 => ?_⟩
      have hv4 : Dp K H4 v x.toD := dp_keep k4 w3.lst (noList_toD x) hv
      have one : ∀ y ∈ [x], Bd 1 i y := fun y hy => by rw [List.mem_singleton.mp hy]; exact hb
      refine ⟨_, rfl, rfl, _, rfl, ite2 (fun c => ?_) (fun c => ?_)⟩
      · refine ⟨_, rfl, (by show 1 ≤ sizeLine; decide), fun p1 np1 => ⟨(by show 4 ≤ sizeLine; decide), fun p2 np2 => ?_⟩⟩
        refine ⟨_, .image [] none [x], _, _, rfl, ((k3.trans k4).trans (.new np1)).trans (.new np2), (w4.new np1).new np2, ?_, ⟨(fun c hc => nomatch hc), trivial, Nat.le_refl _, one⟩⟩
        have e0 : ("" : Str) = S [] := lit_em
        rw [e0]
        exact dp_four (d := .none) upd_same .non (.tup (SqT.of ((same_new np2) _ _ upd_same)) (.cons (dp_same ((same_new np1).trans (same_new np2)) hv4) .nil))
      · have hd4 : d4 ≠ 2 := fun e => c (by rw [e]; rfl)
        obtain ⟨n, hn, hnn⟩ := atd (x := V.str "emph") (y := V.str "strong") d40 (by omega)
        refine ⟨(by show 2 ≤ sizeLine; decide), fun p0 np0 => ⟨_, rfl, p0, _, _, n, rfl, rfl, SqL.of upd_same, hn, _, rfl, (by show 1 ≤ sizeLine; decide), fun p1 np1 => ⟨(by show 2 ≤ sizeLine; decide), fun p2 np2 => ?_⟩⟩⟩
        have sm : Same H4 (upd (upd (upd H4 p0 (.lst [.str "emph", .str "strong"])) p1 (.tup [v])) p2 (.tup [n, .ref p1])) := ((same_new np0).trans (same_new np1)).trans (same_new np2)
        have hu : Dp K (upd (upd (upd H4 p0 (.lst [.str "emph", .str "strong"])) p1 (.tup [v])) p2 (.tup [n, .ref p1])) (.ref p1) (.tuple (rowD [x])) := .tup (SqT.of ((same_new np2) _ _ upd_same)) (.cons (dp_same sm hv4) .nil)
        rcases hnn with rfl | rfl
        · exact ⟨_, .emph [x], _, _, rfl, (k3.trans k4).trans (.of sm), w4.same sm, dp_two upd_same hu, Nat.le_refl _, one⟩
        · exact ⟨_, .strong [x], _, _, rfl, (k3.trans k4).trans (.of sm), w4.same sm, dp_two upd_same hu, Nat.le_refl _, one⟩
    · rintro σ' H3 ⟨v, x, a2, a3, rfl, k3, w3, hv, hb⟩
      exact ⟨_, rfl, q _ _ x k3 w3 hv (hb.le (by omega))⟩
/-! ### the law's own words of a row -/
def sp__law_gathered (K : PySem.W.Frag) (n : Nat) : Sp := fun vs H Q _ => ∃ (v : V) (row : List Inl) (w d : Nat), vs = [v] ∧ Dp K H v (.tuple (rowD row)) ∧ (∀ y ∈ row, Bd w d y) ∧ d < n ∧ (rowW row).length ≤ 1000000 ∧ ∀ H', Same H H' → Q (.str (S (rowW row))) H'
theorem atTop {xs : List V} {x : V} (h : xs.length = 2 ∨ xs.length = 4) (e : xs.getLast? = some x) : atI xs (((xs.length : Nat) : Int) - 1) = some x := by
  have : (((xs.length : Nat) : Int) - 1) = ((xs.length - 1 : Nat) : Int) := by omega
  rw [this]
  refine atI_nat ?_
  rw [List.getLast?_eq_getElem?] at e
  exact e
theorem add_ok {a b : List Nat} (h : a.length + b.length ≤ 1000000) : (S a).length + (S b).length ≤ sizeLine := by
  rw [S_len, S_len, sizeLine_eq]
  omega
theorem ok__law_gathered {P : Program} {w : World} {K : PySem.W.Frag} {mg : Str → Option Value} {base : Heap} (T : Txt K mg) (n : Nat) (GG : FnOk P w K mg base CX0 (n + 1) T.a__law_gathered T.d__law_gathered ["_law_some"] (sp__law_gathered K n)) :
    FnOk P w K mg base CX0 (n + 1 + 1) T.a__law_gathered T.d__law_gathered ["_law_some"] (sp__law_gathered K (n + 1)) := by
  refine T.f__law_gathered.ok sc__law_gathered (fun vs H Q E h => ?_) (fun cdv A outer s H vs Q E hr h => ?_)
  · obtain ⟨v, row, w, d, rfl, _⟩ := h
    rfl
  · obtain ⟨v, row, w, d, rfl, hv, hb, hd, hl, q⟩ := h
    refine ⟨_, (pss_cons (ps_set (i := 1) sc__law_gathered.nd rfl (.inl rfl) pe_str)
        (pss_cons (ps_for PassesOwn.never rfl (pi_tup (pv 0)) (pg_name (i := 2) sc__law_gathered.nd rfl (.inl rfl)) (pss_cons (ps_if (pt_cmpR op_in_seq (pe_ix ix_tup (pv 2) pe_int (fun _ _ => rfl)) (pe_tup (pa_cons pe_str (pa_cons pe_str pa_nil))) (by rfl)) (pss_one (ps_set (i := 1) sc__law_gathered.nd rfl (.inl rfl) (pe_op op_add_str (pv 1) (pe_ix ix_tup (pv 2) pe_int (fun _ _ => rfl))))) pss_nil)
        (pss_cons (ps_if (pt_cmpR op_in_seq (pe_ix ix_tup (pv 2) pe_int (fun _ _ => rfl)) (pe_tup (pa_cons pe_str (pa_cons pe_str pa_nil))) (by rfl)) (pss_one (ps_set (i := 1) sc__law_gathered.nd rfl (.inl rfl) (pe_op op_add_str (pv 1) pe_str))) pss_nil)
        (pss_one (ps_if (pt_cmpR op_in_seq (pe_ix ix_tup (pv 2) pe_int (fun _ _ => rfl)) (pe_tup (pa_cons pe_str (pa_cons pe_str (pa_cons pe_str (pa_cons pe_str pa_nil))))) (by rfl)) (pss_one (ps_set (i := 1) sc__law_gathered.nd rfl (.inl rfl) (pe_op op_add_str (pv 1) (pe_call GG (hr.mono (by omega)) (by rfl) T.g__law_gathered T.f__law_gathered.kp T.b__law_gathered .nil pass0 (pa_cons (pe_ix ix_tup (pv 2) (pe_op op_sub (pe_callB call_len_seq (by rfl) T.z_len PySem.boot_len (pa_cons (pv 2) pa_nil)) pe_int) (fun _ _ => rfl)) pa_nil))))) pss_nil)))))
        (pss_one (ps_ret (pv 1))))), ?_⟩
    obtain ⟨a0, us, rfl, sqa, dps⟩ := row_is (F := wordsF) hv (rowD_map row)
    refine ⟨_, rfl, a0, rfl, ⟨us, sqa⟩, ?_⟩
    refine for_tup (xs := us) (fun i σ' H' => ∃ a2, σ' = [some (.ref a0), some (.str (S (rowW (row.take i)))), a2] ∧ Same H H') ?_ ?_ ?_ ?_
    · refine ⟨none, ?_, Same.refl _⟩
      rw [lit_em]
      rfl
    · rintro i σ' H1 _ ⟨a2, rfl, s1⟩
      exact same_tup s1 sqa
    · rintro i x σ' H1 hx ⟨a2, rfl, s1⟩
      have hi : i < row.length := by
        have : us.length = row.length := dps.1
        rw [← this]
        exact (List.getElem?_eq_some_iff.mp hx).1
      obtain ⟨y, hy⟩ : ∃ y, row[i]? = some y := ⟨_, List.getElem?_eq_getElem hi⟩
      have dx : Dp K H1 x y.toD := dp_same s1 (dps.2 i x y hx hy)
      have by_ := hb y (List.mem_of_getElem? hy)
      have ew : rowW (row.take (i + 1)) = rowW (row.take i) ++ y.words := by
        rw [List.take_add_one, hy]
        show rowW (row.take i ++ [y]) = _
        rw [rowW_app, rowW_one]
      have lw : (rowW (row.take i)).length + y.words.length ≤ 1000000 := by
        have e : rowW row = rowW (row.take (i + 1)) ++ rowW (row.drop (i + 1)) := by rw [← rowW_app, List.take_append_drop]
        rw [e, ew, List.length_append, List.length_append] at hl
        omega
      obtain ⟨a, rfl, ha⟩ := inl_at dx
      have fin : ∀ (H2 : Hp), Same H1 H2 → ∃ a2, [some (V.ref a0), some (.str (S (rowW (row.take i) ++ y.words))), some (.ref a)] = [some (.ref a0), some (.str (S (rowW (row.take (i + 1))))), a2] ∧ Same H H2 := fun H2 s2 => ⟨_, by rw [ew], s1.trans s2⟩
      have fin0 : y.words = [] → ∀ (H2 : Hp), Same H1 H2 → ∃ a2, [some (V.ref a0), some (.str (S (rowW (row.take i)))), some (.ref a)] = [some (.ref a0), some (.str (S (rowW (row.take (i + 1))))), a2] ∧ Same H H2 := fun e H2 s2 => by
        have := fin H2 s2
        rw [e, List.append_nil] at this
        exact this
      have deep : ∀ (r : List Inl), (Bd w d y → ∃ d1, d = d1 + 1 ∧ ∀ z ∈ r, Bd w d1 z) → y.words = rowW r → ∃ d1, (∀ z ∈ r, Bd w d1 z) ∧ d1 < n ∧ (rowW r).length ≤ 1000000 := fun r hr e => by
        obtain ⟨d1, rfl, hz⟩ := hr by_
        exact ⟨d1, hz, by omega, by rw [← e]; omega⟩
      have less1 : ∀ (r : List Inl), (Bd w d (.emph r) → ∃ d1, d = d1 + 1 ∧ ∀ z ∈ r, Bd w d1 z) ∧ (Bd w d (.strong r) → ∃ d1, d = d1 + 1 ∧ ∀ z ∈ r, Bd w d1 z) := fun r => by
        cases d with
        | zero => exact ⟨fun h => h.elim, fun h => h.elim⟩
        | succ d1 => exact ⟨fun h => ⟨d1, rfl, h.2⟩, fun h => ⟨d1, rfl, h.2⟩⟩
      have less2 : ∀ (g : List Nat) (t : Option (List Nat)) (r : List Inl), (Bd w d (.link g t r) → ∃ d1, d = d1 + 1 ∧ ∀ z ∈ r, Bd w d1 z) ∧ (Bd w d (.image g t r) → ∃ d1, d = d1 + 1 ∧ ∀ z ∈ r, Bd w d1 z) := fun g t r => by
        cases d with
        | zero => exact ⟨fun h => h.elim, fun h => h.elim⟩
        | succ d1 => exact ⟨fun h => ⟨d1, rfl, h.2.2.2⟩, fun h => ⟨d1, rfl, h.2.2.2⟩⟩
      cases ha <;> rename_i hq
      all_goals refine ⟨_, rfl, a, _, _, _, rfl, rfl, by assumption, at0, (by show 2 ≤ sizeLine; decide), fun t nt => ⟨t, _, rfl, .inr (SqT.of upd_same), rfl, (by decide +kernel), _, rfl, ?_⟩⟩
      iterate 2
        · refine ifT (by decide +kernel) ⟨_, rfl, _, rfl, a, _, _, _, rfl, rfl, same_tup (same_new nt) (by assumption), at1, _, _, rfl, rfl, add_ok lw, ?_⟩
          refine ⟨_, rfl, a, _, _, _, rfl, rfl, same_tup (same_new nt) (by assumption), at0, (by show 2 ≤ sizeLine; decide), fun t2 nt2 => ⟨t2, _, rfl, .inr (SqT.of upd_same), rfl, (by decide +kernel), _, rfl, ifF (by decide +kernel) ?_⟩⟩
          refine ⟨_, rfl, a, _, _, _, rfl, rfl, same_tup ((same_new nt).trans (same_new nt2)) (by assumption), at0, (by show 4 ≤ sizeLine; decide), fun t3 nt3 => ⟨t3, _, rfl, .inr (SqT.of upd_same), rfl, (by decide +kernel), _, rfl, ifF (by decide +kernel) ?_⟩⟩
          rw [S_app]
          exact fin _ (((same_new nt).trans (same_new nt2)).trans (same_new nt3))
      · refine ifF (by decide +kernel) ?_
        refine ⟨_, rfl, a, _, _, _, rfl, rfl, same_tup (same_new nt) (by assumption), at0, (by show 2 ≤ sizeLine; decide), fun t2 nt2 => ⟨t2, _, rfl, .inr (SqT.of upd_same), rfl, (by decide +kernel), _, rfl, ifF (by decide +kernel) ?_⟩⟩
        refine ⟨_, rfl, a, _, _, _, rfl, rfl, same_tup ((same_new nt).trans (same_new nt2)) (by assumption), at0, (by show 4 ≤ sizeLine; decide), fun t3 nt3 => ⟨t3, _, rfl, .inr (SqT.of upd_same), rfl, (by decide +kernel), _, rfl, ifF (by decide +kernel) ?_⟩⟩
        exact fin0 rfl _ (((same_new nt).trans (same_new nt2)).trans (same_new nt3))
      iterate 2
        · refine ifF (by decide +kernel) ?_
          refine ⟨_, rfl, a, _, _, _, rfl, rfl, same_tup (same_new nt) (by assumption), at0, (by show 2 ≤ sizeLine; decide), fun t2 nt2 => ⟨t2, _, rfl, .inr (SqT.of upd_same), rfl, (by decide +kernel), _, rfl, ifT (by decide +kernel) ⟨_, rfl, _, _, rfl, rfl, by rw [lit_bl]; exact add_ok lw, ?_⟩⟩⟩
          refine ⟨_, rfl, a, _, _, _, rfl, rfl, same_tup ((same_new nt).trans (same_new nt2)) (by assumption), at0, (by show 4 ≤ sizeLine; decide), fun t3 nt3 => ⟨t3, _, rfl, .inr (SqT.of upd_same), rfl, (by decide +kernel), _, rfl, ifF (by decide +kernel) ?_⟩⟩
          rw [lit_bl, S_app]
          exact fin _ (((same_new nt).trans (same_new nt2)).trans (same_new nt3))
      all_goals refine ifF (by decide +kernel) ?_
      all_goals refine ⟨_, rfl, a, _, _, _, rfl, rfl, same_tup (same_new nt) (by assumption), at0, (by show 2 ≤ sizeLine; decide), fun t2 nt2 => ⟨t2, _, rfl, .inr (SqT.of upd_same), rfl, (by decide +kernel), _, rfl, ifF (by decide +kernel) ?_⟩⟩
      all_goals refine ⟨_, rfl, a, _, _, _, rfl, rfl, same_tup ((same_new nt).trans (same_new nt2)) (by assumption), at0, (by show 4 ≤ sizeLine; decide), fun t3 nt3 => ⟨t3, _, rfl, .inr (SqT.of upd_same), rfl, (by decide +kernel), _, rfl, ifT (by decide +kernel) ?_⟩⟩
      · refine ⟨_, rfl, _, rfl, _, rfl, a, _, rfl, .inr (same_tup (((same_new nt).trans (same_new nt2)).trans (same_new nt3)) (by assumption)), _, _, rfl, rfl, a, _, _, _, rfl, rfl, same_tup (((same_new nt).trans (same_new nt2)).trans (same_new nt3)) (by assumption), atTop (.inl rfl) rfl, ?_⟩
        obtain ⟨d1, hz, hlt, hlen⟩ := deep _ (less1 _).1 rfl
        refine ⟨_, _, w, d1, rfl, dp_same (((same_new nt).trans (same_new nt2)).trans (same_new nt3)) (by assumption), hz, hlt, hlen, fun H5 s5 => ⟨_, _, rfl, rfl, add_ok lw, ?_⟩⟩
        rw [S_app]
        exact fin _ ((((same_new nt).trans (same_new nt2)).trans (same_new nt3)).trans s5)
      · refine ⟨_, rfl, _, rfl, _, rfl, a, _, rfl, .inr (same_tup (((same_new nt).trans (same_new nt2)).trans (same_new nt3)) (by assumption)), _, _, rfl, rfl, a, _, _, _, rfl, rfl, same_tup (((same_new nt).trans (same_new nt2)).trans (same_new nt3)) (by assumption), atTop (.inl rfl) rfl, ?_⟩
        obtain ⟨d1, hz, hlt, hlen⟩ := deep _ (less1 _).2 rfl
        refine ⟨_, _, w, d1, rfl, dp_same (((same_new nt).trans (same_new nt2)).trans (same_new nt3)) (by assumption), hz, hlt, hlen, fun H5 s5 => ⟨_, _, rfl, rfl, add_ok lw, ?_⟩⟩
        rw [S_app]
        exact fin _ ((((same_new nt).trans (same_new nt2)).trans (same_new nt3)).trans s5)
      · refine ⟨_, rfl, _, rfl, _, rfl, a, _, rfl, .inr (same_tup (((same_new nt).trans (same_new nt2)).trans (same_new nt3)) (by assumption)), _, _, rfl, rfl, a, _, _, _, rfl, rfl, same_tup (((same_new nt).trans (same_new nt2)).trans (same_new nt3)) (by assumption), atTop (.inr rfl) rfl, ?_⟩
        obtain ⟨d1, hz, hlt, hlen⟩ := deep _ (less2 _ _ _).1 rfl
        refine ⟨_, _, w, d1, rfl, dp_same (((same_new nt).trans (same_new nt2)).trans (same_new nt3)) (by assumption), hz, hlt, hlen, fun H5 s5 => ⟨_, _, rfl, rfl, add_ok lw, ?_⟩⟩
        rw [S_app]
        exact fin _ ((((same_new nt).trans (same_new nt2)).trans (same_new nt3)).trans s5)
      · refine ⟨_, rfl, _, rfl, _, rfl, a, _, rfl, .inr (same_tup (((same_new nt).trans (same_new nt2)).trans (same_new nt3)) (by assumption)), _, _, rfl, rfl, a, _, _, _, rfl, rfl, same_tup (((same_new nt).trans (same_new nt2)).trans (same_new nt3)) (by assumption), atTop (.inr rfl) rfl, ?_⟩
        obtain ⟨d1, hz, hlt, hlen⟩ := deep _ (less2 _ _ _).2 rfl
        refine ⟨_, _, w, d1, rfl, dp_same (((same_new nt).trans (same_new nt2)).trans (same_new nt3)) (by assumption), hz, hlt, hlen, fun H5 s5 => ⟨_, _, rfl, rfl, add_ok lw, ?_⟩⟩
        rw [S_app]
        exact fin _ ((((same_new nt).trans (same_new nt2)).trans (same_new nt3)).trans s5)
    · rintro σ' H1 ⟨a2, rfl, s1⟩
      have ful : row.take us.length = row := by
        have : us.length = row.length := dps.1
        rw [this]
        exact List.take_length
      rw [ful]
      exact ⟨_, rfl, q _ s1⟩

/-! ### the law's own escapes -/
def EscK : List (Key × V) := [(.inr "&", .str "&amp;"), (.inr "<", .str "&lt;"), (.inr ">", .str "&gt;"), (.inr "\"", .str "&quot;")]
theorem esc_merged : mergeK [] EscK = EscK := by decide +kernel
theorem esc_get (c : Nat) : (valV EscK (.inr (S [c]))).getD (.str (S [c])) = .str (S (escC c)) := by
  obtain ⟨e1, e2, e3, e4, e5, e6, e7, e8⟩ := lit_e1
  have ne : ∀ {a : Nat}, c ≠ a → ¬ ((Sum.inr (S [a]) : Key) = Sum.inr (S [c])) := fun h e => h (by
    have := S_inj (Sum.inr.inj e)
    exact (List.cons.inj this).1.symm)
  unfold EscK escC
  rw [e1, e2, e3, e4, e5, e6, e7, e8]
  by_cases h1 : c = 38
  · subst h1
    rw [valV_pos rfl, if_pos rfl]
    rfl
  · rw [valV_neg (ne h1), if_neg h1]
    by_cases h2 : c = 60
    · subst h2
      rw [valV_pos rfl, if_pos rfl]
      rfl
    · rw [valV_neg (ne h2), if_neg h2]
      by_cases h3 : c = 62
      · subst h3
        rw [valV_pos rfl, if_pos rfl]
        rfl
      · rw [valV_neg (ne h3), if_neg h3]
        by_cases h4 : c = 34
        · subst h4
          rw [valV_pos rfl, if_pos rfl]
          rfl
        · rw [valV_neg (ne h4), if_neg h4]
          rfl
def sp__law_escaped (K : PySem.W.Frag) : Sp := fun vs H Q _ => ∃ l : List Nat, vs = [.str (S l)] ∧ l.length ≤ 10000 ∧ ∀ H', Same H H' → Q (.str (S (escL l))) H'
theorem ok__law_escaped {P : Program} {w : World} {K : PySem.W.Frag} {mg : Str → Option Value} {base : Heap} (T : Txt K mg) : FnOk P w K mg base CX0 1 T.a__law_escaped T.d__law_escaped ["_law_piece"] (sp__law_escaped K) := by
  refine T.f__law_escaped.ok sc__law_escaped (fun vs H Q E h => ?_) (fun cdv A outer s H vs Q E hr h => ?_)
  · obtain ⟨l, rfl, _⟩ := h
    rfl
  · obtain ⟨l, rfl, hl, q⟩ := h
    refine ⟨_, (pss_cons (ps_set (i := 1) sc__law_escaped.nd rfl (.inr rfl) (pe_disp (pps_cons pe_str pe_str (pps_cons pe_str pe_str (pps_cons pe_str pe_str (pps_cons pe_str pe_str pps_nil)))) rfl rfl (by simp) (by decide)))
        (pss_one (ps_ret (pe_join pe_str (pe_lc (own := [("_law_sign", 2)]) (g := (gName 2)) (tt := tYes) (by rfl) sc__law_escaped.nd (pi_str (pv 0)) (blkOk_by (own := [("_law_sign", 2)]) (N := ["_law_piece", "_law_found", "_law_sign"]) (sc := defScope s__law_escaped) (by decide +kernel)) (fun _ _ _ _ _ => (pg_name (i := 2) sc__law_escaped.nd rfl (Or.inl rfl))) (fun _ _ _ _ _ => pts_nil) (fun _ _ _ _ _ => (pe_dget2 (hu_of hr) (pv 1) (pv 2) (pv 2) ⟨rfl, rfl, rfl, rfl⟩))))))), ?_⟩
    refine fun p np => ⟨upd_same, EscK, rfl, by decide, ?_⟩
    rw [upd_upd, esc_merged]
    have hp : (upd H p (.dK EscK)) p = some (.dK EscK) := upd_same
    have s1 : Same H (upd H p (.dK EscK)) := same_new np
    generalize upd H p (.dK EscK) = H1 at hp s1 ⊢
    refine ⟨⟨_, rfl⟩, _, rfl, _, rfl, fun D nD => ?_⟩
    have nDp : D ≠ p := (ne_of_none hp nD).symm
    refine lc_it (walk_str (z := S l)) (fun i H' => Same H1 H' ∧ H' D = some (.lst ((l.take i).map fun c => V.str (S (escC c))))) ⟨same_new nD, upd_same⟩ (fun _ _ _ _ => trivial) ?_ ?_
    · rintro i x H2 H3 hi ⟨sm, hD⟩ ⟨rfl, c, hc, rfl⟩
      rw [show (S l).cps[i]? = l[i]? by simp [S]] at hc
      refine ⟨rfl, _, rfl, p, rfl, .inl ⟨EscK, .inl (sm _ _ hp)⟩, _, rfl, _, rfl, _, DGet.k (k := Sum.inr (S [c])) (sm _ _ hp), ?_⟩
      refine ⟨_, hD, by rw [List.length_map, List.length_take, sizeLine_eq]; omega, fun b o e => ?_, ?_⟩
      · rw [upd_ne (ne_of_none e nD)]
        exact sm _ _ e
      · have := esc_get c
        rw [show (V.str ⟨#[c]⟩) = V.str (S [c]) from rfl, this, upd_same, List.take_add_one, hc]
        simp
    · rintro H2 ⟨sm, hD⟩
      rw [show (S l).cps.size = l.length from S_size l, List.take_length] at hD
      have e1 : (l.map fun c => V.str (S (escC c))) = ((l.map escC).map S).map V.str := by
        rw [List.map_map, List.map_map]
        rfl
      have e2 : (l.map escC).flatten = escL l := rfl
      rw [e1] at hD
      refine ⟨_, D, (l.map escC).map S, rfl, rfl, .inl (SqL.of hD), ?_, ?_⟩
      · rw [sum_S, e2, lit_em, S_len]
        have := escL_len l
        show (escL l).length + _ * 0 ≤ _
        omega
      · rw [lit_em, My.join_nil, e2]
        exact q H2 (s1.trans sm)
theorem gath_ok {P : Program} {w : World} {K : PySem.W.Frag} {mg : Str → Option Value} {base : Heap} (T : Txt K mg) : ∀ n, FnOk P w K mg base CX0 (n + 1) T.a__law_gathered T.d__law_gathered ["_law_some"] (sp__law_gathered K n)
  | 0 => fnOk_none fun vs H Q E h => by
    obtain ⟨_, _, _, d, _, _, _, hd, _⟩ := h
    omega
  | n + 1 => ok__law_gathered T n (gath_ok T n)
theorem gath31 {P : Program} {w : World} {K : PySem.W.Frag} {mg : Str → Option Value} {base : Heap} (T : Txt K mg) : FnOk P w K mg base CX0 32 T.a__law_gathered T.d__law_gathered ["_law_some"] (sp__law_gathered K 31) := gath_ok T 31
theorem kb_words {K : PySem.W.Frag} {mg : Str → Option Value} (T : Txt K mg) : KBinds K T.d_words ["row"] ["row"] (fun us ws => us ++ ws) (fun vs zs => vs ++ zs) := kbinds_one T.f_words (fun _ _ _ _ _ _ _ => rfl) (fun _ _ _ _ _ _ _ => rfl)
/-! ### the law: 0 _law_script, 1 _law_cell, 2 _law_well_here, 3 _law_turn, 4 _law_one_here, 5 _law_other, 6 _law_some, 7 _law_more, 8 _law_deep -/
def sp_law (K : PySem.W.Frag) : Sp := fun vs H Q _ => ∃ (a : Addr) (ns : List Int), vs = [.ref a] ∧ SqL K H a (ns.map V.int) ∧ ns.length ≤ 63 ∧ ∀ H', Q (.bl true) H'
theorem cut_script (ns : List Int) (k : Nat) (h : (ns.map V.int).length ≤ 1000) : cutV (ns.map V.int) none (some (k : Int)) ++ [V.int 0] = (ns.take k ++ [0]).map V.int ∧ (cutV (ns.map V.int) none (some (k : Int))).length + 1 ≤ sizeLine := by
  constructor
  · unfold cutV
    rw [HT.sIx_none, HT.sIx_nat, List.drop_zero, Nat.sub_zero, List.map_append, List.map_take]
    have e8 : (ns.map V.int).take (min k (ns.map V.int).length) = (ns.map V.int).take k := by
      by_cases h8 : k ≤ (ns.map V.int).length
      · rw [Nat.min_eq_left h8]
      · rw [Nat.min_eq_right (by omega), List.take_length, List.take_of_length_le (by omega)]
    rw [e8]
    rfl
  · have := cutV_length (ns.map V.int) none (some (k : Int))
    rw [sizeLine_eq]
    omega
theorem cat_ok {K : PySem.W.Frag} {H : Hp} {u1 u2 : V} {r1 r2 : List Inl} {Q : VK} (h1 : Dp K H u1 (.tuple (rowD r1))) (h2 : Dp K H u2 (.tuple (rowD r2))) (hl : r1.length + r2.length ≤ 1000) (q : ∀ v H', Same H H' → Dp K H' v (.tuple (rowD (r1 ++ r2))) → Q v H') : rCatA K u1 u2 H Q := by
  obtain ⟨a, xs, rfl, sa, da⟩ := dp_tup h1
  obtain ⟨b, ys, rfl, sb, db⟩ := dp_tup h2
  have la := (dpAll_all2 da).1
  have lb := (dpAll_all2 db).1
  rw [rowD_map, List.length_map] at la lb
  refine ⟨a, b, xs, ys, rfl, rfl, sa, sb, by rw [la, lb, sizeLine_eq]; omega, fun e => ?_, fun _ e => ?_, fun _ _ p np => ?_⟩
  · subst e
    have : r1 = [] := List.length_eq_zero_iff.mp la.symm
    subst this
    exact q _ H (Same.refl _) h2
  · subst e
    have : r2 = [] := List.length_eq_zero_iff.mp lb.symm
    subst this
    rw [List.append_nil] at q
    exact q _ H (Same.refl _) h1
  · refine q _ _ (same_new np) (.tup (SqT.of upd_same) ?_)
    rw [rowD_app]
    exact dpAll_same (same_new np) (dpAll_app da db)
theorem dp_row1 {K : PySem.W.Frag} {H : Hp} {t : Addr} {v : V} {x : Inl} (h : H t = some (.tup [v])) (hv : Dp K H v x.toD) : Dp K H (.ref t) (.tuple (rowD [x])) := .tup (SqT.of h) (.cons hv .nil)
theorem ok_law {P : Program} {w : World} {K : PySem.W.Frag} {mg : Str → Option Value} {base : Heap} {f : Addr} {fd : FuncData} (T : Txt K mg) (F : Fun K "law" "law" s_law f fd) : FnOk P w K mg base CX0 33 f fd ["_law_script"] (sp_law K) := by
  refine F.ok sc_law (fun vs H Q E h => ?_) (fun cdv A outer s H vs Q E hr h => ?_)
  · obtain ⟨a, ns, rfl, _⟩ := h
    rfl
  · obtain ⟨a, ns, rfl, hS, hlen, q⟩ := h
    refine ⟨_, (pss_cons (ps_for PassesOwn.never rfl (pi_list (pe_op op_cat (pe_slice sl_list (pv 0) po_none (po_some pe_int)) (pe_lst (pa_cons pe_int pa_nil)))) (pg_name (i := 1) sc_law.nd rfl (.inl rfl)) (pss_cons (ps_set (i := 2) sc_law.nd rfl (.inl rfl) (pe_call (ok__law_well T) (hr.mono (by decide)) (by rfl) T.g__law_well T.f__law_well.kp T.b__law_well .nil pass0 (pa_cons (pv 1) pa_nil)))
        (pss_one (ps_for PassesOwn.never rfl (pi_range1 (by rfl) T.z_range (pa_cons pe_int pa_nil)) (pg_name (i := 3) sc_law.nd rfl (.inl rfl)) (pss_cons (ps_asg pe_int (pg_sub (pv 2) pe_int set_list))
        (pss_cons (ps_par (i := 4) (j := 5) (by rfl) sc_law.nd rfl rfl (by decide) rfl rfl (pa_cons (pe_call (ok__law_string T) (hr.mono (by decide)) (by rfl) T.g__law_string T.f__law_string.kp T.b__law_string .nil pass0 (pa_cons (pv 2) (pa_cons pe_int pa_nil))) (pa_cons (pe_call (ok__law_string T) (hr.mono (by decide)) (by rfl) T.g__law_string T.f__law_string.kp T.b__law_string .nil pass0 (pa_cons (pv 2) (pa_cons pe_int pa_nil))) pa_nil)) (by rfl))
        (pss_cons (ps_if (PW.pt (pw_or (pt_cmpR op_ne (pe_call (ok_escaped T) (hr.mono (by decide)) (by rfl) T.g_escaped T.f_escaped.kp T.b_escaped .nil pass0 (pa_cons (pv 4) pa_nil)) (pe_call (ok__law_escaped T) (hr.mono (by decide)) (by rfl) T.g__law_escaped T.f__law_escaped.kp T.b__law_escaped .nil pass0 (pa_cons (pv 4) pa_nil)) (nomark _)) (pw_or1 (pt_cmpR op_ne (pe_callK0 (ok_escaped T) (hr.mono (by decide)) (by rfl) T.g_escaped T.f_escaped.kp (kb_escaped T) pass0 (pk_cons (pe_op op_add_str (pv 4) (pv 5)) pk_nil)) (pe_op op_add_str (pe_call (ok_escaped T) (hr.mono (by decide)) (by rfl) T.g_escaped T.f_escaped.kp T.b_escaped .nil pass0 (pa_cons (pv 4) pa_nil)) (pe_call (ok_escaped T) (hr.mono (by decide)) (by rfl) T.g_escaped T.f_escaped.kp T.b_escaped .nil pass0 (pa_cons (pv 5) pa_nil))) (nomark _))))) (pss_one (ps_ret pe_bl)) pss_nil)
        (pss_cons (ps_par (i := 6) (j := 7) (by rfl) sc_law.nd rfl rfl (by decide) rfl rfl (pa_cons (pe_call (row4 T) (hr.mono (by decide)) (by rfl) T.g__law_row T.f__law_row.kp T.b__law_row .nil pass0 (pa_cons (pv 2) (pa_cons pe_int (pa_cons pe_bl (pa_cons pe_bl pa_nil))))) (pa_cons (pe_call (row4 T) (hr.mono (by decide)) (by rfl) T.g__law_row T.f__law_row.kp T.b__law_row .nil pass0 (pa_cons (pv 2) (pa_cons pe_int (pa_cons pe_bl (pa_cons pe_bl pa_nil))))) pa_nil)) (by rfl))
        (pss_cons (ps_if (PW.pt (pw_or (pt_cmpR op_ne (pe_call (ok_words T) (hr.mono (by decide)) (by rfl) T.g_words T.f_words.kp T.b_words .nil pass0 (pa_cons (pv 6) pa_nil)) (pe_call (gath31 T) (hr.mono (by decide)) (by rfl) T.g__law_gathered T.f__law_gathered.kp T.b__law_gathered .nil pass0 (pa_cons (pv 6) pa_nil)) (nomark _)) (pw_or1 (pt_cmpR op_ne (pe_callK0 (ok_words T) (hr.mono (by decide)) (by rfl) T.g_words T.f_words.kp (kb_words T) pass0 (pk_cons (pe_op op_catA (pv 6) (pv 7)) pk_nil)) (pe_op op_add_str (pe_call (ok_words T) (hr.mono (by decide)) (by rfl) T.g_words T.f_words.kp T.b_words .nil pass0 (pa_cons (pv 6) pa_nil)) (pe_call (ok_words T) (hr.mono (by decide)) (by rfl) T.g_words T.f_words.kp T.b_words .nil pass0 (pa_cons (pv 7) pa_nil))) (nomark _))))) (pss_one (ps_ret pe_bl)) pss_nil)
        (pss_cons (ps_set (i := 8) sc_law.nd rfl (.inl rfl) (pe_call (ok__law_chain T) (hr.mono (by decide)) (by rfl) T.g__law_chain T.f__law_chain.kp T.b__law_chain .nil pass0 (pa_cons (pv 2) pa_nil)))
        (pss_one (ps_if (pt_cmpR op_ne (pe_call (ok_words T) (hr.mono (by decide)) (by rfl) T.g_words T.f_words.kp T.b_words .nil pass0 (pa_cons (pe_tup (pa_cons (pv 8) pa_nil)) pa_nil)) (pe_call (gath31 T) (hr.mono (by decide)) (by rfl) T.g__law_gathered T.f__law_gathered.kp T.b__law_gathered .nil pass0 (pa_cons (pe_tup (pa_cons (pv 8) pa_nil)) pa_nil)) (nomark _)) (pss_one (ps_ret pe_bl)) pss_nil))))))))))))
        (pss_one (ps_ret (pe_and (pe_cmpR op_eq (pe_call (ok_escaped T) (hr.mono (by decide)) (by rfl) T.g_escaped T.f_escaped.kp T.b_escaped .nil pass0 (pa_cons pe_str pa_nil)) pe_str (nomark _)) (pe_and (pe_cmpR op_eq (pe_call (ok_words T) (hr.mono (by decide)) (by rfl) T.g_words T.f_words.kp T.b_words .nil pass0 (pa_cons (pe_tup pa_nil) pa_nil)) pe_str (nomark _)) (pe_one (pe_cmpR op_eq (pe_call (ok_escaped T) (hr.mono (by decide)) (by rfl) T.g_escaped T.f_escaped.kp T.b_escaped .nil pass0 (pa_cons pe_str pa_nil)) pe_str (nomark _)))))))), ?_⟩
    obtain ⟨ec, el⟩ := cut_script ns 4 (by rw [List.length_map]; omega)
    refine ⟨_, rfl, _, rfl, a, _, rfl, hS, fun p np => ⟨by show 1 ≤ sizeLine; decide, fun p2 np2 => ⟨p, p2, _, _, rfl, rfl, by rw [upd_ne (ne_of_none upd_same np2)]; exact upd_same, upd_same, el, fun p3 np3 => ?_⟩⟩⟩
    rw [ec]
    have h3 : (upd (upd (upd H p (.lst (cutV (ns.map V.int) none (some (4 : Nat))))) p2 (.lst [V.int 0])) p3 (.lst ((ns.take 4 ++ [0]).map V.int))) p3 = some (.lst ((ns.take 4 ++ [0]).map V.int)) := upd_same
    generalize upd (upd (upd H p (.lst (cutV (ns.map V.int) none (some (4 : Nat))))) p2 (.lst [V.int 0])) p3 (.lst ((ns.take 4 ++ [0]).map V.int)) = H0 at h3 ⊢
    generalize ns.take 4 ++ [0] = ms at h3 ⊢
    refine ⟨p3, rfl, ⟨_, SqL.of h3⟩, for_list (K := K) (a := p3) (xs := ms.map V.int) (fun i σ H' => (∃ (v1 v2 v3 v4 v5 v6 v7 v8 : Option V), σ = [some (.ref a), v1, v2, v3, v4, v5, v6, v7, v8]) ∧ H' p3 = some (.lst (ms.map V.int))) ⟨⟨_, _, _, _, _, _, _, _, rfl⟩, h3⟩ (fun i σ H' _ h => SqL.of h.2) ?_ ?_⟩
    · rintro i x σ H' hi ⟨⟨v1, v2, v3, v4, v5, v6, v7, v8, rfl⟩, hp⟩
      obtain ⟨z, hz, rfl⟩ : ∃ z, ms[i]? = some z ∧ x = V.int z := by
        rw [List.getElem?_map] at hi
        cases e : ms[i]? with
        | none => rw [e] at hi; cases hi
        | some z => rw [e] at hi; exact ⟨z, rfl, (Option.some.inj hi).symm⟩
      refine ⟨_, rfl, z, rfl, fun L nL => ?_⟩
      have hpL : p3 ≠ L := ne_of_none hp nL
      refine ⟨6, rfl, by decide, by decide, for_range (lo := 0) (n := 6) (fun j σ H2 => (∃ (v3 v4 v5 v6 v7 v8 : Option V), σ = [some (.ref a), some (.int z), some (.ref L), v3, v4, v5, v6, v7, v8]) ∧ H2 p3 = some (.lst (ms.map V.int)) ∧ Well3 H2 L) ⟨⟨_, _, _, _, _, _, rfl⟩, by rw [upd_ne hpL]; exact hp, ⟨_, _, _, upd_same⟩⟩ ?_ ?_⟩
      · rintro j σ H2 hj ⟨⟨w3, w4, w5, w6, w7, w8, rfl⟩, hp2, ⟨x0, y0, z0, hL⟩⟩
        refine ⟨_, rfl, L, _, _, 2, rfl, rfl, hL, rfl, ?_⟩
        have hp3 : (upd H2 L (.lst ([V.int x0, V.int y0, V.int z0].set 2 (.int 200)))) p3 = some (.lst (ms.map V.int)) := by rw [upd_ne hpL]; exact hp2
        have wL : Well3 (upd H2 L (.lst ([V.int x0, V.int y0, V.int z0].set 2 (.int 200)))) L := ⟨_, _, _, upd_same⟩
        generalize (upd H2 L (.lst ([V.int x0, V.int y0, V.int z0].set 2 (.int 200)))) = H3 at hp3 wL ⊢
        -- two texts
        refine ⟨_, rfl, L, 9, rfl, by decide, by decide, wL, fun H4 l1 k4 w4 d1 => ⟨_, rfl, L, 9, rfl, by decide, by decide, w4, fun H5 l2 k5 w5 d2 => ?_⟩⟩
        have hp5 : H5 p3 = some (.lst (ms.map V.int)) := k5 _ _ hpL (k4 _ _ hpL hp3)
        refine ⟨_, _, rfl, ?_⟩
        have n1 := d1.1
        have n2 := d2.1
        have m1 := escL_len l1
        have m2 := escL_len l2
        refine ⟨_, rfl, l1, rfl, by omega, _, rfl, l1, rfl, by omega, fun H6 s6 => ?_⟩
        refine ⟨rfl, _, rfl, ifF (by simp) ?_⟩
        refine ⟨_, rfl, _, rfl, _, _, rfl, rfl, by rw [S_len, S_len, sizeLine_eq]; omega, l1 ++ l2, by rw [S_app]; rfl, by rw [List.length_append]; omega, ?_⟩
        refine ⟨_, rfl, l1, rfl, by omega, _, rfl, l2, rfl, by omega, _, _, rfl, rfl, by rw [S_len, S_len, sizeLine_eq]; omega, rfl, _, rfl, ?_⟩
        rw [S_app, ← escL_app]
        refine ifF (by simp) ?_
        -- two rows
        have hp6 : H6 p3 = some (.lst (ms.map V.int)) := s6 _ _ hp5
        have w6 := w5.same s6
        refine ⟨_, rfl, L, 3, 3, false, true, rfl, rfl, by decide, by decide, w6, fun H7 u1 r1 k7 w7 hu1 hl1 hb1 => ⟨_, rfl, L, 3, 3, false, true, rfl, rfl, by decide, by decide, w7, fun H8 u2 r2 k8 w8 hu2 hl2 hb2 => ?_⟩⟩
        have hu1' : Dp K H8 u1 (.tuple (rowD r1)) := dp_keep k8 w7.lst (by unfold noList; exact noList_row r1) hu1
        have hp8 : H8 p3 = some (.lst (ms.map V.int)) := k8 _ _ hpL (k7 _ _ hpL hp6)
        have lw1 := rowW_le (k := 20 * 3 ^ 3) (r := r1) fun y hy => Bd.words (by decide) (hb1 y hy)
        have lw2 := rowW_le (k := 20 * 3 ^ 3) (r := r2) fun y hy => Bd.words (by decide) (hb2 y hy)
        have ln1 := rowN_le (k := capN 3 3) (r := r1) fun y hy => Bd.rows (hb1 y hy)
        have ln2 := rowN_le (k := capN 3 3) (r := r2) fun y hy => Bd.rows (hb2 y hy)
        have cN : capN 3 3 = 52 := by decide
        have c3 : (20 * 3 ^ 3 : Nat) = 540 := by decide
        rw [c3] at lw1 lw2
        rw [cN] at ln1 ln2
        have a1 : (rowW r1).length ≤ 2000 := Nat.le_trans lw1 (Nat.le_trans (Nat.mul_le_mul_right _ hl1) (by decide))
        have a2 : (rowW r2).length ≤ 2000 := Nat.le_trans lw2 (Nat.le_trans (Nat.mul_le_mul_right _ hl2) (by decide))
        have b1 : rowN r1 ≤ 2000 := Nat.le_trans ln1 (Nat.le_trans (Nat.mul_le_mul_right _ hl1) (by decide))
        have b2 : rowN r2 ≤ 2000 := Nat.le_trans ln2 (Nat.le_trans (Nat.mul_le_mul_right _ hl2) (by decide))
        have la : (rowW (r1 ++ r2)).length ≤ 4000 := by rw [rowW_app, List.length_append]; omega
        have rowN_app : rowN (r1 ++ r2) ≤ 4000 := by
          have : ∀ a b : List Inl, rowN (a ++ b) = rowN a + rowN b := fun a b => by
            induction a with
            | nil => simp [rowN]
            | cons x a ih =>
              show 1 + x.rows + rowN (a ++ b) = 1 + x.rows + rowN a + rowN b
              rw [ih]
              omega
          rw [this]
          omega
        refine ⟨_, _, rfl, ?_⟩
        refine ⟨_, rfl, u1, r1, rfl, hu1', by omega, by omega, fun H9 s9 => ⟨_, rfl, u1, r1, 3, 3, rfl, dp_same s9 hu1', hb1, by decide, by omega, fun H10 s10 => ⟨rfl, _, rfl, ifF (by simp) ?_⟩⟩⟩
        have s810 := s9.trans s10
        refine ⟨_, rfl, _, rfl, cat_ok (dp_same s810 hu1') (dp_same s810 hu2) (by omega) fun v H11 s11 hv => ⟨v, r1 ++ r2, rfl, hv, by omega, by omega, fun H12 s12 => ?_⟩⟩
        have s812 := s810.trans (s11.trans s12)
        refine ⟨_, rfl, u1, r1, rfl, dp_same s812 hu1', by omega, by omega, fun H13 s13 => ⟨_, rfl, u2, r2, rfl, dp_same (s812.trans s13) hu2, by omega, by omega, fun H14 s14 => ⟨_, _, rfl, rfl, by rw [S_len, S_len, sizeLine_eq]; omega, rfl, _, rfl, ?_⟩⟩⟩
        rw [S_app, ← rowW_app]
        refine ifF (by simp) ?_
        have s814 := s812.trans (s13.trans s14)
        -- a chain
        refine ⟨_, rfl, L, rfl, w8.same s814, fun H15 v15 x k15 w15 hx hb => ?_⟩
        have hp15 : H15 p3 = some (.lst (ms.map V.int)) := k15 _ _ hpL (s814 _ _ hp8)
        have lx : (rowW [x]).length ≤ 2000 := by
          have h1 := Bd.words (Nat.le_refl 1) hb
          rw [Nat.one_pow] at h1
          rw [rowW_one]
          omega
        have lN : rowN [x] ≤ 2000 := by
          have h1 := Bd.rows hb
          have h2 : capN 1 30 = 60 := by decide
          show 1 + x.rows + 0 ≤ 2000
          omega
        have bx : ∀ y ∈ [x], Bd 1 30 y := fun y hy => by rw [List.mem_singleton.mp hy]; exact hb
        refine ⟨_, rfl, (by show 1 ≤ sizeLine; decide), fun t nt => ⟨.ref t, [x], rfl, dp_row1 upd_same (dp_same (same_new nt) hx), by omega, by omega, fun H16 s16 => ?_⟩⟩
        have s1516 := (same_new (o := .tup [v15]) nt).trans s16
        refine ⟨_, rfl, (by show 1 ≤ sizeLine; decide), fun t2 nt2 => ⟨.ref t2, [x], 1, 30, rfl, dp_row1 upd_same (dp_same (s1516.trans (same_new nt2)) hx), bx, by decide, by omega, fun H17 s17 => ⟨rfl, _, rfl, ifF (by simp) ?_⟩⟩⟩
        have s1517 := (s1516.trans (same_new (o := .tup [v15]) nt2)).trans s17
        exact ⟨⟨_, _, _, _, _, _, rfl⟩, s1517 _ _ hp15, w15.same s1517⟩
      · rintro σ H2 ⟨⟨w3, w4, w5, w6, w7, w8, rfl⟩, hp2, _⟩
        exact ⟨⟨_, _, _, _, _, _, _, _, rfl⟩, hp2⟩
    · rintro σ H2 ⟨⟨v1, v2, v3, v4, v5, v6, v7, v8, rfl⟩, hp2⟩
      obtain ⟨e1, e2, e3, e4, e5, e6, e7, e8⟩ := lit_e1
      have x1 : ("&amp;lt;" : Str) = S (escL [38, 108, 116, 59]) := by decide +kernel
      refine ⟨[], by rw [lit_em]; rfl, by decide, rfl, _, rfl, ifT (by rw [lit_em]; rfl) ?_⟩
      refine ⟨(by show 0 ≤ sizeLine; decide), fun t nt => ⟨.ref t, [], rfl, .tup (SqT.of upd_same) .nil, by decide, by decide, fun H3 s3 => ⟨rfl, _, rfl, ifT (by rw [lit_em]; rfl) ?_⟩⟩⟩
      refine ⟨[38, 108, 116, 59], by rw [e4]; rfl, by decide, rfl, ?_⟩
      rw [x1, decide_eq_true rfl]
      exact q _

theorem all_mk {l : PySem.W.OpenLaw} {w : World} {K : PySem.W.Frag} {h : Heap} {mg : Str → Option Value} {fa : Addr} (X : K.In h) (G : h.Ns mainGlobals mg) (hfa : mg "law" = some (.ref fa))
    {f0 : Addr} {od0 an0 : Option Addr} {sl0 : Array (Option Value)} {oc0 kV0 dc0 pm0 cd0 ct0 : Value}
    (a0 : PySem.W.nsIn K mainGlobals "rows_in_inline" = some (some (.ref f0))) (l0 : K.lookup f0 = some ⟨oc0, od0, .func (PySem.W.fnOf "rows_in_inline" "rows_in_inline" (defArgs s_rows_in_inline) (defBody s_rows_in_inline) (defScope s_rows_in_inline) .none kV0 dc0 pm0 an0 cd0 ct0), sl0⟩) (c0 : PySem.W.codeIn K cd0 "rows_in_inline" = true) (k0 : PySem.W.keepIn K (.ref f0) = true)
    {f1 : Addr} {od1 an1 : Option Addr} {sl1 : Array (Option Value)} {oc1 kV1 dc1 pm1 cd1 ct1 : Value}
    (a1 : PySem.W.nsIn K mainGlobals "folded" = some (some (.ref f1))) (l1 : K.lookup f1 = some ⟨oc1, od1, .func (PySem.W.fnOf "folded" "folded" (defArgs s_folded) (defBody s_folded) (defScope s_folded) .none kV1 dc1 pm1 an1 cd1 ct1), sl1⟩) (c1 : PySem.W.codeIn K cd1 "folded" = true) (k1 : PySem.W.keepIn K (.ref f1) = true)
    {f2 : Addr} {od2 an2 : Option Addr} {sl2 : Array (Option Value)} {oc2 kV2 dc2 pm2 cd2 ct2 : Value}
    (a2 : PySem.W.nsIn K mainGlobals "escaped" = some (some (.ref f2))) (l2 : K.lookup f2 = some ⟨oc2, od2, .func (PySem.W.fnOf "escaped" "escaped" (defArgs s_escaped) (defBody s_escaped) (defScope s_escaped) .none kV2 dc2 pm2 an2 cd2 ct2), sl2⟩) (c2 : PySem.W.codeIn K cd2 "escaped" = true) (k2 : PySem.W.keepIn K (.ref f2) = true)
    {f3 : Addr} {od3 an3 : Option Addr} {sl3 : Array (Option Value)} {oc3 kV3 dc3 pm3 cd3 ct3 : Value}
    (a3 : PySem.W.nsIn K mainGlobals "words" = some (some (.ref f3))) (l3 : K.lookup f3 = some ⟨oc3, od3, .func (PySem.W.fnOf "words" "words" (defArgs s_words) (defBody s_words) (defScope s_words) .none kV3 dc3 pm3 an3 cd3 ct3), sl3⟩) (c3 : PySem.W.codeIn K cd3 "words" = true) (k3 : PySem.W.keepIn K (.ref f3) = true)
    {f4 : Addr} {od4 an4 : Option Addr} {sl4 : Array (Option Value)} {oc4 kV4 dc4 pm4 cd4 ct4 : Value}
    (a4 : PySem.W.nsIn K mainGlobals "row_words" = some (some (.ref f4))) (l4 : K.lookup f4 = some ⟨oc4, od4, .func (PySem.W.fnOf "row_words" "row_words" (defArgs s_row_words) (defBody s_row_words) (defScope s_row_words) .none kV4 dc4 pm4 an4 cd4 ct4), sl4⟩) (c4 : PySem.W.codeIn K cd4 "row_words" = true) (k4 : PySem.W.keepIn K (.ref f4) = true)
    {f5 : Addr} {od5 an5 : Option Addr} {sl5 : Array (Option Value)} {oc5 kV5 dc5 pm5 cd5 ct5 : Value}
    (a5 : PySem.W.nsIn K mainGlobals "words_of_inline" = some (some (.ref f5))) (l5 : K.lookup f5 = some ⟨oc5, od5, .func (PySem.W.fnOf "words_of_inline" "words_of_inline" (defArgs s_words_of_inline) (defBody s_words_of_inline) (defScope s_words_of_inline) .none kV5 dc5 pm5 an5 cd5 ct5), sl5⟩) (c5 : PySem.W.codeIn K cd5 "words_of_inline" = true) (k5 : PySem.W.keepIn K (.ref f5) = true)
    {f6 : Addr} {od6 an6 : Option Addr} {sl6 : Array (Option Value)} {oc6 kV6 dc6 pm6 cd6 ct6 : Value}
    (a6 : PySem.W.nsIn K mainGlobals "_law_well" = some (some (.ref f6))) (l6 : K.lookup f6 = some ⟨oc6, od6, .func (PySem.W.fnOf "_law_well" "_law_well" (defArgs s__law_well) (defBody s__law_well) (defScope s__law_well) .none kV6 dc6 pm6 an6 cd6 ct6), sl6⟩) (c6 : PySem.W.codeIn K cd6 "_law_well" = true) (k6 : PySem.W.keepIn K (.ref f6) = true)
    {f7 : Addr} {od7 an7 : Option Addr} {sl7 : Array (Option Value)} {oc7 kV7 dc7 pm7 cd7 ct7 : Value}
    (a7 : PySem.W.nsIn K mainGlobals "_law_draw" = some (some (.ref f7))) (l7 : K.lookup f7 = some ⟨oc7, od7, .func (PySem.W.fnOf "_law_draw" "_law_draw" (defArgs s__law_draw) (defBody s__law_draw) (defScope s__law_draw) .none kV7 dc7 pm7 an7 cd7 ct7), sl7⟩) (c7 : PySem.W.codeIn K cd7 "_law_draw" = true) (k7 : PySem.W.keepIn K (.ref f7) = true)
    {f8 : Addr} {od8 an8 : Option Addr} {sl8 : Array (Option Value)} {oc8 kV8 dc8 pm8 cd8 ct8 : Value}
    (a8 : PySem.W.nsIn K mainGlobals "_law_one" = some (some (.ref f8))) (l8 : K.lookup f8 = some ⟨oc8, od8, .func (PySem.W.fnOf "_law_one" "_law_one" (defArgs s__law_one) (defBody s__law_one) (defScope s__law_one) .none kV8 dc8 pm8 an8 cd8 ct8), sl8⟩) (c8 : PySem.W.codeIn K cd8 "_law_one" = true) (k8 : PySem.W.keepIn K (.ref f8) = true)
    {f9 : Addr} {od9 an9 : Option Addr} {sl9 : Array (Option Value)} {oc9 kV9 dc9 pm9 cd9 ct9 : Value}
    (a9 : PySem.W.nsIn K mainGlobals "_law_string" = some (some (.ref f9))) (l9 : K.lookup f9 = some ⟨oc9, od9, .func (PySem.W.fnOf "_law_string" "_law_string" (defArgs s__law_string) (defBody s__law_string) (defScope s__law_string) .none kV9 dc9 pm9 an9 cd9 ct9), sl9⟩) (c9 : PySem.W.codeIn K cd9 "_law_string" = true) (k9 : PySem.W.keepIn K (.ref f9) = true)
    {f10 : Addr} {od10 an10 : Option Addr} {sl10 : Array (Option Value)} {oc10 kV10 dc10 pm10 cd10 ct10 : Value}
    (a10 : PySem.W.nsIn K mainGlobals "_law_target" = some (some (.ref f10))) (l10 : K.lookup f10 = some ⟨oc10, od10, .func (PySem.W.fnOf "_law_target" "_law_target" (defArgs s__law_target) (defBody s__law_target) (defScope s__law_target) .none kV10 dc10 pm10 an10 cd10 ct10), sl10⟩) (c10 : PySem.W.codeIn K cd10 "_law_target" = true) (k10 : PySem.W.keepIn K (.ref f10) = true)
    {f11 : Addr} {od11 an11 : Option Addr} {sl11 : Array (Option Value)} {oc11 kV11 dc11 pm11 cd11 ct11 : Value}
    (a11 : PySem.W.nsIn K mainGlobals "_law_inline" = some (some (.ref f11))) (l11 : K.lookup f11 = some ⟨oc11, od11, .func (PySem.W.fnOf "_law_inline" "_law_inline" (defArgs s__law_inline) (defBody s__law_inline) (defScope s__law_inline) .none kV11 dc11 pm11 an11 cd11 ct11), sl11⟩) (c11 : PySem.W.codeIn K cd11 "_law_inline" = true) (k11 : PySem.W.keepIn K (.ref f11) = true)
    {f12 : Addr} {od12 an12 : Option Addr} {sl12 : Array (Option Value)} {oc12 kV12 dc12 pm12 cd12 ct12 : Value}
    (a12 : PySem.W.nsIn K mainGlobals "_law_row" = some (some (.ref f12))) (l12 : K.lookup f12 = some ⟨oc12, od12, .func (PySem.W.fnOf "_law_row" "_law_row" (defArgs s__law_row) (defBody s__law_row) (defScope s__law_row) .none kV12 dc12 pm12 an12 cd12 ct12), sl12⟩) (c12 : PySem.W.codeIn K cd12 "_law_row" = true) (k12 : PySem.W.keepIn K (.ref f12) = true)
    {f13 : Addr} {od13 an13 : Option Addr} {sl13 : Array (Option Value)} {oc13 kV13 dc13 pm13 cd13 ct13 : Value}
    (a13 : PySem.W.nsIn K mainGlobals "_law_escaped" = some (some (.ref f13))) (l13 : K.lookup f13 = some ⟨oc13, od13, .func (PySem.W.fnOf "_law_escaped" "_law_escaped" (defArgs s__law_escaped) (defBody s__law_escaped) (defScope s__law_escaped) .none kV13 dc13 pm13 an13 cd13 ct13), sl13⟩) (c13 : PySem.W.codeIn K cd13 "_law_escaped" = true) (k13 : PySem.W.keepIn K (.ref f13) = true)
    {f14 : Addr} {od14 an14 : Option Addr} {sl14 : Array (Option Value)} {oc14 kV14 dc14 pm14 cd14 ct14 : Value}
    (a14 : PySem.W.nsIn K mainGlobals "_law_chain" = some (some (.ref f14))) (l14 : K.lookup f14 = some ⟨oc14, od14, .func (PySem.W.fnOf "_law_chain" "_law_chain" (defArgs s__law_chain) (defBody s__law_chain) (defScope s__law_chain) .none kV14 dc14 pm14 an14 cd14 ct14), sl14⟩) (c14 : PySem.W.codeIn K cd14 "_law_chain" = true) (k14 : PySem.W.keepIn K (.ref f14) = true)
    {f15 : Addr} {od15 an15 : Option Addr} {sl15 : Array (Option Value)} {oc15 kV15 dc15 pm15 cd15 ct15 : Value}
    (a15 : PySem.W.nsIn K mainGlobals "_law_gathered" = some (some (.ref f15))) (l15 : K.lookup f15 = some ⟨oc15, od15, .func (PySem.W.fnOf "_law_gathered" "_law_gathered" (defArgs s__law_gathered) (defBody s__law_gathered) (defScope s__law_gathered) .none kV15 dc15 pm15 an15 cd15 ct15), sl15⟩) (c15 : PySem.W.codeIn K cd15 "_law_gathered" = true) (k15 : PySem.W.keepIn K (.ref f15) = true)
    {f16 : Addr} {od16 an16 : Option Addr} {sl16 : Array (Option Value)} {oc16 kV16 dc16 pm16 cd16 ct16 : Value}
    (a16 : PySem.W.nsIn K mainGlobals "law" = some (some (.ref f16))) (l16 : K.lookup f16 = some ⟨oc16, od16, .func (PySem.W.fnOf "law" "law" (defArgs s_law) (defBody s_law) (defScope s_law) .none kV16 dc16 pm16 an16 cd16 ct16), sl16⟩) (c16 : PySem.W.codeIn K cd16 "law" = true) (k16 : PySem.W.keepIn K (.ref f16) = true)
    (z_int : PySem.W.nsIn K mainGlobals "int" = some none)
    (z_len : PySem.W.nsIn K mainGlobals "len" = some none)
    (z_range : PySem.W.nsIn K mainGlobals "range" = some none)
    (z_reversed : PySem.W.nsIn K mainGlobals "reversed" = some none)
    (z_tuple : PySem.W.nsIn K mainGlobals "tuple" = some none)
    (z_zip : PySem.W.nsIn K mainGlobals "zip" = some none)
    : ∃ fd : FuncData, (∀ (s : Shared) (v : Value), BindsTo s fd ⟨[v], []⟩ [("_law_script", v)]) ∧ ∀ base : Heap, K.In base → base.Ns mainGlobals mg → FnOk l.prog w K mg base CX0 33 fa fd ["_law_script"] (sp_law K) := by
  have e := hfa.symm.trans (PySem.W.mg_of X G a16)
  cases e
  have F0 := fun_mk (st := s_rows_in_inline) l0 c0 k0
  have F1 := fun_mk (st := s_folded) l1 c1 k1
  have F2 := fun_mk (st := s_escaped) l2 c2 k2
  have F3 := fun_mk (st := s_words) l3 c3 k3
  have F4 := fun_mk (st := s_row_words) l4 c4 k4
  have F5 := fun_mk (st := s_words_of_inline) l5 c5 k5
  have F6 := fun_mk (st := s__law_well) l6 c6 k6
  have F7 := fun_mk (st := s__law_draw) l7 c7 k7
  have F8 := fun_mk (st := s__law_one) l8 c8 k8
  have F9 := fun_mk (st := s__law_string) l9 c9 k9
  have F10 := fun_mk (st := s__law_target) l10 c10 k10
  have F11 := fun_mk (st := s__law_inline) l11 c11 k11
  have F12 := fun_mk (st := s__law_row) l12 c12 k12
  have F13 := fun_mk (st := s__law_escaped) l13 c13 k13
  have F14 := fun_mk (st := s__law_chain) l14 c14 k14
  have F15 := fun_mk (st := s__law_gathered) l15 c15 k15
  have F16 := fun_mk (st := s_law) l16 c16 k16
  have b0 := F0.binds (ps := ["inline"]) fun _ _ _ _ _ _ us hl => match us, hl with | [_], _ => rfl
  have b1 := F1.binds (ps := ["row", "rows_in", "made"]) fun _ _ _ _ _ _ us hl => match us, hl with | [_, _, _], _ => rfl
  have b2 := F2.binds (ps := ["text"]) fun _ _ _ _ _ _ us hl => match us, hl with | [_], _ => rfl
  have b3 := F3.binds (ps := ["row"]) fun _ _ _ _ _ _ us hl => match us, hl with | [_], _ => rfl
  have b4 := F4.binds (ps := ["row", "inner"]) fun _ _ _ _ _ _ us hl => match us, hl with | [_, _], _ => rfl
  have b5 := F5.binds (ps := ["inline", "rows"]) fun _ _ _ _ _ _ us hl => match us, hl with | [_, _], _ => rfl
  have b6 := F6.binds (ps := ["_law_cell"]) fun _ _ _ _ _ _ us hl => match us, hl with | [_], _ => rfl
  have b7 := F7.binds (ps := ["_law_well_here", "_law_many"]) fun _ _ _ _ _ _ us hl => match us, hl with | [_, _], _ => rfl
  have b8 := F8.binds (ps := ["_law_well_here", "_law_some"]) fun _ _ _ _ _ _ us hl => match us, hl with | [_, _], _ => rfl
  have b9 := F9.binds (ps := ["_law_well_here", "_law_most"]) fun _ _ _ _ _ _ us hl => match us, hl with | [_, _], _ => rfl
  have b10 := F10.binds (ps := ["_law_well_here"]) fun _ _ _ _ _ _ us hl => match us, hl with | [_], _ => rfl
  have b11 := F11.binds (ps := ["_law_well_here", "_law_deep", "_law_is_linked", "_law_has_html"]) fun _ _ _ _ _ _ us hl => match us, hl with | [_, _, _, _], _ => rfl
  have b12 := F12.binds (ps := ["_law_well_here", "_law_deep", "_law_is_linked", "_law_has_html"]) fun _ _ _ _ _ _ us hl => match us, hl with | [_, _, _, _], _ => rfl
  have b13 := F13.binds (ps := ["_law_piece"]) fun _ _ _ _ _ _ us hl => match us, hl with | [_], _ => rfl
  have b14 := F14.binds (ps := ["_law_well_here"]) fun _ _ _ _ _ _ us hl => match us, hl with | [_], _ => rfl
  have b15 := F15.binds (ps := ["_law_some"]) fun _ _ _ _ _ _ us hl => match us, hl with | [_], _ => rfl
  have T : Txt K mg := {
    a_rows_in_inline := f0, d_rows_in_inline := _, f_rows_in_inline := F0, g_rows_in_inline := PySem.W.mg_of X G a0, b_rows_in_inline := b0,
    a_folded := f1, d_folded := _, f_folded := F1, g_folded := PySem.W.mg_of X G a1, b_folded := b1,
    a_escaped := f2, d_escaped := _, f_escaped := F2, g_escaped := PySem.W.mg_of X G a2, b_escaped := b2,
    a_words := f3, d_words := _, f_words := F3, g_words := PySem.W.mg_of X G a3, b_words := b3,
    a_row_words := f4, d_row_words := _, f_row_words := F4, g_row_words := PySem.W.mg_of X G a4, b_row_words := b4,
    a_words_of_inline := f5, d_words_of_inline := _, f_words_of_inline := F5, g_words_of_inline := PySem.W.mg_of X G a5, b_words_of_inline := b5,
    a__law_well := f6, d__law_well := _, f__law_well := F6, g__law_well := PySem.W.mg_of X G a6, b__law_well := b6,
    a__law_draw := f7, d__law_draw := _, f__law_draw := F7, g__law_draw := PySem.W.mg_of X G a7, b__law_draw := b7,
    a__law_one := f8, d__law_one := _, f__law_one := F8, g__law_one := PySem.W.mg_of X G a8, b__law_one := b8,
    a__law_string := f9, d__law_string := _, f__law_string := F9, g__law_string := PySem.W.mg_of X G a9, b__law_string := b9,
    a__law_target := f10, d__law_target := _, f__law_target := F10, g__law_target := PySem.W.mg_of X G a10, b__law_target := b10,
    a__law_inline := f11, d__law_inline := _, f__law_inline := F11, g__law_inline := PySem.W.mg_of X G a11, b__law_inline := b11,
    a__law_row := f12, d__law_row := _, f__law_row := F12, g__law_row := PySem.W.mg_of X G a12, b__law_row := b12,
    a__law_escaped := f13, d__law_escaped := _, f__law_escaped := F13, g__law_escaped := PySem.W.mg_of X G a13, b__law_escaped := b13,
    a__law_chain := f14, d__law_chain := _, f__law_chain := F14, g__law_chain := PySem.W.mg_of X G a14, b__law_chain := b14,
    a__law_gathered := f15, d__law_gathered := _, f__law_gathered := F15, g__law_gathered := PySem.W.mg_of X G a15, b__law_gathered := b15,
    z_int := PySem.W.mg_none_of X G z_int,
    z_len := PySem.W.mg_none_of X G z_len,
    z_range := PySem.W.mg_none_of X G z_range,
    z_reversed := PySem.W.mg_none_of X G z_reversed,
    z_tuple := PySem.W.mg_none_of X G z_tuple,
    z_zip := PySem.W.mg_none_of X G z_zip }
  exact ⟨PySem.W.fnOf "law" "law" (defArgs s_law) (defBody s_law) (defScope s_law) .none kV16 dc16 pm16 an16 cd16 ct16, fun s v => .of_eq rfl, fun base _ _ => ok_law T F16⟩
end K17
open PySem PySem.W PyProof.Rows
set_option maxHeartbeats 0 in
theorem PySem.Challenge.cw_plainmark_k17_escaped_and_words_holds : PySem.Challenge.rw_plainmark_k17_escaped_and_words.Holds := by
  w_on; o_law; k_head; (case hw => w_witness2)
  k_fill
  refine L2.walk_of (l := PySem.Challenge.rw_plainmark_k17_escaped_and_words) (n := 63) (k := 33) (x := "_law_script") (CX := fun _ => L2.CX0) (sp := fun w => K17.sp_law _) rfl (by decide) rfl ⟨rfl, by decide, by decide⟩ (fun w h Y => PySem.W.kIn_of Y) ?F (fun _ _ a ns hl _ hS => ⟨a, ns, rfl, hS, hl, fun _ => rfl⟩) (fun _ _ _ _ _ h => h)
  case F =>
    intro w mg fa h KX G hmg
    refine' K17.all_mk KX G hmg ?a0 ?l0 ?c0 ?k0 ?a1 ?l1 ?c1 ?k1 ?a2 ?l2 ?c2 ?k2 ?a3 ?l3 ?c3 ?k3 ?a4 ?l4 ?c4 ?k4 ?a5 ?l5 ?c5 ?k5 ?a6 ?l6 ?c6 ?k6 ?a7 ?l7 ?c7 ?k7 ?a8 ?l8 ?c8 ?k8 ?a9 ?l9 ?c9 ?k9 ?a10 ?l10 ?c10 ?k10 ?a11 ?l11 ?c11 ?k11 ?a12 ?l12 ?c12 ?k12 ?a13 ?l13 ?c13 ?k13 ?a14 ?l14 ?c14 ?k14 ?a15 ?l15 ?c15 ?k15 ?a16 ?l16 ?c16 ?k16 ?z_int ?z_len ?z_range ?z_reversed ?z_tuple ?z_zip
    (case a0 => k_is); (case l0 => k_is); (case c0 => k_is); (case k0 => k_is); (case a1 => k_is); (case l1 => k_is); (case c1 => k_is); (case k1 => k_is); (case a2 => k_is); (case l2 => k_is); (case c2 => k_is); (case k2 => k_is); (case a3 => k_is); (case l3 => k_is); (case c3 => k_is); (case k3 => k_is); (case a4 => k_is); (case l4 => k_is); (case c4 => k_is); (case k4 => k_is); (case a5 => k_is); (case l5 => k_is); (case c5 => k_is); (case k5 => k_is); (case a6 => k_is); (case l6 => k_is); (case c6 => k_is); (case k6 => k_is); (case a7 => k_is); (case l7 => k_is); (case c7 => k_is); (case k7 => k_is); (case a8 => k_is); (case l8 => k_is); (case c8 => k_is); (case k8 => k_is); (case a9 => k_is); (case l9 => k_is); (case c9 => k_is); (case k9 => k_is); (case a10 => k_is); (case l10 => k_is); (case c10 => k_is); (case k10 => k_is); (case a11 => k_is); (case l11 => k_is); (case c11 => k_is); (case k11 => k_is); (case a12 => k_is); (case l12 => k_is); (case c12 => k_is); (case k12 => k_is); (case a13 => k_is); (case l13 => k_is); (case c13 => k_is); (case k13 => k_is); (case a14 => k_is); (case l14 => k_is); (case c14 => k_is); (case k14 => k_is); (case a15 => k_is); (case l15 => k_is); (case c15 => k_is); (case k15 => k_is); (case a16 => k_is); (case l16 => k_is); (case c16 => k_is); (case k16 => k_is); (case z_int => k_is); (case z_len => k_is); (case z_range => k_is); (case z_reversed => k_is); (case z_tuple => k_is); (case z_zip => k_is)
