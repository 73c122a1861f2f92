import PyProof.Rows.All
import Wide.All
import OpenK.AllK
import Wide.FinOn
import HandS.ForMost
import HandS.Wide
import HandS.StrMore
import HandS.Style
import HandS.Flow
import HandS.Walk
import PyProof.Draws
import PyProof.StrOps2

import HandS.IntHex
import HandS.Dict
import HandS.More
import KE.KIntText
import HandS.IsInst
import HandS.ReplaceLit
import HandS.ReplaceList
import PyProof.ToksMono
import KE.KWords
import PySem.Challenge.RW_plainmark_k50_definitions_one_by_one

set_option Elab.async false
set_option linter.all false
set_option maxRecDepth 100000
/-! words of my own over the hand layer -/
namespace My
open PySem PySem.Spec PyProof.Rows L2

/-- a text by its signs -/
def S (l : List Nat) : Str := ⟨l.toArray⟩
theorem S_tl (l : List Nat) : (S l).cps.toList = l := by simp [S]
theorem S_of (z : Str) : z = S z.cps.toList := by
  cases z
  simp [S]
theorem S_len (l : List Nat) : (S l).length = l.length := by simp [S, Str.length]
theorem S_size (l : List Nat) : (S l).cps.size = l.length := by simp [S]
theorem S_get (l : List Nat) (i : Nat) : (S l).cps[i]? = l[i]? := by simp [S]
theorem S_app (a b : List Nat) : S a ++ S b = S (a ++ b) := by
  show (⟨a.toArray ++ b.toArray⟩ : Str) = ⟨(a ++ b).toArray⟩
  simp
theorem S_inj {a b : List Nat} (h : S a = S b) : a = b := by
  have := congrArg (fun z : Str => z.cps.toList) h
  simpa [S] using this
theorem S_dec (a b : List Nat) : decide (V.str (S a) = V.str (S b)) = decide (a = b) := by
  by_cases h : a = b
  · subst h
    simp
  · have h2 : ¬ V.str (S a) = V.str (S b) := fun e => h (S_inj (V.str.inj e))
    simp [h, h2]
theorem S_cut (l : List Nat) (k : Nat) : cutS (S l) (some (k : Int)) none = S (l.drop k) := by
  unfold cutS
  rw [HT.sIx_nat, HT.sIx_none, S_len, S_tl]
  show S _ = S _
  congr 1
  by_cases h : k ≤ l.length
  · rw [Nat.min_eq_left h]
    exact List.take_of_length_le (by rw [List.length_drop]; omega)
  · rw [Nat.min_eq_right (by omega), Nat.sub_self, List.take_zero, List.drop_of_length_le (by omega)]
theorem S_cut2 (l : List Nat) (j k : Nat) (h : j ≤ k) : cutS (S l) (some (j : Int)) (some (k : Int)) = S ((l.drop j).take (k - j)) := by
  unfold cutS
  rw [HT.sIx_nat, HT.sIx_nat, S_len, S_tl]
  show S _ = S _
  congr 1
  by_cases h1 : j ≤ l.length
  · rw [Nat.min_eq_left h1]
    by_cases h2 : k ≤ l.length
    · rw [Nat.min_eq_left h2]
    · rw [Nat.min_eq_right (by omega), List.take_of_length_le (by rw [List.length_drop]; omega), List.take_of_length_le (by rw [List.length_drop]; omega)]
  · rw [List.drop_of_length_le (by omega), List.drop_of_length_le (by omega), List.take_nil, List.take_nil]

/-- all that is tracked but L stays -/
def Keeps (L : Addr) (H H' : Hp) : Prop := ∀ b o, b ≠ L → H b = some o → H' b = some o
theorem Keeps.refl {L : Addr} (H : Hp) : Keeps L H H := fun _ _ _ h => h
theorem Keeps.trans {L : Addr} {H H1 H2 : Hp} (a : Keeps L H H1) (b : Keeps L H1 H2) : Keeps L H H2 := fun c o n h => b c o n (a c o n h)
theorem Keeps.new {L p : Addr} {H : Hp} {o : HO} (h : H p = none) : Keeps L H (upd H p o) := fun b u _ e => by
  rw [upd_ne (ne_of_none e h)]
  exact e
theorem Keeps.at {L : Addr} {H : Hp} {o : HO} : Keeps L H (upd H L o) := fun b u n e => by
  rw [upd_ne n]
  exact e
theorem Keeps.of {L : Addr} {H H' : Hp} (h : Same H H') : Keeps L H H' := fun b o _ e => h b o e
theorem same_new {p : Addr} {H : Hp} {o : HO} (h : H p = none) : Same H (upd H p o) := fun b u e => by
  rw [upd_ne (ne_of_none e h)]
  exact e
/-- a well of draws -/
def Well (H : Hp) (L : Addr) : Prop := ∃ x y : Int, H L = some (.lst [.int x, .int y])
theorem Well.same {H H' : Hp} {L : Addr} (h : Well H L) (s : Same H H') : Well H' L := by
  obtain ⟨x, y, e⟩ := h
  exact ⟨x, y, s _ _ e⟩
theorem Well.new {H : Hp} {L p : Addr} {o : HO} (h : Well H L) (n : H p = none) : Well (upd H p o) L := h.same (same_new n)
theorem Well.ne {H : Hp} {L p : Addr} (h : Well H L) (n : H p = none) : p ≠ L := by
  obtain ⟨x, y, e⟩ := h
  exact (ne_of_none e n).symm
theorem Well.kept {H H' : Hp} {L p : Addr} (h : Well H L) (k : Keeps L H H') (w : Well H' L) (n : H' p = none) : H p = none := by
  cases q : H p with
  | none => rfl
  | some o =>
    have z := k p o (w.ne n) q
    rw [n] at z
    cases z
theorem Keeps.free {L p : Addr} {H H' : Hp} (k : Keeps L H H') (n : H' p = none) (h : p ≠ L) : H p = none := by
  cases q : H p with
  | none => rfl
  | some o =>
    have z := k p o h q
    rw [n] at z
    cases z
theorem Keeps.seq {K : PySem.W.Frag} {L a : Addr} {H H' : Hp} {xs : List V} (k : Keeps L H H') (n : a ≠ L) (h : SqL K H a xs) : SqL K H' a xs := by
  rcases h with (h | ⟨o, h⟩) | h
  · exact .inl (.inl (k _ _ n h))
  · exact .inl (.inr ⟨o, k _ _ n h⟩)
  · exact .inr h
theorem Keeps.tup {K : PySem.W.Frag} {L a : Addr} {H H' : Hp} {xs : List V} (k : Keeps L H H') (n : a ≠ L) (h : SqT K H a xs) : SqT K H' a xs := by
  rcases h with (h | ⟨o, h⟩) | h
  · exact .inl (.inl (k _ _ n h))
  · exact .inl (.inr ⟨o, k _ _ n h⟩)
  · exact .inr h

section
variable {X : Cx}
/-- one sign, so often -/
theorem op_mul_str : OpR X (binaryOp .Mult) (fun x y H Q => ∃ (c j : Nat), x = .str (S [c]) ∧ y = .int (j : Int) ∧ j ≤ 1000 ∧ Q (.str (S (List.replicate j c))) H) := by
  intro pins s σ H x y v u Q I rx ry h
  obtain ⟨c, j, rfl, rfl, hj, q⟩ := h
  obtain ⟨t, rfl⟩ := rx
  obtain ⟨t', rfl⟩ := ry
  have hlen : (S [c]).length = 1 := S_len _
  refine PySem.P.mul_str (by simp; omega) (fun _ _ => by
    rw [hlen]
    have : (1 : Int) ≤ (2 ^ 63 - 1) / (j : Int) := by
      by_cases hj0 : j = 0
      · omega
      · refine Int.le_ediv_of_mul_le (by omega) ?_
        omega
    omega) (fun _ _ => by
    rw [hlen]
    have : (j : Int).toNat = j := by omega
    rw [this]
    exact decide_eq_false (by rw [sizeLine_eq]; omega)) ?_
  have fin : ∀ (l : List Nat), l = List.replicate j c → ∀ (v : Value) (k : Nat), RelV (.str (S l)) v → EP X pins σ Q v { s with toks := k } := fun l e v k r => ⟨.str (S l), H, I.tok _, r, by rw [e]; exact q⟩
  by_cases h0 : (j : Int) < 1
  · have e0 : j = 0 := by omega
    rw [if_pos h0]
    exact ⟨by decide, fin [] (by rw [e0]; rfl) _ _ ⟨_, rfl⟩⟩
  · rw [if_neg h0]
    by_cases h1 : j = 1
    · subst h1
      rw [if_pos (by rfl)]
      exact fin [c] rfl _ s.toks ⟨_, rfl⟩
    · rw [if_neg (by rw [hlen]; simp; omega)]
      have e : (⟨(List.replicate (j : Int).toNat (S [c]).cps).foldl (· ++ ·) #[]⟩ : Str) = S (List.replicate j c) := by
        have ej : (j : Int).toNat = j := by omega
        rw [ej]
        have gen : ∀ (n : Nat) (acc : List Nat), (List.replicate n (S [c]).cps).foldl (· ++ ·) acc.toArray = (acc ++ List.replicate n c).toArray := by
          intro n
          induction n with
          | zero => intro acc; simp
          | succ n ih =>
            intro acc
            rw [List.replicate_succ, List.foldl_cons]
            have : acc.toArray ++ (S [c]).cps = (acc ++ [c]).toArray := by simp [S]
            rw [this, ih, List.replicate_succ]
            simp
        have := gen j []
        simp at this
        unfold S
        congr 1
      rw [e]
      refine ⟨?_, fin _ rfl _ _ ⟨_, rfl⟩⟩
      rw [S_len, List.length_replicate, sizeLine_eq]
      omega

/-- a text with its places -/
def Its2 (z : Str) : It :=
  ⟨fun i _ => i < z.cps.size, fun i H v H' => ∃ T c, v = .ref T ∧ H T = none ∧ H' = upd H T (.tup [.int (i : Nat), .str (S [c])]) ∧ z.cps[i]? = some c, fun i _ => i = z.cps.size⟩
theorem turn_enumS {P : Program} {w : World} {K : PySem.W.Frag} {elts : List Expr} {kk : Nat} {tpos : Pos} (z : Str) (t : Tok) (e it : Addr) :
    Turn P w K (.Tuple elts kk tpos) (Its2 z) [e, it] e (fun i h => (∃ old, IsEnum h e it ((i : Nat) : Int) old) ∧ h.IsStrIter it (strIterType z) z t i ∧ e ≠ it) where
  mem := List.mem_cons_self ..
  obj := fun i h st b hb => by
    obtain ⟨⟨old, he⟩, ⟨o, ho, hc, hd⟩, _⟩ := st
    rcases List.mem_cons.mp hb with rfl | hb
    · exact ⟨_, he, fun v q => nomatch q⟩
    · rw [List.mem_singleton.mp hb]
      exact ⟨o, ho, fun v q => by rw [hd] at q; cases q⟩
  keep := fun i h h' st k => by
    obtain ⟨⟨old, he⟩, ⟨o, ho, r⟩, hne⟩ := st
    exact ⟨⟨old, k e (by simp) _ he⟩, ⟨o, k it (by simp) o ho, r⟩, hne⟩
  item := by
    intro X hP hw hK hc i pins s σ H E I hf st hg
    subst hP hw hK
    obtain ⟨⟨old, he⟩, hit, hne⟩ := st
    have hel : e < s.heap.objs.size := Heap.lt_size he
    have hil : it < s.heap.objs.size := by
      obtain ⟨_, q, _⟩ := hit
      exact Heap.lt_size q
    have hef : e ∉ [it] := fun q => hne (List.mem_singleton.mp q)
    have D : Draws X.prog X.w X.A.in1 it [it] z.cps.size (fun i v => ∃ c u, z.cps[i]? = some c ∧ v = .str ⟨#[c]⟩ u) (fun i h => h.IsStrIter it (strIterType z) z t i) := by
      unfold strIterType
      cases ha : z.cps.all (· < 128)
      · simpa [ha] using Draws.strWide (prog := X.prog) (w := X.w) (A := X.A.in1) (I.ok.hd hc) it z t
      · simpa [ha] using Draws.strAscii (prog := X.prog) (w := X.w) (A := X.A.in1) (I.ok.hd hc) it z t
    refine wpAny_pyNext_enum_itemD D he hit hg hne hef fun x h' tk hx ho hit' hT hsz hk => ?_
    obtain ⟨c, u, hcx, rfl⟩ := hx
    refine ⟨_, rfl, wpAny_letOwnedTupleGo_enum (s := { s with heap := h', toks := tk + 1 }) ho fun h'' he' sb => ?_⟩
    have hT2 : h''.get? s.heap.objs.size = some { cls := .type "tuple", data := .seq #[.int i tk, .str ⟨#[c]⟩ u] } := (sb.2 _ (Nat.ne_of_gt hel)).trans hT
    have new : ObjOk X.prog X.w (upd H s.heap.objs.size (.tup [.int (i : Nat), .str (S [c])])) h'' s.heap.objs.size (.tup [.int (i : Nat), .str (S [c])]) :=
      ⟨by show 2 ≤ sizeLine; decide, [.int i tk, .str ⟨#[c]⟩ u], .cons ⟨_, rfl⟩ (.cons ⟨_, rfl⟩ .nil), ⟨_, hT2, rfl, _, rfl⟩⟩
    have hold : ∀ b ob, b ∉ [e, it] → s.heap.get? b = some ob → h''.get? b = some ob := fun b ob hb q =>
      (sb.2 b (fun q => hb (by simp [q]))).trans (hk b ob (fun q => hb (by simp [q])) (fun q => hb (by simp [q])) q)
    have I1 : Inv X pins σ (upd H s.heap.objs.size (.tup [.int (i : Nat), .str (S [c])])) { s with heap := h'', toks := tk + 1 } :=
      I.turnedNew (t' := tk + 1) (ch := [e, it]) hold hf (Nat.le_refl _) new
    refine ⟨.ref s.heap.objs.size, _, I1, rfl, ⟨_, c, rfl, I.hok.fresh (Nat.le_refl _), rfl, hcx⟩, ⟨⟨.str ⟨#[c]⟩ u, ?_⟩, ?_, hne⟩, fun b hb => ?_⟩
    · have e1 : ((i + 1 : Nat) : Int) = (i : Int) + 1 := Int.natCast_succ i
      rw [e1]
      exact he'
    · obtain ⟨o, q, r⟩ := hit'
      exact ⟨o, (sb.2 it (Ne.symm hne)).trans q, r⟩
    · have hb' : b < s.heap.objs.size := by
        rcases List.mem_cons.mp hb with q | q
        · rw [q]
          exact hel
        · rw [List.mem_singleton.mp q]
          exact hil
      rw [upd_ne (Nat.ne_of_lt hb')]
      exact (hf b hb).1
  done := by
    intro X hP hw hK hc i pins s σ H E I hf st hg
    subst hP hw hK
    obtain ⟨⟨old, he⟩, hit, hne⟩ := st
    obtain ⟨f0, f1, f2, f3, f4, f5⟩ := hf it (by simp)
    have D : Draws X.prog X.w X.A.in1 it [it] z.cps.size (fun i v => ∃ c u, z.cps[i]? = some c ∧ v = .str ⟨#[c]⟩ u) (fun i h => h.IsStrIter it (strIterType z) z t i) := by
      unfold strIterType
      cases ha : z.cps.all (· < 128)
      · simpa [ha] using Draws.strWide (prog := X.prog) (w := X.w) (A := X.A.in1) (I.ok.hd hc) it z t
      · simpa [ha] using Draws.strAscii (prog := X.prog) (w := X.w) (A := X.A.in1) (I.ok.hd hc) it z t
    have hi : i = z.cps.size := hg
    subst hi
    exact wpAny_pyNext_enum_endD D he hit fun h' eb => ⟨rfl, I.turned (t' := s.toks) (fun b o hb q => eb b o hb q) f0 f1 f3 f4 f5⟩
  self := fun A i s Q E st h => by
    obtain ⟨⟨_, he⟩, _⟩ := st
    exact wpAny_pyIter_enum he h
def iEnumS (ta : TA) : TI := fun σ H R => ta σ H fun vs H1 => ∃ z, vs = [.str z] ∧ R (Its2 z) H1
theorem pi_enumS {e : Expr} {ta : TA} {p pos tpos : Pos} {elts : List Expr} {kk : Nat} (hg : Gl X "enumerate") (hm : X.mg "enumerate" = none) (ha : PA X [e] ta)
    (hs : starEach [e] X.env = [(false, eval e X.env)] := by rfl) : PI X (.Tuple elts kk tpos) (.Call (.Name "enumerate" p) [e] [] pos) (iEnumS ta) := by
  refine ⟨fun pins s σ H R I h => ?_⟩
  refine Call_ (ld_blt I hg hm boot_enumerate (PyProof.Rows.callWith_type1 (thn (ha.run pos pins s σ H _ I h) fun us s1 ⟨vs, H1, I1, r1, q1⟩ => ?_) hs rfl))
  obtain ⟨z, rfl, q⟩ := q1
  obtain ⟨u1, rfl, r⟩ := vals1 r1
  obtain ⟨t, rfl⟩ := r
  refine PySem.call_enumerate_str fun h' he hit hsz hk => wpAny_pyIter_enum he ?_
  have I2 : Inv X pins σ H1 { s1 with heap := h' } := I1.kept (t' := s1.toks) hk
  refine ⟨s1.heap.objs.size + 1, [s1.heap.objs.size + 1, s1.heap.objs.size], _, _, H1, rfl, I2, turn_enumS z t (s1.heap.objs.size + 1) s1.heap.objs.size, ⟨⟨.none, he⟩, hit, Nat.succ_ne_self _⟩, fun b hb => ?_, q⟩
  have hle : s1.heap.objs.size ≤ b := by
    rcases List.mem_cons.mp hb with q | q
    · rw [q]
      exact Nat.le_succ _
    · rw [List.mem_singleton.mp q]
      exact Nat.le_refl _
  exact I1.fpOk hle (I1.hok.fresh hle)
theorem walk_enumS {z : Str} : Walk (Its2 z) z.cps.size (fun _ => True) (fun i H v H' => ∃ T c, v = .ref T ∧ H T = none ∧ H' = upd H T (.tup [.int (i : Nat), .str (S [c])]) ∧ z.cps[i]? = some c) :=
  ⟨fun _ _ hi _ => hi, fun _ _ => rfl, fun _ _ _ _ _ _ y => y⟩
end

/-! ### data -/
def Sm (l : List Nat) : Prop := ∀ c ∈ l, c < 1114112
theorem Sm.ok {l : List Nat} (h : Sm l) : PyData.strOk (S l) = true := by
  unfold PyData.strOk S
  rw [Array.all_eq_true']
  intro c hc
  exact decide_eq_true (h c (by simpa using hc))
theorem Sm.drop {l : List Nat} (h : Sm l) (n : Nat) : Sm (l.drop n) := fun c hc => h c (List.mem_of_mem_drop hc)
theorem dp_strs {K : PySem.W.Frag} {H : Hp} : ∀ ls : List (List Nat), DpAll K H (ls.map fun l => V.str (S l)) (ls.map fun l => PyData.str (S l))
  | [] => .nil
  | l :: r => .cons (.str _) (dp_strs r)
theorem canLay_strs : ∀ {ls : List (List Nat)}, (∀ l ∈ ls, Sm l) → PyData.canLayAll0 (ls.map fun l => PyData.str (S l)) = true
  | [], _ => rfl
  | l :: r, h => by
    show (PyData.strOk (S l) && PyData.canLayAll0 (r.map fun l => PyData.str (S l))) = true
    rw [(h l (List.mem_cons_self ..)).ok, canLay_strs fun z hz => h z (List.mem_cons_of_mem _ hz)]
    rfl
theorem depth_strs : ∀ ls : List (List Nat), PyData.depthAll (ls.map fun l => PyData.str (S l)) = 0
  | [] => rfl
  | l :: r => by
    show max 0 (PyData.depthAll (r.map fun l => PyData.str (S l))) = 0
    rw [depth_strs r]
    rfl
theorem shaped_strs {ls : List (List Nat)} (h : ∀ l ∈ ls, Sm l) : SeqAt.shaped (.list (ls.map fun l => PyData.str (S l))) = true := by
  show (PyData.canLayAll0 _ && decide (PyData.depthAll _ + 1 ≤ 64)) = true
  rw [canLay_strs h, depth_strs]
  rfl
theorem eq_strs {ls : List (List Nat)} (h : ∀ l ∈ ls, Sm l) : PyData.eqv (.list (ls.map fun l => PyData.str (S l))) (.list (ls.map fun l => PyData.str (S l))) = true :=
  PySem.SeqAt.eqv_refl _ (canLay_strs h)
/-- a text and two ints -/
def D3 (l : List Nat) (b c : Int) : PyData := .tuple [.str (S l), .int b, .int c]
theorem dp3 {K : PySem.W.Frag} {H : Hp} {a : Addr} {l : List Nat} {b c : Int} (h : SqT K H a [.str (S l), .int b, .int c]) : Dp K H (.ref a) (D3 l b c) :=
  .tup h (.cons (.str _) (.cons (.int _) (.cons (.int _) .nil)))
theorem lay3 {l : List Nat} (h : Sm l) (b c : Int) : (D3 l b c).canLay0 = true := by
  show (PyData.strOk (S l) && (true && (true && true))) = true
  rw [h.ok]
  rfl
theorem shaped3 {l : List Nat} (h : Sm l) (b c : Int) : SeqAt.shaped (D3 l b c) = true := by
  show ((D3 l b c).canLay0 && decide ((D3 l b c).depth ≤ 64)) = true
  rw [lay3 h]
  rfl
theorem eq3 {l : List Nat} (h : Sm l) (b c : Int) : PyData.eqv (D3 l b c) (D3 l b c) = true := PySem.SeqAt.eqv_refl _ (lay3 h b c)

/-! ### a if t else b -/
def AnsB (t : TT) (σ : L2.St) (H : Hp) (b : Bool) : Prop := ∀ Q : Bool → Hp → Prop, Q b H → t σ H Q
def ValB (te : TE) (σ : L2.St) (H : Hp) (P : V → Hp → Prop) : Prop := ∀ Q : VK, (∀ v H', P v H' → Q v H') → te σ H Q
theorem tif_val {t : TT} {ta tb : TE} {σ : L2.St} {H : Hp} {P : V → Hp → Prop} (b : Bool) (ht : AnsB t σ H b) (ha : b = true → ValB ta σ H P) (hb : b = false → ValB tb σ H P) : ValB (tIf t ta tb) σ H P := by
  intro Q q
  refine ht _ ?_
  cases b with
  | true =>
    rw [if_pos rfl]
    exact ha rfl Q q
  | false =>
    rw [if_neg Bool.false_ne_true]
    exact hb rfl Q q
theorem sum_le : ∀ {ls : List (List Nat)} {k : Nat}, (∀ l ∈ ls, l.length ≤ k) → ((ls.map S).map (·.length)).sum ≤ k * ls.length
  | [], k, _ => by simp
  | a :: r, k, h => by
    have ih := sum_le (ls := r) (k := k) fun l hl => h l (List.mem_cons_of_mem _ hl)
    have ha := h a (List.mem_cons_self ..)
    rw [List.map_cons, List.map_cons, List.sum_cons, S_len, List.length_cons, Nat.mul_succ]
    omega

theorem asg_if {t : TT} {ta tb : TE} {g : TG} {u : TS} {D : Ends} {σ : L2.St} {H : Hp} (P : V → Hp → Prop) (b : Bool) (ht : AnsB t σ H b) (ha : b = true → ValB ta σ H P) (hb : b = false → ValB tb σ H P)
    (hq : ∀ v H', P v H' → g v σ H' (u D)) : tSeq (tAsg (tIf t ta tb) g) u D σ H :=
  tif_val b ht ha hb (fun v H' => g v σ H' (u D)) hq
theorem go_nx {D : Ends} {σ : L2.St} {H : Hp} (q : D.nx σ H) : tNext D σ H := q
end My

/-! ### texts by their signs: what the methods tell -/
namespace My
open PySem PySem.Spec PyProof.Rows L2 PySem.StrLaws PySem.Builtin.Str
theorem from_nat (n p : Nat) : fromIndex n (p : Int) = p := by
  unfold fromIndex
  have : ¬ (p : Int) < 0 := by omega
  rw [if_neg this]
  omega
theorem to_nat (n p : Nat) : toIndexW n (p : Int) = min n p := by
  unfold toIndexW
  have : ¬ (p : Int) < 0 := by omega
  rw [if_neg this]
  omega
theorem sub_S (t w : List Nat) (i : Nat) : subAt (S t) (S w) i = ((t.drop i).take w.length == w) := by
  rw [subAt_eq, S_tl, S_tl, S_len]
theorem take_pre : ∀ (w r : List Nat), (r.take w.length == w) = w.isPrefixOf r
  | [], r => by simp [List.isPrefixOf]
  | a :: w, [] => by simp [List.isPrefixOf]
  | a :: w, b :: r => by
    show (b :: r.take w.length == a :: w) = (a == b && w.isPrefixOf r)
    rw [← take_pre w r]
    show (b == a && (r.take w.length == w)) = _
    have e : (b == a) = (a == b) := by
      by_cases h : a = b
      · rw [h]
      · rw [beq_eq_false_iff_ne.mpr h, beq_eq_false_iff_ne.mpr fun e => h e.symm]
    rw [e]
theorem pre_len : ∀ (w r : List Nat), w.isPrefixOf r = true → w.length ≤ r.length
  | [], r, _ => Nat.zero_le _
  | a :: w, [], h => by cases h
  | a :: w, b :: r, h => by
    have h2 : w.isPrefixOf r = true := (Bool.and_eq_true_iff.mp (show (a == b && w.isPrefixOf r) = true from h)).2
    have := pre_len w r h2
    simp
    omega
theorem at_S (t w : List Nat) (hw : w ≠ []) (i : Nat) : At (S t) (S w) (S t).length i ↔ w.isPrefixOf (t.drop i) = true := by
  unfold At
  rw [sub_S, take_pre, S_len, S_len]
  constructor
  · exact fun h => h.2
  · intro h
    refine ⟨?_, h⟩
    have := pre_len _ _ h
    rw [List.length_drop] at this
    have h0 : 0 < w.length := List.length_pos_iff.mpr hw
    omega
theorem starts3 (t w : List Nat) (hw : w ≠ []) (p : Nat) : Txt.startswith3 (S t) (S w) (p : Int) = w.isPrefixOf (t.drop p) := by
  unfold Txt.startswith3
  rw [from_nat, sub_S, take_pre]
  cases h : w.isPrefixOf (t.drop p) with
  | false => simp
  | true =>
    have := (at_S t w hw p).mpr h
    have h1 : p + (S w).length ≤ (S t).length := this.1
    simp [h1]
theorem starts1 (t w : List Nat) (hw : w ≠ []) : Txt.startswith (S t) (S w) = w.isPrefixOf t := by
  have := starts3 t w hw 0
  unfold Txt.startswith3 at this
  rw [from_nat, List.drop_zero] at this
  exact this
/-- the first place of w -/
def findL (w : List Nat) : List Nat → Option Nat
  | [] => if w = [] then some 0 else none
  | c :: r => if w.isPrefixOf (c :: r) = true then some 0 else (findL w r).map (· + 1)
theorem findL_some {w : List Nat} : ∀ {r : List Nat} {k : Nat}, w ≠ [] → findL w r = some k → w.isPrefixOf (r.drop k) = true ∧ ∀ j, j < k → w.isPrefixOf (r.drop j) = false
  | [], k, hw, h => by
    unfold findL at h
    rw [if_neg hw] at h
    cases h
  | c :: r, k, hw, h => by
    unfold findL at h
    split at h
    · rename_i hp
      cases h
      exact ⟨hp, fun j hj => absurd hj (Nat.not_lt_zero _)⟩
    · rename_i hp
      cases hf : findL w r with
      | none => rw [hf] at h; cases h
      | some k' =>
        rw [hf] at h
        have e : k' + 1 = k := Option.some.inj h
        subst e
        obtain ⟨h1, h2⟩ := findL_some hw hf
        refine ⟨h1, fun j hj => ?_⟩
        cases j with
        | zero => exact eq_false_of_ne_true hp
        | succ j => exact h2 j (by omega)
theorem findL_none {w : List Nat} : ∀ {r : List Nat}, w ≠ [] → findL w r = none → ∀ j, w.isPrefixOf (r.drop j) = false
  | [], hw, _, j => by
    rw [List.drop_nil]
    cases w with
    | nil => exact absurd rfl hw
    | cons a w => rfl
  | c :: r, hw, h, j => by
    unfold findL at h
    split at h
    · cases h
    · rename_i hp
      cases hf : findL w r with
      | some k => rw [hf] at h; cases h
      | none =>
        cases j with
        | zero => exact eq_false_of_ne_true hp
        | succ j => exact findL_none hw hf j
theorem find3_S (t w : List Nat) (hw : w ≠ []) (p : Nat) : Txt.find3 (S t) (S w) (p : Int) = match findL w (t.drop p) with | some k => ((p + k : Nat) : Int) | none => -1 := by
  unfold Txt.find3
  rw [from_nat]
  rcases occ_head_from (S t) (S w) p 1 (Nat.le_refl _) with ⟨h0, hn⟩ | ⟨i, r, h0, hp, ha, hn⟩
  · rw [h0]
    cases hf : findL w (t.drop p) with
    | none => rfl
    | some k =>
      have h1 := (findL_some hw hf).1
      rw [List.drop_drop] at h1
      exact absurd ((at_S t w hw (p + k)).mpr h1) (hn (p + k) (by omega))
  · rw [h0]
    have ha' := (at_S t w hw i).mp ha
    cases hf : findL w (t.drop p) with
    | none =>
      have h1 := findL_none hw hf (i - p)
      rw [List.drop_drop, show p + (i - p) = i by omega, ha'] at h1
      cases h1
    | some k =>
      obtain ⟨h1, h2⟩ := findL_some hw hf
      rw [List.drop_drop] at h1
      have e : i = p + k := by
        rcases Nat.lt_trichotomy i (p + k) with h | h | h
        · have h3 := h2 (i - p) (by omega)
          rw [List.drop_drop, show p + (i - p) = i by omega, ha'] at h3
          cases h3
        · exact h
        · exact absurd ((at_S t w hw (p + k)).mpr h1) (hn (p + k) (by omega) h)
      show ((i : Nat) : Int) = _
      rw [e]
/-- one text in another -/
def inL (w r : List Nat) : Bool := (findL w r).isSome
theorem in_S (t w : List Nat) (hw : w ≠ []) : (!(occurrences (S t) (S w) 0 (S t).length 1).isEmpty) = inL w t := by
  have h := find3_S t w hw 0
  unfold Txt.find3 at h
  rw [from_nat, List.drop_zero] at h
  unfold inL
  cases ho : occurrences (S t) (S w) 0 (S t).length 1 with
  | nil =>
    rw [ho] at h
    cases hf : findL w t with
    | none => rfl
    | some k =>
      rw [hf] at h
      have h' : (-1 : Int) = ((0 + k : Nat) : Int) := h
      omega
  | cons a b =>
    rw [ho] at h
    cases hf : findL w t with
    | none =>
      rw [hf] at h
      have h' : ((a : Nat) : Int) = -1 := h
      omega
    | some k => rfl
/-- signs counted -/
theorem occ_count (t : List Nat) (c hi limit : Nat) : ∀ (n a : Nat) (st : Array Nat × Nat), st.2 ≤ a → st.1.size + n ≤ limit → hi ≤ t.length → a + n = hi + 1 ∨ (n = 0 ∧ hi < a) →
    (forIn (List.range' a n) st (occBody (S t) (S [c]) hi limit)).run.fst.size = st.1.size + ((t.drop a).take (hi - a)).count c
  | 0, a, st, h1, h2, h3, h4 => by
    have : hi - a = 0 := by omega
    rw [this]
    simp
  | n + 1, a, st, h1, h2, h3, h4 => by
    rw [List.range'_succ, List.forIn_cons]
    have hl : (S [c]).length = 1 := S_len _
    have stay : ¬ (((st.1.size < limit ∧ st.2 ≤ a) ∧ a + (S [c]).length ≤ hi) ∧ subAt (S t) (S [c]) a = true) →
        (occBody (S t) (S [c]) hi limit a st) = pure (ForInStep.yield st) := fun z => by
      unfold occBody
      rw [if_neg z]
    by_cases ha : a < hi
    · have hat : a < t.length := by omega
      have hd : t.drop a = t[a] :: t.drop (a + 1) := List.drop_eq_getElem_cons hat
      have hs : hi - a = (hi - (a + 1)) + 1 := by omega
      have hsub : subAt (S t) (S [c]) a = (t[a] == c) := by
        rw [sub_S, hd]
        show (t[a] :: (t.drop (a + 1)).take 0 == [c]) = _
        rw [List.take_zero]
        by_cases h : t[a] = c <;> simp [h]
      have hcnt : ((t.drop a).take (hi - a)).count c = ((t.drop (a + 1)).take (hi - (a + 1))).count c + if t[a] == c then 1 else 0 := by
        rw [hd, hs, List.take_succ_cons, List.count_cons]
      rw [hcnt]
      by_cases hc : t[a] = c
      · have e : occBody (S t) (S [c]) hi limit a st = pure (ForInStep.yield (st.1.push a, a + (S [c]).length)) := by
          unfold occBody
          rw [if_pos ⟨⟨⟨by omega, h1⟩, by omega⟩, by rw [hsub]; simp [hc]⟩]
        rw [e, hl]
        have ih := occ_count t c hi limit n (a + 1) (st.1.push a, a + 1) (Nat.le_refl _) (by rw [Array.size_push]; omega) h3 (by omega)
        have e1 : (if t[a] == c then 1 else 0) = 1 := by rw [hc]; simp
        rw [e1]
        refine Eq.trans ih ?_
        rw [Array.size_push]
        omega
      · rw [stay (fun z => by have := z.2; rw [hsub] at this; simp at this; exact hc this)]
        have ih := occ_count t c hi limit n (a + 1) st (by omega) (by omega) h3 (by omega)
        have e1 : (if t[a] == c then 1 else 0) = 0 := by simp [hc]
        rw [e1]
        exact ih
    · rw [stay (fun z => by have := z.1.2; omega)]
      have ih := occ_count t c hi limit n (a + 1) st (by omega) (by omega) h3 (by omega)
      have e0 : hi - a = 0 := by omega
      have e1 : hi - (a + 1) = 0 := by omega
      rw [e1] at ih
      rw [e0]
      refine Eq.trans ih ?_
      simp
theorem count_S (t : List Nat) (c p e : Nat) (he : e ≤ t.length) (hp : p ≤ e) : Txt.countIn (S t) (S [c]) (p : Int) (e : Int) = (((t.drop p).take (e - p)).count c : Nat) := by
  unfold Txt.countIn
  rw [from_nat, to_nat, S_len, Nat.min_eq_right he, occ_eq]
  have h := occ_count t c e (t.length + 1) (e + 1 - p) p (#[], p) (Nat.le_refl _) (by simp; omega) he (by omega)
  rw [Array.length_toList]
  congr 1
  rw [h]
  simp
/-- blank: nothing but such signs -/
theorem tw_all {g : Nat → Bool} : ∀ {t : List Nat}, t.all g = true → t.takeWhile g = t
  | [], _ => rfl
  | a :: r, h => by
    have h2 := Bool.and_eq_true_iff.mp (show (g a && r.all g) = true from h)
    rw [List.takeWhile_cons, if_pos h2.1, tw_all h2.2]
theorem tw_not {g : Nat → Bool} : ∀ {t : List Nat}, t.all g = false → ∃ c r, t.drop (t.takeWhile g).length = c :: r ∧ g c = false
  | [], h => by cases h
  | a :: r, h => by
    rw [List.takeWhile_cons]
    cases hg : g a with
    | false => exact ⟨a, r, by simp, hg⟩
    | true =>
      have h2 : r.all g = false := by
        have : (g a && r.all g) = false := h
        rw [hg] at this
        simpa using this
      obtain ⟨c, r', h3, h4⟩ := tw_not h2
      exact ⟨c, r', by simpa using h3, h4⟩
theorem strip_nil (t w : List Nat) : ((Txt.stripChars (S t) (S w)).cps.toList = []) ↔ t.all (fun c => w.contains c) = true := by
  have hg : (S w).cps.contains = fun c => w.contains c := by
    funext c
    simp [S]
  unfold Txt.stripChars Txt.stripBy stripSame stripped stripLo stripHi
  rw [hg]
  simp only [if_true]
  rw [S_tl, S_len]
  cases h : t.all (fun c => w.contains c) with
  | true =>
    have e := tw_all h
    rw [e, List.drop_length]
    simp only [List.reverse_nil, List.takeWhile_nil, List.length_nil, Nat.sub_zero]
    have key : (if (t.length == 0 && t.length == t.length) = true then S t else strSub (S t) t.length t.length).cps.toList = [] := by
      by_cases h0 : (t.length == 0 && t.length == t.length) = true
      · rw [if_pos h0, S_tl]
        have h1 : t.length = 0 := by simpa using h0
        exact List.length_eq_zero_iff.mp h1
      · rw [if_neg h0, strSub_toList, Nat.sub_self, List.take_zero]
    exact ⟨fun _ => trivial, fun _ => key⟩
  | false =>
    constructor
    · intro h0
      exfalso
      obtain ⟨c, r, h1, h2⟩ := tw_not h
      have hlen : (t.takeWhile (fun c => w.contains c)).length < t.length := by
        have := congrArg List.length h1
        rw [List.length_drop, List.length_cons] at this
        omega
      split at h0
      · rw [S_tl] at h0
        rw [h0] at hlen
        simp at hlen
      · rw [strSub_toList, S_tl, h1] at h0
        have hr : ((c :: r).reverse.takeWhile (fun c => w.contains c)).length ≤ r.length := by
          rw [List.reverse_cons]
          by_cases hall : r.reverse.all (fun c => w.contains c) = true
          · rw [List.takeWhile_append_of_pos (by simpa using hall), List.takeWhile_cons, if_neg (by rw [h2]; exact Bool.false_ne_true)]
            simp
          · obtain ⟨x, y, h5, h6⟩ := tw_not (eq_false_of_ne_true hall)
            have h7 : (r.reverse.takeWhile (fun c => w.contains c)).length < r.reverse.length := by
              have := congrArg List.length h5
              rw [List.length_drop] at this
              simp at this
              simp
              omega
            have h8 : (r.reverse ++ [c]).takeWhile (fun c => w.contains c) = r.reverse.takeWhile (fun c => w.contains c) := by
              have e := List.takeWhile_append (p := fun c => w.contains c) (xs := r.reverse) (ys := [c])
              rw [e, if_neg (by omega)]
            rw [h8]
            have := List.length_reverse (as := r)
            omega
        have h9 : (c :: r).length = t.length - (t.takeWhile (fun c => w.contains c)).length := by
          rw [← h1, List.length_drop]
        have h10 := congrArg List.length h0
        rw [List.length_take] at h10
        simp only [List.length_cons, List.length_nil] at h10 h9
        omega
    · intro h1
      cases h1
theorem strip_blank (t w : List Nat) : decide (V.str (Txt.stripChars (S t) (S w)) = V.str (S [])) = t.all (fun c => w.contains c) := by
  rw [S_of (Txt.stripChars (S t) (S w)), S_dec]
  cases h : t.all (fun c => w.contains c) with
  | true => exact decide_eq_true ((strip_nil t w).mpr h)
  | false => exact decide_eq_false fun z => by rw [(strip_nil t w).mp z] at h; cases h
/-- small letters, great letters -/
theorem lower_S (t : List Nat) (h : ∀ c ∈ t, c < 128) : Txt.lower (S t) = S (t.map lo1) := by
  rw [lower_ascii (by rw [S_tl]; exact h)]
  show (⟨t.toArray.map lo1⟩ : Str) = ⟨(t.map lo1).toArray⟩
  simp
theorem upper_S (t : List Nat) (h : ∀ c ∈ t, c < 128) : Txt.upper (S t) = S (t.map up1) := by
  rw [upper_ascii (by rw [S_tl]; exact h)]
  show (⟨t.toArray.map up1⟩ : Str) = ⟨(t.map up1).toArray⟩
  simp
end My

/-! ### more words: a written dict of texts, update, int by a base, find up to an end -/
namespace My
open PySem PySem.Spec PyProof.Rows L2 PySem.StrLaws PySem.Builtin.Str
/-! a written dict of the module, its keys texts -/
def EntS : List DictEntry → List (Str × V) → Prop
  | [], [] => True
  | e :: es, p :: ps => (∃ t, e.key = .str p.1 t) ∧ RelV p.2 e.val ∧ EntS es ps
  | _, _ => False
structure KDictS (K : PySem.W.Frag) (w : World) (d : Addr) (ps : List (Str × V)) : Prop where
  here : ∃ es n, KDict K w d es n ∧ EntS es.toList ps
theorem entS_find (k : Str) : ∀ {es : List DictEntry} {ps : List (Str × V)}, EntS es ps →
    match ps.lookup k with
    | none => (es.find? fun e => Value.isStrOf k e.key).map (·.val) = none
    | some v => ∃ u, (es.find? fun e => Value.isStrOf k e.key).map (·.val) = some u ∧ RelV v u
  | [], [], _ => rfl
  | [], _ :: _, h => h.elim
  | _ :: _, [], h => h.elim
  | e :: es, p :: ps, ⟨⟨t, h1⟩, h2, r⟩ => by
    have ih := entS_find k r
    rw [List.find?_cons, List.lookup_cons, h1]
    by_cases h : k = p.1
    · subst h
      have e1 : Value.isStrOf p.1 (.str p.1 t) = true := by simp [Value.isStrOf]
      rw [e1, beq_self_eq_true]
      exact ⟨_, rfl, h2⟩
    · have e1 : Value.isStrOf k (.str p.1 t) = false := by
        cases q : Value.isStrOf k (.str p.1 t) with
        | false => rfl
        | true =>
          obtain ⟨t', e⟩ := Value.isStrOf_shape q
          cases e
          exact absurd rfl h
      rw [e1, beq_eq_false_iff_ne.mpr h]
      exact ih
section
variable {X : Cx} {d : Addr} {ps : List (Str × V)}
theorem kds_map {prog : Program} {w : World} {h : Heap} {K : PySem.W.Frag} (D : KDictS K w d ps) (I : K.In h) (k : Str) : (d == sysModules) = false ∧ ∃ f : Str → Option Value, h.MapOf (strKind prog w) d f ∧
    match ps.lookup k with
    | none => f k = none
    | some v => ∃ u, f k = some u ∧ RelV v u := by
  obtain ⟨es, n, D, he⟩ := D.here
  refine ⟨D.low, _, PySem.W.mapOf_K (prog := prog) I D.at_ D.lit, ?_⟩
  have := entS_find k he
  obtain ⟨l⟩ := es
  simpa only [findBy, List.find?_toArray] using this
theorem op_in_ks (D : KDictS X.K X.w d ps) : OpR X (compareOp .In) (fun x y H Q => ∃ z : Str, x = .str z ∧ y = .ref d ∧ Q (.bl (ps.lookup z).isSome) H) := by
  intro pins s σ H x y v u Q I rx ry h
  obtain ⟨z, rfl, rfl, q⟩ := h
  obtain ⟨t, rfl⟩ := rx
  cases ry
  obtain ⟨low, f, hm, hf⟩ := kds_map (prog := X.prog) D I.kIn z
  refine wpAny_in_of (PySem.strKind_is X.prog X.w z t) low hm ?_
  refine ⟨.bl (ps.lookup z).isSome, H, I.tok _, ?_, q⟩
  show Value.bool _ = Value.bool _
  cases e : ps.lookup z with
  | none => rw [e] at hf; rw [show f z = none from hf]; rfl
  | some v => rw [e] at hf; obtain ⟨u, h1, _⟩ := hf; rw [h1]; rfl
theorem op_notIn_ks (D : KDictS X.K X.w d ps) : OpR X (compareOp .NotIn) (fun x y H Q => ∃ z : Str, x = .str z ∧ y = .ref d ∧ Q (.bl (!(ps.lookup z).isSome)) H) := by
  intro pins s σ H x y v u Q I rx ry h
  obtain ⟨z, rfl, rfl, q⟩ := h
  obtain ⟨t, rfl⟩ := rx
  cases ry
  obtain ⟨low, f, hm, hf⟩ := kds_map (prog := X.prog) D I.kIn z
  refine wpAny_notIn_of (PySem.strKind_is X.prog X.w z t) low hm ?_
  refine ⟨.bl (!(ps.lookup z).isSome), H, I.tok _, ?_, q⟩
  show Value.bool _ = Value.bool _
  cases e : ps.lookup z with
  | none => rw [e] at hf; rw [show f z = none from hf]; rfl
  | some v => rw [e] at hf; obtain ⟨u, h1, _⟩ := hf; rw [h1]; rfl
theorem ix_ks (D : KDictS X.K X.w d ps) : IxR X (fun x y H Q => ∃ (z : Str) (v : V), x = .ref d ∧ y = .str z ∧ ps.lookup z = some v ∧ Q v H) := by
  intro value slice pins s σ H x y v u Q I rx ry h hs
  obtain ⟨z, a, rfl, rfl, e, q⟩ := h
  obtain rfl : v = Value.ref d := rx
  obtain ⟨t, rfl⟩ := ry
  obtain ⟨low, f, hm, hf⟩ := kds_map (prog := X.prog) D I.kIn z
  rw [e] at hf
  obtain ⟨u, h1, ru⟩ := hf
  exact tail_any hm.typeIs slot_dict_getitem.lookup (wpAny_getItem_of (strKind_is X.prog X.w z t) hm h1 ⟨a, H, I.tok _, ru, q⟩) hs
/-- NAMES.get(key) -/
theorem pe_kget {o e : Expr} {to te : TE} {apos cpos : Pos} (D : KDictS X.K X.w d ps) (ho : PE X o to) (he : PE X e te) (m : M1 X o "get" apos e cpos) :
    PE X (.Call (.Attribute o "get" apos) [e] [] cpos) (fun σ H Q => to σ H fun x H1 => x = .ref d ∧ te σ H1 fun y H2 => ∃ z : Str, y = .str z ∧ Q ((ps.lookup z).getD .non) H2) := by
  refine ⟨fun pins s σ H Q I h => ?_⟩
  refine wpAny_Call_method m.base m.few m.line PySem.F.plainAttrs_dict PySem.F.slot_dict_get PySem.F.type_dict_get (thn (ho.run pins s σ H _ I h) fun u s1 ⟨x, H1, I1, rx, ex, q1⟩ => ?_)
  subst ex
  obtain rfl : u = Value.ref d := rx
  obtain ⟨low, f, hm, hf⟩ := kds_map (prog := X.prog) D I1.kIn ""
  refine ⟨hm.typeIs, hm.noDict, ?_⟩
  rw [m.trees]
  refine Calls.callWith_builtin rfl (Calls.evalArgs_plain (Calls.spliced_cons (thn (he.run pins s1 σ H1 _ I1 q1) fun iv s2 ⟨y, H2, I2, ry, z, ez, q2⟩ => Calls.spliced_nil ?_)))
  subst ez
  obtain ⟨t, rfl⟩ := ry
  obtain ⟨low, f, hm, hf⟩ := kds_map (prog := X.prog) D I2.kIn z
  refine call_meetsIn PySem.F.slot_dict_get hm.typeIs PySem.F.entry_dict_get (PySem.F.args_dict_get_2 _ _) (meets_dict_get (strKind X.prog X.w) d (strKind_is X.prog X.w z t) low) ⟨_, hm, ?_⟩
  refine ⟨(ps.lookup z).getD .non, H2, I2.tok _, ?_, q2⟩
  cases e : ps.lookup z with
  | none => rw [e] at hf; rw [show f z = none from hf]; rfl
  | some v => rw [e] at hf; obtain ⟨u, h1, r⟩ := hf; rw [h1]; exact r
end
/-! d.update(e) -/
def rUpd : V → List V → Hp → VK → Prop := fun x vs H Q => ∃ (a b : Addr) (kvs more : List (Key × V)), x = .ref a ∧ vs = [.ref b] ∧ a ≠ b ∧ H a = some (.dK kvs) ∧ H b = some (.dK more) ∧ kvs.length + more.length ≤ 1000 ∧
  Q .non (upd H a (.dK (mergeK kvs more)))
theorem mtd_update {X : Cx} : MtR X "dict.update" rUpd := by
  intro pins s σ H x vs v us Q I rx rv h
  obtain ⟨a, b, kvs, more, ex, ev, hne, e, e2, hl, q⟩ := h
  subst ex
  subst ev
  obtain rfl : v = Value.ref a := rx
  obtain ⟨u, rfl, ru⟩ := rv.one
  obtain rfl : u = Value.ref b := ru
  obtain ⟨z, hd, vs1, rel, dd⟩ := dk_of I.hok e
  obtain ⟨z2, hd2, vs2, rel2, dd2⟩ := dk_of I.hok e2
  have hz : (mergeK kvs more).length ≤ sizeLine := by
    have h1 := length_mergeK more kvs
    rw [sizeLine_eq]
    omega
  refine call_meetsIn PySem.F.slot_dict_update dd.typeIs PySem.F.entry_dict_update (PySem.F.args_dict_update_2 _ _) (meets_dict_update (mixKind X.prog X.w) a b hne hd2)
    ⟨vs1, vs2, dd, dd2, by rw [← rel.length, ← rel2.length, sizeLine_eq]; omega, fun h' dd' _ hs => ?_⟩
  have he : ∃ q, h'.get? a = some q := let ⟨q, _, _, hq, _⟩ := dd'; ⟨q, hq⟩
  exact ⟨.non, _, d_write (t' := s.toks) I (by rw [e]; exact True.intro) hs he (dk_new hz hd (rel2.merge rel) dd'), rfl, q⟩
/-! find up to an end -/
theorem occ_take (t w : List Nat) (lo hi : Nat) (h : hi ≤ t.length) : occurrences (S t) (S w) lo hi 1 = occurrences (S (t.take hi)) (S w) lo hi 1 := by
  rw [occ_eq, occ_eq]
  have e : occBody (S t) (S w) hi 1 = occBody (S (t.take hi)) (S w) hi 1 := by
    funext i st
    unfold occBody
    by_cases hc : i + (S w).length ≤ hi
    · have e2 : subAt (S t) (S w) i = subAt (S (t.take hi)) (S w) i := by
        rw [S_len] at hc
        rw [sub_S, sub_S, List.drop_take, List.take_take, Nat.min_eq_left (by omega)]
      rw [e2]
    · rw [if_neg fun z => hc z.1.2, if_neg fun z => hc z.1.2]
  rw [e]
theorem findIn_S (t w : List Nat) (hw : w ≠ []) (p j : Nat) : Txt.findIn (S t) (S w) (p : Int) ((p + j : Nat) : Int) = match findL w ((t.drop p).take j) with | some k => ((p + k : Nat) : Int) | none => -1 := by
  unfold Txt.findIn
  rw [from_nat, to_nat, S_len]
  by_cases hp : p ≤ t.length
  · have h1 : min t.length (p + j) ≤ t.length := Nat.min_le_left _ _
    rw [occ_take t w p _ h1]
    have h2 := find3_S (t.take (min t.length (p + j))) w hw p
    unfold Txt.find3 at h2
    rw [from_nat, S_len, List.length_take, Nat.min_eq_left h1, List.drop_take] at h2
    have e : (t.drop p).take (min t.length (p + j) - p) = (t.drop p).take j := by
      by_cases hj : p + j ≤ t.length
      · rw [Nat.min_eq_right hj, Nat.add_sub_cancel_left]
      · rw [Nat.min_eq_left (by omega), List.take_of_length_le (by rw [List.length_drop]; omega), List.take_of_length_le (by rw [List.length_drop]; omega)]
    rw [e] at h2
    exact h2
  · rw [List.drop_of_length_le (by omega), List.take_nil]
    have hn : findL w [] = none := by
      unfold findL
      rw [if_neg hw]
    rw [hn, Nat.min_eq_left (by omega)]
    have : occurrences (S t) (S w) p t.length 1 = [] := by
      have h2 := find3_S t w hw p
      unfold Txt.find3 at h2
      rw [from_nat, List.drop_of_length_le (by omega), hn, S_len] at h2
      cases ho : occurrences (S t) (S w) p t.length 1 with
      | nil => rfl
      | cons a b =>
        rw [ho] at h2
        have h3 : ((a : Nat) : Int) = -1 := h2
        omega
    rw [this]
/-! int(text, 10) -/
open PySem.NumText PySem.Calls
def IsDec (c : Nat) : Prop := 48 ≤ c ∧ c ≤ 57
def decNum (l : List Nat) : Nat := l.foldl (fun a c => a * 10 + (c - 48)) 0
theorem step_dec {ds : Array Nat} {b : Bool} {c : Nat} (h : IsDec c) : PySem.NumText.step 10 (ds, b) c = some (ds.push (c - 48), true) := by
  unfold IsDec at h
  unfold PySem.NumText.step
  rw [if_neg (by rw [beq_iff_eq]; omega)]
  have e : digit? c = some (c - 48) := by
    unfold digit?
    rw [if_pos (Hx.bb h.1 h.2)]
  rw [e]
  exact if_pos (by omega)
theorem foldl_dec : ∀ (cs : List Nat) (ds : Array Nat), (∀ c ∈ cs, IsDec c) → cs.foldlM (PySem.NumText.step 10) (ds, true) = some (cs.foldl (fun acc c => acc.push (c - 48)) ds, true)
  | [], _, _ => rfl
  | c :: cs, ds, h => by
    rw [List.foldlM_cons, step_dec (h c (List.mem_cons_self ..))]
    show cs.foldlM (PySem.NumText.step 10) (ds.push (c - 48), true) = _
    exact foldl_dec cs (ds.push (c - 48)) fun d hd => h d (List.mem_cons_of_mem _ hd)
theorem digits_dec {cs : List Nat} (h : ∀ c ∈ cs, IsDec c) (hne : cs ≠ []) : digits? 10 cs = some (cs.foldl (fun acc c => acc.push (c - 48)) #[]) := by
  cases cs with
  | nil => exact absurd rfl hne
  | cons c cs =>
    unfold digits?
    rw [List.foldlM_cons, step_dec (h c (List.mem_cons_self ..))]
    show (cs.foldlM (PySem.NumText.step 10) ((#[] : Array Nat).push (c - 48), true)).bind _ = _
    rw [foldl_dec cs _ fun d hd => h d (List.mem_cons_of_mem _ hd)]
    rfl
theorem push_dec : ∀ (cs : List Nat) (ds : Array Nat), (cs.foldl (fun acc c => acc.push (c - 48)) ds).foldl (fun acc d => acc * 10 + d) 0 = cs.foldl (fun a c => a * 10 + (c - 48)) (ds.foldl (fun acc d => acc * 10 + d) 0)
  | [], _ => rfl
  | c :: cs, ds => by
    rw [List.foldl_cons, push_dec cs (ds.push (c - 48)), List.foldl_cons]
    congr 1
    simp
theorem dec_hex {cs : List Nat} (h : ∀ c ∈ cs, IsDec c) : ∀ c ∈ cs, Hx.IsHex c := fun c hc => .inl (h c hc)
theorem size_dec : ∀ (cs : List Nat) (ds : Array Nat), (cs.foldl (fun acc c => acc.push (c - 48)) ds).size = ds.size + cs.length
  | [], ds => rfl
  | c :: cs, ds => by
    rw [List.foldl_cons, size_dec cs (ds.push (c - 48)), Array.size_push, List.length_cons]
    omega
theorem read_dec {cs : List Nat} (h : ∀ c ∈ cs, IsDec c) (hne : cs ≠ []) (hl : cs.length ≤ 640) : (int_private% "readNumeral") 0 10 cs = (int_private% "Numeral.value") ((decNum cs : Nat) : Int) := by
  have hr : ∀ c ∈ cs.reverse, IsDec c := fun c hc => h c (List.mem_reverse.mp hc)
  refine (readNumeral_eq 0 10 cs).trans ?_
  rw [Hx.dropB (dec_hex h), Hx.signH (dec_hex h)]
  show judge 0 false (based 10 cs).1 (based 10 cs).2.1 (digits? (based 10 cs).1 (((based 10 cs).2.2.reverse.dropWhile blank).reverse)) = _
  rw [based_ten]
  show judge 0 false 10 false (digits? 10 ((cs.reverse.dropWhile blank).reverse)) = _
  rw [Hx.dropB (dec_hex hr), List.reverse_reverse, digits_dec h hne]
  have hz : ¬ ((10 : Nat) == 10 && (cs.foldl (fun acc c => acc.push (c - 48)) (#[] : Array Nat)).size > 6000) = true := by
    rw [size_dec]
    simp
    omega
  have ej : judge 0 false 10 false (some (cs.foldl (fun acc c => acc.push (c - 48)) #[])) = (if ((10 : Nat) == 10 && (cs.foldl (fun acc c => acc.push (c - 48)) (#[] : Array Nat)).size > 6000) = true then (int_private% "Numeral.byTheLibrary") else (int_private% "Numeral.value") (((cs.foldl (fun acc c => acc.push (c - 48)) (#[] : Array Nat)).foldl (fun acc d => acc * 10 + d) 0 : Nat) : Int)) := rfl
  rw [ej, if_neg hz]
  show (int_private% "Numeral.value") (((cs.foldl (fun acc c => acc.push (c - 48)) (#[] : Array Nat)).foldl (fun acc d => acc * 10 + d) 0 : Nat) : Int) = _
  have z : (#[] : Array Nat).foldl (fun acc d => acc * 10 + d) 0 = 0 := by first | rfl | simp
  rw [push_dec, z] <;> rfl
structure Hid (p : Prop) : Prop where
  out : p
set_option maxHeartbeats 4000000 in
theorem gives_dec {x : PySem.Str} {u t : Tok} (hl : x.length ≤ 640) (h : ∀ c ∈ x.cps.toList, IsDec c) (hne : x.cps.toList ≠ []) :
    Gives (Builtin.«int.__new__» ⟨[.type "int", .str x u, .int 10 t], []⟩) (.int ((decNum x.cps.toList : Nat) : Int)) :=
  .of_wp fun M A E s Q hQ => by
    obtain ⟨hp, g, d, tk, os⟩ := s
    have f1 := F.conv_sub_int
    have f2 := F.madeHere_int
    have f6 : typeOf (.str x u) = pure (.type "str") := rfl
    obtain ⟨e1, e2⟩ := Hx.seen_hex (dec_hex h)
    have hs : (numSeenOf x).length ≤ 640 := by
      rw [e2, Array.length_toList]
      exact hl
    have hr : (int_private% "readNumeral") 0 10 (numSeenOf x) = (int_private% "Numeral.value") ((decNum x.cps.toList : Nat) : Int) := by
      rw [e2]
      exact read_dec h hne (by rw [Array.length_toList]; exact hl)
    have ha : ((numSeenOf x).length == (numTextOf x).length) = true := by
      rw [e1, e2]
      exact beq_self_eq_true _
    have hk := Hid.mk (And.intro hs (And.intro hr ha))
    clear hs hr ha e1 e2 hl hne h
    repeat (any_goals (first
      | assumption
      | ((with_reducible show wpAny _ _ ((int_private% "intFromText") _ _ _) _ _ _); refine Hx.wp_textB hk.out.1 hk.out.2.1 hk.out.2.2 ?_)
      | wp_step))
    all_goals first | exact ⟨_, rfl, hQ⟩ | skip
theorem call_dec {prog : Program} {w : World} {A : Around} {E : Value → Shared → Prop} {s : Shared} {Q : Value → Shared → Prop} {x : PySem.Str} {u t : Tok} (hl : x.length ≤ 640) (h : ∀ c ∈ x.cps.toList, IsDec c) (hne : x.cps.toList ≠ [])
    (hQ : Q (.int ((decNum x.cps.toList : Nat) : Int) s.toks) { s with toks := s.toks + 1 }) : wpAny (model prog w) A (call (.type "int") [.str x u, .int 10 t]) Q E s :=
  callType_new F.called_int F.newNe_int (Hx.typeCall_int_2 _ _) (Hx.newCall_int_2 _ _) (fun obj => F.initArgs_range_2 obj _ _) F.entry_int_new (gives_dec hl h hne).meets (show (Made.int ((decNum x.cps.toList : Nat) : Int)).post _ s from ⟨rfl, hQ⟩)
/-- int(text, base) of base 10 and 16 -/
def IsB (B : Nat) (c : Nat) : Prop := if B = 16 then Hx.IsHex c else IsDec c
def numB (B : Nat) (l : List Nat) : Nat := if B = 16 then Hx.hexNum l else decNum l
theorem call_int_base {X : Cx} : CallR X (.type "int") (fun xs H Q => ∃ (l : List Nat) (B : Nat), xs = [.str (S l), .int (B : Int)] ∧ (B = 10 ∨ B = 16) ∧ l ≠ [] ∧ l.length ≤ 640 ∧ (∀ c ∈ l, IsB B c) ∧ Q (.int ((numB B l : Nat) : Int)) H) := by
  intro pins s σ H xs us Q I r h
  obtain ⟨l, B, rfl, hB, hne, hl, hx, q⟩ := h
  obtain ⟨u, w', rfl, r1, r2⟩ := vals2 r
  obtain ⟨t1, rfl⟩ := r1
  obtain ⟨t2, rfl⟩ := r2
  rcases hB with rfl | rfl
  · exact call_dec (x := S l) (by rw [S_len]; exact hl) (by rw [S_tl]; exact hx) (by rw [S_tl]; exact hne) ⟨.int ((numB 10 l : Nat) : Int), H, I.tok _, ⟨_, by rw [S_tl]; rfl⟩, q⟩
  · exact Hx.call_hex (x := S l) (by rw [S_len]; exact hl) (by rw [S_tl]; exact hx) (by rw [S_tl]; exact hne) ⟨.int ((numB 16 l : Nat) : Int), H, I.tok _, ⟨_, by rw [S_tl]; rfl⟩, q⟩
/-! strip signs at the begin -/
theorem lstrip_S (t w : List Nat) : Txt.lstripChars (S t) (S w) = S (t.drop (t.takeWhile (fun c => w.contains c)).length) := by
  have hg : (S w).cps.contains = fun c => w.contains c := by
    funext c
    simp [S]
  unfold Txt.lstripChars Txt.stripBy stripSame stripped stripLo stripHi
  rw [hg]
  simp only [if_true, Bool.false_eq_true, if_false]
  rw [S_tl, S_len]
  have key : ∀ k : Nat, strSub (S t) k t.length = S (t.drop k) := by
    intro k
    rw [S_of (strSub (S t) k t.length), strSub_toList, S_tl]
    congr 1
    exact List.take_of_length_le (by rw [List.length_drop]; omega)
  split
  · rename_i h
    have h0 : (t.takeWhile (fun c => w.contains c)).length = 0 := by
      have := (Bool.and_eq_true_iff.mp h).1
      exact eq_of_beq this
    rw [h0, List.drop_zero]
  · exact key _
end My

/-! ### joined texts -/
namespace My
open PySem PySem.Spec PyProof.Rows L2
theorem join_S (sep : List Nat) (ls : List (List Nat)) : Txt.join (S sep) (ls.map S) = S (TL.joinL sep ls) := by
  rw [TL.join_eq]
  have e := TL.tl_join (S sep) (ls.map S)
  have e2 : (ls.map S).map TL.tl = ls := by
    rw [List.map_map]
    conv => rhs; rw [← List.map_id ls]
    exact List.map_congr_left fun l _ => S_tl l
  rw [e2] at e
  have e3 : TL.tl (S sep) = sep := S_tl _
  rw [e3] at e
  rw [S_of (Str.join (S sep) (ls.map S))]
  exact congrArg S e
theorem join_nil (ls : List (List Nat)) : Txt.join (S []) (ls.map S) = S ls.flatten := by
  rw [join_S]
  congr 1
  induction ls with
  | nil => rfl
  | cons a r ih =>
    cases r with
    | nil => simp [TL.joinL]
    | cons b r =>
      show a ++ ([] ++ TL.joinL [] (b :: r)) = _
      rw [ih]
      simp
end My

/-! ### a text, so often; a tuple in which a token is out -/
namespace My
open PySem PySem.Spec PyProof.Rows L2
section
variable {X : Cx}
theorem op_mul_txt : OpR X (binaryOp .Mult) (fun x y H Q => ∃ (l : List Nat) (j : Nat), x = .str (S l) ∧ y = .int (j : Int) ∧ 1 ≤ l.length ∧ l.length ≤ 1000 ∧ j ≤ 1000 ∧ Q (.str (S (List.replicate j l).flatten)) H) := by
  intro pins s σ H x y v u Q I rx ry h
  obtain ⟨l, j, rfl, rfl, hl1, hl2, hj, q⟩ := h
  obtain ⟨t, rfl⟩ := rx
  obtain ⟨t', rfl⟩ := ry
  have hlen : (S l).length = l.length := S_len _
  have hmul : l.length * j ≤ 1000000 := Nat.le_trans (Nat.mul_le_mul hl2 hj) (by decide)
  refine PySem.P.mul_str (by simp; omega) (fun hn _ => by
    rw [hlen]
    have hj0 : 0 < j := by omega
    have : (l.length : Int) ≤ (2 ^ 63 - 1) / (j : Int) := by
      refine Int.le_ediv_of_mul_le (by omega) ?_
      have : ((l.length * j : Nat) : Int) ≤ 1000000 := by omega
      rw [Int.natCast_mul] at this
      omega
    omega) (fun _ _ => by
    rw [hlen]
    have : (j : Int).toNat = j := by omega
    rw [this]
    exact decide_eq_false (by rw [sizeLine_eq]; omega)) ?_
  have fin : ∀ (m : List Nat), m = (List.replicate j l).flatten → ∀ (v : Value) (k : Nat), RelV (.str (S m)) v → EP X pins σ Q v { s with toks := k } := fun m e v k r => ⟨.str (S m), H, I.tok _, r, by rw [e]; exact q⟩
  by_cases h0 : (j : Int) < 1
  · have e0 : j = 0 := by omega
    rw [if_pos h0]
    exact ⟨by decide, fin [] (by rw [e0]; rfl) _ _ ⟨_, rfl⟩⟩
  · rw [if_neg h0]
    by_cases h1 : j = 1
    · subst h1
      rw [if_pos (by rfl)]
      exact fin l (by simp) _ s.toks ⟨_, rfl⟩
    · rw [if_neg (by rw [hlen, Bool.or_eq_true, beq_iff_eq, beq_iff_eq]; omega)]
      have e : (⟨(List.replicate (j : Int).toNat (S l).cps).foldl (· ++ ·) #[]⟩ : Str) = S (List.replicate j l).flatten := by
        have ej : (j : Int).toNat = j := by omega
        rw [ej]
        have gen : ∀ (n : Nat) (acc : List Nat), (List.replicate n (S l).cps).foldl (· ++ ·) acc.toArray = (acc ++ (List.replicate n l).flatten).toArray := by
          intro n
          induction n with
          | zero => intro acc; simp
          | succ n ih =>
            intro acc
            rw [List.replicate_succ, List.foldl_cons]
            have : acc.toArray ++ (S l).cps = (acc ++ l).toArray := by simp [S]
            rw [this, ih, List.replicate_succ]
            simp
        have := gen j []
        simp at this
        unfold S
        congr 1
      rw [e]
      refine ⟨?_, fin _ rfl _ _ ⟨_, rfl⟩⟩
      rw [S_len, List.length_flatten, List.map_replicate, sizeLine_eq]
      have : (List.replicate j l.length).sum = j * l.length := by
        clear fin q h1 h0 e
        induction j with
        | zero => simp
        | succ j ih => rw [List.replicate_succ, List.sum_cons, ih (by omega) (Nat.le_trans (Nat.mul_le_mul_left _ (Nat.le_succ _)) hmul), Nat.succ_mul, Nat.add_comm]
      rw [this, Nat.mul_comm]
      omega
theorem pa_consT {a : Expr} {op : Operator} {c : Int} {j : Nat} {pc pos0 : Pos} {es : List Expr} {r : R2} {ta : TE} {t : TA} (ho : OpR X (binaryOp op) r) (ha : PE X a ta) (hr : PAT X es t)
    (hs : starEach (.BinOp a op (.Constant (.int c) j pc) pos0 :: es) X.env = (false, eval (.BinOp a op (.Constant (.int c) j pc) pos0) X.env) :: starEach es X.env := by rfl) :
    PA X (.BinOp a op (.Constant (.int c) j pc) pos0 :: es) (tCons (tOp r ta (tC (.int c))) t) := by
  refine ⟨fun pos pins s σ H Q I h => ?_⟩
  rw [hs]
  show wpAny _ _ (spliced ((false, eval (.BinOp a op (.Constant (.int c) j pc) pos0) X.env) :: backTo pos (starEach es X.env))) _ _ s
  refine Calls.spliced_cons (wpAny_BinOp (thn (ha.run pins s σ H _ I h) fun v s1 ⟨x, H1, I1, r1, q1⟩ => wpAny_Constant_int ?_))
  refine wpAny_mono (PySem.wpAny_toks_of (n := 1) (by show 1 ≤ s1.toks + 1; omega) (ho pins _ σ H1 x (.int c) v _ _ (I1.tok _) r1 ⟨_, rfl⟩ q1)) (fun w s2 q => ?_) fun _ _ z => z.2
  obtain ⟨hk, y, H2, I2, r2, q2⟩ := q
  exact thn (hr pos pins s2 σ H2 _ hk I2 q2) fun us s3 ⟨xs, H3, I3, r3, q3⟩ => ⟨y :: xs, H3, I3, .cons r2 r3, q3⟩
end
end My

namespace RM
open My PySem PySem.Spec PyProof.Rows L2
/-! ### references: what is asked, over signs -/
open PyProof.Rows (lo1 up1)
def PunL : List Nat := [33, 34, 35, 36, 38, 39, 40, 41, 42, 43, 44, 45, 46, 47, 58, 59, 60, 61, 62, 63, 64, 91, 92, 93, 94, 95, 123, 124, 125, 126, 96]
def HexL : List Nat := [48, 49, 50, 51, 52, 53, 54, 55, 56, 57, 97, 98, 99, 100, 101, 102]
def DecL : List Nat := [48, 49, 50, 51, 52, 53, 54, 55, 56, 57]
def NamesL : List (List Nat × Nat) := [([97, 109, 112], 38), ([108, 116], 60), ([103, 116], 62), ([113, 117, 111, 116], 34), ([97, 112, 111, 115], 39), ([110, 117, 109], 35), ([97, 115, 116], 42), ([108, 111, 119, 98, 97, 114], 95), ([103, 114, 97, 118, 101], 96), ([108, 115, 113, 98], 91), ([114, 115, 113, 98], 93), ([108, 112, 97, 114], 40), ([114, 112, 97, 114], 41), ([108, 99, 117, 98], 123), ([114, 99, 117, 98], 125), ([98, 115, 111, 108], 92), ([101, 120, 99, 108], 33), ([84, 97, 98], 9), ([78, 101, 119, 76, 105, 110, 101], 10)]
def escR : List Nat → Bool
  | a :: c :: _ => a == 92 && PunL.contains c
  | _ => false
def numR (B : Nat) (ds w : List Nat) : Option Nat := if w = [] then none else if (w.map lo1).all ds.contains = true then some (numB B w) else none
def sgnR (n : Nat) : Option Nat := if n = 9 ∨ n = 10 ∨ (32 ≤ n ∧ n ≤ 36) ∨ (38 ≤ n ∧ n ≤ 126) then some n else none
def meantR (w : List Nat) : Option Nat :=
  if [35, 120].isPrefixOf w || [35, 88].isPrefixOf w then (numR 16 HexL (w.drop 2)).bind sgnR
  else if [35].isPrefixOf w then (numR 10 DecL (w.drop 1)).bind sgnR
  else NamesL.lookup w
def refR (l : List Nat) : Option (Nat × Nat) :=
  if [38].isPrefixOf l then match findL [59] (l.take 10) with
    | none => none
    | some k => (meantR ((l.drop 1).take (k - 1))).map fun c => (k + 1, c)
  else none
def stepR : List Nat → Nat × Nat
  | [] => (1, 0)
  | a :: r => if escR (a :: r) = true then (2, r.headD 0) else match refR (a :: r) with
    | some x => x
    | none => (1, a)
def decF : Nat → List Nat → List Nat
  | 0, _ => []
  | n + 1, l => match l with
    | [] => []
    | a :: r => (stepR (a :: r)).2 :: decF n ((a :: r).drop (stepR (a :: r)).1)
def decR (l : List Nat) : List Nat := decF l.length l
theorem refR_pos {l : List Nat} {k c : Nat} (h : refR l = some (k, c)) : 1 ≤ k ∧ k ≤ l.length := by
  unfold refR at h
  split at h
  · cases hf : findL [59] (l.take 10) with
    | none => rw [hf] at h; cases h
    | some j =>
      rw [hf] at h
      dsimp only at h
      cases hm : meantR ((l.drop 1).take (j - 1)) with
      | none => rw [hm] at h; cases h
      | some c' =>
        rw [hm] at h
        have e := Option.some.inj h
        have e1 : j + 1 = k := congrArg Prod.fst e
        have h1 := pre_len _ _ (findL_some (by simp) hf).1
        rw [List.length_drop, List.length_take] at h1
        simp at h1
        omega
  · cases h
theorem stepR_pos (a : Nat) (r : List Nat) : 1 ≤ (stepR (a :: r)).1 ∧ (stepR (a :: r)).1 ≤ (a :: r).length := by
  show 1 ≤ (if escR (a :: r) = true then (2, r.headD 0) else match refR (a :: r) with | some x => x | none => (1, a)).1 ∧ (if escR (a :: r) = true then (2, r.headD 0) else match refR (a :: r) with | some x => x | none => (1, a)).1 ≤ _
  split
  · rename_i h
    cases r with
    | nil => cases h
    | cons b r => simp
  · cases hr : refR (a :: r) with
    | none => simp
    | some x => exact refR_pos hr
theorem decF_enough : ∀ (n : Nat) (l : List Nat), l.length ≤ n → decF n l = decF l.length l := by
  intro n
  induction n using Nat.strongRecOn with
  | _ n ih =>
    intro l h
    cases l with
    | nil => cases n <;> rfl
    | cons a r =>
      cases n with
      | zero => simp at h
      | succ n =>
        have hp := (stepR_pos a r).1
        have hd : ((a :: r).drop (stepR (a :: r)).1).length ≤ r.length := by
          rw [List.length_drop, List.length_cons]
          omega
        have hr : r.length ≤ n := by simp at h; omega
        show (stepR (a :: r)).2 :: decF n ((a :: r).drop (stepR (a :: r)).1) = (stepR (a :: r)).2 :: decF r.length ((a :: r).drop (stepR (a :: r)).1)
        congr 1
        rw [ih n (Nat.lt_succ_self n) _ (Nat.le_trans hd hr)]
        by_cases e : r.length = n
        · rw [e]
          exact (ih n (Nat.lt_succ_self n) _ (by omega)).symm
        · exact (ih r.length (by omega) _ hd).symm
theorem decR_cons (a : Nat) (r : List Nat) : decR (a :: r) = (stepR (a :: r)).2 :: decR ((a :: r).drop (stepR (a :: r)).1) := by
  show (stepR (a :: r)).2 :: decF r.length ((a :: r).drop (stepR (a :: r)).1) = _
  congr 1
  have hp := (stepR_pos a r).1
  exact decF_enough _ _ (by rw [List.length_drop, List.length_cons]; omega)
theorem decR_nil : decR [] = [] := rfl
/-! a reference with all its signs -/
theorem find_pre {a : List Nat} (h : 59 ∉ a) (r : List Nat) : findL [59] (a ++ r) = (findL [59] r).map (· + a.length) := by
  induction a with
  | nil => cases h : findL [59] r <;> simp [h]
  | cons x a ih =>
    have hx : x ≠ 59 := fun e => h (by simp [e])
    have h2 : 59 ∉ a := fun e => h (by simp [e])
    show (if ([59] : List Nat).isPrefixOf (x :: (a ++ r)) = true then some 0 else (findL [59] (a ++ r)).map (· + 1)) = _
    rw [if_neg (by simp [List.isPrefixOf]; exact fun e => hx e.symm), ih h2, List.length_cons]
    cases findL [59] r <;> simp
    omega
theorem find_not {a : List Nat} (h : 59 ∉ a) : findL [59] a = none := by
  have := find_pre h []
  rw [List.append_nil] at this
  rw [this]
  rfl
theorem ref_at {a : List Nat} (h : 59 ∉ a) (r : List Nat) : refR (38 :: (a ++ 59 :: r)) = if a.length ≤ 8 then (meantR a).map (fun c => (a.length + 2, c)) else none := by
  unfold refR
  rw [if_pos (by rfl)]
  by_cases hl : a.length ≤ 8
  · rw [if_pos hl]
    have e1 : (38 :: (a ++ 59 :: r)).take 10 = (38 :: a) ++ (59 :: r.take (8 - a.length)) := by
      rw [List.take_succ_cons, List.take_append, List.take_of_length_le (by omega)]
      rw [show 9 - a.length = (8 - a.length) + 1 by omega, List.take_succ_cons]
      rfl
    have h38 : 59 ∉ 38 :: a := by simp [h]
    rw [e1, find_pre h38]
    have e2 : findL [59] (59 :: r.take (8 - a.length)) = some 0 := rfl
    rw [e2]
    show (meantR ((a ++ 59 :: r).take (0 + (38 :: a).length - 1))).map (fun c => (0 + (38 :: a).length + 1, c)) = _
    rw [List.length_cons, Nat.zero_add, Nat.add_sub_cancel, List.take_left]
  · rw [if_neg hl]
    have e1 : (38 :: (a ++ 59 :: r)).take 10 = 38 :: (a.take 9) := by
      rw [List.take_succ_cons, List.take_append, show 9 - a.length = 0 by omega, List.take_zero, List.append_nil]
    have : 59 ∉ 38 :: a.take 9 := by
      intro z
      rcases List.mem_cons.mp z with z | z
      · cases z
      · exact h (List.mem_of_mem_take z)
    rw [e1, find_not this]
theorem lo1_blank {w ds : List Nat} (h : 32 ∈ w) (hd : 32 ∉ ds) (B : Nat) : numR B ds w = none := by
  unfold numR
  split
  · rfl
  · split
    · rename_i h2
      rw [List.all_eq_true] at h2
      have := h2 32 (List.mem_map.mpr ⟨32, h, rfl⟩)
      exact absurd (by simpa using this) hd
    · rfl
theorem names_blank : ∀ p ∈ NamesL, 32 ∉ p.1 := by decide
theorem lookup_blank {w : List Nat} (h : 32 ∈ w) : ∀ {ps : List (List Nat × Nat)}, (∀ p ∈ ps, 32 ∉ p.1) → ps.lookup w = none
  | [], _ => rfl
  | p :: ps, hp => by
    rw [List.lookup_cons]
    have h1 := hp p (List.mem_cons_self ..)
    have e : (w == p.1) = false := beq_eq_false_iff_ne.mpr fun e => h1 (e ▸ h)
    rw [e]
    exact lookup_blank h fun q hq => hp q (List.mem_cons_of_mem _ hq)
theorem meant_blank {w : List Nat} (h : 32 ∈ w) : meantR w = none := by
  unfold meantR
  have h1 : ∀ {x : List Nat}, x.isPrefixOf w = true → 32 ∉ x → 32 ∈ w.drop x.length := by
    intro x hx hn
    obtain ⟨s, rfl⟩ := List.isPrefixOf_iff_prefix.mp hx
    rw [List.drop_left]
    rcases List.mem_append.mp h with z | z
    · exact absurd z hn
    · exact z
  split
  · rename_i h2
    have h3 : 32 ∈ w.drop 2 := by
      rcases Bool.or_eq_true_iff.mp h2 with z | z
      · exact h1 z (by decide)
      · exact h1 z (by decide)
    rw [lo1_blank h3 (by decide)]
    rfl
  · split
    · rename_i h2
      have h3 : 32 ∈ w.drop 1 := h1 h2 (by decide)
      rw [lo1_blank h3 (by decide)]
      rfl
    · exact lookup_blank h names_blank
theorem ref_blank {a : List Nat} (h : 59 ∉ a) (r : List Nat) : refR (38 :: (a ++ 32 :: r)) = none := by
  unfold refR
  rw [if_pos (by rfl)]
  cases hf : findL [59] ((38 :: (a ++ 32 :: r)).take 10) with
  | none => rfl
  | some k =>
    dsimp only
    have h1 := (findL_some (by simp) hf).1
    have hk : a.length + 1 < k := by
      by_cases hk : k ≤ a.length + 1
      · exfalso
        rw [List.isPrefixOf_iff_prefix] at h1
        obtain ⟨s, hs⟩ := h1
        rw [List.drop_take] at hs
        have : 59 ∈ ((38 :: (a ++ 32 :: r)).drop k).take (10 - k) := by rw [← hs]; simp
        have e : (38 :: (a ++ 32 :: r))[k]? = some 59 := by
          have e2 : (((38 :: (a ++ 32 :: r)).drop k).take (10 - k))[0]? = some 59 := by rw [← hs]; rfl
          rw [List.getElem?_take] at e2
          split at e2
          · rw [List.getElem?_drop] at e2
            simpa using e2
          · cases e2
        cases k with
        | zero => cases e
        | succ k =>
          rw [List.getElem?_cons_succ] at e
          by_cases h2 : k < a.length
          · rw [List.getElem?_append_left h2] at e
            exact h (List.mem_of_getElem? e)
          · rw [List.getElem?_append_right (by omega), show k - a.length = 0 by omega] at e
            cases e
      · omega
    rw [meant_blank]
    · rfl
    · show 32 ∈ (a ++ 32 :: r).take (k - 1)
      rw [List.take_append, show k - 1 - a.length = (k - 2 - a.length) + 1 by omega, List.take_succ_cons]
      simp
theorem ref_end {a : List Nat} (h : 59 ∉ a) : refR (38 :: a) = none := by
  unfold refR
  rw [if_pos (by rfl)]
  have : 59 ∉ (38 :: a).take 10 := fun z => by
    rcases List.mem_cons.mp (List.mem_of_mem_take z) with z | z
    · cases z
    · exact h z
  rw [find_not this]
/-! signs that stay -/
theorem dec_plain {c : Nat} (h1 : c ≠ 38) (h2 : c ≠ 92) (r : List Nat) : decR (c :: r) = c :: decR r := by
  rw [decR_cons]
  have e1 : escR (c :: r) = false := by
    cases r with
    | nil => rfl
    | cons b r =>
      show (c == 92 && PunL.contains b) = false
      rw [beq_eq_false_iff_ne.mpr h2]
      rfl
  have e2 : refR (c :: r) = none := by
    unfold refR
    rw [if_neg]
    simp [List.isPrefixOf]
    exact fun e => h1 e.symm
  have e : stepR (c :: r) = (1, c) := by
    show (if escR (c :: r) = true then (2, r.headD 0) else match refR (c :: r) with | some x => x | none => (1, c)) = _
    rw [e1, e2]
    rfl
  rw [e]
  rfl
theorem dec_plains : ∀ {a : List Nat}, 38 ∉ a → 92 ∉ a → ∀ r, decR (a ++ r) = a ++ decR r
  | [], _, _, _ => rfl
  | c :: a, h1, h2, r => by
    show decR (c :: (a ++ r)) = c :: (a ++ decR r)
    rw [dec_plain (fun e => h1 (by simp [e])) (fun e => h2 (by simp [e])), dec_plains (fun e => h1 (by simp [e])) (fun e => h2 (by simp [e]))]
theorem dec_amp {r : List Nat} (h : refR (38 :: r) = none) : decR (38 :: r) = 38 :: decR r := by
  rw [decR_cons]
  have e1 : escR (38 :: r) = false := by cases r <;> rfl
  have e : stepR (38 :: r) = (1, 38) := by
    show (if escR (38 :: r) = true then (2, r.headD 0) else match refR (38 :: r) with | some x => x | none => (1, 38)) = _
    rw [e1, h]
    rfl
  rw [e]
  rfl
theorem dec_ref {r : List Nat} {k c : Nat} (h : refR (38 :: r) = some (k, c)) : decR (38 :: r) = c :: decR ((38 :: r).drop k) := by
  rw [decR_cons]
  have e1 : escR (38 :: r) = false := by cases r <;> rfl
  have e : stepR (38 :: r) = (k, c) := by
    show (if escR (38 :: r) = true then (2, r.headD 0) else match refR (38 :: r) with | some x => x | none => (1, 38)) = _
    rw [e1, h]
    rfl
  rw [e]
theorem dec_esc {c : Nat} (h : PunL.contains c = true) (r : List Nat) : decR (92 :: c :: r) = c :: decR r := by
  rw [decR_cons]
  have e1 : escR (92 :: c :: r) = true := by
    show ((92 : Nat) == 92 && PunL.contains c) = true
    rw [h]
    rfl
  have e : stepR (92 :: c :: r) = (2, c) := by
    show (if escR (92 :: c :: r) = true then (2, (c :: r).headD 0) else match refR (92 :: c :: r) with | some x => x | none => (1, 92)) = _
    rw [e1]
    rfl
  rw [e]
  rfl
theorem dec_back {r : List Nat} (h : escR (92 :: r) = false) : decR (92 :: r) = 92 :: decR r := by
  rw [decR_cons]
  have e2 : refR (92 :: r) = none := rfl
  have e : stepR (92 :: r) = (1, 92) := by
    show (if escR (92 :: r) = true then (2, r.headD 0) else match refR (92 :: r) with | some x => x | none => (1, 92)) = _
    rw [h, e2]
    rfl
  rw [e]
  rfl
/-! drawn references -/
def RefOk (a : List Nat) (sg : Option Nat) : Prop := 59 ∉ a ∧ 38 ∉ a ∧ 92 ∉ a ∧ (∀ c ∈ a, c < 128) ∧ a.length ≤ 20 ∧ (if a.length ≤ 8 then meantR a else none) = sg
def refOkB (a : List Nat) (sg : Option Nat) : Bool := a.all (fun c => c != 59 && c != 38 && c != 92 && decide (c < 128)) && decide (a.length ≤ 20) && decide ((if a.length ≤ 8 then meantR a else none) = sg)
theorem refOk_of {a : List Nat} {sg : Option Nat} (h : refOkB a sg = true) : RefOk a sg := by
  unfold refOkB at h
  rw [Bool.and_eq_true, Bool.and_eq_true, List.all_eq_true] at h
  obtain ⟨⟨h1, h2⟩, h3⟩ := h
  have h4 : ∀ c ∈ a, c ≠ 59 ∧ c ≠ 38 ∧ c ≠ 92 ∧ c < 128 := fun c hc => by
    have := h1 c hc
    simp at this
    exact ⟨this.1.1.1, this.1.1.2, this.1.2, this.2⟩
  exact ⟨fun z => (h4 _ z).1 rfl, fun z => (h4 _ z).2.1 rfl, fun z => (h4 _ z).2.2.1 rfl, fun c hc => (h4 c hc).2.2.2, of_decide_eq_true h2, of_decide_eq_true h3⟩
/-- a reference, whatever stands behind -/
theorem ok_ref {a : List Nat} {sg : Option Nat} (h : RefOk a sg) (r : List Nat) : refR (38 :: (a ++ 59 :: r)) = sg.map fun c => (a.length + 2, c) := by
  obtain ⟨h1, _, _, _, _, h2⟩ := h
  rw [ref_at h1, ← h2]
  split <;> rfl
/-- what it means in a text -/
def meaning (a : List Nat) (sg : Option Nat) : List Nat := match sg with
  | some c => [c]
  | none => 38 :: (a ++ [59])
/-- a piece of a text: a blank, or nothing, behind it -/
def Piece (x m : List Nat) : Prop := (∀ r, decR (x ++ 32 :: r) = m ++ decR (32 :: r)) ∧ decR x = m
theorem ok_piece {a : List Nat} {sg : Option Nat} (h : RefOk a sg) : Piece (38 :: (a ++ [59])) (meaning a sg) := by
  have key : ∀ r, decR (38 :: (a ++ 59 :: r)) = meaning a sg ++ decR r := by
    intro r
    have e := ok_ref h r
    cases sg with
    | none =>
      rw [dec_amp e, dec_plains h.2.1 h.2.2.1, dec_plain (by decide) (by decide)]
      simp [meaning]
    | some c =>
      rw [dec_ref e]
      have : (38 :: (a ++ 59 :: r)).drop (a.length + 2) = r := by
        rw [List.drop_succ_cons, List.drop_append, List.drop_of_length_le (by omega), show a.length + 1 - a.length = 1 by omega]
        rfl
      rw [this]
      rfl
  refine ⟨fun r => ?_, ?_⟩
  · have := key (32 :: r)
    simpa using this
  · have := key []
    rw [decR_nil, List.append_nil] at this
    exact this
theorem piece_joined : ∀ {xs : List (List Nat × List Nat)}, (∀ p ∈ xs, Piece p.1 p.2) → decR (TL.joinL [32] (xs.map Prod.fst)) = TL.joinL [32] (xs.map Prod.snd)
  | [], _ => rfl
  | [p], h => (h p (List.mem_cons_self ..)).2
  | p :: q :: r, h => by
    have ih := piece_joined (xs := q :: r) fun z hz => h z (List.mem_cons_of_mem _ hz)
    show decR (p.1 ++ ([32] ++ TL.joinL [32] ((q :: r).map Prod.fst))) = p.2 ++ ([32] ++ TL.joinL [32] ((q :: r).map Prod.snd))
    rw [show [32] ++ TL.joinL [32] ((q :: r).map Prod.fst) = 32 :: TL.joinL [32] ((q :: r).map Prod.fst) from rfl, (h p (List.mem_cons_self ..)).1, dec_plain (by decide) (by decide), ih]
    rfl
/-- the other pieces -/
def PieceMenu : List (List Nat × List Nat) := [([97], [97]), ([32], [32]), ([10], [10]), ([92, 42], [42]), ([92, 92], [92]), ([92, 38], [38]), ([92, 97], [92, 97]), ([92, 59], [59]), ([42], [42]), ([38, 32], [38, 32]), ([38, 35, 59], [38, 35, 59]), ([38, 120, 59], [38, 120, 59]), ([38, 97, 109, 112], [38, 97, 109, 112]), ([38, 65, 77, 80, 59], [38, 65, 77, 80, 59]), ([92, 32], [92, 32]), ([38, 35, 120, 59], [38, 35, 120, 59]), ([38, 59], [38, 59]), ([98], [98]), ([92, 10], [92, 10])]
theorem p_plain {x : List Nat} (h1 : 38 ∉ x) (h2 : 92 ∉ x) : Piece x x := ⟨fun r => dec_plains h1 h2 _, by have := dec_plains h1 h2 []; simpa [decR_nil] using this⟩
theorem p_esc {c : Nat} (h : PunL.contains c = true) : Piece [92, c] [c] := ⟨fun r => dec_esc h _, dec_esc h []⟩
theorem p_back {c : Nat} (h : PunL.contains c = false) (h1 : c ≠ 38) (h2 : c ≠ 92) : Piece [92, c] [92, c] := by
  have e : ∀ r, decR (92 :: c :: r) = 92 :: c :: decR r := fun r => by
    rw [dec_back (by show ((92 : Nat) == 92 && PunL.contains c) = false; rw [h]; rfl), dec_plain h1 h2]
  exact ⟨fun r => e _, e []⟩
theorem p_ref {a : List Nat} (h : RefOk a none) : Piece (38 :: (a ++ [59])) (38 :: (a ++ [59])) := ok_piece h
theorem p_open {a : List Nat} (h : 59 ∉ a) (h1 : 38 ∉ a) (h2 : 92 ∉ a) : Piece (38 :: a) (38 :: a) :=
  ⟨fun r => by
    show decR (38 :: (a ++ 32 :: r)) = 38 :: (a ++ decR (32 :: r))
    rw [dec_amp (ref_blank h r), dec_plains h1 h2], by
    rw [dec_amp (ref_end h)]
    have := dec_plains h1 h2 []
    rw [List.append_nil, decR_nil, List.append_nil] at this
    rw [this]⟩
theorem piece_menu : ∀ p ∈ PieceMenu, Piece p.1 p.2 := by
  intro p hp
  unfold PieceMenu at hp
  simp only [List.mem_cons, List.not_mem_nil, or_false] at hp
  rcases hp with rfl | rfl | rfl | rfl | rfl | rfl | rfl | rfl | rfl | rfl | rfl | rfl | rfl | rfl | rfl | rfl | rfl | rfl | rfl
  · exact p_plain (by decide) (by decide)
  · exact p_plain (by decide) (by decide)
  · exact p_plain (by decide) (by decide)
  · exact p_esc (by decide)
  · exact p_esc (by decide)
  · exact p_esc (by decide)
  · exact p_back (by decide) (by decide) (by decide)
  · exact p_esc (by decide)
  · exact p_plain (by decide) (by decide)
  · exact p_open (a := [32]) (by decide) (by decide) (by decide)
  · exact p_ref (a := [35]) (refOk_of (by decide +kernel))
  · exact p_ref (a := [120]) (refOk_of (by decide +kernel))
  · exact p_open (a := [97, 109, 112]) (by decide) (by decide) (by decide)
  · exact p_ref (a := [65, 77, 80]) (refOk_of (by decide +kernel))
  · exact p_back (by decide) (by decide) (by decide)
  · exact p_ref (a := [35, 120]) (refOk_of (by decide +kernel))
  · exact p_ref (a := []) (refOk_of (by decide +kernel))
  · exact p_plain (by decide) (by decide)
  · exact p_back (by decide) (by decide) (by decide)

end RM
namespace PM
open My PySem PySem.Spec PyProof.Rows L2
/-! ### places, by what is left of a text -/
def GapL : List Nat := [32, 9, 10]
def isG (c : Nat) : Bool := GapL.contains c
def pos (t r : List Nat) : Nat := t.length - r.length
theorem pos_le (t r : List Nat) : pos t r ≤ t.length := Nat.sub_le _ _
theorem pos_drop {t r : List Nat} (h : r <:+ t) : t.drop (pos t r) = r := (List.suffix_iff_eq_drop.mp h).symm
theorem drop_pos {t : List Nat} {p : Nat} (h : p ≤ t.length) : pos t (t.drop p) = p := by
  unfold pos
  rw [List.length_drop]
  omega
theorem suf_drop (t : List Nat) (p : Nat) : t.drop p <:+ t := List.drop_suffix p t
theorem suf_dw (g : Nat → Bool) (r : List Nat) : r.dropWhile g <:+ r := List.dropWhile_suffix g
def ov (t : List Nat) : Option (List Nat) → L2.V
  | none => .non
  | some r => .int (pos t r : Nat)
def ba (ws r : List Nat) : List Nat := r.dropWhile fun c => ws.contains c
def gapR (r : List Nat) : List Nat := if (r.takeWhile isG).count 10 > 1 then r else r.dropWhile isG
theorem suf_gap (r : List Nat) : gapR r <:+ r := by
  unfold gapR
  split
  · exact List.suffix_refl _
  · exact suf_dw _ _
def signR (c : Nat) (r : List Nat) : Option (List Nat) := if ([c] : List Nat).isPrefixOf r = true then some (r.drop 1) else none
theorem dw_len (g : Nat → Bool) (r : List Nat) : (r.dropWhile g).length ≤ r.length := (suf_dw g r).length_le

end PM
namespace DM
open My RM PM PySem PySem.Spec PyProof.Rows L2
/-! ### labels, destinations, titles, definitions: what is asked, by what is left of a text -/
def plainR (sg : List Nat) : List Nat → List Nat
  | [] => []
  | [c] => if sg.contains c then [c] else []
  | c :: d :: r => if sg.contains c then c :: d :: r else if c == 92 && PunL.contains d then plainR sg r else plainR sg (d :: r)
def upToL (l e : List Nat) : List Nat := l.take (l.length - e.length)
theorem suf_plain (sg : List Nat) : ∀ l : List Nat, plainR sg l <:+ l
  | [] => List.suffix_refl _
  | [c] => by
    unfold plainR
    split
    · exact List.suffix_refl _
    · exact List.nil_suffix
  | c :: d :: r => by
    unfold plainR
    split
    · exact List.suffix_refl _
    · split
      · exact (suf_plain sg r).trans ⟨[c, d], rfl⟩
      · exact (suf_plain sg (d :: r)).trans ⟨[c], rfl⟩
theorem plain_head (sg : List Nat) : ∀ l : List Nat, ∀ {c : Nat} {r : List Nat}, plainR sg l = c :: r → sg.contains c = true
  | [], _, _, h => by cases h
  | [a], c, r, h => by
    unfold plainR at h
    split at h
    · rename_i h1
      cases h
      exact h1
    · cases h
  | a :: d :: l, c, r, h => by
    unfold plainR at h
    split at h
    · rename_i h1
      cases h
      exact h1
    · split at h
      · exact plain_head sg l h
      · exact plain_head sg (d :: l) h
/-- words up to a sign, whatever stands behind it -/
theorem plain_words {sg : List Nat} {c : Nat} (hc : sg.contains c = true) : ∀ (w : List Nat) {r : List Nat}, plainR sg (w ++ c :: r) = c :: r → ∀ r', plainR sg (w ++ c :: r') = c :: r'
  | [], r, _, r' => by
    show plainR sg (c :: r') = c :: r'
    cases r' with
    | nil => unfold plainR; rw [if_pos hc]
    | cons d r' => unfold plainR; rw [if_pos hc]
  | [a], r, h, r' => by
    have h' : (if sg.contains a then a :: c :: r else if a == 92 && PunL.contains c then plainR sg r else plainR sg (c :: r)) = c :: r := h
    show (if sg.contains a then a :: c :: r' else if a == 92 && PunL.contains c then plainR sg r' else plainR sg (c :: r')) = c :: r'
    by_cases h1 : sg.contains a = true
    · rw [if_pos h1] at h'
      have := congrArg List.length h'
      simp at this
    · rw [if_neg h1] at h' ⊢
      by_cases h2 : (a == 92 && PunL.contains c) = true
      · rw [if_pos h2] at h'
        have h3 := (suf_plain sg r).length_le
        rw [h', List.length_cons] at h3
        omega
      · rw [if_neg h2] at h' ⊢
        exact plain_words hc [] h' r'
  | a :: b :: w, r, h, r' => by
    have h' : (if sg.contains a then a :: b :: (w ++ c :: r) else if a == 92 && PunL.contains b then plainR sg (w ++ c :: r) else plainR sg (b :: (w ++ c :: r))) = c :: r := h
    show (if sg.contains a then a :: b :: (w ++ c :: r') else if a == 92 && PunL.contains b then plainR sg (w ++ c :: r') else plainR sg (b :: (w ++ c :: r'))) = c :: r'
    by_cases h1 : sg.contains a = true
    · rw [if_pos h1] at h'
      have := congrArg List.length h'
      simp at this
      omega
    · rw [if_neg h1] at h' ⊢
      by_cases h2 : (a == 92 && PunL.contains b) = true
      · rw [if_pos h2] at h' ⊢
        exact plain_words hc w h' r'
      · rw [if_neg h2] at h' ⊢
        exact plain_words hc (b :: w) h' r'
def whiteB (w : List Nat) : Bool := w.all fun c => GapL.contains c
/-- a label: its words, what is left behind -/
def labelR (l : List Nat) : Option (List Nat × List Nat) :=
  if ([91] : List Nat).isPrefixOf l = true then
    if ([93] : List Nat).isPrefixOf (plainR [91, 93] (l.drop 1)) = true ∧ (upToL (l.drop 1) (plainR [91, 93] (l.drop 1))).length ≤ 999 then
      if whiteB (upToL (l.drop 1) (plainR [91, 93] (l.drop 1))) = true then none
      else some (upToL (l.drop 1) (plainR [91, 93] (l.drop 1)), (plainR [91, 93] (l.drop 1)).drop 1)
    else none
  else none
def encR (barred : List Nat) (closing : Nat) (l : List Nat) : Option (List Nat × List Nat) :=
  if ([closing] : List Nat).isPrefixOf (plainR barred (l.drop 1)) = true then some (decR (upToL (l.drop 1) (plainR barred (l.drop 1))), (plainR barred (l.drop 1)).drop 1) else none
def EndsL : List Nat := [32, 9, 10, 40, 41]
def bareF : Nat → Nat → List Nat → Option (List Nat)
  | 0, _, _ => none
  | n + 1, wi, e => if ([40] : List Nat).isPrefixOf e = true then (if wi + 1 > 32 then none else bareF n (wi + 1) (plainR EndsL (e.drop 1)))
    else if wi > 0 ∧ ([41] : List Nat).isPrefixOf e = true then bareF n (wi - 1) (plainR EndsL (e.drop 1))
    else if wi > 0 then none else some e
def bareR (l : List Nat) : Option (List Nat) := bareF (l.length + 1) 0 (plainR EndsL l)
def destR (l : List Nat) : Option (List Nat × List Nat) :=
  if ([60] : List Nat).isPrefixOf l = true then encR [60, 62, 10] 62 l
  else match bareR l with
    | none => none
    | some e => if e.length = l.length then none else some (decR (upToL l e), e)
def titleR (l : List Nat) : Option (List Nat × List Nat) :=
  match l with
  | 34 :: _ => encR [34] 34 l
  | 39 :: _ => encR [39] 39 l
  | 40 :: _ => encR [40, 41] 41 l
  | _ => none
def lineR (l : List Nat) : Option (List Nat) := if ba [32, 9] l = [] then some [] else signR 10 (ba [32, 9] l)
def tailR (l : List Nat) : Option (List Nat × List Nat) :=
  if (gapR l).length = l.length then none else match titleR (gapR l) with
    | none => none
    | some (ti, r) => (lineR r).map fun r' => (ti, r')
/-- what is behind a destination: a title or none, and what is left -/
def endR (l : List Nat) : Option (Option (List Nat) × List Nat) := match tailR l with
  | some (ti, r) => some (some ti, r)
  | none => (lineR l).map fun r => (none, r)
structure Def where
  rest : List Nat
  words : List Nat
  dest : List Nat
  title : Option (List Nat)
  deriving DecidableEq
def defR (l : List Nat) : Option Def := match labelR l with
  | none => none
  | some (w, r) => if ([58] : List Nat).isPrefixOf r = true then match destR (gapR (r.drop 1)) with
      | none => none
      | some (d, r2) => match endR r2 with
        | none => none
        | some (ti, r3) => some ⟨r3, w, d, ti⟩
    else none
theorem suf_enc {b : List Nat} {c : Nat} {l d r : List Nat} (h : encR b c l = some (d, r)) : r <:+ l := by
  unfold encR at h
  split at h
  · have e : (plainR b (l.drop 1)).drop 1 = r := congrArg Prod.snd (Option.some.inj h)
    rw [← e]
    exact (List.drop_suffix _ _).trans ((suf_plain _ _).trans (List.drop_suffix _ _))
  · cases h
theorem suf_label {l w r : List Nat} (h : labelR l = some (w, r)) : r <:+ l := by
  unfold labelR at h
  split at h
  · split at h
    · split at h
      · cases h
      · have e := congrArg Prod.snd (Option.some.inj h)
        have e' : (plainR [91, 93] (l.drop 1)).drop 1 = r := e
        rw [← e']
        exact (List.drop_suffix _ _).trans ((suf_plain _ _).trans (List.drop_suffix _ _))
    · cases h
  · cases h
theorem suf_bareF : ∀ (n wi : Nat) (e : List Nat) {r : List Nat}, bareF n wi e = some r → r <:+ e
  | 0, _, _, _, h => by cases h
  | n + 1, wi, e, r, h => by
    unfold bareF at h
    have s1 : plainR EndsL (e.drop 1) <:+ e := (suf_plain _ _).trans (List.drop_suffix _ _)
    split at h
    · split at h
      · cases h
      · exact (suf_bareF n _ _ h).trans s1
    · split at h
      · exact (suf_bareF n _ _ h).trans s1
      · split at h
        · cases h
        · cases h
          exact List.suffix_refl _
theorem suf_bare {l r : List Nat} (h : bareR l = some r) : r <:+ l := (suf_bareF _ _ _ h).trans (suf_plain _ _)
theorem suf_dest {l d r : List Nat} (h : destR l = some (d, r)) : r <:+ l := by
  unfold destR at h
  split at h
  · exact suf_enc h
  · cases hb : bareR l with
    | none => rw [hb] at h; cases h
    | some e =>
      rw [hb] at h
      dsimp only at h
      split at h
      · cases h
      · have e2 : e = r := congrArg Prod.snd (Option.some.inj h)
        rw [← e2]
        exact suf_bare hb
theorem suf_title {l d r : List Nat} (h : titleR l = some (d, r)) : r <:+ l := by
  unfold titleR at h
  split at h
  · exact suf_enc h
  · exact suf_enc h
  · exact suf_enc h
  · cases h
theorem suf_line {l r : List Nat} (h : lineR l = some r) : r <:+ l := by
  unfold lineR at h
  split at h
  · cases h
    exact List.nil_suffix
  · unfold signR at h
    split at h
    · cases h
      exact (List.drop_suffix _ _).trans (suf_dw _ _)
    · cases h
theorem bareF_more : ∀ (n m wi : Nat) (e : List Nat), e.length < n → e.length < m → bareF n wi e = bareF m wi e
  | 0, _, _, _, h, _ => by omega
  | _, 0, _, _, _, h => by omega
  | n + 1, m + 1, wi, e, h1, h2 => by
    unfold bareF
    have s1 : ∀ c : Nat, ([c] : List Nat).isPrefixOf e = true → (plainR EndsL (e.drop 1)).length < e.length := fun c hc => by
      have h3 := (suf_plain EndsL (e.drop 1)).length_le
      have h4 := pre_len _ _ hc
      rw [List.length_drop] at h3
      simp at h4
      omega
    by_cases h3 : ([40] : List Nat).isPrefixOf e = true
    · rw [if_pos h3, if_pos h3]
      have := s1 _ h3
      rw [bareF_more n m (wi + 1) (plainR EndsL (e.drop 1)) (by omega) (by omega)]
    · rw [if_neg h3, if_neg h3]
      by_cases h4 : wi > 0 ∧ ([41] : List Nat).isPrefixOf e = true
      · rw [if_pos h4, if_pos h4]
        have := s1 _ h4.2
        rw [bareF_more n m (wi - 1) (plainR EndsL (e.drop 1)) (by omega) (by omega)]
      · rw [if_neg h4, if_neg h4]
theorem upTo_app (w e : List Nat) : upToL (w ++ e) e = w := by
  unfold upToL
  rw [List.length_append, Nat.add_sub_cancel, List.take_left]
theorem upTo_split {l e : List Nat} (h : e <:+ l) : l = upToL l e ++ e := by
  obtain ⟨w, rfl⟩ := h
  rw [upTo_app]
theorem label_parts {l w r : List Nat} (h : labelR l = some (w, r)) : l = 91 :: (w ++ 93 :: r) ∧ w.length ≤ 999 ∧ whiteB w = false ∧ plainR [91, 93] (w ++ 93 :: r) = 93 :: r := by
  unfold labelR at h
  split at h
  · rename_i h1
    split at h
    · rename_i h2
      split at h
      · cases h
      · rename_i h3
        have h4 := Option.some.inj h
        have e1 : upToL (l.drop 1) (plainR [91, 93] (l.drop 1)) = w := congrArg Prod.fst h4
        have e2 : (plainR [91, 93] (l.drop 1)).drop 1 = r := congrArg Prod.snd h4
        have hs : plainR [91, 93] (l.drop 1) <:+ l.drop 1 := suf_plain _ _
        have e3 := upTo_split hs
        have e4 : plainR [91, 93] (l.drop 1) = 93 :: r := by
          cases he : plainR [91, 93] (l.drop 1) with
          | nil => rw [he] at h2; cases h2.1
          | cons a b =>
            rw [he] at h2 e2
            have h5 : ((93 : Nat) == a && ([] : List Nat).isPrefixOf b) = true := h2.1
            have h6 := eq_of_beq (Bool.and_eq_true_iff.mp h5).1
            rw [← h6, ← e2]
            rfl
        rw [e1] at h2 h3
        rw [e1, e4] at e3
        have e5 : l = 91 :: l.drop 1 := by
          cases l with
          | nil => cases h1
          | cons a b =>
            have h5 : ((91 : Nat) == a && ([] : List Nat).isPrefixOf b) = true := h1
            have h6 := eq_of_beq (Bool.and_eq_true_iff.mp h5).1
            rw [← h6]
            rfl
        refine ⟨by rw [← e3]; exact e5, h2.2, by simpa using h3, by rw [← e3]; exact e4⟩
    · cases h
  · cases h
theorem label_made {w r : List Nat} (h1 : w.length ≤ 999) (h2 : whiteB w = false) (h3 : plainR [91, 93] (w ++ 93 :: r) = 93 :: r) (r' : List Nat) : labelR (91 :: (w ++ 93 :: r')) = some (w, r') := by
  have h4 := plain_words (sg := [91, 93]) (c := 93) (by decide) w h3 r'
  unfold labelR
  rw [if_pos (by rfl)]
  show (if ([93] : List Nat).isPrefixOf (plainR [91, 93] (w ++ 93 :: r')) = true ∧ (upToL (w ++ 93 :: r') (plainR [91, 93] (w ++ 93 :: r'))).length ≤ 999 then
      if whiteB (upToL (w ++ 93 :: r') (plainR [91, 93] (w ++ 93 :: r'))) = true then none
      else some (upToL (w ++ 93 :: r') (plainR [91, 93] (w ++ 93 :: r')), (plainR [91, 93] (w ++ 93 :: r')).drop 1)
    else none) = _
  rw [h4, upTo_app, if_pos ⟨by rfl, h1⟩, if_neg (by rw [h2]; exact Bool.false_ne_true)]
  rfl
theorem label_again {l w r : List Nat} (h : labelR l = some (w, r)) : labelR (91 :: (w ++ [93])) = some (w, []) := by
  obtain ⟨_, h1, h2, h3⟩ := label_parts h
  exact label_made h1 h2 h3 []

/-! ### what the law draws -/
def normR (w : List Nat) : List Nat := (Txt.join (S [32]) (Txt.words (S (w.map lo1)))).cps.toList
def LabelL : List (List Nat × List Nat) := [([97], [97]), ([66, 32, 99], [98, 32, 99]), ([32, 120, 32, 32, 121, 32], [120, 32, 121]), ([113, 10, 82], [113, 32, 114]), ([97, 92, 93], [97, 92, 93]), ([42], [42]), ([38, 97, 109, 112, 59], [38, 97, 109, 112, 59])]
def GapT : List (List Nat) := [[], [32], [10], [32, 32, 10, 32], [9], [32, 10], [10, 32, 32]]
def GapF : List (List Nat) := [[10, 10], [32, 10, 32, 10], [10, 10, 32]]
def DestL : List (List Nat × List Nat × Bool) := [([47, 117], [47, 117], true), ([60, 62], [], true), ([60, 97, 32, 98, 62], [97, 32, 98], true), ([120, 40, 121, 41], [120, 40, 121, 41], true), ([97, 92, 42, 98], [97, 42, 98], true), ([38, 97, 109, 112, 59], [38], true), ([60, 97, 92, 62, 98, 62], [97, 62, 98], true), ([60, 97], [], false), ([120, 40, 121], [], false), ([39, 116, 39], [39, 116, 39], true), ([97, 41, 98], [], false), ([92, 40], [40], true)]
def TitleL : List (List Nat × List Nat × Bool) := [([34, 116, 34], [116], true), ([39, 97, 32, 98, 39], [97, 32, 98], true), ([40, 120, 41], [120], true), ([34, 34], [], true), ([39, 97, 10, 98, 39], [97, 10, 98], true), ([34, 97, 92, 34, 98, 34], [97, 34, 98], true), ([40, 97, 92, 41, 98, 41], [97, 41, 98], true), ([39, 38, 108, 116, 59, 39], [60], true), ([34, 116], [], false), ([40, 97, 40, 98, 41], [], false), ([116], [], false)]
def TailL : List (List Nat) := [[], [10], [32, 10], [10, 109, 111, 114, 101], [32, 120], [32, 9, 10, 98], [32, 32]]
def AheadL : List (List Nat) := [[], [120, 32], [97, 98, 10]]

theorem label_ok : ∀ p ∈ LabelL, labelR (91 :: (p.1 ++ [93])) = some (p.1, []) ∧ normR p.1 = p.2 ∧ p.1.length ≤ 10 ∧ p.2.length ≤ 10 ∧ (∀ c ∈ p.1, c < 128) ∧ ∀ c ∈ p.2, c < 128 := by decide +kernel
def restB (l : List Nat) : Bool := match findL [10] l with
  | some k => (l.take k).all [32, 9].contains
  | none => l.all [32, 9].contains
def nextL (l : List Nat) : List Nat := match findL [10] l with
  | some k => l.drop (k + 1)
  | none => []
/-- what the law expects behind a destination -/
def dueEnd (s : List Nat) (sb : Bool) (tw tt : List Nat) (tok : Bool) (tl : List Nat) : Option (Option (List Nat) × List Nat) :=
  if sb = true ∧ s ≠ [] ∧ tok = true ∧ restB tl = true then some (some tt, nextL tl)
  else if restB (s ++ tw ++ tl) = true then some (none, nextL (s ++ tw ++ tl))
  else none
def wbB (R : List Nat) : Bool := (match R with | [] => true | a :: _ => isG a) && !R.contains 62
def SpaceL : List (List Nat × Bool) := (GapT.drop 1).map (fun g => (g, true)) ++ GapF.map fun g => (g, false)
theorem tails_ok : ∀ s ∈ SpaceL, ∀ t ∈ TitleL, ∀ tl ∈ TailL, endR (s.1 ++ t.1 ++ tl) = dueEnd s.1 s.2 t.1 t.2.1 t.2.2 tl ∧ wbB (s.1 ++ t.1 ++ tl) = true ∧ s.1 ≠ [] := by decide +kernel
theorem tails0_ok : ∀ tl ∈ TailL, endR ([] ++ [] ++ tl) = dueEnd [] true [] [] false tl ∧ wbB ([] ++ [] ++ tl) = true := by decide +kernel
theorem tail_x : ∀ tl ∈ TailL, ([32, 120] : List Nat).isPrefixOf tl = true → endR ([] ++ [] ++ tl) = none := by decide +kernel
theorem space_small : ∀ s ∈ SpaceL, s.1.length ≤ 5 ∧ ∀ c ∈ s.1, c < 128 := by decide
theorem title_small : ∀ t ∈ TitleL, t.1 ≠ [] ∧ t.1.length ≤ 10 ∧ t.2.1.length ≤ 10 ∧ (∀ c ∈ t.1, c < 128) ∧ ∀ c ∈ t.2.1, c < 128 := by decide
theorem dest_small : ∀ t ∈ DestL, t.1.length ≤ 10 ∧ t.2.1.length ≤ 10 ∧ (∀ c ∈ t.1, c < 128) ∧ ∀ c ∈ t.2.1, c < 128 := by decide
theorem tail_small : ∀ t ∈ TailL, t.length ≤ 5 ∧ ∀ c ∈ t, c < 128 := by decide
theorem ahead_small : ∀ t ∈ AheadL, t.length ≤ 3 ∧ ∀ c ∈ t, c < 128 := by decide
theorem gap_small : (∀ g ∈ GapT, g.length ≤ 5 ∧ ∀ c ∈ g, c < 128) ∧ ∀ g ∈ GapF, g.length ≤ 5 ∧ ∀ c ∈ g, c < 128 := by decide
/-! gaps -/
theorem tw_app {g : Nat → Bool} {c : Nat} (hc : g c = false) : ∀ (w X : List Nat), w.all g = true → (w ++ c :: X).takeWhile g = w ∧ (w ++ c :: X).dropWhile g = c :: X
  | [], X, _ => by
    show (c :: X).takeWhile g = [] ∧ (c :: X).dropWhile g = c :: X
    rw [List.takeWhile_cons, List.dropWhile_cons, hc]
    exact ⟨rfl, rfl⟩
  | a :: w, X, h => by
    have h2 := Bool.and_eq_true_iff.mp (show (g a && w.all g) = true from h)
    obtain ⟨h3, h4⟩ := tw_app hc w X h2.2
    show (a :: (w ++ c :: X)).takeWhile g = a :: w ∧ (a :: (w ++ c :: X)).dropWhile g = c :: X
    rw [List.takeWhile_cons, List.dropWhile_cons, h2.1, if_pos rfl, if_pos rfl, h3, h4]
    exact ⟨rfl, rfl⟩
theorem gapT_ok {c : Nat} (hc : isG c = false) (X : List Nat) : ∀ g ∈ GapT, gapR (g ++ c :: X) = c :: X := by
  intro g hg
  have h1 : ∀ g ∈ GapT, g.all isG = true ∧ ¬ g.count 10 > 1 := by decide
  obtain ⟨h2, h3⟩ := h1 g hg
  obtain ⟨h4, h5⟩ := tw_app hc g X h2
  unfold gapR
  rw [h4, h5, if_neg h3]
theorem dest_white {a : Nat} (ha : isG a = true) (Y : List Nat) : destR (a :: Y) = none := by
  have h1 : a = 32 ∨ a = 9 ∨ a = 10 := by
    have : GapL.contains a = true := ha
    simpa [GapL] using this
  have h2 : bareR (a :: Y) = some (a :: Y) := by
    rcases h1 with rfl | rfl | rfl <;> cases Y <;> rfl
  unfold destR
  rw [h2, if_neg (by rcases h1 with rfl | rfl | rfl <;> exact Bool.false_ne_true)]
  show (if (a :: Y).length = (a :: Y).length then none else some (decR (upToL (a :: Y) (a :: Y)), a :: Y)) = none
  rw [if_pos rfl]
theorem gapF_ok {c : Nat} (hc : isG c = false) (X : List Nat) : ∀ g ∈ GapF, destR (gapR (g ++ c :: X)) = none := by
  intro g hg
  have h1 : ∀ g ∈ GapF, g.all isG = true ∧ g.count 10 > 1 ∧ g ≠ [] := by decide
  obtain ⟨h2, h3, h6⟩ := h1 g hg
  obtain ⟨h4, h5⟩ := tw_app hc g X h2
  unfold gapR
  rw [h4, if_pos h3]
  cases g with
  | nil => exact absurd rfl h6
  | cons a g =>
    have := Bool.and_eq_true_iff.mp (show (isG a && g.all isG) = true from h2)
    exact dest_white this.1 _
/-! destinations -/
theorem wb_cases {R : List Nat} (h : wbB R = true) : (R = [] ∨ ∃ a r, R = a :: r ∧ (a = 32 ∨ a = 9 ∨ a = 10)) ∧ 62 ∉ R := by
  unfold wbB at h
  obtain ⟨h1, h2⟩ := Bool.and_eq_true_iff.mp h
  refine ⟨?_, ?_⟩
  · cases R with
    | nil => exact .inl rfl
    | cons a r =>
      have : GapL.contains a = true := h1
      exact .inr ⟨a, r, rfl, by simpa [GapL] using this⟩
  · intro z
    have : R.contains 62 = true := by simpa using z
    rw [this] at h2
    cases h2
theorem bares {R : List Nat} (h : R = [] ∨ ∃ a r, R = a :: r ∧ (a = 32 ∨ a = 9 ∨ a = 10)) :
    bareR ([47, 117] ++ R) = some R ∧ bareR ([120, 40, 121, 41] ++ R) = some R ∧ bareR ([97, 92, 42, 98] ++ R) = some R ∧ bareR ([38, 97, 109, 112, 59] ++ R) = some R ∧
    bareR ([39, 116, 39] ++ R) = some R ∧ bareR ([92, 40] ++ R) = some R ∧ bareR ([120, 40, 121] ++ R) = none ∧ bareR ([97, 41, 98] ++ R) = some (41 :: 98 :: R) := by
  rcases h with rfl | ⟨a, r, rfl, ha⟩
  · decide +kernel
  · rcases ha with rfl | rfl | rfl <;> cases r <;> exact ⟨rfl, rfl, rfl, rfl, rfl, rfl, rfl, rfl⟩
theorem dest_of_bare {dw R : List Nat} (h0 : dw ≠ []) (h1 : ([60] : List Nat).isPrefixOf (dw ++ R) = false) (h : bareR (dw ++ R) = some R) : destR (dw ++ R) = some (decR dw, R) := by
  unfold destR
  rw [h1, if_neg Bool.false_ne_true, h]
  show (if R.length = (dw ++ R).length then none else some (decR (upToL (dw ++ R) R), R)) = _
  have : 0 < dw.length := List.length_pos_iff.mpr h0
  rw [if_neg (by rw [List.length_append]; omega), upTo_app]
theorem enc_ok {b : List Nat} {o c : Nat} {w : List Nat} (hc : b.contains c = true) (h : plainR b (w ++ [c]) = [c]) (R : List Nat) : encR b c (o :: (w ++ c :: R)) = some (decR w, R) := by
  have h2 := plain_words hc w h R
  unfold encR
  show (if ([c] : List Nat).isPrefixOf (plainR b (w ++ c :: R)) = true then some (decR (upToL (w ++ c :: R) (plainR b (w ++ c :: R))), (plainR b (w ++ c :: R)).drop 1) else none) = _
  rw [h2, upTo_app, if_pos (by simp [List.isPrefixOf])]
  rfl
theorem dest_ok {R : List Nat} (hR : wbB R = true) : ∀ d ∈ DestL, (d.2.2 = true → destR (d.1 ++ R) = some (d.2.1, R)) ∧ (d.2.2 = false → destR (d.1 ++ R) = none ∨ ∃ x r2, destR (d.1 ++ R) = some (x, r2) ∧ endR r2 = none) := by
  obtain ⟨h1, h2⟩ := wb_cases hR
  obtain ⟨b1, b2, b3, b4, b5, b6, b7, b8⟩ := bares h1
  have f : ∀ {dw dd : List Nat}, dw ≠ [] → ([60] : List Nat).isPrefixOf (dw ++ R) = false → bareR (dw ++ R) = some R → decR dw = dd → destR (dw ++ R) = some (dd, R) := fun a b c e => by rw [dest_of_bare a b c, e]
  have g : ∀ {w dd : List Nat}, plainR [60, 62, 10] (w ++ [62]) = [62] → decR w = dd → destR (60 :: (w ++ 62 :: R)) = some (dd, R) := fun {w dd} a e => by
    unfold destR
    rw [if_pos (by rfl), enc_ok (by decide) a, e]
  intro d hd
  unfold DestL at hd
  simp only [List.mem_cons, List.not_mem_nil, or_false] at hd
  rcases hd with rfl | rfl | rfl | rfl | rfl | rfl | rfl | rfl | rfl | rfl | rfl | rfl
  · exact ⟨fun _ => f (by decide) rfl b1 (by decide +kernel), fun h => by cases h⟩
  · exact ⟨fun _ => g (w := []) (by decide +kernel) (by decide +kernel), fun h => by cases h⟩
  · exact ⟨fun _ => g (w := [97, 32, 98]) (by decide +kernel) (by decide +kernel), fun h => by cases h⟩
  · exact ⟨fun _ => f (by decide) rfl b2 (by decide +kernel), fun h => by cases h⟩
  · exact ⟨fun _ => f (by decide) rfl b3 (by decide +kernel), fun h => by cases h⟩
  · exact ⟨fun _ => f (by decide) rfl b4 (by decide +kernel), fun h => by cases h⟩
  · exact ⟨fun _ => g (w := [97, 92, 62, 98]) (by decide +kernel) (by decide +kernel), fun h => by cases h⟩
  · refine ⟨fun h => (by cases h), fun _ => .inl ?_⟩
    unfold destR
    rw [if_pos (by rfl)]
    unfold encR
    rw [if_neg]
    intro z
    have hs : plainR [60, 62, 10] (([60, 97] ++ R).drop 1) <:+ ([60, 97] ++ R).drop 1 := suf_plain _ _
    have : 62 ∈ ([60, 97] ++ R).drop 1 := by
      refine hs.subset ?_
      cases he : plainR [60, 62, 10] (([60, 97] ++ R).drop 1) with
      | nil => rw [he] at z; cases z
      | cons a r =>
        rw [he] at z
        have h5 : ((62 : Nat) == a && ([] : List Nat).isPrefixOf r) = true := z
        have h6 := eq_of_beq (Bool.and_eq_true_iff.mp h5).1
        rw [h6]
        exact List.mem_cons_self ..
    have h3 : 62 ∈ 97 :: R := this
    rcases List.mem_cons.mp h3 with h4 | h4
    · cases h4
    · exact h2 h4
  · refine ⟨fun h => (by cases h), fun _ => .inl ?_⟩
    unfold destR
    rw [if_neg (by exact Bool.false_ne_true)]
    rw [show bareR ([120, 40, 121] ++ R) = none from b7]
  · exact ⟨fun _ => f (by decide) rfl b5 (by decide +kernel), fun h => by cases h⟩
  · refine ⟨fun h => (by cases h), fun _ => .inr ⟨[97], 41 :: 98 :: R, ?_, ?_⟩⟩
    · unfold destR
      rw [if_neg (by exact Bool.false_ne_true), show bareR ([97, 41, 98] ++ R) = some (41 :: 98 :: R) from b8]
      show (if (41 :: 98 :: R).length = (97 :: 41 :: 98 :: R).length then none else some (decR (upToL ([97] ++ 41 :: 98 :: R) (41 :: 98 :: R)), 41 :: 98 :: R)) = _
      rw [if_neg (by simp), upTo_app]
      rfl
    · have e1 : tailR (41 :: 98 :: R) = none := by
        have e2 : gapR (41 :: 98 :: R) = 41 :: 98 :: R := rfl
        unfold tailR
        rw [e2, if_pos rfl]
      unfold endR
      rw [e1]
      rfl
  · exact ⟨fun _ => f (by decide) rfl b6 (by decide +kernel), fun h => by cases h⟩
/-! definitions -/
theorem def_made {w : List Nat} (hw : labelR (91 :: (w ++ [93])) = some (w, [])) (X : List Nat) : defR (91 :: (w ++ 93 :: 58 :: X)) = match destR (gapR X) with
      | none => none
      | some (d, r2) => match endR r2 with
        | none => none
        | some (ti, r3) => some ⟨r3, w, d, ti⟩ := by
  obtain ⟨_, h1, h2, h3⟩ := label_parts hw
  unfold defR
  rw [label_made h1 h2 h3 (58 :: X)]
  rfl
theorem dest_head : ∀ d ∈ DestL, ∃ c r, d.1 = c :: r ∧ isG c = false := by
  intro d hd
  have : ∀ d ∈ DestL, (match d.1 with | [] => false | c :: _ => !isG c) = true := by decide
  have h := this d hd
  cases h2 : d.1 with
  | nil => rw [h2] at h; cases h
  | cons c r =>
    rw [h2] at h
    exact ⟨c, r, rfl, by simpa using h⟩
/-- a drawn definition -/
theorem def_drawn {w g R : List Nat} {d : List Nat × List Nat × Bool} {gb : Bool} (hw : labelR (91 :: (w ++ [93])) = some (w, [])) (hd : d ∈ DestL) (hR : wbB R = true) (hg : (gb = true ∧ g ∈ GapT) ∨ (gb = false ∧ g ∈ GapF)) :
    defR (91 :: (w ++ 93 :: 58 :: (g ++ (d.1 ++ R)))) = if gb = true ∧ d.2.2 = true then (endR R).map fun x => ⟨x.2, w, d.2.1, x.1⟩ else none := by
  rw [def_made hw]
  obtain ⟨c, r, hc, hcg⟩ := dest_head d hd
  obtain ⟨k1, k2⟩ := dest_ok hR d hd
  have e0 : d.1 ++ R = c :: (r ++ R) := by rw [hc]; rfl
  rcases hg with ⟨rfl, hg⟩ | ⟨rfl, hg⟩
  · have e1 : gapR (g ++ (d.1 ++ R)) = d.1 ++ R := by rw [e0]; exact gapT_ok hcg _ g hg
    rw [e1]
    cases hok : d.2.2 with
    | true =>
      rw [k1 hok, if_pos ⟨rfl, rfl⟩]
      dsimp only
      cases endR R <;> rfl
    | false =>
      rw [if_neg fun z => Bool.false_ne_true z.2]
      rcases k2 hok with k3 | ⟨x, r2, k3, k4⟩
      · rw [k3]
      · rw [k3]
        dsimp only
        rw [k4]
  · rw [e0, gapF_ok hcg _ g hg, if_neg fun z => Bool.false_ne_true z.1]

/-! ### long labels, deep brackets -/
def longL (x m : Nat) : List Nat := (List.replicate 6 (List.replicate 149 x ++ [10])).flatten ++ List.replicate m x
def tgtL (d : Nat) : List Nat := 120 :: (List.replicate d 40 ++ 121 :: List.replicate d 41)
theorem tgt_def : ∀ k, k < 5 → defR ([91, 97, 93, 58, 32] ++ tgtL (30 + k)) = if k ≤ 2 then some ⟨[], [97], tgtL (30 + k), none⟩ else none := by decide +kernel
def blankL (l : List Nat) : List Nat := l.map fun c => if c = 10 then 32 else c
theorem plain_none {sg : List Nat} : ∀ (w e : List Nat), (∀ c ∈ w, sg.contains c = false ∧ c ≠ 92) → (∃ c r, e = c :: r) → plainR sg (w ++ e) = plainR sg e
  | [], _, _, _ => rfl
  | [a], e, h, ⟨c, r, he⟩ => by
    subst he
    obtain ⟨h1, h2⟩ := h a (List.mem_cons_self ..)
    show (if sg.contains a then a :: c :: r else if a == 92 && PunL.contains c then plainR sg r else plainR sg (c :: r)) = _
    rw [h1, beq_eq_false_iff_ne.mpr h2, Bool.false_and, if_neg Bool.false_ne_true, if_neg Bool.false_ne_true]
  | a :: b :: w, e, h, he => by
    obtain ⟨h1, h2⟩ := h a (List.mem_cons_self ..)
    have ih := plain_none (b :: w) e (fun c hc => h c (List.mem_cons_of_mem _ hc)) he
    show (if sg.contains a then a :: b :: (w ++ e) else if a == 92 && PunL.contains b then plainR sg (w ++ e) else plainR sg (b :: (w ++ e))) = _
    rw [h1, beq_eq_false_iff_ne.mpr h2, Bool.false_and, if_neg Bool.false_ne_true, if_neg Bool.false_ne_true]
    exact ih
theorem longL_len (x m : Nat) : (longL x m).length = 900 + m := by
  unfold longL
  rw [List.length_append, List.length_replicate, List.length_flatten, List.map_replicate, List.length_append, List.length_replicate]
  have : (List.replicate 6 (149 + [10].length)).sum = 900 := by decide
  rw [this]
theorem longL_mem {x m : Nat} : ∀ c ∈ longL x m, c = x ∨ c = 10 := by
  intro c hc
  unfold longL at hc
  rcases List.mem_append.mp hc with h | h
  · obtain ⟨l, hl, hcl⟩ := List.mem_flatten.mp h
    have := List.eq_of_mem_replicate hl
    subst this
    rcases List.mem_append.mp hcl with h2 | h2
    · exact .inl (List.eq_of_mem_replicate h2)
    · exact .inr (List.mem_singleton.mp h2)
  · exact .inl (List.eq_of_mem_replicate h)
theorem long_white {x m : Nat} (hx : x = 97 ∨ x = 98) : whiteB (longL x (m + 1)) = false := by
  unfold whiteB
  rw [List.all_eq_false]
  refine ⟨x, ?_, ?_⟩
  · unfold longL
    exact List.mem_append_right _ (List.mem_replicate.mpr ⟨Nat.succ_ne_zero _, rfl⟩)
  · rcases hx with rfl | rfl <;> decide
theorem long_label {x m : Nat} (hx : x = 97 ∨ x = 98) (r : List Nat) : labelR (91 :: (longL x (m + 1) ++ 93 :: r)) = if 900 + (m + 1) ≤ 999 then some (longL x (m + 1), r) else none := by
  have hp : plainR [91, 93] (longL x (m + 1) ++ 93 :: r) = 93 :: r := by
    rw [plain_none _ _ (fun c hc => ?_) ⟨93, r, rfl⟩]
    · cases r with
      | nil => rfl
      | cons a b => rfl
    · rcases longL_mem c hc with h | h
      · rcases hx with rfl | rfl <;> subst h <;> decide
      · subst h
        decide
  unfold labelR
  rw [if_pos (by rfl)]
  show (if ([93] : List Nat).isPrefixOf (plainR [91, 93] (longL x (m + 1) ++ 93 :: r)) = true ∧ (upToL (longL x (m + 1) ++ 93 :: r) (plainR [91, 93] (longL x (m + 1) ++ 93 :: r))).length ≤ 999 then
      if whiteB (upToL (longL x (m + 1) ++ 93 :: r) (plainR [91, 93] (longL x (m + 1) ++ 93 :: r))) = true then none
      else some (upToL (longL x (m + 1) ++ 93 :: r) (plainR [91, 93] (longL x (m + 1) ++ 93 :: r)), (plainR [91, 93] (longL x (m + 1) ++ 93 :: r)).drop 1)
    else none) = _
  rw [hp, upTo_app, longL_len, long_white hx]
  by_cases h : 900 + (m + 1) ≤ 999
  · rw [if_pos ⟨by rfl, h⟩, if_pos h, if_neg Bool.false_ne_true]
    rfl
  · rw [if_neg fun z => h z.2, if_neg h]
theorem long_def {x m : Nat} (hx : x = 97 ∨ x = 98) : defR (91 :: (longL x (m + 1) ++ [93, 58, 32, 47, 117])) = if 900 + (m + 1) ≤ 999 then some ⟨[], longL x (m + 1), [47, 117], none⟩ else none := by
  unfold defR
  rw [show ([93, 58, 32, 47, 117] : List Nat) = 93 :: [58, 32, 47, 117] from rfl, long_label hx]
  by_cases h : 900 + (m + 1) ≤ 999
  · rw [if_pos h, if_pos h]
    rfl
  · rw [if_neg h, if_neg h]
/-! its words -/
theorem step_run {x : Nat} (hx : Unicode.isSpace x = false) (ws : List Str) : ∀ (n : Nat) (run : List Nat), (List.replicate n x).foldl PySem.KWd.step (ws, S run) = (ws, S (run ++ List.replicate n x))
  | 0, run => by simp
  | n + 1, run => by
    rw [List.replicate_succ, List.foldl_cons]
    have e : PySem.KWd.step (ws, S run) x = (ws, S (run ++ [x])) := by
      unfold PySem.KWd.step
      rw [hx, if_neg Bool.false_ne_true]
      show (ws, S run ++ S [x]) = _
      rw [S_app]
    rw [e, step_run hx ws n]
    simp
theorem step_end (ws : List Str) {run : List Nat} (h : run ≠ []) : PySem.KWd.step (ws, S run) 10 = (ws ++ [S run], S []) := by
  unfold PySem.KWd.step
  have hs : Unicode.isSpace 10 = true := by decide +kernel
  have hl : ¬ (S run).length = 0 := by
    rw [S_len]
    exact fun z => h (List.eq_nil_of_length_eq_zero z)
  rw [if_pos hs, if_neg hl]
  rfl
theorem scan_long {x : Nat} (hx : Unicode.isSpace x = false) (m : Nat) : ∀ (k : Nat) (ws : List Str), ((List.replicate k (List.replicate 149 x ++ [10])).flatten ++ List.replicate m x).foldl PySem.KWd.step (ws, S []) = (ws ++ List.replicate k (S (List.replicate 149 x)), S (List.replicate m x))
  | 0, ws => by
    show (List.replicate m x).foldl PySem.KWd.step (ws, S []) = _
    rw [step_run hx ws m []]
    simp
  | k + 1, ws => by
    rw [List.replicate_succ (n := k), List.flatten_cons, List.append_assoc, List.append_assoc, List.foldl_append, step_run hx ws 149 [], List.nil_append]
    show List.foldl PySem.KWd.step (PySem.KWd.step (ws, S (List.replicate 149 x)) 10) ((List.replicate k (List.replicate 149 x ++ [10])).flatten ++ List.replicate m x) = _
    rw [step_end ws (by intro z; cases z), scan_long hx m k]
    simp [List.replicate_succ]
theorem long_norm {x m : Nat} (hx : x = 97 ∨ x = 98) : normR (longL x (m + 1)) = blankL (longL x (m + 1)) := by
  have hsp : Unicode.isSpace x = false := by rcases hx with rfl | rfl <;> decide +kernel
  have hlo : (longL x (m + 1)).map lo1 = longL x (m + 1) := by
    conv => rhs; rw [← List.map_id (longL x (m + 1))]
    refine List.map_congr_left fun c hc => ?_
    rcases longL_mem c hc with h | h
    · rcases hx with rfl | rfl <;> subst h <;> rfl
    · subst h; rfl
  have hsc : PySem.KWd.scan (S (longL x (m + 1))) = (List.replicate 6 (S (List.replicate 149 x)), S (List.replicate (m + 1) x)) := by
    unfold PySem.KWd.scan
    rw [S_tl]
    have := scan_long hsp (m + 1) 6 []
    rw [List.nil_append] at this
    exact this
  unfold normR
  rw [hlo, PySem.KWd.words_scan, hsc]
  have hf : PySem.KWd.fin (List.replicate 6 (S (List.replicate 149 x)), S (List.replicate (m + 1) x)) = (List.replicate 6 (List.replicate 149 x) ++ [List.replicate (m + 1) x]).map S := by
    unfold PySem.KWd.fin
    rw [if_neg (by rw [S_len, List.length_replicate]; exact Nat.succ_ne_zero _)]
    simp
  rw [hf, join_S, S_tl]
  have hb : blankL (longL x (m + 1)) = (List.replicate 6 (List.replicate 149 x ++ [32])).flatten ++ List.replicate (m + 1) x := by
    have hx10 : x ≠ 10 := by rcases hx with rfl | rfl <;> decide
    unfold blankL longL
    rw [List.map_append, List.map_flatten, List.map_replicate, List.map_append, List.map_replicate, List.map_replicate, if_neg hx10]
    rfl
  rw [hb]
  have gen : ∀ (k : Nat) (a b : List Nat), TL.joinL [32] (List.replicate k a ++ [b]) = (List.replicate k (a ++ [32])).flatten ++ b := by
    intro k a b
    induction k with
    | zero => simp [TL.joinL]
    | succ k ih =>
      rw [List.replicate_succ, List.replicate_succ, List.flatten_cons, List.append_assoc, ← ih]
      cases k with
      | zero => simp [TL.joinL]
      | succ k =>
        rw [List.replicate_succ]
        show a ++ ([32] ++ TL.joinL [32] (a :: List.replicate k a ++ [b])) = _
        simp
  exact gen 6 _ _
theorem long_repl {x m : Nat} : Txt.replace (S (longL x m)) (S [10]) (S [32]) = S (blankL (longL x m)) := by
  rw [S_of (Txt.replace (S (longL x m)) (S [10]) (S [32])), PySem.StrLaws.replace_list (by rw [S_len]; decide), S_tl, S_tl, S_tl]
  congr 1
  generalize longL x m = l
  induction l with
  | nil => exact PySem.StrLaws.replL_nil
  | cons c r ih =>
    by_cases h : c = 10
    · subst h
      rw [PySem.StrLaws.replL_hit (by decide) (by rfl)]
      show [32] ++ PySem.StrLaws.replL [10] [32] r = _
      rw [ih]
      rfl
    · rw [PySem.StrLaws.replL_miss (by simp [h]), ih]
      unfold blankL
      rw [List.map_cons, if_neg h]

end DM
namespace K50
open PySem PySem.Spec PyProof.Rows L2 My RM PM DM
def topS (i : Nat) : Stmt := PySem.Challenge.pw_plainmark_k50_definitions_one_by_one.main.body.getD i (.Pass ⟨0, 0, 0, 0⟩)
abbrev s_behind_all : Stmt := topS 7
abbrev s_behind_gap : Stmt := topS 8
abbrev s_behind_sign : Stmt := topS 9
abbrev s_is_escape : Stmt := topS 10
abbrev s_first_plain : Stmt := topS 11
abbrev s_reference_at : Stmt := topS 16
abbrev s_decoded : Stmt := topS 17
abbrev s_decoded_at : Stmt := topS 18
abbrev s_sign_meant : Stmt := topS 19
abbrev s_number_in : Stmt := topS 20
abbrev s_sign_of : Stmt := topS 21
abbrev s_normalised : Stmt := topS 27
abbrev s_is_label_text : Stmt := topS 28
abbrev s_label_at : Stmt := topS 29
abbrev s_destination_at : Stmt := topS 30
abbrev s_title_at : Stmt := topS 31
abbrev s_enclosed_at : Stmt := topS 32
abbrev s_behind_bare : Stmt := topS 33
abbrev s_definition_at : Stmt := topS 35
abbrev s_title_and_line : Stmt := topS 36
abbrev s_behind_line : Stmt := topS 37
abbrev s__law_well : Stmt := topS 39
abbrev s__law_draw : Stmt := topS 40
abbrev s__law_one : Stmt := topS 41
abbrev s__law_label : Stmt := topS 42
abbrev s__law_gap : Stmt := topS 43
abbrev s__law_destination : Stmt := topS 44
abbrev s__law_title : Stmt := topS 45
abbrev s__law_due : Stmt := topS 46
abbrev s__law_one_right : Stmt := topS 47
abbrev s__law_bounds_right : Stmt := topS 48
abbrev s_law : Stmt := topS 49
theorem sc_behind_all : FnScope ["signs", "text", "place"] ["signs", "text", "place"] (defScope s_behind_all) := ⟨rfl, rfl, rfl, by decide +kernel, rfl, by decide +kernel, by decide +kernel⟩
theorem sc_behind_gap : FnScope ["text", "place", "end"] ["text", "place"] (defScope s_behind_gap) := ⟨rfl, rfl, rfl, by decide +kernel, rfl, by decide +kernel, by decide +kernel⟩
theorem sc_behind_sign : FnScope ["sign", "text", "place"] ["sign", "text", "place"] (defScope s_behind_sign) := ⟨rfl, rfl, rfl, by decide +kernel, rfl, by decide +kernel, by decide +kernel⟩
theorem sc_is_escape : FnScope ["text", "place"] ["text", "place"] (defScope s_is_escape) := ⟨rfl, rfl, rfl, by decide +kernel, rfl, by decide +kernel, by decide +kernel⟩
theorem sc_first_plain : FnScope ["signs", "text", "place"] ["signs", "text", "place"] (defScope s_first_plain) := ⟨rfl, rfl, rfl, by decide +kernel, rfl, by decide +kernel, by decide +kernel⟩
theorem sc_reference_at : FnScope ["text", "place", "end", "sign"] ["text", "place"] (defScope s_reference_at) := ⟨rfl, rfl, rfl, by decide +kernel, rfl, by decide +kernel, by decide +kernel⟩
theorem sc_decoded : FnScope ["text", "signs", "place", "sign"] ["text"] (defScope s_decoded) := ⟨rfl, rfl, rfl, by decide +kernel, rfl, by decide +kernel, by decide +kernel⟩
theorem sc_decoded_at : FnScope ["text", "place", "reference"] ["text", "place"] (defScope s_decoded_at) := ⟨rfl, rfl, rfl, by decide +kernel, rfl, by decide +kernel, by decide +kernel⟩
theorem sc_sign_meant : FnScope ["words"] ["words"] (defScope s_sign_meant) := ⟨rfl, rfl, rfl, by decide +kernel, rfl, by decide +kernel, by decide +kernel⟩
theorem sc_number_in : FnScope ["digits", "signs", "base", "digit"] ["digits", "signs", "base"] (defScope s_number_in) := ⟨rfl, rfl, rfl, by decide +kernel, rfl, by decide +kernel, by decide +kernel⟩
theorem sc_sign_of : FnScope ["number", "begin", "signs"] ["number"] (defScope s_sign_of) := ⟨rfl, rfl, rfl, by decide +kernel, rfl, by decide +kernel, by decide +kernel⟩
theorem sc_normalised : FnScope ["text"] ["text"] (defScope s_normalised) := ⟨rfl, rfl, rfl, by decide +kernel, rfl, by decide +kernel, by decide +kernel⟩
theorem sc_is_label_text : FnScope ["thing"] ["thing"] (defScope s_is_label_text) := ⟨rfl, rfl, rfl, by decide +kernel, rfl, by decide +kernel, by decide +kernel⟩
theorem sc_label_at : FnScope ["text", "place", "end", "words"] ["text", "place"] (defScope s_label_at) := ⟨rfl, rfl, rfl, by decide +kernel, rfl, by decide +kernel, by decide +kernel⟩
theorem sc_destination_at : FnScope ["text", "place", "end"] ["text", "place"] (defScope s_destination_at) := ⟨rfl, rfl, rfl, by decide +kernel, rfl, by decide +kernel, by decide +kernel⟩
theorem sc_title_at : FnScope ["text", "place", "sign", "barred", "closing"] ["text", "place"] (defScope s_title_at) := ⟨rfl, rfl, rfl, by decide +kernel, rfl, by decide +kernel, by decide +kernel⟩
theorem sc_enclosed_at : FnScope ["barred", "closing", "text", "place", "end"] ["barred", "closing", "text", "place"] (defScope s_enclosed_at) := ⟨rfl, rfl, rfl, by decide +kernel, rfl, by decide +kernel, by decide +kernel⟩
theorem sc_behind_bare : FnScope ["text", "place", "within", "end"] ["text", "place"] (defScope s_behind_bare) := ⟨rfl, rfl, rfl, by decide +kernel, rfl, by decide +kernel, by decide +kernel⟩
theorem sc_definition_at : FnScope ["text", "place", "label", "end", "words", "target", "destination", "tail", "title"] ["text", "place"] (defScope s_definition_at) := ⟨rfl, rfl, rfl, by decide +kernel, rfl, by decide +kernel, by decide +kernel⟩
theorem sc_title_and_line : FnScope ["text", "place", "begin", "title", "end"] ["text", "place"] (defScope s_title_and_line) := ⟨rfl, rfl, rfl, by decide +kernel, rfl, by decide +kernel, by decide +kernel⟩
theorem sc_behind_line : FnScope ["text", "place", "end"] ["text", "place"] (defScope s_behind_line) := ⟨rfl, rfl, rfl, by decide +kernel, rfl, by decide +kernel, by decide +kernel⟩
theorem sc__law_well : FnScope ["_law_cell"] ["_law_cell"] (defScope s__law_well) := ⟨rfl, rfl, rfl, by decide +kernel, rfl, by decide +kernel, by decide +kernel⟩
theorem sc__law_draw : FnScope ["_law_well_here", "_law_many", "_law_digit", "_law_number", "_law_more"] ["_law_well_here", "_law_many"] (defScope s__law_draw) := ⟨rfl, rfl, rfl, by decide +kernel, rfl, by decide +kernel, by decide +kernel⟩
theorem sc__law_one : FnScope ["_law_well_here", "_law_some"] ["_law_well_here", "_law_some"] (defScope s__law_one) := ⟨rfl, rfl, rfl, by decide +kernel, rfl, by decide +kernel, by decide +kernel⟩
theorem sc__law_label : FnScope ["_law_well_here", "_law_some"] ["_law_well_here"] (defScope s__law_label) := ⟨rfl, rfl, rfl, by decide +kernel, rfl, by decide +kernel, by decide +kernel⟩
theorem sc__law_gap : FnScope ["_law_well_here", "_law_least", "_law_some", "_law_gap_here"] ["_law_well_here", "_law_least"] (defScope s__law_gap) := ⟨rfl, rfl, rfl, by decide +kernel, rfl, by decide +kernel, by decide +kernel⟩
theorem sc__law_destination : FnScope ["_law_well_here", "_law_some"] ["_law_well_here"] (defScope s__law_destination) := ⟨rfl, rfl, rfl, by decide +kernel, rfl, by decide +kernel, by decide +kernel⟩
theorem sc__law_title : FnScope ["_law_well_here", "_law_some"] ["_law_well_here"] (defScope s__law_title) := ⟨rfl, rfl, rfl, by decide +kernel, rfl, by decide +kernel, by decide +kernel⟩
theorem sc__law_due : FnScope ["_law_text", "_law_at", "_law_label_here", "_law_gap_here", "_law_destination_here", "_law_space", "_law_title_here", "_law_begin", "_law_end", "_law_line", "_law_rest"] ["_law_text", "_law_at", "_law_label_here", "_law_gap_here", "_law_destination_here", "_law_space", "_law_title_here"] (defScope s__law_due) := ⟨rfl, rfl, rfl, by decide +kernel, rfl, by decide +kernel, by decide +kernel⟩
theorem sc__law_one_right : FnScope ["_law_well_here", "_law_label_here", "_law_gap_here", "_law_destination_here", "_law_space", "_law_title_here", "_law_tail", "_law_ahead", "_law_body", "_law_text", "_law_due_here"] ["_law_well_here"] (defScope s__law_one_right) := ⟨rfl, rfl, rfl, by decide +kernel, rfl, by decide +kernel, by decide +kernel⟩
theorem sc__law_bounds_right : FnScope ["_law_well_here", "_law_many", "_law_sign", "_law_label_here", "_law_due_here", "_law_depth", "_law_target", "_law_wanted"] ["_law_well_here"] (defScope s__law_bounds_right) := ⟨rfl, rfl, rfl, by decide +kernel, rfl, by decide +kernel, by decide +kernel⟩
theorem sc_law : FnScope ["_law_script", "_law_some", "_law_text", "_law_cell", "_law_well_here", "_law_k"] ["_law_script"] (defScope s_law) := ⟨rfl, rfl, rfl, by decide +kernel, rfl, by decide +kernel, by decide +kernel⟩
structure Txt (w : World) (K : PySem.W.Frag) (mg : Str → Option Value) where
  a_behind_all : Addr
  d_behind_all : FuncData
  f_behind_all : Fun K "behind_all" "behind_all" s_behind_all a_behind_all d_behind_all
  g_behind_all : mg "behind_all" = some (.ref a_behind_all)
  b_behind_all : Binds K d_behind_all ["signs", "text", "place"] []
  a_behind_gap : Addr
  d_behind_gap : FuncData
  f_behind_gap : Fun K "behind_gap" "behind_gap" s_behind_gap a_behind_gap d_behind_gap
  g_behind_gap : mg "behind_gap" = some (.ref a_behind_gap)
  b_behind_gap : Binds K d_behind_gap ["text", "place"] []
  a_behind_sign : Addr
  d_behind_sign : FuncData
  f_behind_sign : Fun K "behind_sign" "behind_sign" s_behind_sign a_behind_sign d_behind_sign
  g_behind_sign : mg "behind_sign" = some (.ref a_behind_sign)
  b_behind_sign : Binds K d_behind_sign ["sign", "text", "place"] []
  a_is_escape : Addr
  d_is_escape : FuncData
  f_is_escape : Fun K "is_escape" "is_escape" s_is_escape a_is_escape d_is_escape
  g_is_escape : mg "is_escape" = some (.ref a_is_escape)
  b_is_escape : Binds K d_is_escape ["text", "place"] []
  a_first_plain : Addr
  d_first_plain : FuncData
  f_first_plain : Fun K "first_plain" "first_plain" s_first_plain a_first_plain d_first_plain
  g_first_plain : mg "first_plain" = some (.ref a_first_plain)
  b_first_plain : Binds K d_first_plain ["signs", "text", "place"] []
  a_reference_at : Addr
  d_reference_at : FuncData
  f_reference_at : Fun K "reference_at" "reference_at" s_reference_at a_reference_at d_reference_at
  g_reference_at : mg "reference_at" = some (.ref a_reference_at)
  b_reference_at : Binds K d_reference_at ["text", "place"] []
  a_decoded : Addr
  d_decoded : FuncData
  f_decoded : Fun K "decoded" "decoded" s_decoded a_decoded d_decoded
  g_decoded : mg "decoded" = some (.ref a_decoded)
  b_decoded : Binds K d_decoded ["text"] []
  a_decoded_at : Addr
  d_decoded_at : FuncData
  f_decoded_at : Fun K "decoded_at" "decoded_at" s_decoded_at a_decoded_at d_decoded_at
  g_decoded_at : mg "decoded_at" = some (.ref a_decoded_at)
  b_decoded_at : Binds K d_decoded_at ["text", "place"] []
  a_sign_meant : Addr
  d_sign_meant : FuncData
  f_sign_meant : Fun K "sign_meant" "sign_meant" s_sign_meant a_sign_meant d_sign_meant
  g_sign_meant : mg "sign_meant" = some (.ref a_sign_meant)
  b_sign_meant : Binds K d_sign_meant ["words"] []
  a_number_in : Addr
  d_number_in : FuncData
  f_number_in : Fun K "number_in" "number_in" s_number_in a_number_in d_number_in
  g_number_in : mg "number_in" = some (.ref a_number_in)
  b_number_in : Binds K d_number_in ["digits", "signs", "base"] []
  a_sign_of : Addr
  d_sign_of : FuncData
  f_sign_of : Fun K "sign_of" "sign_of" s_sign_of a_sign_of d_sign_of
  g_sign_of : mg "sign_of" = some (.ref a_sign_of)
  b_sign_of : Binds K d_sign_of ["number"] []
  a_normalised : Addr
  d_normalised : FuncData
  f_normalised : Fun K "normalised" "normalised" s_normalised a_normalised d_normalised
  g_normalised : mg "normalised" = some (.ref a_normalised)
  b_normalised : Binds K d_normalised ["text"] []
  a_is_label_text : Addr
  d_is_label_text : FuncData
  f_is_label_text : Fun K "is_label_text" "is_label_text" s_is_label_text a_is_label_text d_is_label_text
  g_is_label_text : mg "is_label_text" = some (.ref a_is_label_text)
  b_is_label_text : Binds K d_is_label_text ["thing"] []
  a_label_at : Addr
  d_label_at : FuncData
  f_label_at : Fun K "label_at" "label_at" s_label_at a_label_at d_label_at
  g_label_at : mg "label_at" = some (.ref a_label_at)
  b_label_at : Binds K d_label_at ["text", "place"] []
  a_destination_at : Addr
  d_destination_at : FuncData
  f_destination_at : Fun K "destination_at" "destination_at" s_destination_at a_destination_at d_destination_at
  g_destination_at : mg "destination_at" = some (.ref a_destination_at)
  b_destination_at : Binds K d_destination_at ["text", "place"] []
  a_title_at : Addr
  d_title_at : FuncData
  f_title_at : Fun K "title_at" "title_at" s_title_at a_title_at d_title_at
  g_title_at : mg "title_at" = some (.ref a_title_at)
  b_title_at : Binds K d_title_at ["text", "place"] []
  a_enclosed_at : Addr
  d_enclosed_at : FuncData
  f_enclosed_at : Fun K "enclosed_at" "enclosed_at" s_enclosed_at a_enclosed_at d_enclosed_at
  g_enclosed_at : mg "enclosed_at" = some (.ref a_enclosed_at)
  b_enclosed_at : Binds K d_enclosed_at ["barred", "closing", "text", "place"] []
  a_behind_bare : Addr
  d_behind_bare : FuncData
  f_behind_bare : Fun K "behind_bare" "behind_bare" s_behind_bare a_behind_bare d_behind_bare
  g_behind_bare : mg "behind_bare" = some (.ref a_behind_bare)
  b_behind_bare : Binds K d_behind_bare ["text", "place"] []
  a_definition_at : Addr
  d_definition_at : FuncData
  f_definition_at : Fun K "definition_at" "definition_at" s_definition_at a_definition_at d_definition_at
  g_definition_at : mg "definition_at" = some (.ref a_definition_at)
  b_definition_at : Binds K d_definition_at ["text", "place"] []
  a_title_and_line : Addr
  d_title_and_line : FuncData
  f_title_and_line : Fun K "title_and_line" "title_and_line" s_title_and_line a_title_and_line d_title_and_line
  g_title_and_line : mg "title_and_line" = some (.ref a_title_and_line)
  b_title_and_line : Binds K d_title_and_line ["text", "place"] []
  a_behind_line : Addr
  d_behind_line : FuncData
  f_behind_line : Fun K "behind_line" "behind_line" s_behind_line a_behind_line d_behind_line
  g_behind_line : mg "behind_line" = some (.ref a_behind_line)
  b_behind_line : Binds K d_behind_line ["text", "place"] []
  a__law_well : Addr
  d__law_well : FuncData
  f__law_well : Fun K "_law_well" "_law_well" s__law_well a__law_well d__law_well
  g__law_well : mg "_law_well" = some (.ref a__law_well)
  b__law_well : Binds K d__law_well ["_law_cell"] []
  a__law_draw : Addr
  d__law_draw : FuncData
  f__law_draw : Fun K "_law_draw" "_law_draw" s__law_draw a__law_draw d__law_draw
  g__law_draw : mg "_law_draw" = some (.ref a__law_draw)
  b__law_draw : Binds K d__law_draw ["_law_well_here", "_law_many"] []
  a__law_one : Addr
  d__law_one : FuncData
  f__law_one : Fun K "_law_one" "_law_one" s__law_one a__law_one d__law_one
  g__law_one : mg "_law_one" = some (.ref a__law_one)
  b__law_one : Binds K d__law_one ["_law_well_here", "_law_some"] []
  a__law_label : Addr
  d__law_label : FuncData
  f__law_label : Fun K "_law_label" "_law_label" s__law_label a__law_label d__law_label
  g__law_label : mg "_law_label" = some (.ref a__law_label)
  b__law_label : Binds K d__law_label ["_law_well_here"] []
  a__law_gap : Addr
  d__law_gap : FuncData
  f__law_gap : Fun K "_law_gap" "_law_gap" s__law_gap a__law_gap d__law_gap
  g__law_gap : mg "_law_gap" = some (.ref a__law_gap)
  b__law_gap : Binds K d__law_gap ["_law_well_here", "_law_least"] []
  a__law_destination : Addr
  d__law_destination : FuncData
  f__law_destination : Fun K "_law_destination" "_law_destination" s__law_destination a__law_destination d__law_destination
  g__law_destination : mg "_law_destination" = some (.ref a__law_destination)
  b__law_destination : Binds K d__law_destination ["_law_well_here"] []
  a__law_title : Addr
  d__law_title : FuncData
  f__law_title : Fun K "_law_title" "_law_title" s__law_title a__law_title d__law_title
  g__law_title : mg "_law_title" = some (.ref a__law_title)
  b__law_title : Binds K d__law_title ["_law_well_here"] []
  a__law_due : Addr
  d__law_due : FuncData
  f__law_due : Fun K "_law_due" "_law_due" s__law_due a__law_due d__law_due
  g__law_due : mg "_law_due" = some (.ref a__law_due)
  b__law_due : Binds K d__law_due ["_law_text", "_law_at", "_law_label_here", "_law_gap_here", "_law_destination_here", "_law_space", "_law_title_here"] []
  a__law_one_right : Addr
  d__law_one_right : FuncData
  f__law_one_right : Fun K "_law_one_right" "_law_one_right" s__law_one_right a__law_one_right d__law_one_right
  g__law_one_right : mg "_law_one_right" = some (.ref a__law_one_right)
  b__law_one_right : Binds K d__law_one_right ["_law_well_here"] []
  a__law_bounds_right : Addr
  d__law_bounds_right : FuncData
  f__law_bounds_right : Fun K "_law_bounds_right" "_law_bounds_right" s__law_bounds_right a__law_bounds_right d__law_bounds_right
  g__law_bounds_right : mg "_law_bounds_right" = some (.ref a__law_bounds_right)
  b__law_bounds_right : Binds K d__law_bounds_right ["_law_well_here"] []
  z_all : mg "all" = none
  z_int : mg "int" = none
  z_isinstance : mg "isinstance" = none
  z_len : mg "len" = none
  z_range : mg "range" = none
  z_str : mg "str" = none
  t_WHITE : Tok
  g_WHITE : mg "WHITE" = some (.str " \t" t_WHITE)
  t_INLINE_WHITE : Tok
  g_INLINE_WHITE : mg "INLINE_WHITE" = some (.str " \t\n" t_INLINE_WHITE)
  t_PUNCTUATION : Tok
  g_PUNCTUATION : mg "PUNCTUATION" = some (.str "!\"#$&'()*+,-./:;<=>?\x40[\\]^_{|}~`" t_PUNCTUATION)
  a_NAMES : Addr
  g_NAMES : mg "NAMES" = some (.ref a_NAMES)
  k_NAMES : KDictS K w a_NAMES [("amp", .str "&"), ("lt", .str "<"), ("gt", .str ">"), ("quot", .str "\""), ("apos", .str "'"), ("num", .str "#"), ("ast", .str "*"), ("lowbar", .str "_"), ("grave", .str "`"), ("lsqb", .str "["), ("rsqb", .str "]"), ("lpar", .str "("), ("rpar", .str ")"), ("lcub", .str "{"), ("rcub", .str "}"), ("bsol", .str "\\"), ("excl", .str "!"), ("Tab", .str "\t"), ("NewLine", .str "\n")]
  a_SIGN_ROWS : Addr
  (e_SIGN_ROWS_0 e_SIGN_ROWS_1 e_SIGN_ROWS_2 : Addr)
  o_SIGN_ROWS : Option Addr
  n_SIGN_ROWS : Nat
  w_SIGN_ROWS : Array (Option Value)
  g_SIGN_ROWS : mg "SIGN_ROWS" = some (.ref a_SIGN_ROWS)
  l_SIGN_ROWS : K.lookup a_SIGN_ROWS = some ⟨.type "tuple", o_SIGN_ROWS, .seq #[.ref e_SIGN_ROWS_0, .ref e_SIGN_ROWS_1, .ref e_SIGN_ROWS_2] n_SIGN_ROWS, w_SIGN_ROWS⟩
  o_SIGN_ROWS_0 : Option Addr
  n_SIGN_ROWS_0 : Nat
  w_SIGN_ROWS_0 : Array (Option Value)
  (u_SIGN_ROWS_0_0 u_SIGN_ROWS_0_1 : Tok)
  l_SIGN_ROWS_0 : K.lookup e_SIGN_ROWS_0 = some ⟨.type "tuple", o_SIGN_ROWS_0, .seq #[.int 9 u_SIGN_ROWS_0_0, .str "\t\n" u_SIGN_ROWS_0_1] n_SIGN_ROWS_0, w_SIGN_ROWS_0⟩
  o_SIGN_ROWS_1 : Option Addr
  n_SIGN_ROWS_1 : Nat
  w_SIGN_ROWS_1 : Array (Option Value)
  (u_SIGN_ROWS_1_0 u_SIGN_ROWS_1_1 : Tok)
  l_SIGN_ROWS_1 : K.lookup e_SIGN_ROWS_1 = some ⟨.type "tuple", o_SIGN_ROWS_1, .seq #[.int 32 u_SIGN_ROWS_1_0, .str " !\"#$" u_SIGN_ROWS_1_1] n_SIGN_ROWS_1, w_SIGN_ROWS_1⟩
  o_SIGN_ROWS_2 : Option Addr
  n_SIGN_ROWS_2 : Nat
  w_SIGN_ROWS_2 : Array (Option Value)
  (u_SIGN_ROWS_2_0 u_SIGN_ROWS_2_1 : Tok)
  l_SIGN_ROWS_2 : K.lookup e_SIGN_ROWS_2 = some ⟨.type "tuple", o_SIGN_ROWS_2, .seq #[.int 38 u_SIGN_ROWS_2_0, .str "&'()*+,-./0123456789:;<=>?@ABCDEFGHIJKLMNOPQRSTUVWXYZ[\\]^_`abcdefghijklmnopqrstuvwxyz{|}~" u_SIGN_ROWS_2_1] n_SIGN_ROWS_2, w_SIGN_ROWS_2⟩
  t_LONGEST : Tok
  g_LONGEST : mg "LONGEST" = some (.int 10 t_LONGEST)
  t_LONGEST_LABEL : Tok
  g_LONGEST_LABEL : mg "LONGEST_LABEL" = some (.int 999 t_LONGEST_LABEL)
  t_MOST_BRACKETS : Tok
  g_MOST_BRACKETS : mg "MOST_BRACKETS" = some (.int 32 t_MOST_BRACKETS)
  t_BARE_ENDS : Tok
  g_BARE_ENDS : mg "BARE_ENDS" = some (.str " \t\n()" t_BARE_ENDS)
  a_TITLE_SIGNS : Addr
  g_TITLE_SIGNS : mg "TITLE_SIGNS" = some (.ref a_TITLE_SIGNS)
  (e_TITLE_SIGNS_0 e_TITLE_SIGNS_1 e_TITLE_SIGNS_2 : Addr)
  k_TITLE_SIGNS : KDictS K w a_TITLE_SIGNS [("\"", .ref e_TITLE_SIGNS_0), ("'", .ref e_TITLE_SIGNS_1), ("(", .ref e_TITLE_SIGNS_2)]
  o_TITLE_SIGNS_0 : Option Addr
  n_TITLE_SIGNS_0 : Nat
  w_TITLE_SIGNS_0 : Array (Option Value)
  (u_TITLE_SIGNS_0_0 u_TITLE_SIGNS_0_1 : Tok)
  l_TITLE_SIGNS_0 : K.lookup e_TITLE_SIGNS_0 = some ⟨.type "tuple", o_TITLE_SIGNS_0, .seq #[.str "\"" u_TITLE_SIGNS_0_0, .str "\"" u_TITLE_SIGNS_0_1] n_TITLE_SIGNS_0, w_TITLE_SIGNS_0⟩
  o_TITLE_SIGNS_1 : Option Addr
  n_TITLE_SIGNS_1 : Nat
  w_TITLE_SIGNS_1 : Array (Option Value)
  (u_TITLE_SIGNS_1_0 u_TITLE_SIGNS_1_1 : Tok)
  l_TITLE_SIGNS_1 : K.lookup e_TITLE_SIGNS_1 = some ⟨.type "tuple", o_TITLE_SIGNS_1, .seq #[.str "'" u_TITLE_SIGNS_1_0, .str "'" u_TITLE_SIGNS_1_1] n_TITLE_SIGNS_1, w_TITLE_SIGNS_1⟩
  o_TITLE_SIGNS_2 : Option Addr
  n_TITLE_SIGNS_2 : Nat
  w_TITLE_SIGNS_2 : Array (Option Value)
  (u_TITLE_SIGNS_2_0 u_TITLE_SIGNS_2_1 : Tok)
  l_TITLE_SIGNS_2 : K.lookup e_TITLE_SIGNS_2 = some ⟨.type "tuple", o_TITLE_SIGNS_2, .seq #[.str "()" u_TITLE_SIGNS_2_0, .str ")" u_TITLE_SIGNS_2_1] n_TITLE_SIGNS_2, w_TITLE_SIGNS_2⟩
/-! ### the draws -/
def sp__law_well (K : PySem.W.Frag) : Sp := fun vs H Q _ => ∃ n : Int, vs = [.int n] ∧ ∀ p, H p = none → Q (.ref p) (upd H p (.lst [.int n, .int 0]))
theorem ok__law_well {P : Program} {w : World} {K : PySem.W.Frag} {mg : Str → Option Value} {base : Heap} (T : Txt w K mg) : FnOk P w K mg base CX0 1 T.a__law_well T.d__law_well ["_law_cell"] (sp__law_well K) := by
  refine T.f__law_well.ok sc__law_well (fun vs H Q E h => ?_) (fun cdv A outer s H vs Q E hr h => ?_)
  · obtain ⟨n, rfl, _⟩ := h
    rfl
  · obtain ⟨n, rfl, q⟩ := h
    refine ⟨_, (pss_one (ps_ret (pe_lst (pa_cons (pe_callTy call_int1 (by rfl) T.z_int (by decide +kernel) (pa_cons (pv 0) pa_nil)) (pa_cons pe_int pa_nil))))), ?_⟩
    exact ⟨_, rfl, .inl ⟨_, rfl, (by show 2 ≤ sizeLine; decide), fun p hp => q p hp⟩⟩
def sp__law_draw (K : PySem.W.Frag) : Sp := fun vs H Q _ => ∃ (L : Addr) (m : Int), vs = [.ref L, .int m] ∧ 0 < m ∧ m < 1000000 ∧ Well H L ∧
  ∀ H' d, Keeps L H H' → Well H' L → 0 ≤ d → d < m → Q (.int d) H'
theorem ok__law_draw {P : Program} {w : World} {K : PySem.W.Frag} {mg : Str → Option Value} {base : Heap} (T : Txt w K mg) : FnOk P w K mg base CX0 1 T.a__law_draw T.d__law_draw ["_law_well_here", "_law_many"] (sp__law_draw K) := by
  refine T.f__law_draw.ok sc__law_draw (fun vs H Q E h => ?_) (fun cdv A outer s H vs Q E hr h => ?_)
  · obtain ⟨L, m, rfl, _⟩ := h
    rfl
  · obtain ⟨L, m, rfl, hm0, hm1, ⟨x, y, hL⟩, q⟩ := h
    refine ⟨_, (pss_cons (ps_if (pt_cmpR op_ge (pe_ix ix_list (pv 0) pe_int (fun _ _ => rfl)) (pe_op op_pow pe_int pe_int) (nomark _)) (pss_cons (ps_set (i := 2) sc__law_draw.nd rfl (.inl rfl) (pe_op op_mod (pe_callTy call_int1 (by rfl) T.z_int (by decide +kernel) (pa_cons (pe_ix ix_list (pv 0) pe_int (fun _ _ => rfl)) pa_nil)) (pv 1)))
        (pss_cons (ps_asg (pe_op op_fdivW (pe_ix ix_list (pv 0) pe_int (fun _ _ => rfl)) (pv 1)) (pg_sub (pv 0) pe_int set_list))
        (pss_one (ps_ret (pv 2))))) pss_nil)
        (pss_cons (ps_asg (pe_op op_add (pe_ix ix_list (pv 0) pe_int (fun _ _ => rfl)) pe_int) (pg_sub (pv 0) pe_int set_list))
        (pss_cons (ps_set (i := 3) sc__law_draw.nd rfl (.inl rfl) (pe_op op_mod (pe_callTy call_int1 (by rfl) T.z_int (by decide +kernel) (pa_cons (pe_op op_mul (pe_callTy call_int1 (by rfl) T.z_int (by decide +kernel) (pa_cons (pe_op op_add (pe_op op_add (pe_op op_mod (pe_callTy call_int1 (by rfl) T.z_int (by decide +kernel) (pa_cons (pe_ix ix_list (pv 0) pe_int (fun _ _ => rfl)) pa_nil)) pe_int) (pe_op op_mul pe_int (pe_ix ix_list (pv 0) pe_int (fun _ _ => rfl)))) pe_int) pa_nil)) pe_int) pa_nil)) pe_int))
        (pss_cons (ps_set (i := 4) sc__law_draw.nd rfl (.inl rfl) (pe_op op_mod (pe_callTy call_int1 (by rfl) T.z_int (by decide +kernel) (pa_cons (pe_op op_fdivW (pe_ix ix_list (pv 0) pe_int (fun _ _ => rfl)) pe_int) pa_nil)) pe_int))
        (pss_cons (ps_set (i := 3) sc__law_draw.nd rfl (.inl rfl) (pe_op op_mod (pe_callTy call_int1 (by rfl) T.z_int (by decide +kernel) (pa_cons (pe_op op_mul (pv 3) (pe_op op_add (pe_op op_add (pe_op op_fdivW (pv 3) pe_int) pe_int) (pv 4))) pa_nil)) pe_int))
        (pss_one (ps_ret (pe_op op_mod (pe_callTy call_int1 (by rfl) T.z_int (by decide +kernel) (pa_cons (pe_op op_fdivW (pe_op op_mod (pe_callTy call_int1 (by rfl) T.z_int (by decide +kernel) (pa_cons (pe_op op_mul (pv 3) (pe_op op_add (pe_op op_fdivW (pv 3) pe_int) pe_int)) pa_nil)) pe_int) pe_int) pa_nil)) (pv 1))))))))), ?_⟩
    have a0 : ∀ x y : Int, atI [V.int x, V.int y] 0 = some (.int x) := fun x y => atI_nat (j := 0) rfl
    have a1 : ∀ x y : Int, atI [V.int x, V.int y] 1 = some (.int y) := fun x y => atI_nat (j := 1) rfl
    have wd : ∀ i j : Int, 0 < j → j < 10000000000 → CDivW i j := fun i j h1 h2 => wide_div (b := 40) h1 (by omega) (by decide) (by decide)
    refine ⟨_, rfl, L, _, _, _, rfl, rfl, SqL.of hL, a0 x y, _, _, rfl, rfl, (by refine ⟨?_, ?_, ?_⟩ <;> decide), _, _, rfl, rfl, _, rfl, ite2 (fun _ => ?_) (fun _ => ?_)⟩
    · refine ⟨_, rfl, L, _, _, _, rfl, rfl, SqL.of hL, a0 x y, .inl ⟨_, rfl, _, rfl, _, _, rfl, rfl, hm0, ?_⟩⟩
      refine ⟨_, rfl, L, _, _, _, rfl, rfl, SqL.of hL, a0 x y, _, rfl, _, _, rfl, rfl, wd _ _ hm0 (by omega), _, rfl, L, _, _, 0, rfl, rfl, hL, rfl, ?_⟩
      exact ⟨_, rfl, q _ _ .at ⟨_, _, upd_same⟩ (Int.emod_nonneg _ (by omega)) (Int.emod_lt_of_pos _ hm0)⟩
    · -- well[1] = well[1] + 1
      refine ⟨_, rfl, L, _, _, _, rfl, rfl, SqL.of hL, a1 x y, _, _, rfl, rfl, _, rfl, L, _, _, 1, rfl, rfl, hL, rfl, ?_⟩
      have k2 : Keeps L H (upd H L (.lst ([V.int x, V.int y].set 1 (.int (y + 1))))) := .at
      have hL2 : (upd H L (.lst ([V.int x, V.int y].set 1 (.int (y + 1))))) L = some (.lst [V.int x, V.int (y + 1)]) := upd_same
      generalize (upd H L (.lst ([V.int x, V.int y].set 1 (.int (y + 1))))) = H2 at hL2 k2 ⊢
      refine ⟨_, rfl, L, _, _, _, rfl, rfl, SqL.of hL2, a0 _ _, .inl ⟨_, rfl, _, _, rfl, rfl, (by show (0 : Int) < _; decide), _, rfl, L, _, _, _, rfl, rfl, SqL.of hL2, a1 _ _, _, _, rfl, rfl, .inl (by constructor <;> decide), _, _, rfl, rfl, _, _, rfl, rfl,
        .inl ⟨_, rfl, _, _, rfl, rfl, .inr (by constructor <;> decide), .inl ⟨_, rfl, _, _, rfl, rfl, (by show (0 : Int) < _; decide), ?_⟩⟩⟩⟩
      refine ⟨_, rfl, L, _, _, _, rfl, rfl, SqL.of hL2, a0 _ _, _, _, rfl, rfl, wd _ _ (by decide) (by decide), .inl ⟨_, rfl, _, _, rfl, rfl, (by show (0 : Int) < _; decide), ?_⟩⟩
      refine ⟨_, rfl, _, rfl, _, _, rfl, rfl, wd _ _ (by decide) (by decide), _, _, rfl, rfl, _, rfl, _, _, rfl, rfl, _, _, rfl, rfl, .inl (by constructor <;> omega), .inl ⟨_, rfl, _, _, rfl, rfl, (by show (0 : Int) < _; decide), ?_⟩⟩
      refine ⟨_, rfl, _, rfl, _, _, rfl, rfl, wd _ _ (by decide) (by decide), _, _, rfl, rfl, _, _, rfl, rfl, .inl (by constructor <;> omega), .inl ⟨_, rfl, _, _, rfl, rfl, (by show (0 : Int) < _; decide), _, _, rfl, rfl, wd _ _ (by decide) (by decide), .inl ⟨_, rfl, _, rfl, _, _, rfl, rfl, hm0, ?_⟩⟩⟩
      exact q _ _ k2 ⟨_, _, hL2⟩ (Int.emod_nonneg _ (by omega)) (Int.emod_lt_of_pos _ hm0)
def sp__law_one (K : PySem.W.Frag) : Sp := fun vs H Q _ => ∃ (L a : Addr) (xs : List V), vs = [.ref L, .ref a] ∧ SqL K H a xs ∧ a ≠ L ∧ xs ≠ [] ∧ xs.length < 1000000 ∧ Well H L ∧
  ∀ H' v, Keeps L H H' → Well H' L → v ∈ xs → Q v H'
theorem ok__law_one {P : Program} {w : World} {K : PySem.W.Frag} {mg : Str → Option Value} {base : Heap} (T : Txt w K mg) : FnOk P w K mg base CX0 2 T.a__law_one T.d__law_one ["_law_well_here", "_law_some"] (sp__law_one K) := by
  refine T.f__law_one.ok sc__law_one (fun vs H Q E h => ?_) (fun cdv A outer s H vs Q E hr h => ?_)
  · obtain ⟨L, a, xs, rfl, _⟩ := h
    rfl
  · obtain ⟨L, a, xs, rfl, hS, ha, hne, hlen, hW, q⟩ := h
    refine ⟨_, (pss_one (ps_ret (pe_ix ix_list (pv 1) (pe_call (ok__law_draw T) (hr.mono (by decide)) (by rfl) T.g__law_draw T.f__law_draw.kp T.b__law_draw .nil pass0 (pa_cons (pv 0) (pa_cons (pe_callB call_len_seq (by rfl) T.z_len PySem.boot_len (pa_cons (pv 1) pa_nil)) pa_nil))) (fun _ _ => rfl)))), ?_⟩
    have hpos : 0 < xs.length := List.length_pos_iff.mpr hne
    refine ⟨_, rfl, _, rfl, _, rfl, a, xs, rfl, .inl hS, L, _, rfl, by omega, by omega, hW, fun H' d k w h0 h1 => ?_⟩
    obtain ⟨j, rfl⟩ := Int.eq_ofNat_of_zero_le h0
    have hj : j < xs.length := by omega
    exact ⟨a, xs, _, xs[j], rfl, rfl, k.seq ha hS, atI_nat (List.getElem?_eq_getElem hj), q _ _ k w (List.getElem_mem hj)⟩

/-! ### a text and a place -/
theorem mem_S (c : Nat) (l : List Nat) : decide (c ∈ (S l).cps.toList) = l.contains c := by
  rw [S_tl]
  by_cases h : c ∈ l
  · rw [decide_eq_true h]
    simp [h]
  · rw [decide_eq_false h]
    simp [h]
structure TP (t : List Nat) (p : Nat) : Prop where
  le : p ≤ t.length
  sz : t.length ≤ 100000
theorem TP.line {t : List Nat} {p : Nat} (h : TP t p) : (S t).length ≤ sizeLine := by
  have := h.sz
  rw [S_len, sizeLine_eq]
  omega
theorem pre1 {t : List Nat} {p c : Nat} (h : ([c] : List Nat).isPrefixOf (t.drop p) = true) : p < t.length := by
  have := pre_len _ _ h
  rw [List.length_drop] at this
  simp at this
  omega
def Asc (t : List Nat) : Prop := ∀ c ∈ t, c < 128
theorem Asc.drop {t : List Nat} (h : Asc t) (n : Nat) : Asc (t.drop n) := fun c hc => h c (List.mem_of_mem_drop hc)
theorem Asc.take {t : List Nat} (h : Asc t) (n : Nat) : Asc (t.take n) := fun c hc => h c (List.mem_of_mem_take hc)
def iv : Option Nat → V
  | none => .non
  | some n => .int (n : Nat)
def sv : Option Nat → V
  | none => .non
  | some c => .str (S [c])

/-! ### the defs of the references -/
theorem lit_P : ("!\"#$&'()*+,-./:;<=>?\x40[\\]^_{|}~`" : Str) = S PunL := by decide +kernel
theorem lit_bs : ("\\" : Str) = S [92] := by decide +kernel
theorem lit_amp : ("&" : Str) = S [38] := by decide +kernel
theorem lit_semi : (";" : Str) = S [59] := by decide +kernel
theorem lit_hx : ("#x" : Str) = S [35, 120] := by decide +kernel
theorem lit_hX : ("#X" : Str) = S [35, 88] := by decide +kernel
theorem lit_h : ("#" : Str) = S [35] := by decide +kernel
theorem lit_0f : ("0123456789abcdef" : Str) = S HexL := by decide +kernel
theorem lit_09 : ("0123456789" : Str) = S DecL := by decide +kernel
theorem lit_e : ("" : Str) = S [] := by decide +kernel
def sp_is_escape (K : PySem.W.Frag) : Sp := fun vs H Q _ => ∃ (t : List Nat) (p : Nat), vs = [.str (S t), .int (p : Int)] ∧ TP t p ∧ Q (.bl (escR (t.drop p))) H
theorem ok_is_escape {P : Program} {w : World} {K : PySem.W.Frag} {mg : Str → Option Value} {base : Heap} (T : Txt w K mg) : FnOk P w K mg base CX0 1 T.a_is_escape T.d_is_escape ["text", "place"] (sp_is_escape K) := by
  refine T.f_is_escape.ok sc_is_escape (fun vs H Q E h => ?_) (fun cdv A outer s H vs Q E hr h => ?_)
  · obtain ⟨t, p, rfl, _⟩ := h
    rfl
  · obtain ⟨t, p, rfl, tp, q⟩ := h
    refine ⟨_, (pss_one (ps_ret (pe_and (pe_bm PySem.F.plainAttrs_str PySem.F.slot_str_startswith PySem.F.type_str_startswith mt_startswith3 (pv 0) (pa_cons pe_str (pa_cons (pv 1) pa_nil))) (pe_and (pe_cmpR op_lt (pe_op op_add (pv 1) pe_int) (pe_callB call_len_str (by rfl) T.z_len PySem.boot_len (pa_cons (pv 0) pa_nil)) (nomark _)) (pe_one (pe_cmpR op_in_sign (pe_ix ix_str (pv 0) (pe_op op_add (pv 1) pe_int) (fun _ _ => rfl)) (pe_glob (v := .str "!\"#$&'()*+,-./:;<=>?\x40[\\]^_{|}~`") rfl T.g_PUNCTUATION ⟨_, rfl⟩) (by rfl))))))), ?_⟩
    refine ⟨_, rfl, rfl, _, rfl, _, _, _, rfl, rfl, _, rfl, ?_⟩
    rw [lit_bs, starts3 t [92] (by simp) p]
    have en : ∀ {b : Bool}, escR (t.drop p) = b → Q (.bl b) H := fun e => by rw [← e]; exact q
    refine ite2 (fun h1 => ?_) (fun h1 => ?_)
    · have h2 := pre1 h1
      have hd : t.drop p = t[p] :: t.drop (p + 1) := List.drop_eq_getElem_cons h2
      have h0 : t[p] = 92 := by
        rw [hd] at h1
        simp [List.isPrefixOf] at h1
        exact h1.symm
      rw [h0] at hd
      refine ⟨_, rfl, _, _, rfl, rfl, _, rfl, _, rfl, tp.line, _, _, rfl, rfl, _, rfl, ite2 (fun h3 => ?_) (fun h3 => ?_)⟩
      · have h4 : p + 1 < t.length := by
          have := of_decide_eq_true h3
          rw [S_len] at this
          omega
        have hd2 : t.drop (p + 1) = t[p + 1] :: t.drop (p + 2) := List.drop_eq_getElem_cons h4
        refine ⟨_, rfl, _, rfl, _, _, rfl, rfl, _, _, t[p + 1], rfl, rfl, tp.line, atI_nat (j := p + 1) (by rw [S_tl]; exact List.getElem?_eq_getElem h4), t[p + 1], _, rfl, rfl, ?_⟩
        rw [lit_P, mem_S]
        exact en (by rw [hd, hd2]; rfl)
      · have h4 : t.length ≤ p + 1 := by
          have : ¬ ((p : Int) + 1 < ((S t).length : Int)) := fun z => h3 (decide_eq_true z)
          rw [S_len] at this
          omega
        exact en (by rw [hd, List.drop_of_length_le h4]; rfl)
    · refine en ?_
      cases hd : t.drop p with
      | nil => rfl
      | cons a r =>
        cases r with
        | nil => rfl
        | cons b r =>
          rw [hd] at h1
          have : (a == 92) = false := by
            rw [beq_eq_false_iff_ne]
            intro e
            exact h1 (by simp [List.isPrefixOf, e])
          show (a == 92 && PunL.contains b) = false
          rw [this]
          rfl
/-- int(digits, base) -/
theorem lower_in : ∀ {w ds : List Nat}, Asc w → ((S w).cps.toList = w) := fun _ => S_tl _
theorem dec_of0 : ∀ c, c < 128 → DecL.contains (lo1 c) = true → 48 ≤ c ∧ c ≤ 57 := by decide +kernel
theorem dec_of : ∀ c, c < 128 → DecL.contains (lo1 c) = true → IsB 10 c := fun c h1 h2 => by
  unfold IsB
  rw [if_neg (by decide)]
  exact dec_of0 c h1 h2
theorem hex_of0 : ∀ c, c < 128 → HexL.contains (lo1 c) = true → (48 ≤ c ∧ c ≤ 57) ∨ (97 ≤ c ∧ c ≤ 102) ∨ (65 ≤ c ∧ c ≤ 70) := by decide +kernel
theorem hex_of : ∀ c, c < 128 → HexL.contains (lo1 c) = true → IsB 16 c := fun c h1 h2 => by
  unfold IsB
  rw [if_pos (by decide)]
  exact hex_of0 c h1 h2
theorem b_of {B : Nat} {ds : List Nat} (hB : B = 10 ∧ ds = DecL ∨ B = 16 ∧ ds = HexL) {w : List Nat} (ha : Asc w) (h : (w.map lo1).all ds.contains = true) : ∀ c ∈ w, IsB B c := by
  rw [List.all_eq_true] at h
  intro c hc
  have h1 := h (lo1 c) (List.mem_map_of_mem hc)
  rcases hB with ⟨rfl, rfl⟩ | ⟨rfl, rfl⟩
  · exact dec_of c (ha c hc) h1
  · exact hex_of c (ha c hc) h1
def sp_number_in (K : PySem.W.Frag) : Sp := fun vs H Q _ => ∃ (w ds : List Nat) (B : Nat), vs = [.str (S w), .str (S ds), .int (B : Int)] ∧ (B = 10 ∧ ds = DecL ∨ B = 16 ∧ ds = HexL) ∧ w.length ≤ 100 ∧ Asc w ∧
  ∀ H', Same H H' → Q (iv (numR B ds w)) H'
theorem ok_number_in {P : Program} {w : World} {K : PySem.W.Frag} {mg : Str → Option Value} {base : Heap} (T : Txt w K mg) : FnOk P w K mg base CX0 1 T.a_number_in T.d_number_in ["digits", "signs", "base"] (sp_number_in K) := by
  refine T.f_number_in.ok sc_number_in (fun vs H Q E h => ?_) (fun cdv A outer s H vs Q E hr h => ?_)
  · obtain ⟨w, ds, B, rfl, _⟩ := h
    rfl
  · obtain ⟨w, ds, B, rfl, hB, hl, ha, q⟩ := h
    refine ⟨_, (pss_cons (ps_if (PW.pt (pw_or (pt_cmpR op_eq (pv 0) pe_str (nomark _)) (pw_or1 (pt_not (pt_val (pe_callB (cr_all rfl) (by rfl) T.z_all (by decide +kernel) (pa_cons (pe_lc (own := [("digit", 3)]) (g := (gName 3)) (tt := tYes) (by rfl) sc_number_in.nd (pi_str (pe_lower (pv 0))) (blkOk_by (own := [("digit", 3)]) (N := ["digits", "signs", "base", "digit"]) (sc := defScope s_number_in) (by decide +kernel)) (fun _ _ _ _ _ => (pg_name (i := 3) sc_number_in.nd rfl (Or.inl rfl))) (fun _ _ _ _ _ => pts_nil) (fun _ _ _ _ _ => (pe_cmpR op_in_sign (pv 3) (pv 1) (by rfl)))) pa_nil))))))) (pss_one (ps_ret pe_non)) pss_nil)
        (pss_one (ps_ret (pe_callTy call_int_base (by rfl) T.z_int (by decide +kernel) (pa_cons (pv 0) (pa_cons (pv 2) pa_nil)))))), ?_⟩
    refine ⟨_, rfl, rfl, _, rfl, ?_⟩
    rw [lit_e, S_dec]
    by_cases hw : w = []
    · rw [decide_eq_true hw]
      refine iteT (iteT ?_)
      have := q H (Same.refl _)
      unfold numR at this
      rw [if_pos hw] at this
      exact this
    · rw [decide_eq_false hw]
      refine iteF ?_
      refine ⟨_, rfl, ⟨_, rfl⟩, _, rfl, rfl, by rw [S_len]; omega, ?_⟩
      rw [lower_S w ha]
      refine ⟨_, rfl, fun D nD => ?_⟩
      refine lc_it (walk_str (z := S (w.map lo1))) (fun i H' => Same H H' ∧ H' D = some (.lst (((w.map lo1).take i).map fun c => V.bl (ds.contains c)))) ⟨same_new nD, by rw [upd_same]; rfl⟩ (fun _ _ _ _ => trivial) ?_ ?_
      · rintro i x H1 H2 hi ⟨sm, hD⟩ ⟨rfl, c, hc, rfl⟩
        rw [show (S (w.map lo1)).cps[i]? = (w.map lo1)[i]? by simp [S]] at hc
        refine ⟨rfl, _, rfl, _, rfl, c, _, rfl, rfl, ?_⟩
        rw [mem_S]
        refine ⟨_, hD, by rw [List.length_map, List.length_take, List.length_map, sizeLine_eq]; omega, fun b o e => ?_, ?_⟩
        · rw [upd_ne (ne_of_none e nD)]
          exact sm _ _ e
        · rw [upd_same, List.take_add_one, hc]
          simp
      · rintro H1 ⟨sm, hD⟩
        have hn : (S (w.map lo1)).cps.size = (w.map lo1).length := S_size _
        rw [hn, List.take_length] at hD
        refine ⟨D, (w.map lo1).map fun c => ds.contains c, rfl, SqL.of (by rw [List.map_map]; exact hD), ?_⟩
        have e0 : ((w.map lo1).map fun c => ds.contains c).all id = (w.map lo1).all ds.contains := by
          rw [List.all_map]
          rfl
        rw [e0]
        have q' := q H1 sm
        unfold numR at q'
        rw [if_neg hw] at q'
        refine ⟨_, rfl, ?_⟩
        cases hall : (w.map lo1).all ds.contains with
        | false =>
          rw [hall, if_neg Bool.false_ne_true] at q'
          exact iteT q'
        | true =>
          rw [hall, if_pos rfl] at q'
          refine iteF ?_
          have hb := b_of hB ha hall
          exact ⟨_, rfl, _, rfl, w, B, rfl, hB.elim (fun z => .inl z.1) (fun z => .inr z.1), hw, by omega, hb, q'⟩

theorem sq_rows0 {w : World} {K : PySem.W.Frag} {mg : Str → Option Value} (T : Txt w K mg) (H : Hp) : SqT K H T.a_SIGN_ROWS [.ref T.e_SIGN_ROWS_0, .ref T.e_SIGN_ROWS_1, .ref T.e_SIGN_ROWS_2] :=
  .inr ⟨_, _, _, T.l_SIGN_ROWS, rfl, rfl, by (show 3 ≤ sizeLine; decide), (.cons rfl (.cons rfl (.cons rfl .nil)))⟩
def RowsL : List (Nat × List Nat) := [(9, [9, 10]), (32, [32, 33, 34, 35, 36]), (38, (List.range 89).map (· + 38))]
theorem lit_r0 : ("\t\n" : Str) = S [9, 10] := by decide +kernel
theorem lit_r1 : (" !\"#$" : Str) = S [32, 33, 34, 35, 36] := by decide +kernel
theorem lit_r2 : ("&'()*+,-./0123456789:;<=>?@ABCDEFGHIJKLMNOPQRSTUVWXYZ[\\]^_`abcdefghijklmnopqrstuvwxyz{|}~" : Str) = S ((List.range 89).map (· + 38)) := by decide +kernel
theorem sq_row {w : World} {K : PySem.W.Frag} {mg : Str → Option Value} (T : Txt w K mg) (H : Hp) {i : Nat} {x : V} (h : ([.ref T.e_SIGN_ROWS_0, .ref T.e_SIGN_ROWS_1, .ref T.e_SIGN_ROWS_2] : List V)[i]? = some x) :
    ∃ a p, x = .ref a ∧ RowsL[i]? = some p ∧ SqT K H a [.int (p.1 : Nat), .str (S p.2)] := by
  match i, h with
  | 0, h =>
    cases h
    refine ⟨_, _, rfl, rfl, ?_⟩
    rw [← lit_r0]
    exact .inr ⟨_, _, _, T.l_SIGN_ROWS_0, rfl, rfl, by (show 2 ≤ sizeLine; decide), (.cons ⟨_, rfl⟩ (.cons ⟨_, rfl⟩ .nil))⟩
  | 1, h =>
    cases h
    refine ⟨_, _, rfl, rfl, ?_⟩
    rw [← lit_r1]
    exact .inr ⟨_, _, _, T.l_SIGN_ROWS_1, rfl, rfl, by (show 2 ≤ sizeLine; decide), (.cons ⟨_, rfl⟩ (.cons ⟨_, rfl⟩ .nil))⟩
  | 2, h =>
    cases h
    refine ⟨_, _, rfl, rfl, ?_⟩
    rw [← lit_r2]
    exact .inr ⟨_, _, _, T.l_SIGN_ROWS_2, rfl, rfl, by (show 2 ≤ sizeLine; decide), (.cons ⟨_, rfl⟩ (.cons ⟨_, rfl⟩ .nil))⟩
/-- the sign of a number, by the rows from the i-th on -/
def sgnF (n : Nat) : List (Nat × List Nat) → Option Nat
  | [] => none
  | p :: ps => if p.1 ≤ n ∧ n < p.1 + p.2.length then p.2[n - p.1]? else sgnF n ps
theorem sgnF_eq : ∀ n, sgnF n RowsL = sgnR n := by
  intro n
  by_cases h : n < 128
  · have : ∀ n, n < 128 → sgnF n RowsL = sgnR n := by decide +kernel
    exact this n h
  · have e1 : sgnR n = none := by
      unfold sgnR
      rw [if_neg (by omega)]
    rw [e1]
    show (if 9 ≤ n ∧ n < 9 + 2 then _ else if 32 ≤ n ∧ n < 32 + 5 then _ else if 38 ≤ n ∧ n < 38 + ((List.range 89).map (· + 38)).length then _ else none) = none
    rw [if_neg (by omega), if_neg (by omega), if_neg (by rw [List.length_map, List.length_range]; omega)]
def sp_sign_of (K : PySem.W.Frag) : Sp := fun vs H Q _ => ∃ o : Option Nat, vs = [iv o] ∧ Q (sv (o.bind sgnR)) H
theorem ok_sign_of {P : Program} {w : World} {K : PySem.W.Frag} {mg : Str → Option Value} {base : Heap} (T : Txt w K mg) : FnOk P w K mg base CX0 1 T.a_sign_of T.d_sign_of ["number"] (sp_sign_of K) := by
  refine T.f_sign_of.ok sc_sign_of (fun vs H Q E h => ?_) (fun cdv A outer s H vs Q E hr h => ?_)
  · obtain ⟨o, rfl, _⟩ := h
    rfl
  · obtain ⟨o, rfl, q⟩ := h
    refine ⟨_, (pss_cons (ps_if (pt_cmpR op_isN (pv 0) pe_non (nomark _)) (pss_one (ps_ret pe_non)) pss_nil)
        (pss_cons (ps_for PassesOwn.never rfl (pi_tup (pe_glob (v := .ref T.a_SIGN_ROWS) rfl T.g_SIGN_ROWS rfl)) (pg_tup (by rfl) (pgs_cons (pg_name (i := 1) sc_sign_of.nd rfl (.inl rfl)) (pgs_cons (pg_name (i := 2) sc_sign_of.nd rfl (.inl rfl)) pgs_nil))) (pss_one (ps_if (pt_chain op_le op_lt (pv 1) (pv 0) (pe_op op_add (pv 1) (pe_callB call_len_str (by rfl) T.z_len PySem.boot_len (pa_cons (pv 2) pa_nil)))) (pss_one (ps_ret (pe_ix ix_str (pv 2) (pe_op op_sub (pv 0) (pv 1)) (fun _ _ => rfl)))) pss_nil)))
        (pss_one (ps_ret pe_non)))), ?_⟩
    cases o with
    | none => exact ⟨_, rfl, rfl, _, rfl, iteT q⟩
    | some n =>
      refine ⟨_, rfl, rfl, _, rfl, iteF ?_⟩
      have q' : Q (sv (sgnF n RowsL)) H := by rw [sgnF_eq]; exact q
      refine ⟨T.a_SIGN_ROWS, rfl, ⟨_, sq_rows0 T H⟩, for_tup (K := K) (xs := [.ref T.e_SIGN_ROWS_0, .ref T.e_SIGN_ROWS_1, .ref T.e_SIGN_ROWS_2]) (fun i σ H' => H' = H ∧ (∃ v1 v2, σ = [some (.int (n : Nat)), v1, v2]) ∧ sgnF n RowsL = sgnF n (RowsL.drop i)) ⟨rfl, ⟨_, _, rfl⟩, rfl⟩ (fun i σ H' _ h => sq_rows0 T H') ?_ ?_⟩
      · rintro i x σ H' hx ⟨rfl, ⟨v1, v2, rfl⟩, e⟩
        obtain ⟨a, p, rfl, hp, hs⟩ := sq_row T H' hx
        have hd : RowsL.drop i = p :: RowsL.drop (i + 1) := by
          obtain ⟨h1, h2⟩ := List.getElem?_eq_some_iff.mp hp
          rw [List.drop_eq_getElem_cons h1, h2]
        have hlen : p.2.length ≤ 89 := by
          have : ∀ p ∈ RowsL, p.2.length ≤ 89 := by decide +kernel
          exact this p (List.mem_of_getElem? hp)
        have hln : (S p.2).length ≤ sizeLine := by rw [S_len, sizeLine_eq]; omega
        have hstep : sgnF n RowsL = if p.1 ≤ n ∧ n < p.1 + p.2.length then p.2[n - p.1]? else sgnF n (RowsL.drop (i + 1)) := by
          rw [e, hd]
          rfl
        refine ⟨a, _, rfl, hs, rfl, _, _, rfl, _, _, rfl, rfl, ?_⟩
        refine ⟨_, rfl, _, rfl, _, _, rfl, rfl, _, rfl, ite2 (fun h1 => ?_) (fun h1 => ?_)⟩
        · have h1' : p.1 ≤ n := by
            have := of_decide_eq_true h1
            omega
          refine ⟨_, rfl, _, rfl, _, rfl, hln, _, _, rfl, rfl, _, _, rfl, rfl, _, rfl, ite2 (fun h2 => ?_) (fun h2 => ?_)⟩
          · have h2' : n < p.1 + p.2.length := by
              have := of_decide_eq_true h2
              rw [S_len] at this
              omega
            rw [hstep, if_pos ⟨h1', h2'⟩, List.getElem?_eq_getElem (by omega)] at q'
            exact ⟨_, rfl, _, rfl, _, rfl, _, _, rfl, rfl, _, _, p.2[n - p.1]'(by omega), rfl, rfl, hln, by
              have e1 : ((n : Nat) : Int) - (p.1 : Nat) = ((n - p.1 : Nat) : Int) := by omega
              rw [e1]
              exact atI_nat (j := n - p.1) (by rw [S_tl]; exact List.getElem?_eq_getElem (by omega)), q'⟩
          · have h2' : ¬ n < p.1 + p.2.length := fun z => h2 (decide_eq_true (by rw [S_len]; omega))
            refine ⟨rfl, ⟨_, _, rfl⟩, ?_⟩
            rw [hstep, if_neg fun z => h2' z.2]
        · have h1' : ¬ p.1 ≤ n := fun z => h1 (decide_eq_true (by omega))
          refine ⟨_, rfl, iteF ⟨rfl, ⟨_, _, rfl⟩, ?_⟩⟩
          rw [hstep, if_neg fun z => h1' z.1]
      · rintro σ H' ⟨rfl, ⟨v1, v2, rfl⟩, e⟩
        rw [e] at q'
        exact q'


def sp_sign_meant (K : PySem.W.Frag) : Sp := fun vs H Q _ => ∃ w : List Nat, vs = [.str (S w)] ∧ w.length ≤ 100 ∧ Asc w ∧ ∀ H', Same H H' → Q (sv (meantR w)) H'
theorem names_lookup (w : List Nat) : (([("amp", .str "&"), ("lt", .str "<"), ("gt", .str ">"), ("quot", .str "\""), ("apos", .str "'"), ("num", .str "#"), ("ast", .str "*"), ("lowbar", .str "_"), ("grave", .str "`"), ("lsqb", .str "["), ("rsqb", .str "]"), ("lpar", .str "("), ("rpar", .str ")"), ("lcub", .str "{"), ("rcub", .str "}"), ("bsol", .str "\\"), ("excl", .str "!"), ("Tab", .str "\t"), ("NewLine", .str "\n")] : List (Str × V)).lookup (S w)).getD .non = sv (NamesL.lookup w) := by
  have e : ([("amp", .str "&"), ("lt", .str "<"), ("gt", .str ">"), ("quot", .str "\""), ("apos", .str "'"), ("num", .str "#"), ("ast", .str "*"), ("lowbar", .str "_"), ("grave", .str "`"), ("lsqb", .str "["), ("rsqb", .str "]"), ("lpar", .str "("), ("rpar", .str ")"), ("lcub", .str "{"), ("rcub", .str "}"), ("bsol", .str "\\"), ("excl", .str "!"), ("Tab", .str "\t"), ("NewLine", .str "\n")] : List (Str × V)) = NamesL.map fun p => (S p.1, V.str (S [p.2])) := by decide +kernel
  rw [e]
  have gen : ∀ ps : List (List Nat × Nat), ((ps.map fun p => (S p.1, V.str (S [p.2]))).lookup (S w)).getD .non = sv (ps.lookup w) := by
    intro ps
    induction ps with
    | nil => rfl
    | cons p ps ih =>
      rw [List.map_cons, List.lookup_cons, List.lookup_cons]
      by_cases h : w = p.1
      · subst h
        rw [beq_self_eq_true, beq_self_eq_true]
        rfl
      · rw [beq_eq_false_iff_ne.mpr h, beq_eq_false_iff_ne.mpr fun z => h (S_inj z)]
        exact ih
  exact gen NamesL
theorem ok_sign_meant {P : Program} {w : World} {K : PySem.W.Frag} {mg : Str → Option Value} {base : Heap} (T : Txt w K mg) : FnOk P w K mg base CX0 2 T.a_sign_meant T.d_sign_meant ["words"] (sp_sign_meant K) := by
  refine T.f_sign_meant.ok sc_sign_meant (fun vs H Q E h => ?_) (fun cdv A outer s H vs Q E hr h => ?_)
  · obtain ⟨w, rfl, _⟩ := h
    rfl
  · obtain ⟨w, rfl, hl, ha, q⟩ := h
    refine ⟨_, (pss_cons (ps_if (PW.pt (pw_or (pt_val (pe_bm PySem.F.plainAttrs_str PySem.F.slot_str_startswith PySem.F.type_str_startswith mt_startswith (pv 0) (pa_cons pe_str pa_nil))) (pw_or1 (pt_val (pe_bm PySem.F.plainAttrs_str PySem.F.slot_str_startswith PySem.F.type_str_startswith mt_startswith (pv 0) (pa_cons pe_str pa_nil)))))) (pss_one (ps_ret (pe_call (ok_sign_of T) (hr.mono (by decide)) (by rfl) T.g_sign_of T.f_sign_of.kp T.b_sign_of .nil pass0 (pa_cons (pe_call (ok_number_in T) (hr.mono (by decide)) (by rfl) T.g_number_in T.f_number_in.kp T.b_number_in .nil pass0 (pa_cons (pe_slice sl_str (pv 0) (po_some pe_int) po_none) (pa_cons pe_str (pa_cons pe_int pa_nil)))) pa_nil)))) pss_nil)
        (pss_cons (ps_if (pt_val (pe_bm PySem.F.plainAttrs_str PySem.F.slot_str_startswith PySem.F.type_str_startswith mt_startswith (pv 0) (pa_cons pe_str pa_nil))) (pss_one (ps_ret (pe_call (ok_sign_of T) (hr.mono (by decide)) (by rfl) T.g_sign_of T.f_sign_of.kp T.b_sign_of .nil pass0 (pa_cons (pe_call (ok_number_in T) (hr.mono (by decide)) (by rfl) T.g_number_in T.f_number_in.kp T.b_number_in .nil pass0 (pa_cons (pe_slice sl_str (pv 0) (po_some pe_int) po_none) (pa_cons pe_str (pa_cons pe_int pa_nil)))) pa_nil)))) pss_nil)
        (pss_one (ps_ret (pe_kget T.k_NAMES (pe_glob (v := .ref T.a_NAMES) rfl T.g_NAMES rfl) (pv 0) ⟨rfl, rfl, rfl, rfl⟩))))), ?_⟩
    have hln : (S w).length ≤ sizeLine := by rw [S_len, sizeLine_eq]; omega
    have fin2 : ∀ (B k : Nat) (ds : List Nat), (B = 10 ∧ ds = DecL ∨ B = 16 ∧ ds = HexL) → sv (meantR w) = sv ((numR B ds (w.drop k)).bind sgnR) → tCall (sp_sign_of K) [] E0 (tCons (tCall (sp_number_in K) [] E0 (tCons (tSl rSlS (tVar 0) (tPart (tC (.int (k : Int)))) tNoPart) (tCons (tC (.str (S ds))) (tCons (tC (.int (B : Int))) tNil)))) tNil) [some (.str (S w))] H Q := by
      intro B k ds hB e
      refine ⟨_, rfl, _, rfl, _, rfl, hln, ?_⟩
      rw [S_cut]
      refine ⟨w.drop k, ds, B, rfl, hB, by rw [List.length_drop]; omega, ha.drop k, fun H1 s1 => ⟨_, rfl, ?_⟩⟩
      rw [← e]
      exact q H1 s1
    have em : ∀ b, ([35, 120].isPrefixOf w || [35, 88].isPrefixOf w) = b → meantR w = if b = true then (numR 16 HexL (w.drop 2)).bind sgnR else if [35].isPrefixOf w then (numR 10 DecL (w.drop 1)).bind sgnR else NamesL.lookup w := fun b e => by
      unfold meantR
      rw [e]
    refine ⟨_, rfl, rfl, _, _, rfl, rfl, _, rfl, ?_⟩
    rw [lit_hx, starts1 w [35, 120] (by simp)]
    have yes : ([35, 120].isPrefixOf w || [35, 88].isPrefixOf w) = true → tCall (sp_sign_of K) [] E0 (tCons (tCall (sp_number_in K) [] E0 (tCons (tSl rSlS (tVar 0) (tPart (tC (.int (2 : Int)))) tNoPart) (tCons (tC (.str ("0123456789abcdef" : Str))) (tCons (tC (.int (16 : Int))) tNil)))) tNil) [some (.str (S w))] H Q := fun e => by
      rw [lit_0f]
      exact fin2 16 2 HexL (.inr ⟨rfl, rfl⟩) (by rw [em _ e, if_pos rfl])
    refine ite2 (fun h1 => iteT (yes (by rw [h1]; rfl))) (fun h1 => ?_)
    refine ⟨_, rfl, rfl, _, _, rfl, rfl, _, rfl, ?_⟩
    rw [lit_hX, starts1 w [35, 88] (by simp)]
    refine ite2 (fun h2 => yes (by rw [h2, Bool.or_true])) (fun h2 => ?_)
    have e := em false (by rw [eq_false_of_ne_true h1, eq_false_of_ne_true h2]; rfl)
    rw [if_neg Bool.false_ne_true] at e
    refine ⟨_, rfl, rfl, _, _, rfl, rfl, _, rfl, ?_⟩
    rw [show Txt.startswith (S w) ("#" : Str) = [35].isPrefixOf w by rw [lit_h]; exact starts1 w [35] (by simp)]
    refine ite2 (fun h3 => ?_) (fun h3 => ?_)
    · show tCall _ _ _ _ _ _ _
      rw [lit_09]
      exact fin2 10 1 DecL (.inl ⟨rfl, rfl⟩) (by rw [e, if_pos h3])
    · rw [if_neg h3] at e
      refine ⟨rfl, _, rfl, _, rfl, ?_⟩
      rw [names_lookup, ← e]
      exact q H (Same.refl _)
/-- a place and a sign -/
def RefV (H : Hp) (v : V) (p : Nat) : Option (Nat × Nat) → Prop
  | none => v = .non
  | some (k, c) => ∃ r, v = .ref r ∧ H r = some (.tup [.int ((p + k : Nat) : Int), .str (S [c])])
def sp_reference_at (K : PySem.W.Frag) : Sp := fun vs H Q _ => ∃ (t : List Nat) (p : Nat), vs = [.str (S t), .int (p : Int)] ∧ TP t p ∧ Asc t ∧ ∀ H' v, Same H H' → RefV H' v p (refR (t.drop p)) → Q v H'
theorem ok_reference_at {P : Program} {w : World} {K : PySem.W.Frag} {mg : Str → Option Value} {base : Heap} (T : Txt w K mg) : FnOk P w K mg base CX0 3 T.a_reference_at T.d_reference_at ["text", "place"] (sp_reference_at K) := by
  refine T.f_reference_at.ok sc_reference_at (fun vs H Q E h => ?_) (fun cdv A outer s H vs Q E hr h => ?_)
  · obtain ⟨t, p, rfl, _⟩ := h
    rfl
  · obtain ⟨t, p, rfl, tp, ha, q⟩ := h
    refine ⟨_, (pss_cons (ps_if (pt_not (pt_val (pe_bm PySem.F.plainAttrs_str PySem.F.slot_str_startswith PySem.F.type_str_startswith mt_startswith3 (pv 0) (pa_cons pe_str (pa_cons (pv 1) pa_nil))))) (pss_one (ps_ret pe_non)) pss_nil)
        (pss_cons (ps_set (i := 2) sc_reference_at.nd rfl (.inl rfl) (pe_bm PySem.F.plainAttrs_str PySem.F.slot_str_find PySem.F.type_str_find mt_find4 (pv 0) (pa_cons pe_str (pa_cons (pv 1) (pa_cons (pe_op op_add (pv 1) (pe_glob (v := .int 10) rfl T.g_LONGEST ⟨_, rfl⟩)) pa_nil)))))
        (pss_cons (ps_if (pt_cmpR op_lt (pv 2) pe_int (nomark _)) (pss_one (ps_ret pe_non)) pss_nil)
        (pss_cons (ps_set (i := 3) sc_reference_at.nd rfl (.inl rfl) (pe_call (ok_sign_meant T) (hr.mono (by decide)) (by rfl) T.g_sign_meant T.f_sign_meant.kp T.b_sign_meant .nil pass0 (pa_cons (pe_slice sl_str (pv 0) (po_some (pe_op op_add (pv 1) pe_int)) (po_some (pv 2))) pa_nil)))
        (pss_cons (ps_if (pt_cmpR op_isN (pv 3) pe_non (nomark _)) (pss_one (ps_ret pe_non)) pss_nil)
        (pss_one (ps_ret (pe_tup (pa_cons (pe_op op_add (pv 2) pe_int) (pa_cons (pv 3) pa_nil)))))))))), ?_⟩
    refine ⟨_, rfl, rfl, _, rfl, _, _, _, rfl, rfl, _, rfl, ?_⟩
    rw [lit_amp, starts3 t [38] (by simp) p]
    cases h1 : ([38] : List Nat).isPrefixOf (t.drop p) with
    | false =>
      refine iteT (q H .non (Same.refl _) ?_)
      unfold refR
      rw [h1, if_neg Bool.false_ne_true]
      rfl
    | true =>
      refine iteF ?_
      refine ⟨_, rfl, rfl, _, rfl, _, rfl, _, _, rfl, rfl, _, _, _, _, rfl, rfl, ?_⟩
      rw [lit_semi]
      have e3 := findIn_S t [59] (by simp) p 10
      have ec : ((p + 10 : Nat) : Int) = (p : Int) + 10 := by omega
      rw [ec] at e3
      have er : refR (t.drop p) = match findL [59] ((t.drop p).take 10) with | none => none | some k => (meantR (((t.drop p).drop 1).take (k - 1))).map fun c => (k + 1, c) := by
        unfold refR
        rw [h1, if_pos rfl]
        try rfl
      cases hf : findL [59] ((t.drop p).take 10) with
      | none =>
        rw [hf] at er e3
        rw [show Txt.findIn (S t) (S [59]) (p : Int) ((p : Int) + 10) = -1 from e3]
        refine ⟨_, rfl, _, _, rfl, rfl, _, rfl, iteT (q H .non (Same.refl _) ?_)⟩
        rw [er]
        rfl
      | some k =>
        rw [hf] at er e3
        rw [show Txt.findIn (S t) (S [59]) (p : Int) ((p : Int) + 10) = ((p + k : Nat) : Int) from e3]
        refine ⟨_, rfl, _, _, rfl, rfl, _, rfl, ?_⟩
        rw [decide_eq_false (by omega)]
        refine iteF ?_
        have hk : 1 ≤ k := by
          cases k with
          | zero =>
            have h4 := (findL_some (by simp) hf).1
            cases hd : t.drop p with
            | nil => rw [hd] at h1; cases h1
            | cons a r =>
              rw [hd] at h1 h4
              have h5 : ((38 : Nat) == a && ([] : List Nat).isPrefixOf r) = true := h1
              have h6 : ((59 : Nat) == a && ([] : List Nat).isPrefixOf (r.take 9)) = true := h4
              have h7 := eq_of_beq (Bool.and_eq_true_iff.mp h5).1
              have h8 := eq_of_beq (Bool.and_eq_true_iff.mp h6).1
              omega
          | succ k => omega
        have hk9 : k ≤ 10 := by
          have h4 := pre_len _ _ (findL_some (by simp) hf).1
          rw [List.length_drop, List.length_take] at h4
          simp at h4
          omega
        refine ⟨_, rfl, _, rfl, _, _, rfl, rfl, _, rfl, _, rfl, _, rfl, _, rfl, tp.line, ?_⟩
        rw [show (p : Int) + 1 = ((p + 1 : Nat) : Int) by omega, S_cut2 t (p + 1) (p + k) (by omega), show p + k - (p + 1) = k - 1 by omega, ← List.drop_drop]
        refine ⟨_, rfl, by rw [List.length_take]; omega, ((ha.drop p).drop 1).take _, fun H1 s1 => ?_⟩
        have er2 : refR (t.drop p) = (meantR (((t.drop p).drop 1).take (k - 1))).map fun c => (k + 1, c) := er
        cases hm : meantR (((t.drop p).drop 1).take (k - 1)) with
        | none =>
          rw [hm] at er2
          refine ⟨_, rfl, rfl, _, rfl, iteT (q H1 .non s1 ?_)⟩
          rw [er2]
          rfl
        | some c =>
          rw [hm] at er2
          refine ⟨_, rfl, rfl, _, rfl, iteF ?_⟩
          refine ⟨_, rfl, _, _, rfl, rfl, _, rfl, by show 2 ≤ sizeLine; decide, fun r nr => ?_⟩
          refine q _ _ (s1.trans (same_new nr)) ?_
          rw [er2]
          exact ⟨r, rfl, by rw [upd_same]; congr 3⟩

def sp_decoded_at (K : PySem.W.Frag) : Sp := fun vs H Q _ => ∃ (t : List Nat) (p : Nat), vs = [.str (S t), .int (p : Int)] ∧ p < t.length ∧ t.length ≤ 100000 ∧ Asc t ∧
  ∀ H' r, Same H H' → H' r = some (.tup [.int ((p + (stepR (t.drop p)).1 : Nat) : Int), .str (S [(stepR (t.drop p)).2])]) → Q (.ref r) H'
theorem ok_decoded_at {P : Program} {w : World} {K : PySem.W.Frag} {mg : Str → Option Value} {base : Heap} (T : Txt w K mg) : FnOk P w K mg base CX0 4 T.a_decoded_at T.d_decoded_at ["text", "place"] (sp_decoded_at K) := by
  refine T.f_decoded_at.ok sc_decoded_at (fun vs H Q E h => ?_) (fun cdv A outer s H vs Q E hr h => ?_)
  · obtain ⟨t, p, rfl, _⟩ := h
    rfl
  · obtain ⟨t, p, rfl, hp, hl, ha, q⟩ := h
    refine ⟨_, (pss_cons (ps_if (pt_val (pe_call (ok_is_escape T) (hr.mono (by decide)) (by rfl) T.g_is_escape T.f_is_escape.kp T.b_is_escape .nil pass0 (pa_cons (pv 0) (pa_cons (pv 1) pa_nil)))) (pss_one (ps_ret (pe_tup (pa_cons (pe_op op_add (pv 1) pe_int) (pa_cons (pe_ix ix_str (pv 0) (pe_op op_add (pv 1) pe_int) (fun _ _ => rfl)) pa_nil))))) pss_nil)
        (pss_cons (ps_set (i := 2) sc_decoded_at.nd rfl (.inl rfl) (pe_call (ok_reference_at T) (hr.mono (by decide)) (by rfl) T.g_reference_at T.f_reference_at.kp T.b_reference_at .nil pass0 (pa_cons (pv 0) (pa_cons (pv 1) pa_nil))))
        (pss_cons (ps_if (pt_cmpR op_isN (pv 2) pe_non (nomark _)) (pss_one (ps_ret (pe_tup (pa_cons (pe_op op_add (pv 1) pe_int) (pa_cons (pe_ix ix_str (pv 0) (pv 1) (fun _ _ => rfl)) pa_nil))))) pss_nil)
        (pss_one (ps_ret (pv 2)))))), ?_⟩
    have tp : TP t p := ⟨by omega, hl⟩
    have hd : t.drop p = t[p] :: t.drop (p + 1) := List.drop_eq_getElem_cons hp
    have es : stepR (t.drop p) = if escR (t.drop p) = true then (2, (t.drop (p + 1)).headD 0) else match refR (t.drop p) with | some x => x | none => (1, t[p]) := by
      rw [hd]
      rfl
    refine ⟨_, rfl, _, rfl, _, _, rfl, tp, ?_⟩
    refine ⟨_, rfl, ?_⟩
    cases he : escR (t.drop p) with
    | true =>
      rw [he, if_pos rfl] at es
      have h2 : p + 1 < t.length := by
        by_cases h2 : p + 1 < t.length
        · exact h2
        · exfalso
          rw [hd, List.drop_of_length_le (by omega)] at he
          cases he
      have hd2 : t.drop (p + 1) = t[p + 1] :: t.drop (p + 2) := List.drop_eq_getElem_cons h2
      refine iteT ⟨_, rfl, _, _, rfl, rfl, _, rfl, _, rfl, _, _, rfl, rfl, _, _, t[p + 1], rfl, rfl, tp.line, atI_nat (j := p + 1) (by rw [S_tl]; exact List.getElem?_eq_getElem h2), by show 2 ≤ sizeLine; decide, fun r nr => ?_⟩
      refine q _ r (same_new nr) ?_
      rw [es, upd_same, hd2]
      congr 3
    | false =>
      rw [he, if_neg Bool.false_ne_true] at es
      refine iteF ⟨_, rfl, _, rfl, t, p, rfl, tp, ha, fun H1 v s1 hv => ?_⟩
      cases href : refR (t.drop p) with
      | none =>
        rw [href] at es hv
        have hv' : v = .non := hv
        subst hv'
        refine ⟨_, rfl, rfl, _, rfl, iteT ⟨_, rfl, _, _, rfl, rfl, _, rfl, _, rfl, _, _, t[p], rfl, rfl, tp.line, atI_nat (j := p) (by rw [S_tl]; exact List.getElem?_eq_getElem hp), by show 2 ≤ sizeLine; decide, fun r nr => ?_⟩⟩
        refine q _ r (s1.trans (same_new nr)) ?_
        rw [es, upd_same]
        congr 3
      | some x =>
        obtain ⟨k, c⟩ := x
        rw [href] at es hv
        obtain ⟨r, rfl, hr2⟩ := hv
        refine ⟨_, rfl, rfl, _, rfl, iteF ⟨_, rfl, ?_⟩⟩
        refine q _ r s1 ?_
        rw [es]
        exact hr2

theorem sum_ones : ∀ l : List Nat, (((l.map fun c => [c]).map S).map (·.length)).sum = l.length
  | [] => rfl
  | c :: l => by
    have ih := sum_ones l
    rw [List.map_cons, List.map_cons, List.map_cons, List.sum_cons, ih, S_len, List.length_cons, List.length_cons]
    simp
    omega
theorem decR_len : ∀ (n : Nat) (l : List Nat), l.length ≤ n → (decR l).length ≤ l.length := by
  intro n
  induction n with
  | zero =>
    intro l h
    have : l = [] := List.eq_nil_of_length_eq_zero (by omega)
    subst this
    exact Nat.le_refl _
  | succ n ih =>
    intro l h
    cases l with
    | nil => exact Nat.le_refl _
    | cons a r =>
      rw [decR_cons, List.length_cons]
      have hp := stepR_pos a r
      have := ih ((a :: r).drop (stepR (a :: r)).1) (by rw [List.length_drop]; omega)
      rw [List.length_drop] at this
      omega
def sp_decoded (K : PySem.W.Frag) : Sp := fun vs H Q _ => ∃ t : List Nat, vs = [.str (S t)] ∧ t.length ≤ 100000 ∧ Asc t ∧ ∀ H', Same H H' → Q (.str (S (decR t))) H'
theorem ok_decoded {P : Program} {w : World} {K : PySem.W.Frag} {mg : Str → Option Value} {base : Heap} (T : Txt w K mg) : FnOk P w K mg base CX0 5 T.a_decoded T.d_decoded ["text"] (sp_decoded K) := by
  refine T.f_decoded.ok sc_decoded (fun vs H Q E h => ?_) (fun cdv A outer s H vs Q E hr h => ?_)
  · obtain ⟨t, rfl, _⟩ := h
    rfl
  · obtain ⟨t, rfl, hl, ha, q⟩ := h
    refine ⟨_, (pss_cons (ps_set (i := 1) sc_decoded.nd rfl (.inl rfl) (pe_lst pa_nil))
        (pss_cons (ps_set (i := 2) sc_decoded.nd rfl (.inl rfl) pe_int)
        (pss_cons (ps_while PassesOwn.never (pt_cmpR op_lt (pv 2) (pe_callB call_len_str (by rfl) T.z_len PySem.boot_len (pa_cons (pv 0) pa_nil)) (nomark _)) (pss_cons (ps_asg (pe_call (ok_decoded_at T) (hr.mono (by decide)) (by rfl) T.g_decoded_at T.f_decoded_at.kp T.b_decoded_at .nil pass0 (pa_cons (pv 0) (pa_cons (pv 2) pa_nil))) (pg_tup (by rfl) (pgs_cons (pg_name (i := 2) sc_decoded.nd rfl (.inl rfl)) (pgs_cons (pg_name (i := 3) sc_decoded.nd rfl (.inl rfl)) pgs_nil))))
        (pss_one (ps_expr (pe_bm PySem.F.plainAttrs_list PySem.F.slot_list_append PySem.F.type_list_append mt_append (pv 1) (pa_cons (pv 3) pa_nil))))))
        (pss_one (ps_ret (pe_join pe_str (pv 1))))))), ?_⟩
    have hln : (S t).length ≤ sizeLine := by rw [S_len, sizeLine_eq]; omega
    refine ⟨by show 0 ≤ sizeLine; decide, fun D nD => ?_⟩
    refine ⟨fun m σ H' => ∃ (k : Nat) (acc : List Nat) (v3 : Option V), σ = [some (.str (S t)), some (.ref D), some (.int (k : Int)), v3] ∧ Same H H' ∧ H' D = some (.lst (acc.map fun c => V.str (S [c]))) ∧ m = t.length - k ∧ k ≤ t.length ∧ decR t = acc ++ decR (t.drop k) ∧ acc.length ≤ k, ⟨t.length, 0, [], none, rfl, same_new nD, upd_same, rfl, Nat.zero_le _, rfl, Nat.zero_le _⟩, ?_⟩
    rintro m σ H1 ⟨k, acc, v3, rfl, sm, hD, rfl, hk, e, hacc⟩
    refine ⟨_, rfl, _, rfl, _, rfl, hln, _, _, rfl, rfl, _, rfl, ite2 (fun h1 => ?_) (fun h1 => ?_)⟩
    · have h2 : k < t.length := by
        have := of_decide_eq_true h1
        rw [S_len] at this
        omega
      have hd : t.drop k = t[k] :: t.drop (k + 1) := List.drop_eq_getElem_cons h2
      have hp := stepR_pos t[k] (t.drop (k + 1))
      rw [← hd, List.length_drop] at hp
      have e2 : decR (t.drop k) = (stepR (t.drop k)).2 :: decR (t.drop (k + (stepR (t.drop k)).1)) := by
        have := decR_cons t[k] (t.drop (k + 1))
        rw [← hd, List.drop_drop] at this
        exact this
      refine ⟨fun σ' H' => ∃ (k' : Nat) (acc' : List Nat) (v3 : Option V), σ' = [some (.str (S t)), some (.ref D), some (.int (k' : Int)), v3] ∧ Same H H' ∧ H' D = some (.lst (acc'.map fun c => V.str (S [c]))) ∧ k < k' ∧ k' ≤ t.length ∧ decR t = acc' ++ decR (t.drop k') ∧ acc'.length ≤ k', ?_, ?_⟩
      · rintro σ' H' ⟨k', acc', v3', rfl, sm', hD', hkk, hk', e', hacc'⟩
        exact ⟨t.length - k', by omega, k', acc', v3', rfl, sm', hD', rfl, hk', e', hacc'⟩
      · refine ⟨_, rfl, _, rfl, t, k, rfl, h2, hl, ha, fun H2 r s2 hr2 => ?_⟩
        have hD2 := s2 _ _ hD
        refine ⟨r, _, rfl, SqT.of hr2, rfl, _, _, rfl, _, _, rfl, rfl, ?_⟩
        refine ⟨_, rfl, .inl ⟨rfl, _, SqL.of hD2⟩, _, rfl, D, _, _, rfl, rfl, hD2, by rw [List.length_map, sizeLine_eq]; omega, ?_⟩
        refine ⟨k + (stepR (t.drop k)).1, acc ++ [(stepR (t.drop k)).2], _, rfl, fun b o hb => ?_, ?_, by omega, by omega, ?_, ?_⟩
        · rw [upd_ne (ne_of_none hb nD)]
          exact s2 _ _ (sm _ _ hb)
        · rw [upd_same]
          simp
        · rw [e, e2]
          simp
        · rw [List.length_append, List.length_singleton]
          omega
    · have h2 : t.length ≤ k := by
        have : ¬ ((k : Int) < ((S t).length : Int)) := fun z => h1 (decide_eq_true z)
        rw [S_len] at this
        omega
      have e3 : decR t = acc := by
        rw [e, List.drop_of_length_le h2]
        simp [decR_nil]
      have eD : (acc.map fun c => V.str (S [c])) = ((acc.map fun c => [c]).map S).map V.str := by simp
      rw [eD] at hD
      refine ⟨⟨_, rfl⟩, _, rfl, _, D, _, rfl, rfl, .inl (SqL.of hD), ?_, ?_⟩
      · rw [sum_ones]
        have e0 : (("" : Str)).length = 0 := by decide +kernel
        rw [e0]
        omega
      · rw [lit_e, My.join_nil]
        have := q H1 sm
        rw [e3] at this
        have e4 : (acc.map fun c => [c]).flatten = acc := by
          clear e3 e hacc this hD eD
          induction acc with
          | nil => rfl
          | cons a r ih => rw [List.map_cons, List.flatten_cons, ih]; rfl
        rw [e4]
        exact this

/-! ### the defs of the places -/
theorem lit_G : (" \t\n" : Str) = S GapL := by decide +kernel
def sp_behind_sign (K : PySem.W.Frag) : Sp := fun vs H Q _ => ∃ (c : Nat) (t : List Nat) (p : Nat), vs = [.str (S [c]), .str (S t), .int (p : Int)] ∧ TP t p ∧ Q (ov t (signR c (t.drop p))) H
theorem ok_behind_sign {P : Program} {w : World} {K : PySem.W.Frag} {mg : Str → Option Value} {base : Heap} (T : Txt w K mg) : FnOk P w K mg base CX0 1 T.a_behind_sign T.d_behind_sign ["sign", "text", "place"] (sp_behind_sign K) := by
  refine T.f_behind_sign.ok sc_behind_sign (fun vs H Q E h => ?_) (fun cdv A outer s H vs Q E hr h => ?_)
  · obtain ⟨c, t, p, rfl, _⟩ := h
    rfl
  · obtain ⟨c, t, p, rfl, tp, q⟩ := h
    refine ⟨_, (pss_cons (ps_if (pt_val (pe_bm PySem.F.plainAttrs_str PySem.F.slot_str_startswith PySem.F.type_str_startswith mt_startswith3 (pv 1) (pa_cons (pv 0) (pa_cons (pv 2) pa_nil)))) (pss_one (ps_ret (pe_op op_add (pv 2) pe_int))) pss_nil)
        (pss_one (ps_ret pe_non))), ?_⟩
    refine ⟨_, rfl, rfl, _, rfl, _, rfl, _, _, _, rfl, rfl, _, rfl, ?_⟩
    rw [starts3 t [c] (by simp) p]
    unfold signR at q
    refine ite2 (fun h1 => ?_) (fun h1 => ?_)
    · rw [if_pos h1] at q
      have h2 := pre1 h1
      refine ⟨_, rfl, _, _, rfl, rfl, ?_⟩
      have e : pos t ((t.drop p).drop 1) = p + 1 := by
        rw [List.drop_drop]
        exact drop_pos h2
      have q' : Q (.int (pos t ((t.drop p).drop 1) : Nat)) H := q
      rw [e] at q'
      exact q'
    · rw [if_neg h1] at q
      exact q
def sp_behind_all (K : PySem.W.Frag) : Sp := fun vs H Q _ => ∃ (w t : List Nat) (p : Nat), vs = [.str (S w), .str (S t), .int (p : Int)] ∧ TP t p ∧ Q (.int (pos t (ba w (t.drop p)) : Nat)) H
theorem ok_behind_all {P : Program} {w : World} {K : PySem.W.Frag} {mg : Str → Option Value} {base : Heap} (T : Txt w K mg) : FnOk P w K mg base CX0 1 T.a_behind_all T.d_behind_all ["signs", "text", "place"] (sp_behind_all K) := by
  refine T.f_behind_all.ok sc_behind_all (fun vs H Q E h => ?_) (fun cdv A outer s H vs Q E hr h => ?_)
  · obtain ⟨w, t, p, rfl, _⟩ := h
    rfl
  · obtain ⟨w, t, p, rfl, tp, q⟩ := h
    refine ⟨_, (pss_cons (ps_while PassesOwn.never (PW.pt (pw_and (pt_cmpR op_lt (pv 2) (pe_callB call_len_str (by rfl) T.z_len PySem.boot_len (pa_cons (pv 1) pa_nil)) (nomark _)) (pw_and1 (pt_cmpR op_in_sign (pe_ix ix_str (pv 1) (pv 2) (fun _ _ => rfl)) (pv 0) (by rfl))))) (pss_one (ps_aug (i := 2) sc_behind_all.nd rfl (.inl rfl) pe_int ip_add)))
        (pss_one (ps_ret (pv 2)))), ?_⟩
    refine ⟨fun m σ H' => ∃ k : Nat, σ = [some (.str (S w)), some (.str (S t)), some (.int (k : Int))] ∧ H = H' ∧ m = t.length - k ∧ k ≤ t.length ∧ ba w (t.drop k) = ba w (t.drop p), ⟨t.length - p, p, rfl, rfl, rfl, tp.le, rfl⟩, ?_⟩
    rintro m σ H' ⟨k, rfl, rfl, rfl, hk, e⟩
    have fin : (¬ ∃ c r, t.drop k = c :: r ∧ w.contains c = true) → Q (.int (k : Nat)) H := by
      intro hno
      have e1 : ba w (t.drop k) = t.drop k := by
        cases hd : t.drop k with
        | nil => rfl
        | cons c r =>
          unfold ba
          rw [List.dropWhile_cons, if_neg (fun z => hno ⟨c, r, hd, z⟩)]
      rw [e1] at e
      rw [← e, drop_pos hk] at q
      exact q
    refine ⟨_, rfl, _, rfl, _, rfl, tp.line, _, _, rfl, rfl, _, rfl, ite2 (fun h1 => ?_) (fun h1 => ?_)⟩
    · have h2 : k < t.length := by
        have := of_decide_eq_true h1
        rw [S_len] at this
        omega
      have hd : t.drop k = t[k] :: t.drop (k + 1) := List.drop_eq_getElem_cons h2
      refine ⟨_, rfl, _, rfl, _, _, t[k], rfl, rfl, tp.line, atI_nat (by rw [S_tl]; exact List.getElem?_eq_getElem h2), _, rfl, t[k], _, rfl, rfl, _, rfl, ?_⟩
      rw [mem_S]
      refine ite2 (fun h3 => ?_) (fun h3 => ?_)
      · refine ⟨fun σ' H' => ∃ k', σ' = [some (.str (S w)), some (.str (S t)), some (.int (k' : Nat))] ∧ H = H' ∧ k' = k + 1 ∧ ba w (t.drop k') = ba w (t.drop p), ?_, ?_⟩
        · rintro σ' H' ⟨k', rfl, rfl, rfl, e'⟩
          exact ⟨t.length - (k + 1), by omega, k + 1, rfl, rfl, rfl, by omega, e'⟩
        · refine ⟨_, rfl, _, _, rfl, rfl, k + 1, ?_, rfl, rfl, ?_⟩
          · rw [Int.natCast_add]
            rfl
          · rw [← e, hd]
            conv => rhs; unfold ba
            rw [List.dropWhile_cons, if_pos h3]
            rfl
      · refine ⟨_, rfl, fin ?_⟩
        rintro ⟨c, r, h4, h5⟩
        rw [hd] at h4
        injection h4 with h6 h7
        subst h6
        exact h3 h5
    · refine iteF ⟨_, rfl, fin ?_⟩
      rintro ⟨c, r, h4, h5⟩
      have h2 : t.length ≤ k := by
        have : ¬ ((k : Int) < ((S t).length : Int)) := fun z => h1 (decide_eq_true z)
        rw [S_len] at this
        omega
      rw [List.drop_of_length_le h2] at h4
      cases h4
theorem take_tw (g : Nat → Bool) : ∀ r : List Nat, r.take (r.length - (r.dropWhile g).length) = r.takeWhile g
  | [] => rfl
  | c :: r => by
    rw [List.dropWhile_cons, List.takeWhile_cons]
    cases hg : g c with
    | true =>
      rw [if_pos rfl, if_pos rfl, ← take_tw g r]
      have := dw_len g r
      rw [show (c :: r).length - (r.dropWhile g).length = (r.length - (r.dropWhile g).length) + 1 by rw [List.length_cons]; omega, List.take_succ_cons]
    | false =>
      rw [if_neg Bool.false_ne_true, if_neg Bool.false_ne_true, Nat.sub_self, List.take_zero]
def sp_behind_gap (K : PySem.W.Frag) : Sp := fun vs H Q _ => ∃ (t : List Nat) (p : Nat), vs = [.str (S t), .int (p : Int)] ∧ TP t p ∧ Q (.int (pos t (gapR (t.drop p)) : Nat)) H
theorem ok_behind_gap {P : Program} {w : World} {K : PySem.W.Frag} {mg : Str → Option Value} {base : Heap} (T : Txt w K mg) : FnOk P w K mg base CX0 2 T.a_behind_gap T.d_behind_gap ["text", "place"] (sp_behind_gap K) := by
  refine T.f_behind_gap.ok sc_behind_gap (fun vs H Q E h => ?_) (fun cdv A outer s H vs Q E hr h => ?_)
  · obtain ⟨t, p, rfl, _⟩ := h
    rfl
  · obtain ⟨t, p, rfl, tp, q⟩ := h
    refine ⟨_, (pss_cons (ps_set (i := 2) sc_behind_gap.nd rfl (.inl rfl) (pe_call (ok_behind_all T) (hr.mono (by decide)) (by rfl) T.g_behind_all T.f_behind_all.kp T.b_behind_all .nil pass0 (pa_cons (pe_glob (v := .str " \t\n") rfl T.g_INLINE_WHITE ⟨_, rfl⟩) (pa_cons (pv 0) (pa_cons (pv 1) pa_nil)))))
        (pss_cons (ps_if (pt_cmpR op_gt (pe_bm PySem.F.plainAttrs_str PySem.F.slot_str_count PySem.F.type_str_count mt_count4 (pv 0) (pa_cons pe_str (pa_cons (pv 1) (pa_cons (pv 2) pa_nil)))) pe_int (nomark _)) (pss_one (ps_ret (pv 1))) pss_nil)
        (pss_one (ps_ret (pv 2))))), ?_⟩
    refine ⟨_, rfl, _, rfl, GapL, t, p, by rw [lit_G]; rfl, tp, ?_⟩
    have hs : ba GapL (t.drop p) <:+ t := (suf_dw _ _).trans (suf_drop t p)
    have hpe : p ≤ pos t (ba GapL (t.drop p)) := by
      have := dw_len (fun c => GapL.contains c) (t.drop p)
      rw [List.length_drop] at this
      unfold pos ba
      have := tp.le
      omega
    refine ⟨_, rfl, rfl, _, rfl, _, rfl, _, _, _, _, rfl, rfl, _, _, rfl, rfl, _, rfl, ?_⟩
    have ec : Txt.countIn (S t) ("\n" : Str) (p : Int) ((pos t (ba GapL (t.drop p)) : Nat) : Int) = (((t.drop p).takeWhile isG).count 10 : Nat) := by
      rw [show ("\n" : Str) = S [10] by decide +kernel, count_S t 10 p _ (pos_le _ _) hpe]
      congr 1
      have : pos t (ba GapL (t.drop p)) - p = (t.drop p).length - ((t.drop p).dropWhile isG).length := by
        have := dw_len isG (t.drop p)
        rw [List.length_drop] at this ⊢
        unfold pos ba
        have h1 : (List.dropWhile (fun c => GapL.contains c) (List.drop p t)).length = (List.dropWhile isG (List.drop p t)).length := rfl
        rw [h1]
        omega
      rw [this, take_tw]
    rw [ec]
    unfold gapR at q
    refine ite2 (fun h1 => ?_) (fun h1 => ?_)
    · have h2 : ((t.drop p).takeWhile isG).count 10 > 1 := by
        have := of_decide_eq_true h1
        omega
      rw [if_pos h2, drop_pos tp.le] at q
      exact ⟨_, rfl, q⟩
    · have h2 : ¬ ((t.drop p).takeWhile isG).count 10 > 1 := by
        have : ¬ ((1 : Int) < (((t.drop p).takeWhile isG).count 10 : Nat)) := fun z => h1 (decide_eq_true z)
        omega
      rw [if_neg h2] at q
      exact ⟨_, rfl, q⟩

/-! ### the defs of the labels, destinations and titles -/
theorem TP.of {t r : List Nat} (hl : t.length ≤ 100000) : TP t (pos t r) := ⟨pos_le _ _, hl⟩
theorem TP.next {t : List Nat} {p : Nat} (h : TP t p) (hp : p < t.length) : TP t (p + 1) := ⟨hp, h.sz⟩
theorem TP.drop {t : List Nat} {p : Nat} (h : TP t p) : pos t (t.drop p) = p := drop_pos h.le
/-- words from a place up to what is left -/
theorem up_cut {t e : List Nat} {k : Nat} (he : e <:+ t.drop k) (hk : k ≤ t.length) : cutS (S t) (some (k : Int)) (some ((pos t e : Nat) : Int)) = S (upToL (t.drop k) e) := by
  have h1 := he.length_le
  rw [List.length_drop] at h1
  have h2 : k ≤ pos t e := by unfold pos; omega
  rw [S_cut2 t k (pos t e) h2]
  unfold upToL pos
  rw [List.length_drop]
  congr 2
  omega
theorem upTo_len (l e : List Nat) : (upToL l e).length ≤ l.length := by
  unfold upToL
  rw [List.length_take]
  omega
theorem Asc.upTo {l e : List Nat} (h : Asc l) : Asc (upToL l e) := fun c hc => h c (List.mem_of_mem_take hc)
/-- a place and a text -/
def PV (H : Hp) (v : V) (t : List Nat) : Option (List Nat × List Nat) → Prop
  | none => v = .non
  | some (d, r) => ∃ a, v = .ref a ∧ H a = some (.tup [.int ((pos t r : Nat) : Int), .str (S d)])
def sp_first_plain (K : PySem.W.Frag) : Sp := fun vs H Q _ => ∃ (w t : List Nat) (p : Nat), vs = [.str (S w), .str (S t), .int (p : Int)] ∧ TP t p ∧ Q (.int ((pos t (plainR w (t.drop p)) : Nat) : Int)) H
theorem ok_first_plain {P : Program} {w : World} {K : PySem.W.Frag} {mg : Str → Option Value} {base : Heap} (T : Txt w K mg) : FnOk P w K mg base CX0 2 T.a_first_plain T.d_first_plain ["signs", "text", "place"] (sp_first_plain K) := by
  refine T.f_first_plain.ok sc_first_plain (fun vs H Q E h => ?_) (fun cdv A outer s H vs Q E hr h => ?_)
  · obtain ⟨w, t, p, rfl, _⟩ := h
    rfl
  · obtain ⟨w, t, p, rfl, tp, q⟩ := h
    refine ⟨_, (pss_cons (ps_while PassesOwn.never (PW.pt (pw_and (pt_cmpR op_lt (pv 2) (pe_callB call_len_str (by rfl) T.z_len PySem.boot_len (pa_cons (pv 1) pa_nil)) (nomark _)) (pw_and1 (pt_cmpR op_notIn_sign (pe_ix ix_str (pv 1) (pv 2) (fun _ _ => rfl)) (pv 0) (by rfl))))) (pss_cons (ps_if (pt_val (pe_call (ok_is_escape T) (hr.mono (by decide)) (by rfl) T.g_is_escape T.f_is_escape.kp T.b_is_escape .nil pass0 (pa_cons (pv 1) (pa_cons (pv 2) pa_nil)))) (pss_one (ps_aug (i := 2) sc_first_plain.nd rfl (.inl rfl) pe_int ip_add)) pss_nil)
        (pss_one (ps_aug (i := 2) sc_first_plain.nd rfl (.inl rfl) pe_int ip_add))))
        (pss_one (ps_ret (pv 2)))), ?_⟩
    refine ⟨fun m σ H' => ∃ k : Nat, σ = [some (.str (S w)), some (.str (S t)), some (.int (k : Int))] ∧ H = H' ∧ m = t.length - k ∧ k ≤ t.length ∧ plainR w (t.drop k) = plainR w (t.drop p), ⟨t.length - p, p, rfl, rfl, rfl, tp.le, rfl⟩, ?_⟩
    rintro m σ H' ⟨k, rfl, rfl, rfl, hk, e⟩
    have fin : plainR w (t.drop k) = t.drop k → Q (.int (k : Nat)) H := by
      intro h
      rw [h] at e
      rw [← e, drop_pos hk] at q
      exact q
    refine ⟨_, rfl, _, rfl, _, rfl, tp.line, _, _, rfl, rfl, _, rfl, ite2 (fun h1 => ?_) (fun h1 => ?_)⟩
    · have h2 : k < t.length := by
        have := of_decide_eq_true h1
        rw [S_len] at this
        omega
      have hd : t.drop k = t[k] :: t.drop (k + 1) := List.drop_eq_getElem_cons h2
      refine ⟨_, rfl, _, rfl, _, _, t[k], rfl, rfl, tp.line, atI_nat (by rw [S_tl]; exact List.getElem?_eq_getElem h2), _, rfl, t[k], _, rfl, rfl, ?_⟩
      rw [mem_S]
      refine ⟨_, rfl, ?_⟩
      cases hm : w.contains t[k] with
      | true =>
        refine iteF ⟨_, rfl, fin ?_⟩
        rw [hd]
        cases hr2 : t.drop (k + 1) with
        | nil =>
          unfold plainR
          rw [if_pos hm]
        | cons d r =>
          unfold plainR
          rw [if_pos hm]
      | false =>
        refine iteT ?_
        refine ⟨fun σ' H' => ∃ k', σ' = [some (.str (S w)), some (.str (S t)), some (.int (k' : Nat))] ∧ H = H' ∧ k < k' ∧ k' ≤ t.length ∧ plainR w (t.drop k') = plainR w (t.drop p), ?_, ?_⟩
        · rintro σ' H' ⟨k', rfl, rfl, h3, h4, e'⟩
          exact ⟨t.length - k', by omega, k', rfl, rfl, rfl, h4, e'⟩
        · refine ⟨_, rfl, _, rfl, t, k, rfl, ⟨hk, tp.sz⟩, ?_⟩
          refine ⟨_, rfl, ?_⟩
          have hno : ∀ {d : Nat} {r : List Nat}, t.drop (k + 1) = d :: r → plainR w (t.drop k) = if t[k] == 92 && PunL.contains d then plainR w r else plainR w (d :: r) := fun {d r} e2 => by
            rw [hd, e2]
            conv => lhs; unfold plainR
            rw [hm, if_neg Bool.false_ne_true]
          cases he : escR (t.drop k) with
          | true =>
            refine iteT ?_
            cases hr2 : t.drop (k + 1) with
            | nil =>
              rw [hd, hr2] at he
              cases he
            | cons d r =>
              have h3 : k + 2 ≤ t.length := by
                have := congrArg List.length hr2
                rw [List.length_drop, List.length_cons] at this
                omega
              have h4 : t.drop (k + 2) = r := by
                rw [show k + 2 = (k + 1) + 1 by omega, ← List.drop_drop, hr2]
                rfl
              have he2 : (t[k] == 92 && PunL.contains d) = true := by
                rw [hd, hr2] at he
                exact he
              refine ⟨_, rfl, _, _, rfl, rfl, _, rfl, _, _, rfl, rfl, k + 2, ?_, rfl, by omega, h3, ?_⟩
              · have : ((k : Nat) : Int) + 1 + 1 = ((k + 2 : Nat) : Int) := by omega
                rw [← this]
                rfl
              · rw [h4, ← e, hno hr2, if_pos he2]
          | false =>
            refine iteF ?_
            refine ⟨_, rfl, _, _, rfl, rfl, k + 1, ?_, rfl, by omega, h2, ?_⟩
            · rw [Int.natCast_add]
              rfl
            · rw [← e]
              cases hr2 : t.drop (k + 1) with
              | nil =>
                rw [hd, hr2]
                unfold plainR
                rw [hm, if_neg Bool.false_ne_true]
              | cons d r =>
                have he2 : (t[k] == 92 && PunL.contains d) = false := by
                  rw [hd, hr2] at he
                  exact he
                rw [hno hr2, he2, if_neg Bool.false_ne_true]
    · refine iteF ⟨_, rfl, fin ?_⟩
      have h2 : t.length ≤ k := by
        have : ¬ ((k : Int) < ((S t).length : Int)) := fun z => h1 (decide_eq_true z)
        rw [S_len] at this
        omega
      rw [List.drop_of_length_le h2]
      rfl

theorem pos_step {t e : List Nat} (he : e <:+ t) (h : 1 ≤ e.length) : pos t (e.drop 1) = pos t e + 1 := by
  have := he.length_le
  unfold pos
  rw [List.length_drop]
  omega
theorem suf_of {t : List Nat} {p : Nat} {e : List Nat} (h : e <:+ t.drop p) : e <:+ t := h.trans (suf_drop t p)
theorem pre_one {c : Nat} {e : List Nat} (h : ([c] : List Nat).isPrefixOf e = true) : 1 ≤ e.length := pre_len _ _ h
theorem starts_pos {t e : List Nat} (c : Nat) (he : e <:+ t) : Txt.startswith3 (S t) (S [c]) ((pos t e : Nat) : Int) = ([c] : List Nat).isPrefixOf e := by
  rw [starts3 t [c] (by simp) (pos t e), pos_drop he]
def sp_enclosed_at (K : PySem.W.Frag) : Sp := fun vs H Q _ => ∃ (b : List Nat) (c : Nat) (t : List Nat) (p : Nat), vs = [.str (S b), .str (S [c]), .str (S t), .int (p : Int)] ∧ p < t.length ∧ TP t p ∧ Asc t ∧
  ∀ H' v, Same H H' → PV H' v t (encR b c (t.drop p)) → Q v H'
theorem ok_enclosed_at {P : Program} {w : World} {K : PySem.W.Frag} {mg : Str → Option Value} {base : Heap} (T : Txt w K mg) : FnOk P w K mg base CX0 6 T.a_enclosed_at T.d_enclosed_at ["barred", "closing", "text", "place"] (sp_enclosed_at K) := by
  refine T.f_enclosed_at.ok sc_enclosed_at (fun vs H Q E h => ?_) (fun cdv A outer s H vs Q E hr h => ?_)
  · obtain ⟨b, c, t, p, rfl, _⟩ := h
    rfl
  · obtain ⟨b, c, t, p, rfl, hp, tp, ha, q⟩ := h
    refine ⟨_, (pss_cons (ps_set (i := 4) sc_enclosed_at.nd rfl (.inl rfl) (pe_call (ok_first_plain T) (hr.mono (by decide)) (by rfl) T.g_first_plain T.f_first_plain.kp T.b_first_plain .nil pass0 (pa_cons (pv 0) (pa_cons (pv 2) (pa_cons (pe_op op_add (pv 3) pe_int) pa_nil)))))
        (pss_cons (ps_if (pt_not (pt_val (pe_bm PySem.F.plainAttrs_str PySem.F.slot_str_startswith PySem.F.type_str_startswith mt_startswith3 (pv 2) (pa_cons (pv 1) (pa_cons (pv 4) pa_nil))))) (pss_one (ps_ret pe_non)) pss_nil)
        (pss_one (ps_ret (pe_tup (pa_cons (pe_op op_add (pv 4) pe_int) (pa_cons (pe_call (ok_decoded T) (hr.mono (by decide)) (by rfl) T.g_decoded T.f_decoded.kp T.b_decoded .nil pass0 (pa_cons (pe_slice sl_str (pv 2) (po_some (pe_op op_add (pv 3) pe_int)) (po_some (pv 4))) pa_nil)) pa_nil))))))), ?_⟩
    have en : (p : Int) + 1 = ((p + 1 : Nat) : Int) := by omega
    refine ⟨_, rfl, _, rfl, _, rfl, _, _, rfl, rfl, ?_⟩
    refine ⟨b, t, p + 1, congrArg (fun z => [V.str (S b), V.str (S t), V.int z]) en, tp.next hp, ?_⟩
    have hsd : plainR b (t.drop (p + 1)) <:+ t.drop (p + 1) := suf_plain _ _
    have hs := suf_of hsd
    have er : encR b c (t.drop p) = if ([c] : List Nat).isPrefixOf (plainR b (t.drop (p + 1))) = true then some (decR (upToL (t.drop (p + 1)) (plainR b (t.drop (p + 1)))), (plainR b (t.drop (p + 1))).drop 1) else none := by
      unfold encR
      rw [List.drop_drop]
    rw [er] at q
    generalize plainR b (t.drop (p + 1)) = e at hsd hs q ⊢
    refine ⟨_, rfl, rfl, _, rfl, _, rfl, _, _, _, rfl, rfl, _, rfl, ?_⟩
    rw [starts_pos c hs]
    cases hc : ([c] : List Nat).isPrefixOf e with
    | false =>
      rw [hc, if_neg Bool.false_ne_true] at q
      exact iteT (q H .non (Same.refl _) rfl)
    | true =>
      rw [hc, if_pos rfl] at q
      refine iteF ?_
      refine ⟨_, rfl, _, _, rfl, rfl, _, rfl, _, rfl, _, _, rfl, rfl, _, rfl, _, rfl, _, rfl, _, rfl, tp.line, ?_⟩
      rw [en, up_cut hsd hp]
      have hlen : (upToL (t.drop (p + 1)) e).length ≤ 100000 := by
        have h1 := upTo_len (t.drop (p + 1)) e
        rw [List.length_drop] at h1
        have := tp.sz
        omega
      refine ⟨_, rfl, hlen, (ha.drop _).upTo, fun H1 s1 => ⟨by show 2 ≤ sizeLine; decide, fun r nr => ?_⟩⟩
      refine q _ _ (s1.trans (same_new nr)) ⟨r, rfl, ?_⟩
      rw [upd_same, pos_step hs (pre_one hc)]
      congr 3
theorem lit_LB : ("[" : Str) = S [91] := by decide +kernel
theorem lit_RB : ("]" : Str) = S [93] := by decide +kernel
theorem lit_LRB : ("[]" : Str) = S [91, 93] := by decide +kernel
def sp_label_at (K : PySem.W.Frag) : Sp := fun vs H Q _ => ∃ (t : List Nat) (p : Nat), vs = [.str (S t), .int (p : Int)] ∧ TP t p ∧ ∀ H' v, Same H H' → PV H' v t (labelR (t.drop p)) → Q v H'
theorem ok_label_at {P : Program} {w : World} {K : PySem.W.Frag} {mg : Str → Option Value} {base : Heap} (T : Txt w K mg) : FnOk P w K mg base CX0 3 T.a_label_at T.d_label_at ["text", "place"] (sp_label_at K) := by
  refine T.f_label_at.ok sc_label_at (fun vs H Q E h => ?_) (fun cdv A outer s H vs Q E hr h => ?_)
  · obtain ⟨t, p, rfl, _⟩ := h
    rfl
  · obtain ⟨t, p, rfl, tp, q⟩ := h
    refine ⟨_, (pss_cons (ps_if (pt_not (pt_val (pe_bm PySem.F.plainAttrs_str PySem.F.slot_str_startswith PySem.F.type_str_startswith mt_startswith3 (pv 0) (pa_cons pe_str (pa_cons (pv 1) pa_nil))))) (pss_one (ps_ret pe_non)) pss_nil)
        (pss_cons (ps_set (i := 2) sc_label_at.nd rfl (.inl rfl) (pe_call (ok_first_plain T) (hr.mono (by decide)) (by rfl) T.g_first_plain T.f_first_plain.kp T.b_first_plain .nil pass0 (pa_cons pe_str (pa_cons (pv 0) (pa_cons (pe_op op_add (pv 1) pe_int) pa_nil)))))
        (pss_cons (ps_set (i := 3) sc_label_at.nd rfl (.inl rfl) (pe_slice sl_str (pv 0) (po_some (pe_op op_add (pv 1) pe_int)) (po_some (pv 2))))
        (pss_cons (ps_if (PW.pt (pw_or (pt_not (pt_val (pe_bm PySem.F.plainAttrs_str PySem.F.slot_str_startswith PySem.F.type_str_startswith mt_startswith3 (pv 0) (pa_cons pe_str (pa_cons (pv 2) pa_nil))))) (pw_or1 (pt_cmpR op_gt (pe_callB call_len_str (by rfl) T.z_len PySem.boot_len (pa_cons (pv 3) pa_nil)) (pe_glob (v := .int 999) rfl T.g_LONGEST_LABEL ⟨_, rfl⟩) (nomark _))))) (pss_one (ps_ret pe_non)) pss_nil)
        (pss_cons (ps_if (pt_cmpR op_eq (pe_bm PySem.F.plainAttrs_str PySem.F.slot_str_strip PySem.F.type_str_strip mt_stripChars (pv 3) (pa_cons (pe_glob (v := .str " \t\n") rfl T.g_INLINE_WHITE ⟨_, rfl⟩) pa_nil)) pe_str (nomark _)) (pss_one (ps_ret pe_non)) pss_nil)
        (pss_one (ps_ret (pe_tup (pa_cons (pe_op op_add (pv 2) pe_int) (pa_cons (pv 3) pa_nil)))))))))), ?_⟩
    refine ⟨_, rfl, rfl, _, rfl, _, _, _, rfl, rfl, _, rfl, ?_⟩
    rw [lit_LB, starts3 t [91] (by simp) p]
    cases h1 : ([91] : List Nat).isPrefixOf (t.drop p) with
    | false =>
      refine iteT (q H .non (Same.refl _) ?_)
      unfold labelR
      rw [h1, if_neg Bool.false_ne_true]
      rfl
    | true =>
      refine iteF ?_
      have hp := pre1 h1
      have en : (p : Int) + 1 = ((p + 1 : Nat) : Int) := by omega
      rw [lit_LRB, lit_RB]
      refine ⟨_, rfl, _, rfl, _, _, rfl, rfl, ?_⟩
      refine ⟨[91, 93], t, p + 1, congrArg (fun z => [V.str (S [91, 93]), V.str (S t), V.int z]) en, tp.next hp, ?_⟩
      have hsd : plainR [91, 93] (t.drop (p + 1)) <:+ t.drop (p + 1) := suf_plain _ _
      have hs := suf_of hsd
      have er : labelR (t.drop p) = if ([93] : List Nat).isPrefixOf (plainR [91, 93] (t.drop (p + 1))) = true ∧ (upToL (t.drop (p + 1)) (plainR [91, 93] (t.drop (p + 1)))).length ≤ 999 then
          if whiteB (upToL (t.drop (p + 1)) (plainR [91, 93] (t.drop (p + 1)))) = true then none
          else some (upToL (t.drop (p + 1)) (plainR [91, 93] (t.drop (p + 1))), (plainR [91, 93] (t.drop (p + 1))).drop 1)
        else none := by
        unfold labelR
        rw [h1, if_pos rfl, List.drop_drop]
      rw [er] at q
      generalize plainR [91, 93] (t.drop (p + 1)) = e at hsd hs q ⊢
      refine ⟨_, rfl, _, rfl, _, _, rfl, rfl, _, rfl, _, rfl, _, rfl, _, rfl, tp.line, ?_⟩
      rw [en, up_cut hsd hp]
      have hlen : (upToL (t.drop (p + 1)) e).length ≤ 100000 := by
        have h1 := upTo_len (t.drop (p + 1)) e
        rw [List.length_drop] at h1
        have := tp.sz
        omega
      generalize upToL (t.drop (p + 1)) e = w at hlen q ⊢
      have hln : (S w).length ≤ sizeLine := by rw [S_len, sizeLine_eq]; omega
      refine ⟨_, rfl, rfl, _, rfl, _, _, _, rfl, rfl, _, rfl, ?_⟩
      rw [starts_pos 93 hs]
      cases hc : ([93] : List Nat).isPrefixOf e with
      | false =>
        rw [hc, if_neg fun z => Bool.false_ne_true z.1] at q
        exact iteT (iteT (q H .non (Same.refl _) rfl))
      | true =>
        refine iteF ?_
        refine ⟨_, rfl, _, rfl, hln, _, _, rfl, rfl, _, rfl, ite2 (fun h2 => ?_) (fun h2 => ?_)⟩
        · have h3 : ¬ w.length ≤ 999 := by
            have := of_decide_eq_true h2
            rw [S_len] at this
            omega
          rw [if_neg fun z => h3 z.2] at q
          exact q H .non (Same.refl _) rfl
        · have h3 : w.length ≤ 999 := by
            have : ¬ ((999 : Int) < ((S w).length : Int)) := fun z => h2 (decide_eq_true z)
            rw [S_len] at this
            omega
          rw [if_pos ⟨hc, h3⟩] at q
          refine ⟨_, rfl, rfl, _, _, rfl, rfl, hln, rfl, _, rfl, ?_⟩
          rw [lit_G, lit_e, strip_blank]
          unfold whiteB at q
          cases hw : w.all (fun c => GapL.contains c) with
          | true =>
            rw [hw, if_pos rfl] at q
            exact iteT (q H .non (Same.refl _) rfl)
          | false =>
            rw [hw, if_neg Bool.false_ne_true] at q
            refine iteF ⟨_, rfl, _, _, rfl, rfl, _, rfl, by show 2 ≤ sizeLine; decide, fun r nr => ?_⟩
            refine q _ _ (same_new nr) ⟨r, rfl, ?_⟩
            rw [upd_same, pos_step hs (pre_one hc)]
            congr 3

theorem addL {a b : List Nat} (h : a.length + b.length ≤ 1000000) : (S a).length + (S b).length ≤ sizeLine := by
  rw [S_len, S_len, sizeLine_eq]
  omega
def pvd (t : List Nat) : Option (List Nat × List Nat) → PyData
  | none => .none
  | some (d, r) => .tuple [.int ((pos t r : Nat) : Int), .str (S d)]
theorem pv_dp {K : PySem.W.Frag} {H : Hp} {v : V} {t : List Nat} : ∀ {o : Option (List Nat × List Nat)}, PV H v t o → Dp K H v (pvd t o)
  | none, h => by
    have h' : v = .non := h
    subst h'
    exact .non
  | some (d, r), h => by
    obtain ⟨a, rfl, ha⟩ := h
    exact .tup (SqT.of ha) (.cons (.int _) (.cons (.str _) .nil))
theorem PV.same {H H' : Hp} {v : V} {t : List Nat} : ∀ {o : Option (List Nat × List Nat)}, PV H v t o → Same H H' → PV H' v t o
  | none, h, _ => h
  | some (d, r), h, s => by
    obtain ⟨a, e, ha⟩ := h
    exact ⟨a, e, s _ _ ha⟩
theorem Asc.sm {l : List Nat} (h : Asc l) : Sm l := fun c hc => by have := h c hc; omega
theorem pvd_lay {t d r : List Nat} (h : Sm d) : (pvd t (some (d, r))).canLay0 = true := by
  show (true && (PyData.strOk (S d) && true)) = true
  rw [h.ok]
  rfl
theorem pvd_shaped {t d r : List Nat} (h : Sm d) : SeqAt.shaped (pvd t (some (d, r))) = true := by
  show ((pvd t (some (d, r))).canLay0 && decide ((pvd t (some (d, r))).depth ≤ 64)) = true
  rw [pvd_lay h]
  rfl
def sp_is_label_text (K : PySem.W.Frag) : Sp := fun vs H Q _ => ∃ w : List Nat, vs = [.str (S w)] ∧ w.length ≤ 999 ∧ Asc w ∧ labelR (91 :: (w ++ [93])) = some (w, []) ∧ ∀ H', Same H H' → Q (.bl true) H'
theorem ok_is_label_text {P : Program} {w : World} {K : PySem.W.Frag} {mg : Str → Option Value} {base : Heap} (T : Txt w K mg) : FnOk P w K mg base CX0 4 T.a_is_label_text T.d_is_label_text ["thing"] (sp_is_label_text K) := by
  refine T.f_is_label_text.ok sc_is_label_text (fun vs H Q E h => ?_) (fun cdv A outer s H vs Q E hr h => ?_)
  · obtain ⟨w, rfl, _⟩ := h
    rfl
  · obtain ⟨w, rfl, hl, ha, hw, q⟩ := h
    refine ⟨_, (pss_one (ps_ret (pe_and (pe_callB call_isi (by rfl) T.z_isinstance (by decide +kernel) (pa_cons (pv 0) (pa_cons (pe_bltn (v := .ty "str") (by rfl) T.z_str (by decide +kernel) rfl) pa_nil))) (pe_one (pe_cmpR (op_eqD hr.units) (pe_call (ok_label_at T) (hr.mono (by decide)) (by rfl) T.g_label_at T.f_label_at.kp T.b_label_at .nil pass0 (pa_cons (pe_op op_add_str (pe_op op_add_str pe_str (pv 0)) pe_str) (pa_cons pe_int pa_nil))) (pe_tup (pa_cons (pe_op op_add (pe_callB call_len_str (by rfl) T.z_len PySem.boot_len (pa_cons (pv 0) pa_nil)) pe_int) (pa_cons (pv 0) pa_nil))) (nomark _)))))), ?_⟩
    refine ⟨_, rfl, _, _, _, _, true, rfl, .ty "str", .base (.str _), kit_ty (by decide +kernel), _, rfl, iteT ?_⟩
    rw [lit_LB, lit_RB]
    refine ⟨_, rfl, _, _, rfl, rfl, addL (by simp; omega), ?_⟩
    rw [S_app]
    refine ⟨_, _, rfl, rfl, addL (by simp; omega), ?_⟩
    rw [S_app]
    have et : [91] ++ w ++ [93] = 91 :: (w ++ [93]) := by simp
    rw [et]
    refine ⟨_, 0, rfl, ⟨Nat.zero_le _, by simp; omega⟩, fun H1 v s1 hv => ?_⟩
    rw [List.drop_zero, hw] at hv
    refine ⟨_, rfl, _, rfl, by rw [S_len, sizeLine_eq]; omega, _, _, rfl, rfl, _, rfl, by show 2 ≤ sizeLine; decide, fun p np => ?_⟩
    have hv2 := hv.same (same_new (o := .tup [.int (((S w).length : Int) + 2), .str (S w)]) np)
    have hp2 : PV (upd H1 p (.tup [.int (((S w).length : Int) + 2), .str (S w)])) (.ref p) (91 :: (w ++ [93])) (some (w, [])) := by
      refine ⟨p, rfl, ?_⟩
      rw [upd_same]
      congr 4
      rw [S_len]
      unfold pos
      simp
      omega
    refine ⟨_, _, pv_dp hv2, pv_dp hp2, pvd_shaped ha.sm, pvd_shaped ha.sm, ?_⟩
    rw [PySem.SeqAt.eqv_refl _ (pvd_lay ha.sm)]
    exact q _ (s1.trans (same_new np))
def sp_normalised (K : PySem.W.Frag) : Sp := fun vs H Q _ => ∃ w : List Nat, vs = [.str (S w)] ∧ w.length ≤ 999 ∧ Asc w ∧ labelR (91 :: (w ++ [93])) = some (w, []) ∧ ∀ H', Same H H' → Q (.str (S (normR w))) H'
theorem lit_sp : (" " : Str) = S [32] := by decide +kernel
theorem ok_normalised {P : Program} {w : World} {K : PySem.W.Frag} {mg : Str → Option Value} {base : Heap} (T : Txt w K mg) : FnOk P w K mg base CX0 5 T.a_normalised T.d_normalised ["text"] (sp_normalised K) := by
  refine T.f_normalised.ok sc_normalised (fun vs H Q E h => ?_) (fun cdv A outer s H vs Q E hr h => ?_)
  · obtain ⟨w, rfl, _⟩ := h
    rfl
  · obtain ⟨w, rfl, hl, ha, hw, q⟩ := h
    refine ⟨_, (pss_cons (ps_if (pt_not (pt_val (pe_call (ok_is_label_text T) (hr.mono (by decide)) (by rfl) T.g_is_label_text T.f_is_label_text.kp T.b_is_label_text .nil pass0 (pa_cons (pv 0) pa_nil)))) (pss_one ps_never) pss_nil)
        (pss_one (ps_ret (pe_join pe_str (pe_words (pe_bm0 PySem.F.plainAttrs_str PySem.F.slot_str_lower PySem.F.type_str_lower mt_lower (pv 0))))))), ?_⟩
    refine ⟨_, rfl, w, rfl, hl, ha, hw, fun H1 s1 => ⟨_, rfl, iteF ?_⟩⟩
    rw [lit_sp]
    refine ⟨⟨_, rfl⟩, _, rfl, rfl, _, rfl, rfl, by rw [S_len]; omega, ?_⟩
    rw [lower_S w ha]
    refine ⟨⟨_, rfl⟩, _, rfl, rfl, by rw [S_len, List.length_map, sizeLine_eq]; omega, fun p np => ?_⟩
    refine ⟨_, p, _, rfl, rfl, .inl (SqL.of upd_same), ?_, ?_⟩
    · have h1 := StrLaws.words_weight (S (w.map lo1))
      rw [S_len, List.length_map] at h1
      rw [S_len]
      show _ + _ * 1 ≤ _
      omega
    · have en : S (normR w) = Txt.join (S [32]) (Txt.words (S (w.map lo1))) := (S_of _).symm
      rw [← en]
      exact q _ (s1.trans (same_new np))

theorem lit_LP : ("(" : Str) = S [40] := by decide +kernel
theorem lit_RP : (")" : Str) = S [41] := by decide +kernel
theorem lit_ends : (" \t\n()" : Str) = S EndsL := by decide +kernel
theorem at_pos {t e : List Nat} {c : Nat} {r : List Nat} (he : e <:+ t) (h : e = c :: r) : t[pos t e]? = some c := by
  have h1 := pos_drop he
  have h2 : (t.drop (pos t e))[0]? = some c := by rw [h1, h]; rfl
  rw [List.getElem?_drop] at h2
  simpa using h2
theorem drop_pos1 {t e : List Nat} (he : e <:+ t) : t.drop (pos t e + 1) = e.drop 1 := by
  rw [← List.drop_drop, pos_drop he]
theorem head_of {c : Nat} {e : List Nat} (h : ([c] : List Nat).isPrefixOf e = true) : ∃ r, e = c :: r := by
  cases e with
  | nil => cases h
  | cons a b =>
    have h5 : (c == a && ([] : List Nat).isPrefixOf b) = true := h
    have h6 := eq_of_beq (Bool.and_eq_true_iff.mp h5).1
    exact ⟨b, by rw [h6]⟩
def sp_behind_bare (K : PySem.W.Frag) : Sp := fun vs H Q _ => ∃ (t : List Nat) (p : Nat), vs = [.str (S t), .int (p : Int)] ∧ TP t p ∧ Q (ov t (bareR (t.drop p))) H
theorem ok_behind_bare {P : Program} {w : World} {K : PySem.W.Frag} {mg : Str → Option Value} {base : Heap} (T : Txt w K mg) : FnOk P w K mg base CX0 3 T.a_behind_bare T.d_behind_bare ["text", "place"] (sp_behind_bare K) := by
  refine T.f_behind_bare.ok sc_behind_bare (fun vs H Q E h => ?_) (fun cdv A outer s H vs Q E hr h => ?_)
  · obtain ⟨t, p, rfl, _⟩ := h
    rfl
  · obtain ⟨t, p, rfl, tp, q⟩ := h
    refine ⟨_, (pss_cons (ps_set (i := 2) sc_behind_bare.nd rfl (.inl rfl) pe_int)
        (pss_cons (ps_set (i := 3) sc_behind_bare.nd rfl (.inl rfl) (pe_call (ok_first_plain T) (hr.mono (by decide)) (by rfl) T.g_first_plain T.f_first_plain.kp T.b_first_plain .nil pass0 (pa_cons (pe_glob (v := .str " \t\n()") rfl T.g_BARE_ENDS ⟨_, rfl⟩) (pa_cons (pv 0) (pa_cons (pv 1) pa_nil)))))
        (pss_cons (ps_while PassesOwn.never (PW.pt (pw_or (pt_val (pe_bm PySem.F.plainAttrs_str PySem.F.slot_str_startswith PySem.F.type_str_startswith mt_startswith3 (pv 0) (pa_cons pe_str (pa_cons (pv 3) pa_nil)))) (pw_or1 (PW.pt (pw_and (pt_cmpR op_gt (pv 2) pe_int (nomark _)) (pw_and1 (pt_val (pe_bm PySem.F.plainAttrs_str PySem.F.slot_str_startswith PySem.F.type_str_startswith mt_startswith3 (pv 0) (pa_cons pe_str (pa_cons (pv 3) pa_nil)))))))))) (pss_cons (ps_if (pt_cmpR op_eq (pe_ix ix_str (pv 0) (pv 3) (fun _ _ => rfl)) pe_str (nomark _)) (pss_one (ps_aug (i := 2) sc_behind_bare.nd rfl (.inl rfl) pe_int ip_add)) (pss_one (ps_aug (i := 2) sc_behind_bare.nd rfl (.inl rfl) pe_int ip_sub)))
        (pss_cons (ps_if (pt_cmpR op_gt (pv 2) (pe_glob (v := .int 32) rfl T.g_MOST_BRACKETS ⟨_, rfl⟩) (nomark _)) (pss_one (ps_ret pe_non)) pss_nil)
        (pss_one (ps_set (i := 3) sc_behind_bare.nd rfl (.inl rfl) (pe_call (ok_first_plain T) (hr.mono (by decide)) (by rfl) T.g_first_plain T.f_first_plain.kp T.b_first_plain .nil pass0 (pa_cons (pe_glob (v := .str " \t\n()") rfl T.g_BARE_ENDS ⟨_, rfl⟩) (pa_cons (pv 0) (pa_cons (pe_op op_add (pv 3) pe_int) pa_nil)))))))))
        (pss_cons (ps_if (pt_cmpR op_gt (pv 2) pe_int (nomark _)) (pss_one (ps_ret pe_non)) pss_nil)
        (pss_one (ps_ret (pv 3))))))), ?_⟩
    rw [lit_ends]
    refine ⟨_, rfl, _, rfl, EndsL, t, p, rfl, tp, ?_⟩
    have hs : plainR EndsL (t.drop p) <:+ t := suf_of (suf_plain _ _)
    have e0 : bareR (t.drop p) = bareF ((plainR EndsL (t.drop p)).length + 1) 0 (plainR EndsL (t.drop p)) := by
      unfold bareR
      have := (suf_plain EndsL (t.drop p)).length_le
      exact bareF_more _ _ _ _ (by omega) (by omega)
    rw [e0] at q
    generalize plainR EndsL (t.drop p) = e1 at hs q
    refine ⟨fun m σ H' => ∃ (wi : Nat) (e : List Nat), σ = [some (.str (S t)), some (.int (p : Int)), some (.int (wi : Int)), some (.int ((pos t e : Nat) : Int))] ∧ H = H' ∧ m = e.length ∧ e <:+ t ∧ wi ≤ 32 ∧ bareF (e.length + 1) wi e = bareF (e1.length + 1) 0 e1, ⟨_, 0, e1, rfl, rfl, rfl, hs, by decide, rfl⟩, ?_⟩
    rintro m σ H' ⟨wi, e, rfl, rfl, rfl, he, hwi, eb⟩
    have hstep : bareF (e.length + 1) wi e = if ([40] : List Nat).isPrefixOf e = true then (if wi + 1 > 32 then none else bareF e.length (wi + 1) (plainR EndsL (e.drop 1)))
        else if wi > 0 ∧ ([41] : List Nat).isPrefixOf e = true then bareF e.length (wi - 1) (plainR EndsL (e.drop 1))
        else if wi > 0 then none else some e := rfl
    rw [lit_LP, lit_RP]
    have hplen : ∀ {c : Nat} {r : List Nat}, e = c :: r → (plainR EndsL (e.drop 1)).length < e.length ∧ plainR EndsL (e.drop 1) <:+ t ∧ pos t e < t.length := fun {c r} h => by
      have h1 := (suf_plain EndsL (e.drop 1)).length_le
      rw [List.length_drop] at h1
      have h2 := he.length_le
      have h3 : 1 ≤ e.length := by rw [h]; simp
      exact ⟨by omega, (suf_plain _ _).trans ((List.drop_suffix _ _).trans he), by unfold pos; omega⟩
    have en : ((pos t e : Nat) : Int) + 1 = ((pos t e + 1 : Nat) : Int) := by omega
    refine ⟨_, rfl, rfl, _, rfl, _, _, _, rfl, rfl, _, rfl, ?_⟩
    rw [starts_pos 40 he]
    cases h40 : ([40] : List Nat).isPrefixOf e with
    | true =>
      rw [h40, if_pos rfl] at hstep
      obtain ⟨r, hr2⟩ := head_of h40
      obtain ⟨p1, p2, p3⟩ := hplen hr2
      refine iteT ⟨fun σ' H' => ∃ (wi' : Nat) (e' : List Nat), σ' = [some (.str (S t)), some (.int (p : Int)), some (.int (wi' : Int)), some (.int ((pos t e' : Nat) : Int))] ∧ H = H' ∧ e'.length < e.length ∧ e' <:+ t ∧ wi' ≤ 32 ∧ bareF (e'.length + 1) wi' e' = bareF (e1.length + 1) 0 e1, ?_, ?_⟩
      · rintro σ' H' ⟨wi', e', rfl, rfl, h1, h2, h3, h4⟩
        exact ⟨e'.length, h1, wi', e', rfl, rfl, rfl, h2, h3, h4⟩
      · refine ⟨_, rfl, _, rfl, _, _, 40, rfl, rfl, tp.line, atI_nat (by rw [S_tl]; exact at_pos he hr2), rfl, _, rfl, ?_⟩
        rw [decide_eq_true (by rfl)]
        refine iteT ?_
        refine ⟨_, rfl, _, _, rfl, rfl, _, rfl, _, _, rfl, rfl, _, rfl, ite2 (fun h5 => ?_) (fun h5 => ?_)⟩
        · have h6 : wi + 1 > 32 := by
            have : (32 : Int) < (wi : Int) + 1 := of_decide_eq_true h5
            omega
          rw [if_pos h6, eb] at hstep
          rw [hstep] at q
          exact q
        · have h6 : ¬ wi + 1 > 32 := fun z => h5 (decide_eq_true (show (32 : Int) < (wi : Int) + 1 by omega))
          rw [if_neg h6, eb] at hstep
          refine ⟨_, rfl, _, rfl, _, _, rfl, rfl, ?_⟩
          refine ⟨EndsL, t, pos t e + 1, congrArg (fun z => [V.str (S EndsL), V.str (S t), V.int z]) en, ⟨p3, tp.sz⟩, ?_⟩
          rw [drop_pos1 he]
          refine ⟨wi + 1, plainR EndsL (e.drop 1), ?_, rfl, p1, p2, by omega, ?_⟩
          · rw [Int.natCast_add]
            rfl
          · rw [hstep]
            exact bareF_more _ _ _ _ (by omega) p1
    | false =>
      rw [h40, if_neg Bool.false_ne_true] at hstep
      refine iteF ?_
      refine ⟨_, rfl, _, _, rfl, rfl, _, rfl, ?_⟩
      by_cases hw : wi > 0
      · rw [decide_eq_true (by omega)]
        refine iteT ?_
        refine ⟨_, rfl, rfl, _, rfl, _, _, _, rfl, rfl, _, rfl, ?_⟩
        rw [starts_pos 41 he]
        cases h41 : ([41] : List Nat).isPrefixOf e with
        | true =>
          rw [if_pos ⟨hw, h41⟩, eb] at hstep
          obtain ⟨r, hr2⟩ := head_of h41
          obtain ⟨p1, p2, p3⟩ := hplen hr2
          refine iteT ⟨fun σ' H' => ∃ (wi' : Nat) (e' : List Nat), σ' = [some (.str (S t)), some (.int (p : Int)), some (.int (wi' : Int)), some (.int ((pos t e' : Nat) : Int))] ∧ H = H' ∧ e'.length < e.length ∧ e' <:+ t ∧ wi' ≤ 32 ∧ bareF (e'.length + 1) wi' e' = bareF (e1.length + 1) 0 e1, ?_, ?_⟩
          · rintro σ' H' ⟨wi', e', rfl, rfl, h1, h2, h3, h4⟩
            exact ⟨e'.length, h1, wi', e', rfl, rfl, rfl, h2, h3, h4⟩
          · refine ⟨_, rfl, _, rfl, _, _, 41, rfl, rfl, tp.line, atI_nat (by rw [S_tl]; exact at_pos he hr2), rfl, _, rfl, ?_⟩
            rw [decide_eq_false (by intro z; cases z)]
            refine iteF ?_
            refine ⟨_, rfl, _, _, rfl, rfl, _, rfl, _, _, rfl, rfl, _, rfl, ?_⟩
            rw [decide_eq_false (show ¬ (32 : Int) < (wi : Int) - 1 by omega)]
            refine iteF ?_
            refine ⟨_, rfl, _, rfl, _, _, rfl, rfl, ?_⟩
            refine ⟨EndsL, t, pos t e + 1, congrArg (fun z => [V.str (S EndsL), V.str (S t), V.int z]) en, ⟨p3, tp.sz⟩, ?_⟩
            rw [drop_pos1 he]
            refine ⟨wi - 1, plainR EndsL (e.drop 1), ?_, rfl, p1, p2, by omega, ?_⟩
            · have : ((wi - 1 : Nat) : Int) = (wi : Int) - 1 := by omega
              rw [this]
              rfl
            · rw [hstep]
              exact bareF_more _ _ _ _ (by omega) p1
        | false =>
          rw [if_neg (fun z => by rw [h41] at z; exact Bool.false_ne_true z.2), if_pos hw, eb] at hstep
          refine iteF ?_
          refine ⟨_, rfl, _, _, rfl, rfl, _, rfl, ?_⟩
          rw [decide_eq_true (by omega)]
          rw [hstep] at q
          exact iteT q
      · rw [if_neg (fun z => hw z.1), if_neg hw, eb] at hstep
        rw [decide_eq_false (by omega)]
        refine iteF ?_
        refine iteF ?_
        refine ⟨_, rfl, _, _, rfl, rfl, _, rfl, ?_⟩
        rw [decide_eq_false (by omega)]
        rw [hstep] at q
        exact iteF ⟨_, rfl, q⟩

theorem lit_LT : ("<" : Str) = S [60] := by decide +kernel
theorem lit_GT : (">" : Str) = S [62] := by decide +kernel
theorem lit_LGT : ("<>\n" : Str) = S [60, 62, 10] := by decide +kernel
theorem lit_WH : (" \t" : Str) = S [32, 9] := by decide +kernel
theorem lit_nl : ("\n" : Str) = S [10] := by decide +kernel
theorem lit_colon : (":" : Str) = S [58] := by decide +kernel
theorem int_eq (a b : Nat) : decide (V.int (a : Nat) = V.int (b : Nat)) = decide (a = b) := by
  by_cases h : a = b
  · subst h; simp
  · rw [decide_eq_false h]
    exact decide_eq_false fun z => h (by have := V.int.inj z; omega)
theorem pos_eq {t e : List Nat} {p : Nat} (he : e <:+ t.drop p) (hp : p ≤ t.length) : pos t e = p ↔ e.length = (t.drop p).length := by
  have := he.length_le
  rw [List.length_drop] at this ⊢
  unfold pos
  omega
theorem enc_lt {t : List Nat} {p c : Nat} (h : ([c] : List Nat).isPrefixOf (t.drop p) = true) : p < t.length := pre1 h
def sp_destination_at (K : PySem.W.Frag) : Sp := fun vs H Q _ => ∃ (t : List Nat) (p : Nat), vs = [.str (S t), .int (p : Int)] ∧ TP t p ∧ Asc t ∧ ∀ H' v, Same H H' → PV H' v t (destR (t.drop p)) → Q v H'
theorem ok_destination_at {P : Program} {w : World} {K : PySem.W.Frag} {mg : Str → Option Value} {base : Heap} (T : Txt w K mg) : FnOk P w K mg base CX0 7 T.a_destination_at T.d_destination_at ["text", "place"] (sp_destination_at K) := by
  refine T.f_destination_at.ok sc_destination_at (fun vs H Q E h => ?_) (fun cdv A outer s H vs Q E hr h => ?_)
  · obtain ⟨t, p, rfl, _⟩ := h
    rfl
  · obtain ⟨t, p, rfl, tp, ha, q⟩ := h
    refine ⟨_, (pss_cons (ps_if (pt_val (pe_bm PySem.F.plainAttrs_str PySem.F.slot_str_startswith PySem.F.type_str_startswith mt_startswith3 (pv 0) (pa_cons pe_str (pa_cons (pv 1) pa_nil)))) (pss_one (ps_ret (pe_call (ok_enclosed_at T) (hr.mono (by decide)) (by rfl) T.g_enclosed_at T.f_enclosed_at.kp T.b_enclosed_at .nil pass0 (pa_cons pe_str (pa_cons pe_str (pa_cons (pv 0) (pa_cons (pv 1) pa_nil))))))) pss_nil)
        (pss_cons (ps_set (i := 2) sc_destination_at.nd rfl (.inl rfl) (pe_call (ok_behind_bare T) (hr.mono (by decide)) (by rfl) T.g_behind_bare T.f_behind_bare.kp T.b_behind_bare .nil pass0 (pa_cons (pv 0) (pa_cons (pv 1) pa_nil))))
        (pss_cons (ps_if (PW.pt (pw_or (pt_cmpR op_isN (pv 2) pe_non (nomark _)) (pw_or1 (pt_cmpR op_eq (pv 2) (pv 1) (nomark _))))) (pss_one (ps_ret pe_non)) pss_nil)
        (pss_one (ps_ret (pe_tup (pa_cons (pv 2) (pa_cons (pe_call (ok_decoded T) (hr.mono (by decide)) (by rfl) T.g_decoded T.f_decoded.kp T.b_decoded .nil pass0 (pa_cons (pe_slice sl_str (pv 0) (po_some (pv 1)) (po_some (pv 2))) pa_nil)) pa_nil)))))))), ?_⟩
    refine ⟨_, rfl, rfl, _, rfl, _, _, _, rfl, rfl, _, rfl, ?_⟩
    rw [show Txt.startswith3 (S t) ("<" : Str) (p : Int) = [60].isPrefixOf (t.drop p) by rw [lit_LT]; exact starts3 t [60] (by simp) p]
    unfold destR at q
    cases h1 : ([60] : List Nat).isPrefixOf (t.drop p) with
    | true =>
      rw [h1, if_pos rfl] at q
      rw [lit_LGT, lit_GT]
      exact iteT ⟨_, rfl, _, rfl, _, _, _, _, rfl, pre1 h1, tp, ha, q⟩
    | false =>
      rw [h1, if_neg Bool.false_ne_true] at q
      refine iteF ⟨_, rfl, _, rfl, t, p, rfl, tp, ?_⟩
      cases hb : bareR (t.drop p) with
      | none =>
        rw [hb] at q
        exact ⟨_, rfl, rfl, _, rfl, iteT (iteT (q H .non (Same.refl _) rfl))⟩
      | some e =>
        rw [hb] at q
        dsimp only at q
        have hs := suf_bare hb
        refine ⟨_, rfl, rfl, _, rfl, iteF ⟨_, rfl, _, rfl, rfl, _, rfl, ?_⟩⟩
        rw [show ov t (some e) = V.int ((pos t e : Nat) : Int) from rfl, int_eq]
        by_cases hp : pos t e = p
        · rw [decide_eq_true hp]
          rw [if_pos ((pos_eq hs tp.le).mp hp)] at q
          exact iteT (q H .non (Same.refl _) rfl)
        · rw [decide_eq_false hp]
          rw [if_neg fun z => hp ((pos_eq hs tp.le).mpr z)] at q
          refine iteF ⟨_, rfl, _, rfl, _, rfl, _, rfl, _, rfl, _, rfl, _, rfl, tp.line, ?_⟩
          rw [up_cut hs tp.le]
          have hlen : (upToL (t.drop p) e).length ≤ 100000 := by
            have h1 := upTo_len (t.drop p) e
            rw [List.length_drop] at h1
            have := tp.sz
            omega
          refine ⟨_, rfl, hlen, (ha.drop _).upTo, fun H1 s1 => ⟨by show 2 ≤ sizeLine; decide, fun r nr => ?_⟩⟩
          exact q _ _ (s1.trans (same_new nr)) ⟨r, rfl, upd_same⟩
def sp_title_at (K : PySem.W.Frag) : Sp := fun vs H Q _ => ∃ (t : List Nat) (p : Nat), vs = [.str (S t), .int (p : Int)] ∧ TP t p ∧ Asc t ∧ ∀ H' v, Same H H' → PV H' v t (titleR (t.drop p)) → Q v H'
theorem lit_dq : ("\"" : Str) = S [34] := by decide +kernel
theorem lit_sq : ("'" : Str) = S [39] := by decide +kernel
theorem lit_pp : ("()" : Str) = S [40, 41] := by decide +kernel
theorem ts_lookup (a b c : Addr) (w : List Nat) : ([("\"", .ref a), ("'", .ref b), ("(", .ref c)] : List (Str × V)).lookup (S w) = if w = [34] then some (.ref a) else if w = [39] then some (.ref b) else if w = [40] then some (.ref c) else none := by
  rw [lit_dq, lit_sq, lit_LP]
  have key : ∀ (x : List Nat), (S w == S x) = (w == x) := fun x => by
    by_cases h : w = x
    · subst h; simp
    · rw [beq_eq_false_iff_ne.mpr h, beq_eq_false_iff_ne.mpr fun z => h (S_inj z)]
  rw [List.lookup_cons, List.lookup_cons, List.lookup_cons, key, key, key]
  by_cases h1 : w = [34]
  · rw [if_pos h1, h1]; rfl
  · rw [if_neg h1, beq_eq_false_iff_ne.mpr h1]
    by_cases h2 : w = [39]
    · rw [if_pos h2, h2]; rfl
    · rw [if_neg h2, beq_eq_false_iff_ne.mpr h2]
      by_cases h3 : w = [40]
      · rw [if_pos h3, h3]; rfl
      · rw [if_neg h3, beq_eq_false_iff_ne.mpr h3]; rfl
theorem ts0 {w : World} {K : PySem.W.Frag} {mg : Str → Option Value} (T : Txt w K mg) (H : Hp) : SqT K H T.e_TITLE_SIGNS_0 [.str (S [34]), .str (S [34])] := by
  rw [← lit_dq]
  exact .inr ⟨_, _, _, T.l_TITLE_SIGNS_0, rfl, rfl, by (show 2 ≤ sizeLine; decide), (.cons ⟨_, rfl⟩ (.cons ⟨_, rfl⟩ .nil))⟩
theorem ts1 {w : World} {K : PySem.W.Frag} {mg : Str → Option Value} (T : Txt w K mg) (H : Hp) : SqT K H T.e_TITLE_SIGNS_1 [.str (S [39]), .str (S [39])] := by
  rw [← lit_sq]
  exact .inr ⟨_, _, _, T.l_TITLE_SIGNS_1, rfl, rfl, by (show 2 ≤ sizeLine; decide), (.cons ⟨_, rfl⟩ (.cons ⟨_, rfl⟩ .nil))⟩
theorem ts2 {w : World} {K : PySem.W.Frag} {mg : Str → Option Value} (T : Txt w K mg) (H : Hp) : SqT K H T.e_TITLE_SIGNS_2 [.str (S [40, 41]), .str (S [41])] := by
  rw [← lit_pp, ← lit_RP]
  exact .inr ⟨_, _, _, T.l_TITLE_SIGNS_2, rfl, rfl, by (show 2 ≤ sizeLine; decide), (.cons ⟨_, rfl⟩ (.cons ⟨_, rfl⟩ .nil))⟩
theorem ok_title_at {P : Program} {w : World} {K : PySem.W.Frag} {mg : Str → Option Value} {base : Heap} (T : Txt w K mg) : FnOk P w K mg base CX0 7 T.a_title_at T.d_title_at ["text", "place"] (sp_title_at K) := by
  refine T.f_title_at.ok sc_title_at (fun vs H Q E h => ?_) (fun cdv A outer s H vs Q E hr h => ?_)
  · obtain ⟨t, p, rfl, _⟩ := h
    rfl
  · obtain ⟨t, p, rfl, tp, ha, q⟩ := h
    refine ⟨_, (pss_cons (ps_set (i := 2) sc_title_at.nd rfl (.inl rfl) (pe_slice sl_str (pv 0) (po_some (pv 1)) (po_some (pe_op op_add (pv 1) pe_int))))
        (pss_cons (ps_if (pt_cmpR (op_notIn_ks T.k_TITLE_SIGNS) (pv 2) (pe_glob (v := .ref T.a_TITLE_SIGNS) rfl T.g_TITLE_SIGNS rfl) (by rfl)) (pss_one (ps_ret pe_non)) pss_nil)
        (pss_cons (ps_asg (pe_ix (ix_ks T.k_TITLE_SIGNS) (pe_glob (v := .ref T.a_TITLE_SIGNS) rfl T.g_TITLE_SIGNS rfl) (pv 2) (fun _ _ => rfl)) (pg_tup (by rfl) (pgs_cons (pg_name (i := 3) sc_title_at.nd rfl (.inl rfl)) (pgs_cons (pg_name (i := 4) sc_title_at.nd rfl (.inl rfl)) pgs_nil))))
        (pss_one (ps_ret (pe_call (ok_enclosed_at T) (hr.mono (by decide)) (by rfl) T.g_enclosed_at T.f_enclosed_at.kp T.b_enclosed_at .nil pass0 (pa_cons (pv 3) (pa_cons (pv 4) (pa_cons (pv 0) (pa_cons (pv 1) pa_nil)))))))))), ?_⟩
    have en : (p : Int) + 1 = ((p + 1 : Nat) : Int) := by omega
    refine ⟨_, rfl, _, rfl, _, rfl, _, rfl, _, _, rfl, rfl, _, rfl, _, rfl, tp.line, ?_⟩
    rw [en, S_cut2 t p (p + 1) (Nat.le_add_right _ _), Nat.add_sub_cancel_left]
    refine ⟨_, rfl, S ((t.drop p).take 1), rfl, rfl, _, rfl, ?_⟩
    have no : (t.drop p).take 1 ≠ [34] → (t.drop p).take 1 ≠ [39] → (t.drop p).take 1 ≠ [40] → Q .non H := fun h1 h2 h3 => by
      refine q H .non (Same.refl _) ?_
      unfold titleR
      split
      · rename_i h; rw [h] at h1; exact absurd rfl h1
      · rename_i h; rw [h] at h2; exact absurd rfl h2
      · rename_i h; rw [h] at h3; exact absurd rfl h3
      · rfl
    have hd1 : ∀ {c : Nat}, (t.drop p).take 1 = [c] → ∃ r, t.drop p = c :: r := fun {c} h => by
      cases hd : t.drop p with
      | nil => rw [hd] at h; cases h
      | cons a r =>
        rw [hd] at h
        have : a = c := (List.cons.inj h).1
        exact ⟨r, by rw [this]⟩
    have hlt : ∀ {c : Nat} {r : List Nat}, t.drop p = c :: r → p < t.length := fun {c r} h => by
      have := congrArg List.length h
      rw [List.length_drop, List.length_cons] at this
      omega
    rw [ts_lookup]
    by_cases h1 : (t.drop p).take 1 = [34]
    · rw [if_pos h1]
      refine iteF ?_
      obtain ⟨r, hr2⟩ := hd1 h1
      refine ⟨_, rfl, S ((t.drop p).take 1), .ref T.e_TITLE_SIGNS_0, rfl, rfl, ?_, ?_⟩
      · rw [ts_lookup, if_pos h1]
      refine ⟨T.e_TITLE_SIGNS_0, _, rfl, ts0 T H, rfl, _, _, rfl, _, _, rfl, rfl, ?_⟩
      refine ⟨_, rfl, _, rfl, _, rfl, _, rfl, [34], 34, t, p, rfl, hlt hr2, tp, ha, fun H1 v s1 hv => q H1 v s1 ?_⟩
      rw [hr2] at hv ⊢
      exact hv
    · rw [if_neg h1]
      by_cases h2 : (t.drop p).take 1 = [39]
      · rw [if_pos h2]
        refine iteF ?_
        obtain ⟨r, hr2⟩ := hd1 h2
        refine ⟨_, rfl, S ((t.drop p).take 1), .ref T.e_TITLE_SIGNS_1, rfl, rfl, ?_, ?_⟩
        · rw [ts_lookup, if_neg h1, if_pos h2]
        refine ⟨T.e_TITLE_SIGNS_1, _, rfl, ts1 T H, rfl, _, _, rfl, _, _, rfl, rfl, ?_⟩
        refine ⟨_, rfl, _, rfl, _, rfl, _, rfl, [39], 39, t, p, rfl, hlt hr2, tp, ha, fun H1 v s1 hv => q H1 v s1 ?_⟩
        rw [hr2] at hv ⊢
        exact hv
      · rw [if_neg h2]
        by_cases h3 : (t.drop p).take 1 = [40]
        · rw [if_pos h3]
          refine iteF ?_
          obtain ⟨r, hr2⟩ := hd1 h3
          refine ⟨_, rfl, S ((t.drop p).take 1), .ref T.e_TITLE_SIGNS_2, rfl, rfl, ?_, ?_⟩
          · rw [ts_lookup, if_neg h1, if_neg h2, if_pos h3]
          refine ⟨T.e_TITLE_SIGNS_2, _, rfl, ts2 T H, rfl, _, _, rfl, _, _, rfl, rfl, ?_⟩
          refine ⟨_, rfl, _, rfl, _, rfl, _, rfl, [40, 41], 41, t, p, rfl, hlt hr2, tp, ha, fun H1 v s1 hv => q H1 v s1 ?_⟩
          rw [hr2] at hv ⊢
          exact hv
        · rw [if_neg h3]
          exact iteT (no h1 h2 h3)

/-! ### menus: lists of tuples of constants -/
theorem tup_ne {H : Hp} {f L : Addr} {xs : List V} (h : H f = some (.tup xs)) (w : Well H L) : f ≠ L := by
  obtain ⟨x, y, e⟩ := w
  exact ne_of h e fun z => by cases z
theorem keeps_upd {L D : Addr} {H H' : Hp} {o : HO} (k : Keeps L H H') (n : H D = none) : Keeps L H (upd H' D o) := fun b x hb e => by
  rw [upd_ne (ne_of_none e n)]
  exact k b x hb e
theorem well_upd {L D : Addr} {H : Hp} {o : HO} (w : Well H L) (n : D ≠ L) : Well (upd H D o) L := by
  obtain ⟨x, y, e⟩ := w
  exact ⟨x, y, by rw [upd_ne n.symm]; exact e⟩
theorem same_upd {D : Addr} {H H' : Hp} {o : HO} (k : Same H H') (n : H D = none) : Same H (upd H' D o) := fun b x e => by
  rw [upd_ne (ne_of_none e n)]
  exact k b x e
def conT : List V → TA
  | [] => tNil
  | v :: vs => tCons (tC v) (conT vs)
theorem con_read : ∀ (vs : List V) (σ : L2.St) (H : Hp) (P : List V → Hp → Prop), P vs H → conT vs σ H P
  | [], _, _, _, h => h
  | v :: vs, σ, H, P, h => con_read vs σ H (fun xs H2 => P (v :: xs) H2) h
def menuT : List (List V) → TA
  | [] => tNil
  | p :: ms => tCons (tTup (conT p)) (menuT ms)
def MAt (H : Hp) (v : V) (p : List V) : Prop := ∃ r, v = .ref r ∧ H r = some (.tup p)
def Menu (H : Hp) (xs : List V) (ms : List (List V)) : Prop := ∀ v ∈ xs, ∃ p ∈ ms, MAt H v p
theorem MAt.same {H H' : Hp} {v : V} {p : List V} (h : MAt H v p) (sm : Same H H') : MAt H' v p := by
  obtain ⟨r, e, h⟩ := h
  exact ⟨r, e, sm _ _ h⟩
theorem Menu.same {H H' : Hp} {xs : List V} {ms : List (List V)} (h : Menu H xs ms) (sm : Same H H') : Menu H' xs ms := fun v hv => by
  obtain ⟨p, hp, h⟩ := h v hv
  exact ⟨p, hp, h.same sm⟩
theorem Menu.keep {L : Addr} {H H' : Hp} {xs : List V} {ms : List (List V)} (h : Menu H xs ms) (w : Well H L) (k : Keeps L H H') : Menu H' xs ms := fun v hv => by
  obtain ⟨p, hp, r, e, h⟩ := h v hv
  exact ⟨p, hp, r, e, k _ _ (tup_ne h w) h⟩
theorem Menu.app {H : Hp} {xs ys : List V} {ms ns : List (List V)} (h : Menu H xs ms) (g : Menu H ys ns) : Menu H (xs ++ ys) (ms ++ ns) := fun v hv => by
  rcases List.mem_append.mp hv with hv | hv
  · obtain ⟨p, hp, h⟩ := h v hv
    exact ⟨p, List.mem_append_left _ hp, h⟩
  · obtain ⟨p, hp, h⟩ := g v hv
    exact ⟨p, List.mem_append_right _ hp, h⟩
theorem menu_read : ∀ (ms : List (List V)) (_ : ∀ p ∈ ms, p.length ≤ 10) (σ : L2.St) (H : Hp) (P : List V → Hp → Prop), (∀ H' xs, Same H H' → Menu H' xs ms → xs.length = ms.length → P xs H') → menuT ms σ H P
  | [], _, σ, H, P, h => h H [] (Same.refl _) (fun _ hv => by cases hv) rfl
  | p :: ms, hs, σ, H, P, h => by
    refine con_read p σ H _ ⟨by have := hs p (List.mem_cons_self ..); rw [sizeLine_eq]; omega, fun r nr => ?_⟩
    refine menu_read ms (fun q hq => hs q (List.mem_cons_of_mem _ hq)) σ _ _ fun H' xs sm hm hl => ?_
    refine h H' (.ref r :: xs) ((same_new nr).trans sm) (fun v hv => ?_) (by rw [List.length_cons, hl, List.length_cons])
    rcases List.mem_cons.mp hv with rfl | hv
    · exact ⟨p, List.mem_cons_self .., r, rfl, sm _ _ upd_same⟩
    · obtain ⟨q, hq, h'⟩ := hm v hv
      exact ⟨q, List.mem_cons_of_mem _ hq, h'⟩
def MsOk (ms : List (List V)) : Prop := ms.length ≤ 100 ∧ ∀ p ∈ ms, p.length ≤ 10
instance (ms : List (List V)) : Decidable (MsOk ms) := inferInstanceAs (Decidable (_ ∧ _))
/-- the list of a menu -/
theorem menu_list (ms : List (List V)) (hs : MsOk ms) (σ : L2.St) (H : Hp) (Q : VK) (h : ∀ H' a xs, Same H H' → H' a = some (.lst xs) → H a = none → Menu H' xs ms → xs.length = ms.length → Q (.ref a) H') : tLst (menuT ms) σ H Q := by
  refine menu_read ms hs.2 σ H _ fun H' xs sm hm hl => ⟨by rw [hl]; exact Nat.le_trans hs.1 (by decide), fun a na => ?_⟩
  refine h _ a xs (sm.trans (same_new na)) upd_same ?_ (hm.same (same_new na)) hl
  cases e : H a with
  | none => rfl
  | some o => rw [sm _ _ e] at na; cases na
theorem cat_menu {σ : L2.St} {H : Hp} {Q : VK} {i : Nat} {a : Addr} {xs : List V} {ms0 : List (List V)} (ms : List (List V)) (hs : MsOk ms) (hi : σ[i]? = some (some (.ref a))) (ha : H a = some (.lst xs)) (hm : Menu H xs ms0) (hl : xs.length ≤ 100)
    (h : ∀ H' c ys, Same H H' → H' c = some (.lst ys) → H c = none → Menu H' ys (ms0 ++ ms) → ys.length = xs.length + ms.length → Q (.ref c) H') : tOp rCat (tVar i) (tLst (menuT ms)) σ H Q := by
  refine ⟨_, hi, menu_list ms hs _ _ _ fun H2 b ys sm2 hb nb hm2 hl2 => ?_⟩
  have ha2 := sm2 _ _ ha
  have h1 := hs.1
  refine ⟨a, b, xs, ys, rfl, rfl, ha2, hb, by rw [hl2, sizeLine_eq]; omega, fun p np => ?_⟩
  have np0 : H p = none := by
    cases e : H p with
    | none => rfl
    | some o => rw [sm2 _ _ e] at np; cases np
  exact h _ p (xs ++ ys) (sm2.trans (same_new np)) upd_same np0 (((hm.same sm2).app hm2).same (same_new np)) (by rw [List.length_append, hl2])
/-- one of a menu that stands at an address -/
theorem one_at {K : PySem.W.Frag} {ms : List (List V)} {xs : List V} {a : Addr} {H : Hp} {Q : VK} {L : Addr} {E : XK} (w : Well H L) (ha : H a = some (.lst xs)) (hL : a ≠ L) (hm : Menu H xs ms) (h0 : xs ≠ []) (hl : xs.length ≤ 1000)
    (h : ∀ H' r p, Keeps L H H' → Well H' L → p ∈ ms → H' r = some (.tup p) → Q (.ref r) H') : sp__law_one K [.ref L, .ref a] H Q E := by
  refine ⟨L, a, xs, rfl, SqL.of ha, hL, h0, by omega, w, fun H2 v k2 w2 hv => ?_⟩
  obtain ⟨p, hp, r, rfl, hr⟩ := (hm.keep w k2) v hv
  exact h H2 r p k2 w2 hp hr
/-- one of a written menu -/
theorem one_menu {K : PySem.W.Frag} (ms : List (List V)) (h0 : ms ≠ []) (hs : MsOk ms) {σ : L2.St} {H : Hp} {Q : VK} {L : Addr} (w : Well H L) {i : Nat} (hi : σ[i]? = some (some (.ref L)))
    (h : ∀ H' r p, Keeps L H H' → Well H' L → p ∈ ms → H' r = some (.tup p) → Q (.ref r) H') :
    tCall (sp__law_one K) [] E0 (tCons (tVar i) (tCons (tLst (menuT ms)) tNil)) σ H Q := by
  refine ⟨_, hi, menu_list ms hs σ H _ fun H1 a xs sm ha na hm hl => ?_⟩
  have h1 := hs.1
  show sp__law_one K [.ref L, .ref a] H1 Q E0
  exact one_at (w.same sm) ha (w.ne na) hm (by intro z; rw [z] at hl; exact h0 (List.eq_nil_of_length_eq_zero hl.symm)) (by omega) fun H2 r p k2 w2 hp hr => h H2 r p ((Keeps.of sm).trans k2) w2 hp hr
/-- one of a list and a written menu behind it -/
theorem one_cat {K : PySem.W.Frag} {ms0 : List (List V)} {xs : List V} {a : Addr} (ms : List (List V)) (hs : MsOk ms) {σ : L2.St} {H : Hp} {Q : VK} {L : Addr} (w : Well H L) {i j : Nat} (hi : σ[i]? = some (some (.ref L))) (hj : σ[j]? = some (some (.ref a)))
    (ha : H a = some (.lst xs)) (hm : Menu H xs ms0) (h0 : xs ≠ []) (hl : xs.length ≤ 100)
    (h : ∀ H' r p, Keeps L H H' → Well H' L → p ∈ ms0 ++ ms → H' r = some (.tup p) → Q (.ref r) H') :
    tCall (sp__law_one K) [] E0 (tCons (tVar i) (tCons (tOp rCat (tVar j) (tLst (menuT ms))) tNil)) σ H Q := by
  refine ⟨_, hi, cat_menu ms hs hj ha hm hl fun H1 c ys sm hc nc hm1 hl1 => ?_⟩
  have h1 := hs.1
  show sp__law_one K [.ref L, .ref c] H1 Q E0
  exact one_at (w.same sm) hc (w.ne nc) hm1 (by intro z; rw [z] at hl1; have := List.length_pos_iff.mpr h0; simp at hl1; omega) (by omega) fun H2 r p k2 w2 hp hr => h H2 r p ((Keeps.of sm).trans k2) w2 hp hr
/-- one of some texts -/
theorem con_texts (ms : List Str) : (ms.map fun s => V.str s) = ms.map .str := rfl
theorem one_text {K : PySem.W.Frag} (ms : List (List Nat)) {vs : List V} (e : vs = ms.map fun s => V.str (S s)) (h0 : ms ≠ []) (hs : ms.length ≤ 100) {σ : L2.St} {H : Hp} {Q : VK} {L : Addr} (w : Well H L) {i : Nat} (hi : σ[i]? = some (some (.ref L)))
    (h : ∀ H' s, Keeps L H H' → Well H' L → s ∈ ms → Q (.str (S s)) H') :
    tCall (sp__law_one K) [] E0 (tCons (tVar i) (tCons (tLst (conT vs)) tNil)) σ H Q := by
  subst e
  refine ⟨_, hi, con_read _ σ H _ ⟨by rw [List.length_map]; exact Nat.le_trans hs (by decide), fun a na => ?_⟩⟩
  refine ⟨L, a, _, rfl, SqL.of upd_same, w.ne na, by simpa using h0, by rw [List.length_map]; omega, w.new na, fun H2 v k2 w2 hv => ?_⟩
  obtain ⟨s, hs, rfl⟩ := List.mem_map.mp hv
  exact h H2 s ((Keeps.new na).trans k2) w2 hs
theorem p0 (x y : V) : atI [x, y] 0 = some x := atI_nat (j := 0) rfl
theorem p1 (x y : V) : atI [x, y] 1 = some y := atI_nat (j := 1) rfl
/-- the draw of a number -/
theorem one_draw {K : PySem.W.Frag} {σ : L2.St} {H : Hp} {Q : VK} {L : Addr} (m : Nat) (hm : 0 < m ∧ m < 1000000) (w : Well H L) {i : Nat} (hi : σ[i]? = some (some (.ref L)))
    (h : ∀ H' (d : Nat), Keeps L H H' → Well H' L → d < m → Q (.int (d : Nat)) H') :
    tCall (sp__law_draw K) [] E0 (tCons (tVar i) (tCons (tC (.int (m : Nat))) tNil)) σ H Q :=
  ⟨_, hi, L, (m : Int), rfl, by omega, by omega, w, fun H' d k w' h0 h1 => by
    obtain ⟨j, rfl⟩ := Int.eq_ofNat_of_zero_le h0
    exact h H' j k w' (by omega)⟩
theorem seq_if_g {c : TT} {a b u : TS} {D : Ends} {σ : L2.St} {H : Hp} {i : Nat} {x : V} (P : L2.St → Hp → Prop) (h1 : ∀ N : L2.St → Hp → Prop, (∀ σ' H', P σ' H' → N σ' H') → tIfS c a b { D with nx := N } (σ.set i (some x)) H) (h2 : ∀ σ' H', P σ' H' → u D σ' H') :
    gName i x σ H { D with nx := tSeq (tIfS c a b) u D }.nx := h1 _ h2
theorem asg_if2 {t : TT} {ta tb : TE} {g : TG} {u : TS} {D : Ends} {σ : L2.St} {H : Hp} (R : Hp → Prop) (P : V → Hp → Prop) (ht : ∀ Qb : Bool → Hp → Prop, (∀ b H', R H' → Qb b H') → t σ H Qb) (ha : ∀ H', R H' → ValB ta σ H' P) (hb : ∀ H', R H' → ValB tb σ H' P)
    (hq : ∀ v H', P v H' → g v σ H' (u D)) : tSeq (tAsg (tIf t ta tb) g) u D σ H :=
  ht _ fun b H' r => by
    cases b with
    | true =>
      show (if true = true then _ else _)
      rw [if_pos rfl]
      exact ha H' r _ hq
    | false =>
      show (if false = true then _ else _)
      rw [if_neg Bool.false_ne_true]
      exact hb H' r _ hq
theorem asg_if2_g {t : TT} {ta tb : TE} {g : TG} {u : TS} {D : Ends} {σ : L2.St} {H : Hp} {i : Nat} {x : V} (R : Hp → Prop) (P : V → Hp → Prop) (ht : ∀ Qb : Bool → Hp → Prop, (∀ b H', R H' → Qb b H') → t (σ.set i (some x)) H Qb) (ha : ∀ H', R H' → ValB ta (σ.set i (some x)) H' P) (hb : ∀ H', R H' → ValB tb (σ.set i (some x)) H' P)
    (hq : ∀ v H', P v H' → g v (σ.set i (some x)) H' (u D)) : gName i x σ H { D with nx := tSeq (tAsg (tIf t ta tb) g) u D }.nx := asg_if2 R P ht ha hb hq
theorem asg_if_g {t : TT} {ta tb : TE} {g : TG} {u : TS} {D : Ends} {σ : L2.St} {H : Hp} {i : Nat} {x : V} (P : V → Hp → Prop) (b : Bool) (ht : AnsB t (σ.set i (some x)) H b) (ha : b = true → ValB ta (σ.set i (some x)) H P) (hb : b = false → ValB tb (σ.set i (some x)) H P)
    (hq : ∀ v H', P v H' → g v (σ.set i (some x)) H' (u D)) : gName i x σ H { D with nx := tSeq (tAsg (tIf t ta tb) g) u D }.nx := asg_if P b ht ha hb hq
theorem S_cut_last (l : List Nat) : cutS (S l) none (some (-1)) = S l.dropLast := by
  unfold cutS
  rw [HT.sIx_none, S_len, S_tl]
  show S _ = S _
  congr 1
  rw [List.drop_zero, Nat.sub_zero]
  have : HT.sIx l.length l.length (some (-1)) = l.length - 1 := by
    show (if (-1 : Int) < 0 then ((-1 : Int) + (l.length : Int)).toNat else min (-1 : Int).toNat l.length) = _
    rw [if_pos (by decide)]
    omega
  rw [this, List.dropLast_eq_take]
def AnsV (t : TE) (σ : L2.St) (H : Hp) (c : Bool) : Prop := ∀ Q : VK, Q (.bl c) H → t σ H Q
theorem andV {ta tb : TE} {σ : L2.St} {H : Hp} {a b : Bool} (ha : AnsV ta σ H a) (hb : AnsV tb σ H b) : AnsV (tAndV ta tb) σ H (a && b) := fun Q q => by
  refine ha _ ⟨a, rfl, ?_⟩
  cases a with
  | true => exact hb _ q
  | false => exact q
theorem orV {ta tb : TE} {σ : L2.St} {H : Hp} {a b : Bool} (ha : AnsV ta σ H a) (hb : AnsV tb σ H b) : AnsV (tOrV ta tb) σ H (a || b) := fun Q q => by
  refine ha _ ⟨a, rfl, ?_⟩
  cases a with
  | true => exact q
  | false => exact hb _ q

def sp_behind_line (K : PySem.W.Frag) : Sp := fun vs H Q _ => ∃ (t : List Nat) (p : Nat), vs = [.str (S t), .int (p : Int)] ∧ TP t p ∧ Q (ov t (lineR (t.drop p))) H
theorem ok_behind_line {P : Program} {w : World} {K : PySem.W.Frag} {mg : Str → Option Value} {base : Heap} (T : Txt w K mg) : FnOk P w K mg base CX0 2 T.a_behind_line T.d_behind_line ["text", "place"] (sp_behind_line K) := by
  refine T.f_behind_line.ok sc_behind_line (fun vs H Q E h => ?_) (fun cdv A outer s H vs Q E hr h => ?_)
  · obtain ⟨t, p, rfl, _⟩ := h
    rfl
  · obtain ⟨t, p, rfl, tp, q⟩ := h
    refine ⟨_, (pss_cons (ps_set (i := 2) sc_behind_line.nd rfl (.inl rfl) (pe_call (ok_behind_all T) (hr.mono (by decide)) (by rfl) T.g_behind_all T.f_behind_all.kp T.b_behind_all .nil pass0 (pa_cons (pe_glob (v := .str " \t") rfl T.g_WHITE ⟨_, rfl⟩) (pa_cons (pv 0) (pa_cons (pv 1) pa_nil)))))
        (pss_cons (ps_if (pt_cmpR op_eq (pv 2) (pe_callB call_len_str (by rfl) T.z_len PySem.boot_len (pa_cons (pv 0) pa_nil)) (nomark _)) (pss_one (ps_ret (pv 2))) pss_nil)
        (pss_one (ps_ret (pe_call (ok_behind_sign T) (hr.mono (by decide)) (by rfl) T.g_behind_sign T.f_behind_sign.kp T.b_behind_sign .nil pass0 (pa_cons pe_str (pa_cons (pv 0) (pa_cons (pv 2) pa_nil)))))))), ?_⟩
    rw [lit_WH]
    refine ⟨_, rfl, _, rfl, [32, 9], t, p, rfl, tp, ?_⟩
    unfold lineR at q
    have hs : ba [32, 9] (t.drop p) <:+ t := suf_of (suf_dw _ _)
    generalize ba [32, 9] (t.drop p) = e at hs q ⊢
    refine ⟨_, rfl, _, rfl, _, rfl, tp.line, rfl, _, rfl, ?_⟩
    rw [S_len, int_eq]
    by_cases he : e = []
    · subst he
      rw [if_pos rfl] at q
      rw [decide_eq_true (by unfold pos; simp)]
      exact iteT ⟨_, rfl, q⟩
    · rw [if_neg he] at q
      have : 1 ≤ e.length := by
        cases e with
        | nil => exact absurd rfl he
        | cons a b => simp
      have h2 := hs.length_le
      rw [decide_eq_false (by unfold pos; omega)]
      rw [lit_nl]
      refine iteF ⟨_, rfl, _, rfl, 10, t, pos t e, rfl, ⟨pos_le _ _, tp.sz⟩, ?_⟩
      rw [pos_drop hs]
      exact q
def sp_title_and_line (K : PySem.W.Frag) : Sp := fun vs H Q _ => ∃ (t : List Nat) (p : Nat), vs = [.str (S t), .int (p : Int)] ∧ TP t p ∧ Asc t ∧ ∀ H' v, Same H H' → PV H' v t (tailR (t.drop p)) → Q v H'
theorem ok_title_and_line {P : Program} {w : World} {K : PySem.W.Frag} {mg : Str → Option Value} {base : Heap} (T : Txt w K mg) : FnOk P w K mg base CX0 8 T.a_title_and_line T.d_title_and_line ["text", "place"] (sp_title_and_line K) := by
  refine T.f_title_and_line.ok sc_title_and_line (fun vs H Q E h => ?_) (fun cdv A outer s H vs Q E hr h => ?_)
  · obtain ⟨t, p, rfl, _⟩ := h
    rfl
  · obtain ⟨t, p, rfl, tp, ha, q⟩ := h
    refine ⟨_, (pss_cons (ps_set (i := 2) sc_title_and_line.nd rfl (.inl rfl) (pe_call (ok_behind_gap T) (hr.mono (by decide)) (by rfl) T.g_behind_gap T.f_behind_gap.kp T.b_behind_gap .nil pass0 (pa_cons (pv 0) (pa_cons (pv 1) pa_nil))))
        (pss_cons (ps_set (i := 3) sc_title_and_line.nd rfl (.inl rfl) (pe_call (ok_title_at T) (hr.mono (by decide)) (by rfl) T.g_title_at T.f_title_at.kp T.b_title_at .nil pass0 (pa_cons (pv 0) (pa_cons (pv 2) pa_nil))))
        (pss_cons (ps_if (PW.pt (pw_or (pt_cmpR op_eq (pv 2) (pv 1) (nomark _)) (pw_or1 (pt_cmpR op_isN (pv 3) pe_non (nomark _))))) (pss_one (ps_ret pe_non)) pss_nil)
        (pss_cons (ps_set (i := 4) sc_title_and_line.nd rfl (.inl rfl) (pe_call (ok_behind_line T) (hr.mono (by decide)) (by rfl) T.g_behind_line T.f_behind_line.kp T.b_behind_line .nil pass0 (pa_cons (pv 0) (pa_cons (pe_ix ix_tup (pv 3) pe_int (fun _ _ => rfl)) pa_nil))))
        (pss_cons (ps_if (pt_cmpR op_isN (pv 4) pe_non (nomark _)) (pss_one (ps_ret pe_non)) pss_nil)
        (pss_one (ps_ret (pe_tup (pa_cons (pv 4) (pa_cons (pe_ix ix_tup (pv 3) pe_int (fun _ _ => rfl)) pa_nil)))))))))), ?_⟩
    refine ⟨_, rfl, _, rfl, t, p, rfl, tp, ?_⟩
    have hg := suf_gap (t.drop p)
    have hs := suf_of hg
    have hpe := pos_eq hg tp.le
    unfold tailR at q
    refine ⟨_, rfl, _, rfl, t, pos t (gapR (t.drop p)), rfl, ⟨pos_le _ _, tp.sz⟩, ha, fun H1 v s1 hv => ?_⟩
    rw [pos_drop hs] at hv
    refine ⟨_, rfl, _, rfl, rfl, _, rfl, ?_⟩
    rw [int_eq]
    by_cases hp : pos t (gapR (t.drop p)) = p
    · rw [decide_eq_true hp]
      rw [if_pos (hpe.mp hp)] at q
      exact iteT (iteT (q H1 .non s1 rfl))
    · rw [decide_eq_false hp]
      rw [if_neg fun z => hp (hpe.mpr z)] at q
      refine iteF ?_
      cases ht : titleR (gapR (t.drop p)) with
      | none =>
        rw [ht] at q hv
        have hv' : v = .non := hv
        subst hv'
        exact ⟨_, rfl, rfl, _, rfl, iteT (q H1 .non s1 rfl)⟩
      | some x =>
        obtain ⟨d, r⟩ := x
        rw [ht] at q hv
        obtain ⟨a, rfl, ha2⟩ := hv
        have hr3 : r <:+ t := (suf_title ht).trans hs
        refine ⟨_, rfl, rfl, _, rfl, iteF ?_⟩
        refine ⟨_, rfl, _, rfl, a, _, _, _, rfl, rfl, SqT.of ha2, p0 _ _, t, pos t r, rfl, ⟨pos_le _ _, tp.sz⟩, ?_⟩
        rw [pos_drop hr3]
        cases hl : lineR r with
        | none =>
          have q' : ∀ (H' : Hp) (v : V), Same H H' → PV H' v t none → Q v H' := by
            dsimp only at q
            rw [hl] at q
            exact q
          exact ⟨_, rfl, rfl, _, rfl, iteT (q' H1 .non s1 rfl)⟩
        | some r' =>
          have q' : ∀ (H' : Hp) (v : V), Same H H' → PV H' v t (some (d, r')) → Q v H' := by
            dsimp only at q
            rw [hl] at q
            exact q
          refine ⟨_, rfl, rfl, _, rfl, iteF ?_⟩
          refine ⟨_, rfl, _, rfl, a, _, _, _, rfl, rfl, SqT.of ha2, p1 _ _, by show 2 ≤ sizeLine; decide, fun p np => ?_⟩
          exact q' _ _ (s1.trans (same_new np)) ⟨p, rfl, upd_same⟩
/-- what a definition is told by -/
def tv : Option (List Nat) → V
  | none => .non
  | some x => .str (S x)
def DV (H : Hp) (v : V) (t : List Nat) : Option Def → Prop
  | none => v = .non
  | some d => ∃ a, v = .ref a ∧ H a = some (.tup [.int ((pos t d.rest : Nat) : Int), .str (S (normR d.words)), .str (S d.dest), tv d.title])
def sp_definition_at (K : PySem.W.Frag) : Sp := fun vs H Q _ => ∃ (t : List Nat) (p : Nat), vs = [.str (S t), .int (p : Int)] ∧ TP t p ∧ Asc t ∧ ∀ H' v, Same H H' → DV H' v t (defR (t.drop p)) → Q v H'
theorem label_asc {l w r : List Nat} (h : labelR l = some (w, r)) (ha : Asc l) : Asc w := by
  obtain ⟨e, _⟩ := label_parts h
  intro c hc
  exact ha c (by rw [e]; exact List.mem_cons_of_mem _ (List.mem_append_left _ hc))
set_option maxHeartbeats 4000000 in
theorem ok_definition_at {P : Program} {w : World} {K : PySem.W.Frag} {mg : Str → Option Value} {base : Heap} (T : Txt w K mg) : FnOk P w K mg base CX0 9 T.a_definition_at T.d_definition_at ["text", "place"] (sp_definition_at K) := by
  refine T.f_definition_at.ok sc_definition_at (fun vs H Q E h => ?_) (fun cdv A outer s H vs Q E hr h => ?_)
  · obtain ⟨t, p, rfl, _⟩ := h
    rfl
  · obtain ⟨t, p, rfl, tp, ha, q⟩ := h
    refine ⟨_, (pss_cons (ps_set (i := 2) sc_definition_at.nd rfl (.inl rfl) (pe_call (ok_label_at T) (hr.mono (by decide)) (by rfl) T.g_label_at T.f_label_at.kp T.b_label_at .nil pass0 (pa_cons (pv 0) (pa_cons (pv 1) pa_nil))))
        (pss_cons (ps_if (pt_cmpR op_isN (pv 2) pe_non (nomark _)) (pss_one (ps_ret pe_non)) pss_nil)
        (pss_cons (ps_asg (pv 2) (pg_tup (by rfl) (pgs_cons (pg_name (i := 3) sc_definition_at.nd rfl (.inl rfl)) (pgs_cons (pg_name (i := 4) sc_definition_at.nd rfl (.inl rfl)) pgs_nil))))
        (pss_cons (ps_if (pt_not (pt_val (pe_bm PySem.F.plainAttrs_str PySem.F.slot_str_startswith PySem.F.type_str_startswith mt_startswith3 (pv 0) (pa_cons pe_str (pa_cons (pv 3) pa_nil))))) (pss_one (ps_ret pe_non)) pss_nil)
        (pss_cons (ps_set (i := 5) sc_definition_at.nd rfl (.inl rfl) (pe_call (ok_destination_at T) (hr.mono (by decide)) (by rfl) T.g_destination_at T.f_destination_at.kp T.b_destination_at .nil pass0 (pa_cons (pv 0) (pa_cons (pe_call (ok_behind_gap T) (hr.mono (by decide)) (by rfl) T.g_behind_gap T.f_behind_gap.kp T.b_behind_gap .nil pass0 (pa_cons (pv 0) (pa_cons (pe_op op_add (pv 3) pe_int) pa_nil))) pa_nil))))
        (pss_cons (ps_if (pt_cmpR op_isN (pv 5) pe_non (nomark _)) (pss_one (ps_ret pe_non)) pss_nil)
        (pss_cons (ps_asg (pv 5) (pg_tup (by rfl) (pgs_cons (pg_name (i := 3) sc_definition_at.nd rfl (.inl rfl)) (pgs_cons (pg_name (i := 6) sc_definition_at.nd rfl (.inl rfl)) pgs_nil))))
        (pss_cons (ps_set (i := 7) sc_definition_at.nd rfl (.inl rfl) (pe_call (ok_title_and_line T) (hr.mono (by decide)) (by rfl) T.g_title_and_line T.f_title_and_line.kp T.b_title_and_line .nil pass0 (pa_cons (pv 0) (pa_cons (pv 3) pa_nil))))
        (pss_cons (ps_if (pt_cmpR op_isN (pv 7) pe_non (nomark _)) (pss_one (ps_set (i := 7) sc_definition_at.nd rfl (.inl rfl) (pe_tup (pa_cons (pe_call (ok_behind_line T) (hr.mono (by decide)) (by rfl) T.g_behind_line T.f_behind_line.kp T.b_behind_line .nil pass0 (pa_cons (pv 0) (pa_cons (pv 3) pa_nil))) (pa_cons pe_non pa_nil))))) pss_nil)
        (pss_cons (ps_asg (pv 7) (pg_tup (by rfl) (pgs_cons (pg_name (i := 3) sc_definition_at.nd rfl (.inl rfl)) (pgs_cons (pg_name (i := 8) sc_definition_at.nd rfl (.inl rfl)) pgs_nil))))
        (pss_cons (ps_if (pt_cmpR op_isN (pv 3) pe_non (nomark _)) (pss_one (ps_ret pe_non)) pss_nil)
        (pss_one (ps_ret (pe_tup (pa_cons (pv 3) (pa_cons (pe_call (ok_normalised T) (hr.mono (by decide)) (by rfl) T.g_normalised T.f_normalised.kp T.b_normalised .nil pass0 (pa_cons (pv 4) pa_nil)) (pa_cons (pv 6) (pa_cons (pv 8) pa_nil)))))))))))))))))), ?_⟩
    unfold defR at q
    refine ⟨_, rfl, _, rfl, t, p, rfl, tp, fun H1 v s1 hv => ?_⟩
    cases hl : labelR (t.drop p) with
    | none =>
      rw [hl] at q hv
      have hv' : v = .non := hv
      subst hv'
      exact ⟨_, rfl, rfl, _, rfl, iteT (q H1 .non s1 rfl)⟩
    | some x =>
      obtain ⟨w, r⟩ := x
      rw [hl] at q hv
      obtain ⟨a, rfl, ha2⟩ := hv
      have hr3 : r <:+ t := suf_of (suf_label hl)
      refine ⟨_, rfl, rfl, _, rfl, iteF ?_⟩
      refine ⟨_, rfl, a, _, rfl, SqT.of ha2, rfl, _, _, rfl, _, _, rfl, rfl, ?_⟩
      refine ⟨_, rfl, rfl, _, rfl, _, _, _, rfl, rfl, _, rfl, ?_⟩
      rw [lit_colon, starts_pos 58 hr3]
      dsimp only at q
      cases hc : ([58] : List Nat).isPrefixOf r with
      | false =>
        rw [hc, if_neg Bool.false_ne_true] at q
        exact iteT (q H1 .non s1 rfl)
      | true =>
        rw [hc, if_pos rfl] at q
        refine iteF ?_
        have h1 := pre_one hc
        have h2 := hr3.length_le
        have en : ((pos t r : Nat) : Int) + 1 = ((pos t r + 1 : Nat) : Int) := by omega
        have hp1 : pos t r + 1 ≤ t.length := by unfold pos; omega
        refine ⟨_, rfl, _, rfl, _, rfl, _, _, rfl, rfl, t, pos t r + 1, congrArg (fun z => [V.str (S t), V.int z]) en, ⟨hp1, tp.sz⟩, ?_⟩
        rw [drop_pos1 hr3]
        have hg : gapR (r.drop 1) <:+ t := (suf_gap _).trans ((List.drop_suffix _ _).trans hr3)
        refine ⟨t, pos t (gapR (r.drop 1)), rfl, ⟨pos_le _ _, tp.sz⟩, ha, fun H2 v2 s2 hv2 => ?_⟩
        rw [pos_drop hg] at hv2
        have s12 := s1.trans s2
        cases hd : destR (gapR (r.drop 1)) with
        | none =>
          rw [hd] at q hv2
          have hv' : v2 = .non := hv2
          subst hv'
          exact ⟨_, rfl, rfl, _, rfl, iteT (q H2 .non s12 rfl)⟩
        | some x =>
          obtain ⟨d, r2⟩ := x
          rw [hd] at q hv2
          dsimp only at q
          obtain ⟨a2, rfl, ha3⟩ := hv2
          have hr4 : r2 <:+ t := (suf_dest hd).trans hg
          refine ⟨_, rfl, rfl, _, rfl, iteF ?_⟩
          refine ⟨_, rfl, a2, _, rfl, SqT.of ha3, rfl, _, _, rfl, _, _, rfl, rfl, ?_⟩
          refine ⟨_, rfl, _, rfl, t, pos t r2, rfl, ⟨pos_le _ _, tp.sz⟩, ha, fun H3 v3 s3 hv3 => ?_⟩
          rw [pos_drop hr4] at hv3
          have s13 := s12.trans s3
          have hwa := label_asc hl (ha.drop p)
          have hwl := (label_parts hl).2.1
          have hag := label_again hl
          unfold endR at q
          cases htl : tailR r2 with
          | some x =>
            obtain ⟨ti, r'⟩ := x
            rw [htl] at q hv3
            dsimp only at q
            obtain ⟨a3, rfl, ha4⟩ := hv3
            refine ⟨_, rfl, rfl, _, rfl, iteF ?_⟩
            refine ⟨_, rfl, a3, _, rfl, SqT.of ha4, rfl, _, _, rfl, _, _, rfl, rfl, ?_⟩
            refine ⟨_, rfl, rfl, _, rfl, iteF ?_⟩
            refine ⟨_, rfl, _, rfl, w, rfl, hwl, hwa, hag, fun H4 s4 => ⟨_, rfl, _, rfl, by show 4 ≤ sizeLine; decide, fun p np => ?_⟩⟩
            exact q _ _ ((s13.trans s4).trans (same_new np)) ⟨p, rfl, upd_same⟩
          | none =>
            rw [htl] at q hv3
            dsimp only at q
            have hv' : v3 = .non := hv3
            subst hv'
            refine ⟨_, rfl, rfl, _, rfl, iteT ?_⟩
            refine ⟨_, rfl, _, rfl, t, pos t r2, rfl, ⟨pos_le _ _, tp.sz⟩, ?_⟩
            rw [pos_drop hr4]
            refine ⟨by show 2 ≤ sizeLine; decide, fun p np => ?_⟩
            refine ⟨_, rfl, p, _, rfl, SqT.of upd_same, rfl, _, _, rfl, _, _, rfl, rfl, ?_⟩
            have s14 := s13.trans (same_new (o := .tup [ov t (lineR r2), .non]) np)
            cases hln : lineR r2 with
            | none =>
              rw [hln] at q s14
              exact ⟨_, rfl, rfl, _, rfl, iteT (q _ .non s14 rfl)⟩
            | some r' =>
              rw [hln] at q s14
              have eo : ov t (some r') = V.int ((pos t r' : Nat) : Int) := rfl
              rw [eo] at s14 ⊢
              have q' : ∀ (H' : Hp) (v : V), Same H H' → DV H' v t (some ⟨r', w, d, none⟩) → Q v H' := q
              clear q hv3
              refine ⟨_, rfl, rfl, _, rfl, ?_⟩
              rw [decide_eq_false (by intro z; cases z)]
              refine iteF ?_
              refine ⟨_, rfl, _, rfl, w, rfl, hwl, hwa, hag, fun H4 s4 => ⟨_, rfl, _, rfl, by show 4 ≤ sizeLine; decide, fun p2 np2 => ?_⟩⟩
              exact q' _ _ ((s14.trans s4).trans (same_new np2)) ⟨p2, rfl, upd_same⟩

/-! ### the law: what it draws -/
theorem lab1 : ([[.str "a", .str "a"], [.str "B c", .str "b c"], [.str " x  y ", .str "x y"], [.str "q\nR", .str "q r"], [.str "a\\]", .str "a\\]"], [.str "*", .str "*"]] ++ [[.str "&amp;", .str "&amp;"]] : List (List V)) = LabelL.map fun p => [.str (S p.1), .str (S p.2)] := by decide +kernel
def Lb1 : List (List V) := [[.str "a", .str "a"], [.str "B c", .str "b c"], [.str " x  y ", .str "x y"], [.str "q\nR", .str "q r"], [.str "a\\]", .str "a\\]"], [.str "*", .str "*"]]
def Lb2 : List (List V) := [[.str "&amp;", .str "&amp;"]]
theorem lb1_ok : MsOk Lb1 := by decide +kernel
theorem lb2_ok : MsOk Lb2 := by decide +kernel
def sp__law_label (K : PySem.W.Frag) : Sp := fun vs H Q _ => ∃ L : Addr, vs = [.ref L] ∧ Well H L ∧ ∀ H' r p, Keeps L H H' → Well H' L → p ∈ LabelL → H' r = some (.tup [.str (S p.1), .str (S p.2)]) → Q (.ref r) H'
theorem ok__law_label {P : Program} {w : World} {K : PySem.W.Frag} {mg : Str → Option Value} {base : Heap} (T : Txt w K mg) : FnOk P w K mg base CX0 3 T.a__law_label T.d__law_label ["_law_well_here"] (sp__law_label K) := by
  refine T.f__law_label.ok sc__law_label (fun vs H Q E h => ?_) (fun cdv A outer s H vs Q E hr h => ?_)
  · obtain ⟨L, rfl, _⟩ := h
    rfl
  · obtain ⟨L, rfl, hW, q⟩ := h
    refine ⟨_, (pss_cons (ps_set (i := 1) sc__law_label.nd rfl (.inl rfl) (pe_lst (pa_cons (pe_tup (pa_cons pe_str (pa_cons pe_str pa_nil))) (pa_cons (pe_tup (pa_cons pe_str (pa_cons pe_str pa_nil))) (pa_cons (pe_tup (pa_cons pe_str (pa_cons pe_str pa_nil))) (pa_cons (pe_tup (pa_cons pe_str (pa_cons pe_str pa_nil))) (pa_cons (pe_tup (pa_cons pe_str (pa_cons pe_str pa_nil))) (pa_cons (pe_tup (pa_cons pe_str (pa_cons pe_str pa_nil))) pa_nil))))))))
        (pss_one (ps_ret (pe_call (ok__law_one T) (hr.mono (by decide)) (by rfl) T.g__law_one T.f__law_one.kp T.b__law_one .nil pass0 (pa_cons (pv 0) (pa_cons (pe_op op_cat (pv 1) (pe_lst (pa_cons (pe_tup (pa_cons pe_str (pa_cons pe_str pa_nil))) pa_nil))) pa_nil)))))), ?_⟩
    unfold tSeq tAsg
    dsimp only
    refine menu_list Lb1 lb1_ok _ _ _ fun H2 a2 xs2 s2 h2 n2 m2 l2 => ?_
    refine one_cat Lb2 lb2_ok (hW.same s2) rfl rfl h2 m2 (by intro z; rw [z] at l2; cases l2) (by rw [l2]; decide) fun H5 r p k5 w5 hp hr5 => ?_
    rw [show Lb1 ++ Lb2 = _ from lab1] at hp
    obtain ⟨x, hx, rfl⟩ := List.mem_map.mp hp
    exact q _ r x ((Keeps.of s2).trans k5) w5 hx hr5
theorem gapsT : ([.str "", .str " ", .str "\n", .str "  \n ", .str "\t", .str " \n", .str "\n  "] : List V) = GapT.map fun g => V.str (S g) := by decide +kernel
theorem gapsF : ([.str "\n\n", .str " \n \n", .str "\n\n "] : List V) = GapF.map fun g => V.str (S g) := by decide +kernel
def GapSp (least : Bool) (g : List Nat) (b : Bool) : Prop := (b = true ∧ g ∈ GapT.drop (if least = true then 1 else 0)) ∨ (b = false ∧ g ∈ GapF)
def sp__law_gap (K : PySem.W.Frag) : Sp := fun vs H Q _ => ∃ (L : Addr) (least : Bool), vs = [.ref L, .bl least] ∧ Well H L ∧
  ∀ H' r g b, Keeps L H H' → Well H' L → GapSp least g b → H' r = some (.tup [.str (S g), .bl b]) → Q (.ref r) H'
theorem cut_list (xs : List V) (k : Nat) : cutV xs (some (k : Int)) none = xs.drop (min k xs.length) := by
  unfold cutV
  rw [HT.sIx_nat, HT.sIx_none]
  exact List.take_of_length_le (by rw [List.length_drop]; omega)
theorem ok__law_gap {P : Program} {w : World} {K : PySem.W.Frag} {mg : Str → Option Value} {base : Heap} (T : Txt w K mg) : FnOk P w K mg base CX0 3 T.a__law_gap T.d__law_gap ["_law_well_here", "_law_least"] (sp__law_gap K) := by
  refine T.f__law_gap.ok sc__law_gap (fun vs H Q E h => ?_) (fun cdv A outer s H vs Q E hr h => ?_)
  · obtain ⟨L, least, rfl, _⟩ := h
    rfl
  · obtain ⟨L, least, rfl, hW, q⟩ := h
    refine ⟨_, (pss_cons (ps_set (i := 2) sc__law_gap.nd rfl (.inl rfl) (pe_lst (pa_cons pe_str (pa_cons pe_str (pa_cons pe_str (pa_cons pe_str (pa_cons pe_str (pa_cons pe_str (pa_cons pe_str pa_nil)))))))))
        (pss_cons (ps_set (i := 3) sc__law_gap.nd rfl (.inl rfl) (pe_call (ok__law_one T) (hr.mono (by decide)) (by rfl) T.g__law_one T.f__law_one.kp T.b__law_one .nil pass0 (pa_cons (pv 0) (pa_cons (pe_slice sl_list (pv 2) (po_some (pe_callTy call_int1 (by rfl) T.z_int (by decide +kernel) (pa_cons (pv 1) pa_nil))) po_none) pa_nil))))
        (pss_one (ps_ret (pe_ifExp (pt_cmpR op_gt (pe_call (ok__law_draw T) (hr.mono (by decide)) (by rfl) T.g__law_draw T.f__law_draw.kp T.b__law_draw .nil pass0 (pa_cons (pv 0) (pa_cons pe_int pa_nil))) pe_int (nomark _)) (pe_tup (pa_cons (pv 3) (pa_cons pe_bl pa_nil))) (pe_tup (pa_cons (pe_call (ok__law_one T) (hr.mono (by decide)) (by rfl) T.g__law_one T.f__law_one.kp T.b__law_one .nil pass0 (pa_cons (pv 0) (pa_cons (pe_lst (pa_cons pe_str (pa_cons pe_str (pa_cons pe_str pa_nil)))) pa_nil))) (pa_cons pe_bl pa_nil)))))))), ?_⟩
    refine ⟨by show 7 ≤ sizeLine; decide, fun a na => ?_⟩
    rw [gapsT]
    have ha : (upd H a (.lst (GapT.map fun g => V.str (S g)))) a = some (.lst (GapT.map fun g => V.str (S g))) := upd_same
    have w1 : Well (upd H a (.lst (GapT.map fun g => V.str (S g)))) L := hW.new na
    have k1 : Keeps L H (upd H a (.lst (GapT.map fun g => V.str (S g)))) := .new na
    generalize upd H a (.lst (GapT.map fun g => V.str (S g))) = H1 at ha w1 k1 ⊢
    refine ⟨_, rfl, _, rfl, _, rfl, .inr ⟨least, rfl, _, rfl, a, _, rfl, SqL.of ha, fun c nc => ?_⟩⟩
    have ecut : cutV (GapT.map fun g => V.str (S g)) (some (if least = true then 1 else 0)) none = (GapT.drop (if least = true then 1 else 0)).map fun g => V.str (S g) := by
      cases least with
      | true =>
        have := cut_list (GapT.map fun g => V.str (S g)) 1
        rw [List.map_drop]
        exact this
      | false =>
        have := cut_list (GapT.map fun g => V.str (S g)) 0
        rw [List.map_drop]
        exact this
    rw [ecut]
    have hcL : c ≠ L := w1.ne nc
    refine ⟨L, c, _, rfl, SqL.of upd_same, hcL, by cases least <;> (intro z; cases z), by cases least <;> (show _ < 1000000; decide), w1.new nc, fun H2 v k2 w2 hv => ?_⟩
    obtain ⟨g, hg, rfl⟩ := List.mem_map.mp hv
    have k12 := (k1.trans (.new nc)).trans k2
    refine ⟨_, rfl, L, 9, rfl, by decide, by decide, w2, fun H3 d k3 w3 h0 h1 => ?_⟩
    refine ⟨_, _, rfl, rfl, _, rfl, ite2 (fun _ => ?_) (fun _ => ?_)⟩
    · refine ⟨_, rfl, by show 2 ≤ sizeLine; decide, fun r nr => ?_⟩
      exact q _ r g true ((k12.trans k3).trans (.new nr)) (w3.new nr) (.inl ⟨rfl, hg⟩) upd_same
    · refine one_text GapF gapsF (by decide) (by decide) w3 rfl fun H4 s k4 w4 hs => ⟨by show 2 ≤ sizeLine; decide, fun r nr => ?_⟩
      exact q _ r s false (((k12.trans k3).trans k4).trans (.new nr)) (w4.new nr) (.inr ⟨rfl, hs⟩) upd_same
theorem dst1 : ([[.str "/u", .str "/u", .bl true], [.str "<>", .str "", .bl true], [.str "<a b>", .str "a b", .bl true], [.str "x(y)", .str "x(y)", .bl true]] ++ [[.str "a\\*b", .str "a*b", .bl true], [.str "&amp;", .str "&", .bl true], [.str "<a\\>b>", .str "a>b", .bl true], [.str "<a", .str "", .bl false]] ++ [[.str "x(y", .str "", .bl false], [.str "'t'", .str "'t'", .bl true], [.str "a)b", .str "", .bl false], [.str "\\(", .str "(", .bl true]] : List (List V)) = DestL.map fun p => [.str (S p.1), .str (S p.2.1), .bl p.2.2] := by decide +kernel
def Ds1 : List (List V) := [[.str "/u", .str "/u", .bl true], [.str "<>", .str "", .bl true], [.str "<a b>", .str "a b", .bl true], [.str "x(y)", .str "x(y)", .bl true]]
def Ds2 : List (List V) := [[.str "a\\*b", .str "a*b", .bl true], [.str "&amp;", .str "&", .bl true], [.str "<a\\>b>", .str "a>b", .bl true], [.str "<a", .str "", .bl false]]
def Ds3 : List (List V) := [[.str "x(y", .str "", .bl false], [.str "'t'", .str "'t'", .bl true], [.str "a)b", .str "", .bl false], [.str "\\(", .str "(", .bl true]]
theorem ds1_ok : MsOk Ds1 := by decide +kernel
theorem ds2_ok : MsOk Ds2 := by decide +kernel
theorem ds3_ok : MsOk Ds3 := by decide +kernel
def sp__law_destination (K : PySem.W.Frag) : Sp := fun vs H Q _ => ∃ L : Addr, vs = [.ref L] ∧ Well H L ∧ ∀ H' r p, Keeps L H H' → Well H' L → p ∈ DestL → H' r = some (.tup [.str (S p.1), .str (S p.2.1), .bl p.2.2]) → Q (.ref r) H'
theorem ok__law_destination {P : Program} {w : World} {K : PySem.W.Frag} {mg : Str → Option Value} {base : Heap} (T : Txt w K mg) : FnOk P w K mg base CX0 3 T.a__law_destination T.d__law_destination ["_law_well_here"] (sp__law_destination K) := by
  refine T.f__law_destination.ok sc__law_destination (fun vs H Q E h => ?_) (fun cdv A outer s H vs Q E hr h => ?_)
  · obtain ⟨L, rfl, _⟩ := h
    rfl
  · obtain ⟨L, rfl, hW, q⟩ := h
    refine ⟨_, (pss_cons (ps_set (i := 1) sc__law_destination.nd rfl (.inl rfl) (pe_lst (pa_cons (pe_tup (pa_cons pe_str (pa_cons pe_str (pa_cons pe_bl pa_nil)))) (pa_cons (pe_tup (pa_cons pe_str (pa_cons pe_str (pa_cons pe_bl pa_nil)))) (pa_cons (pe_tup (pa_cons pe_str (pa_cons pe_str (pa_cons pe_bl pa_nil)))) (pa_cons (pe_tup (pa_cons pe_str (pa_cons pe_str (pa_cons pe_bl pa_nil)))) pa_nil))))))
        (pss_cons (ps_set (i := 1) sc__law_destination.nd rfl (.inl rfl) (pe_op op_cat (pv 1) (pe_lst (pa_cons (pe_tup (pa_cons pe_str (pa_cons pe_str (pa_cons pe_bl pa_nil)))) (pa_cons (pe_tup (pa_cons pe_str (pa_cons pe_str (pa_cons pe_bl pa_nil)))) (pa_cons (pe_tup (pa_cons pe_str (pa_cons pe_str (pa_cons pe_bl pa_nil)))) (pa_cons (pe_tup (pa_cons pe_str (pa_cons pe_str (pa_cons pe_bl pa_nil)))) pa_nil)))))))
        (pss_cons (ps_set (i := 1) sc__law_destination.nd rfl (.inl rfl) (pe_op op_cat (pv 1) (pe_lst (pa_cons (pe_tup (pa_cons pe_str (pa_cons pe_str (pa_cons pe_bl pa_nil)))) (pa_cons (pe_tup (pa_cons pe_str (pa_cons pe_str (pa_cons pe_bl pa_nil)))) (pa_cons (pe_tup (pa_cons pe_str (pa_cons pe_str (pa_cons pe_bl pa_nil)))) (pa_cons (pe_tup (pa_cons pe_str (pa_cons pe_str (pa_cons pe_bl pa_nil)))) pa_nil)))))))
        (pss_one (ps_ret (pe_call (ok__law_one T) (hr.mono (by decide)) (by rfl) T.g__law_one T.f__law_one.kp T.b__law_one .nil pass0 (pa_cons (pv 0) (pa_cons (pv 1) pa_nil)))))))), ?_⟩
    unfold tSeq tAsg
    dsimp only
    refine menu_list Ds1 ds1_ok _ _ _ fun H2 a2 xs2 s2 h2 n2 m2 l2 => ?_
    refine cat_menu Ds2 ds2_ok rfl h2 m2 (by rw [l2]; decide) fun H3 a3 xs3 s3 h3 n3 m3 l3 => ?_
    refine cat_menu Ds3 ds3_ok rfl h3 m3 (by rw [l3, l2]; decide) fun H4 a4 xs4 s4 h4 n4 m4 l4 => ?_
    refine ⟨_, rfl, _, rfl, ?_⟩
    show sp__law_one K [.ref L, .ref a4] H4 _ E0
    have w4 := ((hW.same s2).same s3).same s4
    refine one_at w4 h4 (((hW.same s2).same s3).ne n4) m4 (by intro z; rw [z, l3, l2] at l4; cases l4) (by rw [l4, l3, l2]; decide) fun H5 r p k5 w5 hp hr5 => ?_
    rw [show Ds1 ++ Ds2 ++ Ds3 = _ from dst1] at hp
    obtain ⟨x, hx, rfl⟩ := List.mem_map.mp hp
    exact q _ r x (((Keeps.of ((s2.trans s3).trans s4))).trans k5) w5 hx hr5
theorem ttl1 : ([[.str "\"t\"", .str "t", .bl true], [.str "'a b'", .str "a b", .bl true], [.str "(x)", .str "x", .bl true], [.str "\"\"", .str "", .bl true], [.str "'a\nb'", .str "a\nb", .bl true]] ++ [[.str "\"a\\\"b\"", .str "a\"b", .bl true], [.str "(a\\)b)", .str "a)b", .bl true], [.str "'&lt;'", .str "<", .bl true], [.str "\"t", .str "", .bl false]] ++ [[.str "(a(b)", .str "", .bl false], [.str "t", .str "", .bl false]] : List (List V)) = TitleL.map fun p => [.str (S p.1), .str (S p.2.1), .bl p.2.2] := by decide +kernel
def Tt1 : List (List V) := [[.str "\"t\"", .str "t", .bl true], [.str "'a b'", .str "a b", .bl true], [.str "(x)", .str "x", .bl true], [.str "\"\"", .str "", .bl true], [.str "'a\nb'", .str "a\nb", .bl true]]
def Tt2 : List (List V) := [[.str "\"a\\\"b\"", .str "a\"b", .bl true], [.str "(a\\)b)", .str "a)b", .bl true], [.str "'&lt;'", .str "<", .bl true], [.str "\"t", .str "", .bl false]]
def Tt3 : List (List V) := [[.str "(a(b)", .str "", .bl false], [.str "t", .str "", .bl false]]
theorem tt1_ok : MsOk Tt1 := by decide +kernel
theorem tt2_ok : MsOk Tt2 := by decide +kernel
theorem tt3_ok : MsOk Tt3 := by decide +kernel
def sp__law_title (K : PySem.W.Frag) : Sp := fun vs H Q _ => ∃ L : Addr, vs = [.ref L] ∧ Well H L ∧ ∀ H' r p, Keeps L H H' → Well H' L → p ∈ TitleL → H' r = some (.tup [.str (S p.1), .str (S p.2.1), .bl p.2.2]) → Q (.ref r) H'
theorem ok__law_title {P : Program} {w : World} {K : PySem.W.Frag} {mg : Str → Option Value} {base : Heap} (T : Txt w K mg) : FnOk P w K mg base CX0 3 T.a__law_title T.d__law_title ["_law_well_here"] (sp__law_title K) := by
  refine T.f__law_title.ok sc__law_title (fun vs H Q E h => ?_) (fun cdv A outer s H vs Q E hr h => ?_)
  · obtain ⟨L, rfl, _⟩ := h
    rfl
  · obtain ⟨L, rfl, hW, q⟩ := h
    refine ⟨_, (pss_cons (ps_set (i := 1) sc__law_title.nd rfl (.inl rfl) (pe_lst (pa_cons (pe_tup (pa_cons pe_str (pa_cons pe_str (pa_cons pe_bl pa_nil)))) (pa_cons (pe_tup (pa_cons pe_str (pa_cons pe_str (pa_cons pe_bl pa_nil)))) (pa_cons (pe_tup (pa_cons pe_str (pa_cons pe_str (pa_cons pe_bl pa_nil)))) (pa_cons (pe_tup (pa_cons pe_str (pa_cons pe_str (pa_cons pe_bl pa_nil)))) (pa_cons (pe_tup (pa_cons pe_str (pa_cons pe_str (pa_cons pe_bl pa_nil)))) pa_nil)))))))
        (pss_cons (ps_set (i := 1) sc__law_title.nd rfl (.inl rfl) (pe_op op_cat (pv 1) (pe_lst (pa_cons (pe_tup (pa_cons pe_str (pa_cons pe_str (pa_cons pe_bl pa_nil)))) (pa_cons (pe_tup (pa_cons pe_str (pa_cons pe_str (pa_cons pe_bl pa_nil)))) (pa_cons (pe_tup (pa_cons pe_str (pa_cons pe_str (pa_cons pe_bl pa_nil)))) (pa_cons (pe_tup (pa_cons pe_str (pa_cons pe_str (pa_cons pe_bl pa_nil)))) pa_nil)))))))
        (pss_one (ps_ret (pe_call (ok__law_one T) (hr.mono (by decide)) (by rfl) T.g__law_one T.f__law_one.kp T.b__law_one .nil pass0 (pa_cons (pv 0) (pa_cons (pe_op op_cat (pv 1) (pe_lst (pa_cons (pe_tup (pa_cons pe_str (pa_cons pe_str (pa_cons pe_bl pa_nil)))) (pa_cons (pe_tup (pa_cons pe_str (pa_cons pe_str (pa_cons pe_bl pa_nil)))) pa_nil)))) pa_nil))))))), ?_⟩
    unfold tSeq tAsg
    dsimp only
    refine menu_list Tt1 tt1_ok _ _ _ fun H2 a2 xs2 s2 h2 n2 m2 l2 => ?_
    refine cat_menu Tt2 tt2_ok rfl h2 m2 (by rw [l2]; decide) fun H3 a3 xs3 s3 h3 n3 m3 l3 => ?_
    refine one_cat Tt3 tt3_ok ((hW.same s2).same s3) rfl rfl h3 m3 (by intro z; rw [z, l2] at l3; cases l3) (by rw [l3, l2]; decide) fun H5 r p k5 w5 hp hr5 => ?_
    rw [show Tt1 ++ Tt2 ++ Tt3 = _ from ttl1] at hp
    obtain ⟨x, hx, rfl⟩ := List.mem_map.mp hp
    exact q _ r x ((Keeps.of (s2.trans s3)).trans k5) w5 hx hr5

/-! ### what is due -/
theorem q0 (x y z : V) : atI [x, y, z] 0 = some x := atI_nat (j := 0) rfl
theorem q1 (x y z : V) : atI [x, y, z] 1 = some y := atI_nat (j := 1) rfl
theorem q2 (x y z : V) : atI [x, y, z] 2 = some z := atI_nat (j := 2) rfl
theorem lit_RBC : ("]:" : Str) = S [93, 58] := by decide +kernel
def fv (e : Nat) (l : List Nat) : Int := match findL [10] l with
  | some k => ((e + k : Nat) : Int)
  | none => -1
def restL (l : List Nat) : List Nat := match findL [10] l with
  | some k => l.take k
  | none => l
theorem restL_eq (l : List Nat) : restB l = (restL l).all [32, 9].contains := by
  unfold restB restL
  cases findL [10] l <;> rfl
theorem fv_find {t l : List Nat} {e : Nat} (h : t.drop e = l) : Txt.find3 (S t) (S [10]) (e : Int) = fv e l := by
  rw [find3_S t [10] (by simp) e, h]
  rfl
theorem place_ans {σ : L2.St} {H : Hp} {i j e : Nat} {t l : List Nat} (hi : σ[i]? = some (some (.int (fv e l)))) (hj : σ[j]? = some (some (.str (S t)))) (h : t.drop e = l) (he : e ≤ t.length) (ht : t.length ≤ 1000) :
    ∀ Q : VK, Q (.int ((pos t (nextL l) : Nat) : Int)) H →
      tIf (tTest (tOp (rI0 fun i j => V.bl (decide (i < j))) (tVar i) (tC (.int 0)))) (tCB (fun xs H Q => ∃ z : Str, xs = [V.str z] ∧ z.length ≤ sizeLine ∧ Q (V.int (z.length : Nat)) H) (tCons (tVar j) tNil)) (tOp (rI0 fun i j => V.int (i + j)) (tVar i) (tC (.int 1))) σ H Q := by
  intro Q q
  refine ⟨_, hi, _, _, rfl, rfl, _, rfl, ?_⟩
  unfold fv
  unfold nextL at q
  cases hf : findL [10] l with
  | none =>
    rw [hf] at q
    refine iteT ⟨_, hj, _, rfl, by rw [S_len, sizeLine_eq]; omega, ?_⟩
    rw [S_len]
    have : pos t [] = t.length := by unfold pos; simp
    rw [this] at q
    exact q
  | some k =>
    rw [hf] at q
    dsimp only at q ⊢
    rw [decide_eq_false (by omega)]
    refine iteF ?_
    have hl := congrArg List.length h
    rw [List.length_drop] at hl
    have h1 := pre_len _ _ (findL_some (by simp) hf).1
    rw [List.length_drop] at h1
    simp at h1
    have hi' := hi
    unfold fv at hi'
    rw [hf] at hi'
    refine ⟨_, hi', _, _, rfl, rfl, ?_⟩
    have : ((e + k : Nat) : Int) + 1 = ((pos t (l.drop (k + 1)) : Nat) : Int) := by
      unfold pos
      rw [List.length_drop]
      omega
    show Q (.int (((e + k : Nat) : Int) + 1)) H
    rw [this]
    exact q
theorem rest_ans {σ : L2.St} {H : Hp} {i j m e : Nat} {t l : List Nat} (hi : σ[i]? = some (some (.int (fv e l)))) (hj : σ[j]? = some (some (.str (S t)))) (hm : σ[m]? = some (some (.int (e : Int)))) (h : t.drop e = l) (he : e ≤ t.length) (ht : t.length ≤ 1000) :
    ∀ Q : VK, Q (.str (S (restL l))) H →
      tIf (tTest (tOp (rI0 fun i j => V.bl (decide (i < j))) (tVar i) (tC (.int 0)))) (tSl rSlS (tVar j) (tPart (tVar m)) tNoPart) (tSl rSlS (tVar j) (tPart (tVar m)) (tPart (tVar i))) σ H Q := by
  intro Q q
  have hln : (S t).length ≤ sizeLine := by rw [S_len, sizeLine_eq]; omega
  refine ⟨_, hi, _, _, rfl, rfl, _, rfl, ?_⟩
  unfold restL at q
  have hi' := hi
  unfold fv at hi' ⊢
  cases hf : findL [10] l with
  | none =>
    rw [hf] at q
    refine iteT ⟨_, hj, _, hm, _, rfl, _, rfl, hln, ?_⟩
    rw [S_cut, h]
    exact q
  | some k =>
    rw [hf] at q hi'
    dsimp only at q ⊢
    rw [decide_eq_false (by omega)]
    refine iteF ⟨_, hj, _, hm, _, rfl, _, hi', _, rfl, _, rfl, hln, ?_⟩
    show Q (.str (cutS (S t) (some (e : Int)) (some ((e + k : Nat) : Int)))) H
    rw [S_cut2 t e (e + k) (Nat.le_add_right _ _), h, Nat.add_sub_cancel_left]
    exact q
theorem andB' {ta tb : TT} {σ : L2.St} {H : Hp} {a b : Bool} (ha : AnsB ta σ H a) (hb : AnsB tb σ H b) : AnsB (tAnd ta tb) σ H (a && b) := fun Q q => by
  refine ha _ ?_
  cases a with
  | true => exact iteT (hb _ q)
  | false => exact iteF q
theorem if_g {c : TT} {a b u : TS} {D : Ends} {σ : L2.St} {H : Hp} {i : Nat} {x : V} {bb : Bool} (hc : AnsB c (σ.set i (some x)) H bb) (h : if bb = true then a { D with nx := u D } (σ.set i (some x)) H else b { D with nx := u D } (σ.set i (some x)) H) :
    gName i x σ H { D with nx := tSeq (tIfS c a b) u D }.nx := hc _ h
def DueV (H : Hp) (v : V) (t ln dd : List Nat) : Option (Option (List Nat) × List Nat) → Prop
  | none => v = .non
  | some x => ∃ a, v = .ref a ∧ H a = some (.tup [.int ((pos t x.2 : Nat) : Int), .str (S ln), .str (S dd), tv x.1])
structure DueIn (H : Hp) (t A lt ln g dw dd s tw tt tl : List Nat) (gb dok sb tok : Bool) (la ga de sp ti : Addr) : Prop where
  e : t = A ++ 91 :: (lt ++ 93 :: 58 :: (g ++ (dw ++ (s ++ tw ++ tl))))
  len : t.length ≤ 100
  ela : H la = some (.tup [.str (S lt), .str (S ln)])
  ega : H ga = some (.tup [.str (S g), .bl gb])
  ede : H de = some (.tup [.str (S dw), .str (S dd), .bl dok])
  esp : H sp = some (.tup [.str (S s), .bl sb])
  eti : H ti = some (.tup [.str (S tw), .str (S tt), .bl tok])
def sp__law_due (K : PySem.W.Frag) : Sp := fun vs H Q _ => ∃ (t A lt ln g dw dd s tw tt tl : List Nat) (gb dok sb tok : Bool) (la ga de sp ti : Addr), vs = [.str (S t), .int (A.length : Nat), .ref la, .ref ga, .ref de, .ref sp, .ref ti] ∧
  DueIn H t A lt ln g dw dd s tw tt tl gb dok sb tok la ga de sp ti ∧ ∀ H' v, Same H H' → DueV H' v t ln dd (if gb = true ∧ dok = true then dueEnd s sb tw tt tok tl else none) → Q v H'
theorem ok__law_due {P : Program} {w : World} {K : PySem.W.Frag} {mg : Str → Option Value} {base : Heap} (T : Txt w K mg) : FnOk P w K mg base CX0 1 T.a__law_due T.d__law_due ["_law_text", "_law_at", "_law_label_here", "_law_gap_here", "_law_destination_here", "_law_space", "_law_title_here"] (sp__law_due K) := by
  refine T.f__law_due.ok sc__law_due (fun vs H Q E h => ?_) (fun cdv A outer s H vs Q E hr h => ?_)
  · obtain ⟨t, A, lt, ln, g, dw, dd, s, tw, tt, tl, gb, dok, sb, tok, la, ga, de, sp, ti, rfl, _⟩ := h
    rfl
  · obtain ⟨t, A1, lt, ln, g, dw, dd, s1, tw, tt, tl, gb, dok, sb, tok, la, ga, de, sp, ti, rfl, D, q⟩ := h
    refine ⟨_, (pss_cons (ps_if (PW.pt (pw_or (pt_not (pt_val (pe_ix ix_tup (pv 3) pe_int (fun _ _ => rfl)))) (pw_or1 (pt_not (pt_val (pe_ix ix_tup (pv 4) pe_int (fun _ _ => rfl))))))) (pss_one (ps_ret pe_non)) pss_nil)
        (pss_cons (ps_set (i := 7) sc__law_due.nd rfl (.inl rfl) (pe_op op_add (pv 1) (pe_callB call_len_str (by rfl) T.z_len PySem.boot_len (pa_cons (pe_op op_add_str (pe_op op_add_str (pe_op op_add_str (pe_op op_add_str pe_str (pe_ix ix_tup (pv 2) pe_int (fun _ _ => rfl))) pe_str) (pe_ix ix_tup (pv 3) pe_int (fun _ _ => rfl))) (pe_ix ix_tup (pv 4) pe_int (fun _ _ => rfl))) pa_nil))))
        (pss_cons (ps_set (i := 8) sc__law_due.nd rfl (.inl rfl) (pe_op op_add (pv 7) (pe_callB call_len_str (by rfl) T.z_len PySem.boot_len (pa_cons (pe_op op_add_str (pe_ix ix_tup (pv 5) pe_int (fun _ _ => rfl)) (pe_ix ix_tup (pv 6) pe_int (fun _ _ => rfl))) pa_nil))))
        (pss_cons (ps_set (i := 9) sc__law_due.nd rfl (.inl rfl) (pe_bm PySem.F.plainAttrs_str PySem.F.slot_str_find PySem.F.type_str_find mt_find3 (pv 0) (pa_cons pe_str (pa_cons (pv 8) pa_nil))))
        (pss_cons (ps_set (i := 10) sc__law_due.nd rfl (.inl rfl) (pe_ifExp (pt_cmpR op_lt (pv 9) pe_int (nomark _)) (pe_slice sl_str (pv 0) (po_some (pv 8)) po_none) (pe_slice sl_str (pv 0) (po_some (pv 8)) (po_some (pv 9)))))
        (pss_cons (ps_if (PW.pt (pw_and (pt_val (pe_ix ix_tup (pv 5) pe_int (fun _ _ => rfl))) (pw_and (pt_cmpR op_ne (pe_ix ix_tup (pv 5) pe_int (fun _ _ => rfl)) pe_str (nomark _)) (pw_and (pt_val (pe_ix ix_tup (pv 6) pe_int (fun _ _ => rfl))) (pw_and1 (pt_cmpR op_eq (pe_bm PySem.F.plainAttrs_str PySem.F.slot_str_strip PySem.F.type_str_strip mt_stripChars (pv 10) (pa_cons pe_str pa_nil)) pe_str (nomark _))))))) (pss_one (ps_ret (pe_tup (pa_cons (pe_ifExp (pt_cmpR op_lt (pv 9) pe_int (nomark _)) (pe_callB call_len_str (by rfl) T.z_len PySem.boot_len (pa_cons (pv 0) pa_nil)) (pe_op op_add (pv 9) pe_int)) (pa_cons (pe_ix ix_tup (pv 2) pe_int (fun _ _ => rfl)) (pa_cons (pe_ix ix_tup (pv 4) pe_int (fun _ _ => rfl)) (pa_cons (pe_ix ix_tup (pv 6) pe_int (fun _ _ => rfl)) pa_nil))))))) pss_nil)
        (pss_cons (ps_set (i := 9) sc__law_due.nd rfl (.inl rfl) (pe_bm PySem.F.plainAttrs_str PySem.F.slot_str_find PySem.F.type_str_find mt_find3 (pv 0) (pa_cons pe_str (pa_cons (pv 7) pa_nil))))
        (pss_cons (ps_set (i := 10) sc__law_due.nd rfl (.inl rfl) (pe_ifExp (pt_cmpR op_lt (pv 9) pe_int (nomark _)) (pe_slice sl_str (pv 0) (po_some (pv 7)) po_none) (pe_slice sl_str (pv 0) (po_some (pv 7)) (po_some (pv 9)))))
        (pss_cons (ps_if (pt_cmpR op_ne (pe_bm PySem.F.plainAttrs_str PySem.F.slot_str_strip PySem.F.type_str_strip mt_stripChars (pv 10) (pa_cons pe_str pa_nil)) pe_str (nomark _)) (pss_one (ps_ret pe_non)) pss_nil)
        (pss_one (ps_ret (pe_tup (pa_cons (pe_ifExp (pt_cmpR op_lt (pv 9) pe_int (nomark _)) (pe_callB call_len_str (by rfl) T.z_len PySem.boot_len (pa_cons (pv 0) pa_nil)) (pe_op op_add (pv 9) pe_int)) (pa_cons (pe_ix ix_tup (pv 2) pe_int (fun _ _ => rfl)) (pa_cons (pe_ix ix_tup (pv 4) pe_int (fun _ _ => rfl)) (pa_cons pe_non pa_nil)))))))))))))))), ?_⟩
    have D1 := D.e
    have D2 := D.len
    have la1 := congrArg List.length D1
    simp only [List.length_append, List.length_cons] at la1
    refine ⟨_, rfl, ga, _, _, _, rfl, rfl, SqT.of D.ega, p1 _ _, _, rfl, ?_⟩
    cases gb with
    | false =>
      exact iteT (iteT (q H .non (Same.refl _) (by rw [if_neg fun z => Bool.false_ne_true z.1]; rfl)))
    | true =>
      refine iteF ?_
      refine ⟨_, rfl, de, _, _, _, rfl, rfl, SqT.of D.ede, q2 _ _ _, _, rfl, ?_⟩
      cases dok with
      | false => exact iteT (q H .non (Same.refl _) (by rw [if_neg fun z => Bool.false_ne_true z.2]; rfl))
      | true =>
        rw [if_pos ⟨rfl, rfl⟩] at q
        refine iteF ?_
        rw [lit_LB, lit_RBC]
        refine ⟨_, rfl, _, rfl, la, _, _, _, rfl, rfl, SqT.of D.ela, p0 _ _, _, _, rfl, rfl, addL (by simp; omega), ?_⟩
        rw [S_app]
        refine ⟨_, _, rfl, rfl, addL (by simp; omega), ?_⟩
        rw [S_app]
        refine ⟨_, rfl, ga, _, _, _, rfl, rfl, SqT.of D.ega, p0 _ _, _, _, rfl, rfl, addL (by simp; omega), ?_⟩
        rw [S_app]
        refine ⟨_, rfl, de, _, _, _, rfl, rfl, SqT.of D.ede, q0 _ _ _, _, _, rfl, rfl, addL (by simp; omega), ?_⟩
        rw [S_app]
        refine ⟨_, rfl, by rw [S_len, sizeLine_eq]; simp; omega, _, _, rfl, rfl, ?_⟩
        dsimp only
        have eb : ((A1.length : Nat) : Int) + ((S ([91] ++ lt ++ [93, 58] ++ g ++ dw)).length : Nat) = ((A1.length + (lt.length + g.length + dw.length + 3) : Nat) : Int) := by
          rw [S_len]
          simp only [List.length_append, List.length_cons, List.length_nil]
          omega
        rw [eb]
        have hdb : t.drop (A1.length + (lt.length + g.length + dw.length + 3)) = s1 ++ tw ++ tl := by
          rw [D1]
          rw [show A1 ++ 91 :: (lt ++ 93 :: 58 :: (g ++ (dw ++ (s1 ++ tw ++ tl)))) = (A1 ++ ([91] ++ lt ++ [93, 58] ++ g ++ dw)) ++ (s1 ++ tw ++ tl) by simp]
          rw [List.drop_append, List.drop_of_length_le (by simp; omega)]
          have hz : A1.length + (lt.length + g.length + dw.length + 3) - (A1 ++ ([91] ++ lt ++ [93, 58] ++ g ++ dw) : List Nat).length = 0 := by
            simp only [List.length_append, List.length_cons, List.length_nil]
            omega
          rw [hz]
          rfl
        have hlb : A1.length + (lt.length + g.length + dw.length + 3) + (s1.length + tw.length + tl.length) = t.length := by omega
        generalize A1.length + (lt.length + g.length + dw.length + 3) = b at hdb hlb
        have hde : t.drop (b + (s1.length + tw.length)) = tl := by
          rw [← List.drop_drop, hdb, List.drop_append, List.drop_of_length_le (by rw [List.length_append]; omega), List.length_append, Nat.sub_self]
          rfl
        refine ⟨_, rfl, _, rfl, sp, _, _, _, rfl, rfl, SqT.of D.esp, p0 _ _, _, rfl, ti, _, _, _, rfl, rfl, SqT.of D.eti, q0 _ _ _, _, _, rfl, rfl, addL (by omega), ?_⟩
        rw [S_app]
        refine ⟨_, rfl, by rw [S_len, List.length_append, sizeLine_eq]; omega, _, _, rfl, rfl, ?_⟩
        dsimp only
        have ee : ((b : Nat) : Int) + ((S (s1 ++ tw)).length : Nat) = ((b + (s1.length + tw.length) : Nat) : Int) := by
          rw [S_len, List.length_append]
          omega
        rw [ee]
        have hle : b + (s1.length + tw.length) ≤ t.length := by omega
        generalize b + (s1.length + tw.length) = e at hde hle
        rw [lit_nl]
        refine ⟨_, rfl, rfl, _, rfl, _, _, _, rfl, rfl, ?_⟩
        rw [fv_find hde]
        refine rest_ans rfl rfl rfl hde hle (by omega) _ ?_
        have hlr : (S (restL tl)).length ≤ sizeLine := by
          have : (restL tl).length ≤ tl.length := by
            unfold restL
            cases findL [10] tl with
            | none => exact Nat.le_refl _
            | some k => rw [List.length_take]; omega
          rw [S_len, sizeLine_eq]
          omega
        refine if_g (andB' (a := sb) (fun Q q => ⟨_, rfl, sp, _, _, _, rfl, rfl, SqT.of D.esp, p1 _ _, _, rfl, q⟩)
          (andB' (a := !decide (s1 = [])) (fun Q q => ⟨_, rfl, sp, _, _, _, rfl, rfl, SqT.of D.esp, p0 _ _, rfl, _, rfl, by rw [lit_e, S_dec]; exact q⟩)
          (andB' (a := tok) (b := restB tl) (fun Q q => ⟨_, rfl, ti, _, _, _, rfl, rfl, SqT.of D.eti, q2 _ _ _, _, rfl, q⟩)
            (fun Q q => ⟨_, rfl, rfl, _, _, rfl, rfl, hlr, rfl, _, rfl, by rw [lit_WH, lit_e, strip_blank, ← show restB tl = (restL tl).all (fun c => [32, 9].contains c) from restL_eq tl]; exact q⟩)))) ?_
        unfold dueEnd at q
        by_cases hall : sb = true ∧ s1 ≠ [] ∧ tok = true ∧ restB tl = true
        · rw [if_pos hall] at q
          obtain ⟨h1, h2, h3, h4⟩ := hall
          rw [h1, h3, h4, decide_eq_false h2]
          refine iteT ?_
          refine place_ans rfl rfl hde hle (by omega) _ ?_
          refine ⟨_, rfl, la, _, _, _, rfl, rfl, SqT.of D.ela, p1 _ _, _, rfl, de, _, _, _, rfl, rfl, SqT.of D.ede, q1 _ _ _, _, rfl, ti, _, _, _, rfl, rfl, SqT.of D.eti, q1 _ _ _, by show 4 ≤ sizeLine; decide, fun p np => ?_⟩
          exact q _ _ (same_new np) ⟨p, rfl, upd_same⟩
        · rw [if_neg hall] at q
          have hcond : (sb && (!decide (s1 = []) && (tok && restB tl))) = false := by
            cases hh : (sb && (!decide (s1 = []) && (tok && restB tl))) with
            | false => rfl
            | true =>
              exfalso
              apply hall
              simp only [Bool.and_eq_true, Bool.not_eq_true', decide_eq_false_iff_not] at hh
              exact ⟨hh.1, hh.2.1, hh.2.2.1, hh.2.2.2⟩
          rw [hcond]
          refine iteF ?_
          have hlb2 : b ≤ t.length := by omega
          refine ⟨_, rfl, rfl, _, rfl, _, _, _, rfl, rfl, ?_⟩
          rw [fv_find hdb]
          refine rest_ans rfl rfl rfl hdb hlb2 (by omega) _ ?_
          have hlr2 : (S (restL (s1 ++ tw ++ tl))).length ≤ sizeLine := by
            have : (restL (s1 ++ tw ++ tl)).length ≤ (s1 ++ tw ++ tl).length := by
              unfold restL
              cases findL [10] (s1 ++ tw ++ tl) with
              | none => exact Nat.le_refl _
              | some k => rw [List.length_take]; omega
            rw [List.length_append, List.length_append] at this
            rw [S_len, sizeLine_eq]
            omega
          refine ⟨_, rfl, rfl, _, _, rfl, rfl, hlr2, rfl, _, rfl, ?_⟩
          rw [lit_WH, lit_e, strip_blank, ← show restB (s1 ++ tw ++ tl) = (restL (s1 ++ tw ++ tl)).all (fun c => [32, 9].contains c) from restL_eq _]
          cases hr2 : restB (s1 ++ tw ++ tl) with
          | false =>
            rw [hr2, if_neg Bool.false_ne_true] at q
            exact iteT (q H .non (Same.refl _) rfl)
          | true =>
            rw [hr2, if_pos rfl] at q
            refine iteF ?_
            refine place_ans rfl rfl hdb hlb2 (by omega) _ ?_
            refine ⟨_, rfl, la, _, _, _, rfl, rfl, SqT.of D.ela, p1 _ _, _, rfl, de, _, _, _, rfl, rfl, SqT.of D.ede, q1 _ _ _, by show 4 ≤ sizeLine; decide, fun p np => ?_⟩
            exact q _ _ (same_new np) ⟨p, rfl, upd_same⟩

/-! ### one drawn definition: 0 _law_well_here, 1 _law_label_here, 2 _law_gap_here, 3 _law_destination_here, 4 _law_space, 5 _law_title_here, 6 _law_tail, 7 _law_ahead, 8 _law_body, 9 _law_text, 10 _law_due_here -/
def tvd : Option (List Nat) → PyData
  | none => .none
  | some x => .str (S x)
def dud (t ln dd : List Nat) : Option (Option (List Nat) × List Nat) → PyData
  | none => .none
  | some x => .tuple [.int ((pos t x.2 : Nat) : Int), .str (S ln), .str (S dd), tvd x.1]
theorem due_dp {K : PySem.W.Frag} {H : Hp} {v : V} {t ln dd : List Nat} : ∀ {o : Option (Option (List Nat) × List Nat)}, DueV H v t ln dd o → Dp K H v (dud t ln dd o)
  | none, h => by
    have h' : v = .non := h
    subst h'
    exact .non
  | some (none, r), h => by
    obtain ⟨a, rfl, ha⟩ := h
    exact .tup (SqT.of ha) (.cons (.int _) (.cons (.str _) (.cons (.str _) (.cons .non .nil))))
  | some (some ti, r), h => by
    obtain ⟨a, rfl, ha⟩ := h
    exact .tup (SqT.of ha) (.cons (.int _) (.cons (.str _) (.cons (.str _) (.cons (.str _) .nil))))
theorem DueV.same {H H' : Hp} {v : V} {t ln dd : List Nat} : ∀ {o : Option (Option (List Nat) × List Nat)}, DueV H v t ln dd o → Same H H' → DueV H' v t ln dd o
  | none, h, _ => h
  | some x, h, s => by
    obtain ⟨a, e, ha⟩ := h
    exact ⟨a, e, s _ _ ha⟩
structure DueOk (ln dd : List Nat) (o : Option (Option (List Nat) × List Nat)) : Prop where
  l : Sm ln
  d : Sm dd
  t : ∀ x ti, o = some x → x.1 = some ti → Sm ti
theorem dud_lay {t ln dd : List Nat} : ∀ {o : Option (Option (List Nat) × List Nat)}, DueOk ln dd o → (dud t ln dd o).canLay0 = true ∧ decide ((dud t ln dd o).depth ≤ 64) = true
  | none, _ => ⟨rfl, rfl⟩
  | some (none, r), h => by
    refine ⟨?_, rfl⟩
    show (true && (PyData.strOk (S ln) && (PyData.strOk (S dd) && (true && true)))) = true
    rw [h.l.ok, h.d.ok]
    rfl
  | some (some ti, r), h => by
    refine ⟨?_, rfl⟩
    show (true && (PyData.strOk (S ln) && (PyData.strOk (S dd) && (PyData.strOk (S ti) && true)))) = true
    rw [h.l.ok, h.d.ok, (h.t _ ti rfl rfl).ok]
    rfl
theorem dud_shaped {t ln dd : List Nat} {o : Option (Option (List Nat) × List Nat)} (h : DueOk ln dd o) : SeqAt.shaped (dud t ln dd o) = true := by
  show ((dud t ln dd o).canLay0 && decide ((dud t ln dd o).depth ≤ 64)) = true
  rw [(dud_lay h).1, (dud_lay h).2]
  rfl
theorem dud_eq {t ln dd : List Nat} {o : Option (Option (List Nat) × List Nat)} (h : DueOk ln dd o) : PyData.eqv (dud t ln dd o) (dud t ln dd o) = true := PySem.SeqAt.eqv_refl _ (dud_lay h).1
theorem dv_due {H : Hp} {v : V} {t w d : List Nat} {o : Option (Option (List Nat) × List Nat)} (h : DV H v t (o.map fun x => ⟨x.2, w, d, x.1⟩)) : DueV H v t (normR w) d o := by
  cases o with
  | none => exact h
  | some x => exact h
theorem small_sm {l : List Nat} (h : ∀ c ∈ l, c < 128) : Sm l := fun c hc => by have := h c hc; omega
theorem dueEnd_title {s tw tt tl : List Nat} {sb tok : Bool} (h : Sm tt) : ∀ x ti, dueEnd s sb tw tt tok tl = some x → x.1 = some ti → Sm ti := by
  intro x ti e e2
  unfold dueEnd at e
  split at e
  · have := Option.some.inj e
    rw [← this] at e2
    have := Option.some.inj e2
    rw [← this]
    exact h
  · split at e
    · have := Option.some.inj e
      rw [← this] at e2
      cases e2
    · cases e
theorem tailsV : ([.str "", .str "\n", .str " \n", .str "\nmore", .str " x", .str " \t\nb", .str "  "] : List V) = TailL.map fun g => V.str (S g) := by decide +kernel
theorem aheadsV : ([.str "", .str "x ", .str "ab\n"] : List V) = AheadL.map fun g => V.str (S g) := by decide +kernel
theorem lit_sx : (" x" : Str) = S [32, 120] := by decide +kernel
theorem gapSp_space {g : List Nat} {b : Bool} (h : GapSp true g b) : (g, b) ∈ SpaceL := by
  unfold SpaceL
  rcases h with ⟨rfl, h⟩ | ⟨rfl, h⟩
  · exact List.mem_append_left _ (List.mem_map.mpr ⟨g, h, rfl⟩)
  · exact List.mem_append_right _ (List.mem_map.mpr ⟨g, h, rfl⟩)
theorem gapSp_len {least : Bool} {g : List Nat} {b : Bool} (h : GapSp least g b) : (b = true ∧ g ∈ GapT ∨ b = false ∧ g ∈ GapF) ∧ g.length ≤ 5 ∧ ∀ c ∈ g, c < 128 := by
  rcases h with ⟨rfl, h⟩ | ⟨rfl, h⟩
  · have h2 := List.mem_of_mem_drop h
    exact ⟨.inl ⟨rfl, h2⟩, gap_small.1 g h2⟩
  · exact ⟨.inr ⟨rfl, h⟩, gap_small.2 g h⟩
theorem if_n {c : TT} {a b u : TS} {D : Ends} {σ : L2.St} {H : Hp} {bb : Bool} (hc : AnsB c σ H bb) (h : if bb = true then a { D with nx := u D } σ H else b { D with nx := u D } σ H) :
    tNext { D with nx := tSeq (tIfS c a b) u D } σ H := hc _ h
/-- what is drawn behind a destination -/
def Drawn (s : List Nat) (sb : Bool) (tw tt : List Nat) (tok : Bool) : Prop := (s, sb) ∈ SpaceL ∧ (tw, tt, tok) ∈ TitleL ∨ s = [] ∧ sb = true ∧ tw = [] ∧ tt = [] ∧ tok = false
theorem drawn_ok {s tw tt tl : List Nat} {sb tok : Bool} (h : Drawn s sb tw tt tok) (ht : tl ∈ TailL) : endR (s ++ tw ++ tl) = dueEnd s sb tw tt tok tl ∧ wbB (s ++ tw ++ tl) = true ∧ s.length ≤ 5 ∧ tw.length ≤ 10 ∧ (∀ c ∈ s, c < 128) ∧ (∀ c ∈ tw, c < 128) ∧ (∀ c ∈ tt, c < 128) ∧
    (tw = [] → ([32, 120] : List Nat).isPrefixOf tl = true → endR (s ++ tw ++ tl) = none) := by
  rcases h with ⟨h1, h2⟩ | ⟨rfl, rfl, rfl, rfl, rfl⟩
  · obtain ⟨e1, e2, _⟩ := tails_ok _ h1 _ h2 tl ht
    obtain ⟨s1, s2⟩ := space_small _ h1
    obtain ⟨t0, t1, t2, t3, t4⟩ := title_small _ h2
    exact ⟨e1, e2, s1, t1, s2, t3, t4, fun z => absurd z t0⟩
  · obtain ⟨e1, e2⟩ := tails0_ok tl ht
    exact ⟨e1, e2, by decide, by decide, by decide, by decide, by decide, fun _ h => tail_x tl ht h⟩
def sp__law_one_right (K : PySem.W.Frag) : Sp := fun vs H Q _ => ∃ L : Addr, vs = [.ref L] ∧ Well H L ∧ ∀ H', Keeps L H H' → Well H' L → Q (.bl true) H'
theorem ok__law_one_right {P : Program} {w : World} {K : PySem.W.Frag} {mg : Str → Option Value} {base : Heap} (T : Txt w K mg) : FnOk P w K mg base CX0 10 T.a__law_one_right T.d__law_one_right ["_law_well_here"] (sp__law_one_right K) := by
  refine T.f__law_one_right.ok sc__law_one_right (fun vs H Q E h => ?_) (fun cdv A outer s H vs Q E hr h => ?_)
  · obtain ⟨L, rfl, _⟩ := h
    rfl
  · obtain ⟨L, rfl, hW, q⟩ := h
    refine ⟨_, (pss_cons (ps_par3 (i := 1) (j := 2) (l := 3) (by rfl) sc__law_one_right.nd rfl rfl rfl (by decide) (by decide) (by decide) rfl rfl rfl (pa_cons (pe_call (ok__law_label T) (hr.mono (by decide)) (by rfl) T.g__law_label T.f__law_label.kp T.b__law_label .nil pass0 (pa_cons (pv 0) pa_nil)) (pa_cons (pe_call (ok__law_gap T) (hr.mono (by decide)) (by rfl) T.g__law_gap T.f__law_gap.kp T.b__law_gap .nil pass0 (pa_cons (pv 0) (pa_cons pe_bl pa_nil))) (pa_cons (pe_call (ok__law_destination T) (hr.mono (by decide)) (by rfl) T.g__law_destination T.f__law_destination.kp T.b__law_destination .nil pass0 (pa_cons (pv 0) pa_nil)) pa_nil))) (by rfl))
        (pss_cons (ps_par (i := 4) (j := 5) (by rfl) sc__law_one_right.nd rfl rfl (by decide) rfl rfl (pa_cons (pe_call (ok__law_gap T) (hr.mono (by decide)) (by rfl) T.g__law_gap T.f__law_gap.kp T.b__law_gap .nil pass0 (pa_cons (pv 0) (pa_cons pe_bl pa_nil))) (pa_cons (pe_call (ok__law_title T) (hr.mono (by decide)) (by rfl) T.g__law_title T.f__law_title.kp T.b__law_title .nil pass0 (pa_cons (pv 0) pa_nil)) pa_nil)) (by rfl))
        (pss_cons (ps_set (i := 6) sc__law_one_right.nd rfl (.inl rfl) (pe_call (ok__law_one T) (hr.mono (by decide)) (by rfl) T.g__law_one T.f__law_one.kp T.b__law_one .nil pass0 (pa_cons (pv 0) (pa_cons (pe_lst (pa_cons pe_str (pa_cons pe_str (pa_cons pe_str (pa_cons pe_str (pa_cons pe_str (pa_cons pe_str (pa_cons pe_str pa_nil)))))))) pa_nil))))
        (pss_cons (ps_if (pt_cmpR op_eq (pe_call (ok__law_draw T) (hr.mono (by decide)) (by rfl) T.g__law_draw T.f__law_draw.kp T.b__law_draw .nil pass0 (pa_cons (pv 0) (pa_cons pe_int pa_nil))) pe_int (nomark _)) (pss_one (ps_asg (pe_tup (pa_cons (pe_tup (pa_cons pe_str (pa_cons pe_bl pa_nil))) (pa_cons (pe_tup (pa_cons pe_str (pa_cons pe_str (pa_cons pe_bl pa_nil)))) pa_nil))) (pg_tup (by rfl) (pgs_cons (pg_name (i := 4) sc__law_one_right.nd rfl (.inl rfl)) (pgs_cons (pg_name (i := 5) sc__law_one_right.nd rfl (.inl rfl)) pgs_nil))))) pss_nil)
        (pss_cons (ps_set (i := 7) sc__law_one_right.nd rfl (.inl rfl) (pe_call (ok__law_one T) (hr.mono (by decide)) (by rfl) T.g__law_one T.f__law_one.kp T.b__law_one .nil pass0 (pa_cons (pv 0) (pa_cons (pe_lst (pa_cons pe_str (pa_cons pe_str (pa_cons pe_str pa_nil)))) pa_nil))))
        (pss_cons (ps_set (i := 8) sc__law_one_right.nd rfl (.inl rfl) (pe_op op_add_str (pe_op op_add_str (pe_op op_add_str (pe_op op_add_str pe_str (pe_ix ix_tup (pv 1) pe_int (fun _ _ => rfl))) pe_str) (pe_ix ix_tup (pv 2) pe_int (fun _ _ => rfl))) (pe_ix ix_tup (pv 3) pe_int (fun _ _ => rfl))))
        (pss_cons (ps_set (i := 8) sc__law_one_right.nd rfl (.inl rfl) (pe_op op_add_str (pe_op op_add_str (pe_op op_add_str (pv 8) (pe_ix ix_tup (pv 4) pe_int (fun _ _ => rfl))) (pe_ix ix_tup (pv 5) pe_int (fun _ _ => rfl))) (pv 6)))
        (pss_cons (ps_set (i := 9) sc__law_one_right.nd rfl (.inl rfl) (pe_op op_add_str (pv 7) (pv 8)))
        (pss_cons (ps_if (PW.pt (pw_and (pt_val (pe_ix ix_tup (pv 3) pe_int (fun _ _ => rfl))) (pw_and (pt_cmpR op_eq (pe_ix ix_tup (pv 5) pe_int (fun _ _ => rfl)) pe_str (nomark _)) (pw_and1 (pt_val (pe_bm PySem.F.plainAttrs_str PySem.F.slot_str_startswith PySem.F.type_str_startswith mt_startswith (pv 6) (pa_cons pe_str pa_nil))))))) (pss_one (ps_ret (pe_or (pe_cmpR op_isN (pe_call (ok_definition_at T) (hr.mono (by decide)) (by rfl) T.g_definition_at T.f_definition_at.kp T.b_definition_at .nil pass0 (pa_cons (pv 9) (pa_cons (pe_callB call_len_str (by rfl) T.z_len PySem.boot_len (pa_cons (pv 7) pa_nil)) pa_nil))) pe_non (nomark _)) (pe_one (pe_not (pe_ix ix_tup (pv 2) pe_int (fun _ _ => rfl))))))) pss_nil)
        (pss_cons (ps_if (PW.pt (pw_and (pt_val (pe_ix ix_tup (pv 3) pe_int (fun _ _ => rfl))) (pw_and (pt_val (pe_ix ix_tup (pv 5) pe_int (fun _ _ => rfl))) (pw_and (pt_cmpR op_eq (pe_ix ix_tup (pv 4) pe_int (fun _ _ => rfl)) pe_str (nomark _)) (pw_and1 (pt_cmpR op_ne (pe_ix ix_tup (pv 5) pe_int (fun _ _ => rfl)) pe_str (nomark _))))))) (pss_one (ps_ret pe_bl)) pss_nil)
        (pss_cons (ps_set (i := 10) sc__law_one_right.nd rfl (.inl rfl) (pe_call (ok__law_due T) (hr.mono (by decide)) (by rfl) T.g__law_due T.f__law_due.kp T.b__law_due .nil pass0 (pa_cons (pv 9) (pa_cons (pe_callB call_len_str (by rfl) T.z_len PySem.boot_len (pa_cons (pv 7) pa_nil)) (pa_cons (pv 1) (pa_cons (pv 2) (pa_cons (pv 3) (pa_cons (pv 4) (pa_cons (pv 5) pa_nil)))))))))
        (pss_one (ps_ret (pe_cmpR (op_eqD hr.units) (pe_call (ok_definition_at T) (hr.mono (by decide)) (by rfl) T.g_definition_at T.f_definition_at.kp T.b_definition_at .nil pass0 (pa_cons (pv 9) (pa_cons (pe_callB call_len_str (by rfl) T.z_len PySem.boot_len (pa_cons (pv 7) pa_nil)) pa_nil))) (pv 10) (nomark _))))))))))))))), ?_⟩
    refine ⟨_, rfl, L, rfl, hW, fun H1 la pl k1 w1 hpl hla => ?_⟩
    refine ⟨_, rfl, L, false, rfl, w1, fun H2 ga g gb k2 w2 hg hga => ?_⟩
    refine ⟨_, rfl, L, rfl, w2, fun H3 de d k3 w3 hd hde => ?_⟩
    refine ⟨_, _, _, rfl, ?_⟩
    refine ⟨_, rfl, L, true, rfl, w3, fun H4 sp0 s0 sb0 k4 w4 hs hsp => ?_⟩
    refine ⟨_, rfl, L, rfl, w4, fun H5 ti0 t5 k5 w5 ht hti => ⟨_, _, rfl, ?_⟩⟩
    refine one_text TailL tailsV (by decide) (by decide) w5 rfl fun H6 tl k6 w6 htl => ?_
    have kk := ((((k1.trans k2).trans k3).trans k4).trans k5).trans k6
    have kla := (((k2.trans k3).trans k4).trans k5).trans k6
    have kga := ((k3.trans k4).trans k5).trans k6
    have kde := (k4.trans k5).trans k6
    have ksp := k5.trans k6
    have hla6 := kla _ _ (tup_ne hla w1) hla
    have hga6 := kga _ _ (tup_ne hga w2) hga
    have hde6 := kde _ _ (tup_ne hde w3) hde
    have hsp6 := ksp _ _ (tup_ne hsp w4) hsp
    have hti6 := k6 _ _ (tup_ne hti w5) hti
    refine seq_if_g (fun σ' H' => ∃ (sp ti : Addr) (s tw tt : List Nat) (sb tok : Bool), σ' = [some (.ref L), some (.ref la), some (.ref ga), some (.ref de), some (.ref sp), some (.ref ti), some (.str (S tl)), none, none, none, none] ∧ Keeps L H H' ∧ Well H' L ∧
      H' la = some (.tup [.str (S pl.1), .str (S pl.2)]) ∧ H' ga = some (.tup [.str (S g), .bl gb]) ∧ H' de = some (.tup [.str (S d.1), .str (S d.2.1), .bl d.2.2]) ∧ H' sp = some (.tup [.str (S s), .bl sb]) ∧ H' ti = some (.tup [.str (S tw), .str (S tt), .bl tok]) ∧ Drawn s sb tw tt tok) (fun N qN => ?_) ?_
    · refine one_draw 3 (by decide) w6 rfl fun H7 b k7 w7 hb => ?_
      have hla7 := k7 _ _ (tup_ne hla6 w6) hla6
      have hga7 := k7 _ _ (tup_ne hga6 w6) hga6
      have hde7 := k7 _ _ (tup_ne hde6 w6) hde6
      have hsp7 := k7 _ _ (tup_ne hsp6 w6) hsp6
      have hti7 := k7 _ _ (tup_ne hti6 w6) hti6
      refine ⟨rfl, _, rfl, ite2 (fun _ => ?_) (fun _ => ?_)⟩
      · rw [lit_e]
        refine ⟨by show 2 ≤ sizeLine; decide, fun a na => ⟨by show 3 ≤ sizeLine; decide, fun c nc => ⟨by show 2 ≤ sizeLine; decide, fun e ne => ?_⟩⟩⟩
        have hac : a ≠ c := ne_of_none upd_same nc
        have hh1 : (upd (upd (upd H7 a (.tup [.str (S []), .bl true])) c (.tup [.str (S []), .str (S []), .bl false])) e (.tup [.ref a, .ref c])) e = some (.tup [.ref a, .ref c]) := upd_same
        have s7 : Same H7 (upd (upd (upd H7 a (.tup [.str (S []), .bl true])) c (.tup [.str (S []), .str (S []), .bl false])) e (.tup [.ref a, .ref c])) := ((same_new na).trans (same_new nc)).trans (same_new ne)
        have ha3 : (upd (upd (upd H7 a (.tup [.str (S []), .bl true])) c (.tup [.str (S []), .str (S []), .bl false])) e (.tup [.ref a, .ref c])) a = some (.tup [.str (S []), .bl true]) := (same_new ne) _ _ ((same_new nc) _ _ upd_same)
        have hc3 : (upd (upd (upd H7 a (.tup [.str (S []), .bl true])) c (.tup [.str (S []), .str (S []), .bl false])) e (.tup [.ref a, .ref c])) c = some (.tup [.str (S []), .str (S []), .bl false]) := (same_new ne) _ _ upd_same
        generalize upd (upd (upd H7 a (.tup [.str (S []), .bl true])) c (.tup [.str (S []), .str (S []), .bl false])) e (.tup [.ref a, .ref c]) = H8 at hh1 s7 ha3 hc3 ⊢
        refine ⟨e, _, rfl, SqT.of hh1, rfl, _, _, rfl, _, _, rfl, rfl, ?_⟩
        exact qN _ _ ⟨a, c, [], [], [], true, false, rfl, (kk.trans k7).trans (Keeps.of s7), w7.same s7, s7 _ _ hla7, s7 _ _ hga7, s7 _ _ hde7, ha3, hc3, .inr ⟨rfl, rfl, rfl, rfl, rfl⟩⟩
      · exact qN _ _ ⟨sp0, ti0, s0, t5.1, t5.2.1, sb0, t5.2.2, rfl, kk.trans k7, w7, hla7, hga7, hde7, hsp7, hti7, .inl ⟨gapSp_space hs, ht⟩⟩
    · rintro σ7 H7 ⟨sp, ti, s, tw, tt, sb, tok, rfl, k7, w7, hla7, hga7, hde7, hsp7, hti7, dr⟩
      refine one_text AheadL aheadsV (by decide) (by decide) w7 rfl fun H8 A1 k8 w8 hA => ?_
      have hla8 := k8 _ _ (tup_ne hla7 w7) hla7
      have hga8 := k8 _ _ (tup_ne hga7 w7) hga7
      have hde8 := k8 _ _ (tup_ne hde7 w7) hde7
      have hsp8 := k8 _ _ (tup_ne hsp7 w7) hsp7
      have hti8 := k8 _ _ (tup_ne hti7 w7) hti7
      have kk8 := k7.trans k8
      obtain ⟨a1, a2⟩ := ahead_small A1 hA
      obtain ⟨l1, l2, l3, l4, l5, l6⟩ := label_ok pl hpl
      obtain ⟨g1, g2, g3⟩ := gapSp_len hg
      obtain ⟨d1, d2, d3, d4⟩ := dest_small d hd
      obtain ⟨r1, r2, r3, r4, r5, r6, r7, r8⟩ := drawn_ok dr htl
      obtain ⟨t1, t2⟩ := tail_small tl htl
      -- the text
      rw [lit_LB, lit_RBC]
      refine ⟨_, rfl, la, _, _, _, rfl, rfl, SqT.of hla8, p0 _ _, _, _, rfl, rfl, addL (by simp; omega), ?_⟩
      rw [S_app]
      refine ⟨_, _, rfl, rfl, addL (by simp; omega), ?_⟩
      rw [S_app]
      refine ⟨_, rfl, ga, _, _, _, rfl, rfl, SqT.of hga8, p0 _ _, _, _, rfl, rfl, addL (by simp; omega), ?_⟩
      rw [S_app]
      refine ⟨_, rfl, de, _, _, _, rfl, rfl, SqT.of hde8, q0 _ _ _, _, _, rfl, rfl, addL (by simp; omega), ?_⟩
      rw [S_app]
      refine ⟨_, rfl, _, rfl, sp, _, _, _, rfl, rfl, SqT.of hsp8, p0 _ _, _, _, rfl, rfl, addL (by simp; omega), ?_⟩
      rw [S_app]
      refine ⟨_, rfl, ti, _, _, _, rfl, rfl, SqT.of hti8, q0 _ _ _, _, _, rfl, rfl, addL (by simp; omega), ?_⟩
      rw [S_app]
      refine ⟨_, rfl, _, _, rfl, rfl, addL (by simp; omega), ?_⟩
      rw [S_app]
      refine ⟨_, rfl, _, rfl, _, _, rfl, rfl, addL (by simp; omega), ?_⟩
      rw [S_app]
      have et : A1 ++ ([91] ++ pl.1 ++ [93, 58] ++ g ++ d.1 ++ s ++ tw ++ tl) = A1 ++ 91 :: (pl.1 ++ 93 :: 58 :: (g ++ (d.1 ++ (s ++ tw ++ tl)))) := by simp
      rw [et]
      have hdef : defR ((A1 ++ 91 :: (pl.1 ++ 93 :: 58 :: (g ++ (d.1 ++ (s ++ tw ++ tl))))).drop A1.length) = (if gb = true ∧ d.2.2 = true then dueEnd s sb tw tt tok tl else none).map fun x => ⟨x.2, pl.1, d.2.1, x.1⟩ := by
        rw [List.drop_left, def_drawn l1 hd r2 g1, r1]
        split <;> rfl
      have hlen : (A1 ++ 91 :: (pl.1 ++ 93 :: 58 :: (g ++ (d.1 ++ (s ++ tw ++ tl))))).length ≤ 100 := by
        simp only [List.length_append, List.length_cons]
        omega
      have hasc : Asc (A1 ++ 91 :: (pl.1 ++ 93 :: 58 :: (g ++ (d.1 ++ (s ++ tw ++ tl))))) := by
        intro c hc
        simp only [List.mem_append, List.mem_cons] at hc
        rcases hc with h | h | h | h | h | h | h | (h | h) | h
        · exact a2 c h
        · omega
        · exact l5 c h
        · omega
        · omega
        · exact g3 c h
        · exact d3 c h
        · exact r5 c h
        · exact r6 c h
        · exact t2 c h
      have hA1 : A1.length ≤ (A1 ++ 91 :: (pl.1 ++ 93 :: 58 :: (g ++ (d.1 ++ (s ++ tw ++ tl))))).length := by rw [List.length_append]; omega
      generalize hT : A1 ++ 91 :: (pl.1 ++ 93 :: 58 :: (g ++ (d.1 ++ (s ++ tw ++ tl)))) = t at hdef hlen hasc hA1 ⊢
      have lnA : (S A1).length ≤ sizeLine := by rw [S_len, sizeLine_eq]; omega
      have eA : ((S A1).length : Int) = (A1.length : Int) := by rw [S_len]
      have tp : TP t A1.length := ⟨hA1, by omega⟩
      refine if_g (andB' (a := d.2.2) (fun Q q => ⟨_, rfl, de, _, _, _, rfl, rfl, SqT.of hde8, q2 _ _ _, _, rfl, q⟩)
        (andB' (a := decide (tw = [])) (b := ([32, 120] : List Nat).isPrefixOf tl) (fun Q q => ⟨_, rfl, ti, _, _, _, rfl, rfl, SqT.of hti8, q0 _ _ _, rfl, _, rfl, by rw [lit_e, S_dec]; exact q⟩)
          (fun Q q => ⟨_, rfl, rfl, _, _, rfl, rfl, _, rfl, by rw [lit_sx, starts1 tl [32, 120] (by simp)]; exact q⟩))) ?_
      cases hcA : (d.2.2 && (decide (tw = []) && ([32, 120] : List Nat).isPrefixOf tl)) with
      | true =>
        simp only [Bool.and_eq_true, decide_eq_true_eq] at hcA
        have hnone := r8 hcA.2.1 hcA.2.2
        rw [r1] at hnone
        have ho : (if gb = true ∧ d.2.2 = true then dueEnd s sb tw tt tok tl else none) = none := by
          split
          · exact hnone
          · rfl
        rw [ho] at hdef
        refine iteT ?_
        refine ⟨_, rfl, _, rfl, _, rfl, lnA, t, A1.length, congrArg (fun z => [V.str (S t), V.int z]) eA, tp, hasc, fun H9 v s9 hv => ?_⟩
        rw [hdef] at hv
        have hv' : v = .non := hv
        subst hv'
        exact ⟨rfl, _, rfl, iteT (q _ (kk8.trans (Keeps.of s9)) (w8.same s9))⟩
      | false =>
        refine iteF ?_
        refine if_n (andB' (a := d.2.2) (fun Q q => ⟨_, rfl, de, _, _, _, rfl, rfl, SqT.of hde8, q2 _ _ _, _, rfl, q⟩)
          (andB' (a := tok) (fun Q q => ⟨_, rfl, ti, _, _, _, rfl, rfl, SqT.of hti8, q2 _ _ _, _, rfl, q⟩)
            (andB' (a := decide (s = [])) (b := !decide (tw = [])) (fun Q q => ⟨_, rfl, sp, _, _, _, rfl, rfl, SqT.of hsp8, p0 _ _, rfl, _, rfl, by rw [lit_e, S_dec]; exact q⟩)
              (fun Q q => ⟨_, rfl, ti, _, _, _, rfl, rfl, SqT.of hti8, q0 _ _ _, rfl, _, rfl, by rw [lit_e, S_dec]; exact q⟩)))) (ite2 (fun _ => ?_) (fun _ => ?_))
        · exact q _ kk8 w8
        · refine ⟨_, rfl, _, rfl, _, rfl, lnA, _, rfl, _, rfl, _, rfl, _, rfl, _, rfl, ?_⟩
          refine ⟨t, A1, pl.1, pl.2, g, d.1, d.2.1, s, tw, tt, tl, gb, d.2.2, sb, tok, la, ga, de, sp, ti, congrArg (fun z => [V.str (S t), V.int z, V.ref la, V.ref ga, V.ref de, V.ref sp, V.ref ti]) eA, ⟨hT.symm, hlen, hla8, hga8, hde8, hsp8, hti8⟩, fun H9 v s9 hv => ?_⟩
          refine ⟨_, rfl, _, rfl, _, rfl, lnA, t, A1.length, congrArg (fun z => [V.str (S t), V.int z]) eA, tp, hasc, fun H10 v2 s10 hv2 => ?_⟩
          rw [hdef] at hv2
          have h2 := dv_due hv2
          rw [l2] at h2
          have h1 := hv.same s10
          have ok : DueOk pl.2 d.2.1 (if gb = true ∧ d.2.2 = true then dueEnd s sb tw tt tok tl else none) := ⟨small_sm l6, small_sm d4, fun x ti e1 e2 => by
            split at e1
            · exact dueEnd_title (small_sm r7) x ti e1 e2
            · cases e1⟩
          refine ⟨_, rfl, _, _, due_dp h2, due_dp h1, dud_shaped ok, dud_shaped ok, ?_⟩
          rw [dud_eq ok]
          exact q _ ((kk8.trans (Keeps.of s9)).trans (Keeps.of s10)) ((w8.same s9).same s10)

/-! ### bounds: 0 _law_well_here, 1 _law_many, 2 _law_sign, 3 _law_label_here, 4 _law_due_here, 5 _law_depth, 6 _law_target, 7 _law_wanted -/
theorem abV : ([.str "a", .str "b"] : List V) = ([[97], [98]] : List (List Nat)).map fun g => V.str (S g) := by decide +kernel
theorem lit_u : ("]: /u" : Str) = S [93, 58, 32, 47, 117] := by decide +kernel
theorem lit_su : ("/u" : Str) = S [47, 117] := by decide +kernel
theorem lit_la : ("[a]: " : Str) = S [91, 97, 93, 58, 32] := by decide +kernel
theorem lit_a : ("a" : Str) = S [97] := by decide +kernel
theorem lit_x : ("x" : Str) = S [120] := by decide +kernel
theorem lit_y : ("y" : Str) = S [121] := by decide +kernel
theorem norm_a : normR [97] = [97] := by decide +kernel
theorem flat1 (n x : Nat) : (List.replicate n [x]).flatten = List.replicate n x := by
  induction n with
  | zero => rfl
  | succ n ih => rw [List.replicate_succ, List.flatten_cons, ih, List.replicate_succ]; rfl
def Big (o : Bool) : Option (Option (List Nat) × List Nat) := if o = true then some (none, []) else none
theorem big_ok {ln dd : List Nat} {o : Bool} (h1 : ∀ c ∈ ln, c < 128) (h2 : ∀ c ∈ dd, c < 128) : DueOk ln dd (Big o) := ⟨small_sm h1, small_sm h2, fun x ti e1 e2 => by
  unfold Big at e1
  split at e1
  · have := Option.some.inj e1
    rw [← this] at e2
    cases e2
  · cases e1⟩
def sp__law_bounds_right (K : PySem.W.Frag) : Sp := fun vs H Q _ => ∃ L : Addr, vs = [.ref L] ∧ Well H L ∧ ∀ H', Keeps L H H' → Well H' L → Q (.bl true) H'
theorem ok__law_bounds_right {P : Program} {w : World} {K : PySem.W.Frag} {mg : Str → Option Value} {base : Heap} (T : Txt w K mg) : FnOk P w K mg base CX0 10 T.a__law_bounds_right T.d__law_bounds_right ["_law_well_here"] (sp__law_bounds_right K) := by
  refine T.f__law_bounds_right.ok sc__law_bounds_right (fun vs H Q E h => ?_) (fun cdv A outer s H vs Q E hr h => ?_)
  · obtain ⟨L, rfl, _⟩ := h
    rfl
  · obtain ⟨L, rfl, hW, q⟩ := h
    refine ⟨_, (pss_cons (ps_set (i := 1) sc__law_bounds_right.nd rfl (.inl rfl) (pe_op op_add pe_int (pe_call (ok__law_draw T) (hr.mono (by decide)) (by rfl) T.g__law_draw T.f__law_draw.kp T.b__law_draw .nil pass0 (pa_cons (pv 0) (pa_cons pe_int pa_nil)))))
        (pss_cons (ps_set (i := 2) sc__law_bounds_right.nd rfl (.inl rfl) (pe_call (ok__law_one T) (hr.mono (by decide)) (by rfl) T.g__law_one T.f__law_one.kp T.b__law_one .nil pass0 (pa_cons (pv 0) (pa_cons (pe_lst (pa_cons pe_str (pa_cons pe_str pa_nil))) pa_nil))))
        (pss_cons (ps_set (i := 3) sc__law_bounds_right.nd rfl (.inl rfl) (pe_op op_add_str (pe_op op_mul_txt (pe_op op_add_str (pe_op op_mul_txt (pv 2) pe_int) pe_str) pe_int) (pe_op op_mul_txt (pv 2) (pe_op op_sub (pv 1) pe_int))))
        (pss_cons (ps_set (i := 4) sc__law_bounds_right.nd rfl (.inl rfl) (pe_ifExp (pt_cmpR op_le (pv 1) pe_int (nomark _)) (pe_tup (pa_consT op_add (pe_callB call_len_str (by rfl) T.z_len PySem.boot_len (pa_cons (pv 3) pa_nil)) (pat_cons (CwR.pet_replC (pv 3)) (pat_cons (CwR.PET.of pe_str) (pat_cons (CwR.PET.of pe_non) pat_nil))))) pe_non))
        (pss_cons (ps_set (i := 5) sc__law_bounds_right.nd rfl (.inl rfl) (pe_op op_add pe_int (pe_call (ok__law_draw T) (hr.mono (by decide)) (by rfl) T.g__law_draw T.f__law_draw.kp T.b__law_draw .nil pass0 (pa_cons (pv 0) (pa_cons pe_int pa_nil)))))
        (pss_cons (ps_set (i := 6) sc__law_bounds_right.nd rfl (.inl rfl) (pe_op op_add_str (pe_op op_add_str (pe_op op_add_str pe_str (pe_op op_mul_txt pe_str (pv 5))) pe_str) (pe_op op_mul_txt pe_str (pv 5))))
        (pss_cons (ps_set (i := 7) sc__law_bounds_right.nd rfl (.inl rfl) (pe_ifExp (pt_cmpR op_le (pv 5) pe_int (nomark _)) (pe_tup (pa_cons (pe_op op_add (pe_callB call_len_str (by rfl) T.z_len PySem.boot_len (pa_cons (pv 6) pa_nil)) pe_int) (pa_cons pe_str (pa_cons (pv 6) (pa_cons pe_non pa_nil))))) pe_non))
        (pss_one (ps_ret (pe_and (pe_cmpR (op_eqD hr.units) (pe_call (ok_definition_at T) (hr.mono (by decide)) (by rfl) T.g_definition_at T.f_definition_at.kp T.b_definition_at .nil pass0 (pa_cons (pe_op op_add_str (pe_op op_add_str pe_str (pv 3)) pe_str) (pa_cons pe_int pa_nil))) (pv 4) (nomark _)) (pe_one (pe_cmpR (op_eqD hr.units) (pe_call (ok_definition_at T) (hr.mono (by decide)) (by rfl) T.g_definition_at T.f_definition_at.kp T.b_definition_at .nil pass0 (pa_cons (pe_op op_add_str pe_str (pv 6)) (pa_cons pe_int pa_nil))) (pv 7) (nomark _))))))))))))), ?_⟩
    refine one_draw 7 (by decide) hW rfl fun H1 k k1 w1 hk => ?_
    refine ⟨_, _, rfl, rfl, ?_⟩
    refine one_text [[97], [98]] abV (by decide) (by decide) w1 rfl fun H2 sg k2 w2 hsg => ?_
    obtain ⟨x, hx, rfl⟩ : ∃ x, (x = 97 ∨ x = 98) ∧ sg = [x] := by
      simp only [List.mem_cons, List.not_mem_nil, or_false] at hsg
      rcases hsg with rfl | rfl
      · exact ⟨97, .inl rfl, rfl⟩
      · exact ⟨98, .inr rfl, rfl⟩
    rw [lit_nl]
    refine ⟨_, rfl, [x], 149, rfl, rfl, by simp, by simp, by decide, ?_⟩
    rw [flat1]
    refine ⟨_, _, rfl, rfl, addL (by rw [List.length_replicate]; decide), ?_⟩
    rw [S_app]
    refine ⟨_, 6, rfl, rfl, by simp, by rw [List.length_append, List.length_replicate]; decide, by decide, ?_⟩
    refine ⟨_, rfl, _, rfl, _, _, rfl, rfl, [x], 96 + k, rfl, ?_, by simp, by simp, by omega, ?_⟩
    · show V.int (996 + (k : Int) - 900) = V.int ((96 + k : Nat) : Int)
      congr 1
      omega
    rw [flat1]
    have el : (List.replicate 6 (List.replicate 149 x ++ [10])).flatten ++ List.replicate (96 + k) x = longL x (95 + k + 1) := by
      rw [show 96 + k = 95 + k + 1 by omega]
      rfl
    have hll := longL_len x (95 + k + 1)
    refine ⟨_, _, rfl, rfl, addL (by have := congrArg List.length el; rw [List.length_append, hll] at this; omega), ?_⟩
    rw [S_app, el]
    have hdef := long_def (x := x) (m := 95 + k) hx
    have hnorm := long_norm (x := x) (m := 95 + k) hx
    have hrep := long_repl (x := x) (m := 95 + k + 1)
    have hmem := longL_mem (x := x) (m := 95 + k + 1)
    generalize longL x (95 + k + 1) = lab at hll hdef hnorm hrep hmem ⊢
    have hasc : ∀ c ∈ lab, c < 128 := fun c hc => by
      rcases hmem c hc with h | h
      · rcases hx with h2 | h2 <;> omega
      · omega
    have hbl : ∀ c ∈ blankL lab, c < 128 := fun c hc => by
      obtain ⟨y, hy, rfl⟩ := List.mem_map.mp hc
      have := hasc y hy
      split <;> omega
    have hl2 : lab.length ≤ 1010 := by omega
    have lnl : (S lab).length ≤ sizeLine := by rw [S_len, sizeLine_eq]; omega
    have hk3 : decide ((996 : Int) + (k : Int) ≤ 999) = decide (k ≤ 3) := by
      by_cases h : k ≤ 3
      · rw [decide_eq_true h]
        exact decide_eq_true (by omega)
      · rw [decide_eq_false h]
        exact decide_eq_false (by omega)
    have hD : defR (91 :: (lab ++ [93, 58, 32, 47, 117])) = (Big (decide (k ≤ 3))).map fun y => ⟨y.2, lab, [47, 117], y.1⟩ := by
      rw [hdef]
      unfold Big
      by_cases h : k ≤ 3
      · rw [if_pos (by omega), if_pos (decide_eq_true h)]
        rfl
      · rw [if_neg (by omega), if_neg (by rw [decide_eq_false h]; exact Bool.false_ne_true)]
        rfl
    refine asg_if_g (fun v H' => DueV H' v (91 :: (lab ++ [93, 58, 32, 47, 117])) (blankL lab) [47, 117] (Big (decide (k ≤ 3))) ∧ Same H2 H') (decide ((996 : Int) + (k : Int) ≤ 999)) (fun Q q => ⟨_, rfl, _, _, rfl, rfl, _, rfl, q⟩) (fun h Q q => ?_) (fun h Q q => ?_) ?_
    · rw [hk3] at h
      refine ⟨_, rfl, _, rfl, lnl, _, _, rfl, rfl, _, rfl, _, rfl, ?_, ?_⟩
      · show (S lab).length + ((S lab).length + 1) * 1 ≤ 16777216
        rw [S_len]
        omega
      rw [lit_sp, hrep, lit_su]
      refine ⟨by show 4 ≤ sizeLine; decide, fun p np => ?_⟩
      refine q _ _ ⟨?_, same_new np⟩
      rw [h]
      refine ⟨p, rfl, ?_⟩
      rw [upd_same]
      congr 4
      rw [S_len]
      unfold pos
      simp
      omega
    · rw [hk3] at h
      refine q _ _ ⟨?_, Same.refl _⟩
      rw [h]
      rfl
    rintro v3 H3 ⟨hv3, s3⟩
    have w3 := w2.same s3
    refine one_draw 5 (by decide) w3 rfl fun H4 j k4 w4 hj => ?_
    refine ⟨_, _, rfl, rfl, ?_⟩
    rw [lit_LP, lit_RP, lit_x, lit_y]
    refine ⟨_, rfl, [40], 30 + j, rfl, rfl, by decide, by decide, by omega, ?_⟩
    rw [flat1]
    refine ⟨_, _, rfl, rfl, addL (by rw [List.length_replicate]; simp; omega), ?_⟩
    rw [S_app]
    refine ⟨_, _, rfl, rfl, addL (by simp; omega), ?_⟩
    rw [S_app]
    refine ⟨_, rfl, [41], 30 + j, rfl, rfl, by decide, by decide, by omega, ?_⟩
    rw [flat1]
    refine ⟨_, _, rfl, rfl, addL (by simp; omega), ?_⟩
    rw [S_app]
    have etg : [120] ++ List.replicate (30 + j) 40 ++ [121] ++ List.replicate (30 + j) 41 = tgtL (30 + j) := by
      unfold tgtL
      simp
    rw [etg]
    have hT := tgt_def j hj
    have hTl : (tgtL (30 + j)).length = 62 + 2 * j := by
      unfold tgtL
      simp
      omega
    have hTa : ∀ c ∈ tgtL (30 + j), c < 128 := by
      intro c hc
      unfold tgtL at hc
      rcases List.mem_cons.mp hc with h | h
      · omega
      · rcases List.mem_append.mp h with h | h
        · have := List.eq_of_mem_replicate h
          omega
        · rcases List.mem_cons.mp h with h | h
          · omega
          · have := List.eq_of_mem_replicate h
            omega
    generalize tgtL (30 + j) = tg at hT hTl hTa ⊢
    have lnt : (S tg).length ≤ sizeLine := by rw [S_len, sizeLine_eq]; omega
    have hj2 : decide ((30 : Int) + (j : Int) ≤ 32) = decide (j ≤ 2) := by
      by_cases h : j ≤ 2
      · rw [decide_eq_true h]
        exact decide_eq_true (by omega)
      · rw [decide_eq_false h]
        exact decide_eq_false (by omega)
    have hE : defR ([91, 97, 93, 58, 32] ++ tg) = (Big (decide (j ≤ 2))).map fun y => ⟨y.2, [97], tg, y.1⟩ := by
      rw [hT]
      unfold Big
      by_cases h : j ≤ 2
      · rw [if_pos h, if_pos (decide_eq_true h)]
        rfl
      · rw [if_neg h, if_neg (by rw [decide_eq_false h]; exact Bool.false_ne_true)]
        rfl
    refine asg_if_g (fun v H' => DueV H' v ([91, 97, 93, 58, 32] ++ tg) [97] tg (Big (decide (j ≤ 2))) ∧ Same H4 H') (decide ((30 : Int) + (j : Int) ≤ 32)) (fun Q q => ⟨_, rfl, _, _, rfl, rfl, _, rfl, q⟩) (fun h Q q => ?_) (fun h Q q => ?_) ?_
    · rw [hj2] at h
      rw [lit_a]
      refine ⟨_, rfl, _, rfl, lnt, _, _, rfl, rfl, _, rfl, by show 4 ≤ sizeLine; decide, fun p np => ?_⟩
      refine q _ _ ⟨?_, same_new np⟩
      rw [h]
      refine ⟨p, rfl, ?_⟩
      rw [upd_same]
      congr 4
    · rw [hj2] at h
      refine q _ _ ⟨?_, Same.refl _⟩
      rw [h]
      rfl
    rintro v5 H5 ⟨hv5, s5⟩
    have w5 := w4.same s5
    have hv35 : DueV H5 v3 (91 :: (lab ++ [93, 58, 32, 47, 117])) (blankL lab) [47, 117] (Big (decide (k ≤ 3))) := by
      have k45 := k4.trans (Keeps.of s5)
      revert hv3
      cases Big (decide (k ≤ 3)) with
      | none => exact fun z => z
      | some y =>
        rintro ⟨a, e, ha⟩
        exact ⟨a, e, k45 _ _ (tup_ne ha w3) ha⟩
    have kk5 := (((k1.trans k2).trans (Keeps.of s3)).trans k4).trans (Keeps.of s5)
    rw [lit_LB, lit_u]
    refine ⟨_, rfl, _, _, rfl, rfl, addL (by simp; omega), ?_⟩
    rw [S_app]
    refine ⟨_, _, rfl, rfl, addL (by simp; omega), ?_⟩
    rw [S_app]
    have e1 : [91] ++ lab ++ [93, 58, 32, 47, 117] = 91 :: (lab ++ [93, 58, 32, 47, 117]) := by simp
    rw [e1]
    refine ⟨_, 0, rfl, ⟨Nat.zero_le _, by simp; omega⟩, fun c hc => ?_, fun H6 v6 s6 hv6 => ?_⟩
    · rcases List.mem_cons.mp hc with h | h
      · omega
      · rcases List.mem_append.mp h with h | h
        · exact hasc c h
        · have : ∀ c ∈ ([93, 58, 32, 47, 117] : List Nat), c < 128 := by decide
          exact this c h
    rw [List.drop_zero, hD] at hv6
    have h6 := dv_due hv6
    have okD : DueOk (blankL lab) [47, 117] (Big (decide (k ≤ 3))) := big_ok hbl (by decide)
    rw [hnorm] at h6
    refine ⟨_, rfl, _, _, due_dp h6, due_dp (hv35.same s6), dud_shaped okD, dud_shaped okD, ?_⟩
    rw [dud_eq okD]
    refine ⟨_, rfl, iteT ?_⟩
    rw [lit_la]
    refine ⟨_, rfl, _, _, rfl, rfl, addL (by simp; omega), ?_⟩
    rw [S_app]
    refine ⟨_, 0, rfl, ⟨Nat.zero_le _, by simp; omega⟩, fun c hc => ?_, fun H7 v7 s7 hv7 => ?_⟩
    · rcases List.mem_append.mp hc with h | h
      · have : ∀ c ∈ ([91, 97, 93, 58, 32] : List Nat), c < 128 := by decide
        exact this c h
      · exact hTa c h
    rw [List.drop_zero, hE] at hv7
    have h7 := dv_due hv7
    rw [norm_a] at h7
    have okE : DueOk [97] tg (Big (decide (j ≤ 2))) := big_ok (by decide) hTa
    refine ⟨_, rfl, _, _, due_dp h7, due_dp ((hv5.same s6).same s7), dud_shaped okE, dud_shaped okE, ?_⟩
    rw [dud_eq okE]
    exact q _ ((kk5.trans (Keeps.of s6)).trans (Keeps.of s7)) ((w5.same s6).same s7)

/-! ### the law: 0 _law_script, 1 _law_some, 2 _law_text, 3 _law_cell, 4 _law_well_here, 5 _law_k -/
def NoneL : List (List Nat) := [[], [91, 97, 93], [91, 97, 93, 32, 58, 32, 47, 117], [91, 93, 58, 32, 47, 117], [91, 32, 93, 58, 32, 47, 117], [91, 97, 10, 10, 93, 58], [97, 91, 97, 93, 58, 32, 47, 117], [91, 91, 97, 93, 58, 32, 47, 117], [91, 97, 93, 58, 32], [91, 97, 93, 58, 10]]
theorem nonesV : ([.str "", .str "[a]", .str "[a] : /u", .str "[]: /u", .str "[ ]: /u", .str "[a\n\n]:", .str "a[a]: /u", .str "[[a]: /u", .str "[a]: ", .str "[a]:\n"] : List V) = NoneL.map fun g => V.str (S g) := by decide +kernel
theorem none_ok : ∀ t ∈ NoneL, defR t = none ∧ t.length ≤ 20 ∧ ∀ c ∈ t, c < 128 := by decide +kernel
def sp_law (K : PySem.W.Frag) : Sp := fun vs H Q _ => ∃ (a : Addr) (ns : List Int), vs = [.ref a] ∧ SqL K H a (ns.map V.int) ∧ ns.length ≤ 63 ∧ ∀ H', Q (.bl true) H'
theorem sql_same {K : PySem.W.Frag} {H H' : Hp} {a : Addr} {xs : List V} (h : SqL K H a xs) (s : Same H H') : SqL K H' a xs := by
  rcases h with (h | ⟨o, h⟩) | h
  · exact .inl (.inl (s _ _ h))
  · exact .inl (.inr ⟨o, s _ _ h⟩)
  · exact .inr h
theorem ok_law {P : Program} {w : World} {K : PySem.W.Frag} {mg : Str → Option Value} {base : Heap} {f : Addr} {fd : FuncData} (T : Txt w K mg) (F : Fun K "law" "law" s_law f fd) : FnOk P w K mg base CX0 11 f fd ["_law_script"] (sp_law K) := by
  refine F.ok sc_law (fun vs H Q E h => ?_) (fun cdv A outer s H vs Q E hr h => ?_)
  · obtain ⟨a, ns, rfl, _⟩ := h
    rfl
  · obtain ⟨a, ns, rfl, hS, hlen, q⟩ := h
    refine ⟨_, (pss_cons (ps_set (i := 1) sc_law.nd rfl (.inl rfl) (pe_lst (pa_cons pe_str (pa_cons pe_str (pa_cons pe_str (pa_cons pe_str (pa_cons pe_str (pa_cons pe_str (pa_cons pe_str (pa_cons pe_str (pa_cons pe_str (pa_cons pe_str pa_nil))))))))))))
        (pss_cons (ps_for PassesOwn.never rfl (pi_list (pv 1)) (pg_name (i := 2) sc_law.nd rfl (.inl rfl)) (pss_one (ps_if (pt_cmpR op_notN (pe_call (ok_definition_at T) (hr.mono (by decide)) (by rfl) T.g_definition_at T.f_definition_at.kp T.b_definition_at .nil pass0 (pa_cons (pv 2) (pa_cons pe_int pa_nil))) pe_non (nomark _)) (pss_one (ps_ret pe_bl)) pss_nil)))
        (pss_cons (ps_for PassesOwn.never rfl (pi_list (pe_op op_cat (pe_slice sl_list (pv 0) po_none (po_some pe_int)) (pe_lst (pa_cons pe_int pa_nil)))) (pg_name (i := 3) sc_law.nd rfl (.inl rfl)) (pss_cons (ps_set (i := 4) sc_law.nd rfl (.inl rfl) (pe_call (ok__law_well T) (hr.mono (by decide)) (by rfl) T.g__law_well T.f__law_well.kp T.b__law_well .nil pass0 (pa_cons (pv 3) pa_nil)))
        (pss_cons (ps_if (pt_not (pt_val (pe_call (ok__law_bounds_right T) (hr.mono (by decide)) (by rfl) T.g__law_bounds_right T.f__law_bounds_right.kp T.b__law_bounds_right .nil pass0 (pa_cons (pv 4) pa_nil)))) (pss_one (ps_ret pe_bl)) pss_nil)
        (pss_one (ps_for PassesOwn.never rfl (pi_range1 (by rfl) T.z_range (pa_cons pe_int pa_nil)) (pg_name (i := 5) sc_law.nd rfl (.inl rfl)) (pss_one (ps_if (pt_not (pt_val (pe_call (ok__law_one_right T) (hr.mono (by decide)) (by rfl) T.g__law_one_right T.f__law_one_right.kp T.b__law_one_right .nil pass0 (pa_cons (pv 4) pa_nil)))) (pss_one (ps_ret pe_bl)) pss_nil)))))))
        (pss_one (ps_ret pe_bl))))), ?_⟩
    refine ⟨by show 10 ≤ sizeLine; decide, fun p0 np0 => ?_⟩
    rw [nonesV]
    have hp0 : (upd H p0 (.lst (NoneL.map fun g => V.str (S g)))) p0 = some (.lst (NoneL.map fun g => V.str (S g))) := upd_same
    have hS0 : SqL K (upd H p0 (.lst (NoneL.map fun g => V.str (S g)))) a (ns.map V.int) := sql_same hS (same_new np0)
    generalize upd H p0 (.lst (NoneL.map fun g => V.str (S g))) = Hn at hp0 hS0 ⊢
    refine ⟨_, rfl, p0, rfl, ⟨_, SqL.of hp0⟩, for_list (K := K) (a := p0) (xs := NoneL.map fun g => V.str (S g)) (fun i σ H' => (∃ (v2 v3 v4 v5 : Option V), σ = [some (.ref a), some (.ref p0), v2, v3, v4, v5]) ∧ Same Hn H') ⟨⟨_, _, _, _, rfl⟩, Same.refl _⟩ (fun i σ H' _ h => SqL.of (h.2 _ _ hp0)) ?_ ?_⟩
    · rintro i x σ H' hi ⟨⟨v2, v3, v4, v5, rfl⟩, sm⟩
      obtain ⟨t, ht, rfl⟩ := List.mem_map.mp (List.mem_of_getElem? hi)
      obtain ⟨n1, n2, n3⟩ := none_ok t ht
      refine ⟨_, rfl, t, 0, rfl, ⟨Nat.zero_le _, by omega⟩, n3, fun H1 v s1 hv => ?_⟩
      rw [List.drop_zero, n1] at hv
      have hv' : v = .non := hv
      subst hv'
      exact ⟨rfl, _, rfl, iteF ⟨⟨_, _, _, _, rfl⟩, sm.trans s1⟩⟩
    · rintro σ H1 ⟨⟨v2, v3, v4, v5, rfl⟩, sm⟩
      have hS1 := sql_same hS0 sm
      -- script[:8] + [0]
      refine ⟨_, rfl, _, rfl, a, _, rfl, hS1, fun p np => ⟨by show 1 ≤ sizeLine; decide, fun p2 np2 => ⟨p, p2, _, _, rfl, rfl, by rw [upd_ne (ne_of_none upd_same np2)]; exact upd_same, upd_same, ?_, fun p3 np3 => ?_⟩⟩⟩
      · have := cutV_length (ns.map V.int) none (some 8)
        rw [List.length_map] at this
        rw [sizeLine_eq]
        show (cutV (ns.map V.int) none (some 8)).length + 1 ≤ _
        omega
      have ec : cutV (ns.map V.int) none (some 8) ++ [V.int 0] = (ns.take 8 ++ [0]).map V.int := by
        unfold cutV
        rw [HT.sIx_none, show HT.sIx (ns.map V.int).length (ns.map V.int).length (some 8) = min 8 (ns.map V.int).length from HT.sIx_nat _ _ 8]
        rw [List.drop_zero, Nat.sub_zero, List.map_append, List.map_take]
        have e8 : (ns.map V.int).take (min 8 (ns.map V.int).length) = (ns.map V.int).take 8 := by
          by_cases h8 : 8 ≤ (ns.map V.int).length
          · rw [Nat.min_eq_left h8]
          · rw [Nat.min_eq_right (by omega), List.take_length, List.take_of_length_le (by omega)]
        rw [e8]
        rfl
      rw [ec]
      have h3 : (upd (upd (upd H1 p (.lst (cutV (ns.map V.int) none (some 8)))) p2 (.lst [V.int 0])) p3 (.lst ((ns.take 8 ++ [0]).map V.int))) p3 = some (.lst ((ns.take 8 ++ [0]).map V.int)) := upd_same
      generalize upd (upd (upd H1 p (.lst (cutV (ns.map V.int) none (some 8)))) p2 (.lst [V.int 0])) p3 (.lst ((ns.take 8 ++ [0]).map V.int)) = H0 at h3 ⊢
      generalize ns.take 8 ++ [0] = ms at h3 ⊢
      refine ⟨p3, rfl, ⟨_, SqL.of h3⟩, for_list (K := K) (a := p3) (xs := ms.map V.int) (fun i σ H' => (∃ (v2 v3 v4 v5 : Option V), σ = [some (.ref a), some (.ref p0), v2, v3, v4, v5]) ∧ H' p3 = some (.lst (ms.map V.int))) ⟨⟨_, _, _, _, rfl⟩, h3⟩ (fun i σ H' _ h => SqL.of h.2) ?_ ?_⟩
      · rintro i x σ H' hi ⟨⟨v2, v3, v4, v5, rfl⟩, hp⟩
        obtain ⟨z, hz, rfl⟩ : ∃ z, ms[i]? = some z ∧ x = V.int z := by
          rw [List.getElem?_map] at hi
          cases e : ms[i]? with
          | none => rw [e] at hi; cases hi
          | some z => rw [e] at hi; exact ⟨z, rfl, (Option.some.inj hi).symm⟩
        refine ⟨_, rfl, z, rfl, fun L nL => ?_⟩
        have hW1 : Well (upd H' L (.lst [.int z, .int 0])) L := ⟨_, _, upd_same⟩
        have npL : p3 ≠ L := ne_of_none hp nL
        have hp1 : (upd H' L (.lst [.int z, .int 0])) p3 = some (.lst (ms.map V.int)) := by rw [upd_ne npL]; exact hp
        generalize upd H' L (.lst [.int z, .int 0]) = H2 at hW1 hp1 ⊢
        refine ⟨_, rfl, L, rfl, hW1, fun H3 k3 w3 => ⟨_, rfl, iteF ?_⟩⟩
        refine ⟨6, rfl, by decide, by decide, for_range (lo := 0) (n := 6) (fun i σ H' => (∃ v5 : Option V, σ = [some (.ref a), some (.ref p0), v2, some (.int z), some (.ref L), v5]) ∧ H' p3 = some (.lst (ms.map V.int)) ∧ Well H' L) ⟨⟨_, rfl⟩, k3 _ _ npL hp1, w3⟩ ?_ ?_⟩
        · rintro k σ H4 hk ⟨⟨v5, rfl⟩, hp4, w4⟩
          exact ⟨_, rfl, L, rfl, w4, fun H5 k5 w5 => ⟨_, rfl, iteF ⟨⟨_, rfl⟩, k5 _ _ npL hp4, w5⟩⟩⟩
        · rintro σ H4 ⟨⟨v5, rfl⟩, hp4, w4⟩
          exact ⟨⟨_, _, _, _, rfl⟩, hp4⟩
      · rintro σ H' ⟨⟨v2, v3, v4, v5, rfl⟩, hp⟩
        exact q H'

theorem all_mk {l : PySem.W.OpenLaw} {w : World} {K : PySem.W.Frag} {h : Heap} {mg : Str → Option Value} {fa : Addr} (X : K.In h) (G : h.Ns mainGlobals mg) (hfa : mg "law" = some (.ref fa))
    {f0 : Addr} {od0 an0 : Option Addr} {sl0 : Array (Option Value)} {oc0 kV0 dc0 pm0 cd0 ct0 : Value}
    (a0 : PySem.W.nsIn K mainGlobals "behind_all" = some (some (.ref f0))) (l0 : K.lookup f0 = some ⟨oc0, od0, .func (PySem.W.fnOf "behind_all" "behind_all" (defArgs s_behind_all) (defBody s_behind_all) (defScope s_behind_all) .none kV0 dc0 pm0 an0 cd0 ct0), sl0⟩) (c0 : PySem.W.codeIn K cd0 "behind_all" = true) (k0 : PySem.W.keepIn K (.ref f0) = true)
    {f1 : Addr} {od1 an1 : Option Addr} {sl1 : Array (Option Value)} {oc1 kV1 dc1 pm1 cd1 ct1 : Value}
    (a1 : PySem.W.nsIn K mainGlobals "behind_gap" = some (some (.ref f1))) (l1 : K.lookup f1 = some ⟨oc1, od1, .func (PySem.W.fnOf "behind_gap" "behind_gap" (defArgs s_behind_gap) (defBody s_behind_gap) (defScope s_behind_gap) .none kV1 dc1 pm1 an1 cd1 ct1), sl1⟩) (c1 : PySem.W.codeIn K cd1 "behind_gap" = true) (k1 : PySem.W.keepIn K (.ref f1) = true)
    {f2 : Addr} {od2 an2 : Option Addr} {sl2 : Array (Option Value)} {oc2 kV2 dc2 pm2 cd2 ct2 : Value}
    (a2 : PySem.W.nsIn K mainGlobals "behind_sign" = some (some (.ref f2))) (l2 : K.lookup f2 = some ⟨oc2, od2, .func (PySem.W.fnOf "behind_sign" "behind_sign" (defArgs s_behind_sign) (defBody s_behind_sign) (defScope s_behind_sign) .none kV2 dc2 pm2 an2 cd2 ct2), sl2⟩) (c2 : PySem.W.codeIn K cd2 "behind_sign" = true) (k2 : PySem.W.keepIn K (.ref f2) = true)
    {f3 : Addr} {od3 an3 : Option Addr} {sl3 : Array (Option Value)} {oc3 kV3 dc3 pm3 cd3 ct3 : Value}
    (a3 : PySem.W.nsIn K mainGlobals "is_escape" = some (some (.ref f3))) (l3 : K.lookup f3 = some ⟨oc3, od3, .func (PySem.W.fnOf "is_escape" "is_escape" (defArgs s_is_escape) (defBody s_is_escape) (defScope s_is_escape) .none kV3 dc3 pm3 an3 cd3 ct3), sl3⟩) (c3 : PySem.W.codeIn K cd3 "is_escape" = true) (k3 : PySem.W.keepIn K (.ref f3) = true)
    {f4 : Addr} {od4 an4 : Option Addr} {sl4 : Array (Option Value)} {oc4 kV4 dc4 pm4 cd4 ct4 : Value}
    (a4 : PySem.W.nsIn K mainGlobals "first_plain" = some (some (.ref f4))) (l4 : K.lookup f4 = some ⟨oc4, od4, .func (PySem.W.fnOf "first_plain" "first_plain" (defArgs s_first_plain) (defBody s_first_plain) (defScope s_first_plain) .none kV4 dc4 pm4 an4 cd4 ct4), sl4⟩) (c4 : PySem.W.codeIn K cd4 "first_plain" = true) (k4 : PySem.W.keepIn K (.ref f4) = true)
    {f5 : Addr} {od5 an5 : Option Addr} {sl5 : Array (Option Value)} {oc5 kV5 dc5 pm5 cd5 ct5 : Value}
    (a5 : PySem.W.nsIn K mainGlobals "reference_at" = some (some (.ref f5))) (l5 : K.lookup f5 = some ⟨oc5, od5, .func (PySem.W.fnOf "reference_at" "reference_at" (defArgs s_reference_at) (defBody s_reference_at) (defScope s_reference_at) .none kV5 dc5 pm5 an5 cd5 ct5), sl5⟩) (c5 : PySem.W.codeIn K cd5 "reference_at" = true) (k5 : PySem.W.keepIn K (.ref f5) = true)
    {f6 : Addr} {od6 an6 : Option Addr} {sl6 : Array (Option Value)} {oc6 kV6 dc6 pm6 cd6 ct6 : Value}
    (a6 : PySem.W.nsIn K mainGlobals "decoded" = some (some (.ref f6))) (l6 : K.lookup f6 = some ⟨oc6, od6, .func (PySem.W.fnOf "decoded" "decoded" (defArgs s_decoded) (defBody s_decoded) (defScope s_decoded) .none kV6 dc6 pm6 an6 cd6 ct6), sl6⟩) (c6 : PySem.W.codeIn K cd6 "decoded" = true) (k6 : PySem.W.keepIn K (.ref f6) = true)
    {f7 : Addr} {od7 an7 : Option Addr} {sl7 : Array (Option Value)} {oc7 kV7 dc7 pm7 cd7 ct7 : Value}
    (a7 : PySem.W.nsIn K mainGlobals "decoded_at" = some (some (.ref f7))) (l7 : K.lookup f7 = some ⟨oc7, od7, .func (PySem.W.fnOf "decoded_at" "decoded_at" (defArgs s_decoded_at) (defBody s_decoded_at) (defScope s_decoded_at) .none kV7 dc7 pm7 an7 cd7 ct7), sl7⟩) (c7 : PySem.W.codeIn K cd7 "decoded_at" = true) (k7 : PySem.W.keepIn K (.ref f7) = true)
    {f8 : Addr} {od8 an8 : Option Addr} {sl8 : Array (Option Value)} {oc8 kV8 dc8 pm8 cd8 ct8 : Value}
    (a8 : PySem.W.nsIn K mainGlobals "sign_meant" = some (some (.ref f8))) (l8 : K.lookup f8 = some ⟨oc8, od8, .func (PySem.W.fnOf "sign_meant" "sign_meant" (defArgs s_sign_meant) (defBody s_sign_meant) (defScope s_sign_meant) .none kV8 dc8 pm8 an8 cd8 ct8), sl8⟩) (c8 : PySem.W.codeIn K cd8 "sign_meant" = true) (k8 : PySem.W.keepIn K (.ref f8) = true)
    {f9 : Addr} {od9 an9 : Option Addr} {sl9 : Array (Option Value)} {oc9 kV9 dc9 pm9 cd9 ct9 : Value}
    (a9 : PySem.W.nsIn K mainGlobals "number_in" = some (some (.ref f9))) (l9 : K.lookup f9 = some ⟨oc9, od9, .func (PySem.W.fnOf "number_in" "number_in" (defArgs s_number_in) (defBody s_number_in) (defScope s_number_in) .none kV9 dc9 pm9 an9 cd9 ct9), sl9⟩) (c9 : PySem.W.codeIn K cd9 "number_in" = true) (k9 : PySem.W.keepIn K (.ref f9) = true)
    {f10 : Addr} {od10 an10 : Option Addr} {sl10 : Array (Option Value)} {oc10 kV10 dc10 pm10 cd10 ct10 : Value}
    (a10 : PySem.W.nsIn K mainGlobals "sign_of" = some (some (.ref f10))) (l10 : K.lookup f10 = some ⟨oc10, od10, .func (PySem.W.fnOf "sign_of" "sign_of" (defArgs s_sign_of) (defBody s_sign_of) (defScope s_sign_of) .none kV10 dc10 pm10 an10 cd10 ct10), sl10⟩) (c10 : PySem.W.codeIn K cd10 "sign_of" = true) (k10 : PySem.W.keepIn K (.ref f10) = true)
    {f11 : Addr} {od11 an11 : Option Addr} {sl11 : Array (Option Value)} {oc11 kV11 dc11 pm11 cd11 ct11 : Value}
    (a11 : PySem.W.nsIn K mainGlobals "normalised" = some (some (.ref f11))) (l11 : K.lookup f11 = some ⟨oc11, od11, .func (PySem.W.fnOf "normalised" "normalised" (defArgs s_normalised) (defBody s_normalised) (defScope s_normalised) .none kV11 dc11 pm11 an11 cd11 ct11), sl11⟩) (c11 : PySem.W.codeIn K cd11 "normalised" = true) (k11 : PySem.W.keepIn K (.ref f11) = true)
    {f12 : Addr} {od12 an12 : Option Addr} {sl12 : Array (Option Value)} {oc12 kV12 dc12 pm12 cd12 ct12 : Value}
    (a12 : PySem.W.nsIn K mainGlobals "is_label_text" = some (some (.ref f12))) (l12 : K.lookup f12 = some ⟨oc12, od12, .func (PySem.W.fnOf "is_label_text" "is_label_text" (defArgs s_is_label_text) (defBody s_is_label_text) (defScope s_is_label_text) .none kV12 dc12 pm12 an12 cd12 ct12), sl12⟩) (c12 : PySem.W.codeIn K cd12 "is_label_text" = true) (k12 : PySem.W.keepIn K (.ref f12) = true)
    {f13 : Addr} {od13 an13 : Option Addr} {sl13 : Array (Option Value)} {oc13 kV13 dc13 pm13 cd13 ct13 : Value}
    (a13 : PySem.W.nsIn K mainGlobals "label_at" = some (some (.ref f13))) (l13 : K.lookup f13 = some ⟨oc13, od13, .func (PySem.W.fnOf "label_at" "label_at" (defArgs s_label_at) (defBody s_label_at) (defScope s_label_at) .none kV13 dc13 pm13 an13 cd13 ct13), sl13⟩) (c13 : PySem.W.codeIn K cd13 "label_at" = true) (k13 : PySem.W.keepIn K (.ref f13) = true)
    {f14 : Addr} {od14 an14 : Option Addr} {sl14 : Array (Option Value)} {oc14 kV14 dc14 pm14 cd14 ct14 : Value}
    (a14 : PySem.W.nsIn K mainGlobals "destination_at" = some (some (.ref f14))) (l14 : K.lookup f14 = some ⟨oc14, od14, .func (PySem.W.fnOf "destination_at" "destination_at" (defArgs s_destination_at) (defBody s_destination_at) (defScope s_destination_at) .none kV14 dc14 pm14 an14 cd14 ct14), sl14⟩) (c14 : PySem.W.codeIn K cd14 "destination_at" = true) (k14 : PySem.W.keepIn K (.ref f14) = true)
    {f15 : Addr} {od15 an15 : Option Addr} {sl15 : Array (Option Value)} {oc15 kV15 dc15 pm15 cd15 ct15 : Value}
    (a15 : PySem.W.nsIn K mainGlobals "title_at" = some (some (.ref f15))) (l15 : K.lookup f15 = some ⟨oc15, od15, .func (PySem.W.fnOf "title_at" "title_at" (defArgs s_title_at) (defBody s_title_at) (defScope s_title_at) .none kV15 dc15 pm15 an15 cd15 ct15), sl15⟩) (c15 : PySem.W.codeIn K cd15 "title_at" = true) (k15 : PySem.W.keepIn K (.ref f15) = true)
    {f16 : Addr} {od16 an16 : Option Addr} {sl16 : Array (Option Value)} {oc16 kV16 dc16 pm16 cd16 ct16 : Value}
    (a16 : PySem.W.nsIn K mainGlobals "enclosed_at" = some (some (.ref f16))) (l16 : K.lookup f16 = some ⟨oc16, od16, .func (PySem.W.fnOf "enclosed_at" "enclosed_at" (defArgs s_enclosed_at) (defBody s_enclosed_at) (defScope s_enclosed_at) .none kV16 dc16 pm16 an16 cd16 ct16), sl16⟩) (c16 : PySem.W.codeIn K cd16 "enclosed_at" = true) (k16 : PySem.W.keepIn K (.ref f16) = true)
    {f17 : Addr} {od17 an17 : Option Addr} {sl17 : Array (Option Value)} {oc17 kV17 dc17 pm17 cd17 ct17 : Value}
    (a17 : PySem.W.nsIn K mainGlobals "behind_bare" = some (some (.ref f17))) (l17 : K.lookup f17 = some ⟨oc17, od17, .func (PySem.W.fnOf "behind_bare" "behind_bare" (defArgs s_behind_bare) (defBody s_behind_bare) (defScope s_behind_bare) .none kV17 dc17 pm17 an17 cd17 ct17), sl17⟩) (c17 : PySem.W.codeIn K cd17 "behind_bare" = true) (k17 : PySem.W.keepIn K (.ref f17) = true)
    {f18 : Addr} {od18 an18 : Option Addr} {sl18 : Array (Option Value)} {oc18 kV18 dc18 pm18 cd18 ct18 : Value}
    (a18 : PySem.W.nsIn K mainGlobals "definition_at" = some (some (.ref f18))) (l18 : K.lookup f18 = some ⟨oc18, od18, .func (PySem.W.fnOf "definition_at" "definition_at" (defArgs s_definition_at) (defBody s_definition_at) (defScope s_definition_at) .none kV18 dc18 pm18 an18 cd18 ct18), sl18⟩) (c18 : PySem.W.codeIn K cd18 "definition_at" = true) (k18 : PySem.W.keepIn K (.ref f18) = true)
    {f19 : Addr} {od19 an19 : Option Addr} {sl19 : Array (Option Value)} {oc19 kV19 dc19 pm19 cd19 ct19 : Value}
    (a19 : PySem.W.nsIn K mainGlobals "title_and_line" = some (some (.ref f19))) (l19 : K.lookup f19 = some ⟨oc19, od19, .func (PySem.W.fnOf "title_and_line" "title_and_line" (defArgs s_title_and_line) (defBody s_title_and_line) (defScope s_title_and_line) .none kV19 dc19 pm19 an19 cd19 ct19), sl19⟩) (c19 : PySem.W.codeIn K cd19 "title_and_line" = true) (k19 : PySem.W.keepIn K (.ref f19) = true)
    {f20 : Addr} {od20 an20 : Option Addr} {sl20 : Array (Option Value)} {oc20 kV20 dc20 pm20 cd20 ct20 : Value}
    (a20 : PySem.W.nsIn K mainGlobals "behind_line" = some (some (.ref f20))) (l20 : K.lookup f20 = some ⟨oc20, od20, .func (PySem.W.fnOf "behind_line" "behind_line" (defArgs s_behind_line) (defBody s_behind_line) (defScope s_behind_line) .none kV20 dc20 pm20 an20 cd20 ct20), sl20⟩) (c20 : PySem.W.codeIn K cd20 "behind_line" = true) (k20 : PySem.W.keepIn K (.ref f20) = true)
    {f21 : Addr} {od21 an21 : Option Addr} {sl21 : Array (Option Value)} {oc21 kV21 dc21 pm21 cd21 ct21 : Value}
    (a21 : PySem.W.nsIn K mainGlobals "_law_well" = some (some (.ref f21))) (l21 : K.lookup f21 = some ⟨oc21, od21, .func (PySem.W.fnOf "_law_well" "_law_well" (defArgs s__law_well) (defBody s__law_well) (defScope s__law_well) .none kV21 dc21 pm21 an21 cd21 ct21), sl21⟩) (c21 : PySem.W.codeIn K cd21 "_law_well" = true) (k21 : PySem.W.keepIn K (.ref f21) = true)
    {f22 : Addr} {od22 an22 : Option Addr} {sl22 : Array (Option Value)} {oc22 kV22 dc22 pm22 cd22 ct22 : Value}
    (a22 : PySem.W.nsIn K mainGlobals "_law_draw" = some (some (.ref f22))) (l22 : K.lookup f22 = some ⟨oc22, od22, .func (PySem.W.fnOf "_law_draw" "_law_draw" (defArgs s__law_draw) (defBody s__law_draw) (defScope s__law_draw) .none kV22 dc22 pm22 an22 cd22 ct22), sl22⟩) (c22 : PySem.W.codeIn K cd22 "_law_draw" = true) (k22 : PySem.W.keepIn K (.ref f22) = true)
    {f23 : Addr} {od23 an23 : Option Addr} {sl23 : Array (Option Value)} {oc23 kV23 dc23 pm23 cd23 ct23 : Value}
    (a23 : PySem.W.nsIn K mainGlobals "_law_one" = some (some (.ref f23))) (l23 : K.lookup f23 = some ⟨oc23, od23, .func (PySem.W.fnOf "_law_one" "_law_one" (defArgs s__law_one) (defBody s__law_one) (defScope s__law_one) .none kV23 dc23 pm23 an23 cd23 ct23), sl23⟩) (c23 : PySem.W.codeIn K cd23 "_law_one" = true) (k23 : PySem.W.keepIn K (.ref f23) = true)
    {f24 : Addr} {od24 an24 : Option Addr} {sl24 : Array (Option Value)} {oc24 kV24 dc24 pm24 cd24 ct24 : Value}
    (a24 : PySem.W.nsIn K mainGlobals "_law_label" = some (some (.ref f24))) (l24 : K.lookup f24 = some ⟨oc24, od24, .func (PySem.W.fnOf "_law_label" "_law_label" (defArgs s__law_label) (defBody s__law_label) (defScope s__law_label) .none kV24 dc24 pm24 an24 cd24 ct24), sl24⟩) (c24 : PySem.W.codeIn K cd24 "_law_label" = true) (k24 : PySem.W.keepIn K (.ref f24) = true)
    {f25 : Addr} {od25 an25 : Option Addr} {sl25 : Array (Option Value)} {oc25 kV25 dc25 pm25 cd25 ct25 : Value}
    (a25 : PySem.W.nsIn K mainGlobals "_law_gap" = some (some (.ref f25))) (l25 : K.lookup f25 = some ⟨oc25, od25, .func (PySem.W.fnOf "_law_gap" "_law_gap" (defArgs s__law_gap) (defBody s__law_gap) (defScope s__law_gap) .none kV25 dc25 pm25 an25 cd25 ct25), sl25⟩) (c25 : PySem.W.codeIn K cd25 "_law_gap" = true) (k25 : PySem.W.keepIn K (.ref f25) = true)
    {f26 : Addr} {od26 an26 : Option Addr} {sl26 : Array (Option Value)} {oc26 kV26 dc26 pm26 cd26 ct26 : Value}
    (a26 : PySem.W.nsIn K mainGlobals "_law_destination" = some (some (.ref f26))) (l26 : K.lookup f26 = some ⟨oc26, od26, .func (PySem.W.fnOf "_law_destination" "_law_destination" (defArgs s__law_destination) (defBody s__law_destination) (defScope s__law_destination) .none kV26 dc26 pm26 an26 cd26 ct26), sl26⟩) (c26 : PySem.W.codeIn K cd26 "_law_destination" = true) (k26 : PySem.W.keepIn K (.ref f26) = true)
    {f27 : Addr} {od27 an27 : Option Addr} {sl27 : Array (Option Value)} {oc27 kV27 dc27 pm27 cd27 ct27 : Value}
    (a27 : PySem.W.nsIn K mainGlobals "_law_title" = some (some (.ref f27))) (l27 : K.lookup f27 = some ⟨oc27, od27, .func (PySem.W.fnOf "_law_title" "_law_title" (defArgs s__law_title) (defBody s__law_title) (defScope s__law_title) .none kV27 dc27 pm27 an27 cd27 ct27), sl27⟩) (c27 : PySem.W.codeIn K cd27 "_law_title" = true) (k27 : PySem.W.keepIn K (.ref f27) = true)
    {f28 : Addr} {od28 an28 : Option Addr} {sl28 : Array (Option Value)} {oc28 kV28 dc28 pm28 cd28 ct28 : Value}
    (a28 : PySem.W.nsIn K mainGlobals "_law_due" = some (some (.ref f28))) (l28 : K.lookup f28 = some ⟨oc28, od28, .func (PySem.W.fnOf "_law_due" "_law_due" (defArgs s__law_due) (defBody s__law_due) (defScope s__law_due) .none kV28 dc28 pm28 an28 cd28 ct28), sl28⟩) (c28 : PySem.W.codeIn K cd28 "_law_due" = true) (k28 : PySem.W.keepIn K (.ref f28) = true)
    {f29 : Addr} {od29 an29 : Option Addr} {sl29 : Array (Option Value)} {oc29 kV29 dc29 pm29 cd29 ct29 : Value}
    (a29 : PySem.W.nsIn K mainGlobals "_law_one_right" = some (some (.ref f29))) (l29 : K.lookup f29 = some ⟨oc29, od29, .func (PySem.W.fnOf "_law_one_right" "_law_one_right" (defArgs s__law_one_right) (defBody s__law_one_right) (defScope s__law_one_right) .none kV29 dc29 pm29 an29 cd29 ct29), sl29⟩) (c29 : PySem.W.codeIn K cd29 "_law_one_right" = true) (k29 : PySem.W.keepIn K (.ref f29) = true)
    {f30 : Addr} {od30 an30 : Option Addr} {sl30 : Array (Option Value)} {oc30 kV30 dc30 pm30 cd30 ct30 : Value}
    (a30 : PySem.W.nsIn K mainGlobals "_law_bounds_right" = some (some (.ref f30))) (l30 : K.lookup f30 = some ⟨oc30, od30, .func (PySem.W.fnOf "_law_bounds_right" "_law_bounds_right" (defArgs s__law_bounds_right) (defBody s__law_bounds_right) (defScope s__law_bounds_right) .none kV30 dc30 pm30 an30 cd30 ct30), sl30⟩) (c30 : PySem.W.codeIn K cd30 "_law_bounds_right" = true) (k30 : PySem.W.keepIn K (.ref f30) = true)
    {f31 : Addr} {od31 an31 : Option Addr} {sl31 : Array (Option Value)} {oc31 kV31 dc31 pm31 cd31 ct31 : Value}
    (a31 : PySem.W.nsIn K mainGlobals "law" = some (some (.ref f31))) (l31 : K.lookup f31 = some ⟨oc31, od31, .func (PySem.W.fnOf "law" "law" (defArgs s_law) (defBody s_law) (defScope s_law) .none kV31 dc31 pm31 an31 cd31 ct31), sl31⟩) (c31 : PySem.W.codeIn K cd31 "law" = true) (k31 : PySem.W.keepIn K (.ref f31) = true)
    (z_all : PySem.W.nsIn K mainGlobals "all" = some none)
    (z_int : PySem.W.nsIn K mainGlobals "int" = some none)
    (z_isinstance : PySem.W.nsIn K mainGlobals "isinstance" = some none)
    (z_len : PySem.W.nsIn K mainGlobals "len" = some none)
    (z_range : PySem.W.nsIn K mainGlobals "range" = some none)
    (z_str : PySem.W.nsIn K mainGlobals "str" = some none)
    {t_WHITE : Tok} (q_WHITE : PySem.W.nsIn K mainGlobals "WHITE" = some (some (.str " \t" t_WHITE)))
    {t_INLINE_WHITE : Tok} (q_INLINE_WHITE : PySem.W.nsIn K mainGlobals "INLINE_WHITE" = some (some (.str " \t\n" t_INLINE_WHITE)))
    {t_PUNCTUATION : Tok} (q_PUNCTUATION : PySem.W.nsIn K mainGlobals "PUNCTUATION" = some (some (.str "!\"#$&'()*+,-./:;<=>?\x40[\\]^_{|}~`" t_PUNCTUATION)))
    {A_NAMES : Addr} {es_NAMES : Array DictEntry} {n_NAMES : Nat} (q_NAMES : PySem.W.nsIn K mainGlobals "NAMES" = some (some (.ref A_NAMES)))
    (L_NAMES : K.lookup A_NAMES = some ⟨.type "dict", none, .dict es_NAMES n_NAMES, #[]⟩) (KL_NAMES : PySem.W.KeysLit w.params es_NAMES.toList) (W_NAMES : (A_NAMES == sysModules) = false) (EN_NAMES : EntS es_NAMES.toList [("amp", .str "&"), ("lt", .str "<"), ("gt", .str ">"), ("quot", .str "\""), ("apos", .str "'"), ("num", .str "#"), ("ast", .str "*"), ("lowbar", .str "_"), ("grave", .str "`"), ("lsqb", .str "["), ("rsqb", .str "]"), ("lpar", .str "("), ("rpar", .str ")"), ("lcub", .str "{"), ("rcub", .str "}"), ("bsol", .str "\\"), ("excl", .str "!"), ("Tab", .str "\t"), ("NewLine", .str "\n")])
    {A_SIGN_ROWS : Addr} {e_SIGN_ROWS_0 e_SIGN_ROWS_1 e_SIGN_ROWS_2 : Addr} {O_SIGN_ROWS : Option Addr} {n_SIGN_ROWS : Nat} {w_SIGN_ROWS : Array (Option Value)} (q_SIGN_ROWS : PySem.W.nsIn K mainGlobals "SIGN_ROWS" = some (some (.ref A_SIGN_ROWS)))
    (L_SIGN_ROWS : K.lookup A_SIGN_ROWS = some ⟨.type "tuple", O_SIGN_ROWS, .seq #[.ref e_SIGN_ROWS_0, .ref e_SIGN_ROWS_1, .ref e_SIGN_ROWS_2] n_SIGN_ROWS, w_SIGN_ROWS⟩)
    {O_SIGN_ROWS_0 : Option Addr} {n_SIGN_ROWS_0 : Nat} {w_SIGN_ROWS_0 : Array (Option Value)} {u_SIGN_ROWS_0_0 u_SIGN_ROWS_0_1 : Tok} (L_SIGN_ROWS_0 : K.lookup e_SIGN_ROWS_0 = some ⟨.type "tuple", O_SIGN_ROWS_0, .seq #[.int 9 u_SIGN_ROWS_0_0, .str "\t\n" u_SIGN_ROWS_0_1] n_SIGN_ROWS_0, w_SIGN_ROWS_0⟩)
    {O_SIGN_ROWS_1 : Option Addr} {n_SIGN_ROWS_1 : Nat} {w_SIGN_ROWS_1 : Array (Option Value)} {u_SIGN_ROWS_1_0 u_SIGN_ROWS_1_1 : Tok} (L_SIGN_ROWS_1 : K.lookup e_SIGN_ROWS_1 = some ⟨.type "tuple", O_SIGN_ROWS_1, .seq #[.int 32 u_SIGN_ROWS_1_0, .str " !\"#$" u_SIGN_ROWS_1_1] n_SIGN_ROWS_1, w_SIGN_ROWS_1⟩)
    {O_SIGN_ROWS_2 : Option Addr} {n_SIGN_ROWS_2 : Nat} {w_SIGN_ROWS_2 : Array (Option Value)} {u_SIGN_ROWS_2_0 u_SIGN_ROWS_2_1 : Tok} (L_SIGN_ROWS_2 : K.lookup e_SIGN_ROWS_2 = some ⟨.type "tuple", O_SIGN_ROWS_2, .seq #[.int 38 u_SIGN_ROWS_2_0, .str "&'()*+,-./0123456789:;<=>?@ABCDEFGHIJKLMNOPQRSTUVWXYZ[\\]^_`abcdefghijklmnopqrstuvwxyz{|}~" u_SIGN_ROWS_2_1] n_SIGN_ROWS_2, w_SIGN_ROWS_2⟩)
    {t_LONGEST : Tok} (q_LONGEST : PySem.W.nsIn K mainGlobals "LONGEST" = some (some (.int 10 t_LONGEST)))
    {t_LONGEST_LABEL : Tok} (q_LONGEST_LABEL : PySem.W.nsIn K mainGlobals "LONGEST_LABEL" = some (some (.int 999 t_LONGEST_LABEL)))
    {t_MOST_BRACKETS : Tok} (q_MOST_BRACKETS : PySem.W.nsIn K mainGlobals "MOST_BRACKETS" = some (some (.int 32 t_MOST_BRACKETS)))
    {t_BARE_ENDS : Tok} (q_BARE_ENDS : PySem.W.nsIn K mainGlobals "BARE_ENDS" = some (some (.str " \t\n()" t_BARE_ENDS)))
    {A_TITLE_SIGNS : Addr} {es_TITLE_SIGNS : Array DictEntry} {n_TITLE_SIGNS : Nat} {e_TITLE_SIGNS_0 e_TITLE_SIGNS_1 e_TITLE_SIGNS_2 : Addr} (q_TITLE_SIGNS : PySem.W.nsIn K mainGlobals "TITLE_SIGNS" = some (some (.ref A_TITLE_SIGNS)))
    (L_TITLE_SIGNS : K.lookup A_TITLE_SIGNS = some ⟨.type "dict", none, .dict es_TITLE_SIGNS n_TITLE_SIGNS, #[]⟩) (KL_TITLE_SIGNS : PySem.W.KeysLit w.params es_TITLE_SIGNS.toList) (W_TITLE_SIGNS : (A_TITLE_SIGNS == sysModules) = false) (EN_TITLE_SIGNS : EntS es_TITLE_SIGNS.toList [("\"", .ref e_TITLE_SIGNS_0), ("'", .ref e_TITLE_SIGNS_1), ("(", .ref e_TITLE_SIGNS_2)])
    {O_TITLE_SIGNS_0 : Option Addr} {n_TITLE_SIGNS_0 : Nat} {w_TITLE_SIGNS_0 : Array (Option Value)} {u_TITLE_SIGNS_0_0 u_TITLE_SIGNS_0_1 : Tok} (L_TITLE_SIGNS_0 : K.lookup e_TITLE_SIGNS_0 = some ⟨.type "tuple", O_TITLE_SIGNS_0, .seq #[.str "\"" u_TITLE_SIGNS_0_0, .str "\"" u_TITLE_SIGNS_0_1] n_TITLE_SIGNS_0, w_TITLE_SIGNS_0⟩)
    {O_TITLE_SIGNS_1 : Option Addr} {n_TITLE_SIGNS_1 : Nat} {w_TITLE_SIGNS_1 : Array (Option Value)} {u_TITLE_SIGNS_1_0 u_TITLE_SIGNS_1_1 : Tok} (L_TITLE_SIGNS_1 : K.lookup e_TITLE_SIGNS_1 = some ⟨.type "tuple", O_TITLE_SIGNS_1, .seq #[.str "'" u_TITLE_SIGNS_1_0, .str "'" u_TITLE_SIGNS_1_1] n_TITLE_SIGNS_1, w_TITLE_SIGNS_1⟩)
    {O_TITLE_SIGNS_2 : Option Addr} {n_TITLE_SIGNS_2 : Nat} {w_TITLE_SIGNS_2 : Array (Option Value)} {u_TITLE_SIGNS_2_0 u_TITLE_SIGNS_2_1 : Tok} (L_TITLE_SIGNS_2 : K.lookup e_TITLE_SIGNS_2 = some ⟨.type "tuple", O_TITLE_SIGNS_2, .seq #[.str "()" u_TITLE_SIGNS_2_0, .str ")" u_TITLE_SIGNS_2_1] n_TITLE_SIGNS_2, w_TITLE_SIGNS_2⟩)
    : ∃ fd : FuncData, (∀ (s : Shared) (v : Value), BindsTo s fd ⟨[v], []⟩ [("_law_script", v)]) ∧ ∀ base : Heap, K.In base → base.Ns mainGlobals mg → FnOk l.prog w K mg base CX0 11 fa fd ["_law_script"] (sp_law K) := by
  have e := hfa.symm.trans (PySem.W.mg_of X G a31)
  cases e
  have F0 := fun_mk (st := s_behind_all) l0 c0 k0
  have F1 := fun_mk (st := s_behind_gap) l1 c1 k1
  have F2 := fun_mk (st := s_behind_sign) l2 c2 k2
  have F3 := fun_mk (st := s_is_escape) l3 c3 k3
  have F4 := fun_mk (st := s_first_plain) l4 c4 k4
  have F5 := fun_mk (st := s_reference_at) l5 c5 k5
  have F6 := fun_mk (st := s_decoded) l6 c6 k6
  have F7 := fun_mk (st := s_decoded_at) l7 c7 k7
  have F8 := fun_mk (st := s_sign_meant) l8 c8 k8
  have F9 := fun_mk (st := s_number_in) l9 c9 k9
  have F10 := fun_mk (st := s_sign_of) l10 c10 k10
  have F11 := fun_mk (st := s_normalised) l11 c11 k11
  have F12 := fun_mk (st := s_is_label_text) l12 c12 k12
  have F13 := fun_mk (st := s_label_at) l13 c13 k13
  have F14 := fun_mk (st := s_destination_at) l14 c14 k14
  have F15 := fun_mk (st := s_title_at) l15 c15 k15
  have F16 := fun_mk (st := s_enclosed_at) l16 c16 k16
  have F17 := fun_mk (st := s_behind_bare) l17 c17 k17
  have F18 := fun_mk (st := s_definition_at) l18 c18 k18
  have F19 := fun_mk (st := s_title_and_line) l19 c19 k19
  have F20 := fun_mk (st := s_behind_line) l20 c20 k20
  have F21 := fun_mk (st := s__law_well) l21 c21 k21
  have F22 := fun_mk (st := s__law_draw) l22 c22 k22
  have F23 := fun_mk (st := s__law_one) l23 c23 k23
  have F24 := fun_mk (st := s__law_label) l24 c24 k24
  have F25 := fun_mk (st := s__law_gap) l25 c25 k25
  have F26 := fun_mk (st := s__law_destination) l26 c26 k26
  have F27 := fun_mk (st := s__law_title) l27 c27 k27
  have F28 := fun_mk (st := s__law_due) l28 c28 k28
  have F29 := fun_mk (st := s__law_one_right) l29 c29 k29
  have F30 := fun_mk (st := s__law_bounds_right) l30 c30 k30
  have F31 := fun_mk (st := s_law) l31 c31 k31
  have b0 := F0.binds (ps := ["signs", "text", "place"]) fun _ _ _ _ _ _ us hl => match us, hl with | [_, _, _], _ => rfl
  have b1 := F1.binds (ps := ["text", "place"]) fun _ _ _ _ _ _ us hl => match us, hl with | [_, _], _ => rfl
  have b2 := F2.binds (ps := ["sign", "text", "place"]) fun _ _ _ _ _ _ us hl => match us, hl with | [_, _, _], _ => rfl
  have b3 := F3.binds (ps := ["text", "place"]) fun _ _ _ _ _ _ us hl => match us, hl with | [_, _], _ => rfl
  have b4 := F4.binds (ps := ["signs", "text", "place"]) fun _ _ _ _ _ _ us hl => match us, hl with | [_, _, _], _ => rfl
  have b5 := F5.binds (ps := ["text", "place"]) fun _ _ _ _ _ _ us hl => match us, hl with | [_, _], _ => rfl
  have b6 := F6.binds (ps := ["text"]) fun _ _ _ _ _ _ us hl => match us, hl with | [_], _ => rfl
  have b7 := F7.binds (ps := ["text", "place"]) fun _ _ _ _ _ _ us hl => match us, hl with | [_, _], _ => rfl
  have b8 := F8.binds (ps := ["words"]) fun _ _ _ _ _ _ us hl => match us, hl with | [_], _ => rfl
  have b9 := F9.binds (ps := ["digits", "signs", "base"]) fun _ _ _ _ _ _ us hl => match us, hl with | [_, _, _], _ => rfl
  have b10 := F10.binds (ps := ["number"]) fun _ _ _ _ _ _ us hl => match us, hl with | [_], _ => rfl
  have b11 := F11.binds (ps := ["text"]) fun _ _ _ _ _ _ us hl => match us, hl with | [_], _ => rfl
  have b12 := F12.binds (ps := ["thing"]) fun _ _ _ _ _ _ us hl => match us, hl with | [_], _ => rfl
  have b13 := F13.binds (ps := ["text", "place"]) fun _ _ _ _ _ _ us hl => match us, hl with | [_, _], _ => rfl
  have b14 := F14.binds (ps := ["text", "place"]) fun _ _ _ _ _ _ us hl => match us, hl with | [_, _], _ => rfl
  have b15 := F15.binds (ps := ["text", "place"]) fun _ _ _ _ _ _ us hl => match us, hl with | [_, _], _ => rfl
  have b16 := F16.binds (ps := ["barred", "closing", "text", "place"]) fun _ _ _ _ _ _ us hl => match us, hl with | [_, _, _, _], _ => rfl
  have b17 := F17.binds (ps := ["text", "place"]) fun _ _ _ _ _ _ us hl => match us, hl with | [_, _], _ => rfl
  have b18 := F18.binds (ps := ["text", "place"]) fun _ _ _ _ _ _ us hl => match us, hl with | [_, _], _ => rfl
  have b19 := F19.binds (ps := ["text", "place"]) fun _ _ _ _ _ _ us hl => match us, hl with | [_, _], _ => rfl
  have b20 := F20.binds (ps := ["text", "place"]) fun _ _ _ _ _ _ us hl => match us, hl with | [_, _], _ => rfl
  have b21 := F21.binds (ps := ["_law_cell"]) fun _ _ _ _ _ _ us hl => match us, hl with | [_], _ => rfl
  have b22 := F22.binds (ps := ["_law_well_here", "_law_many"]) fun _ _ _ _ _ _ us hl => match us, hl with | [_, _], _ => rfl
  have b23 := F23.binds (ps := ["_law_well_here", "_law_some"]) fun _ _ _ _ _ _ us hl => match us, hl with | [_, _], _ => rfl
  have b24 := F24.binds (ps := ["_law_well_here"]) fun _ _ _ _ _ _ us hl => match us, hl with | [_], _ => rfl
  have b25 := F25.binds (ps := ["_law_well_here", "_law_least"]) fun _ _ _ _ _ _ us hl => match us, hl with | [_, _], _ => rfl
  have b26 := F26.binds (ps := ["_law_well_here"]) fun _ _ _ _ _ _ us hl => match us, hl with | [_], _ => rfl
  have b27 := F27.binds (ps := ["_law_well_here"]) fun _ _ _ _ _ _ us hl => match us, hl with | [_], _ => rfl
  have b28 := F28.binds (ps := ["_law_text", "_law_at", "_law_label_here", "_law_gap_here", "_law_destination_here", "_law_space", "_law_title_here"]) fun _ _ _ _ _ _ us hl => match us, hl with | [_, _, _, _, _, _, _], _ => rfl
  have b29 := F29.binds (ps := ["_law_well_here"]) fun _ _ _ _ _ _ us hl => match us, hl with | [_], _ => rfl
  have b30 := F30.binds (ps := ["_law_well_here"]) fun _ _ _ _ _ _ us hl => match us, hl with | [_], _ => rfl
  have T : Txt w K mg := {
    a_behind_all := f0, d_behind_all := _, f_behind_all := F0, g_behind_all := PySem.W.mg_of X G a0, b_behind_all := b0,
    a_behind_gap := f1, d_behind_gap := _, f_behind_gap := F1, g_behind_gap := PySem.W.mg_of X G a1, b_behind_gap := b1,
    a_behind_sign := f2, d_behind_sign := _, f_behind_sign := F2, g_behind_sign := PySem.W.mg_of X G a2, b_behind_sign := b2,
    a_is_escape := f3, d_is_escape := _, f_is_escape := F3, g_is_escape := PySem.W.mg_of X G a3, b_is_escape := b3,
    a_first_plain := f4, d_first_plain := _, f_first_plain := F4, g_first_plain := PySem.W.mg_of X G a4, b_first_plain := b4,
    a_reference_at := f5, d_reference_at := _, f_reference_at := F5, g_reference_at := PySem.W.mg_of X G a5, b_reference_at := b5,
    a_decoded := f6, d_decoded := _, f_decoded := F6, g_decoded := PySem.W.mg_of X G a6, b_decoded := b6,
    a_decoded_at := f7, d_decoded_at := _, f_decoded_at := F7, g_decoded_at := PySem.W.mg_of X G a7, b_decoded_at := b7,
    a_sign_meant := f8, d_sign_meant := _, f_sign_meant := F8, g_sign_meant := PySem.W.mg_of X G a8, b_sign_meant := b8,
    a_number_in := f9, d_number_in := _, f_number_in := F9, g_number_in := PySem.W.mg_of X G a9, b_number_in := b9,
    a_sign_of := f10, d_sign_of := _, f_sign_of := F10, g_sign_of := PySem.W.mg_of X G a10, b_sign_of := b10,
    a_normalised := f11, d_normalised := _, f_normalised := F11, g_normalised := PySem.W.mg_of X G a11, b_normalised := b11,
    a_is_label_text := f12, d_is_label_text := _, f_is_label_text := F12, g_is_label_text := PySem.W.mg_of X G a12, b_is_label_text := b12,
    a_label_at := f13, d_label_at := _, f_label_at := F13, g_label_at := PySem.W.mg_of X G a13, b_label_at := b13,
    a_destination_at := f14, d_destination_at := _, f_destination_at := F14, g_destination_at := PySem.W.mg_of X G a14, b_destination_at := b14,
    a_title_at := f15, d_title_at := _, f_title_at := F15, g_title_at := PySem.W.mg_of X G a15, b_title_at := b15,
    a_enclosed_at := f16, d_enclosed_at := _, f_enclosed_at := F16, g_enclosed_at := PySem.W.mg_of X G a16, b_enclosed_at := b16,
    a_behind_bare := f17, d_behind_bare := _, f_behind_bare := F17, g_behind_bare := PySem.W.mg_of X G a17, b_behind_bare := b17,
    a_definition_at := f18, d_definition_at := _, f_definition_at := F18, g_definition_at := PySem.W.mg_of X G a18, b_definition_at := b18,
    a_title_and_line := f19, d_title_and_line := _, f_title_and_line := F19, g_title_and_line := PySem.W.mg_of X G a19, b_title_and_line := b19,
    a_behind_line := f20, d_behind_line := _, f_behind_line := F20, g_behind_line := PySem.W.mg_of X G a20, b_behind_line := b20,
    a__law_well := f21, d__law_well := _, f__law_well := F21, g__law_well := PySem.W.mg_of X G a21, b__law_well := b21,
    a__law_draw := f22, d__law_draw := _, f__law_draw := F22, g__law_draw := PySem.W.mg_of X G a22, b__law_draw := b22,
    a__law_one := f23, d__law_one := _, f__law_one := F23, g__law_one := PySem.W.mg_of X G a23, b__law_one := b23,
    a__law_label := f24, d__law_label := _, f__law_label := F24, g__law_label := PySem.W.mg_of X G a24, b__law_label := b24,
    a__law_gap := f25, d__law_gap := _, f__law_gap := F25, g__law_gap := PySem.W.mg_of X G a25, b__law_gap := b25,
    a__law_destination := f26, d__law_destination := _, f__law_destination := F26, g__law_destination := PySem.W.mg_of X G a26, b__law_destination := b26,
    a__law_title := f27, d__law_title := _, f__law_title := F27, g__law_title := PySem.W.mg_of X G a27, b__law_title := b27,
    a__law_due := f28, d__law_due := _, f__law_due := F28, g__law_due := PySem.W.mg_of X G a28, b__law_due := b28,
    a__law_one_right := f29, d__law_one_right := _, f__law_one_right := F29, g__law_one_right := PySem.W.mg_of X G a29, b__law_one_right := b29,
    a__law_bounds_right := f30, d__law_bounds_right := _, f__law_bounds_right := F30, g__law_bounds_right := PySem.W.mg_of X G a30, b__law_bounds_right := b30,
    z_all := PySem.W.mg_none_of X G z_all,
    z_int := PySem.W.mg_none_of X G z_int,
    z_isinstance := PySem.W.mg_none_of X G z_isinstance,
    z_len := PySem.W.mg_none_of X G z_len,
    z_range := PySem.W.mg_none_of X G z_range,
    z_str := PySem.W.mg_none_of X G z_str,
    t_WHITE := t_WHITE, g_WHITE := PySem.W.mg_of X G q_WHITE,
    t_INLINE_WHITE := t_INLINE_WHITE, g_INLINE_WHITE := PySem.W.mg_of X G q_INLINE_WHITE,
    t_PUNCTUATION := t_PUNCTUATION, g_PUNCTUATION := PySem.W.mg_of X G q_PUNCTUATION,
    a_NAMES := A_NAMES, g_NAMES := PySem.W.mg_of X G q_NAMES, k_NAMES := ⟨_, _, ⟨L_NAMES, KL_NAMES, W_NAMES⟩, EN_NAMES⟩,
    a_SIGN_ROWS := A_SIGN_ROWS, o_SIGN_ROWS := O_SIGN_ROWS, n_SIGN_ROWS := n_SIGN_ROWS, w_SIGN_ROWS := w_SIGN_ROWS, g_SIGN_ROWS := PySem.W.mg_of X G q_SIGN_ROWS, l_SIGN_ROWS := L_SIGN_ROWS, e_SIGN_ROWS_0 := e_SIGN_ROWS_0, o_SIGN_ROWS_0 := O_SIGN_ROWS_0, n_SIGN_ROWS_0 := n_SIGN_ROWS_0, w_SIGN_ROWS_0 := w_SIGN_ROWS_0, l_SIGN_ROWS_0 := L_SIGN_ROWS_0, u_SIGN_ROWS_0_0 := u_SIGN_ROWS_0_0, u_SIGN_ROWS_0_1 := u_SIGN_ROWS_0_1, e_SIGN_ROWS_1 := e_SIGN_ROWS_1, o_SIGN_ROWS_1 := O_SIGN_ROWS_1, n_SIGN_ROWS_1 := n_SIGN_ROWS_1, w_SIGN_ROWS_1 := w_SIGN_ROWS_1, l_SIGN_ROWS_1 := L_SIGN_ROWS_1, u_SIGN_ROWS_1_0 := u_SIGN_ROWS_1_0, u_SIGN_ROWS_1_1 := u_SIGN_ROWS_1_1, e_SIGN_ROWS_2 := e_SIGN_ROWS_2, o_SIGN_ROWS_2 := O_SIGN_ROWS_2, n_SIGN_ROWS_2 := n_SIGN_ROWS_2, w_SIGN_ROWS_2 := w_SIGN_ROWS_2, l_SIGN_ROWS_2 := L_SIGN_ROWS_2, u_SIGN_ROWS_2_0 := u_SIGN_ROWS_2_0, u_SIGN_ROWS_2_1 := u_SIGN_ROWS_2_1,
    t_LONGEST := t_LONGEST, g_LONGEST := PySem.W.mg_of X G q_LONGEST,
    t_LONGEST_LABEL := t_LONGEST_LABEL, g_LONGEST_LABEL := PySem.W.mg_of X G q_LONGEST_LABEL,
    t_MOST_BRACKETS := t_MOST_BRACKETS, g_MOST_BRACKETS := PySem.W.mg_of X G q_MOST_BRACKETS,
    t_BARE_ENDS := t_BARE_ENDS, g_BARE_ENDS := PySem.W.mg_of X G q_BARE_ENDS,
    a_TITLE_SIGNS := A_TITLE_SIGNS, g_TITLE_SIGNS := PySem.W.mg_of X G q_TITLE_SIGNS, k_TITLE_SIGNS := ⟨_, _, ⟨L_TITLE_SIGNS, KL_TITLE_SIGNS, W_TITLE_SIGNS⟩, EN_TITLE_SIGNS⟩, e_TITLE_SIGNS_0 := e_TITLE_SIGNS_0, o_TITLE_SIGNS_0 := O_TITLE_SIGNS_0, n_TITLE_SIGNS_0 := n_TITLE_SIGNS_0, w_TITLE_SIGNS_0 := w_TITLE_SIGNS_0, l_TITLE_SIGNS_0 := L_TITLE_SIGNS_0, u_TITLE_SIGNS_0_0 := u_TITLE_SIGNS_0_0, u_TITLE_SIGNS_0_1 := u_TITLE_SIGNS_0_1, e_TITLE_SIGNS_1 := e_TITLE_SIGNS_1, o_TITLE_SIGNS_1 := O_TITLE_SIGNS_1, n_TITLE_SIGNS_1 := n_TITLE_SIGNS_1, w_TITLE_SIGNS_1 := w_TITLE_SIGNS_1, l_TITLE_SIGNS_1 := L_TITLE_SIGNS_1, u_TITLE_SIGNS_1_0 := u_TITLE_SIGNS_1_0, u_TITLE_SIGNS_1_1 := u_TITLE_SIGNS_1_1, e_TITLE_SIGNS_2 := e_TITLE_SIGNS_2, o_TITLE_SIGNS_2 := O_TITLE_SIGNS_2, n_TITLE_SIGNS_2 := n_TITLE_SIGNS_2, w_TITLE_SIGNS_2 := w_TITLE_SIGNS_2, l_TITLE_SIGNS_2 := L_TITLE_SIGNS_2, u_TITLE_SIGNS_2_0 := u_TITLE_SIGNS_2_0, u_TITLE_SIGNS_2_1 := u_TITLE_SIGNS_2_1 }
  exact ⟨PySem.W.fnOf "law" "law" (defArgs s_law) (defBody s_law) (defScope s_law) .none kV31 dc31 pm31 an31 cd31 ct31, fun s v => .of_eq rfl, fun base _ _ => ok_law T F31⟩
end K50
open PySem PySem.W PyProof.Rows
set_option maxHeartbeats 0 in
theorem PySem.Challenge.cw_plainmark_k50_definitions_one_by_one_holds : PySem.Challenge.rw_plainmark_k50_definitions_one_by_one.Holds := by
  w_on; o_law; k_head; (case hw => w_witness2)
  k_fill
  refine L2.walk_of (l := PySem.Challenge.rw_plainmark_k50_definitions_one_by_one) (n := 63) (k := 11) (x := "_law_script") (CX := fun _ => L2.CX0) (sp := fun w => K50.sp_law _) rfl (by decide) rfl ⟨rfl, by decide, by decide⟩ (fun w h Y => PySem.W.kIn_of Y) ?F (fun _ _ a ns hl _ hS => ⟨a, ns, rfl, hS, hl, fun _ => rfl⟩) (fun _ _ _ _ _ h => h)
  case F =>
    intro w mg fa h KX G hmg
    refine' K50.all_mk KX G hmg ?a0 ?l0 ?c0 ?k0 ?a1 ?l1 ?c1 ?k1 ?a2 ?l2 ?c2 ?k2 ?a3 ?l3 ?c3 ?k3 ?a4 ?l4 ?c4 ?k4 ?a5 ?l5 ?c5 ?k5 ?a6 ?l6 ?c6 ?k6 ?a7 ?l7 ?c7 ?k7 ?a8 ?l8 ?c8 ?k8 ?a9 ?l9 ?c9 ?k9 ?a10 ?l10 ?c10 ?k10 ?a11 ?l11 ?c11 ?k11 ?a12 ?l12 ?c12 ?k12 ?a13 ?l13 ?c13 ?k13 ?a14 ?l14 ?c14 ?k14 ?a15 ?l15 ?c15 ?k15 ?a16 ?l16 ?c16 ?k16 ?a17 ?l17 ?c17 ?k17 ?a18 ?l18 ?c18 ?k18 ?a19 ?l19 ?c19 ?k19 ?a20 ?l20 ?c20 ?k20 ?a21 ?l21 ?c21 ?k21 ?a22 ?l22 ?c22 ?k22 ?a23 ?l23 ?c23 ?k23 ?a24 ?l24 ?c24 ?k24 ?a25 ?l25 ?c25 ?k25 ?a26 ?l26 ?c26 ?k26 ?a27 ?l27 ?c27 ?k27 ?a28 ?l28 ?c28 ?k28 ?a29 ?l29 ?c29 ?k29 ?a30 ?l30 ?c30 ?k30 ?a31 ?l31 ?c31 ?k31 ?z_all ?z_int ?z_isinstance ?z_len ?z_range ?z_str ?q_WHITE ?q_INLINE_WHITE ?q_PUNCTUATION ?q_NAMES ?L_NAMES ?KL_NAMES ?W_NAMES ?EN_NAMES ?q_SIGN_ROWS ?L_SIGN_ROWS ?L_SIGN_ROWS_0 ?L_SIGN_ROWS_1 ?L_SIGN_ROWS_2 ?q_LONGEST ?q_LONGEST_LABEL ?q_MOST_BRACKETS ?q_BARE_ENDS ?q_TITLE_SIGNS ?L_TITLE_SIGNS ?KL_TITLE_SIGNS ?W_TITLE_SIGNS ?EN_TITLE_SIGNS ?L_TITLE_SIGNS_0 ?L_TITLE_SIGNS_1 ?L_TITLE_SIGNS_2
    (case a0 => k_is); (case l0 => k_is); (case c0 => k_is); (case k0 => k_is); (case a1 => k_is); (case l1 => k_is); (case c1 => k_is); (case k1 => k_is); (case a2 => k_is); (case l2 => k_is); (case c2 => k_is); (case k2 => k_is); (case a3 => k_is); (case l3 => k_is); (case c3 => k_is); (case k3 => k_is); (case a4 => k_is); (case l4 => k_is); (case c4 => k_is); (case k4 => k_is); (case a5 => k_is); (case l5 => k_is); (case c5 => k_is); (case k5 => k_is); (case a6 => k_is); (case l6 => k_is); (case c6 => k_is); (case k6 => k_is); (case a7 => k_is); (case l7 => k_is); (case c7 => k_is); (case k7 => k_is); (case a8 => k_is); (case l8 => k_is); (case c8 => k_is); (case k8 => k_is); (case a9 => k_is); (case l9 => k_is); (case c9 => k_is); (case k9 => k_is); (case a10 => k_is); (case l10 => k_is); (case c10 => k_is); (case k10 => k_is); (case a11 => k_is); (case l11 => k_is); (case c11 => k_is); (case k11 => k_is); (case a12 => k_is); (case l12 => k_is); (case c12 => k_is); (case k12 => k_is); (case a13 => k_is); (case l13 => k_is); (case c13 => k_is); (case k13 => k_is); (case a14 => k_is); (case l14 => k_is); (case c14 => k_is); (case k14 => k_is); (case a15 => k_is); (case l15 => k_is); (case c15 => k_is); (case k15 => k_is); (case a16 => k_is); (case l16 => k_is); (case c16 => k_is); (case k16 => k_is); (case a17 => k_is); (case l17 => k_is); (case c17 => k_is); (case k17 => k_is); (case a18 => k_is); (case l18 => k_is); (case c18 => k_is); (case k18 => k_is); (case a19 => k_is); (case l19 => k_is); (case c19 => k_is); (case k19 => k_is); (case a20 => k_is); (case l20 => k_is); (case c20 => k_is); (case k20 => k_is); (case a21 => k_is); (case l21 => k_is); (case c21 => k_is); (case k21 => k_is); (case a22 => k_is); (case l22 => k_is); (case c22 => k_is); (case k22 => k_is); (case a23 => k_is); (case l23 => k_is); (case c23 => k_is); (case k23 => k_is); (case a24 => k_is); (case l24 => k_is); (case c24 => k_is); (case k24 => k_is); (case a25 => k_is); (case l25 => k_is); (case c25 => k_is); (case k25 => k_is); (case a26 => k_is); (case l26 => k_is); (case c26 => k_is); (case k26 => k_is); (case a27 => k_is); (case l27 => k_is); (case c27 => k_is); (case k27 => k_is); (case a28 => k_is); (case l28 => k_is); (case c28 => k_is); (case k28 => k_is); (case a29 => k_is); (case l29 => k_is); (case c29 => k_is); (case k29 => k_is); (case a30 => k_is); (case l30 => k_is); (case c30 => k_is); (case k30 => k_is); (case a31 => k_is); (case l31 => k_is); (case c31 => k_is); (case k31 => k_is); (case z_all => k_is); (case z_int => k_is); (case z_isinstance => k_is); (case z_len => k_is); (case z_range => k_is); (case z_str => k_is); (case q_WHITE => k_is); (case q_INLINE_WHITE => k_is); (case q_PUNCTUATION => k_is); (case q_NAMES => k_is); (case L_NAMES => k_is); (case KL_NAMES => exact ⟨⟨_, _, rfl, rfl⟩, ⟨⟨_, _, rfl, rfl⟩, ⟨⟨_, _, rfl, rfl⟩, ⟨⟨_, _, rfl, rfl⟩, ⟨⟨_, _, rfl, rfl⟩, ⟨⟨_, _, rfl, rfl⟩, ⟨⟨_, _, rfl, rfl⟩, ⟨⟨_, _, rfl, rfl⟩, ⟨⟨_, _, rfl, rfl⟩, ⟨⟨_, _, rfl, rfl⟩, ⟨⟨_, _, rfl, rfl⟩, ⟨⟨_, _, rfl, rfl⟩, ⟨⟨_, _, rfl, rfl⟩, ⟨⟨_, _, rfl, rfl⟩, ⟨⟨_, _, rfl, rfl⟩, ⟨⟨_, _, rfl, rfl⟩, ⟨⟨_, _, rfl, rfl⟩, ⟨⟨_, _, rfl, rfl⟩, ⟨⟨_, _, rfl, rfl⟩, True.intro⟩⟩⟩⟩⟩⟩⟩⟩⟩⟩⟩⟩⟩⟩⟩⟩⟩⟩⟩); (case W_NAMES => rfl); (case EN_NAMES => exact ⟨⟨_, rfl⟩, ⟨_, rfl⟩, ⟨⟨_, rfl⟩, ⟨_, rfl⟩, ⟨⟨_, rfl⟩, ⟨_, rfl⟩, ⟨⟨_, rfl⟩, ⟨_, rfl⟩, ⟨⟨_, rfl⟩, ⟨_, rfl⟩, ⟨⟨_, rfl⟩, ⟨_, rfl⟩, ⟨⟨_, rfl⟩, ⟨_, rfl⟩, ⟨⟨_, rfl⟩, ⟨_, rfl⟩, ⟨⟨_, rfl⟩, ⟨_, rfl⟩, ⟨⟨_, rfl⟩, ⟨_, rfl⟩, ⟨⟨_, rfl⟩, ⟨_, rfl⟩, ⟨⟨_, rfl⟩, ⟨_, rfl⟩, ⟨⟨_, rfl⟩, ⟨_, rfl⟩, ⟨⟨_, rfl⟩, ⟨_, rfl⟩, ⟨⟨_, rfl⟩, ⟨_, rfl⟩, ⟨⟨_, rfl⟩, ⟨_, rfl⟩, ⟨⟨_, rfl⟩, ⟨_, rfl⟩, ⟨⟨_, rfl⟩, ⟨_, rfl⟩, ⟨⟨_, rfl⟩, ⟨_, rfl⟩, True.intro⟩⟩⟩⟩⟩⟩⟩⟩⟩⟩⟩⟩⟩⟩⟩⟩⟩⟩⟩); (case q_SIGN_ROWS => k_is); (case L_SIGN_ROWS => k_is); (case L_SIGN_ROWS_0 => k_is); (case L_SIGN_ROWS_1 => k_is); (case L_SIGN_ROWS_2 => k_is); (case q_LONGEST => k_is); (case q_LONGEST_LABEL => k_is); (case q_MOST_BRACKETS => k_is); (case q_BARE_ENDS => k_is); (case q_TITLE_SIGNS => k_is); (case L_TITLE_SIGNS => k_is); (case KL_TITLE_SIGNS => exact ⟨⟨_, _, rfl, rfl⟩, ⟨⟨_, _, rfl, rfl⟩, ⟨⟨_, _, rfl, rfl⟩, True.intro⟩⟩⟩); (case W_TITLE_SIGNS => rfl); (case EN_TITLE_SIGNS => exact ⟨⟨_, rfl⟩, rfl, ⟨⟨_, rfl⟩, rfl, ⟨⟨_, rfl⟩, rfl, True.intro⟩⟩⟩); (case L_TITLE_SIGNS_0 => k_is); (case L_TITLE_SIGNS_1 => k_is); (case L_TITLE_SIGNS_2 => k_is)
