import PyProof.Rows.All
import Wide.All
import OpenK.AllK
import Wide.FinOn
import HandS.ForMost
import HandS.Wide
import HandS.StrMore
import HandS.Style
import HandS.Flow
import HandS.Walk
import PyProof.Draws
import PyProof.StrOps2

import HandS.IntHex
import HandS.Dict
import HandS.More
import KE.KIntText
import PySem.Challenge.RW_plainmark_k14_references_and_decoding

set_option Elab.async false
set_option linter.all false
set_option maxRecDepth 100000
/-! words of my own over the hand layer -/
namespace My
open PySem PySem.Spec PyProof.Rows L2

/-- a text by its signs -/
def S (l : List Nat) : Str := ⟨l.toArray⟩
theorem S_tl (l : List Nat) : (S l).cps.toList = l := by simp [S]
theorem S_of (z : Str) : z = S z.cps.toList := by
  cases z
  simp [S]
theorem S_len (l : List Nat) : (S l).length = l.length := by simp [S, Str.length]
theorem S_size (l : List Nat) : (S l).cps.size = l.length := by simp [S]
theorem S_get (l : List Nat) (i : Nat) : (S l).cps[i]? = l[i]? := by simp [S]
theorem S_app (a b : List Nat) : S a ++ S b = S (a ++ b) := by
  show (⟨a.toArray ++ b.toArray⟩ : Str) = ⟨(a ++ b).toArray⟩
  simp
theorem S_inj {a b : List Nat} (h : S a = S b) : a = b := by
  have := congrArg (fun z : Str => z.cps.toList) h
  simpa [S] using this
theorem S_dec (a b : List Nat) : decide (V.str (S a) = V.str (S b)) = decide (a = b) := by
  by_cases h : a = b
  · subst h
    simp
  · have h2 : ¬ V.str (S a) = V.str (S b) := fun e => h (S_inj (V.str.inj e))
    simp [h, h2]
theorem S_cut (l : List Nat) (k : Nat) : cutS (S l) (some (k : Int)) none = S (l.drop k) := by
  unfold cutS
  rw [HT.sIx_nat, HT.sIx_none, S_len, S_tl]
  show S _ = S _
  congr 1
  by_cases h : k ≤ l.length
  · rw [Nat.min_eq_left h]
    exact List.take_of_length_le (by rw [List.length_drop]; omega)
  · rw [Nat.min_eq_right (by omega), Nat.sub_self, List.take_zero, List.drop_of_length_le (by omega)]
theorem S_cut2 (l : List Nat) (j k : Nat) (h : j ≤ k) : cutS (S l) (some (j : Int)) (some (k : Int)) = S ((l.drop j).take (k - j)) := by
  unfold cutS
  rw [HT.sIx_nat, HT.sIx_nat, S_len, S_tl]
  show S _ = S _
  congr 1
  by_cases h1 : j ≤ l.length
  · rw [Nat.min_eq_left h1]
    by_cases h2 : k ≤ l.length
    · rw [Nat.min_eq_left h2]
    · rw [Nat.min_eq_right (by omega), List.take_of_length_le (by rw [List.length_drop]; omega), List.take_of_length_le (by rw [List.length_drop]; omega)]
  · rw [List.drop_of_length_le (by omega), List.drop_of_length_le (by omega), List.take_nil, List.take_nil]

/-- all that is tracked but L stays -/
def Keeps (L : Addr) (H H' : Hp) : Prop := ∀ b o, b ≠ L → H b = some o → H' b = some o
theorem Keeps.refl {L : Addr} (H : Hp) : Keeps L H H := fun _ _ _ h => h
theorem Keeps.trans {L : Addr} {H H1 H2 : Hp} (a : Keeps L H H1) (b : Keeps L H1 H2) : Keeps L H H2 := fun c o n h => b c o n (a c o n h)
theorem Keeps.new {L p : Addr} {H : Hp} {o : HO} (h : H p = none) : Keeps L H (upd H p o) := fun b u _ e => by
  rw [upd_ne (ne_of_none e h)]
  exact e
theorem Keeps.at {L : Addr} {H : Hp} {o : HO} : Keeps L H (upd H L o) := fun b u n e => by
  rw [upd_ne n]
  exact e
theorem Keeps.of {L : Addr} {H H' : Hp} (h : Same H H') : Keeps L H H' := fun b o _ e => h b o e
theorem same_new {p : Addr} {H : Hp} {o : HO} (h : H p = none) : Same H (upd H p o) := fun b u e => by
  rw [upd_ne (ne_of_none e h)]
  exact e
/-- a well of draws -/
def Well (H : Hp) (L : Addr) : Prop := ∃ x y : Int, H L = some (.lst [.int x, .int y])
theorem Well.same {H H' : Hp} {L : Addr} (h : Well H L) (s : Same H H') : Well H' L := by
  obtain ⟨x, y, e⟩ := h
  exact ⟨x, y, s _ _ e⟩
theorem Well.new {H : Hp} {L p : Addr} {o : HO} (h : Well H L) (n : H p = none) : Well (upd H p o) L := h.same (same_new n)
theorem Well.ne {H : Hp} {L p : Addr} (h : Well H L) (n : H p = none) : p ≠ L := by
  obtain ⟨x, y, e⟩ := h
  exact (ne_of_none e n).symm
theorem Well.kept {H H' : Hp} {L p : Addr} (h : Well H L) (k : Keeps L H H') (w : Well H' L) (n : H' p = none) : H p = none := by
  cases q : H p with
  | none => rfl
  | some o =>
    have z := k p o (w.ne n) q
    rw [n] at z
    cases z
theorem Keeps.free {L p : Addr} {H H' : Hp} (k : Keeps L H H') (n : H' p = none) (h : p ≠ L) : H p = none := by
  cases q : H p with
  | none => rfl
  | some o =>
    have z := k p o h q
    rw [n] at z
    cases z
theorem Keeps.seq {K : PySem.W.Frag} {L a : Addr} {H H' : Hp} {xs : List V} (k : Keeps L H H') (n : a ≠ L) (h : SqL K H a xs) : SqL K H' a xs := by
  rcases h with (h | ⟨o, h⟩) | h
  · exact .inl (.inl (k _ _ n h))
  · exact .inl (.inr ⟨o, k _ _ n h⟩)
  · exact .inr h
theorem Keeps.tup {K : PySem.W.Frag} {L a : Addr} {H H' : Hp} {xs : List V} (k : Keeps L H H') (n : a ≠ L) (h : SqT K H a xs) : SqT K H' a xs := by
  rcases h with (h | ⟨o, h⟩) | h
  · exact .inl (.inl (k _ _ n h))
  · exact .inl (.inr ⟨o, k _ _ n h⟩)
  · exact .inr h

section
variable {X : Cx}
/-- one sign, so often -/
theorem op_mul_str : OpR X (binaryOp .Mult) (fun x y H Q => ∃ (c j : Nat), x = .str (S [c]) ∧ y = .int (j : Int) ∧ j ≤ 1000 ∧ Q (.str (S (List.replicate j c))) H) := by
  intro pins s σ H x y v u Q I rx ry h
  obtain ⟨c, j, rfl, rfl, hj, q⟩ := h
  obtain ⟨t, rfl⟩ := rx
  obtain ⟨t', rfl⟩ := ry
  have hlen : (S [c]).length = 1 := S_len _
  refine PySem.P.mul_str (by simp; omega) (fun _ _ => by
    rw [hlen]
    have : (1 : Int) ≤ (2 ^ 63 - 1) / (j : Int) := by
      by_cases hj0 : j = 0
      · omega
      · refine Int.le_ediv_of_mul_le (by omega) ?_
        omega
    omega) (fun _ _ => by
    rw [hlen]
    have : (j : Int).toNat = j := by omega
    rw [this]
    exact decide_eq_false (by rw [sizeLine_eq]; omega)) ?_
  have fin : ∀ (l : List Nat), l = List.replicate j c → ∀ (v : Value) (k : Nat), RelV (.str (S l)) v → EP X pins σ Q v { s with toks := k } := fun l e v k r => ⟨.str (S l), H, I.tok _, r, by rw [e]; exact q⟩
  by_cases h0 : (j : Int) < 1
  · have e0 : j = 0 := by omega
    rw [if_pos h0]
    exact ⟨by decide, fin [] (by rw [e0]; rfl) _ _ ⟨_, rfl⟩⟩
  · rw [if_neg h0]
    by_cases h1 : j = 1
    · subst h1
      rw [if_pos (by rfl)]
      exact fin [c] rfl _ s.toks ⟨_, rfl⟩
    · rw [if_neg (by rw [hlen]; simp; omega)]
      have e : (⟨(List.replicate (j : Int).toNat (S [c]).cps).foldl (· ++ ·) #[]⟩ : Str) = S (List.replicate j c) := by
        have ej : (j : Int).toNat = j := by omega
        rw [ej]
        have gen : ∀ (n : Nat) (acc : List Nat), (List.replicate n (S [c]).cps).foldl (· ++ ·) acc.toArray = (acc ++ List.replicate n c).toArray := by
          intro n
          induction n with
          | zero => intro acc; simp
          | succ n ih =>
            intro acc
            rw [List.replicate_succ, List.foldl_cons]
            have : acc.toArray ++ (S [c]).cps = (acc ++ [c]).toArray := by simp [S]
            rw [this, ih, List.replicate_succ]
            simp
        have := gen j []
        simp at this
        unfold S
        congr 1
      rw [e]
      refine ⟨?_, fin _ rfl _ _ ⟨_, rfl⟩⟩
      rw [S_len, List.length_replicate, sizeLine_eq]
      omega

/-- a text with its places -/
def Its2 (z : Str) : It :=
  ⟨fun i _ => i < z.cps.size, fun i H v H' => ∃ T c, v = .ref T ∧ H T = none ∧ H' = upd H T (.tup [.int (i : Nat), .str (S [c])]) ∧ z.cps[i]? = some c, fun i _ => i = z.cps.size⟩
theorem turn_enumS {P : Program} {w : World} {K : PySem.W.Frag} {elts : List Expr} {kk : Nat} {tpos : Pos} (z : Str) (t : Tok) (e it : Addr) :
    Turn P w K (.Tuple elts kk tpos) (Its2 z) [e, it] e (fun i h => (∃ old, IsEnum h e it ((i : Nat) : Int) old) ∧ h.IsStrIter it (strIterType z) z t i ∧ e ≠ it) where
  mem := List.mem_cons_self ..
  obj := fun i h st b hb => by
    obtain ⟨⟨old, he⟩, ⟨o, ho, hc, hd⟩, _⟩ := st
    rcases List.mem_cons.mp hb with rfl | hb
    · exact ⟨_, he, fun v q => nomatch q⟩
    · rw [List.mem_singleton.mp hb]
      exact ⟨o, ho, fun v q => by rw [hd] at q; cases q⟩
  keep := fun i h h' st k => by
    obtain ⟨⟨old, he⟩, ⟨o, ho, r⟩, hne⟩ := st
    exact ⟨⟨old, k e (by simp) _ he⟩, ⟨o, k it (by simp) o ho, r⟩, hne⟩
  item := by
    intro X hP hw hK hc i pins s σ H E I hf st hg
    subst hP hw hK
    obtain ⟨⟨old, he⟩, hit, hne⟩ := st
    have hel : e < s.heap.objs.size := Heap.lt_size he
    have hil : it < s.heap.objs.size := by
      obtain ⟨_, q, _⟩ := hit
      exact Heap.lt_size q
    have hef : e ∉ [it] := fun q => hne (List.mem_singleton.mp q)
    have D : Draws X.prog X.w X.A.in1 it [it] z.cps.size (fun i v => ∃ c u, z.cps[i]? = some c ∧ v = .str ⟨#[c]⟩ u) (fun i h => h.IsStrIter it (strIterType z) z t i) := by
      unfold strIterType
      cases ha : z.cps.all (· < 128)
      · simpa [ha] using Draws.strWide (prog := X.prog) (w := X.w) (A := X.A.in1) (I.ok.hd hc) it z t
      · simpa [ha] using Draws.strAscii (prog := X.prog) (w := X.w) (A := X.A.in1) (I.ok.hd hc) it z t
    refine wpAny_pyNext_enum_itemD D he hit hg hne hef fun x h' tk hx ho hit' hT hsz hk => ?_
    obtain ⟨c, u, hcx, rfl⟩ := hx
    refine ⟨_, rfl, wpAny_letOwnedTupleGo_enum (s := { s with heap := h', toks := tk + 1 }) ho fun h'' he' sb => ?_⟩
    have hT2 : h''.get? s.heap.objs.size = some { cls := .type "tuple", data := .seq #[.int i tk, .str ⟨#[c]⟩ u] } := (sb.2 _ (Nat.ne_of_gt hel)).trans hT
    have new : ObjOk X.prog X.w (upd H s.heap.objs.size (.tup [.int (i : Nat), .str (S [c])])) h'' s.heap.objs.size (.tup [.int (i : Nat), .str (S [c])]) :=
      ⟨by show 2 ≤ sizeLine; decide, [.int i tk, .str ⟨#[c]⟩ u], .cons ⟨_, rfl⟩ (.cons ⟨_, rfl⟩ .nil), ⟨_, hT2, rfl, _, rfl⟩⟩
    have hold : ∀ b ob, b ∉ [e, it] → s.heap.get? b = some ob → h''.get? b = some ob := fun b ob hb q =>
      (sb.2 b (fun q => hb (by simp [q]))).trans (hk b ob (fun q => hb (by simp [q])) (fun q => hb (by simp [q])) q)
    have I1 : Inv X pins σ (upd H s.heap.objs.size (.tup [.int (i : Nat), .str (S [c])])) { s with heap := h'', toks := tk + 1 } :=
      I.turnedNew (t' := tk + 1) (ch := [e, it]) hold hf (Nat.le_refl _) new
    refine ⟨.ref s.heap.objs.size, _, I1, rfl, ⟨_, c, rfl, I.hok.fresh (Nat.le_refl _), rfl, hcx⟩, ⟨⟨.str ⟨#[c]⟩ u, ?_⟩, ?_, hne⟩, fun b hb => ?_⟩
    · have e1 : ((i + 1 : Nat) : Int) = (i : Int) + 1 := Int.natCast_succ i
      rw [e1]
      exact he'
    · obtain ⟨o, q, r⟩ := hit'
      exact ⟨o, (sb.2 it (Ne.symm hne)).trans q, r⟩
    · have hb' : b < s.heap.objs.size := by
        rcases List.mem_cons.mp hb with q | q
        · rw [q]
          exact hel
        · rw [List.mem_singleton.mp q]
          exact hil
      rw [upd_ne (Nat.ne_of_lt hb')]
      exact (hf b hb).1
  done := by
    intro X hP hw hK hc i pins s σ H E I hf st hg
    subst hP hw hK
    obtain ⟨⟨old, he⟩, hit, hne⟩ := st
    obtain ⟨f0, f1, f2, f3, f4, f5⟩ := hf it (by simp)
    have D : Draws X.prog X.w X.A.in1 it [it] z.cps.size (fun i v => ∃ c u, z.cps[i]? = some c ∧ v = .str ⟨#[c]⟩ u) (fun i h => h.IsStrIter it (strIterType z) z t i) := by
      unfold strIterType
      cases ha : z.cps.all (· < 128)
      · simpa [ha] using Draws.strWide (prog := X.prog) (w := X.w) (A := X.A.in1) (I.ok.hd hc) it z t
      · simpa [ha] using Draws.strAscii (prog := X.prog) (w := X.w) (A := X.A.in1) (I.ok.hd hc) it z t
    have hi : i = z.cps.size := hg
    subst hi
    exact wpAny_pyNext_enum_endD D he hit fun h' eb => ⟨rfl, I.turned (t' := s.toks) (fun b o hb q => eb b o hb q) f0 f1 f3 f4 f5⟩
  self := fun A i s Q E st h => by
    obtain ⟨⟨_, he⟩, _⟩ := st
    exact wpAny_pyIter_enum he h
def iEnumS (ta : TA) : TI := fun σ H R => ta σ H fun vs H1 => ∃ z, vs = [.str z] ∧ R (Its2 z) H1
theorem pi_enumS {e : Expr} {ta : TA} {p pos tpos : Pos} {elts : List Expr} {kk : Nat} (hg : Gl X "enumerate") (hm : X.mg "enumerate" = none) (ha : PA X [e] ta)
    (hs : starEach [e] X.env = [(false, eval e X.env)] := by rfl) : PI X (.Tuple elts kk tpos) (.Call (.Name "enumerate" p) [e] [] pos) (iEnumS ta) := by
  refine ⟨fun pins s σ H R I h => ?_⟩
  refine Call_ (ld_blt I hg hm boot_enumerate (PyProof.Rows.callWith_type1 (thn (ha.run pos pins s σ H _ I h) fun us s1 ⟨vs, H1, I1, r1, q1⟩ => ?_) hs rfl))
  obtain ⟨z, rfl, q⟩ := q1
  obtain ⟨u1, rfl, r⟩ := vals1 r1
  obtain ⟨t, rfl⟩ := r
  refine PySem.call_enumerate_str fun h' he hit hsz hk => wpAny_pyIter_enum he ?_
  have I2 : Inv X pins σ H1 { s1 with heap := h' } := I1.kept (t' := s1.toks) hk
  refine ⟨s1.heap.objs.size + 1, [s1.heap.objs.size + 1, s1.heap.objs.size], _, _, H1, rfl, I2, turn_enumS z t (s1.heap.objs.size + 1) s1.heap.objs.size, ⟨⟨.none, he⟩, hit, Nat.succ_ne_self _⟩, fun b hb => ?_, q⟩
  have hle : s1.heap.objs.size ≤ b := by
    rcases List.mem_cons.mp hb with q | q
    · rw [q]
      exact Nat.le_succ _
    · rw [List.mem_singleton.mp q]
      exact Nat.le_refl _
  exact I1.fpOk hle (I1.hok.fresh hle)
theorem walk_enumS {z : Str} : Walk (Its2 z) z.cps.size (fun _ => True) (fun i H v H' => ∃ T c, v = .ref T ∧ H T = none ∧ H' = upd H T (.tup [.int (i : Nat), .str (S [c])]) ∧ z.cps[i]? = some c) :=
  ⟨fun _ _ hi _ => hi, fun _ _ => rfl, fun _ _ _ _ _ _ y => y⟩
end

/-! ### data -/
def Sm (l : List Nat) : Prop := ∀ c ∈ l, c < 1114112
theorem Sm.ok {l : List Nat} (h : Sm l) : PyData.strOk (S l) = true := by
  unfold PyData.strOk S
  rw [Array.all_eq_true']
  intro c hc
  exact decide_eq_true (h c (by simpa using hc))
theorem Sm.drop {l : List Nat} (h : Sm l) (n : Nat) : Sm (l.drop n) := fun c hc => h c (List.mem_of_mem_drop hc)
theorem dp_strs {K : PySem.W.Frag} {H : Hp} : ∀ ls : List (List Nat), DpAll K H (ls.map fun l => V.str (S l)) (ls.map fun l => PyData.str (S l))
  | [] => .nil
  | l :: r => .cons (.str _) (dp_strs r)
theorem canLay_strs : ∀ {ls : List (List Nat)}, (∀ l ∈ ls, Sm l) → PyData.canLayAll0 (ls.map fun l => PyData.str (S l)) = true
  | [], _ => rfl
  | l :: r, h => by
    show (PyData.strOk (S l) && PyData.canLayAll0 (r.map fun l => PyData.str (S l))) = true
    rw [(h l (List.mem_cons_self ..)).ok, canLay_strs fun z hz => h z (List.mem_cons_of_mem _ hz)]
    rfl
theorem depth_strs : ∀ ls : List (List Nat), PyData.depthAll (ls.map fun l => PyData.str (S l)) = 0
  | [] => rfl
  | l :: r => by
    show max 0 (PyData.depthAll (r.map fun l => PyData.str (S l))) = 0
    rw [depth_strs r]
    rfl
theorem shaped_strs {ls : List (List Nat)} (h : ∀ l ∈ ls, Sm l) : SeqAt.shaped (.list (ls.map fun l => PyData.str (S l))) = true := by
  show (PyData.canLayAll0 _ && decide (PyData.depthAll _ + 1 ≤ 64)) = true
  rw [canLay_strs h, depth_strs]
  rfl
theorem eq_strs {ls : List (List Nat)} (h : ∀ l ∈ ls, Sm l) : PyData.eqv (.list (ls.map fun l => PyData.str (S l))) (.list (ls.map fun l => PyData.str (S l))) = true :=
  PySem.SeqAt.eqv_refl _ (canLay_strs h)
/-- a text and two ints -/
def D3 (l : List Nat) (b c : Int) : PyData := .tuple [.str (S l), .int b, .int c]
theorem dp3 {K : PySem.W.Frag} {H : Hp} {a : Addr} {l : List Nat} {b c : Int} (h : SqT K H a [.str (S l), .int b, .int c]) : Dp K H (.ref a) (D3 l b c) :=
  .tup h (.cons (.str _) (.cons (.int _) (.cons (.int _) .nil)))
theorem lay3 {l : List Nat} (h : Sm l) (b c : Int) : (D3 l b c).canLay0 = true := by
  show (PyData.strOk (S l) && (true && (true && true))) = true
  rw [h.ok]
  rfl
theorem shaped3 {l : List Nat} (h : Sm l) (b c : Int) : SeqAt.shaped (D3 l b c) = true := by
  show ((D3 l b c).canLay0 && decide ((D3 l b c).depth ≤ 64)) = true
  rw [lay3 h]
  rfl
theorem eq3 {l : List Nat} (h : Sm l) (b c : Int) : PyData.eqv (D3 l b c) (D3 l b c) = true := PySem.SeqAt.eqv_refl _ (lay3 h b c)

/-! ### a if t else b -/
def AnsB (t : TT) (σ : L2.St) (H : Hp) (b : Bool) : Prop := ∀ Q : Bool → Hp → Prop, Q b H → t σ H Q
def ValB (te : TE) (σ : L2.St) (H : Hp) (P : V → Hp → Prop) : Prop := ∀ Q : VK, (∀ v H', P v H' → Q v H') → te σ H Q
theorem tif_val {t : TT} {ta tb : TE} {σ : L2.St} {H : Hp} {P : V → Hp → Prop} (b : Bool) (ht : AnsB t σ H b) (ha : b = true → ValB ta σ H P) (hb : b = false → ValB tb σ H P) : ValB (tIf t ta tb) σ H P := by
  intro Q q
  refine ht _ ?_
  cases b with
  | true =>
    rw [if_pos rfl]
    exact ha rfl Q q
  | false =>
    rw [if_neg Bool.false_ne_true]
    exact hb rfl Q q
theorem sum_le : ∀ {ls : List (List Nat)} {k : Nat}, (∀ l ∈ ls, l.length ≤ k) → ((ls.map S).map (·.length)).sum ≤ k * ls.length
  | [], k, _ => by simp
  | a :: r, k, h => by
    have ih := sum_le (ls := r) (k := k) fun l hl => h l (List.mem_cons_of_mem _ hl)
    have ha := h a (List.mem_cons_self ..)
    rw [List.map_cons, List.map_cons, List.sum_cons, S_len, List.length_cons, Nat.mul_succ]
    omega

theorem asg_if {t : TT} {ta tb : TE} {g : TG} {u : TS} {D : Ends} {σ : L2.St} {H : Hp} (P : V → Hp → Prop) (b : Bool) (ht : AnsB t σ H b) (ha : b = true → ValB ta σ H P) (hb : b = false → ValB tb σ H P)
    (hq : ∀ v H', P v H' → g v σ H' (u D)) : tSeq (tAsg (tIf t ta tb) g) u D σ H :=
  tif_val b ht ha hb (fun v H' => g v σ H' (u D)) hq
theorem go_nx {D : Ends} {σ : L2.St} {H : Hp} (q : D.nx σ H) : tNext D σ H := q
end My

/-! ### texts by their signs: what the methods tell -/
namespace My
open PySem PySem.Spec PyProof.Rows L2 PySem.StrLaws PySem.Builtin.Str
theorem from_nat (n p : Nat) : fromIndex n (p : Int) = p := by
  unfold fromIndex
  have : ¬ (p : Int) < 0 := by omega
  rw [if_neg this]
  omega
theorem to_nat (n p : Nat) : toIndexW n (p : Int) = min n p := by
  unfold toIndexW
  have : ¬ (p : Int) < 0 := by omega
  rw [if_neg this]
  omega
theorem sub_S (t w : List Nat) (i : Nat) : subAt (S t) (S w) i = ((t.drop i).take w.length == w) := by
  rw [subAt_eq, S_tl, S_tl, S_len]
theorem take_pre : ∀ (w r : List Nat), (r.take w.length == w) = w.isPrefixOf r
  | [], r => by simp [List.isPrefixOf]
  | a :: w, [] => by simp [List.isPrefixOf]
  | a :: w, b :: r => by
    show (b :: r.take w.length == a :: w) = (a == b && w.isPrefixOf r)
    rw [← take_pre w r]
    show (b == a && (r.take w.length == w)) = _
    have e : (b == a) = (a == b) := by
      by_cases h : a = b
      · rw [h]
      · rw [beq_eq_false_iff_ne.mpr h, beq_eq_false_iff_ne.mpr fun e => h e.symm]
    rw [e]
theorem pre_len : ∀ (w r : List Nat), w.isPrefixOf r = true → w.length ≤ r.length
  | [], r, _ => Nat.zero_le _
  | a :: w, [], h => by cases h
  | a :: w, b :: r, h => by
    have h2 : w.isPrefixOf r = true := (Bool.and_eq_true_iff.mp (show (a == b && w.isPrefixOf r) = true from h)).2
    have := pre_len w r h2
    simp
    omega
theorem at_S (t w : List Nat) (hw : w ≠ []) (i : Nat) : At (S t) (S w) (S t).length i ↔ w.isPrefixOf (t.drop i) = true := by
  unfold At
  rw [sub_S, take_pre, S_len, S_len]
  constructor
  · exact fun h => h.2
  · intro h
    refine ⟨?_, h⟩
    have := pre_len _ _ h
    rw [List.length_drop] at this
    have h0 : 0 < w.length := List.length_pos_iff.mpr hw
    omega
theorem starts3 (t w : List Nat) (hw : w ≠ []) (p : Nat) : Txt.startswith3 (S t) (S w) (p : Int) = w.isPrefixOf (t.drop p) := by
  unfold Txt.startswith3
  rw [from_nat, sub_S, take_pre]
  cases h : w.isPrefixOf (t.drop p) with
  | false => simp
  | true =>
    have := (at_S t w hw p).mpr h
    have h1 : p + (S w).length ≤ (S t).length := this.1
    simp [h1]
theorem starts1 (t w : List Nat) (hw : w ≠ []) : Txt.startswith (S t) (S w) = w.isPrefixOf t := by
  have := starts3 t w hw 0
  unfold Txt.startswith3 at this
  rw [from_nat, List.drop_zero] at this
  exact this
/-- the first place of w -/
def findL (w : List Nat) : List Nat → Option Nat
  | [] => if w = [] then some 0 else none
  | c :: r => if w.isPrefixOf (c :: r) = true then some 0 else (findL w r).map (· + 1)
theorem findL_some {w : List Nat} : ∀ {r : List Nat} {k : Nat}, w ≠ [] → findL w r = some k → w.isPrefixOf (r.drop k) = true ∧ ∀ j, j < k → w.isPrefixOf (r.drop j) = false
  | [], k, hw, h => by
    unfold findL at h
    rw [if_neg hw] at h
    cases h
  | c :: r, k, hw, h => by
    unfold findL at h
    split at h
    · rename_i hp
      cases h
      exact ⟨hp, fun j hj => absurd hj (Nat.not_lt_zero _)⟩
    · rename_i hp
      cases hf : findL w r with
      | none => rw [hf] at h; cases h
      | some k' =>
        rw [hf] at h
        have e : k' + 1 = k := Option.some.inj h
        subst e
        obtain ⟨h1, h2⟩ := findL_some hw hf
        refine ⟨h1, fun j hj => ?_⟩
        cases j with
        | zero => exact eq_false_of_ne_true hp
        | succ j => exact h2 j (by omega)
theorem findL_none {w : List Nat} : ∀ {r : List Nat}, w ≠ [] → findL w r = none → ∀ j, w.isPrefixOf (r.drop j) = false
  | [], hw, _, j => by
    rw [List.drop_nil]
    cases w with
    | nil => exact absurd rfl hw
    | cons a w => rfl
  | c :: r, hw, h, j => by
    unfold findL at h
    split at h
    · cases h
    · rename_i hp
      cases hf : findL w r with
      | some k => rw [hf] at h; cases h
      | none =>
        cases j with
        | zero => exact eq_false_of_ne_true hp
        | succ j => exact findL_none hw hf j
theorem find3_S (t w : List Nat) (hw : w ≠ []) (p : Nat) : Txt.find3 (S t) (S w) (p : Int) = match findL w (t.drop p) with | some k => ((p + k : Nat) : Int) | none => -1 := by
  unfold Txt.find3
  rw [from_nat]
  rcases occ_head_from (S t) (S w) p 1 (Nat.le_refl _) with ⟨h0, hn⟩ | ⟨i, r, h0, hp, ha, hn⟩
  · rw [h0]
    cases hf : findL w (t.drop p) with
    | none => rfl
    | some k =>
      have h1 := (findL_some hw hf).1
      rw [List.drop_drop] at h1
      exact absurd ((at_S t w hw (p + k)).mpr h1) (hn (p + k) (by omega))
  · rw [h0]
    have ha' := (at_S t w hw i).mp ha
    cases hf : findL w (t.drop p) with
    | none =>
      have h1 := findL_none hw hf (i - p)
      rw [List.drop_drop, show p + (i - p) = i by omega, ha'] at h1
      cases h1
    | some k =>
      obtain ⟨h1, h2⟩ := findL_some hw hf
      rw [List.drop_drop] at h1
      have e : i = p + k := by
        rcases Nat.lt_trichotomy i (p + k) with h | h | h
        · have h3 := h2 (i - p) (by omega)
          rw [List.drop_drop, show p + (i - p) = i by omega, ha'] at h3
          cases h3
        · exact h
        · exact absurd ((at_S t w hw (p + k)).mpr h1) (hn (p + k) (by omega) h)
      show ((i : Nat) : Int) = _
      rw [e]
/-- one text in another -/
def inL (w r : List Nat) : Bool := (findL w r).isSome
theorem in_S (t w : List Nat) (hw : w ≠ []) : (!(occurrences (S t) (S w) 0 (S t).length 1).isEmpty) = inL w t := by
  have h := find3_S t w hw 0
  unfold Txt.find3 at h
  rw [from_nat, List.drop_zero] at h
  unfold inL
  cases ho : occurrences (S t) (S w) 0 (S t).length 1 with
  | nil =>
    rw [ho] at h
    cases hf : findL w t with
    | none => rfl
    | some k =>
      rw [hf] at h
      have h' : (-1 : Int) = ((0 + k : Nat) : Int) := h
      omega
  | cons a b =>
    rw [ho] at h
    cases hf : findL w t with
    | none =>
      rw [hf] at h
      have h' : ((a : Nat) : Int) = -1 := h
      omega
    | some k => rfl
/-- signs counted -/
theorem occ_count (t : List Nat) (c hi limit : Nat) : ∀ (n a : Nat) (st : Array Nat × Nat), st.2 ≤ a → st.1.size + n ≤ limit → hi ≤ t.length → a + n = hi + 1 ∨ (n = 0 ∧ hi < a) →
    (forIn (List.range' a n) st (occBody (S t) (S [c]) hi limit)).run.fst.size = st.1.size + ((t.drop a).take (hi - a)).count c
  | 0, a, st, h1, h2, h3, h4 => by
    have : hi - a = 0 := by omega
    rw [this]
    simp
  | n + 1, a, st, h1, h2, h3, h4 => by
    rw [List.range'_succ, List.forIn_cons]
    have hl : (S [c]).length = 1 := S_len _
    have stay : ¬ (((st.1.size < limit ∧ st.2 ≤ a) ∧ a + (S [c]).length ≤ hi) ∧ subAt (S t) (S [c]) a = true) →
        (occBody (S t) (S [c]) hi limit a st) = pure (ForInStep.yield st) := fun z => by
      unfold occBody
      rw [if_neg z]
    by_cases ha : a < hi
    · have hat : a < t.length := by omega
      have hd : t.drop a = t[a] :: t.drop (a + 1) := List.drop_eq_getElem_cons hat
      have hs : hi - a = (hi - (a + 1)) + 1 := by omega
      have hsub : subAt (S t) (S [c]) a = (t[a] == c) := by
        rw [sub_S, hd]
        show (t[a] :: (t.drop (a + 1)).take 0 == [c]) = _
        rw [List.take_zero]
        by_cases h : t[a] = c <;> simp [h]
      have hcnt : ((t.drop a).take (hi - a)).count c = ((t.drop (a + 1)).take (hi - (a + 1))).count c + if t[a] == c then 1 else 0 := by
        rw [hd, hs, List.take_succ_cons, List.count_cons]
      rw [hcnt]
      by_cases hc : t[a] = c
      · have e : occBody (S t) (S [c]) hi limit a st = pure (ForInStep.yield (st.1.push a, a + (S [c]).length)) := by
          unfold occBody
          rw [if_pos ⟨⟨⟨by omega, h1⟩, by omega⟩, by rw [hsub]; simp [hc]⟩]
        rw [e, hl]
        have ih := occ_count t c hi limit n (a + 1) (st.1.push a, a + 1) (Nat.le_refl _) (by rw [Array.size_push]; omega) h3 (by omega)
        have e1 : (if t[a] == c then 1 else 0) = 1 := by rw [hc]; simp
        rw [e1]
        refine Eq.trans ih ?_
        rw [Array.size_push]
        omega
      · rw [stay (fun z => by have := z.2; rw [hsub] at this; simp at this; exact hc this)]
        have ih := occ_count t c hi limit n (a + 1) st (by omega) (by omega) h3 (by omega)
        have e1 : (if t[a] == c then 1 else 0) = 0 := by simp [hc]
        rw [e1]
        exact ih
    · rw [stay (fun z => by have := z.1.2; omega)]
      have ih := occ_count t c hi limit n (a + 1) st (by omega) (by omega) h3 (by omega)
      have e0 : hi - a = 0 := by omega
      have e1 : hi - (a + 1) = 0 := by omega
      rw [e1] at ih
      rw [e0]
      refine Eq.trans ih ?_
      simp
theorem count_S (t : List Nat) (c p e : Nat) (he : e ≤ t.length) (hp : p ≤ e) : Txt.countIn (S t) (S [c]) (p : Int) (e : Int) = (((t.drop p).take (e - p)).count c : Nat) := by
  unfold Txt.countIn
  rw [from_nat, to_nat, S_len, Nat.min_eq_right he, occ_eq]
  have h := occ_count t c e (t.length + 1) (e + 1 - p) p (#[], p) (Nat.le_refl _) (by simp; omega) he (by omega)
  rw [Array.length_toList]
  congr 1
  rw [h]
  simp
/-- blank: nothing but such signs -/
theorem tw_all {g : Nat → Bool} : ∀ {t : List Nat}, t.all g = true → t.takeWhile g = t
  | [], _ => rfl
  | a :: r, h => by
    have h2 := Bool.and_eq_true_iff.mp (show (g a && r.all g) = true from h)
    rw [List.takeWhile_cons, if_pos h2.1, tw_all h2.2]
theorem tw_not {g : Nat → Bool} : ∀ {t : List Nat}, t.all g = false → ∃ c r, t.drop (t.takeWhile g).length = c :: r ∧ g c = false
  | [], h => by cases h
  | a :: r, h => by
    rw [List.takeWhile_cons]
    cases hg : g a with
    | false => exact ⟨a, r, by simp, hg⟩
    | true =>
      have h2 : r.all g = false := by
        have : (g a && r.all g) = false := h
        rw [hg] at this
        simpa using this
      obtain ⟨c, r', h3, h4⟩ := tw_not h2
      exact ⟨c, r', by simpa using h3, h4⟩
theorem strip_nil (t w : List Nat) : ((Txt.stripChars (S t) (S w)).cps.toList = []) ↔ t.all (fun c => w.contains c) = true := by
  have hg : (S w).cps.contains = fun c => w.contains c := by
    funext c
    simp [S]
  unfold Txt.stripChars Txt.stripBy stripSame stripped stripLo stripHi
  rw [hg]
  simp only [if_true]
  rw [S_tl, S_len]
  cases h : t.all (fun c => w.contains c) with
  | true =>
    have e := tw_all h
    rw [e, List.drop_length]
    simp only [List.reverse_nil, List.takeWhile_nil, List.length_nil, Nat.sub_zero]
    have key : (if (t.length == 0 && t.length == t.length) = true then S t else strSub (S t) t.length t.length).cps.toList = [] := by
      by_cases h0 : (t.length == 0 && t.length == t.length) = true
      · rw [if_pos h0, S_tl]
        have h1 : t.length = 0 := by simpa using h0
        exact List.length_eq_zero_iff.mp h1
      · rw [if_neg h0, strSub_toList, Nat.sub_self, List.take_zero]
    exact ⟨fun _ => trivial, fun _ => key⟩
  | false =>
    constructor
    · intro h0
      exfalso
      obtain ⟨c, r, h1, h2⟩ := tw_not h
      have hlen : (t.takeWhile (fun c => w.contains c)).length < t.length := by
        have := congrArg List.length h1
        rw [List.length_drop, List.length_cons] at this
        omega
      split at h0
      · rw [S_tl] at h0
        rw [h0] at hlen
        simp at hlen
      · rw [strSub_toList, S_tl, h1] at h0
        have hr : ((c :: r).reverse.takeWhile (fun c => w.contains c)).length ≤ r.length := by
          rw [List.reverse_cons]
          by_cases hall : r.reverse.all (fun c => w.contains c) = true
          · rw [List.takeWhile_append_of_pos (by simpa using hall), List.takeWhile_cons, if_neg (by rw [h2]; exact Bool.false_ne_true)]
            simp
          · obtain ⟨x, y, h5, h6⟩ := tw_not (eq_false_of_ne_true hall)
            have h7 : (r.reverse.takeWhile (fun c => w.contains c)).length < r.reverse.length := by
              have := congrArg List.length h5
              rw [List.length_drop] at this
              simp at this
              simp
              omega
            have h8 : (r.reverse ++ [c]).takeWhile (fun c => w.contains c) = r.reverse.takeWhile (fun c => w.contains c) := by
              have e := List.takeWhile_append (p := fun c => w.contains c) (xs := r.reverse) (ys := [c])
              rw [e, if_neg (by omega)]
            rw [h8]
            have := List.length_reverse (as := r)
            omega
        have h9 : (c :: r).length = t.length - (t.takeWhile (fun c => w.contains c)).length := by
          rw [← h1, List.length_drop]
        have h10 := congrArg List.length h0
        rw [List.length_take] at h10
        simp only [List.length_cons, List.length_nil] at h10 h9
        omega
    · intro h1
      cases h1
theorem strip_blank (t w : List Nat) : decide (V.str (Txt.stripChars (S t) (S w)) = V.str (S [])) = t.all (fun c => w.contains c) := by
  rw [S_of (Txt.stripChars (S t) (S w)), S_dec]
  cases h : t.all (fun c => w.contains c) with
  | true => exact decide_eq_true ((strip_nil t w).mpr h)
  | false => exact decide_eq_false fun z => by rw [(strip_nil t w).mp z] at h; cases h
/-- small letters, great letters -/
theorem lower_S (t : List Nat) (h : ∀ c ∈ t, c < 128) : Txt.lower (S t) = S (t.map lo1) := by
  rw [lower_ascii (by rw [S_tl]; exact h)]
  show (⟨t.toArray.map lo1⟩ : Str) = ⟨(t.map lo1).toArray⟩
  simp
theorem upper_S (t : List Nat) (h : ∀ c ∈ t, c < 128) : Txt.upper (S t) = S (t.map up1) := by
  rw [upper_ascii (by rw [S_tl]; exact h)]
  show (⟨t.toArray.map up1⟩ : Str) = ⟨(t.map up1).toArray⟩
  simp
end My

/-! ### more words: a written dict of texts, update, int by a base, find up to an end -/
namespace My
open PySem PySem.Spec PyProof.Rows L2 PySem.StrLaws PySem.Builtin.Str
/-! a written dict of the module, its keys texts -/
def EntS : List DictEntry → List (Str × V) → Prop
  | [], [] => True
  | e :: es, p :: ps => (∃ t, e.key = .str p.1 t) ∧ RelV p.2 e.val ∧ EntS es ps
  | _, _ => False
structure KDictS (K : PySem.W.Frag) (w : World) (d : Addr) (ps : List (Str × V)) : Prop where
  here : ∃ es n, KDict K w d es n ∧ EntS es.toList ps
theorem entS_find (k : Str) : ∀ {es : List DictEntry} {ps : List (Str × V)}, EntS es ps →
    match ps.lookup k with
    | none => (es.find? fun e => Value.isStrOf k e.key).map (·.val) = none
    | some v => ∃ u, (es.find? fun e => Value.isStrOf k e.key).map (·.val) = some u ∧ RelV v u
  | [], [], _ => rfl
  | [], _ :: _, h => h.elim
  | _ :: _, [], h => h.elim
  | e :: es, p :: ps, ⟨⟨t, h1⟩, h2, r⟩ => by
    have ih := entS_find k r
    rw [List.find?_cons, List.lookup_cons, h1]
    by_cases h : k = p.1
    · subst h
      have e1 : Value.isStrOf p.1 (.str p.1 t) = true := by simp [Value.isStrOf]
      rw [e1, beq_self_eq_true]
      exact ⟨_, rfl, h2⟩
    · have e1 : Value.isStrOf k (.str p.1 t) = false := by
        cases q : Value.isStrOf k (.str p.1 t) with
        | false => rfl
        | true =>
          obtain ⟨t', e⟩ := Value.isStrOf_shape q
          cases e
          exact absurd rfl h
      rw [e1, beq_eq_false_iff_ne.mpr h]
      exact ih
section
variable {X : Cx} {d : Addr} {ps : List (Str × V)}
theorem kds_map {prog : Program} {w : World} {h : Heap} {K : PySem.W.Frag} (D : KDictS K w d ps) (I : K.In h) (k : Str) : (d == sysModules) = false ∧ ∃ f : Str → Option Value, h.MapOf (strKind prog w) d f ∧
    match ps.lookup k with
    | none => f k = none
    | some v => ∃ u, f k = some u ∧ RelV v u := by
  obtain ⟨es, n, D, he⟩ := D.here
  refine ⟨D.low, _, PySem.W.mapOf_K (prog := prog) I D.at_ D.lit, ?_⟩
  have := entS_find k he
  obtain ⟨l⟩ := es
  simpa only [findBy, List.find?_toArray] using this
theorem op_in_ks (D : KDictS X.K X.w d ps) : OpR X (compareOp .In) (fun x y H Q => ∃ z : Str, x = .str z ∧ y = .ref d ∧ Q (.bl (ps.lookup z).isSome) H) := by
  intro pins s σ H x y v u Q I rx ry h
  obtain ⟨z, rfl, rfl, q⟩ := h
  obtain ⟨t, rfl⟩ := rx
  cases ry
  obtain ⟨low, f, hm, hf⟩ := kds_map (prog := X.prog) D I.kIn z
  refine wpAny_in_of (PySem.strKind_is X.prog X.w z t) low hm ?_
  refine ⟨.bl (ps.lookup z).isSome, H, I.tok _, ?_, q⟩
  show Value.bool _ = Value.bool _
  cases e : ps.lookup z with
  | none => rw [e] at hf; rw [show f z = none from hf]; rfl
  | some v => rw [e] at hf; obtain ⟨u, h1, _⟩ := hf; rw [h1]; rfl
theorem op_notIn_ks (D : KDictS X.K X.w d ps) : OpR X (compareOp .NotIn) (fun x y H Q => ∃ z : Str, x = .str z ∧ y = .ref d ∧ Q (.bl (!(ps.lookup z).isSome)) H) := by
  intro pins s σ H x y v u Q I rx ry h
  obtain ⟨z, rfl, rfl, q⟩ := h
  obtain ⟨t, rfl⟩ := rx
  cases ry
  obtain ⟨low, f, hm, hf⟩ := kds_map (prog := X.prog) D I.kIn z
  refine wpAny_notIn_of (PySem.strKind_is X.prog X.w z t) low hm ?_
  refine ⟨.bl (!(ps.lookup z).isSome), H, I.tok _, ?_, q⟩
  show Value.bool _ = Value.bool _
  cases e : ps.lookup z with
  | none => rw [e] at hf; rw [show f z = none from hf]; rfl
  | some v => rw [e] at hf; obtain ⟨u, h1, _⟩ := hf; rw [h1]; rfl
theorem ix_ks (D : KDictS X.K X.w d ps) : IxR X (fun x y H Q => ∃ (z : Str) (v : V), x = .ref d ∧ y = .str z ∧ ps.lookup z = some v ∧ Q v H) := by
  intro value slice pins s σ H x y v u Q I rx ry h hs
  obtain ⟨z, a, rfl, rfl, e, q⟩ := h
  obtain rfl : v = Value.ref d := rx
  obtain ⟨t, rfl⟩ := ry
  obtain ⟨low, f, hm, hf⟩ := kds_map (prog := X.prog) D I.kIn z
  rw [e] at hf
  obtain ⟨u, h1, ru⟩ := hf
  exact tail_any hm.typeIs slot_dict_getitem.lookup (wpAny_getItem_of (strKind_is X.prog X.w z t) hm h1 ⟨a, H, I.tok _, ru, q⟩) hs
/-- NAMES.get(key) -/
theorem pe_kget {o e : Expr} {to te : TE} {apos cpos : Pos} (D : KDictS X.K X.w d ps) (ho : PE X o to) (he : PE X e te) (m : M1 X o "get" apos e cpos) :
    PE X (.Call (.Attribute o "get" apos) [e] [] cpos) (fun σ H Q => to σ H fun x H1 => x = .ref d ∧ te σ H1 fun y H2 => ∃ z : Str, y = .str z ∧ Q ((ps.lookup z).getD .non) H2) := by
  refine ⟨fun pins s σ H Q I h => ?_⟩
  refine wpAny_Call_method m.base m.few m.line PySem.F.plainAttrs_dict PySem.F.slot_dict_get PySem.F.type_dict_get (thn (ho.run pins s σ H _ I h) fun u s1 ⟨x, H1, I1, rx, ex, q1⟩ => ?_)
  subst ex
  obtain rfl : u = Value.ref d := rx
  obtain ⟨low, f, hm, hf⟩ := kds_map (prog := X.prog) D I1.kIn ""
  refine ⟨hm.typeIs, hm.noDict, ?_⟩
  rw [m.trees]
  refine Calls.callWith_builtin rfl (Calls.evalArgs_plain (Calls.spliced_cons (thn (he.run pins s1 σ H1 _ I1 q1) fun iv s2 ⟨y, H2, I2, ry, z, ez, q2⟩ => Calls.spliced_nil ?_)))
  subst ez
  obtain ⟨t, rfl⟩ := ry
  obtain ⟨low, f, hm, hf⟩ := kds_map (prog := X.prog) D I2.kIn z
  refine call_meetsIn PySem.F.slot_dict_get hm.typeIs PySem.F.entry_dict_get (PySem.F.args_dict_get_2 _ _) (meets_dict_get (strKind X.prog X.w) d (strKind_is X.prog X.w z t) low) ⟨_, hm, ?_⟩
  refine ⟨(ps.lookup z).getD .non, H2, I2.tok _, ?_, q2⟩
  cases e : ps.lookup z with
  | none => rw [e] at hf; rw [show f z = none from hf]; rfl
  | some v => rw [e] at hf; obtain ⟨u, h1, r⟩ := hf; rw [h1]; exact r
end
/-! d.update(e) -/
def rUpd : V → List V → Hp → VK → Prop := fun x vs H Q => ∃ (a b : Addr) (kvs more : List (Key × V)), x = .ref a ∧ vs = [.ref b] ∧ a ≠ b ∧ H a = some (.dK kvs) ∧ H b = some (.dK more) ∧ kvs.length + more.length ≤ 1000 ∧
  Q .non (upd H a (.dK (mergeK kvs more)))
theorem mtd_update {X : Cx} : MtR X "dict.update" rUpd := by
  intro pins s σ H x vs v us Q I rx rv h
  obtain ⟨a, b, kvs, more, ex, ev, hne, e, e2, hl, q⟩ := h
  subst ex
  subst ev
  obtain rfl : v = Value.ref a := rx
  obtain ⟨u, rfl, ru⟩ := rv.one
  obtain rfl : u = Value.ref b := ru
  obtain ⟨z, hd, vs1, rel, dd⟩ := dk_of I.hok e
  obtain ⟨z2, hd2, vs2, rel2, dd2⟩ := dk_of I.hok e2
  have hz : (mergeK kvs more).length ≤ sizeLine := by
    have h1 := length_mergeK more kvs
    rw [sizeLine_eq]
    omega
  refine call_meetsIn PySem.F.slot_dict_update dd.typeIs PySem.F.entry_dict_update (PySem.F.args_dict_update_2 _ _) (meets_dict_update (mixKind X.prog X.w) a b hne hd2)
    ⟨vs1, vs2, dd, dd2, by rw [← rel.length, ← rel2.length, sizeLine_eq]; omega, fun h' dd' _ hs => ?_⟩
  have he : ∃ q, h'.get? a = some q := let ⟨q, _, _, hq, _⟩ := dd'; ⟨q, hq⟩
  exact ⟨.non, _, d_write (t' := s.toks) I (by rw [e]; exact True.intro) hs he (dk_new hz hd (rel2.merge rel) dd'), rfl, q⟩
/-! find up to an end -/
theorem occ_take (t w : List Nat) (lo hi : Nat) (h : hi ≤ t.length) : occurrences (S t) (S w) lo hi 1 = occurrences (S (t.take hi)) (S w) lo hi 1 := by
  rw [occ_eq, occ_eq]
  have e : occBody (S t) (S w) hi 1 = occBody (S (t.take hi)) (S w) hi 1 := by
    funext i st
    unfold occBody
    by_cases hc : i + (S w).length ≤ hi
    · have e2 : subAt (S t) (S w) i = subAt (S (t.take hi)) (S w) i := by
        rw [S_len] at hc
        rw [sub_S, sub_S, List.drop_take, List.take_take, Nat.min_eq_left (by omega)]
      rw [e2]
    · rw [if_neg fun z => hc z.1.2, if_neg fun z => hc z.1.2]
  rw [e]
theorem findIn_S (t w : List Nat) (hw : w ≠ []) (p j : Nat) : Txt.findIn (S t) (S w) (p : Int) ((p + j : Nat) : Int) = match findL w ((t.drop p).take j) with | some k => ((p + k : Nat) : Int) | none => -1 := by
  unfold Txt.findIn
  rw [from_nat, to_nat, S_len]
  by_cases hp : p ≤ t.length
  · have h1 : min t.length (p + j) ≤ t.length := Nat.min_le_left _ _
    rw [occ_take t w p _ h1]
    have h2 := find3_S (t.take (min t.length (p + j))) w hw p
    unfold Txt.find3 at h2
    rw [from_nat, S_len, List.length_take, Nat.min_eq_left h1, List.drop_take] at h2
    have e : (t.drop p).take (min t.length (p + j) - p) = (t.drop p).take j := by
      by_cases hj : p + j ≤ t.length
      · rw [Nat.min_eq_right hj, Nat.add_sub_cancel_left]
      · rw [Nat.min_eq_left (by omega), List.take_of_length_le (by rw [List.length_drop]; omega), List.take_of_length_le (by rw [List.length_drop]; omega)]
    rw [e] at h2
    exact h2
  · rw [List.drop_of_length_le (by omega), List.take_nil]
    have hn : findL w [] = none := by
      unfold findL
      rw [if_neg hw]
    rw [hn, Nat.min_eq_left (by omega)]
    have : occurrences (S t) (S w) p t.length 1 = [] := by
      have h2 := find3_S t w hw p
      unfold Txt.find3 at h2
      rw [from_nat, List.drop_of_length_le (by omega), hn, S_len] at h2
      cases ho : occurrences (S t) (S w) p t.length 1 with
      | nil => rfl
      | cons a b =>
        rw [ho] at h2
        have h3 : ((a : Nat) : Int) = -1 := h2
        omega
    rw [this]
/-! int(text, 10) -/
open PySem.NumText PySem.Calls
def IsDec (c : Nat) : Prop := 48 ≤ c ∧ c ≤ 57
def decNum (l : List Nat) : Nat := l.foldl (fun a c => a * 10 + (c - 48)) 0
theorem step_dec {ds : Array Nat} {b : Bool} {c : Nat} (h : IsDec c) : PySem.NumText.step 10 (ds, b) c = some (ds.push (c - 48), true) := by
  unfold IsDec at h
  unfold PySem.NumText.step
  rw [if_neg (by rw [beq_iff_eq]; omega)]
  have e : digit? c = some (c - 48) := by
    unfold digit?
    rw [if_pos (Hx.bb h.1 h.2)]
  rw [e]
  exact if_pos (by omega)
theorem foldl_dec : ∀ (cs : List Nat) (ds : Array Nat), (∀ c ∈ cs, IsDec c) → cs.foldlM (PySem.NumText.step 10) (ds, true) = some (cs.foldl (fun acc c => acc.push (c - 48)) ds, true)
  | [], _, _ => rfl
  | c :: cs, ds, h => by
    rw [List.foldlM_cons, step_dec (h c (List.mem_cons_self ..))]
    show cs.foldlM (PySem.NumText.step 10) (ds.push (c - 48), true) = _
    exact foldl_dec cs (ds.push (c - 48)) fun d hd => h d (List.mem_cons_of_mem _ hd)
theorem digits_dec {cs : List Nat} (h : ∀ c ∈ cs, IsDec c) (hne : cs ≠ []) : digits? 10 cs = some (cs.foldl (fun acc c => acc.push (c - 48)) #[]) := by
  cases cs with
  | nil => exact absurd rfl hne
  | cons c cs =>
    unfold digits?
    rw [List.foldlM_cons, step_dec (h c (List.mem_cons_self ..))]
    show (cs.foldlM (PySem.NumText.step 10) ((#[] : Array Nat).push (c - 48), true)).bind _ = _
    rw [foldl_dec cs _ fun d hd => h d (List.mem_cons_of_mem _ hd)]
    rfl
theorem push_dec : ∀ (cs : List Nat) (ds : Array Nat), (cs.foldl (fun acc c => acc.push (c - 48)) ds).foldl (fun acc d => acc * 10 + d) 0 = cs.foldl (fun a c => a * 10 + (c - 48)) (ds.foldl (fun acc d => acc * 10 + d) 0)
  | [], _ => rfl
  | c :: cs, ds => by
    rw [List.foldl_cons, push_dec cs (ds.push (c - 48)), List.foldl_cons]
    congr 1
    simp
theorem dec_hex {cs : List Nat} (h : ∀ c ∈ cs, IsDec c) : ∀ c ∈ cs, Hx.IsHex c := fun c hc => .inl (h c hc)
theorem size_dec : ∀ (cs : List Nat) (ds : Array Nat), (cs.foldl (fun acc c => acc.push (c - 48)) ds).size = ds.size + cs.length
  | [], ds => rfl
  | c :: cs, ds => by
    rw [List.foldl_cons, size_dec cs (ds.push (c - 48)), Array.size_push, List.length_cons]
    omega
theorem read_dec {cs : List Nat} (h : ∀ c ∈ cs, IsDec c) (hne : cs ≠ []) (hl : cs.length ≤ 640) : (int_private% "readNumeral") 0 10 cs = (int_private% "Numeral.value") ((decNum cs : Nat) : Int) := by
  have hr : ∀ c ∈ cs.reverse, IsDec c := fun c hc => h c (List.mem_reverse.mp hc)
  refine (readNumeral_eq 0 10 cs).trans ?_
  rw [Hx.dropB (dec_hex h), Hx.signH (dec_hex h)]
  show judge 0 false (based 10 cs).1 (based 10 cs).2.1 (digits? (based 10 cs).1 (((based 10 cs).2.2.reverse.dropWhile blank).reverse)) = _
  rw [based_ten]
  show judge 0 false 10 false (digits? 10 ((cs.reverse.dropWhile blank).reverse)) = _
  rw [Hx.dropB (dec_hex hr), List.reverse_reverse, digits_dec h hne]
  have hz : ¬ ((10 : Nat) == 10 && (cs.foldl (fun acc c => acc.push (c - 48)) (#[] : Array Nat)).size > 6000) = true := by
    rw [size_dec]
    simp
    omega
  have ej : judge 0 false 10 false (some (cs.foldl (fun acc c => acc.push (c - 48)) #[])) = (if ((10 : Nat) == 10 && (cs.foldl (fun acc c => acc.push (c - 48)) (#[] : Array Nat)).size > 6000) = true then (int_private% "Numeral.byTheLibrary") else (int_private% "Numeral.value") (((cs.foldl (fun acc c => acc.push (c - 48)) (#[] : Array Nat)).foldl (fun acc d => acc * 10 + d) 0 : Nat) : Int)) := rfl
  rw [ej, if_neg hz]
  show (int_private% "Numeral.value") (((cs.foldl (fun acc c => acc.push (c - 48)) (#[] : Array Nat)).foldl (fun acc d => acc * 10 + d) 0 : Nat) : Int) = _
  have z : (#[] : Array Nat).foldl (fun acc d => acc * 10 + d) 0 = 0 := by first | rfl | simp
  rw [push_dec, z] <;> rfl
structure Hid (p : Prop) : Prop where
  out : p
set_option maxHeartbeats 4000000 in
theorem gives_dec {x : PySem.Str} {u t : Tok} (hl : x.length ≤ 640) (h : ∀ c ∈ x.cps.toList, IsDec c) (hne : x.cps.toList ≠ []) :
    Gives (Builtin.«int.__new__» ⟨[.type "int", .str x u, .int 10 t], []⟩) (.int ((decNum x.cps.toList : Nat) : Int)) :=
  .of_wp fun M A E s Q hQ => by
    obtain ⟨hp, g, d, tk, os⟩ := s
    have f1 := F.conv_sub_int
    have f2 := F.madeHere_int
    have f6 : typeOf (.str x u) = pure (.type "str") := rfl
    obtain ⟨e1, e2⟩ := Hx.seen_hex (dec_hex h)
    have hs : (numSeenOf x).length ≤ 640 := by
      rw [e2, Array.length_toList]
      exact hl
    have hr : (int_private% "readNumeral") 0 10 (numSeenOf x) = (int_private% "Numeral.value") ((decNum x.cps.toList : Nat) : Int) := by
      rw [e2]
      exact read_dec h hne (by rw [Array.length_toList]; exact hl)
    have ha : ((numSeenOf x).length == (numTextOf x).length) = true := by
      rw [e1, e2]
      exact beq_self_eq_true _
    have hk := Hid.mk (And.intro hs (And.intro hr ha))
    clear hs hr ha e1 e2 hl hne h
    repeat (any_goals (first
      | assumption
      | ((with_reducible show wpAny _ _ ((int_private% "intFromText") _ _ _) _ _ _); refine Hx.wp_textB hk.out.1 hk.out.2.1 hk.out.2.2 ?_)
      | wp_step))
    all_goals first | exact ⟨_, rfl, hQ⟩ | skip
theorem call_dec {prog : Program} {w : World} {A : Around} {E : Value → Shared → Prop} {s : Shared} {Q : Value → Shared → Prop} {x : PySem.Str} {u t : Tok} (hl : x.length ≤ 640) (h : ∀ c ∈ x.cps.toList, IsDec c) (hne : x.cps.toList ≠ [])
    (hQ : Q (.int ((decNum x.cps.toList : Nat) : Int) s.toks) { s with toks := s.toks + 1 }) : wpAny (model prog w) A (call (.type "int") [.str x u, .int 10 t]) Q E s :=
  callType_new F.called_int F.newNe_int (Hx.typeCall_int_2 _ _) (Hx.newCall_int_2 _ _) (fun obj => F.initArgs_range_2 obj _ _) F.entry_int_new (gives_dec hl h hne).meets (show (Made.int ((decNum x.cps.toList : Nat) : Int)).post _ s from ⟨rfl, hQ⟩)
/-- int(text, base) of base 10 and 16 -/
def IsB (B : Nat) (c : Nat) : Prop := if B = 16 then Hx.IsHex c else IsDec c
def numB (B : Nat) (l : List Nat) : Nat := if B = 16 then Hx.hexNum l else decNum l
theorem call_int_base {X : Cx} : CallR X (.type "int") (fun xs H Q => ∃ (l : List Nat) (B : Nat), xs = [.str (S l), .int (B : Int)] ∧ (B = 10 ∨ B = 16) ∧ l ≠ [] ∧ l.length ≤ 640 ∧ (∀ c ∈ l, IsB B c) ∧ Q (.int ((numB B l : Nat) : Int)) H) := by
  intro pins s σ H xs us Q I r h
  obtain ⟨l, B, rfl, hB, hne, hl, hx, q⟩ := h
  obtain ⟨u, w', rfl, r1, r2⟩ := vals2 r
  obtain ⟨t1, rfl⟩ := r1
  obtain ⟨t2, rfl⟩ := r2
  rcases hB with rfl | rfl
  · exact call_dec (x := S l) (by rw [S_len]; exact hl) (by rw [S_tl]; exact hx) (by rw [S_tl]; exact hne) ⟨.int ((numB 10 l : Nat) : Int), H, I.tok _, ⟨_, by rw [S_tl]; rfl⟩, q⟩
  · exact Hx.call_hex (x := S l) (by rw [S_len]; exact hl) (by rw [S_tl]; exact hx) (by rw [S_tl]; exact hne) ⟨.int ((numB 16 l : Nat) : Int), H, I.tok _, ⟨_, by rw [S_tl]; rfl⟩, q⟩
/-! strip signs at the begin -/
theorem lstrip_S (t w : List Nat) : Txt.lstripChars (S t) (S w) = S (t.drop (t.takeWhile (fun c => w.contains c)).length) := by
  have hg : (S w).cps.contains = fun c => w.contains c := by
    funext c
    simp [S]
  unfold Txt.lstripChars Txt.stripBy stripSame stripped stripLo stripHi
  rw [hg]
  simp only [if_true, Bool.false_eq_true, if_false]
  rw [S_tl, S_len]
  have key : ∀ k : Nat, strSub (S t) k t.length = S (t.drop k) := by
    intro k
    rw [S_of (strSub (S t) k t.length), strSub_toList, S_tl]
    congr 1
    exact List.take_of_length_le (by rw [List.length_drop]; omega)
  split
  · rename_i h
    have h0 : (t.takeWhile (fun c => w.contains c)).length = 0 := by
      have := (Bool.and_eq_true_iff.mp h).1
      exact eq_of_beq this
    rw [h0, List.drop_zero]
  · exact key _
end My

/-! ### joined texts -/
namespace My
open PySem PySem.Spec PyProof.Rows L2
theorem join_S (sep : List Nat) (ls : List (List Nat)) : Txt.join (S sep) (ls.map S) = S (TL.joinL sep ls) := by
  rw [TL.join_eq]
  have e := TL.tl_join (S sep) (ls.map S)
  have e2 : (ls.map S).map TL.tl = ls := by
    rw [List.map_map]
    conv => rhs; rw [← List.map_id ls]
    exact List.map_congr_left fun l _ => S_tl l
  rw [e2] at e
  have e3 : TL.tl (S sep) = sep := S_tl _
  rw [e3] at e
  rw [S_of (Str.join (S sep) (ls.map S))]
  exact congrArg S e
theorem join_nil (ls : List (List Nat)) : Txt.join (S []) (ls.map S) = S ls.flatten := by
  rw [join_S]
  congr 1
  induction ls with
  | nil => rfl
  | cons a r ih =>
    cases r with
    | nil => simp [TL.joinL]
    | cons b r =>
      show a ++ ([] ++ TL.joinL [] (b :: r)) = _
      rw [ih]
      simp
end My

namespace RM
open My PySem PySem.Spec PyProof.Rows L2
/-! ### references: what is asked, over signs -/
open PyProof.Rows (lo1 up1)
def PunL : List Nat := [33, 34, 35, 36, 38, 39, 40, 41, 42, 43, 44, 45, 46, 47, 58, 59, 60, 61, 62, 63, 64, 91, 92, 93, 94, 95, 123, 124, 125, 126, 96]
def HexL : List Nat := [48, 49, 50, 51, 52, 53, 54, 55, 56, 57, 97, 98, 99, 100, 101, 102]
def DecL : List Nat := [48, 49, 50, 51, 52, 53, 54, 55, 56, 57]
def NamesL : List (List Nat × Nat) := [([97, 109, 112], 38), ([108, 116], 60), ([103, 116], 62), ([113, 117, 111, 116], 34), ([97, 112, 111, 115], 39), ([110, 117, 109], 35), ([97, 115, 116], 42), ([108, 111, 119, 98, 97, 114], 95), ([103, 114, 97, 118, 101], 96), ([108, 115, 113, 98], 91), ([114, 115, 113, 98], 93), ([108, 112, 97, 114], 40), ([114, 112, 97, 114], 41), ([108, 99, 117, 98], 123), ([114, 99, 117, 98], 125), ([98, 115, 111, 108], 92), ([101, 120, 99, 108], 33), ([84, 97, 98], 9), ([78, 101, 119, 76, 105, 110, 101], 10)]
def escR : List Nat → Bool
  | a :: c :: _ => a == 92 && PunL.contains c
  | _ => false
def numR (B : Nat) (ds w : List Nat) : Option Nat := if w = [] then none else if (w.map lo1).all ds.contains = true then some (numB B w) else none
def sgnR (n : Nat) : Option Nat := if n = 9 ∨ n = 10 ∨ (32 ≤ n ∧ n ≤ 36) ∨ (38 ≤ n ∧ n ≤ 126) then some n else none
def meantR (w : List Nat) : Option Nat :=
  if [35, 120].isPrefixOf w || [35, 88].isPrefixOf w then (numR 16 HexL (w.drop 2)).bind sgnR
  else if [35].isPrefixOf w then (numR 10 DecL (w.drop 1)).bind sgnR
  else NamesL.lookup w
def refR (l : List Nat) : Option (Nat × Nat) :=
  if [38].isPrefixOf l then match findL [59] (l.take 10) with
    | none => none
    | some k => (meantR ((l.drop 1).take (k - 1))).map fun c => (k + 1, c)
  else none
def stepR : List Nat → Nat × Nat
  | [] => (1, 0)
  | a :: r => if escR (a :: r) = true then (2, r.headD 0) else match refR (a :: r) with
    | some x => x
    | none => (1, a)
def decF : Nat → List Nat → List Nat
  | 0, _ => []
  | n + 1, l => match l with
    | [] => []
    | a :: r => (stepR (a :: r)).2 :: decF n ((a :: r).drop (stepR (a :: r)).1)
def decR (l : List Nat) : List Nat := decF l.length l
theorem refR_pos {l : List Nat} {k c : Nat} (h : refR l = some (k, c)) : 1 ≤ k ∧ k ≤ l.length := by
  unfold refR at h
  split at h
  · cases hf : findL [59] (l.take 10) with
    | none => rw [hf] at h; cases h
    | some j =>
      rw [hf] at h
      dsimp only at h
      cases hm : meantR ((l.drop 1).take (j - 1)) with
      | none => rw [hm] at h; cases h
      | some c' =>
        rw [hm] at h
        have e := Option.some.inj h
        have e1 : j + 1 = k := congrArg Prod.fst e
        have h1 := pre_len _ _ (findL_some (by simp) hf).1
        rw [List.length_drop, List.length_take] at h1
        simp at h1
        omega
  · cases h
theorem stepR_pos (a : Nat) (r : List Nat) : 1 ≤ (stepR (a :: r)).1 ∧ (stepR (a :: r)).1 ≤ (a :: r).length := by
  show 1 ≤ (if escR (a :: r) = true then (2, r.headD 0) else match refR (a :: r) with | some x => x | none => (1, a)).1 ∧ (if escR (a :: r) = true then (2, r.headD 0) else match refR (a :: r) with | some x => x | none => (1, a)).1 ≤ _
  split
  · rename_i h
    cases r with
    | nil => cases h
    | cons b r => simp
  · cases hr : refR (a :: r) with
    | none => simp
    | some x => exact refR_pos hr
theorem decF_enough : ∀ (n : Nat) (l : List Nat), l.length ≤ n → decF n l = decF l.length l := by
  intro n
  induction n using Nat.strongRecOn with
  | _ n ih =>
    intro l h
    cases l with
    | nil => cases n <;> rfl
    | cons a r =>
      cases n with
      | zero => simp at h
      | succ n =>
        have hp := (stepR_pos a r).1
        have hd : ((a :: r).drop (stepR (a :: r)).1).length ≤ r.length := by
          rw [List.length_drop, List.length_cons]
          omega
        have hr : r.length ≤ n := by simp at h; omega
        show (stepR (a :: r)).2 :: decF n ((a :: r).drop (stepR (a :: r)).1) = (stepR (a :: r)).2 :: decF r.length ((a :: r).drop (stepR (a :: r)).1)
        congr 1
        rw [ih n (Nat.lt_succ_self n) _ (Nat.le_trans hd hr)]
        by_cases e : r.length = n
        · rw [e]
          exact (ih n (Nat.lt_succ_self n) _ (by omega)).symm
        · exact (ih r.length (by omega) _ hd).symm
theorem decR_cons (a : Nat) (r : List Nat) : decR (a :: r) = (stepR (a :: r)).2 :: decR ((a :: r).drop (stepR (a :: r)).1) := by
  show (stepR (a :: r)).2 :: decF r.length ((a :: r).drop (stepR (a :: r)).1) = _
  congr 1
  have hp := (stepR_pos a r).1
  exact decF_enough _ _ (by rw [List.length_drop, List.length_cons]; omega)
theorem decR_nil : decR [] = [] := rfl
/-! a reference with all its signs -/
theorem find_pre {a : List Nat} (h : 59 ∉ a) (r : List Nat) : findL [59] (a ++ r) = (findL [59] r).map (· + a.length) := by
  induction a with
  | nil => cases h : findL [59] r <;> simp [h]
  | cons x a ih =>
    have hx : x ≠ 59 := fun e => h (by simp [e])
    have h2 : 59 ∉ a := fun e => h (by simp [e])
    show (if ([59] : List Nat).isPrefixOf (x :: (a ++ r)) = true then some 0 else (findL [59] (a ++ r)).map (· + 1)) = _
    rw [if_neg (by simp [List.isPrefixOf]; exact fun e => hx e.symm), ih h2, List.length_cons]
    cases findL [59] r <;> simp
    omega
theorem find_not {a : List Nat} (h : 59 ∉ a) : findL [59] a = none := by
  have := find_pre h []
  rw [List.append_nil] at this
  rw [this]
  rfl
theorem ref_at {a : List Nat} (h : 59 ∉ a) (r : List Nat) : refR (38 :: (a ++ 59 :: r)) = if a.length ≤ 8 then (meantR a).map (fun c => (a.length + 2, c)) else none := by
  unfold refR
  rw [if_pos (by rfl)]
  by_cases hl : a.length ≤ 8
  · rw [if_pos hl]
    have e1 : (38 :: (a ++ 59 :: r)).take 10 = (38 :: a) ++ (59 :: r.take (8 - a.length)) := by
      rw [List.take_succ_cons, List.take_append, List.take_of_length_le (by omega)]
      rw [show 9 - a.length = (8 - a.length) + 1 by omega, List.take_succ_cons]
      rfl
    have h38 : 59 ∉ 38 :: a := by simp [h]
    rw [e1, find_pre h38]
    have e2 : findL [59] (59 :: r.take (8 - a.length)) = some 0 := rfl
    rw [e2]
    show (meantR ((a ++ 59 :: r).take (0 + (38 :: a).length - 1))).map (fun c => (0 + (38 :: a).length + 1, c)) = _
    rw [List.length_cons, Nat.zero_add, Nat.add_sub_cancel, List.take_left]
  · rw [if_neg hl]
    have e1 : (38 :: (a ++ 59 :: r)).take 10 = 38 :: (a.take 9) := by
      rw [List.take_succ_cons, List.take_append, show 9 - a.length = 0 by omega, List.take_zero, List.append_nil]
    have : 59 ∉ 38 :: a.take 9 := by
      intro z
      rcases List.mem_cons.mp z with z | z
      · cases z
      · exact h (List.mem_of_mem_take z)
    rw [e1, find_not this]
theorem lo1_blank {w ds : List Nat} (h : 32 ∈ w) (hd : 32 ∉ ds) (B : Nat) : numR B ds w = none := by
  unfold numR
  split
  · rfl
  · split
    · rename_i h2
      rw [List.all_eq_true] at h2
      have := h2 32 (List.mem_map.mpr ⟨32, h, rfl⟩)
      exact absurd (by simpa using this) hd
    · rfl
theorem names_blank : ∀ p ∈ NamesL, 32 ∉ p.1 := by decide
theorem lookup_blank {w : List Nat} (h : 32 ∈ w) : ∀ {ps : List (List Nat × Nat)}, (∀ p ∈ ps, 32 ∉ p.1) → ps.lookup w = none
  | [], _ => rfl
  | p :: ps, hp => by
    rw [List.lookup_cons]
    have h1 := hp p (List.mem_cons_self ..)
    have e : (w == p.1) = false := beq_eq_false_iff_ne.mpr fun e => h1 (e ▸ h)
    rw [e]
    exact lookup_blank h fun q hq => hp q (List.mem_cons_of_mem _ hq)
theorem meant_blank {w : List Nat} (h : 32 ∈ w) : meantR w = none := by
  unfold meantR
  have h1 : ∀ {x : List Nat}, x.isPrefixOf w = true → 32 ∉ x → 32 ∈ w.drop x.length := by
    intro x hx hn
    obtain ⟨s, rfl⟩ := List.isPrefixOf_iff_prefix.mp hx
    rw [List.drop_left]
    rcases List.mem_append.mp h with z | z
    · exact absurd z hn
    · exact z
  split
  · rename_i h2
    have h3 : 32 ∈ w.drop 2 := by
      rcases Bool.or_eq_true_iff.mp h2 with z | z
      · exact h1 z (by decide)
      · exact h1 z (by decide)
    rw [lo1_blank h3 (by decide)]
    rfl
  · split
    · rename_i h2
      have h3 : 32 ∈ w.drop 1 := h1 h2 (by decide)
      rw [lo1_blank h3 (by decide)]
      rfl
    · exact lookup_blank h names_blank
theorem ref_blank {a : List Nat} (h : 59 ∉ a) (r : List Nat) : refR (38 :: (a ++ 32 :: r)) = none := by
  unfold refR
  rw [if_pos (by rfl)]
  cases hf : findL [59] ((38 :: (a ++ 32 :: r)).take 10) with
  | none => rfl
  | some k =>
    dsimp only
    have h1 := (findL_some (by simp) hf).1
    have hk : a.length + 1 < k := by
      by_cases hk : k ≤ a.length + 1
      · exfalso
        rw [List.isPrefixOf_iff_prefix] at h1
        obtain ⟨s, hs⟩ := h1
        rw [List.drop_take] at hs
        have : 59 ∈ ((38 :: (a ++ 32 :: r)).drop k).take (10 - k) := by rw [← hs]; simp
        have e : (38 :: (a ++ 32 :: r))[k]? = some 59 := by
          have e2 : (((38 :: (a ++ 32 :: r)).drop k).take (10 - k))[0]? = some 59 := by rw [← hs]; rfl
          rw [List.getElem?_take] at e2
          split at e2
          · rw [List.getElem?_drop] at e2
            simpa using e2
          · cases e2
        cases k with
        | zero => cases e
        | succ k =>
          rw [List.getElem?_cons_succ] at e
          by_cases h2 : k < a.length
          · rw [List.getElem?_append_left h2] at e
            exact h (List.mem_of_getElem? e)
          · rw [List.getElem?_append_right (by omega), show k - a.length = 0 by omega] at e
            cases e
      · omega
    rw [meant_blank]
    · rfl
    · show 32 ∈ (a ++ 32 :: r).take (k - 1)
      rw [List.take_append, show k - 1 - a.length = (k - 2 - a.length) + 1 by omega, List.take_succ_cons]
      simp
theorem ref_end {a : List Nat} (h : 59 ∉ a) : refR (38 :: a) = none := by
  unfold refR
  rw [if_pos (by rfl)]
  have : 59 ∉ (38 :: a).take 10 := fun z => by
    rcases List.mem_cons.mp (List.mem_of_mem_take z) with z | z
    · cases z
    · exact h z
  rw [find_not this]
/-! signs that stay -/
theorem dec_plain {c : Nat} (h1 : c ≠ 38) (h2 : c ≠ 92) (r : List Nat) : decR (c :: r) = c :: decR r := by
  rw [decR_cons]
  have e1 : escR (c :: r) = false := by
    cases r with
    | nil => rfl
    | cons b r =>
      show (c == 92 && PunL.contains b) = false
      rw [beq_eq_false_iff_ne.mpr h2]
      rfl
  have e2 : refR (c :: r) = none := by
    unfold refR
    rw [if_neg]
    simp [List.isPrefixOf]
    exact fun e => h1 e.symm
  have e : stepR (c :: r) = (1, c) := by
    show (if escR (c :: r) = true then (2, r.headD 0) else match refR (c :: r) with | some x => x | none => (1, c)) = _
    rw [e1, e2]
    rfl
  rw [e]
  rfl
theorem dec_plains : ∀ {a : List Nat}, 38 ∉ a → 92 ∉ a → ∀ r, decR (a ++ r) = a ++ decR r
  | [], _, _, _ => rfl
  | c :: a, h1, h2, r => by
    show decR (c :: (a ++ r)) = c :: (a ++ decR r)
    rw [dec_plain (fun e => h1 (by simp [e])) (fun e => h2 (by simp [e])), dec_plains (fun e => h1 (by simp [e])) (fun e => h2 (by simp [e]))]
theorem dec_amp {r : List Nat} (h : refR (38 :: r) = none) : decR (38 :: r) = 38 :: decR r := by
  rw [decR_cons]
  have e1 : escR (38 :: r) = false := by cases r <;> rfl
  have e : stepR (38 :: r) = (1, 38) := by
    show (if escR (38 :: r) = true then (2, r.headD 0) else match refR (38 :: r) with | some x => x | none => (1, 38)) = _
    rw [e1, h]
    rfl
  rw [e]
  rfl
theorem dec_ref {r : List Nat} {k c : Nat} (h : refR (38 :: r) = some (k, c)) : decR (38 :: r) = c :: decR ((38 :: r).drop k) := by
  rw [decR_cons]
  have e1 : escR (38 :: r) = false := by cases r <;> rfl
  have e : stepR (38 :: r) = (k, c) := by
    show (if escR (38 :: r) = true then (2, r.headD 0) else match refR (38 :: r) with | some x => x | none => (1, 38)) = _
    rw [e1, h]
    rfl
  rw [e]
theorem dec_esc {c : Nat} (h : PunL.contains c = true) (r : List Nat) : decR (92 :: c :: r) = c :: decR r := by
  rw [decR_cons]
  have e1 : escR (92 :: c :: r) = true := by
    show ((92 : Nat) == 92 && PunL.contains c) = true
    rw [h]
    rfl
  have e : stepR (92 :: c :: r) = (2, c) := by
    show (if escR (92 :: c :: r) = true then (2, (c :: r).headD 0) else match refR (92 :: c :: r) with | some x => x | none => (1, 92)) = _
    rw [e1]
    rfl
  rw [e]
  rfl
theorem dec_back {r : List Nat} (h : escR (92 :: r) = false) : decR (92 :: r) = 92 :: decR r := by
  rw [decR_cons]
  have e2 : refR (92 :: r) = none := rfl
  have e : stepR (92 :: r) = (1, 92) := by
    show (if escR (92 :: r) = true then (2, r.headD 0) else match refR (92 :: r) with | some x => x | none => (1, 92)) = _
    rw [h, e2]
    rfl
  rw [e]
  rfl
/-! drawn references -/
def RefOk (a : List Nat) (sg : Option Nat) : Prop := 59 ∉ a ∧ 38 ∉ a ∧ 92 ∉ a ∧ (∀ c ∈ a, c < 128) ∧ a.length ≤ 20 ∧ (if a.length ≤ 8 then meantR a else none) = sg
def refOkB (a : List Nat) (sg : Option Nat) : Bool := a.all (fun c => c != 59 && c != 38 && c != 92 && decide (c < 128)) && decide (a.length ≤ 20) && decide ((if a.length ≤ 8 then meantR a else none) = sg)
theorem refOk_of {a : List Nat} {sg : Option Nat} (h : refOkB a sg = true) : RefOk a sg := by
  unfold refOkB at h
  rw [Bool.and_eq_true, Bool.and_eq_true, List.all_eq_true] at h
  obtain ⟨⟨h1, h2⟩, h3⟩ := h
  have h4 : ∀ c ∈ a, c ≠ 59 ∧ c ≠ 38 ∧ c ≠ 92 ∧ c < 128 := fun c hc => by
    have := h1 c hc
    simp at this
    exact ⟨this.1.1.1, this.1.1.2, this.1.2, this.2⟩
  exact ⟨fun z => (h4 _ z).1 rfl, fun z => (h4 _ z).2.1 rfl, fun z => (h4 _ z).2.2.1 rfl, fun c hc => (h4 c hc).2.2.2, of_decide_eq_true h2, of_decide_eq_true h3⟩
/-- a reference, whatever stands behind -/
theorem ok_ref {a : List Nat} {sg : Option Nat} (h : RefOk a sg) (r : List Nat) : refR (38 :: (a ++ 59 :: r)) = sg.map fun c => (a.length + 2, c) := by
  obtain ⟨h1, _, _, _, _, h2⟩ := h
  rw [ref_at h1, ← h2]
  split <;> rfl
/-- what it means in a text -/
def meaning (a : List Nat) (sg : Option Nat) : List Nat := match sg with
  | some c => [c]
  | none => 38 :: (a ++ [59])
/-- a piece of a text: a blank, or nothing, behind it -/
def Piece (x m : List Nat) : Prop := (∀ r, decR (x ++ 32 :: r) = m ++ decR (32 :: r)) ∧ decR x = m
theorem ok_piece {a : List Nat} {sg : Option Nat} (h : RefOk a sg) : Piece (38 :: (a ++ [59])) (meaning a sg) := by
  have key : ∀ r, decR (38 :: (a ++ 59 :: r)) = meaning a sg ++ decR r := by
    intro r
    have e := ok_ref h r
    cases sg with
    | none =>
      rw [dec_amp e, dec_plains h.2.1 h.2.2.1, dec_plain (by decide) (by decide)]
      simp [meaning]
    | some c =>
      rw [dec_ref e]
      have : (38 :: (a ++ 59 :: r)).drop (a.length + 2) = r := by
        rw [List.drop_succ_cons, List.drop_append, List.drop_of_length_le (by omega), show a.length + 1 - a.length = 1 by omega]
        rfl
      rw [this]
      rfl
  refine ⟨fun r => ?_, ?_⟩
  · have := key (32 :: r)
    simpa using this
  · have := key []
    rw [decR_nil, List.append_nil] at this
    exact this
theorem piece_joined : ∀ {xs : List (List Nat × List Nat)}, (∀ p ∈ xs, Piece p.1 p.2) → decR (TL.joinL [32] (xs.map Prod.fst)) = TL.joinL [32] (xs.map Prod.snd)
  | [], _ => rfl
  | [p], h => (h p (List.mem_cons_self ..)).2
  | p :: q :: r, h => by
    have ih := piece_joined (xs := q :: r) fun z hz => h z (List.mem_cons_of_mem _ hz)
    show decR (p.1 ++ ([32] ++ TL.joinL [32] ((q :: r).map Prod.fst))) = p.2 ++ ([32] ++ TL.joinL [32] ((q :: r).map Prod.snd))
    rw [show [32] ++ TL.joinL [32] ((q :: r).map Prod.fst) = 32 :: TL.joinL [32] ((q :: r).map Prod.fst) from rfl, (h p (List.mem_cons_self ..)).1, dec_plain (by decide) (by decide), ih]
    rfl
/-- the other pieces -/
def PieceMenu : List (List Nat × List Nat) := [([97], [97]), ([32], [32]), ([10], [10]), ([92, 42], [42]), ([92, 92], [92]), ([92, 38], [38]), ([92, 97], [92, 97]), ([92, 59], [59]), ([42], [42]), ([38, 32], [38, 32]), ([38, 35, 59], [38, 35, 59]), ([38, 120, 59], [38, 120, 59]), ([38, 97, 109, 112], [38, 97, 109, 112]), ([38, 65, 77, 80, 59], [38, 65, 77, 80, 59]), ([92, 32], [92, 32]), ([38, 35, 120, 59], [38, 35, 120, 59]), ([38, 59], [38, 59]), ([98], [98]), ([92, 10], [92, 10])]
theorem p_plain {x : List Nat} (h1 : 38 ∉ x) (h2 : 92 ∉ x) : Piece x x := ⟨fun r => dec_plains h1 h2 _, by have := dec_plains h1 h2 []; simpa [decR_nil] using this⟩
theorem p_esc {c : Nat} (h : PunL.contains c = true) : Piece [92, c] [c] := ⟨fun r => dec_esc h _, dec_esc h []⟩
theorem p_back {c : Nat} (h : PunL.contains c = false) (h1 : c ≠ 38) (h2 : c ≠ 92) : Piece [92, c] [92, c] := by
  have e : ∀ r, decR (92 :: c :: r) = 92 :: c :: decR r := fun r => by
    rw [dec_back (by show ((92 : Nat) == 92 && PunL.contains c) = false; rw [h]; rfl), dec_plain h1 h2]
  exact ⟨fun r => e _, e []⟩
theorem p_ref {a : List Nat} (h : RefOk a none) : Piece (38 :: (a ++ [59])) (38 :: (a ++ [59])) := ok_piece h
theorem p_open {a : List Nat} (h : 59 ∉ a) (h1 : 38 ∉ a) (h2 : 92 ∉ a) : Piece (38 :: a) (38 :: a) :=
  ⟨fun r => by
    show decR (38 :: (a ++ 32 :: r)) = 38 :: (a ++ decR (32 :: r))
    rw [dec_amp (ref_blank h r), dec_plains h1 h2], by
    rw [dec_amp (ref_end h)]
    have := dec_plains h1 h2 []
    rw [List.append_nil, decR_nil, List.append_nil] at this
    rw [this]⟩
theorem piece_menu : ∀ p ∈ PieceMenu, Piece p.1 p.2 := by
  intro p hp
  unfold PieceMenu at hp
  simp only [List.mem_cons, List.not_mem_nil, or_false] at hp
  rcases hp with rfl | rfl | rfl | rfl | rfl | rfl | rfl | rfl | rfl | rfl | rfl | rfl | rfl | rfl | rfl | rfl | rfl | rfl | rfl
  · exact p_plain (by decide) (by decide)
  · exact p_plain (by decide) (by decide)
  · exact p_plain (by decide) (by decide)
  · exact p_esc (by decide)
  · exact p_esc (by decide)
  · exact p_esc (by decide)
  · exact p_back (by decide) (by decide) (by decide)
  · exact p_esc (by decide)
  · exact p_plain (by decide) (by decide)
  · exact p_open (a := [32]) (by decide) (by decide) (by decide)
  · exact p_ref (a := [35]) (refOk_of (by decide +kernel))
  · exact p_ref (a := [120]) (refOk_of (by decide +kernel))
  · exact p_open (a := [97, 109, 112]) (by decide) (by decide) (by decide)
  · exact p_ref (a := [65, 77, 80]) (refOk_of (by decide +kernel))
  · exact p_back (by decide) (by decide) (by decide)
  · exact p_ref (a := [35, 120]) (refOk_of (by decide +kernel))
  · exact p_ref (a := []) (refOk_of (by decide +kernel))
  · exact p_plain (by decide) (by decide)
  · exact p_back (by decide) (by decide) (by decide)

end RM
namespace K14
open PySem PySem.Spec PyProof.Rows L2 My RM
def topS (i : Nat) : Stmt := PySem.Challenge.pw_plainmark_k14_references_and_decoding.main.body.getD i (.Pass ⟨0, 0, 0, 0⟩)
abbrev s_is_escape : Stmt := topS 2
abbrev s_reference_at : Stmt := topS 7
abbrev s_decoded : Stmt := topS 8
abbrev s_decoded_at : Stmt := topS 9
abbrev s_sign_meant : Stmt := topS 10
abbrev s_number_in : Stmt := topS 11
abbrev s_sign_of : Stmt := topS 12
abbrev s__law_well : Stmt := topS 14
abbrev s__law_draw : Stmt := topS 15
abbrev s__law_one : Stmt := topS 16
abbrev s__law_names : Stmt := topS 17
abbrev s__law_signs : Stmt := topS 18
abbrev s__law_sign : Stmt := topS 19
abbrev s__law_sixteens : Stmt := topS 20
abbrev s__law_reference : Stmt := topS 21
abbrev s__law_piece : Stmt := topS 22
abbrev s_law : Stmt := topS 23
theorem sc_is_escape : FnScope ["text", "place"] ["text", "place"] (defScope s_is_escape) := ⟨rfl, rfl, rfl, by decide +kernel, rfl, by decide +kernel, by decide +kernel⟩
theorem sc_reference_at : FnScope ["text", "place", "end", "sign"] ["text", "place"] (defScope s_reference_at) := ⟨rfl, rfl, rfl, by decide +kernel, rfl, by decide +kernel, by decide +kernel⟩
theorem sc_decoded : FnScope ["text", "signs", "place", "sign"] ["text"] (defScope s_decoded) := ⟨rfl, rfl, rfl, by decide +kernel, rfl, by decide +kernel, by decide +kernel⟩
theorem sc_decoded_at : FnScope ["text", "place", "reference"] ["text", "place"] (defScope s_decoded_at) := ⟨rfl, rfl, rfl, by decide +kernel, rfl, by decide +kernel, by decide +kernel⟩
theorem sc_sign_meant : FnScope ["words"] ["words"] (defScope s_sign_meant) := ⟨rfl, rfl, rfl, by decide +kernel, rfl, by decide +kernel, by decide +kernel⟩
theorem sc_number_in : FnScope ["digits", "signs", "base", "digit"] ["digits", "signs", "base"] (defScope s_number_in) := ⟨rfl, rfl, rfl, by decide +kernel, rfl, by decide +kernel, by decide +kernel⟩
theorem sc_sign_of : FnScope ["number", "begin", "signs"] ["number"] (defScope s_sign_of) := ⟨rfl, rfl, rfl, by decide +kernel, rfl, by decide +kernel, by decide +kernel⟩
theorem sc__law_well : FnScope ["_law_cell"] ["_law_cell"] (defScope s__law_well) := ⟨rfl, rfl, rfl, by decide +kernel, rfl, by decide +kernel, by decide +kernel⟩
theorem sc__law_draw : FnScope ["_law_well_here", "_law_many", "_law_digit", "_law_number", "_law_more"] ["_law_well_here", "_law_many"] (defScope s__law_draw) := ⟨rfl, rfl, rfl, by decide +kernel, rfl, by decide +kernel, by decide +kernel⟩
theorem sc__law_one : FnScope ["_law_well_here", "_law_some"] ["_law_well_here", "_law_some"] (defScope s__law_one) := ⟨rfl, rfl, rfl, by decide +kernel, rfl, by decide +kernel, by decide +kernel⟩
theorem sc__law_names : FnScope ["_law_found"] [] (defScope s__law_names) := ⟨rfl, rfl, rfl, by decide +kernel, rfl, by decide +kernel, by decide +kernel⟩
theorem sc__law_signs : FnScope ["_law_found"] [] (defScope s__law_signs) := ⟨rfl, rfl, rfl, by decide +kernel, rfl, by decide +kernel, by decide +kernel⟩
theorem sc__law_sign : FnScope ["_law_number"] ["_law_number"] (defScope s__law_sign) := ⟨rfl, rfl, rfl, by decide +kernel, rfl, by decide +kernel, by decide +kernel⟩
theorem sc__law_sixteens : FnScope ["_law_number", "_law_found", "_law_k"] ["_law_number"] (defScope s__law_sixteens) := ⟨rfl, rfl, rfl, by decide +kernel, rfl, by decide +kernel, by decide +kernel⟩
theorem sc__law_reference : FnScope ["_law_well_here", "_law_way", "_law_names_here", "_law_name", "_law_bad", "_law_number", "_law_zeros", "_law_digits", "_law_good"] ["_law_well_here"] (defScope s__law_reference) := ⟨rfl, rfl, rfl, by decide +kernel, rfl, by decide +kernel, by decide +kernel⟩
theorem sc__law_piece : FnScope ["_law_well_here", "_law_way", "_law_text", "_law_sign_here", "_law_some"] ["_law_well_here"] (defScope s__law_piece) := ⟨rfl, rfl, rfl, by decide +kernel, rfl, by decide +kernel, by decide +kernel⟩
theorem sc_law : FnScope ["_law_script", "_law_cell", "_law_well_here", "_law_k", "_law_text", "_law_sign_here", "_law_ahead", "_law_due", "_law_pieces", "_law_is_plain", "_law_names_here", "_law_name", "_law_piece_here"] ["_law_script"] (defScope s_law) := ⟨rfl, rfl, rfl, by decide +kernel, rfl, by decide +kernel, by decide +kernel⟩
structure Txt (w : World) (K : PySem.W.Frag) (mg : Str → Option Value) where
  a_is_escape : Addr
  d_is_escape : FuncData
  f_is_escape : Fun K "is_escape" "is_escape" s_is_escape a_is_escape d_is_escape
  g_is_escape : mg "is_escape" = some (.ref a_is_escape)
  b_is_escape : Binds K d_is_escape ["text", "place"] []
  a_reference_at : Addr
  d_reference_at : FuncData
  f_reference_at : Fun K "reference_at" "reference_at" s_reference_at a_reference_at d_reference_at
  g_reference_at : mg "reference_at" = some (.ref a_reference_at)
  b_reference_at : Binds K d_reference_at ["text", "place"] []
  a_decoded : Addr
  d_decoded : FuncData
  f_decoded : Fun K "decoded" "decoded" s_decoded a_decoded d_decoded
  g_decoded : mg "decoded" = some (.ref a_decoded)
  b_decoded : Binds K d_decoded ["text"] []
  a_decoded_at : Addr
  d_decoded_at : FuncData
  f_decoded_at : Fun K "decoded_at" "decoded_at" s_decoded_at a_decoded_at d_decoded_at
  g_decoded_at : mg "decoded_at" = some (.ref a_decoded_at)
  b_decoded_at : Binds K d_decoded_at ["text", "place"] []
  a_sign_meant : Addr
  d_sign_meant : FuncData
  f_sign_meant : Fun K "sign_meant" "sign_meant" s_sign_meant a_sign_meant d_sign_meant
  g_sign_meant : mg "sign_meant" = some (.ref a_sign_meant)
  b_sign_meant : Binds K d_sign_meant ["words"] []
  a_number_in : Addr
  d_number_in : FuncData
  f_number_in : Fun K "number_in" "number_in" s_number_in a_number_in d_number_in
  g_number_in : mg "number_in" = some (.ref a_number_in)
  b_number_in : Binds K d_number_in ["digits", "signs", "base"] []
  a_sign_of : Addr
  d_sign_of : FuncData
  f_sign_of : Fun K "sign_of" "sign_of" s_sign_of a_sign_of d_sign_of
  g_sign_of : mg "sign_of" = some (.ref a_sign_of)
  b_sign_of : Binds K d_sign_of ["number"] []
  a__law_well : Addr
  d__law_well : FuncData
  f__law_well : Fun K "_law_well" "_law_well" s__law_well a__law_well d__law_well
  g__law_well : mg "_law_well" = some (.ref a__law_well)
  b__law_well : Binds K d__law_well ["_law_cell"] []
  a__law_draw : Addr
  d__law_draw : FuncData
  f__law_draw : Fun K "_law_draw" "_law_draw" s__law_draw a__law_draw d__law_draw
  g__law_draw : mg "_law_draw" = some (.ref a__law_draw)
  b__law_draw : Binds K d__law_draw ["_law_well_here", "_law_many"] []
  a__law_one : Addr
  d__law_one : FuncData
  f__law_one : Fun K "_law_one" "_law_one" s__law_one a__law_one d__law_one
  g__law_one : mg "_law_one" = some (.ref a__law_one)
  b__law_one : Binds K d__law_one ["_law_well_here", "_law_some"] []
  a__law_names : Addr
  d__law_names : FuncData
  f__law_names : Fun K "_law_names" "_law_names" s__law_names a__law_names d__law_names
  g__law_names : mg "_law_names" = some (.ref a__law_names)
  b__law_names : Binds K d__law_names [] []
  a__law_signs : Addr
  d__law_signs : FuncData
  f__law_signs : Fun K "_law_signs" "_law_signs" s__law_signs a__law_signs d__law_signs
  g__law_signs : mg "_law_signs" = some (.ref a__law_signs)
  b__law_signs : Binds K d__law_signs [] []
  a__law_sign : Addr
  d__law_sign : FuncData
  f__law_sign : Fun K "_law_sign" "_law_sign" s__law_sign a__law_sign d__law_sign
  g__law_sign : mg "_law_sign" = some (.ref a__law_sign)
  b__law_sign : Binds K d__law_sign ["_law_number"] []
  a__law_sixteens : Addr
  d__law_sixteens : FuncData
  f__law_sixteens : Fun K "_law_sixteens" "_law_sixteens" s__law_sixteens a__law_sixteens d__law_sixteens
  g__law_sixteens : mg "_law_sixteens" = some (.ref a__law_sixteens)
  b__law_sixteens : Binds K d__law_sixteens ["_law_number"] []
  a__law_reference : Addr
  d__law_reference : FuncData
  f__law_reference : Fun K "_law_reference" "_law_reference" s__law_reference a__law_reference d__law_reference
  g__law_reference : mg "_law_reference" = some (.ref a__law_reference)
  b__law_reference : Binds K d__law_reference ["_law_well_here"] []
  a__law_piece : Addr
  d__law_piece : FuncData
  f__law_piece : Fun K "_law_piece" "_law_piece" s__law_piece a__law_piece d__law_piece
  g__law_piece : mg "_law_piece" = some (.ref a__law_piece)
  b__law_piece : Binds K d__law_piece ["_law_well_here"] []
  z_all : mg "all" = none
  z_int : mg "int" = none
  z_len : mg "len" = none
  z_range : mg "range" = none
  z_sorted : mg "sorted" = none
  z_str : mg "str" = none
  t_PUNCTUATION : Tok
  g_PUNCTUATION : mg "PUNCTUATION" = some (.str "!\"#$&'()*+,-./:;<=>?\x40[\\]^_{|}~`" t_PUNCTUATION)
  a_NAMES : Addr
  g_NAMES : mg "NAMES" = some (.ref a_NAMES)
  k_NAMES : KDictS K w a_NAMES [("amp", .str "&"), ("lt", .str "<"), ("gt", .str ">"), ("quot", .str "\""), ("apos", .str "'"), ("num", .str "#"), ("ast", .str "*"), ("lowbar", .str "_"), ("grave", .str "`"), ("lsqb", .str "["), ("rsqb", .str "]"), ("lpar", .str "("), ("rpar", .str ")"), ("lcub", .str "{"), ("rcub", .str "}"), ("bsol", .str "\\"), ("excl", .str "!"), ("Tab", .str "\t"), ("NewLine", .str "\n")]
  a_SIGN_ROWS : Addr
  (e_SIGN_ROWS_0 e_SIGN_ROWS_1 e_SIGN_ROWS_2 : Addr)
  o_SIGN_ROWS : Option Addr
  n_SIGN_ROWS : Nat
  w_SIGN_ROWS : Array (Option Value)
  g_SIGN_ROWS : mg "SIGN_ROWS" = some (.ref a_SIGN_ROWS)
  l_SIGN_ROWS : K.lookup a_SIGN_ROWS = some ⟨.type "tuple", o_SIGN_ROWS, .seq #[.ref e_SIGN_ROWS_0, .ref e_SIGN_ROWS_1, .ref e_SIGN_ROWS_2] n_SIGN_ROWS, w_SIGN_ROWS⟩
  o_SIGN_ROWS_0 : Option Addr
  n_SIGN_ROWS_0 : Nat
  w_SIGN_ROWS_0 : Array (Option Value)
  (u_SIGN_ROWS_0_0 u_SIGN_ROWS_0_1 : Tok)
  l_SIGN_ROWS_0 : K.lookup e_SIGN_ROWS_0 = some ⟨.type "tuple", o_SIGN_ROWS_0, .seq #[.int 9 u_SIGN_ROWS_0_0, .str "\t\n" u_SIGN_ROWS_0_1] n_SIGN_ROWS_0, w_SIGN_ROWS_0⟩
  o_SIGN_ROWS_1 : Option Addr
  n_SIGN_ROWS_1 : Nat
  w_SIGN_ROWS_1 : Array (Option Value)
  (u_SIGN_ROWS_1_0 u_SIGN_ROWS_1_1 : Tok)
  l_SIGN_ROWS_1 : K.lookup e_SIGN_ROWS_1 = some ⟨.type "tuple", o_SIGN_ROWS_1, .seq #[.int 32 u_SIGN_ROWS_1_0, .str " !\"#$" u_SIGN_ROWS_1_1] n_SIGN_ROWS_1, w_SIGN_ROWS_1⟩
  o_SIGN_ROWS_2 : Option Addr
  n_SIGN_ROWS_2 : Nat
  w_SIGN_ROWS_2 : Array (Option Value)
  (u_SIGN_ROWS_2_0 u_SIGN_ROWS_2_1 : Tok)
  l_SIGN_ROWS_2 : K.lookup e_SIGN_ROWS_2 = some ⟨.type "tuple", o_SIGN_ROWS_2, .seq #[.int 38 u_SIGN_ROWS_2_0, .str "&'()*+,-./0123456789:;<=>?@ABCDEFGHIJKLMNOPQRSTUVWXYZ[\\]^_`abcdefghijklmnopqrstuvwxyz{|}~" u_SIGN_ROWS_2_1] n_SIGN_ROWS_2, w_SIGN_ROWS_2⟩
  t_LONGEST : Tok
  g_LONGEST : mg "LONGEST" = some (.int 10 t_LONGEST)
/-! ### the draws -/
def sp__law_well (K : PySem.W.Frag) : Sp := fun vs H Q _ => ∃ n : Int, vs = [.int n] ∧ ∀ p, H p = none → Q (.ref p) (upd H p (.lst [.int n, .int 0]))
theorem ok__law_well {P : Program} {w : World} {K : PySem.W.Frag} {mg : Str → Option Value} {base : Heap} (T : Txt w K mg) : FnOk P w K mg base CX0 1 T.a__law_well T.d__law_well ["_law_cell"] (sp__law_well K) := by
  refine T.f__law_well.ok sc__law_well (fun vs H Q E h => ?_) (fun cdv A outer s H vs Q E hr h => ?_)
  · obtain ⟨n, rfl, _⟩ := h
    rfl
  · obtain ⟨n, rfl, q⟩ := h
    refine ⟨_, (pss_one (ps_ret (pe_lst (pa_cons (pe_callTy call_int1 (by rfl) T.z_int (by decide +kernel) (pa_cons (pv 0) pa_nil)) (pa_cons pe_int pa_nil))))), ?_⟩
    exact ⟨_, rfl, .inl ⟨_, rfl, (by show 2 ≤ sizeLine; decide), fun p hp => q p hp⟩⟩
def sp__law_draw (K : PySem.W.Frag) : Sp := fun vs H Q _ => ∃ (L : Addr) (m : Int), vs = [.ref L, .int m] ∧ 0 < m ∧ m < 1000000 ∧ Well H L ∧
  ∀ H' d, Keeps L H H' → Well H' L → 0 ≤ d → d < m → Q (.int d) H'
theorem ok__law_draw {P : Program} {w : World} {K : PySem.W.Frag} {mg : Str → Option Value} {base : Heap} (T : Txt w K mg) : FnOk P w K mg base CX0 1 T.a__law_draw T.d__law_draw ["_law_well_here", "_law_many"] (sp__law_draw K) := by
  refine T.f__law_draw.ok sc__law_draw (fun vs H Q E h => ?_) (fun cdv A outer s H vs Q E hr h => ?_)
  · obtain ⟨L, m, rfl, _⟩ := h
    rfl
  · obtain ⟨L, m, rfl, hm0, hm1, ⟨x, y, hL⟩, q⟩ := h
    refine ⟨_, (pss_cons (ps_if (pt_cmpR op_ge (pe_ix ix_list (pv 0) pe_int (fun _ _ => rfl)) (pe_op op_pow pe_int pe_int) (nomark _)) (pss_cons (ps_set (i := 2) sc__law_draw.nd rfl (.inl rfl) (pe_op op_mod (pe_callTy call_int1 (by rfl) T.z_int (by decide +kernel) (pa_cons (pe_ix ix_list (pv 0) pe_int (fun _ _ => rfl)) pa_nil)) (pv 1)))
        (pss_cons (ps_asg (pe_op op_fdivW (pe_ix ix_list (pv 0) pe_int (fun _ _ => rfl)) (pv 1)) (pg_sub (pv 0) pe_int set_list))
        (pss_one (ps_ret (pv 2))))) pss_nil)
        (pss_cons (ps_asg (pe_op op_add (pe_ix ix_list (pv 0) pe_int (fun _ _ => rfl)) pe_int) (pg_sub (pv 0) pe_int set_list))
        (pss_cons (ps_set (i := 3) sc__law_draw.nd rfl (.inl rfl) (pe_op op_mod (pe_callTy call_int1 (by rfl) T.z_int (by decide +kernel) (pa_cons (pe_op op_mul (pe_callTy call_int1 (by rfl) T.z_int (by decide +kernel) (pa_cons (pe_op op_add (pe_op op_add (pe_op op_mod (pe_callTy call_int1 (by rfl) T.z_int (by decide +kernel) (pa_cons (pe_ix ix_list (pv 0) pe_int (fun _ _ => rfl)) pa_nil)) pe_int) (pe_op op_mul pe_int (pe_ix ix_list (pv 0) pe_int (fun _ _ => rfl)))) pe_int) pa_nil)) pe_int) pa_nil)) pe_int))
        (pss_cons (ps_set (i := 4) sc__law_draw.nd rfl (.inl rfl) (pe_op op_mod (pe_callTy call_int1 (by rfl) T.z_int (by decide +kernel) (pa_cons (pe_op op_fdivW (pe_ix ix_list (pv 0) pe_int (fun _ _ => rfl)) pe_int) pa_nil)) pe_int))
        (pss_cons (ps_set (i := 3) sc__law_draw.nd rfl (.inl rfl) (pe_op op_mod (pe_callTy call_int1 (by rfl) T.z_int (by decide +kernel) (pa_cons (pe_op op_mul (pv 3) (pe_op op_add (pe_op op_add (pe_op op_fdivW (pv 3) pe_int) pe_int) (pv 4))) pa_nil)) pe_int))
        (pss_one (ps_ret (pe_op op_mod (pe_callTy call_int1 (by rfl) T.z_int (by decide +kernel) (pa_cons (pe_op op_fdivW (pe_op op_mod (pe_callTy call_int1 (by rfl) T.z_int (by decide +kernel) (pa_cons (pe_op op_mul (pv 3) (pe_op op_add (pe_op op_fdivW (pv 3) pe_int) pe_int)) pa_nil)) pe_int) pe_int) pa_nil)) (pv 1))))))))), ?_⟩
    have a0 : ∀ x y : Int, atI [V.int x, V.int y] 0 = some (.int x) := fun x y => atI_nat (j := 0) rfl
    have a1 : ∀ x y : Int, atI [V.int x, V.int y] 1 = some (.int y) := fun x y => atI_nat (j := 1) rfl
    have wd : ∀ i j : Int, 0 < j → j < 10000000000 → CDivW i j := fun i j h1 h2 => wide_div (b := 40) h1 (by omega) (by decide) (by decide)
    refine ⟨_, rfl, L, _, _, _, rfl, rfl, SqL.of hL, a0 x y, _, _, rfl, rfl, (by refine ⟨?_, ?_, ?_⟩ <;> decide), _, _, rfl, rfl, _, rfl, ite2 (fun _ => ?_) (fun _ => ?_)⟩
    · refine ⟨_, rfl, L, _, _, _, rfl, rfl, SqL.of hL, a0 x y, .inl ⟨_, rfl, _, rfl, _, _, rfl, rfl, hm0, ?_⟩⟩
      refine ⟨_, rfl, L, _, _, _, rfl, rfl, SqL.of hL, a0 x y, _, rfl, _, _, rfl, rfl, wd _ _ hm0 (by omega), _, rfl, L, _, _, 0, rfl, rfl, hL, rfl, ?_⟩
      exact ⟨_, rfl, q _ _ .at ⟨_, _, upd_same⟩ (Int.emod_nonneg _ (by omega)) (Int.emod_lt_of_pos _ hm0)⟩
    · -- well[1] = well[1] + 1
      refine ⟨_, rfl, L, _, _, _, rfl, rfl, SqL.of hL, a1 x y, _, _, rfl, rfl, _, rfl, L, _, _, 1, rfl, rfl, hL, rfl, ?_⟩
      have k2 : Keeps L H (upd H L (.lst ([V.int x, V.int y].set 1 (.int (y + 1))))) := .at
      have hL2 : (upd H L (.lst ([V.int x, V.int y].set 1 (.int (y + 1))))) L = some (.lst [V.int x, V.int (y + 1)]) := upd_same
      generalize (upd H L (.lst ([V.int x, V.int y].set 1 (.int (y + 1))))) = H2 at hL2 k2 ⊢
      refine ⟨_, rfl, L, _, _, _, rfl, rfl, SqL.of hL2, a0 _ _, .inl ⟨_, rfl, _, _, rfl, rfl, (by show (0 : Int) < _; decide), _, rfl, L, _, _, _, rfl, rfl, SqL.of hL2, a1 _ _, _, _, rfl, rfl, .inl (by constructor <;> decide), _, _, rfl, rfl, _, _, rfl, rfl,
        .inl ⟨_, rfl, _, _, rfl, rfl, .inr (by constructor <;> decide), .inl ⟨_, rfl, _, _, rfl, rfl, (by show (0 : Int) < _; decide), ?_⟩⟩⟩⟩
      refine ⟨_, rfl, L, _, _, _, rfl, rfl, SqL.of hL2, a0 _ _, _, _, rfl, rfl, wd _ _ (by decide) (by decide), .inl ⟨_, rfl, _, _, rfl, rfl, (by show (0 : Int) < _; decide), ?_⟩⟩
      refine ⟨_, rfl, _, rfl, _, _, rfl, rfl, wd _ _ (by decide) (by decide), _, _, rfl, rfl, _, rfl, _, _, rfl, rfl, _, _, rfl, rfl, .inl (by constructor <;> omega), .inl ⟨_, rfl, _, _, rfl, rfl, (by show (0 : Int) < _; decide), ?_⟩⟩
      refine ⟨_, rfl, _, rfl, _, _, rfl, rfl, wd _ _ (by decide) (by decide), _, _, rfl, rfl, _, _, rfl, rfl, .inl (by constructor <;> omega), .inl ⟨_, rfl, _, _, rfl, rfl, (by show (0 : Int) < _; decide), _, _, rfl, rfl, wd _ _ (by decide) (by decide), .inl ⟨_, rfl, _, rfl, _, _, rfl, rfl, hm0, ?_⟩⟩⟩
      exact q _ _ k2 ⟨_, _, hL2⟩ (Int.emod_nonneg _ (by omega)) (Int.emod_lt_of_pos _ hm0)
def sp__law_one (K : PySem.W.Frag) : Sp := fun vs H Q _ => ∃ (L a : Addr) (xs : List V), vs = [.ref L, .ref a] ∧ SqL K H a xs ∧ a ≠ L ∧ xs ≠ [] ∧ xs.length < 1000000 ∧ Well H L ∧
  ∀ H' v, Keeps L H H' → Well H' L → v ∈ xs → Q v H'
theorem ok__law_one {P : Program} {w : World} {K : PySem.W.Frag} {mg : Str → Option Value} {base : Heap} (T : Txt w K mg) : FnOk P w K mg base CX0 2 T.a__law_one T.d__law_one ["_law_well_here", "_law_some"] (sp__law_one K) := by
  refine T.f__law_one.ok sc__law_one (fun vs H Q E h => ?_) (fun cdv A outer s H vs Q E hr h => ?_)
  · obtain ⟨L, a, xs, rfl, _⟩ := h
    rfl
  · obtain ⟨L, a, xs, rfl, hS, ha, hne, hlen, hW, q⟩ := h
    refine ⟨_, (pss_one (ps_ret (pe_ix ix_list (pv 1) (pe_call (ok__law_draw T) (hr.mono (by decide)) (by rfl) T.g__law_draw T.f__law_draw.kp T.b__law_draw .nil pass0 (pa_cons (pv 0) (pa_cons (pe_callB call_len_seq (by rfl) T.z_len PySem.boot_len (pa_cons (pv 1) pa_nil)) pa_nil))) (fun _ _ => rfl)))), ?_⟩
    have hpos : 0 < xs.length := List.length_pos_iff.mpr hne
    refine ⟨_, rfl, _, rfl, _, rfl, a, xs, rfl, .inl hS, L, _, rfl, by omega, by omega, hW, fun H' d k w h0 h1 => ?_⟩
    obtain ⟨j, rfl⟩ := Int.eq_ofNat_of_zero_le h0
    have hj : j < xs.length := by omega
    exact ⟨a, xs, _, xs[j], rfl, rfl, k.seq ha hS, atI_nat (List.getElem?_eq_getElem hj), q _ _ k w (List.getElem_mem hj)⟩

/-! ### a text and a place -/
theorem mem_S (c : Nat) (l : List Nat) : decide (c ∈ (S l).cps.toList) = l.contains c := by
  rw [S_tl]
  by_cases h : c ∈ l
  · rw [decide_eq_true h]
    simp [h]
  · rw [decide_eq_false h]
    simp [h]
structure TP (t : List Nat) (p : Nat) : Prop where
  le : p ≤ t.length
  sz : t.length ≤ 100000
theorem TP.line {t : List Nat} {p : Nat} (h : TP t p) : (S t).length ≤ sizeLine := by
  have := h.sz
  rw [S_len, sizeLine_eq]
  omega
theorem pre1 {t : List Nat} {p c : Nat} (h : ([c] : List Nat).isPrefixOf (t.drop p) = true) : p < t.length := by
  have := pre_len _ _ h
  rw [List.length_drop] at this
  simp at this
  omega
def Asc (t : List Nat) : Prop := ∀ c ∈ t, c < 128
theorem Asc.drop {t : List Nat} (h : Asc t) (n : Nat) : Asc (t.drop n) := fun c hc => h c (List.mem_of_mem_drop hc)
theorem Asc.take {t : List Nat} (h : Asc t) (n : Nat) : Asc (t.take n) := fun c hc => h c (List.mem_of_mem_take hc)
def iv : Option Nat → V
  | none => .non
  | some n => .int (n : Nat)
def sv : Option Nat → V
  | none => .non
  | some c => .str (S [c])

/-! ### the defs of the references -/
theorem lit_P : ("!\"#$&'()*+,-./:;<=>?\x40[\\]^_{|}~`" : Str) = S PunL := by decide +kernel
theorem lit_bs : ("\\" : Str) = S [92] := by decide +kernel
theorem lit_amp : ("&" : Str) = S [38] := by decide +kernel
theorem lit_semi : (";" : Str) = S [59] := by decide +kernel
theorem lit_hx : ("#x" : Str) = S [35, 120] := by decide +kernel
theorem lit_hX : ("#X" : Str) = S [35, 88] := by decide +kernel
theorem lit_h : ("#" : Str) = S [35] := by decide +kernel
theorem lit_0f : ("0123456789abcdef" : Str) = S HexL := by decide +kernel
theorem lit_09 : ("0123456789" : Str) = S DecL := by decide +kernel
theorem lit_e : ("" : Str) = S [] := by decide +kernel
def sp_is_escape (K : PySem.W.Frag) : Sp := fun vs H Q _ => ∃ (t : List Nat) (p : Nat), vs = [.str (S t), .int (p : Int)] ∧ TP t p ∧ Q (.bl (escR (t.drop p))) H
theorem ok_is_escape {P : Program} {w : World} {K : PySem.W.Frag} {mg : Str → Option Value} {base : Heap} (T : Txt w K mg) : FnOk P w K mg base CX0 1 T.a_is_escape T.d_is_escape ["text", "place"] (sp_is_escape K) := by
  refine T.f_is_escape.ok sc_is_escape (fun vs H Q E h => ?_) (fun cdv A outer s H vs Q E hr h => ?_)
  · obtain ⟨t, p, rfl, _⟩ := h
    rfl
  · obtain ⟨t, p, rfl, tp, q⟩ := h
    refine ⟨_, (pss_one (ps_ret (pe_and (pe_bm PySem.F.plainAttrs_str PySem.F.slot_str_startswith PySem.F.type_str_startswith mt_startswith3 (pv 0) (pa_cons pe_str (pa_cons (pv 1) pa_nil))) (pe_and (pe_cmpR op_lt (pe_op op_add (pv 1) pe_int) (pe_callB call_len_str (by rfl) T.z_len PySem.boot_len (pa_cons (pv 0) pa_nil)) (nomark _)) (pe_one (pe_cmpR op_in_sign (pe_ix ix_str (pv 0) (pe_op op_add (pv 1) pe_int) (fun _ _ => rfl)) (pe_glob (v := .str "!\"#$&'()*+,-./:;<=>?\x40[\\]^_{|}~`") rfl T.g_PUNCTUATION ⟨_, rfl⟩) (by rfl))))))), ?_⟩
    refine ⟨_, rfl, rfl, _, rfl, _, _, _, rfl, rfl, _, rfl, ?_⟩
    rw [lit_bs, starts3 t [92] (by simp) p]
    have en : ∀ {b : Bool}, escR (t.drop p) = b → Q (.bl b) H := fun e => by rw [← e]; exact q
    refine ite2 (fun h1 => ?_) (fun h1 => ?_)
    · have h2 := pre1 h1
      have hd : t.drop p = t[p] :: t.drop (p + 1) := List.drop_eq_getElem_cons h2
      have h0 : t[p] = 92 := by
        rw [hd] at h1
        simp [List.isPrefixOf] at h1
        exact h1.symm
      rw [h0] at hd
      refine ⟨_, rfl, _, _, rfl, rfl, _, rfl, _, rfl, tp.line, _, _, rfl, rfl, _, rfl, ite2 (fun h3 => ?_) (fun h3 => ?_)⟩
      · have h4 : p + 1 < t.length := by
          have := of_decide_eq_true h3
          rw [S_len] at this
          omega
        have hd2 : t.drop (p + 1) = t[p + 1] :: t.drop (p + 2) := List.drop_eq_getElem_cons h4
        refine ⟨_, rfl, _, rfl, _, _, rfl, rfl, _, _, t[p + 1], rfl, rfl, tp.line, atI_nat (j := p + 1) (by rw [S_tl]; exact List.getElem?_eq_getElem h4), t[p + 1], _, rfl, rfl, ?_⟩
        rw [lit_P, mem_S]
        exact en (by rw [hd, hd2]; rfl)
      · have h4 : t.length ≤ p + 1 := by
          have : ¬ ((p : Int) + 1 < ((S t).length : Int)) := fun z => h3 (decide_eq_true z)
          rw [S_len] at this
          omega
        exact en (by rw [hd, List.drop_of_length_le h4]; rfl)
    · refine en ?_
      cases hd : t.drop p with
      | nil => rfl
      | cons a r =>
        cases r with
        | nil => rfl
        | cons b r =>
          rw [hd] at h1
          have : (a == 92) = false := by
            rw [beq_eq_false_iff_ne]
            intro e
            exact h1 (by simp [List.isPrefixOf, e])
          show (a == 92 && PunL.contains b) = false
          rw [this]
          rfl
/-- int(digits, base) -/
theorem lower_in : ∀ {w ds : List Nat}, Asc w → ((S w).cps.toList = w) := fun _ => S_tl _
theorem dec_of0 : ∀ c, c < 128 → DecL.contains (lo1 c) = true → 48 ≤ c ∧ c ≤ 57 := by decide +kernel
theorem dec_of : ∀ c, c < 128 → DecL.contains (lo1 c) = true → IsB 10 c := fun c h1 h2 => by
  unfold IsB
  rw [if_neg (by decide)]
  exact dec_of0 c h1 h2
theorem hex_of0 : ∀ c, c < 128 → HexL.contains (lo1 c) = true → (48 ≤ c ∧ c ≤ 57) ∨ (97 ≤ c ∧ c ≤ 102) ∨ (65 ≤ c ∧ c ≤ 70) := by decide +kernel
theorem hex_of : ∀ c, c < 128 → HexL.contains (lo1 c) = true → IsB 16 c := fun c h1 h2 => by
  unfold IsB
  rw [if_pos (by decide)]
  exact hex_of0 c h1 h2
theorem b_of {B : Nat} {ds : List Nat} (hB : B = 10 ∧ ds = DecL ∨ B = 16 ∧ ds = HexL) {w : List Nat} (ha : Asc w) (h : (w.map lo1).all ds.contains = true) : ∀ c ∈ w, IsB B c := by
  rw [List.all_eq_true] at h
  intro c hc
  have h1 := h (lo1 c) (List.mem_map_of_mem hc)
  rcases hB with ⟨rfl, rfl⟩ | ⟨rfl, rfl⟩
  · exact dec_of c (ha c hc) h1
  · exact hex_of c (ha c hc) h1
def sp_number_in (K : PySem.W.Frag) : Sp := fun vs H Q _ => ∃ (w ds : List Nat) (B : Nat), vs = [.str (S w), .str (S ds), .int (B : Int)] ∧ (B = 10 ∧ ds = DecL ∨ B = 16 ∧ ds = HexL) ∧ w.length ≤ 100 ∧ Asc w ∧
  ∀ H', Same H H' → Q (iv (numR B ds w)) H'
theorem ok_number_in {P : Program} {w : World} {K : PySem.W.Frag} {mg : Str → Option Value} {base : Heap} (T : Txt w K mg) : FnOk P w K mg base CX0 1 T.a_number_in T.d_number_in ["digits", "signs", "base"] (sp_number_in K) := by
  refine T.f_number_in.ok sc_number_in (fun vs H Q E h => ?_) (fun cdv A outer s H vs Q E hr h => ?_)
  · obtain ⟨w, ds, B, rfl, _⟩ := h
    rfl
  · obtain ⟨w, ds, B, rfl, hB, hl, ha, q⟩ := h
    refine ⟨_, (pss_cons (ps_if (PW.pt (pw_or (pt_cmpR op_eq (pv 0) pe_str (nomark _)) (pw_or1 (pt_not (pt_val (pe_callB (cr_all rfl) (by rfl) T.z_all (by decide +kernel) (pa_cons (pe_lc (own := [("digit", 3)]) (g := (gName 3)) (tt := tYes) (by rfl) sc_number_in.nd (pi_str (pe_lower (pv 0))) (blkOk_by (own := [("digit", 3)]) (N := ["digits", "signs", "base", "digit"]) (sc := defScope s_number_in) (by decide +kernel)) (fun _ _ _ _ _ => (pg_name (i := 3) sc_number_in.nd rfl (Or.inl rfl))) (fun _ _ _ _ _ => pts_nil) (fun _ _ _ _ _ => (pe_cmpR op_in_sign (pv 3) (pv 1) (by rfl)))) pa_nil))))))) (pss_one (ps_ret pe_non)) pss_nil)
        (pss_one (ps_ret (pe_callTy call_int_base (by rfl) T.z_int (by decide +kernel) (pa_cons (pv 0) (pa_cons (pv 2) pa_nil)))))), ?_⟩
    refine ⟨_, rfl, rfl, _, rfl, ?_⟩
    rw [lit_e, S_dec]
    by_cases hw : w = []
    · rw [decide_eq_true hw]
      refine iteT (iteT ?_)
      have := q H (Same.refl _)
      unfold numR at this
      rw [if_pos hw] at this
      exact this
    · rw [decide_eq_false hw]
      refine iteF ?_
      refine ⟨_, rfl, ⟨_, rfl⟩, _, rfl, rfl, by rw [S_len]; omega, ?_⟩
      rw [lower_S w ha]
      refine ⟨_, rfl, fun D nD => ?_⟩
      refine lc_it (walk_str (z := S (w.map lo1))) (fun i H' => Same H H' ∧ H' D = some (.lst (((w.map lo1).take i).map fun c => V.bl (ds.contains c)))) ⟨same_new nD, by rw [upd_same]; rfl⟩ (fun _ _ _ _ => trivial) ?_ ?_
      · rintro i x H1 H2 hi ⟨sm, hD⟩ ⟨rfl, c, hc, rfl⟩
        rw [show (S (w.map lo1)).cps[i]? = (w.map lo1)[i]? by simp [S]] at hc
        refine ⟨rfl, _, rfl, _, rfl, c, _, rfl, rfl, ?_⟩
        rw [mem_S]
        refine ⟨_, hD, by rw [List.length_map, List.length_take, List.length_map, sizeLine_eq]; omega, fun b o e => ?_, ?_⟩
        · rw [upd_ne (ne_of_none e nD)]
          exact sm _ _ e
        · rw [upd_same, List.take_add_one, hc]
          simp
      · rintro H1 ⟨sm, hD⟩
        have hn : (S (w.map lo1)).cps.size = (w.map lo1).length := S_size _
        rw [hn, List.take_length] at hD
        refine ⟨D, (w.map lo1).map fun c => ds.contains c, rfl, SqL.of (by rw [List.map_map]; exact hD), ?_⟩
        have e0 : ((w.map lo1).map fun c => ds.contains c).all id = (w.map lo1).all ds.contains := by
          rw [List.all_map]
          rfl
        rw [e0]
        have q' := q H1 sm
        unfold numR at q'
        rw [if_neg hw] at q'
        refine ⟨_, rfl, ?_⟩
        cases hall : (w.map lo1).all ds.contains with
        | false =>
          rw [hall, if_neg Bool.false_ne_true] at q'
          exact iteT q'
        | true =>
          rw [hall, if_pos rfl] at q'
          refine iteF ?_
          have hb := b_of hB ha hall
          exact ⟨_, rfl, _, rfl, w, B, rfl, hB.elim (fun z => .inl z.1) (fun z => .inr z.1), hw, by omega, hb, q'⟩

theorem sq_rows0 {w : World} {K : PySem.W.Frag} {mg : Str → Option Value} (T : Txt w K mg) (H : Hp) : SqT K H T.a_SIGN_ROWS [.ref T.e_SIGN_ROWS_0, .ref T.e_SIGN_ROWS_1, .ref T.e_SIGN_ROWS_2] :=
  .inr ⟨_, _, _, T.l_SIGN_ROWS, rfl, rfl, by (show 3 ≤ sizeLine; decide), (.cons rfl (.cons rfl (.cons rfl .nil)))⟩
def RowsL : List (Nat × List Nat) := [(9, [9, 10]), (32, [32, 33, 34, 35, 36]), (38, (List.range 89).map (· + 38))]
theorem lit_r0 : ("\t\n" : Str) = S [9, 10] := by decide +kernel
theorem lit_r1 : (" !\"#$" : Str) = S [32, 33, 34, 35, 36] := by decide +kernel
theorem lit_r2 : ("&'()*+,-./0123456789:;<=>?@ABCDEFGHIJKLMNOPQRSTUVWXYZ[\\]^_`abcdefghijklmnopqrstuvwxyz{|}~" : Str) = S ((List.range 89).map (· + 38)) := by decide +kernel
theorem sq_row {w : World} {K : PySem.W.Frag} {mg : Str → Option Value} (T : Txt w K mg) (H : Hp) {i : Nat} {x : V} (h : ([.ref T.e_SIGN_ROWS_0, .ref T.e_SIGN_ROWS_1, .ref T.e_SIGN_ROWS_2] : List V)[i]? = some x) :
    ∃ a p, x = .ref a ∧ RowsL[i]? = some p ∧ SqT K H a [.int (p.1 : Nat), .str (S p.2)] := by
  match i, h with
  | 0, h =>
    cases h
    refine ⟨_, _, rfl, rfl, ?_⟩
    rw [← lit_r0]
    exact .inr ⟨_, _, _, T.l_SIGN_ROWS_0, rfl, rfl, by (show 2 ≤ sizeLine; decide), (.cons ⟨_, rfl⟩ (.cons ⟨_, rfl⟩ .nil))⟩
  | 1, h =>
    cases h
    refine ⟨_, _, rfl, rfl, ?_⟩
    rw [← lit_r1]
    exact .inr ⟨_, _, _, T.l_SIGN_ROWS_1, rfl, rfl, by (show 2 ≤ sizeLine; decide), (.cons ⟨_, rfl⟩ (.cons ⟨_, rfl⟩ .nil))⟩
  | 2, h =>
    cases h
    refine ⟨_, _, rfl, rfl, ?_⟩
    rw [← lit_r2]
    exact .inr ⟨_, _, _, T.l_SIGN_ROWS_2, rfl, rfl, by (show 2 ≤ sizeLine; decide), (.cons ⟨_, rfl⟩ (.cons ⟨_, rfl⟩ .nil))⟩
/-- the sign of a number, by the rows from the i-th on -/
def sgnF (n : Nat) : List (Nat × List Nat) → Option Nat
  | [] => none
  | p :: ps => if p.1 ≤ n ∧ n < p.1 + p.2.length then p.2[n - p.1]? else sgnF n ps
theorem sgnF_eq : ∀ n, sgnF n RowsL = sgnR n := by
  intro n
  by_cases h : n < 128
  · have : ∀ n, n < 128 → sgnF n RowsL = sgnR n := by decide +kernel
    exact this n h
  · have e1 : sgnR n = none := by
      unfold sgnR
      rw [if_neg (by omega)]
    rw [e1]
    show (if 9 ≤ n ∧ n < 9 + 2 then _ else if 32 ≤ n ∧ n < 32 + 5 then _ else if 38 ≤ n ∧ n < 38 + ((List.range 89).map (· + 38)).length then _ else none) = none
    rw [if_neg (by omega), if_neg (by omega), if_neg (by rw [List.length_map, List.length_range]; omega)]
def sp_sign_of (K : PySem.W.Frag) : Sp := fun vs H Q _ => ∃ o : Option Nat, vs = [iv o] ∧ Q (sv (o.bind sgnR)) H
theorem ok_sign_of {P : Program} {w : World} {K : PySem.W.Frag} {mg : Str → Option Value} {base : Heap} (T : Txt w K mg) : FnOk P w K mg base CX0 1 T.a_sign_of T.d_sign_of ["number"] (sp_sign_of K) := by
  refine T.f_sign_of.ok sc_sign_of (fun vs H Q E h => ?_) (fun cdv A outer s H vs Q E hr h => ?_)
  · obtain ⟨o, rfl, _⟩ := h
    rfl
  · obtain ⟨o, rfl, q⟩ := h
    refine ⟨_, (pss_cons (ps_if (pt_cmpR op_isN (pv 0) pe_non (nomark _)) (pss_one (ps_ret pe_non)) pss_nil)
        (pss_cons (ps_for PassesOwn.never rfl (pi_tup (pe_glob (v := .ref T.a_SIGN_ROWS) rfl T.g_SIGN_ROWS rfl)) (pg_tup (by rfl) (pgs_cons (pg_name (i := 1) sc_sign_of.nd rfl (.inl rfl)) (pgs_cons (pg_name (i := 2) sc_sign_of.nd rfl (.inl rfl)) pgs_nil))) (pss_one (ps_if (pt_chain op_le op_lt (pv 1) (pv 0) (pe_op op_add (pv 1) (pe_callB call_len_str (by rfl) T.z_len PySem.boot_len (pa_cons (pv 2) pa_nil)))) (pss_one (ps_ret (pe_ix ix_str (pv 2) (pe_op op_sub (pv 0) (pv 1)) (fun _ _ => rfl)))) pss_nil)))
        (pss_one (ps_ret pe_non)))), ?_⟩
    cases o with
    | none => exact ⟨_, rfl, rfl, _, rfl, iteT q⟩
    | some n =>
      refine ⟨_, rfl, rfl, _, rfl, iteF ?_⟩
      have q' : Q (sv (sgnF n RowsL)) H := by rw [sgnF_eq]; exact q
      refine ⟨T.a_SIGN_ROWS, rfl, ⟨_, sq_rows0 T H⟩, for_tup (K := K) (xs := [.ref T.e_SIGN_ROWS_0, .ref T.e_SIGN_ROWS_1, .ref T.e_SIGN_ROWS_2]) (fun i σ H' => H' = H ∧ (∃ v1 v2, σ = [some (.int (n : Nat)), v1, v2]) ∧ sgnF n RowsL = sgnF n (RowsL.drop i)) ⟨rfl, ⟨_, _, rfl⟩, rfl⟩ (fun i σ H' _ h => sq_rows0 T H') ?_ ?_⟩
      · rintro i x σ H' hx ⟨rfl, ⟨v1, v2, rfl⟩, e⟩
        obtain ⟨a, p, rfl, hp, hs⟩ := sq_row T H' hx
        have hd : RowsL.drop i = p :: RowsL.drop (i + 1) := by
          obtain ⟨h1, h2⟩ := List.getElem?_eq_some_iff.mp hp
          rw [List.drop_eq_getElem_cons h1, h2]
        have hlen : p.2.length ≤ 89 := by
          have : ∀ p ∈ RowsL, p.2.length ≤ 89 := by decide +kernel
          exact this p (List.mem_of_getElem? hp)
        have hln : (S p.2).length ≤ sizeLine := by rw [S_len, sizeLine_eq]; omega
        have hstep : sgnF n RowsL = if p.1 ≤ n ∧ n < p.1 + p.2.length then p.2[n - p.1]? else sgnF n (RowsL.drop (i + 1)) := by
          rw [e, hd]
          rfl
        refine ⟨a, _, rfl, hs, rfl, _, _, rfl, _, _, rfl, rfl, ?_⟩
        refine ⟨_, rfl, _, rfl, _, _, rfl, rfl, _, rfl, ite2 (fun h1 => ?_) (fun h1 => ?_)⟩
        · have h1' : p.1 ≤ n := by
            have := of_decide_eq_true h1
            omega
          refine ⟨_, rfl, _, rfl, _, rfl, hln, _, _, rfl, rfl, _, _, rfl, rfl, _, rfl, ite2 (fun h2 => ?_) (fun h2 => ?_)⟩
          · have h2' : n < p.1 + p.2.length := by
              have := of_decide_eq_true h2
              rw [S_len] at this
              omega
            rw [hstep, if_pos ⟨h1', h2'⟩, List.getElem?_eq_getElem (by omega)] at q'
            exact ⟨_, rfl, _, rfl, _, rfl, _, _, rfl, rfl, _, _, p.2[n - p.1]'(by omega), rfl, rfl, hln, by
              have e1 : ((n : Nat) : Int) - (p.1 : Nat) = ((n - p.1 : Nat) : Int) := by omega
              rw [e1]
              exact atI_nat (j := n - p.1) (by rw [S_tl]; exact List.getElem?_eq_getElem (by omega)), q'⟩
          · have h2' : ¬ n < p.1 + p.2.length := fun z => h2 (decide_eq_true (by rw [S_len]; omega))
            refine ⟨rfl, ⟨_, _, rfl⟩, ?_⟩
            rw [hstep, if_neg fun z => h2' z.2]
        · have h1' : ¬ p.1 ≤ n := fun z => h1 (decide_eq_true (by omega))
          refine ⟨_, rfl, iteF ⟨rfl, ⟨_, _, rfl⟩, ?_⟩⟩
          rw [hstep, if_neg fun z => h1' z.1]
      · rintro σ H' ⟨rfl, ⟨v1, v2, rfl⟩, e⟩
        rw [e] at q'
        exact q'


def sp_sign_meant (K : PySem.W.Frag) : Sp := fun vs H Q _ => ∃ w : List Nat, vs = [.str (S w)] ∧ w.length ≤ 100 ∧ Asc w ∧ ∀ H', Same H H' → Q (sv (meantR w)) H'
theorem names_lookup (w : List Nat) : (([("amp", .str "&"), ("lt", .str "<"), ("gt", .str ">"), ("quot", .str "\""), ("apos", .str "'"), ("num", .str "#"), ("ast", .str "*"), ("lowbar", .str "_"), ("grave", .str "`"), ("lsqb", .str "["), ("rsqb", .str "]"), ("lpar", .str "("), ("rpar", .str ")"), ("lcub", .str "{"), ("rcub", .str "}"), ("bsol", .str "\\"), ("excl", .str "!"), ("Tab", .str "\t"), ("NewLine", .str "\n")] : List (Str × V)).lookup (S w)).getD .non = sv (NamesL.lookup w) := by
  have e : ([("amp", .str "&"), ("lt", .str "<"), ("gt", .str ">"), ("quot", .str "\""), ("apos", .str "'"), ("num", .str "#"), ("ast", .str "*"), ("lowbar", .str "_"), ("grave", .str "`"), ("lsqb", .str "["), ("rsqb", .str "]"), ("lpar", .str "("), ("rpar", .str ")"), ("lcub", .str "{"), ("rcub", .str "}"), ("bsol", .str "\\"), ("excl", .str "!"), ("Tab", .str "\t"), ("NewLine", .str "\n")] : List (Str × V)) = NamesL.map fun p => (S p.1, V.str (S [p.2])) := by decide +kernel
  rw [e]
  have gen : ∀ ps : List (List Nat × Nat), ((ps.map fun p => (S p.1, V.str (S [p.2]))).lookup (S w)).getD .non = sv (ps.lookup w) := by
    intro ps
    induction ps with
    | nil => rfl
    | cons p ps ih =>
      rw [List.map_cons, List.lookup_cons, List.lookup_cons]
      by_cases h : w = p.1
      · subst h
        rw [beq_self_eq_true, beq_self_eq_true]
        rfl
      · rw [beq_eq_false_iff_ne.mpr h, beq_eq_false_iff_ne.mpr fun z => h (S_inj z)]
        exact ih
  exact gen NamesL
theorem ok_sign_meant {P : Program} {w : World} {K : PySem.W.Frag} {mg : Str → Option Value} {base : Heap} (T : Txt w K mg) : FnOk P w K mg base CX0 2 T.a_sign_meant T.d_sign_meant ["words"] (sp_sign_meant K) := by
  refine T.f_sign_meant.ok sc_sign_meant (fun vs H Q E h => ?_) (fun cdv A outer s H vs Q E hr h => ?_)
  · obtain ⟨w, rfl, _⟩ := h
    rfl
  · obtain ⟨w, rfl, hl, ha, q⟩ := h
    refine ⟨_, (pss_cons (ps_if (PW.pt (pw_or (pt_val (pe_bm PySem.F.plainAttrs_str PySem.F.slot_str_startswith PySem.F.type_str_startswith mt_startswith (pv 0) (pa_cons pe_str pa_nil))) (pw_or1 (pt_val (pe_bm PySem.F.plainAttrs_str PySem.F.slot_str_startswith PySem.F.type_str_startswith mt_startswith (pv 0) (pa_cons pe_str pa_nil)))))) (pss_one (ps_ret (pe_call (ok_sign_of T) (hr.mono (by decide)) (by rfl) T.g_sign_of T.f_sign_of.kp T.b_sign_of .nil pass0 (pa_cons (pe_call (ok_number_in T) (hr.mono (by decide)) (by rfl) T.g_number_in T.f_number_in.kp T.b_number_in .nil pass0 (pa_cons (pe_slice sl_str (pv 0) (po_some pe_int) po_none) (pa_cons pe_str (pa_cons pe_int pa_nil)))) pa_nil)))) pss_nil)
        (pss_cons (ps_if (pt_val (pe_bm PySem.F.plainAttrs_str PySem.F.slot_str_startswith PySem.F.type_str_startswith mt_startswith (pv 0) (pa_cons pe_str pa_nil))) (pss_one (ps_ret (pe_call (ok_sign_of T) (hr.mono (by decide)) (by rfl) T.g_sign_of T.f_sign_of.kp T.b_sign_of .nil pass0 (pa_cons (pe_call (ok_number_in T) (hr.mono (by decide)) (by rfl) T.g_number_in T.f_number_in.kp T.b_number_in .nil pass0 (pa_cons (pe_slice sl_str (pv 0) (po_some pe_int) po_none) (pa_cons pe_str (pa_cons pe_int pa_nil)))) pa_nil)))) pss_nil)
        (pss_one (ps_ret (pe_kget T.k_NAMES (pe_glob (v := .ref T.a_NAMES) rfl T.g_NAMES rfl) (pv 0) ⟨rfl, rfl, rfl, rfl⟩))))), ?_⟩
    have hln : (S w).length ≤ sizeLine := by rw [S_len, sizeLine_eq]; omega
    have fin2 : ∀ (B k : Nat) (ds : List Nat), (B = 10 ∧ ds = DecL ∨ B = 16 ∧ ds = HexL) → sv (meantR w) = sv ((numR B ds (w.drop k)).bind sgnR) → tCall (sp_sign_of K) [] E0 (tCons (tCall (sp_number_in K) [] E0 (tCons (tSl rSlS (tVar 0) (tPart (tC (.int (k : Int)))) tNoPart) (tCons (tC (.str (S ds))) (tCons (tC (.int (B : Int))) tNil)))) tNil) [some (.str (S w))] H Q := by
      intro B k ds hB e
      refine ⟨_, rfl, _, rfl, _, rfl, hln, ?_⟩
      rw [S_cut]
      refine ⟨w.drop k, ds, B, rfl, hB, by rw [List.length_drop]; omega, ha.drop k, fun H1 s1 => ⟨_, rfl, ?_⟩⟩
      rw [← e]
      exact q H1 s1
    have em : ∀ b, ([35, 120].isPrefixOf w || [35, 88].isPrefixOf w) = b → meantR w = if b = true then (numR 16 HexL (w.drop 2)).bind sgnR else if [35].isPrefixOf w then (numR 10 DecL (w.drop 1)).bind sgnR else NamesL.lookup w := fun b e => by
      unfold meantR
      rw [e]
    refine ⟨_, rfl, rfl, _, _, rfl, rfl, _, rfl, ?_⟩
    rw [lit_hx, starts1 w [35, 120] (by simp)]
    have yes : ([35, 120].isPrefixOf w || [35, 88].isPrefixOf w) = true → tCall (sp_sign_of K) [] E0 (tCons (tCall (sp_number_in K) [] E0 (tCons (tSl rSlS (tVar 0) (tPart (tC (.int (2 : Int)))) tNoPart) (tCons (tC (.str ("0123456789abcdef" : Str))) (tCons (tC (.int (16 : Int))) tNil)))) tNil) [some (.str (S w))] H Q := fun e => by
      rw [lit_0f]
      exact fin2 16 2 HexL (.inr ⟨rfl, rfl⟩) (by rw [em _ e, if_pos rfl])
    refine ite2 (fun h1 => iteT (yes (by rw [h1]; rfl))) (fun h1 => ?_)
    refine ⟨_, rfl, rfl, _, _, rfl, rfl, _, rfl, ?_⟩
    rw [lit_hX, starts1 w [35, 88] (by simp)]
    refine ite2 (fun h2 => yes (by rw [h2, Bool.or_true])) (fun h2 => ?_)
    have e := em false (by rw [eq_false_of_ne_true h1, eq_false_of_ne_true h2]; rfl)
    rw [if_neg Bool.false_ne_true] at e
    refine ⟨_, rfl, rfl, _, _, rfl, rfl, _, rfl, ?_⟩
    rw [show Txt.startswith (S w) ("#" : Str) = [35].isPrefixOf w by rw [lit_h]; exact starts1 w [35] (by simp)]
    refine ite2 (fun h3 => ?_) (fun h3 => ?_)
    · show tCall _ _ _ _ _ _ _
      rw [lit_09]
      exact fin2 10 1 DecL (.inl ⟨rfl, rfl⟩) (by rw [e, if_pos h3])
    · rw [if_neg h3] at e
      refine ⟨rfl, _, rfl, _, rfl, ?_⟩
      rw [names_lookup, ← e]
      exact q H (Same.refl _)
/-- a place and a sign -/
def RefV (H : Hp) (v : V) (p : Nat) : Option (Nat × Nat) → Prop
  | none => v = .non
  | some (k, c) => ∃ r, v = .ref r ∧ H r = some (.tup [.int ((p + k : Nat) : Int), .str (S [c])])
def sp_reference_at (K : PySem.W.Frag) : Sp := fun vs H Q _ => ∃ (t : List Nat) (p : Nat), vs = [.str (S t), .int (p : Int)] ∧ TP t p ∧ Asc t ∧ ∀ H' v, Same H H' → RefV H' v p (refR (t.drop p)) → Q v H'
theorem ok_reference_at {P : Program} {w : World} {K : PySem.W.Frag} {mg : Str → Option Value} {base : Heap} (T : Txt w K mg) : FnOk P w K mg base CX0 3 T.a_reference_at T.d_reference_at ["text", "place"] (sp_reference_at K) := by
  refine T.f_reference_at.ok sc_reference_at (fun vs H Q E h => ?_) (fun cdv A outer s H vs Q E hr h => ?_)
  · obtain ⟨t, p, rfl, _⟩ := h
    rfl
  · obtain ⟨t, p, rfl, tp, ha, q⟩ := h
    refine ⟨_, (pss_cons (ps_if (pt_not (pt_val (pe_bm PySem.F.plainAttrs_str PySem.F.slot_str_startswith PySem.F.type_str_startswith mt_startswith3 (pv 0) (pa_cons pe_str (pa_cons (pv 1) pa_nil))))) (pss_one (ps_ret pe_non)) pss_nil)
        (pss_cons (ps_set (i := 2) sc_reference_at.nd rfl (.inl rfl) (pe_bm PySem.F.plainAttrs_str PySem.F.slot_str_find PySem.F.type_str_find mt_find4 (pv 0) (pa_cons pe_str (pa_cons (pv 1) (pa_cons (pe_op op_add (pv 1) (pe_glob (v := .int 10) rfl T.g_LONGEST ⟨_, rfl⟩)) pa_nil)))))
        (pss_cons (ps_if (pt_cmpR op_lt (pv 2) pe_int (nomark _)) (pss_one (ps_ret pe_non)) pss_nil)
        (pss_cons (ps_set (i := 3) sc_reference_at.nd rfl (.inl rfl) (pe_call (ok_sign_meant T) (hr.mono (by decide)) (by rfl) T.g_sign_meant T.f_sign_meant.kp T.b_sign_meant .nil pass0 (pa_cons (pe_slice sl_str (pv 0) (po_some (pe_op op_add (pv 1) pe_int)) (po_some (pv 2))) pa_nil)))
        (pss_cons (ps_if (pt_cmpR op_isN (pv 3) pe_non (nomark _)) (pss_one (ps_ret pe_non)) pss_nil)
        (pss_one (ps_ret (pe_tup (pa_cons (pe_op op_add (pv 2) pe_int) (pa_cons (pv 3) pa_nil)))))))))), ?_⟩
    refine ⟨_, rfl, rfl, _, rfl, _, _, _, rfl, rfl, _, rfl, ?_⟩
    rw [lit_amp, starts3 t [38] (by simp) p]
    cases h1 : ([38] : List Nat).isPrefixOf (t.drop p) with
    | false =>
      refine iteT (q H .non (Same.refl _) ?_)
      unfold refR
      rw [h1, if_neg Bool.false_ne_true]
      rfl
    | true =>
      refine iteF ?_
      refine ⟨_, rfl, rfl, _, rfl, _, rfl, _, _, rfl, rfl, _, _, _, _, rfl, rfl, ?_⟩
      rw [lit_semi]
      have e3 := findIn_S t [59] (by simp) p 10
      have ec : ((p + 10 : Nat) : Int) = (p : Int) + 10 := by omega
      rw [ec] at e3
      have er : refR (t.drop p) = match findL [59] ((t.drop p).take 10) with | none => none | some k => (meantR (((t.drop p).drop 1).take (k - 1))).map fun c => (k + 1, c) := by
        unfold refR
        rw [h1, if_pos rfl]
        try rfl
      cases hf : findL [59] ((t.drop p).take 10) with
      | none =>
        rw [hf] at er e3
        rw [show Txt.findIn (S t) (S [59]) (p : Int) ((p : Int) + 10) = -1 from e3]
        refine ⟨_, rfl, _, _, rfl, rfl, _, rfl, iteT (q H .non (Same.refl _) ?_)⟩
        rw [er]
        rfl
      | some k =>
        rw [hf] at er e3
        rw [show Txt.findIn (S t) (S [59]) (p : Int) ((p : Int) + 10) = ((p + k : Nat) : Int) from e3]
        refine ⟨_, rfl, _, _, rfl, rfl, _, rfl, ?_⟩
        rw [decide_eq_false (by omega)]
        refine iteF ?_
        have hk : 1 ≤ k := by
          cases k with
          | zero =>
            have h4 := (findL_some (by simp) hf).1
            cases hd : t.drop p with
            | nil => rw [hd] at h1; cases h1
            | cons a r =>
              rw [hd] at h1 h4
              have h5 : ((38 : Nat) == a && ([] : List Nat).isPrefixOf r) = true := h1
              have h6 : ((59 : Nat) == a && ([] : List Nat).isPrefixOf (r.take 9)) = true := h4
              have h7 := eq_of_beq (Bool.and_eq_true_iff.mp h5).1
              have h8 := eq_of_beq (Bool.and_eq_true_iff.mp h6).1
              omega
          | succ k => omega
        have hk9 : k ≤ 10 := by
          have h4 := pre_len _ _ (findL_some (by simp) hf).1
          rw [List.length_drop, List.length_take] at h4
          simp at h4
          omega
        refine ⟨_, rfl, _, rfl, _, _, rfl, rfl, _, rfl, _, rfl, _, rfl, _, rfl, tp.line, ?_⟩
        rw [show (p : Int) + 1 = ((p + 1 : Nat) : Int) by omega, S_cut2 t (p + 1) (p + k) (by omega), show p + k - (p + 1) = k - 1 by omega, ← List.drop_drop]
        refine ⟨_, rfl, by rw [List.length_take]; omega, ((ha.drop p).drop 1).take _, fun H1 s1 => ?_⟩
        have er2 : refR (t.drop p) = (meantR (((t.drop p).drop 1).take (k - 1))).map fun c => (k + 1, c) := er
        cases hm : meantR (((t.drop p).drop 1).take (k - 1)) with
        | none =>
          rw [hm] at er2
          refine ⟨_, rfl, rfl, _, rfl, iteT (q H1 .non s1 ?_)⟩
          rw [er2]
          rfl
        | some c =>
          rw [hm] at er2
          refine ⟨_, rfl, rfl, _, rfl, iteF ?_⟩
          refine ⟨_, rfl, _, _, rfl, rfl, _, rfl, by show 2 ≤ sizeLine; decide, fun r nr => ?_⟩
          refine q _ _ (s1.trans (same_new nr)) ?_
          rw [er2]
          exact ⟨r, rfl, by rw [upd_same]; congr 3⟩

def sp_decoded_at (K : PySem.W.Frag) : Sp := fun vs H Q _ => ∃ (t : List Nat) (p : Nat), vs = [.str (S t), .int (p : Int)] ∧ p < t.length ∧ t.length ≤ 100000 ∧ Asc t ∧
  ∀ H' r, Same H H' → H' r = some (.tup [.int ((p + (stepR (t.drop p)).1 : Nat) : Int), .str (S [(stepR (t.drop p)).2])]) → Q (.ref r) H'
theorem ok_decoded_at {P : Program} {w : World} {K : PySem.W.Frag} {mg : Str → Option Value} {base : Heap} (T : Txt w K mg) : FnOk P w K mg base CX0 4 T.a_decoded_at T.d_decoded_at ["text", "place"] (sp_decoded_at K) := by
  refine T.f_decoded_at.ok sc_decoded_at (fun vs H Q E h => ?_) (fun cdv A outer s H vs Q E hr h => ?_)
  · obtain ⟨t, p, rfl, _⟩ := h
    rfl
  · obtain ⟨t, p, rfl, hp, hl, ha, q⟩ := h
    refine ⟨_, (pss_cons (ps_if (pt_val (pe_call (ok_is_escape T) (hr.mono (by decide)) (by rfl) T.g_is_escape T.f_is_escape.kp T.b_is_escape .nil pass0 (pa_cons (pv 0) (pa_cons (pv 1) pa_nil)))) (pss_one (ps_ret (pe_tup (pa_cons (pe_op op_add (pv 1) pe_int) (pa_cons (pe_ix ix_str (pv 0) (pe_op op_add (pv 1) pe_int) (fun _ _ => rfl)) pa_nil))))) pss_nil)
        (pss_cons (ps_set (i := 2) sc_decoded_at.nd rfl (.inl rfl) (pe_call (ok_reference_at T) (hr.mono (by decide)) (by rfl) T.g_reference_at T.f_reference_at.kp T.b_reference_at .nil pass0 (pa_cons (pv 0) (pa_cons (pv 1) pa_nil))))
        (pss_cons (ps_if (pt_cmpR op_isN (pv 2) pe_non (nomark _)) (pss_one (ps_ret (pe_tup (pa_cons (pe_op op_add (pv 1) pe_int) (pa_cons (pe_ix ix_str (pv 0) (pv 1) (fun _ _ => rfl)) pa_nil))))) pss_nil)
        (pss_one (ps_ret (pv 2)))))), ?_⟩
    have tp : TP t p := ⟨by omega, hl⟩
    have hd : t.drop p = t[p] :: t.drop (p + 1) := List.drop_eq_getElem_cons hp
    have es : stepR (t.drop p) = if escR (t.drop p) = true then (2, (t.drop (p + 1)).headD 0) else match refR (t.drop p) with | some x => x | none => (1, t[p]) := by
      rw [hd]
      rfl
    refine ⟨_, rfl, _, rfl, _, _, rfl, tp, ?_⟩
    refine ⟨_, rfl, ?_⟩
    cases he : escR (t.drop p) with
    | true =>
      rw [he, if_pos rfl] at es
      have h2 : p + 1 < t.length := by
        by_cases h2 : p + 1 < t.length
        · exact h2
        · exfalso
          rw [hd, List.drop_of_length_le (by omega)] at he
          cases he
      have hd2 : t.drop (p + 1) = t[p + 1] :: t.drop (p + 2) := List.drop_eq_getElem_cons h2
      refine iteT ⟨_, rfl, _, _, rfl, rfl, _, rfl, _, rfl, _, _, rfl, rfl, _, _, t[p + 1], rfl, rfl, tp.line, atI_nat (j := p + 1) (by rw [S_tl]; exact List.getElem?_eq_getElem h2), by show 2 ≤ sizeLine; decide, fun r nr => ?_⟩
      refine q _ r (same_new nr) ?_
      rw [es, upd_same, hd2]
      congr 3
    | false =>
      rw [he, if_neg Bool.false_ne_true] at es
      refine iteF ⟨_, rfl, _, rfl, t, p, rfl, tp, ha, fun H1 v s1 hv => ?_⟩
      cases href : refR (t.drop p) with
      | none =>
        rw [href] at es hv
        have hv' : v = .non := hv
        subst hv'
        refine ⟨_, rfl, rfl, _, rfl, iteT ⟨_, rfl, _, _, rfl, rfl, _, rfl, _, rfl, _, _, t[p], rfl, rfl, tp.line, atI_nat (j := p) (by rw [S_tl]; exact List.getElem?_eq_getElem hp), by show 2 ≤ sizeLine; decide, fun r nr => ?_⟩⟩
        refine q _ r (s1.trans (same_new nr)) ?_
        rw [es, upd_same]
        congr 3
      | some x =>
        obtain ⟨k, c⟩ := x
        rw [href] at es hv
        obtain ⟨r, rfl, hr2⟩ := hv
        refine ⟨_, rfl, rfl, _, rfl, iteF ⟨_, rfl, ?_⟩⟩
        refine q _ r s1 ?_
        rw [es]
        exact hr2

theorem sum_ones : ∀ l : List Nat, (((l.map fun c => [c]).map S).map (·.length)).sum = l.length
  | [] => rfl
  | c :: l => by
    have ih := sum_ones l
    rw [List.map_cons, List.map_cons, List.map_cons, List.sum_cons, ih, S_len, List.length_cons, List.length_cons]
    simp
    omega
theorem decR_len : ∀ (n : Nat) (l : List Nat), l.length ≤ n → (decR l).length ≤ l.length := by
  intro n
  induction n with
  | zero =>
    intro l h
    have : l = [] := List.eq_nil_of_length_eq_zero (by omega)
    subst this
    exact Nat.le_refl _
  | succ n ih =>
    intro l h
    cases l with
    | nil => exact Nat.le_refl _
    | cons a r =>
      rw [decR_cons, List.length_cons]
      have hp := stepR_pos a r
      have := ih ((a :: r).drop (stepR (a :: r)).1) (by rw [List.length_drop]; omega)
      rw [List.length_drop] at this
      omega
def sp_decoded (K : PySem.W.Frag) : Sp := fun vs H Q _ => ∃ t : List Nat, vs = [.str (S t)] ∧ t.length ≤ 100000 ∧ Asc t ∧ ∀ H', Same H H' → Q (.str (S (decR t))) H'
theorem ok_decoded {P : Program} {w : World} {K : PySem.W.Frag} {mg : Str → Option Value} {base : Heap} (T : Txt w K mg) : FnOk P w K mg base CX0 5 T.a_decoded T.d_decoded ["text"] (sp_decoded K) := by
  refine T.f_decoded.ok sc_decoded (fun vs H Q E h => ?_) (fun cdv A outer s H vs Q E hr h => ?_)
  · obtain ⟨t, rfl, _⟩ := h
    rfl
  · obtain ⟨t, rfl, hl, ha, q⟩ := h
    refine ⟨_, (pss_cons (ps_set (i := 1) sc_decoded.nd rfl (.inl rfl) (pe_lst pa_nil))
        (pss_cons (ps_set (i := 2) sc_decoded.nd rfl (.inl rfl) pe_int)
        (pss_cons (ps_while PassesOwn.never (pt_cmpR op_lt (pv 2) (pe_callB call_len_str (by rfl) T.z_len PySem.boot_len (pa_cons (pv 0) pa_nil)) (nomark _)) (pss_cons (ps_asg (pe_call (ok_decoded_at T) (hr.mono (by decide)) (by rfl) T.g_decoded_at T.f_decoded_at.kp T.b_decoded_at .nil pass0 (pa_cons (pv 0) (pa_cons (pv 2) pa_nil))) (pg_tup (by rfl) (pgs_cons (pg_name (i := 2) sc_decoded.nd rfl (.inl rfl)) (pgs_cons (pg_name (i := 3) sc_decoded.nd rfl (.inl rfl)) pgs_nil))))
        (pss_one (ps_expr (pe_bm PySem.F.plainAttrs_list PySem.F.slot_list_append PySem.F.type_list_append mt_append (pv 1) (pa_cons (pv 3) pa_nil))))))
        (pss_one (ps_ret (pe_join pe_str (pv 1))))))), ?_⟩
    have hln : (S t).length ≤ sizeLine := by rw [S_len, sizeLine_eq]; omega
    refine ⟨by show 0 ≤ sizeLine; decide, fun D nD => ?_⟩
    refine ⟨fun m σ H' => ∃ (k : Nat) (acc : List Nat) (v3 : Option V), σ = [some (.str (S t)), some (.ref D), some (.int (k : Int)), v3] ∧ Same H H' ∧ H' D = some (.lst (acc.map fun c => V.str (S [c]))) ∧ m = t.length - k ∧ k ≤ t.length ∧ decR t = acc ++ decR (t.drop k) ∧ acc.length ≤ k, ⟨t.length, 0, [], none, rfl, same_new nD, upd_same, rfl, Nat.zero_le _, rfl, Nat.zero_le _⟩, ?_⟩
    rintro m σ H1 ⟨k, acc, v3, rfl, sm, hD, rfl, hk, e, hacc⟩
    refine ⟨_, rfl, _, rfl, _, rfl, hln, _, _, rfl, rfl, _, rfl, ite2 (fun h1 => ?_) (fun h1 => ?_)⟩
    · have h2 : k < t.length := by
        have := of_decide_eq_true h1
        rw [S_len] at this
        omega
      have hd : t.drop k = t[k] :: t.drop (k + 1) := List.drop_eq_getElem_cons h2
      have hp := stepR_pos t[k] (t.drop (k + 1))
      rw [← hd, List.length_drop] at hp
      have e2 : decR (t.drop k) = (stepR (t.drop k)).2 :: decR (t.drop (k + (stepR (t.drop k)).1)) := by
        have := decR_cons t[k] (t.drop (k + 1))
        rw [← hd, List.drop_drop] at this
        exact this
      refine ⟨fun σ' H' => ∃ (k' : Nat) (acc' : List Nat) (v3 : Option V), σ' = [some (.str (S t)), some (.ref D), some (.int (k' : Int)), v3] ∧ Same H H' ∧ H' D = some (.lst (acc'.map fun c => V.str (S [c]))) ∧ k < k' ∧ k' ≤ t.length ∧ decR t = acc' ++ decR (t.drop k') ∧ acc'.length ≤ k', ?_, ?_⟩
      · rintro σ' H' ⟨k', acc', v3', rfl, sm', hD', hkk, hk', e', hacc'⟩
        exact ⟨t.length - k', by omega, k', acc', v3', rfl, sm', hD', rfl, hk', e', hacc'⟩
      · refine ⟨_, rfl, _, rfl, t, k, rfl, h2, hl, ha, fun H2 r s2 hr2 => ?_⟩
        have hD2 := s2 _ _ hD
        refine ⟨r, _, rfl, SqT.of hr2, rfl, _, _, rfl, _, _, rfl, rfl, ?_⟩
        refine ⟨_, rfl, .inl ⟨rfl, _, SqL.of hD2⟩, _, rfl, D, _, _, rfl, rfl, hD2, by rw [List.length_map, sizeLine_eq]; omega, ?_⟩
        refine ⟨k + (stepR (t.drop k)).1, acc ++ [(stepR (t.drop k)).2], _, rfl, fun b o hb => ?_, ?_, by omega, by omega, ?_, ?_⟩
        · rw [upd_ne (ne_of_none hb nD)]
          exact s2 _ _ (sm _ _ hb)
        · rw [upd_same]
          simp
        · rw [e, e2]
          simp
        · rw [List.length_append, List.length_singleton]
          omega
    · have h2 : t.length ≤ k := by
        have : ¬ ((k : Int) < ((S t).length : Int)) := fun z => h1 (decide_eq_true z)
        rw [S_len] at this
        omega
      have e3 : decR t = acc := by
        rw [e, List.drop_of_length_le h2]
        simp [decR_nil]
      have eD : (acc.map fun c => V.str (S [c])) = ((acc.map fun c => [c]).map S).map V.str := by simp
      rw [eD] at hD
      refine ⟨⟨_, rfl⟩, _, rfl, _, D, _, rfl, rfl, .inl (SqL.of hD), ?_, ?_⟩
      · rw [sum_ones]
        have e0 : (("" : Str)).length = 0 := by decide +kernel
        rw [e0]
        omega
      · rw [lit_e, My.join_nil]
        have := q H1 sm
        rw [e3] at this
        have e4 : (acc.map fun c => [c]).flatten = acc := by
          clear e3 e hacc this hD eD
          induction acc with
          | nil => rfl
          | cons a r ih => rw [List.map_cons, List.flatten_cons, ih]; rfl
        rw [e4]
        exact this

/-! ### the law's own table of names -/
theorem add_S {a b : List Nat} {n : Nat} (h : a.length + b.length ≤ n) (hn : n ≤ 1000 := by decide) : (S a).length + (S b).length ≤ sizeLine := by
  rw [S_len, S_len, sizeLine_eq]
  omega
def Kv1 : List (Key × V) := [(.inr "amp", .str "&"), (.inr "lt", .str "<"), (.inr "gt", .str ">"), (.inr "quot", .str "\""), (.inr "apos", .str "'"), (.inr "num", .str "#"), (.inr "ast", .str "*"), (.inr "lowbar", .str "_")]
def Kv2 : List (Key × V) := [(.inr "grave", .str "`"), (.inr "lsqb", .str "["), (.inr "rsqb", .str "]"), (.inr "lpar", .str "("), (.inr "rpar", .str ")"), (.inr "lcub", .str "{"), (.inr "rcub", .str "}")]
def Kv3 : List (Key × V) := [(.inr "bsol", .str "\\"), (.inr "excl", .str "!"), (.inr "Tab", .str "\t"), (.inr "NewLine", .str "\n")]
def NamesK : List (Key × V) := NamesL.map fun p => (.inr (S p.1), .str (S [p.2]))
theorem names_merged : mergeK (mergeK (mergeK [] Kv1) (mergeK [] Kv2)) (mergeK [] Kv3) = NamesK := by decide +kernel
theorem m1_len : (mergeK [] Kv1).length = 8 ∧ (mergeK [] Kv2).length = 7 ∧ (mergeK (mergeK [] Kv1) (mergeK [] Kv2)).length = 15 ∧ (mergeK [] Kv3).length = 4 := by decide +kernel
theorem names_get {p : List Nat × Nat} (h : p ∈ NamesL) : valV NamesK (.inr (S p.1)) = some (.str (S [p.2])) := by
  have : ∀ p ∈ NamesL, valV NamesK (.inr (S p.1)) = some (.str (S [p.2])) := by decide +kernel
  exact this p h
def sp__law_names (K : PySem.W.Frag) : Sp := fun vs H Q _ => vs = [] ∧ ∀ H' d, Same H H' → H d = none → H' d = some (.dK NamesK) → Q (.ref d) H'
theorem ok__law_names {P : Program} {w : World} {K : PySem.W.Frag} {mg : Str → Option Value} {base : Heap} (T : Txt w K mg) : FnOk P w K mg base CX0 1 T.a__law_names T.d__law_names [] (sp__law_names K) := by
  refine T.f__law_names.ok sc__law_names (fun vs H Q E h => ?_) (fun cdv A outer s H vs Q E hr h => ?_)
  · obtain ⟨rfl, _⟩ := h
    rfl
  · obtain ⟨rfl, q⟩ := h
    refine ⟨_, (pss_cons (ps_set (i := 0) sc__law_names.nd rfl (.inl rfl) (pe_disp (pps_cons pe_str pe_str (pps_cons pe_str pe_str (pps_cons pe_str pe_str (pps_cons pe_str pe_str (pps_cons pe_str pe_str (pps_cons pe_str pe_str (pps_cons pe_str pe_str (pps_cons pe_str pe_str pps_nil)))))))) rfl rfl (by simp) (by decide)))
        (pss_cons (ps_expr (pe_bm PySem.F.plainAttrs_dict PySem.F.slot_dict_update PySem.F.type_dict_update mtd_update (pv 0) (pa_cons (pe_disp (pps_cons pe_str pe_str (pps_cons pe_str pe_str (pps_cons pe_str pe_str (pps_cons pe_str pe_str (pps_cons pe_str pe_str (pps_cons pe_str pe_str (pps_cons pe_str pe_str pps_nil))))))) rfl rfl (by simp) (by decide)) pa_nil)))
        (pss_cons (ps_expr (pe_bm PySem.F.plainAttrs_dict PySem.F.slot_dict_update PySem.F.type_dict_update mtd_update (pv 0) (pa_cons (pe_disp (pps_cons pe_str pe_str (pps_cons pe_str pe_str (pps_cons pe_str pe_str (pps_cons pe_str pe_str pps_nil)))) rfl rfl (by simp) (by decide)) pa_nil)))
        (pss_one (ps_ret (pv 0)))))), ?_⟩
    refine fun p np => ⟨upd_same, Kv1, rfl, by decide, ?_⟩
    rw [upd_upd]
    refine ⟨_, rfl, .inr (.inr (.inl ⟨rfl, .inl ⟨_, upd_same⟩⟩)), fun p2 np2 => ⟨upd_same, Kv2, rfl, by decide, ?_⟩⟩
    rw [upd_upd]
    have n2 : p ≠ p2 := ne_of_none upd_same np2
    refine ⟨p, p2, mergeK [] Kv1, mergeK [] Kv2, rfl, rfl, n2, by rw [upd_ne n2]; exact upd_same, upd_same, by rw [m1_len.1, m1_len.2.1]; decide, ?_⟩
    have f1 : ∀ b o, H b = some o → b ≠ p ∧ b ≠ p2 := fun b o hb => ⟨ne_of_none hb np, ne_of_none (show upd H p (.dK (mergeK [] Kv1)) b = some o by rw [upd_ne (ne_of_none hb np)]; exact hb) np2⟩
    have s1 : Same H (upd (upd (upd H p (.dK (mergeK [] Kv1))) p2 (.dK (mergeK [] Kv2))) p (.dK (mergeK (mergeK [] Kv1) (mergeK [] Kv2)))) := fun b o hb => by
      rw [upd_ne (f1 b o hb).1, upd_ne (f1 b o hb).2, upd_ne (f1 b o hb).1]
      exact hb
    have hp : (upd (upd (upd H p (.dK (mergeK [] Kv1))) p2 (.dK (mergeK [] Kv2))) p (.dK (mergeK (mergeK [] Kv1) (mergeK [] Kv2)))) p = some (.dK (mergeK (mergeK [] Kv1) (mergeK [] Kv2))) := upd_same
    generalize upd (upd (upd H p (.dK (mergeK [] Kv1))) p2 (.dK (mergeK [] Kv2))) p (.dK (mergeK (mergeK [] Kv1) (mergeK [] Kv2))) = H1 at s1 hp ⊢
    refine ⟨_, rfl, .inr (.inr (.inl ⟨rfl, .inl ⟨_, hp⟩⟩)), fun p3 np3 => ⟨upd_same, Kv3, rfl, by decide, ?_⟩⟩
    rw [upd_upd]
    have n3 : p ≠ p3 := ne_of_none hp np3
    refine ⟨p, p3, _, mergeK [] Kv3, rfl, rfl, n3, by rw [upd_ne n3]; exact hp, upd_same, by rw [m1_len.2.2.1, m1_len.2.2.2]; decide, ?_⟩
    rw [names_merged]
    refine ⟨_, rfl, q _ p (fun b o hb => ?_) np upd_same⟩
    rw [upd_ne (f1 b o hb).1, upd_ne (ne_of_none (s1 _ _ hb) np3)]
    exact s1 _ _ hb
/-! ### signs -/
def SignsL : List Nat := [32, 33, 34, 35, 36] ++ (10 :: (List.range 89).map (· + 38))
theorem lit_s2 : ("\n&'()*+,-./0123456789:;<=>?@ABCDEFGHIJKLMNOPQRSTUVWXYZ[\\]^_`abcdefghijklmnopqrstuvwxyz{|}~" : Str) = S (10 :: (List.range 89).map (· + 38)) := by decide +kernel
def sp__law_signs (K : PySem.W.Frag) : Sp := fun vs H Q _ => vs = [] ∧ Q (.str (S SignsL)) H
theorem ok__law_signs {P : Program} {w : World} {K : PySem.W.Frag} {mg : Str → Option Value} {base : Heap} (T : Txt w K mg) : FnOk P w K mg base CX0 1 T.a__law_signs T.d__law_signs [] (sp__law_signs K) := by
  refine T.f__law_signs.ok sc__law_signs (fun vs H Q E h => ?_) (fun cdv A outer s H vs Q E hr h => ?_)
  · obtain ⟨rfl, _⟩ := h
    rfl
  · obtain ⟨rfl, q⟩ := h
    refine ⟨_, (pss_cons (ps_set (i := 0) sc__law_signs.nd rfl (.inl rfl) pe_str)
        (pss_one (ps_ret (pe_op op_add_str (pv 0) pe_str)))), ?_⟩
    refine ⟨_, rfl, _, _, rfl, rfl, ?_, ?_⟩
    · rw [lit_r1, lit_s2]
      exact add_S (n := 100) (by decide +kernel)
    · rw [lit_r1, lit_s2, S_app]
      exact q
theorem signs_at : ∀ n, n < 127 → 32 ≤ n → n ≠ 37 → SignsL[n - 32]? = some n := by decide +kernel
theorem lit_tab : ("\t" : Str) = S [9] := by decide +kernel
theorem lit_nl : ("\n" : Str) = S [10] := by decide +kernel
def sp__law_sign (K : PySem.W.Frag) : Sp := fun vs H Q _ => ∃ n : Nat, vs = [.int (n : Nat)] ∧ ∀ H', Same H H' → Q (sv (sgnR n)) H'
theorem ok__law_sign {P : Program} {w : World} {K : PySem.W.Frag} {mg : Str → Option Value} {base : Heap} (T : Txt w K mg) : FnOk P w K mg base CX0 2 T.a__law_sign T.d__law_sign ["_law_number"] (sp__law_sign K) := by
  refine T.f__law_sign.ok sc__law_sign (fun vs H Q E h => ?_) (fun cdv A outer s H vs Q E hr h => ?_)
  · obtain ⟨n, rfl, _⟩ := h
    rfl
  · obtain ⟨n, rfl, q⟩ := h
    refine ⟨_, (pss_cons (ps_if (pt_cmpR op_in_seq (pv 0) (pe_tup (pa_cons pe_int (pa_cons pe_int pa_nil))) (by rfl)) (pss_one (ps_ret (pe_ifExp (pt_cmpR op_eq (pv 0) pe_int (nomark _)) pe_str pe_str))) pss_nil)
        (pss_one (ps_ret (pe_ifExp (PW.pt (pw_and (pt_chain op_le op_le pe_int (pv 0) pe_int) (pw_and1 (pt_cmpR op_ne (pv 0) pe_int (nomark _))))) (pe_ix ix_str (pe_call0 (ok__law_signs T) (hr.mono (by decide)) (by rfl) T.g__law_signs T.f__law_signs.kp T.b__law_signs .nil pass0) (pe_op op_sub (pv 0) pe_int) (fun _ _ => rfl)) pe_non)))), ?_⟩
    refine ⟨_, rfl, by show 2 ≤ sizeLine; decide, fun p np => ⟨p, _, rfl, .inr (SqT.of upd_same), rfl, rfl, ?_⟩⟩
    have s1 : Same H (upd H p (.tup [.int 9, .int 10])) := same_new np
    rw [if_neg Bool.false_ne_true]
    refine ⟨_, rfl, ?_⟩
    have ei : inV (V.int (n : Nat)) [V.int 9, V.int 10] = (decide (n = 9) || decide (n = 10)) := by
      show (((9 : Int) == (n : Nat)) || (((10 : Int) == (n : Nat)) || false)) = _
      rw [Bool.or_false]
      congr 1
      · by_cases h : n = 9
        · subst h; rfl
        · rw [decide_eq_false h]; exact beq_eq_false_iff_ne.mpr (by omega)
      · by_cases h : n = 10
        · subst h; rfl
        · rw [decide_eq_false h]; exact beq_eq_false_iff_ne.mpr (by omega)
    rw [ei]
    have q' := q _ s1
    have e9 : ∀ k : Nat, decide (V.int (n : Nat) = V.int (k : Nat)) = decide (n = k) := fun k => by
      by_cases h : n = k
      · subst h; simp
      · rw [decide_eq_false h]
        exact decide_eq_false fun z => h (by have := V.int.inj z; omega)
    by_cases h9 : n = 9
    · subst h9
      refine iteT ⟨_, rfl, rfl, _, rfl, ?_⟩
      rw [show decide (V.int ((9 : Nat) : Int) = V.int 9) = true from e9 9]
      refine iteT ?_
      rw [lit_tab]
      exact q'
    · by_cases h10 : n = 10
      · subst h10
        refine iteT ⟨_, rfl, rfl, _, rfl, ?_⟩
        have := e9 9
        rw [show decide (V.int ((10 : Nat) : Int) = V.int 9) = false from this]
        refine iteF ?_
        rw [lit_nl]
        exact q'
      · rw [decide_eq_false h9, decide_eq_false h10]
        refine iteF ?_
        have no : ¬ (32 ≤ n ∧ n ≤ 126 ∧ n ≠ 37) → Q .non (upd H p (.tup [.int 9, .int 10])) := fun z => by
          unfold sgnR at q'
          rw [if_neg (by omega)] at q'
          exact q'
        refine ⟨_, rfl, _, _, rfl, rfl, _, rfl, ite2 (fun h1 => ?_) (fun h1 => ?_)⟩
        · have h1' : 32 ≤ n := by
            have := of_decide_eq_true h1
            omega
          refine ⟨_, _, rfl, rfl, _, rfl, ite2 (fun h2 => ?_) (fun h2 => ?_)⟩
          · have h2' : n ≤ 126 := by
              have := of_decide_eq_true h2
              omega
            refine ⟨_, rfl, rfl, _, rfl, ?_⟩
            rw [show decide (V.int ((n : Nat) : Int) = V.int 37) = decide (n = 37) from e9 37]
            by_cases h37 : n = 37
            · rw [decide_eq_true h37]
              exact iteF (no fun z => z.2.2 h37)
            · rw [decide_eq_false h37]
              refine iteT ⟨rfl, ?_⟩
              refine ⟨_, rfl, _, _, rfl, rfl, _, _, n, rfl, rfl, ?_, ?_, ?_⟩
              · rw [S_len, sizeLine_eq]
                decide +kernel
              · have e1 : ((n : Nat) : Int) - 32 = ((n - 32 : Nat) : Int) := by omega
                rw [e1]
                exact atI_nat (j := n - 32) (by rw [S_tl]; exact signs_at n (by omega) h1' h37)
              · unfold sgnR at q'
                rw [if_pos (by omega)] at q'
                exact q'
          · exact iteF (no fun z => h2 (decide_eq_true (by omega)))
        · exact ⟨_, rfl, iteF (iteF (no fun z => h1 (decide_eq_true (by omega))))⟩

/-! ### sixteens -/
def hx : Nat → Nat → List Nat
  | 0, _ => []
  | k + 1, n => HexL.getD (n / 16 ^ k % 16) 0 :: hx k n
theorem hx_len : ∀ k n, (hx k n).length = k
  | 0, _ => rfl
  | k + 1, n => by
    show (hx k n).length + 1 = k + 1
    rw [hx_len k n]
def hexN (n : Nat) : List Nat := if (hx 8 n).all (fun c => [48].contains c) = true then [48] else (hx 8 n).drop ((hx 8 n).takeWhile (fun c => [48].contains c)).length
theorem hexN_len (n : Nat) : (hexN n).length ≤ 8 := by
  unfold hexN
  split
  · decide
  · rw [List.length_drop, hx_len]
    omega
theorem lit_0 : ("0" : Str) = S [48] := by decide +kernel
theorem hexL_at (m : Nat) (h : m < 16) : HexL[m]? = some (HexL.getD m 0) := by
  have : ∀ m, m < 16 → HexL[m]? = some (HexL.getD m 0) := by decide
  exact this m h
def sp__law_sixteens (K : PySem.W.Frag) : Sp := fun vs H Q _ => ∃ n : Nat, vs = [.int (n : Nat)] ∧ Q (.str (S (hexN n))) H
theorem ok__law_sixteens {P : Program} {w : World} {K : PySem.W.Frag} {mg : Str → Option Value} {base : Heap} (T : Txt w K mg) : FnOk P w K mg base CX0 1 T.a__law_sixteens T.d__law_sixteens ["_law_number"] (sp__law_sixteens K) := by
  refine T.f__law_sixteens.ok sc__law_sixteens (fun vs H Q E h => ?_) (fun cdv A outer s H vs Q E hr h => ?_)
  · obtain ⟨n, rfl, _⟩ := h
    rfl
  · obtain ⟨n, rfl, q⟩ := h
    refine ⟨_, (pss_cons (ps_set (i := 1) sc__law_sixteens.nd rfl (.inl rfl) pe_str)
        (pss_cons (ps_for PassesOwn.never rfl (pi_range1 (by rfl) T.z_range (pa_cons pe_int pa_nil)) (pg_name (i := 2) sc__law_sixteens.nd rfl (.inl rfl)) (pss_cons (ps_set (i := 1) sc__law_sixteens.nd rfl (.inl rfl) (pe_op op_add_str (pe_ix ix_str pe_str (pe_op op_mod (pe_callTy call_int1 (by rfl) T.z_int (by decide +kernel) (pa_cons (pv 0) pa_nil)) pe_int) (fun _ _ => rfl)) (pv 1)))
        (pss_one (ps_set (i := 0) sc__law_sixteens.nd rfl (.inl rfl) (pe_op op_fdivW (pv 0) pe_int)))))
        (pss_one (ps_ret (pe_ifExp (pt_cmpR op_ne (pe_bm PySem.F.plainAttrs_str PySem.F.slot_str_strip PySem.F.type_str_strip mt_stripChars (pv 1) (pa_cons pe_str pa_nil)) pe_str (nomark _)) (pe_bm PySem.F.plainAttrs_str PySem.F.slot_str_lstrip PySem.F.type_str_lstrip mt_lstripChars (pv 1) (pa_cons pe_str pa_nil)) pe_str))))), ?_⟩
    rw [lit_e]
    refine ⟨8, rfl, by decide, by decide, for_range (lo := 0) (n := 8) (fun i σ H' => H' = H ∧ ∃ v2, σ = [some (.int ((n / 16 ^ i : Nat) : Int)), some (.str (S (hx i n))), v2]) ⟨rfl, _, by simp [hx]; rfl⟩ ?_ ?_⟩
    · rintro k σ H' hk ⟨rfl, v2, rfl⟩
      refine ⟨_, rfl, .inl ⟨_, rfl, _, _, rfl, rfl, (by show (0 : Int) < _; decide), _, _, HexL.getD (n / 16 ^ k % 16) 0, rfl, rfl, ?_, ?_, ?_⟩⟩
      · rw [lit_0f, S_len, sizeLine_eq]
        decide
      · rw [lit_0f]
        have e1 : ((n / 16 ^ k : Nat) : Int) % 16 = ((n / 16 ^ k % 16 : Nat) : Int) := by omega
        rw [e1]
        exact atI_nat (by rw [S_tl]; exact hexL_at _ (Nat.mod_lt _ (by decide)))
      · refine ⟨_, rfl, _, _, rfl, rfl, ?_, ?_⟩
        · exact add_S (a := [HexL.getD (n / 16 ^ k % 16) 0]) (n := 20) (by rw [hx_len, List.length_singleton]; omega)
        · rw [show (⟨#[HexL.getD (n / 16 ^ k % 16) 0]⟩ : Str) = S [HexL.getD (n / 16 ^ k % 16) 0] from rfl, S_app]
          refine ⟨_, rfl, _, _, rfl, rfl, wide_div (b := 40) (by decide) (by decide) (by decide) (by decide), rfl, some (.int (0 + (k : Int))), ?_⟩
          have e2 : ((n / 16 ^ k : Nat) : Int) / 16 = ((n / 16 ^ (k + 1) : Nat) : Int) := by
            rw [Nat.pow_succ, ← Nat.div_div_eq_div_mul]
            omega
          rw [← e2]
          rfl
    · rintro σ H' ⟨rfl, v2, rfl⟩
      have hl8 : (S (hx 8 n)).length ≤ sizeLine := by rw [S_len, hx_len, sizeLine_eq]; omega
      refine ⟨_, rfl, rfl, _, _, rfl, rfl, hl8, rfl, _, rfl, ?_⟩
      rw [lit_0, strip_blank]
      unfold hexN at q
      cases hall : (hx 8 n).all (fun c => [48].contains c) with
      | true =>
        rw [hall, if_pos rfl] at q
        exact iteF q
      | false =>
        rw [hall, if_neg Bool.false_ne_true] at q
        refine iteT ⟨_, rfl, rfl, _, _, rfl, rfl, hl8, ?_⟩
        rw [lstrip_S]
        exact q
/-! ### drawn references -/
def NumSet : List Nat := List.range 140 ++ [8212]
def digsN (n : Nat) : List Nat := ((toString ((n : Nat) : Int) : String) : Str).cps.toList
theorem dec_ok : ∀ n ∈ NumSet, ∀ z, z < 7 → refOkB (35 :: (List.replicate z 48 ++ digsN n)) (if z + (digsN n).length ≤ 7 then sgnR n else none) = true := by decide +kernel
theorem hex_ok : ∀ n ∈ NumSet, ∀ z, z < 7 → ∀ X ∈ [120, 88], refOkB (35 :: X :: (List.replicate z 48 ++ hexN n)) (if z + (hexN n).length ≤ 6 then sgnR n else none) = true := by decide +kernel
theorem hexU_ok : ∀ n ∈ NumSet, ∀ z, z < 7 → ∀ X ∈ [120, 88], refOkB (35 :: X :: (List.replicate z 48 ++ hexN n).map up1) (if z + (hexN n).length ≤ 6 then sgnR n else none) = true := by decide +kernel
theorem name_ok : ∀ p ∈ NamesL, refOkB p.1 (some p.2) = true ∧ refOkB (p.1 ++ [120]) none = true := by decide +kernel
theorem digsN_len : ∀ n ∈ NumSet, (digsN n).length ≤ 4 ∧ n < 10000 := by decide +kernel

/-! ### menus: lists of tuples of constants -/
theorem tup_ne {H : Hp} {f L : Addr} {xs : List V} (h : H f = some (.tup xs)) (w : Well H L) : f ≠ L := by
  obtain ⟨x, y, e⟩ := w
  exact ne_of h e fun z => by cases z
theorem keeps_upd {L D : Addr} {H H' : Hp} {o : HO} (k : Keeps L H H') (n : H D = none) : Keeps L H (upd H' D o) := fun b x hb e => by
  rw [upd_ne (ne_of_none e n)]
  exact k b x hb e
theorem well_upd {L D : Addr} {H : Hp} {o : HO} (w : Well H L) (n : D ≠ L) : Well (upd H D o) L := by
  obtain ⟨x, y, e⟩ := w
  exact ⟨x, y, by rw [upd_ne n.symm]; exact e⟩
theorem same_upd {D : Addr} {H H' : Hp} {o : HO} (k : Same H H') (n : H D = none) : Same H (upd H' D o) := fun b x e => by
  rw [upd_ne (ne_of_none e n)]
  exact k b x e
def conT : List V → TA
  | [] => tNil
  | v :: vs => tCons (tC v) (conT vs)
theorem con_read : ∀ (vs : List V) (σ : L2.St) (H : Hp) (P : List V → Hp → Prop), P vs H → conT vs σ H P
  | [], _, _, _, h => h
  | v :: vs, σ, H, P, h => con_read vs σ H (fun xs H2 => P (v :: xs) H2) h
def menuT : List (List V) → TA
  | [] => tNil
  | p :: ms => tCons (tTup (conT p)) (menuT ms)
def MAt (H : Hp) (v : V) (p : List V) : Prop := ∃ r, v = .ref r ∧ H r = some (.tup p)
def Menu (H : Hp) (xs : List V) (ms : List (List V)) : Prop := ∀ v ∈ xs, ∃ p ∈ ms, MAt H v p
theorem MAt.same {H H' : Hp} {v : V} {p : List V} (h : MAt H v p) (sm : Same H H') : MAt H' v p := by
  obtain ⟨r, e, h⟩ := h
  exact ⟨r, e, sm _ _ h⟩
theorem Menu.same {H H' : Hp} {xs : List V} {ms : List (List V)} (h : Menu H xs ms) (sm : Same H H') : Menu H' xs ms := fun v hv => by
  obtain ⟨p, hp, h⟩ := h v hv
  exact ⟨p, hp, h.same sm⟩
theorem Menu.keep {L : Addr} {H H' : Hp} {xs : List V} {ms : List (List V)} (h : Menu H xs ms) (w : Well H L) (k : Keeps L H H') : Menu H' xs ms := fun v hv => by
  obtain ⟨p, hp, r, e, h⟩ := h v hv
  exact ⟨p, hp, r, e, k _ _ (tup_ne h w) h⟩
theorem Menu.app {H : Hp} {xs ys : List V} {ms ns : List (List V)} (h : Menu H xs ms) (g : Menu H ys ns) : Menu H (xs ++ ys) (ms ++ ns) := fun v hv => by
  rcases List.mem_append.mp hv with hv | hv
  · obtain ⟨p, hp, h⟩ := h v hv
    exact ⟨p, List.mem_append_left _ hp, h⟩
  · obtain ⟨p, hp, h⟩ := g v hv
    exact ⟨p, List.mem_append_right _ hp, h⟩
theorem menu_read : ∀ (ms : List (List V)) (_ : ∀ p ∈ ms, p.length ≤ 10) (σ : L2.St) (H : Hp) (P : List V → Hp → Prop), (∀ H' xs, Same H H' → Menu H' xs ms → xs.length = ms.length → P xs H') → menuT ms σ H P
  | [], _, σ, H, P, h => h H [] (Same.refl _) (fun _ hv => by cases hv) rfl
  | p :: ms, hs, σ, H, P, h => by
    refine con_read p σ H _ ⟨by have := hs p (List.mem_cons_self ..); rw [sizeLine_eq]; omega, fun r nr => ?_⟩
    refine menu_read ms (fun q hq => hs q (List.mem_cons_of_mem _ hq)) σ _ _ fun H' xs sm hm hl => ?_
    refine h H' (.ref r :: xs) ((same_new nr).trans sm) (fun v hv => ?_) (by rw [List.length_cons, hl, List.length_cons])
    rcases List.mem_cons.mp hv with rfl | hv
    · exact ⟨p, List.mem_cons_self .., r, rfl, sm _ _ upd_same⟩
    · obtain ⟨q, hq, h'⟩ := hm v hv
      exact ⟨q, List.mem_cons_of_mem _ hq, h'⟩
def MsOk (ms : List (List V)) : Prop := ms.length ≤ 100 ∧ ∀ p ∈ ms, p.length ≤ 10
instance (ms : List (List V)) : Decidable (MsOk ms) := inferInstanceAs (Decidable (_ ∧ _))
/-- the list of a menu -/
theorem menu_list (ms : List (List V)) (hs : MsOk ms) (σ : L2.St) (H : Hp) (Q : VK) (h : ∀ H' a xs, Same H H' → H' a = some (.lst xs) → H a = none → Menu H' xs ms → xs.length = ms.length → Q (.ref a) H') : tLst (menuT ms) σ H Q := by
  refine menu_read ms hs.2 σ H _ fun H' xs sm hm hl => ⟨by rw [hl]; exact Nat.le_trans hs.1 (by decide), fun a na => ?_⟩
  refine h _ a xs (sm.trans (same_new na)) upd_same ?_ (hm.same (same_new na)) hl
  cases e : H a with
  | none => rfl
  | some o => rw [sm _ _ e] at na; cases na
theorem cat_menu {σ : L2.St} {H : Hp} {Q : VK} {i : Nat} {a : Addr} {xs : List V} {ms0 : List (List V)} (ms : List (List V)) (hs : MsOk ms) (hi : σ[i]? = some (some (.ref a))) (ha : H a = some (.lst xs)) (hm : Menu H xs ms0) (hl : xs.length ≤ 100)
    (h : ∀ H' c ys, Same H H' → H' c = some (.lst ys) → H c = none → Menu H' ys (ms0 ++ ms) → ys.length = xs.length + ms.length → Q (.ref c) H') : tOp rCat (tVar i) (tLst (menuT ms)) σ H Q := by
  refine ⟨_, hi, menu_list ms hs _ _ _ fun H2 b ys sm2 hb nb hm2 hl2 => ?_⟩
  have ha2 := sm2 _ _ ha
  have h1 := hs.1
  refine ⟨a, b, xs, ys, rfl, rfl, ha2, hb, by rw [hl2, sizeLine_eq]; omega, fun p np => ?_⟩
  have np0 : H p = none := by
    cases e : H p with
    | none => rfl
    | some o => rw [sm2 _ _ e] at np; cases np
  exact h _ p (xs ++ ys) (sm2.trans (same_new np)) upd_same np0 (((hm.same sm2).app hm2).same (same_new np)) (by rw [List.length_append, hl2])
/-- one of a menu that stands at an address -/
theorem one_at {K : PySem.W.Frag} {ms : List (List V)} {xs : List V} {a : Addr} {H : Hp} {Q : VK} {L : Addr} {E : XK} (w : Well H L) (ha : H a = some (.lst xs)) (hL : a ≠ L) (hm : Menu H xs ms) (h0 : xs ≠ []) (hl : xs.length ≤ 1000)
    (h : ∀ H' r p, Keeps L H H' → Well H' L → p ∈ ms → H' r = some (.tup p) → Q (.ref r) H') : sp__law_one K [.ref L, .ref a] H Q E := by
  refine ⟨L, a, xs, rfl, SqL.of ha, hL, h0, by omega, w, fun H2 v k2 w2 hv => ?_⟩
  obtain ⟨p, hp, r, rfl, hr⟩ := (hm.keep w k2) v hv
  exact h H2 r p k2 w2 hp hr
/-- one of a written menu -/
theorem one_menu {K : PySem.W.Frag} (ms : List (List V)) (h0 : ms ≠ []) (hs : MsOk ms) {σ : L2.St} {H : Hp} {Q : VK} {L : Addr} (w : Well H L) {i : Nat} (hi : σ[i]? = some (some (.ref L)))
    (h : ∀ H' r p, Keeps L H H' → Well H' L → p ∈ ms → H' r = some (.tup p) → Q (.ref r) H') :
    tCall (sp__law_one K) [] E0 (tCons (tVar i) (tCons (tLst (menuT ms)) tNil)) σ H Q := by
  refine ⟨_, hi, menu_list ms hs σ H _ fun H1 a xs sm ha na hm hl => ?_⟩
  have h1 := hs.1
  show sp__law_one K [.ref L, .ref a] H1 Q E0
  exact one_at (w.same sm) ha (w.ne na) hm (by intro z; rw [z] at hl; exact h0 (List.eq_nil_of_length_eq_zero hl.symm)) (by omega) fun H2 r p k2 w2 hp hr => h H2 r p ((Keeps.of sm).trans k2) w2 hp hr
/-- one of a list and a written menu behind it -/
theorem one_cat {K : PySem.W.Frag} {ms0 : List (List V)} {xs : List V} {a : Addr} (ms : List (List V)) (hs : MsOk ms) {σ : L2.St} {H : Hp} {Q : VK} {L : Addr} (w : Well H L) {i j : Nat} (hi : σ[i]? = some (some (.ref L))) (hj : σ[j]? = some (some (.ref a)))
    (ha : H a = some (.lst xs)) (hm : Menu H xs ms0) (h0 : xs ≠ []) (hl : xs.length ≤ 100)
    (h : ∀ H' r p, Keeps L H H' → Well H' L → p ∈ ms0 ++ ms → H' r = some (.tup p) → Q (.ref r) H') :
    tCall (sp__law_one K) [] E0 (tCons (tVar i) (tCons (tOp rCat (tVar j) (tLst (menuT ms))) tNil)) σ H Q := by
  refine ⟨_, hi, cat_menu ms hs hj ha hm hl fun H1 c ys sm hc nc hm1 hl1 => ?_⟩
  have h1 := hs.1
  show sp__law_one K [.ref L, .ref c] H1 Q E0
  exact one_at (w.same sm) hc (w.ne nc) hm1 (by intro z; rw [z] at hl1; have := List.length_pos_iff.mpr h0; simp at hl1; omega) (by omega) fun H2 r p k2 w2 hp hr => h H2 r p ((Keeps.of sm).trans k2) w2 hp hr
/-- one of some texts -/
theorem con_texts (ms : List Str) : (ms.map fun s => V.str s) = ms.map .str := rfl
theorem one_text {K : PySem.W.Frag} (ms : List (List Nat)) {vs : List V} (e : vs = ms.map fun s => V.str (S s)) (h0 : ms ≠ []) (hs : ms.length ≤ 100) {σ : L2.St} {H : Hp} {Q : VK} {L : Addr} (w : Well H L) {i : Nat} (hi : σ[i]? = some (some (.ref L)))
    (h : ∀ H' s, Keeps L H H' → Well H' L → s ∈ ms → Q (.str (S s)) H') :
    tCall (sp__law_one K) [] E0 (tCons (tVar i) (tCons (tLst (conT vs)) tNil)) σ H Q := by
  subst e
  refine ⟨_, hi, con_read _ σ H _ ⟨by rw [List.length_map]; exact Nat.le_trans hs (by decide), fun a na => ?_⟩⟩
  refine ⟨L, a, _, rfl, SqL.of upd_same, w.ne na, by simpa using h0, by rw [List.length_map]; omega, w.new na, fun H2 v k2 w2 hv => ?_⟩
  obtain ⟨s, hs, rfl⟩ := List.mem_map.mp hv
  exact h H2 s ((Keeps.new na).trans k2) w2 hs
theorem p0 (x y : V) : atI [x, y] 0 = some x := atI_nat (j := 0) rfl
theorem p1 (x y : V) : atI [x, y] 1 = some y := atI_nat (j := 1) rfl
/-- the draw of a number -/
theorem one_draw {K : PySem.W.Frag} {σ : L2.St} {H : Hp} {Q : VK} {L : Addr} (m : Nat) (hm : 0 < m ∧ m < 1000000) (w : Well H L) {i : Nat} (hi : σ[i]? = some (some (.ref L)))
    (h : ∀ H' (d : Nat), Keeps L H H' → Well H' L → d < m → Q (.int (d : Nat)) H') :
    tCall (sp__law_draw K) [] E0 (tCons (tVar i) (tCons (tC (.int (m : Nat))) tNil)) σ H Q :=
  ⟨_, hi, L, (m : Int), rfl, by omega, by omega, w, fun H' d k w' h0 h1 => by
    obtain ⟨j, rfl⟩ := Int.eq_ofNat_of_zero_le h0
    exact h H' j k w' (by omega)⟩
theorem seq_if_g {c : TT} {a b u : TS} {D : Ends} {σ : L2.St} {H : Hp} {i : Nat} {x : V} (P : L2.St → Hp → Prop) (h1 : ∀ N : L2.St → Hp → Prop, (∀ σ' H', P σ' H' → N σ' H') → tIfS c a b { D with nx := N } (σ.set i (some x)) H) (h2 : ∀ σ' H', P σ' H' → u D σ' H') :
    gName i x σ H { D with nx := tSeq (tIfS c a b) u D }.nx := h1 _ h2
theorem asg_if2 {t : TT} {ta tb : TE} {g : TG} {u : TS} {D : Ends} {σ : L2.St} {H : Hp} (R : Hp → Prop) (P : V → Hp → Prop) (ht : ∀ Qb : Bool → Hp → Prop, (∀ b H', R H' → Qb b H') → t σ H Qb) (ha : ∀ H', R H' → ValB ta σ H' P) (hb : ∀ H', R H' → ValB tb σ H' P)
    (hq : ∀ v H', P v H' → g v σ H' (u D)) : tSeq (tAsg (tIf t ta tb) g) u D σ H :=
  ht _ fun b H' r => by
    cases b with
    | true =>
      show (if true = true then _ else _)
      rw [if_pos rfl]
      exact ha H' r _ hq
    | false =>
      show (if false = true then _ else _)
      rw [if_neg Bool.false_ne_true]
      exact hb H' r _ hq
theorem asg_if2_g {t : TT} {ta tb : TE} {g : TG} {u : TS} {D : Ends} {σ : L2.St} {H : Hp} {i : Nat} {x : V} (R : Hp → Prop) (P : V → Hp → Prop) (ht : ∀ Qb : Bool → Hp → Prop, (∀ b H', R H' → Qb b H') → t (σ.set i (some x)) H Qb) (ha : ∀ H', R H' → ValB ta (σ.set i (some x)) H' P) (hb : ∀ H', R H' → ValB tb (σ.set i (some x)) H' P)
    (hq : ∀ v H', P v H' → g v (σ.set i (some x)) H' (u D)) : gName i x σ H { D with nx := tSeq (tAsg (tIf t ta tb) g) u D }.nx := asg_if2 R P ht ha hb hq
theorem asg_if_g {t : TT} {ta tb : TE} {g : TG} {u : TS} {D : Ends} {σ : L2.St} {H : Hp} {i : Nat} {x : V} (P : V → Hp → Prop) (b : Bool) (ht : AnsB t (σ.set i (some x)) H b) (ha : b = true → ValB ta (σ.set i (some x)) H P) (hb : b = false → ValB tb (σ.set i (some x)) H P)
    (hq : ∀ v H', P v H' → g v (σ.set i (some x)) H' (u D)) : gName i x σ H { D with nx := tSeq (tAsg (tIf t ta tb) g) u D }.nx := asg_if P b ht ha hb hq
theorem S_cut_last (l : List Nat) : cutS (S l) none (some (-1)) = S l.dropLast := by
  unfold cutS
  rw [HT.sIx_none, S_len, S_tl]
  show S _ = S _
  congr 1
  rw [List.drop_zero, Nat.sub_zero]
  have : HT.sIx l.length l.length (some (-1)) = l.length - 1 := by
    show (if (-1 : Int) < 0 then ((-1 : Int) + (l.length : Int)).toNat else min (-1 : Int).toNat l.length) = _
    rw [if_pos (by decide)]
    omega
  rw [this, List.dropLast_eq_take]
def AnsV (t : TE) (σ : L2.St) (H : Hp) (c : Bool) : Prop := ∀ Q : VK, Q (.bl c) H → t σ H Q
theorem andV {ta tb : TE} {σ : L2.St} {H : Hp} {a b : Bool} (ha : AnsV ta σ H a) (hb : AnsV tb σ H b) : AnsV (tAndV ta tb) σ H (a && b) := fun Q q => by
  refine ha _ ⟨a, rfl, ?_⟩
  cases a with
  | true => exact hb _ q
  | false => exact q
theorem orV {ta tb : TE} {σ : L2.St} {H : Hp} {a b : Bool} (ha : AnsV ta σ H a) (hb : AnsV tb σ H b) : AnsV (tOrV ta tb) σ H (a || b) := fun Q q => by
  refine ha _ ⟨a, rfl, ?_⟩
  cases a with
  | true => exact q
  | false => exact hb _ q

/-! ### drawn references -/
theorem lit_x : ("x" : Str) = S [120] := by decide +kernel
theorem lit_dec : ("&#" : Str) = S [38, 35] := by decide +kernel
theorem bads : ([.str "", .str "", .str "", .str "x"] : List V) = ([[], [], [], [120]] : List (List Nat)).map fun s => V.str (S s) := by decide +kernel
theorem exes : ([.str "x", .str "X"] : List V) = ([[120], [88]] : List (List Nat)).map fun s => V.str (S s) := by decide +kernel
def sp__law_reference (K : PySem.W.Frag) : Sp := fun vs H Q _ => ∃ L : Addr, vs = [.ref L] ∧ Well H L ∧
  ∀ H' r a sg, Keeps L H H' → Well H' L → H' r = some (.tup [.str (S (38 :: (a ++ [59]))), sv sg]) → RefOk a sg → Q (.ref r) H'
theorem ok__law_reference {P : Program} {w : World} {K : PySem.W.Frag} {mg : Str → Option Value} {base : Heap} (T : Txt w K mg) : FnOk P w K mg base CX0 3 T.a__law_reference T.d__law_reference ["_law_well_here"] (sp__law_reference K) := by
  refine T.f__law_reference.ok sc__law_reference (fun vs H Q E h => ?_) (fun cdv A outer s H vs Q E hr h => ?_)
  · obtain ⟨L, rfl, _⟩ := h
    rfl
  · obtain ⟨L, rfl, hW, q⟩ := h
    refine ⟨_, (pss_cons (ps_set (i := 1) sc__law_reference.nd rfl (.inl rfl) (pe_call (ok__law_draw T) (hr.mono (by decide)) (by rfl) T.g__law_draw T.f__law_draw.kp T.b__law_draw .nil pass0 (pa_cons (pv 0) (pa_cons pe_int pa_nil))))
        (pss_cons (ps_set (i := 2) sc__law_reference.nd rfl (.inl rfl) (pe_call0 (ok__law_names T) (hr.mono (by decide)) (by rfl) T.g__law_names T.f__law_names.kp T.b__law_names .nil pass0))
        (pss_cons (ps_if (pt_cmpR op_lt (pv 1) pe_int (nomark _)) (pss_cons (ps_set (i := 3) sc__law_reference.nd rfl (.inl rfl) (pe_call (ok__law_one T) (hr.mono (by decide)) (by rfl) T.g__law_one T.f__law_one.kp T.b__law_one .nil pass0 (pa_cons (pv 0) (pa_cons (pe_callB (call_sortedD rfl) (by rfl) T.z_sorted (by decide +kernel) (pa_cons (pv 2) pa_nil)) pa_nil))))
        (pss_cons (ps_set (i := 4) sc__law_reference.nd rfl (.inl rfl) (pe_call (ok__law_one T) (hr.mono (by decide)) (by rfl) T.g__law_one T.f__law_one.kp T.b__law_one .nil pass0 (pa_cons (pv 0) (pa_cons (pe_lst (pa_cons pe_str (pa_cons pe_str (pa_cons pe_str (pa_cons pe_str pa_nil))))) pa_nil))))
        (pss_one (ps_ret (pe_tup (pa_cons (pe_op op_add_str (pe_op op_add_str (pe_op op_add_str pe_str (pv 3)) (pv 4)) pe_str) (pa_cons (pe_ifExp (pt_cmpR op_eq (pv 4) pe_str (nomark _)) (pe_dget (hu_of hr) (pv 2) (pv 3) (fun _ _ => rfl)) pe_non) pa_nil))))))) pss_nil)
        (pss_cons (ps_set (i := 5) sc__law_reference.nd rfl (.inl rfl) (pe_call (ok__law_one T) (hr.mono (by decide)) (by rfl) T.g__law_one T.f__law_one.kp T.b__law_one .nil pass0 (pa_cons (pv 0) (pa_cons (pe_lst (pa_cons (pe_call (ok__law_draw T) (hr.mono (by decide)) (by rfl) T.g__law_draw T.f__law_draw.kp T.b__law_draw .nil pass0 (pa_cons (pv 0) (pa_cons pe_int pa_nil))) (pa_cons pe_int (pa_cons pe_int (pa_cons pe_int (pa_cons pe_int (pa_cons pe_int (pa_cons pe_int (pa_cons pe_int (pa_cons pe_int (pa_cons pe_int (pa_cons pe_int (pa_cons pe_int (pa_cons pe_int (pa_cons pe_int pa_nil))))))))))))))) pa_nil))))
        (pss_cons (ps_set (i := 6) sc__law_reference.nd rfl (.inl rfl) (pe_op op_mul_str pe_str (pe_call (ok__law_draw T) (hr.mono (by decide)) (by rfl) T.g__law_draw T.f__law_draw.kp T.b__law_draw .nil pass0 (pa_cons (pv 0) (pa_cons pe_int pa_nil)))))
        (pss_cons (ps_if (pt_cmpR op_lt (pv 1) pe_int (nomark _)) (pss_cons (ps_set (i := 7) sc__law_reference.nd rfl (.inl rfl) (pe_op op_add_str (pv 6) (pe_callTy call_str_int (by rfl) T.z_str (by decide +kernel) (pa_cons (pv 5) pa_nil))))
        (pss_one (ps_ret (pe_tup (pa_cons (pe_op op_add_str (pe_op op_add_str pe_str (pv 7)) pe_str) (pa_cons (pe_ifExp (pt_cmpR op_le (pe_callB call_len_str (by rfl) T.z_len PySem.boot_len (pa_cons (pv 7) pa_nil)) pe_int (nomark _)) (pe_call (ok__law_sign T) (hr.mono (by decide)) (by rfl) T.g__law_sign T.f__law_sign.kp T.b__law_sign .nil pass0 (pa_cons (pv 5) pa_nil)) pe_non) pa_nil)))))) pss_nil)
        (pss_cons (ps_set (i := 7) sc__law_reference.nd rfl (.inl rfl) (pe_op op_add_str (pv 6) (pe_call (ok__law_sixteens T) (hr.mono (by decide)) (by rfl) T.g__law_sixteens T.f__law_sixteens.kp T.b__law_sixteens .nil pass0 (pa_cons (pv 5) pa_nil))))
        (pss_cons (ps_if (pt_cmpR op_eq (pe_call (ok__law_draw T) (hr.mono (by decide)) (by rfl) T.g__law_draw T.f__law_draw.kp T.b__law_draw .nil pass0 (pa_cons (pv 0) (pa_cons pe_int pa_nil))) pe_int (nomark _)) (pss_one (ps_set (i := 7) sc__law_reference.nd rfl (.inl rfl) (pe_bm0 PySem.F.plainAttrs_str PySem.F.slot_str_upper PySem.F.type_str_upper mt_upper (pv 7)))) pss_nil)
        (pss_cons (ps_set (i := 8) sc__law_reference.nd rfl (.inl rfl) (pe_ifExp (pt_cmpR op_le (pe_callB call_len_str (by rfl) T.z_len PySem.boot_len (pa_cons (pv 7) pa_nil)) pe_int (nomark _)) (pe_call (ok__law_sign T) (hr.mono (by decide)) (by rfl) T.g__law_sign T.f__law_sign.kp T.b__law_sign .nil pass0 (pa_cons (pv 5) pa_nil)) pe_non))
        (pss_one (ps_ret (pe_tup (pa_cons (pe_op op_add_str (pe_op op_add_str (pe_op op_add_str pe_str (pe_call (ok__law_one T) (hr.mono (by decide)) (by rfl) T.g__law_one T.f__law_one.kp T.b__law_one .nil pass0 (pa_cons (pv 0) (pa_cons (pe_lst (pa_cons pe_str (pa_cons pe_str pa_nil))) pa_nil)))) (pv 7)) pe_str) (pa_cons (pv 8) pa_nil)))))))))))))), ?_⟩
    refine one_draw 6 (by decide) hW rfl fun H1 d k1 w1 hd => ?_
    refine ⟨rfl, fun H2 nd s2 nnd hnd => ?_⟩
    have ndL : nd ≠ L := by
      obtain ⟨x, y, e⟩ := w1.same s2
      exact ne_of hnd e fun z => by cases z
    have k2 := k1.trans (Keeps.of s2)
    have w2 := w1.same s2
    refine ⟨_, rfl, _, _, rfl, rfl, _, rfl, ite2 (fun hway => ?_) (fun hway => ?_)⟩
    · -- a name
      refine ⟨_, rfl, _, rfl, nd, NamesK, NamesL.map fun p => S p.1, rfl, .inl hnd, by decide +kernel, by decide, fun ys p hperm _ np => ?_⟩
      have wp := w2.new (p := p) (o := .lst (ys.map V.str)) np
      have npL : p ≠ L := w2.ne np
      have ndp : nd ≠ p := ne_of_none hnd np
      have hys : ys.length = 19 := by
        rw [hperm.length_eq]
        decide
      refine ⟨L, p, ys.map V.str, rfl, SqL.of upd_same, npL, ?_, by rw [List.length_map, hys]; decide, wp, fun H3 v k3 w3 hv => ?_⟩
      · intro z
        have := congrArg List.length z
        rw [List.length_map, hys] at this
        cases this
      obtain ⟨y, hy, rfl⟩ := List.mem_map.mp hv
      obtain ⟨nm, hnm, rfl⟩ := List.mem_map.mp (hperm.mem_iff.mp hy)
      have hnd3 : H3 nd = some (.dK NamesK) := k3 _ _ ndL (by rw [upd_ne ndp]; exact hnd)
      refine one_text [[], [], [], [120]] bads (by decide) (by decide) w3 rfl fun H4 bad k4 w4 hb => ?_
      have hnd4 := k4 _ _ ndL hnd3
      have kk : Keeps L H H4 := ((k2.trans (.new np)).trans k3).trans k4
      obtain ⟨g1, g2⟩ := name_ok nm hnm
      have ln : nm.1.length ≤ 20 := (refOk_of g1).2.2.2.2.1
      have lb : bad.length ≤ 1 := by
        have : ∀ b ∈ ([[], [], [], [120]] : List (List Nat)), b.length ≤ 1 := by decide
        exact this _ hb
      rw [lit_amp, lit_semi, lit_e]
      refine ⟨_, rfl, _, _, rfl, rfl, add_S (n := 100) (by simp; omega), ?_⟩
      rw [S_app]
      refine ⟨_, rfl, _, _, rfl, rfl, add_S (n := 100) (by simp; omega), ?_⟩
      rw [S_app]
      refine ⟨_, _, rfl, rfl, add_S (n := 100) (by simp; omega), ?_⟩
      rw [S_app]
      have et : [38] ++ nm.1 ++ bad ++ [59] = 38 :: ((nm.1 ++ bad) ++ [59]) := by simp
      rw [et]
      refine ⟨_, rfl, rfl, _, rfl, ?_⟩
      rw [S_dec]
      by_cases hbad : bad = []
      · rw [decide_eq_true hbad]
        refine iteT ⟨_, rfl, _, rfl, nd, .str (S [nm.2]), rfl, ?_, by show 2 ≤ sizeLine; decide, fun r nr => ?_⟩
        · have := DGet.k (k := Sum.inr (S nm.1)) hnd4
          rw [names_get hnm] at this
          exact this
        · subst hbad
          exact q _ r (nm.1 ++ []) (some nm.2) (kk.trans (.new nr)) (w4.new nr) upd_same (by rw [List.append_nil]; exact refOk_of g1)
      · rw [decide_eq_false hbad]
        refine iteF ⟨by show 2 ≤ sizeLine; decide, fun r nr => ?_⟩
        have : bad = [120] := by
          have : ∀ b ∈ ([[], [], [], [120]] : List (List Nat)), b ≠ [] → b = [120] := by decide
          exact this _ hb hbad
        subst this
        exact q _ r (nm.1 ++ [120]) none (kk.trans (.new nr)) (w4.new nr) upd_same (refOk_of g2)
    · -- a number
      refine ⟨_, rfl, ?_⟩
      refine one_draw 140 (by decide) w2 rfl fun H3 d3 k3 w3 hd3 => ?_
      refine ⟨by show 14 ≤ sizeLine; decide, fun p np => ?_⟩
      refine ⟨L, p, _, rfl, SqL.of upd_same, w3.ne np, (by intro z; cases z), (by show 14 < 1000000; decide), w3.new np, fun H4 v k4 w4 hv => ?_⟩
      obtain ⟨n, hn, rfl⟩ : ∃ n : Nat, n ∈ NumSet ∧ v = V.int (n : Nat) := by
        simp only [List.mem_cons, List.not_mem_nil, or_false] at hv
        have hN : ∀ n, n < 140 → n ∈ NumSet := fun n h => List.mem_append_left _ (List.mem_range.mpr h)
        rcases hv with rfl | rfl | rfl | rfl | rfl | rfl | rfl | rfl | rfl | rfl | rfl | rfl | rfl | rfl
        · exact ⟨_, hN _ hd3, rfl⟩
        · exact ⟨9, hN _ (by decide), rfl⟩
        · exact ⟨10, hN _ (by decide), rfl⟩
        · exact ⟨32, hN _ (by decide), rfl⟩
        · exact ⟨36, hN _ (by decide), rfl⟩
        · exact ⟨37, hN _ (by decide), rfl⟩
        · exact ⟨38, hN _ (by decide), rfl⟩
        · exact ⟨126, hN _ (by decide), rfl⟩
        · exact ⟨127, hN _ (by decide), rfl⟩
        · exact ⟨11, hN _ (by decide), rfl⟩
        · exact ⟨8, hN _ (by decide), rfl⟩
        · exact ⟨0, hN _ (by decide), rfl⟩
        · exact ⟨65, hN _ (by decide), rfl⟩
        · exact ⟨8212, List.mem_append_right _ (by decide), rfl⟩
      have kk4 : Keeps L H H4 := ((k2.trans k3).trans (.new np)).trans k4
      refine one_draw 7 (by decide) w4 rfl fun H5 z k5 w5 hz => ?_
      have kk5 := kk4.trans k5
      rw [lit_0]
      refine ⟨48, z, rfl, rfl, by omega, ?_⟩
      have hdl := digsN_len n hn
      refine ⟨_, rfl, _, _, rfl, rfl, _, rfl, ite2 (fun hw4 => ?_) (fun hw4 => ?_)⟩
      · -- in tens
        have hlog : ((n : Nat) : Int).natAbs.log2 < 1920 := by
          have h1 : ((n : Nat) : Int).natAbs = n := Int.natAbs_natCast n
          rw [h1]
          by_cases h0 : n = 0
          · subst h0
            decide
          · exact (Nat.log2_lt h0).mpr (Nat.lt_of_lt_of_le hdl.2 (by decide +kernel))
        refine ⟨_, rfl, _, rfl, _, rfl, hlog, ?_⟩
        rw [show Str.ofString (toString ((n : Nat) : Int)) = S (digsN n) from S_of _]
        refine ⟨_, _, rfl, rfl, add_S (n := 100) (by rw [List.length_replicate]; omega), ?_⟩
        rw [S_app]
        rw [lit_dec, lit_semi]
        have g1 := dec_ok n hn z hz
        have ld : (List.replicate z 48 ++ digsN n).length = z + (digsN n).length := by rw [List.length_append, List.length_replicate]
        generalize hds : List.replicate z 48 ++ digsN n = ds at g1 ld ⊢
        refine ⟨_, rfl, _, _, rfl, rfl, add_S (n := 100) (by simp; omega), ?_⟩
        rw [S_app]
        refine ⟨_, _, rfl, rfl, add_S (n := 100) (by simp; omega), ?_⟩
        rw [S_app]
        have et : [38, 35] ++ ds ++ [59] = 38 :: ((35 :: ds) ++ [59]) := by simp
        rw [et]
        refine ⟨_, rfl, _, rfl, by rw [S_len, sizeLine_eq]; omega, _, _, rfl, rfl, _, rfl, ?_⟩
        by_cases h7 : z + (digsN n).length ≤ 7
        · rw [if_pos h7] at g1
          rw [decide_eq_true (by rw [S_len, ld]; omega)]
          refine iteT ⟨_, rfl, n, rfl, fun H6 s6 => ⟨by show 2 ≤ sizeLine; decide, fun r nr => ?_⟩⟩
          exact q _ r (35 :: ds) (sgnR n) ((kk5.trans (Keeps.of s6)).trans (.new nr)) ((w5.same s6).new nr) upd_same (refOk_of g1)
        · rw [if_neg h7] at g1
          rw [decide_eq_false (by rw [S_len, ld]; omega)]
          refine iteF ⟨by show 2 ≤ sizeLine; decide, fun r nr => ?_⟩
          exact q _ r (35 :: ds) none (kk5.trans (.new nr)) (w5.new nr) upd_same (refOk_of g1)
      · -- in sixteens
        refine ⟨_, rfl, _, rfl, n, rfl, _, _, rfl, rfl, add_S (n := 100) (by have := hexN_len n; rw [List.length_replicate]; omega), ?_⟩
        rw [S_app]
        have hhl := hexN_len n
        have ld : (List.replicate z 48 ++ hexN n).length = z + (hexN n).length := by rw [List.length_append, List.length_replicate]
        have lasc : ∀ c ∈ List.replicate z 48 ++ hexN n, c < 128 := by
          have := (refOk_of (hex_ok n hn z hz 120 (by decide))).2.2.2.1
          intro c hc
          exact this c (List.mem_cons_of_mem _ (List.mem_cons_of_mem _ hc))
        have g1 := hex_ok n hn z hz
        have g2 := hexU_ok n hn z hz
        generalize hds : List.replicate z 48 ++ hexN n = ds at g1 g2 ld lasc ⊢
        refine seq_if_g (fun σ' H' => ∃ es : List Nat, σ' = [some (.ref L), some (.int (d : Nat)), some (.ref nd), none, none, some (.int (n : Nat)), some (.str (S (List.replicate z 48))), some (.str (S es)), none] ∧ Keeps L H H' ∧ Well H' L ∧ es.length = z + (hexN n).length ∧
          ∀ X ∈ [120, 88], refOkB (35 :: X :: es) (if z + (hexN n).length ≤ 6 then sgnR n else none) = true) (fun N qN => ?_) ?_
        · refine one_draw 2 (by decide) w5 rfl fun H6 b k6 w6 hb => ?_
          refine ⟨rfl, _, rfl, ite2 (fun _ => ?_) (fun _ => ?_)⟩
          · refine ⟨_, rfl, rfl, _, rfl, rfl, by rw [S_len]; omega, ?_⟩
            rw [upper_S ds lasc]
            exact qN _ _ ⟨ds.map up1, rfl, kk5.trans k6, w6, by rw [List.length_map]; exact ld, g2⟩
          · exact qN _ _ ⟨ds, rfl, kk5.trans k6, w6, ld, g1⟩
        · rintro σ6 H6 ⟨es, rfl, k6, w6, le, ge⟩
          have e6 : decide (((S es).length : Int) ≤ 6) = decide (z + (hexN n).length ≤ 6) := by
            rw [S_len, le]
            by_cases h : z + (hexN n).length ≤ 6
            · rw [decide_eq_true h]
              exact decide_eq_true (by omega)
            · rw [decide_eq_false h]
              exact decide_eq_false (by omega)
          refine asg_if (fun v H' => v = sv (if z + (hexN n).length ≤ 6 then sgnR n else none) ∧ Same H6 H') (decide (z + (hexN n).length ≤ 6)) (fun Qb qb => ⟨_, rfl, _, rfl, by rw [S_len, sizeLine_eq]; omega, _, _, rfl, rfl, _, rfl, by rw [e6]; exact qb⟩) (fun h Qv qv => ?_) (fun h Qv qv => ?_) ?_
          · refine ⟨_, rfl, n, rfl, fun H7 s7 => qv _ _ ⟨?_, s7⟩⟩
            rw [if_pos (of_decide_eq_true h)]
          · refine qv _ _ ⟨?_, Same.refl _⟩
            rw [if_neg (of_decide_eq_false h)]
            rfl
          · rintro v7 H7 ⟨rfl, s7⟩
            rw [lit_dec, lit_semi]
            refine one_text [[120], [88]] exes (by decide) (by decide) (w6.same s7) rfl fun H8 X k8 w8 hX => ?_
            obtain ⟨x, hx, rfl⟩ : ∃ x ∈ [120, 88], X = [x] := by
              simp only [List.mem_cons, List.not_mem_nil, or_false] at hX
              rcases hX with rfl | rfl
              · exact ⟨120, by decide, rfl⟩
              · exact ⟨88, by decide, rfl⟩
            refine ⟨_, _, rfl, rfl, add_S (n := 100) (by simp), ?_⟩
            rw [S_app]
            refine ⟨_, rfl, _, _, rfl, rfl, add_S (n := 100) (by simp; omega), ?_⟩
            rw [S_app]
            refine ⟨_, _, rfl, rfl, add_S (n := 100) (by simp; omega), ?_⟩
            rw [S_app]
            have et : [38, 35] ++ [x] ++ es ++ [59] = 38 :: ((35 :: x :: es) ++ [59]) := by simp
            rw [et]
            refine ⟨_, rfl, by show 2 ≤ sizeLine; decide, fun r nr => ?_⟩
            exact q _ r (35 :: x :: es) _ (((k6.trans (Keeps.of s7)).trans k8).trans (.new nr)) (w8.new nr) upd_same (refOk_of (ge x hx))

/-! ### pieces -/
def P1 : List (List V) := [[.str "a", .str "a"], [.str " ", .str " "], [.str "\n", .str "\n"], [.str "\\*", .str "*"], [.str "\\\\", .str "\\"], [.str "\\&", .str "&"], [.str "\\a", .str "\\a"]]
def P2 : List (List V) := [[.str "\\;", .str ";"], [.str "*", .str "*"], [.str "& ", .str "& "], [.str "&#;", .str "&#;"], [.str "&x;", .str "&x;"], [.str "&amp", .str "&amp"]]
def P3 : List (List V) := [[.str "&AMP;", .str "&AMP;"]]
def P4 : List (List V) := [[.str "\\ ", .str "\\ "], [.str "&#x;", .str "&#x;"], [.str "&;", .str "&;"], [.str "b", .str "b"], [.str "\\\n", .str "\\\n"]]
theorem p1_ok : MsOk P1 := by decide +kernel
theorem p2_ok : MsOk P2 := by decide +kernel
theorem p3_ok : MsOk P3 := by decide +kernel
theorem p4_ok : MsOk P4 := by decide +kernel
theorem p_all : P1 ++ P2 ++ P3 ++ P4 = PieceMenu.map fun p => [.str (S p.1), .str (S p.2)] := by decide +kernel
theorem p_small : ∀ p ∈ PieceMenu, p.1.length ≤ 30 ∧ p.2.length ≤ 30 ∧ ∀ c ∈ p.1, c < 128 := by decide +kernel
def sp__law_piece (K : PySem.W.Frag) : Sp := fun vs H Q _ => ∃ L : Addr, vs = [.ref L] ∧ Well H L ∧
  ∀ H' r x m, Keeps L H H' → Well H' L → H' r = some (.tup [.str (S x), .str (S m)]) → Piece x m → x.length ≤ 30 → m.length ≤ 30 → Asc x → Q (.ref r) H'
theorem meaning_v (a : List Nat) (sg : Option Nat) : (if sg = none then V.str (S (38 :: (a ++ [59]))) else sv sg) = .str (S (meaning a sg)) := by cases sg <;> rfl
theorem ok__law_piece {P : Program} {w : World} {K : PySem.W.Frag} {mg : Str → Option Value} {base : Heap} (T : Txt w K mg) : FnOk P w K mg base CX0 4 T.a__law_piece T.d__law_piece ["_law_well_here"] (sp__law_piece K) := by
  refine T.f__law_piece.ok sc__law_piece (fun vs H Q E h => ?_) (fun cdv A outer s H vs Q E hr h => ?_)
  · obtain ⟨L, rfl, _⟩ := h
    rfl
  · obtain ⟨L, rfl, hW, q⟩ := h
    refine ⟨_, (pss_cons (ps_set (i := 1) sc__law_piece.nd rfl (.inl rfl) (pe_call (ok__law_draw T) (hr.mono (by decide)) (by rfl) T.g__law_draw T.f__law_draw.kp T.b__law_draw .nil pass0 (pa_cons (pv 0) (pa_cons pe_int pa_nil))))
        (pss_cons (ps_if (pt_cmpR op_lt (pv 1) pe_int (nomark _)) (pss_cons (ps_asg (pe_call (ok__law_reference T) (hr.mono (by decide)) (by rfl) T.g__law_reference T.f__law_reference.kp T.b__law_reference .nil pass0 (pa_cons (pv 0) pa_nil)) (pg_tup (by rfl) (pgs_cons (pg_name (i := 2) sc__law_piece.nd rfl (.inl rfl)) (pgs_cons (pg_name (i := 3) sc__law_piece.nd rfl (.inl rfl)) pgs_nil))))
        (pss_one (ps_ret (pe_tup (pa_cons (pv 2) (pa_cons (pe_ifExp (pt_cmpR op_isN (pv 3) pe_non (nomark _)) (pv 2) (pv 3)) pa_nil)))))) pss_nil)
        (pss_cons (ps_set (i := 4) sc__law_piece.nd rfl (.inl rfl) (pe_lst (pa_cons (pe_tup (pa_cons pe_str (pa_cons pe_str pa_nil))) (pa_cons (pe_tup (pa_cons pe_str (pa_cons pe_str pa_nil))) (pa_cons (pe_tup (pa_cons pe_str (pa_cons pe_str pa_nil))) (pa_cons (pe_tup (pa_cons pe_str (pa_cons pe_str pa_nil))) (pa_cons (pe_tup (pa_cons pe_str (pa_cons pe_str pa_nil))) (pa_cons (pe_tup (pa_cons pe_str (pa_cons pe_str pa_nil))) (pa_cons (pe_tup (pa_cons pe_str (pa_cons pe_str pa_nil))) pa_nil)))))))))
        (pss_cons (ps_set (i := 4) sc__law_piece.nd rfl (.inl rfl) (pe_op op_cat (pv 4) (pe_lst (pa_cons (pe_tup (pa_cons pe_str (pa_cons pe_str pa_nil))) (pa_cons (pe_tup (pa_cons pe_str (pa_cons pe_str pa_nil))) (pa_cons (pe_tup (pa_cons pe_str (pa_cons pe_str pa_nil))) (pa_cons (pe_tup (pa_cons pe_str (pa_cons pe_str pa_nil))) (pa_cons (pe_tup (pa_cons pe_str (pa_cons pe_str pa_nil))) (pa_cons (pe_tup (pa_cons pe_str (pa_cons pe_str pa_nil))) pa_nil)))))))))
        (pss_cons (ps_set (i := 4) sc__law_piece.nd rfl (.inl rfl) (pe_op op_cat (pv 4) (pe_lst (pa_cons (pe_tup (pa_cons pe_str (pa_cons pe_str pa_nil))) pa_nil))))
        (pss_one (ps_ret (pe_call (ok__law_one T) (hr.mono (by decide)) (by rfl) T.g__law_one T.f__law_one.kp T.b__law_one .nil pass0 (pa_cons (pv 0) (pa_cons (pe_op op_cat (pv 4) (pe_lst (pa_cons (pe_tup (pa_cons pe_str (pa_cons pe_str pa_nil))) (pa_cons (pe_tup (pa_cons pe_str (pa_cons pe_str pa_nil))) (pa_cons (pe_tup (pa_cons pe_str (pa_cons pe_str pa_nil))) (pa_cons (pe_tup (pa_cons pe_str (pa_cons pe_str pa_nil))) (pa_cons (pe_tup (pa_cons pe_str (pa_cons pe_str pa_nil))) pa_nil))))))) pa_nil)))))))))), ?_⟩
    refine one_draw 5 (by decide) hW rfl fun H1 d k1 w1 hd => ?_
    refine ⟨_, rfl, _, _, rfl, rfl, _, rfl, ite2 (fun _ => ?_) (fun _ => ?_)⟩
    · refine ⟨_, rfl, L, rfl, w1, fun H2 r a sg k2 w2 hr2 ok => ?_⟩
      refine ⟨r, _, rfl, SqT.of hr2, rfl, _, _, rfl, _, _, rfl, rfl, ?_⟩
      have la : a.length ≤ 20 := ok.2.2.2.2.1
      have pc := ok_piece ok
      have ha : Asc (38 :: (a ++ [59])) := by
        intro c hc
        rcases List.mem_cons.mp hc with rfl | hc
        · decide
        · rcases List.mem_append.mp hc with hc | hc
          · exact ok.2.2.2.1 c hc
          · rw [List.mem_singleton.mp hc]
            decide
      have lx : (38 :: (a ++ [59])).length ≤ 30 := by simp; omega
      cases sg with
      | none =>
        refine ⟨_, rfl, _, rfl, rfl, _, rfl, iteT ⟨_, rfl, by show 2 ≤ sizeLine; decide, fun p np => ?_⟩⟩
        exact q _ p _ _ ((k1.trans k2).trans (.new np)) (w2.new np) upd_same pc lx lx ha
      | some c =>
        refine ⟨_, rfl, _, rfl, rfl, _, rfl, iteF ⟨_, rfl, by show 2 ≤ sizeLine; decide, fun p np => ?_⟩⟩
        exact q _ p _ _ ((k1.trans k2).trans (.new np)) (w2.new np) upd_same pc lx (by show 1 ≤ 30; decide) ha
    · unfold tNext
      dsimp only
      unfold tSeq tAsg
      dsimp only
      refine menu_list P1 p1_ok _ _ _ fun H2 a2 xs2 s2 h2 n2 m2 l2 => ?_
      refine cat_menu P2 p2_ok rfl h2 m2 (by rw [l2]; decide) fun H3 a3 xs3 s3 h3 n3 m3 l3 => ?_
      refine cat_menu P3 p3_ok rfl h3 m3 (by rw [l3, l2]; decide) fun H4 a4 xs4 s4 h4 n4 m4 l4 => ?_
      have w4 := ((w1.same s2).same s3).same s4
      refine one_cat P4 p4_ok w4 rfl rfl h4 m4 (by intro z; rw [z, l3, l2] at l4; cases l4) (by rw [l4, l3, l2]; decide) fun H5 r p k5 w5 hp hr5 => ?_
      rw [p_all] at hp
      obtain ⟨x, hx, rfl⟩ := List.mem_map.mp hp
      obtain ⟨g1, g2, g3⟩ := p_small x hx
      exact q _ r _ _ ((((k1.trans (Keeps.of s2)).trans (Keeps.of s3)).trans (Keeps.of s4)).trans k5) w5 hr5 (piece_menu x hx) g1 g2 g3

/-! ### the law: 0 _law_script, 1 _law_cell, 2 _law_well_here, 3 _law_k, 4 _law_text, 5 _law_sign_here, 6 _law_ahead, 7 _law_due, 8 _law_pieces, 9 _law_is_plain, 10 _law_names_here, 11 _law_name, 12 _law_piece_here -/
def rd (p : Nat) : Option (Nat × Nat) → PyData
  | none => .none
  | some (k, c) => .tuple [.int ((p + k : Nat) : Int), .str (S [c])]
theorem refV_dp {K : PySem.W.Frag} {H : Hp} {v : V} {p : Nat} : ∀ {o : Option (Nat × Nat)}, RefV H v p o → Dp K H v (rd p o)
  | none, h => by
    have h' : v = .non := h
    subst h'
    exact .non
  | some (k, c), h => by
    obtain ⟨r, rfl, hr⟩ := h
    exact .tup (SqT.of hr) (.cons (.int _) (.cons (.str _) .nil))
theorem rd_lay {p : Nat} : ∀ {o : Option (Nat × Nat)}, (∀ k c, o = some (k, c) → c < 128) → (rd p o).canLay0 = true
  | none, _ => rfl
  | some (k, c), h => by
    have hc : Sm [c] := fun x hx => by
      have := h k c rfl
      rw [List.mem_singleton.mp hx]
      omega
    show (true && (PyData.strOk (S [c]) && true)) = true
    rw [hc.ok]
    rfl
theorem rd_shaped {p : Nat} {o : Option (Nat × Nat)} (h : ∀ k c, o = some (k, c) → c < 128) : SeqAt.shaped (rd p o) = true := by
  show ((rd p o).canLay0 && decide ((rd p o).depth ≤ 64)) = true
  rw [rd_lay h]
  cases o <;> rfl
theorem rd_eq {p : Nat} {o : Option (Nat × Nat)} (h : ∀ k c, o = some (k, c) → c < 128) : PyData.eqv (rd p o) (rd p o) = true := PySem.SeqAt.eqv_refl _ (rd_lay h)
theorem RefV.same {H H' : Hp} {v : V} {p : Nat} : ∀ {o : Option (Nat × Nat)}, RefV H v p o → Same H H' → RefV H' v p o
  | none, h, _ => h
  | some (k, c), h, s => by
    obtain ⟨r, e, hr⟩ := h
    exact ⟨r, e, s _ _ hr⟩
theorem RefV.keep {H H' : Hp} {v : V} {p : Nat} {L : Addr} : ∀ {o : Option (Nat × Nat)}, RefV H v p o → Well H L → Keeps L H H' → RefV H' v p o
  | none, h, _, _ => h
  | some (k, c), h, w, s => by
    obtain ⟨r, e, hr⟩ := h
    exact ⟨r, e, s _ _ (tup_ne hr w) hr⟩
theorem meant_small {w : List Nat} {c : Nat} (h : meantR w = some c) : c < 128 := by
  have hs : ∀ {n c : Nat}, sgnR n = some c → c < 128 := fun {n c} e => by
    unfold sgnR at e
    split at e
    · have := Option.some.inj e
      omega
    · cases e
  have hb : ∀ {o : Option Nat}, o.bind sgnR = some c → c < 128 := fun {o} e => by
    cases o with
    | none => cases e
    | some n => exact hs e
  unfold meantR at h
  split at h
  · exact hb h
  · split at h
    · exact hb h
    · have gen : ∀ ps : List (List Nat × Nat), (∀ p ∈ ps, p.2 < 128) → ps.lookup w = some c → c < 128 := by
        intro ps
        induction ps with
        | nil => intro _ e; cases e
        | cons p ps ih =>
          intro hp e
          rw [List.lookup_cons] at e
          split at e
          · have := Option.some.inj e
            have := hp p (List.mem_cons_self ..)
            omega
          · exact ih (fun q hq => hp q (List.mem_cons_of_mem _ hq)) e
      exact gen NamesL (by decide) h
theorem ok_small {a : List Nat} {sg : Option Nat} (h : RefOk a sg) : ∀ c, sg = some c → c < 128 := by
  obtain ⟨_, _, _, _, _, e⟩ := h
  intro c hc
  rw [hc] at e
  split at e
  · exact meant_small e
  · cases e
theorem joinL_len : ∀ {ls : List (List Nat)} {k : Nat}, (∀ l ∈ ls, l.length ≤ k) → (TL.joinL [32] ls).length ≤ (k + 1) * ls.length
  | [], k, _ => by simp [TL.joinL]
  | [a], k, h => by
    have := h a (List.mem_cons_self ..)
    show a.length ≤ _
    simp only [List.length_singleton]
    omega
  | a :: b :: r, k, h => by
    have ih := joinL_len (ls := b :: r) (k := k) fun l hl => h l (List.mem_cons_of_mem _ hl)
    have ha := h a (List.mem_cons_self ..)
    show (a ++ ([32] ++ TL.joinL [32] (b :: r))).length ≤ _
    rw [List.length_append, List.length_append, List.length_cons (a := a), Nat.mul_succ]
    simp only [List.length_singleton]
    omega
theorem joinL_asc : ∀ {ls : List (List Nat)}, (∀ l ∈ ls, Asc l) → Asc (TL.joinL [32] ls)
  | [], _ => fun c hc => by cases hc
  | [a], h => h a (List.mem_cons_self ..)
  | a :: b :: r, h => by
    have ih := joinL_asc (ls := b :: r) fun l hl => h l (List.mem_cons_of_mem _ hl)
    have ha := h a (List.mem_cons_self ..)
    intro c hc
    rcases List.mem_append.mp (show c ∈ a ++ ([32] ++ TL.joinL [32] (b :: r)) from hc) with hc | hc
    · exact ha c hc
    · rcases List.mem_append.mp hc with hc | hc
      · rw [List.mem_singleton.mp hc]
        decide
      · exact ih c hc
theorem lit_sp : (" " : Str) = S [32] := by decide +kernel
/-- a list of a tuple's i-th texts, joined -/
def Zs (H : Hp) (D : Addr) (zs : List (Addr × List Nat × List Nat)) : Prop := H D = some (.lst (zs.map fun z => V.ref z.1)) ∧ ∀ z ∈ zs, H z.1 = some (.tup [.str (S z.2.1), .str (S z.2.2)])
theorem Zs.same {H H' : Hp} {D : Addr} {zs : List (Addr × List Nat × List Nat)} (h : Zs H D zs) (s : Same H H') : Zs H' D zs := ⟨s _ _ h.1, fun z hz => s _ _ (h.2 z hz)⟩
def AheadL : List (List Nat) := [[], [97], [38], [120, 59]]
theorem aheads : ([.str "", .str "a", .str "&", .str "x;"] : List V) = AheadL.map fun s => V.str (S s) := by decide +kernel
def BehL : List (List Nat) := [[], [59], [97]]
theorem behs : ([.str "", .str ";", .str "a"] : List V) = BehL.map fun s => V.str (S s) := by decide +kernel
theorem ahead_ok : ∀ s ∈ AheadL, s.length ≤ 2 ∧ ∀ c ∈ s, c < 128 := by decide
theorem beh_ok : ∀ s ∈ BehL, s.length ≤ 1 ∧ ∀ c ∈ s, c < 128 := by decide
theorem asc_app {a b : List Nat} (h : ∀ c ∈ a, c < 128) (h2 : ∀ c ∈ b, c < 128) : Asc (a ++ b) := fun c hc => by
  rcases List.mem_append.mp hc with hc | hc
  · exact h c hc
  · exact h2 c hc
theorem asc_ref {a : List Nat} {sg : Option Nat} (h : RefOk a sg) : Asc (38 :: (a ++ [59])) := by
  intro c hc
  rcases List.mem_cons.mp hc with rfl | hc
  · decide
  · rcases List.mem_append.mp hc with hc | hc
    · exact h.2.2.2.1 c hc
    · rw [List.mem_singleton.mp hc]
      decide
theorem lit_a : ("a" : Str) = S [97] := by decide +kernel
def plainB (c : Nat) : Bool := [32, 10].contains c || Txt.isalnum (S [c])
theorem signs_dec : ∀ c ∈ SignsL, c < 128 ∧ decR [97, 92, c, 98] = if plainB c = true then [97, 92, c, 98] else [97, c, 98] := by decide +kernel
theorem lit_bn : (" \n" : Str) = S [32, 10] := by decide +kernel
theorem lit_ab : ("a\\" : Str) = S [97, 92] := by decide +kernel
theorem lit_b : ("b" : Str) = S [98] := by decide +kernel
theorem names_ref : ∀ p ∈ NamesL, RefOk p.1 (some p.2) := fun p hp => refOk_of (name_ok p hp).1
def sp_law (K : PySem.W.Frag) : Sp := fun vs H Q _ => ∃ (a : Addr) (ns : List Int), vs = [.ref a] ∧ SqL K H a (ns.map V.int) ∧ ns.length ≤ 63 ∧ ∀ H', Q (.bl true) H'
theorem ok_law {P : Program} {w : World} {K : PySem.W.Frag} {mg : Str → Option Value} {base : Heap} {f : Addr} {fd : FuncData} (T : Txt w K mg) (F : Fun K "law" "law" s_law f fd) : FnOk P w K mg base CX0 6 f fd ["_law_script"] (sp_law K) := by
  refine F.ok sc_law (fun vs H Q E h => ?_) (fun cdv A outer s H vs Q E hr h => ?_)
  · obtain ⟨a, ns, rfl, _⟩ := h
    rfl
  · obtain ⟨a, ns, rfl, hS, hlen, q⟩ := h
    refine ⟨_, (pss_cons (ps_for PassesOwn.never rfl (pi_list (pe_op op_cat (pe_slice sl_list (pv 0) po_none (po_some pe_int)) (pe_lst (pa_cons pe_int pa_nil)))) (pg_name (i := 1) sc_law.nd rfl (.inl rfl)) (pss_cons (ps_set (i := 2) sc_law.nd rfl (.inr rfl) (pe_call (ok__law_well T) (hr.mono (by decide)) (by rfl) T.g__law_well T.f__law_well.kp T.b__law_well .nil pass0 (pa_cons (pv 1) pa_nil)))
        (pss_cons (ps_for PassesOwn.never rfl (pi_range1 (by rfl) T.z_range (pa_cons pe_int pa_nil)) (pg_name (i := 3) sc_law.nd rfl (.inl rfl)) (pss_cons (ps_asg (pe_call (ok__law_reference T) (hr.mono (by decide)) (by rfl) T.g__law_reference T.f__law_reference.kp T.b__law_reference .nil pass0 (pa_cons (pv 2) pa_nil)) (pg_tup (by rfl) (pgs_cons (pg_name (i := 4) sc_law.nd rfl (.inl rfl)) (pgs_cons (pg_name (i := 5) sc_law.nd rfl (.inl rfl)) pgs_nil))))
        (pss_cons (ps_set (i := 6) sc_law.nd rfl (.inl rfl) (pe_call (ok__law_one T) (hr.mono (by decide)) (by rfl) T.g__law_one T.f__law_one.kp T.b__law_one .nil pass0 (pa_cons (pv 2) (pa_cons (pe_lst (pa_cons pe_str (pa_cons pe_str (pa_cons pe_str (pa_cons pe_str pa_nil))))) pa_nil))))
        (pss_cons (ps_set (i := 7) sc_law.nd rfl (.inl rfl) (pe_ifExp (pt_cmpR op_isN (pv 5) pe_non (nomark _)) pe_non (pe_tup (pa_cons (pe_op op_add (pe_callB call_len_str (by rfl) T.z_len PySem.boot_len (pa_cons (pv 6) pa_nil)) (pe_callB call_len_str (by rfl) T.z_len PySem.boot_len (pa_cons (pv 4) pa_nil))) (pa_cons (pv 5) pa_nil)))))
        (pss_cons (ps_if (pt_cmpR (op_neD hr.units) (pe_call (ok_reference_at T) (hr.mono (by decide)) (by rfl) T.g_reference_at T.f_reference_at.kp T.b_reference_at .nil pass0 (pa_cons (pe_op op_add_str (pe_op op_add_str (pv 6) (pv 4)) (pe_call (ok__law_one T) (hr.mono (by decide)) (by rfl) T.g__law_one T.f__law_one.kp T.b__law_one .nil pass0 (pa_cons (pv 2) (pa_cons (pe_lst (pa_cons pe_str (pa_cons pe_str (pa_cons pe_str pa_nil)))) pa_nil)))) (pa_cons (pe_callB call_len_str (by rfl) T.z_len PySem.boot_len (pa_cons (pv 6) pa_nil)) pa_nil))) (pv 7) (nomark _)) (pss_one (ps_ret pe_bl)) pss_nil)
        (pss_one (ps_if (PW.pt (pw_or (pt_cmpR op_notN (pe_call (ok_reference_at T) (hr.mono (by decide)) (by rfl) T.g_reference_at T.f_reference_at.kp T.b_reference_at .nil pass0 (pa_cons (pe_op op_add_str (pv 6) (pe_slice sl_str (pv 4) po_none (po_some (pe_un un_neg pe_int)))) (pa_cons (pe_callB call_len_str (by rfl) T.z_len PySem.boot_len (pa_cons (pv 6) pa_nil)) pa_nil))) pe_non (nomark _)) (pw_or1 (pt_cmpR op_notN (pe_call (ok_reference_at T) (hr.mono (by decide)) (by rfl) T.g_reference_at T.f_reference_at.kp T.b_reference_at .nil pass0 (pa_cons (pe_op op_add_str pe_str (pv 4)) (pa_cons pe_int pa_nil))) pe_non (nomark _))))) (pss_one (ps_ret pe_bl)) pss_nil)))))))
        (pss_cons (ps_setLc (i := 8) (own := [("_law_k", 3)]) (g := (gName 3)) (tt := tYes) (by rfl) sc_law.nd rfl rfl (sw_true rfl rfl rfl (by decide +kernel)) (pi_range1 (by rfl) T.z_range (pa_cons pe_int pa_nil)) (blkOk_by (own := [("_law_k", 3)]) (N := ["_law_script", "_law_cell", "_law_well_here", "_law_k", "_law_text", "_law_sign_here", "_law_ahead", "_law_due", "_law_pieces", "_law_is_plain", "_law_names_here", "_law_name", "_law_piece_here"]) (sc := defScope s_law) (by decide +kernel)) (fun _ _ _ _ _ => (pg_name (i := 3) sc_law.nd rfl (Or.inl rfl))) (fun _ _ _ _ _ => pts_nil) (fun _ _ _ _ _ => (pe_call (ok__law_piece T) (hr.mono (by decide)) (by rfl) T.g__law_piece T.f__law_piece.kp T.b__law_piece .nil pass0 (pa_cons (pv 2) pa_nil))))
        (pss_cons (ps_set (i := 4) sc_law.nd rfl (.inl rfl) (pe_join pe_str (pe_lc (own := [("_law_piece_here", 12)]) (g := (gName 12)) (tt := tYes) (by rfl) sc_law.nd (pi_list (pv 8)) (blkOk_by (own := [("_law_piece_here", 12)]) (N := ["_law_script", "_law_cell", "_law_well_here", "_law_k", "_law_text", "_law_sign_here", "_law_ahead", "_law_due", "_law_pieces", "_law_is_plain", "_law_names_here", "_law_name", "_law_piece_here"]) (sc := defScope s_law) (by decide +kernel)) (fun _ _ _ _ _ => (pg_name (i := 12) sc_law.nd rfl (Or.inl rfl))) (fun _ _ _ _ _ => pts_nil) (fun _ _ _ _ _ => (pe_ix (show IxR _ (rIxT K) from ix_tup) (pv 12) pe_int (fun _ _ => rfl))))))
        (pss_one (ps_if (pt_cmpR op_ne (pe_call (ok_decoded T) (hr.mono (by decide)) (by rfl) T.g_decoded T.f_decoded.kp T.b_decoded .nil pass0 (pa_cons (pv 4) pa_nil)) (pe_join pe_str (pe_lc (own := [("_law_piece_here", 12)]) (g := (gName 12)) (tt := tYes) (by rfl) sc_law.nd (pi_list (pv 8)) (blkOk_by (own := [("_law_piece_here", 12)]) (N := ["_law_script", "_law_cell", "_law_well_here", "_law_k", "_law_text", "_law_sign_here", "_law_ahead", "_law_due", "_law_pieces", "_law_is_plain", "_law_names_here", "_law_name", "_law_piece_here"]) (sc := defScope s_law) (by decide +kernel)) (fun _ _ _ _ _ => (pg_name (i := 12) sc_law.nd rfl (Or.inl rfl))) (fun _ _ _ _ _ => pts_nil) (fun _ _ _ _ _ => (pe_ix (show IxR _ (rIxT K) from ix_tup) (pv 12) pe_int (fun _ _ => rfl))))) (nomark _)) (pss_one (ps_ret pe_bl)) pss_nil)))))))
        (pss_cons (ps_for PassesOwn.never rfl (pi_str (pe_call0 (ok__law_signs T) (hr.mono (by decide)) (by rfl) T.g__law_signs T.f__law_signs.kp T.b__law_signs .nil pass0)) (pg_name (i := 5) sc_law.nd rfl (.inl rfl)) (pss_cons (ps_set (i := 9) sc_law.nd rfl (.inl rfl) (pe_or (pe_cmpR op_in_sign (pv 5) pe_str (by rfl)) (pe_one (pe_bm0 PySem.F.plainAttrs_str PySem.F.slot_str_isalnum PySem.F.type_str_isalnum mt_isalnum (pv 5)))))
        (pss_one (ps_if (pt_cmpR op_ne (pe_call (ok_decoded T) (hr.mono (by decide)) (by rfl) T.g_decoded T.f_decoded.kp T.b_decoded .nil pass0 (pa_cons (pe_op op_add_str (pe_op op_add_str pe_str (pv 5)) pe_str) pa_nil)) (pe_ifExp (pt_val (pv 9)) (pe_op op_add_str (pe_op op_add_str pe_str (pv 5)) pe_str) (pe_op op_add_str (pe_op op_add_str pe_str (pv 5)) pe_str)) (nomark _)) (pss_one (ps_ret pe_bl)) pss_nil))))
        (pss_cons (ps_set (i := 10) sc_law.nd rfl (.inr rfl) (pe_call0 (ok__law_names T) (hr.mono (by decide)) (by rfl) T.g__law_names T.f__law_names.kp T.b__law_names .nil pass0))
        (pss_one (ps_ret (pe_cmpR (op_eqD hr.units) (pe_lock (pe_lc (own := [("_law_name", 11)]) (g := (gName 11)) (tt := _) (by rfl) sc_law.nd (pi_keys (pv 10)) (blkOk_by (own := [("_law_name", 11)]) (N := ["_law_script", "_law_cell", "_law_well_here", "_law_k", "_law_text", "_law_sign_here", "_law_ahead", "_law_due", "_law_pieces", "_law_is_plain", "_law_names_here", "_law_name", "_law_piece_here"]) (sc := defScope s_law) (by decide +kernel)) (fun _ _ _ _ _ => (pg_name (i := 11) sc_law.nd rfl (Or.inl rfl))) (fun _ _ _ _ _ => (pts_one (pt_cmpR (show OpR _ (compareOp .NotEq) (rNeD K) from op_neD hr.units) (pe_call (ok_reference_at T) (hr.mono (by decide)) (by rfl) T.g_reference_at T.f_reference_at.kp T.b_reference_at .nil pass0 (pa_cons (pe_op op_add_str (pe_op op_add_str pe_str (pv 11)) pe_str) (pa_cons pe_int pa_nil))) (pe_tup (pa_cons (pe_op op_add (pe_callB call_len_str (by rfl) T.z_len PySem.boot_len (pa_cons (pv 11) pa_nil)) pe_int) (pa_cons (pe_dget (hu_of hr) (pv 10) (pv 11) (fun _ _ => rfl)) pa_nil))) (nomark _)))) (fun _ _ _ _ _ => (pv 11)))) (pe_lst pa_nil) (nomark _))))))), ?_⟩
    -- script[:8] + [0]
    refine ⟨_, rfl, _, rfl, a, _, rfl, hS, fun p np => ⟨by show 1 ≤ sizeLine; decide, fun p2 np2 => ⟨p, p2, _, _, rfl, rfl, by rw [upd_ne (ne_of_none upd_same np2)]; exact upd_same, upd_same, ?_, fun p3 np3 => ?_⟩⟩⟩
    · have := cutV_length (ns.map V.int) none (some 8)
      rw [List.length_map] at this
      rw [sizeLine_eq]
      show (cutV (ns.map V.int) none (some 8)).length + 1 ≤ _
      omega
    have ec : cutV (ns.map V.int) none (some 8) ++ [V.int 0] = (ns.take 8 ++ [0]).map V.int := by
      unfold cutV
      rw [HT.sIx_none, show HT.sIx (ns.map V.int).length (ns.map V.int).length (some 8) = min 8 (ns.map V.int).length from HT.sIx_nat _ _ 8]
      rw [List.drop_zero, Nat.sub_zero, List.map_append, List.map_take]
      have e8 : (ns.map V.int).take (min 8 (ns.map V.int).length) = (ns.map V.int).take 8 := by
        by_cases h8 : 8 ≤ (ns.map V.int).length
        · rw [Nat.min_eq_left h8]
        · rw [Nat.min_eq_right (by omega), List.take_length, List.take_of_length_le (by omega)]
      rw [e8]
      rfl
    rw [ec]
    have h3 : (upd (upd (upd H p (.lst (cutV (ns.map V.int) none (some 8)))) p2 (.lst [V.int 0])) p3 (.lst ((ns.take 8 ++ [0]).map V.int))) p3 = some (.lst ((ns.take 8 ++ [0]).map V.int)) := upd_same
    generalize upd (upd (upd H p (.lst (cutV (ns.map V.int) none (some 8)))) p2 (.lst [V.int 0])) p3 (.lst ((ns.take 8 ++ [0]).map V.int)) = H0 at h3 ⊢
    generalize ns.take 8 ++ [0] = ms at h3 ⊢
    refine ⟨p3, rfl, ⟨_, SqL.of h3⟩, for_list (K := K) (a := p3) (xs := ms.map V.int) (fun i σ H' => ∃ (v1 v2 v3 v4 v5 v6 v7 v8 v9 v10 v11 v12 : Option V), σ = [some (.ref a), v1, v2, v3, v4, v5, v6, v7, v8, v9, v10, v11, v12] ∧ H' p3 = some (.lst (ms.map V.int))) ?_ (fun i σ H' _ h => by obtain ⟨_, _, _, _, _, _, _, _, _, _, _, _, _, h⟩ := h; exact SqL.of h) ?_ ?_⟩
    · exact ⟨none, none, none, none, none, none, none, none, none, none, none, none, rfl, h3⟩
    · rintro i x σ H' hi ⟨v1, v2, v3, v4, v5, v6, v7, v8, v9, v10, v11, v12, rfl, hp⟩
      obtain ⟨z, hz, rfl⟩ : ∃ z, ms[i]? = some z ∧ x = V.int z := by
        rw [List.getElem?_map] at hi
        cases e : ms[i]? with
        | none => rw [e] at hi; cases hi
        | some z => rw [e] at hi; exact ⟨z, rfl, (Option.some.inj hi).symm⟩
      refine ⟨_, rfl, z, rfl, fun L nL => ?_⟩
      have hW1 : Well (upd H' L (.lst [.int z, .int 0])) L := ⟨_, _, upd_same⟩
      have npL : p3 ≠ L := ne_of_none hp nL
      have hp1 : (upd H' L (.lst [.int z, .int 0])) p3 = some (.lst (ms.map V.int)) := by rw [upd_ne npL]; exact hp
      generalize upd H' L (.lst [.int z, .int 0]) = H1 at hW1 hp1 ⊢
      refine ⟨8, rfl, by decide, by decide, for_range (lo := 0) (n := 8) (fun i σ H' => ∃ (v3 v4 v5 v6 v7 : Option V), σ = [some (.ref a), some (.int z), some (.ref L), v3, v4, v5, v6, v7, v8, v9, v10, v11, v12] ∧ H' p3 = some (.lst (ms.map V.int)) ∧ Well H' L) ?_ ?_ ?_⟩
      · exact ⟨v3, v4, v5, v6, v7, rfl, hp1, hW1⟩
      · rintro k σ H2 hk ⟨v3, v4, v5, v6, v7, rfl, hp2, hW2⟩
        refine ⟨_, rfl, L, rfl, hW2, fun H3 r a1 sg k3 w3 hr3 ok => ?_⟩
        have hp3 := k3 _ _ npL hp2
        refine ⟨r, _, rfl, SqT.of hr3, rfl, _, _, rfl, _, _, rfl, rfl, ?_⟩
        refine one_text AheadL aheads (by decide) (by decide) w3 rfl fun H4 A1 k4 w4 hA => ?_
        have hp4 := k4 _ _ npL hp3
        obtain ⟨lA, aA⟩ := ahead_ok A1 hA
        have la : a1.length ≤ 20 := ok.2.2.2.2.1
        have ax := asc_ref ok
        have okr := ok_ref ok
        have oks := ok_small ok
        have hsemi := ok.1
        generalize htx : 38 :: (a1 ++ [59]) = tx at ax ⊢
        have ltx : tx.length = a1.length + 2 := by rw [← htx]; simp
        refine asg_if_g (fun v H' => RefV H' v A1.length (sg.map fun c => (tx.length, c)) ∧ Same H4 H') (decide (sv sg = .non)) (fun Q q => ⟨_, rfl, rfl, _, rfl, q⟩) (fun h Q q => ?_) (fun h Q q => ?_) ?_
        · have : sg = none := by
            cases sg with
            | none => rfl
            | some c => cases of_decide_eq_true h
          subst this
          exact q _ _ ⟨rfl, Same.refl _⟩
        · cases sg with
          | none => cases of_decide_eq_false h rfl
          | some c =>
            refine ⟨_, rfl, _, rfl, by rw [S_len, sizeLine_eq]; omega, _, rfl, _, rfl, by rw [S_len, sizeLine_eq]; omega, _, _, rfl, rfl, _, rfl, by show 2 ≤ sizeLine; decide, fun p np => ?_⟩
            refine q _ _ ⟨⟨p, rfl, ?_⟩, same_new np⟩
            rw [upd_same, S_len, S_len]
            rfl
        rintro v7' H5 ⟨hdue, s5⟩
        have hp5 := s5 _ _ hp4
        have w5 := w4.same s5
        -- reference_at(ahead + text + .., len(ahead)) != due
        refine ⟨_, rfl, _, rfl, _, _, rfl, rfl, add_S (n := 100) (by omega), ?_⟩
        rw [S_app]
        refine one_text BehL behs (by decide) (by decide) w5 rfl fun H6 B1 k6 w6 hB => ?_
        have hp6 := k6 _ _ npL hp5
        obtain ⟨lB, aB⟩ := beh_ok B1 hB
        refine ⟨_, _, rfl, rfl, add_S (n := 100) (by rw [List.length_append]; omega), ?_⟩
        rw [S_app]
        refine ⟨_, rfl, _, rfl, by rw [S_len, sizeLine_eq]; omega, ?_⟩
        have ltt : (A1 ++ tx ++ B1).length ≤ 100 := by rw [List.length_append, List.length_append]; omega
        refine ⟨A1 ++ tx ++ B1, A1.length, by rw [S_len]; rfl, ⟨by rw [List.append_assoc, List.length_append]; omega, by omega⟩, asc_app (asc_app aA ax) aB, fun H7 v s7 hv => ?_⟩
        have hp7 := s7 _ _ hp6
        have w7 := w6.same s7
        have er : refR ((A1 ++ tx ++ B1).drop A1.length) = sg.map fun c => (tx.length, c) := by
          rw [List.append_assoc, List.drop_left, ← htx]
          have := okr B1
          rw [show 38 :: (a1 ++ 59 :: B1) = 38 :: (a1 ++ [59]) ++ B1 by simp] at this
          rw [this]
          cases sg with
          | none => rfl
          | some c => simp
        rw [er] at hv
        have hsm : ∀ k c, (sg.map fun c => (tx.length, c)) = some (k, c) → c < 128 := by
          intro k c e
          cases sg with
          | none => cases e
          | some c' =>
            have := Option.some.inj e
            have e2 : c' = c := congrArg Prod.snd this
            exact oks c (by rw [e2])
        have hdue7 := (hdue.keep w5 k6).same s7
        refine ⟨_, rfl, _, _, refV_dp hv, refV_dp hdue7, rd_shaped hsm, rd_shaped hsm, _, rfl, ?_⟩
        rw [rd_eq hsm]
        refine iteF ?_
        -- and not without the last sign, nor one place ahead
        refine ⟨_, rfl, _, rfl, _, rfl, _, rfl, _, rfl, by rw [S_len, sizeLine_eq]; omega, ?_⟩
        rw [S_cut_last]
        have edl : tx.dropLast = 38 :: a1 := by
          rw [← htx, show 38 :: (a1 ++ [59]) = (38 :: a1) ++ [59] by simp, List.dropLast_concat]
        rw [edl]
        refine ⟨_, _, rfl, rfl, add_S (n := 100) (by simp; omega), ?_⟩
        rw [S_app]
        refine ⟨_, rfl, _, rfl, by rw [S_len, sizeLine_eq]; omega, ?_⟩
        have a38 : ∀ c ∈ 38 :: a1, c < 128 := fun c hc => ax c (by rw [← htx, show 38 :: (a1 ++ [59]) = (38 :: a1) ++ [59] by simp]; exact List.mem_append_left _ hc)
        refine ⟨A1 ++ 38 :: a1, A1.length, by rw [S_len]; rfl, ⟨by rw [List.length_append]; omega, by simp; omega⟩, asc_app aA a38, fun H8 v8 s8 hv8 => ?_⟩
        rw [List.drop_left, ref_end hsemi] at hv8
        have hv8' : v8 = .non := hv8
        subst hv8'
        refine ⟨rfl, _, rfl, ?_⟩
        refine iteF ?_
        rw [lit_a]
        refine ⟨_, rfl, _, _, rfl, rfl, add_S (n := 100) (by simp; omega), ?_⟩
        rw [S_app]
        refine ⟨[97] ++ tx, 0, rfl, ⟨Nat.zero_le _, by simp; omega⟩, asc_app (by decide) ax, fun H9 v9' s9 hv9 => ?_⟩
        have e9 : refR (([97] ++ tx).drop 0) = none := rfl
        rw [e9] at hv9
        have hv9' : v9' = .non := hv9
        subst hv9'
        refine ⟨rfl, _, rfl, ?_⟩
        exact iteF ⟨_, _, _, _, _, rfl, s9 _ _ (s8 _ _ hp7), (w7.same s8).same s9⟩
      · rintro σ H2 ⟨v3, v4, v5, v6, v7, rfl, hp2, hW2⟩
        refine ⟨8, rfl, by decide, by decide, fun D nD => ?_⟩
        have nDL : D ≠ L := hW2.ne nD
        have npD : p3 ≠ D := ne_of_none hp2 nD
        refine lc_range (lo := 0) (n := 8) (fun i H' => H' p3 = some (.lst (ms.map V.int)) ∧ Well H' L ∧ ∃ zs : List (Addr × List Nat × List Nat), H' D = some (.lst (zs.map fun z => V.ref z.1)) ∧ zs.length = i ∧ ∀ z ∈ zs, H' z.1 = some (.tup [.str (S z.2.1), .str (S z.2.2)]) ∧ Piece z.2.1 z.2.2 ∧ z.2.1.length ≤ 30 ∧ z.2.2.length ≤ 30 ∧ Asc z.2.1) ?_ ?_ ?_
        · exact ⟨by rw [upd_ne npD]; exact hp2, hW2.new nD, [], upd_same, rfl, fun z hz => by cases hz⟩
        · rintro i H3 hi ⟨hp3, w3, zs, hD, hl, hz⟩
          refine ⟨rfl, _, rfl, L, rfl, w3, fun H4 r x m k4 w4 hr4 pc lx lm ax => ?_⟩
          refine ⟨_, k4 _ _ nDL hD, by rw [List.length_map, hl, sizeLine_eq]; omega, by rw [upd_ne npD]; exact k4 _ _ npL hp3, well_upd w4 nDL, zs ++ [(r, x, m)], by rw [upd_same]; simp, by rw [List.length_append, hl]; rfl, fun y hy => ?_⟩
          have nrD : ∀ (b : Addr) (ys : List V), H4 b = some (.tup ys) → b ≠ D := fun b ys hb => ne_of hb (k4 _ _ nDL hD) fun e => by cases e
          rcases List.mem_append.mp hy with hy | hy
          · obtain ⟨g1, g2⟩ := hz y hy
            have g3 := k4 _ _ (tup_ne g1 w3) g1
            exact ⟨by rw [upd_ne (nrD _ _ g3)]; exact g3, g2⟩
          · rw [List.mem_singleton.mp hy]
            exact ⟨by rw [upd_ne (nrD _ _ hr4)]; exact hr4, pc, lx, lm, ax⟩
        · rintro H3 ⟨hp3, w3, zs, hD, hl, hz⟩
          have hZ : Zs H3 D zs := ⟨hD, fun z h => (hz z h).1⟩
          have hl1 : ∀ l ∈ zs.map (fun z => z.2.1), l.length ≤ 30 := fun l hl => by
            obtain ⟨z, h, rfl⟩ := List.mem_map.mp hl
            exact (hz z h).2.2.1
          have hl2 : ∀ l ∈ zs.map (fun z => z.2.2), l.length ≤ 30 := fun l hl => by
            obtain ⟨z, h, rfl⟩ := List.mem_map.mp hl
            exact (hz z h).2.2.2.1
          have ha1 : ∀ l ∈ zs.map (fun z => z.2.1), Asc l := fun l hl => by
            obtain ⟨z, h, rfl⟩ := List.mem_map.mp hl
            exact (hz z h).2.2.2.2
          have hdec : decR (TL.joinL [32] (zs.map fun z => z.2.1)) = TL.joinL [32] (zs.map fun z => z.2.2) := by
            have := piece_joined (xs := zs.map fun z => (z.2.1, z.2.2)) fun p hp => by
              obtain ⟨z, h, rfl⟩ := List.mem_map.mp hp
              exact (hz z h).2.1
            rw [List.map_map, List.map_map] at this
            exact this
          have hll := joinL_len hl1
          rw [List.length_map, hl] at hll
          rw [lit_sp]
          refine ⟨⟨_, rfl⟩, ?_⟩
          refine ⟨_, rfl, D, rfl, ⟨_, SqL.of hD⟩, fun D2 nD2 => ?_⟩
          refine lc_list (K := K) (a := D) (xs := zs.map fun z => V.ref z.1) (fun i H' => Same H3 H' ∧ H' D2 = some (.lst ((((zs.map fun z => z.2.1).take i).map S).map V.str))) ⟨same_new nD2, by rw [upd_same]; rfl⟩ (fun i H' _ h => SqL.of (h.1 _ _ hD)) ?_ ?_
          · rintro i x H4 hx ⟨s4, hD2⟩
            rw [List.getElem?_map] at hx
            cases hzi : zs[i]? with
            | none => rw [hzi] at hx; cases hx
            | some z =>
              rw [hzi] at hx
              cases hx
              have hzm := List.mem_of_getElem? hzi
              refine ⟨rfl, _, rfl, z.1, _, _, _, rfl, rfl, SqT.of (s4 _ _ (hZ.2 z hzm)), p0 _ _, _, hD2, ?_, same_upd s4 nD2, ?_⟩
              · rw [List.length_map, List.length_map, List.length_take, List.length_map, hl, sizeLine_eq]
                omega
              · rw [upd_same, List.take_add_one, List.getElem?_map, hzi]
                simp
          · rintro H4 ⟨s4, hD2⟩
            rw [List.length_map, List.take_of_length_le (by rw [List.length_map]; omega)] at hD2
            refine ⟨_, D2, _, rfl, rfl, .inl (SqL.of hD2), ?_, ?_⟩
            · rw [S_len]
              have := sum_le (ls := zs.map fun z => z.2.1) (k := 30) hl1
              rw [List.length_map, hl] at this
              rw [List.length_map, List.length_map, hl]
              show _ + 8 * 1 ≤ 16777216
              omega
            rw [join_S]
            refine ⟨_, rfl, _, rfl, by omega, joinL_asc ha1, fun H5 s5 => ?_⟩
            rw [hdec]
            have s45 := s4.trans s5
            have hD5 := s45 _ _ hD
            refine ⟨⟨_, rfl⟩, _, rfl, D, rfl, ⟨_, SqL.of hD5⟩, fun D3 nD3 => ?_⟩
            refine lc_list (K := K) (a := D) (xs := zs.map fun z => V.ref z.1) (fun i H' => Same H5 H' ∧ H' D3 = some (.lst ((((zs.map fun z => z.2.2).take i).map S).map V.str))) ⟨same_new nD3, by rw [upd_same]; rfl⟩ (fun i H' _ h => SqL.of (h.1 _ _ hD5)) ?_ ?_
            · rintro i x H6 hx ⟨s6, hD3⟩
              rw [List.getElem?_map] at hx
              cases hzi : zs[i]? with
              | none => rw [hzi] at hx; cases hx
              | some z =>
                rw [hzi] at hx
                cases hx
                have hzm := List.mem_of_getElem? hzi
                refine ⟨rfl, _, rfl, z.1, _, _, _, rfl, rfl, SqT.of (s6 _ _ (s45 _ _ (hZ.2 z hzm))), p1 _ _, _, hD3, ?_, same_upd s6 nD3, ?_⟩
                · rw [List.length_map, List.length_map, List.length_take, List.length_map, hl, sizeLine_eq]
                  omega
                · rw [upd_same, List.take_add_one, List.getElem?_map, hzi]
                  simp
            · rintro H6 ⟨s6, hD3⟩
              rw [List.length_map, List.take_of_length_le (by rw [List.length_map]; omega)] at hD3
              refine ⟨_, D3, _, rfl, rfl, .inl (SqL.of hD3), ?_, ?_⟩
              · rw [S_len]
                have := sum_le (ls := zs.map fun z => z.2.2) (k := 30) hl2
                rw [List.length_map, hl] at this
                rw [List.length_map, List.length_map, hl]
                show _ + 8 * 1 ≤ 16777216
                omega
              rw [join_S]
              refine ⟨rfl, _, rfl, ?_⟩
              rw [decide_eq_true rfl]
              exact iteF ⟨_, _, _, _, _, _, _, _, _, _, _, _, rfl, s6 _ _ (s45 _ _ hp3)⟩
    · rintro σ H' ⟨v1, v2, v3, v4, v5, v6, v7, v8, v9, v10, v11, v12, rfl, hp⟩
      -- each sign behind a backslash
      refine ⟨rfl, _, rfl, ?_⟩
      refine for_it (walk_str (z := S SignsL)) (fun i σ H' => ∃ (v1 v2 v3 v4 v5 v6 v7 v8 v9 v10 v11 v12 : Option V), σ = [some (.ref a), v1, v2, v3, v4, v5, v6, v7, v8, v9, v10, v11, v12]) ⟨_, _, _, _, _, _, _, _, _, _, _, _, rfl⟩ (fun _ _ _ _ _ => trivial) ?_ ?_
      · rintro i x σ H1 H2 hi ⟨v1, v2, v3, v4, v5, v6, v7, v8, v9, v10, v11, v12, rfl⟩ ⟨rfl, c, hc, rfl⟩
        rw [S_get] at hc
        have hcm := List.mem_of_getElem? hc
        obtain ⟨c1, c2⟩ := signs_dec c hcm
        refine orV (a := [32, 10].contains c) (b := Txt.isalnum (S [c])) (fun Q q => ⟨_, rfl, c, _, rfl, rfl, by rw [lit_bn, mem_S]; exact q⟩) (fun Q q => ⟨_, rfl, rfl, _, rfl, rfl, trivial, q⟩) _ ?_
        have e1 : (⟨#[c]⟩ : Str) = S [c] := rfl
        rw [lit_ab, lit_b]
        refine ⟨_, rfl, _, _, rfl, rfl, add_S (a := [97, 92]) (b := [c]) (n := 10) (by simp), ?_⟩
        rw [e1, S_app]
        refine ⟨_, _, rfl, rfl, add_S (n := 10) (by simp), ?_⟩
        rw [S_app]
        refine ⟨_, rfl, by simp, fun x hx => ?_, fun H3 s3 => ?_⟩
        · simp at hx
          rcases hx with rfl | rfl | rfl | rfl <;> omega
        rw [show ([97, 92] ++ [c] ++ [98] : List Nat) = [97, 92, c, 98] from rfl]
        cases hpb : plainB c with
        | true =>
          have hpb' : ([32, 10].contains c || Txt.isalnum (S [c])) = true := hpb
          rw [hpb] at c2
          rw [c2, hpb', if_pos rfl]
          refine ⟨_, rfl, _, rfl, ?_⟩
          refine iteT ?_
          refine ⟨_, rfl, _, _, rfl, rfl, add_S (a := [97, 92]) (b := [c]) (n := 10) (by simp), ?_⟩
          rw [S_app]
          refine ⟨_, _, rfl, rfl, add_S (n := 10) (by simp), ?_⟩
          rw [S_app]
          refine ⟨rfl, _, rfl, ?_⟩
          rw [decide_eq_true (by rfl)]
          exact iteF ⟨_, _, _, _, _, _, _, _, _, _, _, _, rfl⟩
        | false =>
          have hpb' : ([32, 10].contains c || Txt.isalnum (S [c])) = false := hpb
          rw [hpb] at c2
          rw [c2, hpb', if_neg Bool.false_ne_true]
          refine ⟨_, rfl, _, rfl, ?_⟩
          refine iteF ?_
          rw [lit_a]
          refine ⟨_, rfl, _, _, rfl, rfl, add_S (a := [97]) (b := [c]) (n := 10) (by simp), ?_⟩
          rw [S_app]
          refine ⟨_, _, rfl, rfl, add_S (n := 10) (by simp), ?_⟩
          rw [S_app]
          refine ⟨rfl, _, rfl, ?_⟩
          rw [decide_eq_true (by rfl)]
          exact iteF ⟨_, _, _, _, _, _, _, _, _, _, _, _, rfl⟩
      · rintro σ H1 ⟨v1, v2, v3, v4, v5, v6, v7, v8, v9, v10, v11, v12, rfl⟩
        refine ⟨rfl, fun H2 nd s2 nnd hnd => ?_⟩
        refine ⟨nd, .dK NamesK, hnd, trivial, fun od => ?_⟩
        have hz : (upd H2 nd (.frz od (.dK NamesK))) nd = some (.frz od (.dK NamesK)) := upd_same
        generalize upd H2 nd (.frz od (.dK NamesK)) = H3 at hz ⊢
        refine ⟨_, rfl, nd, od, rfl, .inl ⟨NamesK, hz, fun D nD => ?_⟩⟩
        refine lc_it walk_keys (fun i H' => Same H3 H' ∧ H' D = some (.lst [])) ⟨same_new nD, upd_same⟩ (fun i H' _ h => h.1 _ _ hz) ?_ ?_
        · rintro i x H4 H5 hi ⟨s4, hD⟩ ⟨rfl, k, v, hk, rfl⟩
          obtain ⟨pr, hpr, hkv⟩ : ∃ pr ∈ NamesL, (k, v) = (Sum.inr (S pr.1), V.str (S [pr.2])) := by
            have := List.mem_of_getElem? hk
            obtain ⟨pr, hpr, e⟩ := List.mem_map.mp this
            exact ⟨pr, hpr, e.symm⟩
          cases hkv
          have ok := names_ref pr hpr
          have la := ok.2.2.2.2.1
          refine ⟨rfl, ?_⟩
          rw [lit_amp, lit_semi]
          refine ⟨_, rfl, _, _, rfl, rfl, add_S (n := 100) (by simp; omega), ?_⟩
          rw [S_app]
          refine ⟨_, _, rfl, rfl, add_S (n := 100) (by simp; omega), ?_⟩
          rw [S_app]
          have et : [38] ++ pr.1 ++ [59] = 38 :: (pr.1 ++ [59]) := by simp
          rw [et]
          refine ⟨_, 0, rfl, ⟨Nat.zero_le _, by simp; omega⟩, asc_ref ok, fun H6 v6 s6 hv6 => ?_⟩
          rw [List.drop_zero] at hv6
          have eo := ok_ref ok []
          rw [eo] at hv6
          have hz6 := s6 _ _ (s4 _ _ hz)
          refine ⟨_, rfl, _, rfl, by rw [S_len, sizeLine_eq]; omega, _, _, rfl, rfl, _, rfl, _, rfl, nd, .str (S [pr.2]), rfl, .inl ⟨NamesK, .inr (S pr.1), .inr ⟨od, hz6⟩, rfl, (names_get hpr).symm⟩, by show 2 ≤ sizeLine; decide, fun p np => ?_⟩
          have hsm : ∀ k c, ((some pr.2).map fun c => (pr.1.length + 2, c)) = some (k, c) → c < 128 := fun k c e => by
            have := Option.some.inj e
            have e2 : pr.2 = c := congrArg Prod.snd this
            exact ok_small ok c (by rw [e2])
          have h1 := hv6.same (same_new (o := .tup [.int (((S pr.1).length : Int) + 2), .str (S [pr.2])]) np)
          have h2 : RefV (upd H6 p (.tup [.int (((S pr.1).length : Int) + 2), .str (S [pr.2])])) (.ref p) 0 ((some pr.2).map fun c => (pr.1.length + 2, c)) := by
            refine ⟨p, rfl, ?_⟩
            rw [upd_same, S_len]
            congr 4
            omega
          refine ⟨_, _, refV_dp h1, refV_dp h2, rd_shaped hsm, rd_shaped hsm, _, rfl, ?_⟩
          rw [rd_eq hsm]
          exact iteF ⟨(s4.trans s6).trans (same_new np), by rw [upd_ne (ne_of_none (s6 _ _ hD) np)]; exact s6 _ _ hD⟩
        · rintro H4 ⟨s4, hD⟩
          refine ⟨s4 _ _ hz, ?_⟩
          have ndD : D ≠ nd := (ne_of_none hz nD).symm
          refine ⟨by show 0 ≤ sizeLine; decide, fun e ne => ?_⟩
          have hDn : (upd (upd H4 nd (.dK NamesK)) e (.lst [])) D = some (.lst []) := by
            have h1 : (upd H4 nd (.dK NamesK)) D = some (.lst []) := by rw [upd_ne ndD]; exact hD
            rw [upd_ne (ne_of_none h1 ne)]
            exact h1
          exact ⟨.list [], .list [], .lst (SqL.of hDn) .nil, .lst (SqL.of upd_same) .nil, rfl, rfl, q _⟩

theorem all_mk {l : PySem.W.OpenLaw} {w : World} {K : PySem.W.Frag} {h : Heap} {mg : Str → Option Value} {fa : Addr} (X : K.In h) (G : h.Ns mainGlobals mg) (hfa : mg "law" = some (.ref fa))
    {f0 : Addr} {od0 an0 : Option Addr} {sl0 : Array (Option Value)} {oc0 kV0 dc0 pm0 cd0 ct0 : Value}
    (a0 : PySem.W.nsIn K mainGlobals "is_escape" = some (some (.ref f0))) (l0 : K.lookup f0 = some ⟨oc0, od0, .func (PySem.W.fnOf "is_escape" "is_escape" (defArgs s_is_escape) (defBody s_is_escape) (defScope s_is_escape) .none kV0 dc0 pm0 an0 cd0 ct0), sl0⟩) (c0 : PySem.W.codeIn K cd0 "is_escape" = true) (k0 : PySem.W.keepIn K (.ref f0) = true)
    {f1 : Addr} {od1 an1 : Option Addr} {sl1 : Array (Option Value)} {oc1 kV1 dc1 pm1 cd1 ct1 : Value}
    (a1 : PySem.W.nsIn K mainGlobals "reference_at" = some (some (.ref f1))) (l1 : K.lookup f1 = some ⟨oc1, od1, .func (PySem.W.fnOf "reference_at" "reference_at" (defArgs s_reference_at) (defBody s_reference_at) (defScope s_reference_at) .none kV1 dc1 pm1 an1 cd1 ct1), sl1⟩) (c1 : PySem.W.codeIn K cd1 "reference_at" = true) (k1 : PySem.W.keepIn K (.ref f1) = true)
    {f2 : Addr} {od2 an2 : Option Addr} {sl2 : Array (Option Value)} {oc2 kV2 dc2 pm2 cd2 ct2 : Value}
    (a2 : PySem.W.nsIn K mainGlobals "decoded" = some (some (.ref f2))) (l2 : K.lookup f2 = some ⟨oc2, od2, .func (PySem.W.fnOf "decoded" "decoded" (defArgs s_decoded) (defBody s_decoded) (defScope s_decoded) .none kV2 dc2 pm2 an2 cd2 ct2), sl2⟩) (c2 : PySem.W.codeIn K cd2 "decoded" = true) (k2 : PySem.W.keepIn K (.ref f2) = true)
    {f3 : Addr} {od3 an3 : Option Addr} {sl3 : Array (Option Value)} {oc3 kV3 dc3 pm3 cd3 ct3 : Value}
    (a3 : PySem.W.nsIn K mainGlobals "decoded_at" = some (some (.ref f3))) (l3 : K.lookup f3 = some ⟨oc3, od3, .func (PySem.W.fnOf "decoded_at" "decoded_at" (defArgs s_decoded_at) (defBody s_decoded_at) (defScope s_decoded_at) .none kV3 dc3 pm3 an3 cd3 ct3), sl3⟩) (c3 : PySem.W.codeIn K cd3 "decoded_at" = true) (k3 : PySem.W.keepIn K (.ref f3) = true)
    {f4 : Addr} {od4 an4 : Option Addr} {sl4 : Array (Option Value)} {oc4 kV4 dc4 pm4 cd4 ct4 : Value}
    (a4 : PySem.W.nsIn K mainGlobals "sign_meant" = some (some (.ref f4))) (l4 : K.lookup f4 = some ⟨oc4, od4, .func (PySem.W.fnOf "sign_meant" "sign_meant" (defArgs s_sign_meant) (defBody s_sign_meant) (defScope s_sign_meant) .none kV4 dc4 pm4 an4 cd4 ct4), sl4⟩) (c4 : PySem.W.codeIn K cd4 "sign_meant" = true) (k4 : PySem.W.keepIn K (.ref f4) = true)
    {f5 : Addr} {od5 an5 : Option Addr} {sl5 : Array (Option Value)} {oc5 kV5 dc5 pm5 cd5 ct5 : Value}
    (a5 : PySem.W.nsIn K mainGlobals "number_in" = some (some (.ref f5))) (l5 : K.lookup f5 = some ⟨oc5, od5, .func (PySem.W.fnOf "number_in" "number_in" (defArgs s_number_in) (defBody s_number_in) (defScope s_number_in) .none kV5 dc5 pm5 an5 cd5 ct5), sl5⟩) (c5 : PySem.W.codeIn K cd5 "number_in" = true) (k5 : PySem.W.keepIn K (.ref f5) = true)
    {f6 : Addr} {od6 an6 : Option Addr} {sl6 : Array (Option Value)} {oc6 kV6 dc6 pm6 cd6 ct6 : Value}
    (a6 : PySem.W.nsIn K mainGlobals "sign_of" = some (some (.ref f6))) (l6 : K.lookup f6 = some ⟨oc6, od6, .func (PySem.W.fnOf "sign_of" "sign_of" (defArgs s_sign_of) (defBody s_sign_of) (defScope s_sign_of) .none kV6 dc6 pm6 an6 cd6 ct6), sl6⟩) (c6 : PySem.W.codeIn K cd6 "sign_of" = true) (k6 : PySem.W.keepIn K (.ref f6) = true)
    {f7 : Addr} {od7 an7 : Option Addr} {sl7 : Array (Option Value)} {oc7 kV7 dc7 pm7 cd7 ct7 : Value}
    (a7 : PySem.W.nsIn K mainGlobals "_law_well" = some (some (.ref f7))) (l7 : K.lookup f7 = some ⟨oc7, od7, .func (PySem.W.fnOf "_law_well" "_law_well" (defArgs s__law_well) (defBody s__law_well) (defScope s__law_well) .none kV7 dc7 pm7 an7 cd7 ct7), sl7⟩) (c7 : PySem.W.codeIn K cd7 "_law_well" = true) (k7 : PySem.W.keepIn K (.ref f7) = true)
    {f8 : Addr} {od8 an8 : Option Addr} {sl8 : Array (Option Value)} {oc8 kV8 dc8 pm8 cd8 ct8 : Value}
    (a8 : PySem.W.nsIn K mainGlobals "_law_draw" = some (some (.ref f8))) (l8 : K.lookup f8 = some ⟨oc8, od8, .func (PySem.W.fnOf "_law_draw" "_law_draw" (defArgs s__law_draw) (defBody s__law_draw) (defScope s__law_draw) .none kV8 dc8 pm8 an8 cd8 ct8), sl8⟩) (c8 : PySem.W.codeIn K cd8 "_law_draw" = true) (k8 : PySem.W.keepIn K (.ref f8) = true)
    {f9 : Addr} {od9 an9 : Option Addr} {sl9 : Array (Option Value)} {oc9 kV9 dc9 pm9 cd9 ct9 : Value}
    (a9 : PySem.W.nsIn K mainGlobals "_law_one" = some (some (.ref f9))) (l9 : K.lookup f9 = some ⟨oc9, od9, .func (PySem.W.fnOf "_law_one" "_law_one" (defArgs s__law_one) (defBody s__law_one) (defScope s__law_one) .none kV9 dc9 pm9 an9 cd9 ct9), sl9⟩) (c9 : PySem.W.codeIn K cd9 "_law_one" = true) (k9 : PySem.W.keepIn K (.ref f9) = true)
    {f10 : Addr} {od10 an10 : Option Addr} {sl10 : Array (Option Value)} {oc10 kV10 dc10 pm10 cd10 ct10 : Value}
    (a10 : PySem.W.nsIn K mainGlobals "_law_names" = some (some (.ref f10))) (l10 : K.lookup f10 = some ⟨oc10, od10, .func (PySem.W.fnOf "_law_names" "_law_names" (defArgs s__law_names) (defBody s__law_names) (defScope s__law_names) .none kV10 dc10 pm10 an10 cd10 ct10), sl10⟩) (c10 : PySem.W.codeIn K cd10 "_law_names" = true) (k10 : PySem.W.keepIn K (.ref f10) = true)
    {f11 : Addr} {od11 an11 : Option Addr} {sl11 : Array (Option Value)} {oc11 kV11 dc11 pm11 cd11 ct11 : Value}
    (a11 : PySem.W.nsIn K mainGlobals "_law_signs" = some (some (.ref f11))) (l11 : K.lookup f11 = some ⟨oc11, od11, .func (PySem.W.fnOf "_law_signs" "_law_signs" (defArgs s__law_signs) (defBody s__law_signs) (defScope s__law_signs) .none kV11 dc11 pm11 an11 cd11 ct11), sl11⟩) (c11 : PySem.W.codeIn K cd11 "_law_signs" = true) (k11 : PySem.W.keepIn K (.ref f11) = true)
    {f12 : Addr} {od12 an12 : Option Addr} {sl12 : Array (Option Value)} {oc12 kV12 dc12 pm12 cd12 ct12 : Value}
    (a12 : PySem.W.nsIn K mainGlobals "_law_sign" = some (some (.ref f12))) (l12 : K.lookup f12 = some ⟨oc12, od12, .func (PySem.W.fnOf "_law_sign" "_law_sign" (defArgs s__law_sign) (defBody s__law_sign) (defScope s__law_sign) .none kV12 dc12 pm12 an12 cd12 ct12), sl12⟩) (c12 : PySem.W.codeIn K cd12 "_law_sign" = true) (k12 : PySem.W.keepIn K (.ref f12) = true)
    {f13 : Addr} {od13 an13 : Option Addr} {sl13 : Array (Option Value)} {oc13 kV13 dc13 pm13 cd13 ct13 : Value}
    (a13 : PySem.W.nsIn K mainGlobals "_law_sixteens" = some (some (.ref f13))) (l13 : K.lookup f13 = some ⟨oc13, od13, .func (PySem.W.fnOf "_law_sixteens" "_law_sixteens" (defArgs s__law_sixteens) (defBody s__law_sixteens) (defScope s__law_sixteens) .none kV13 dc13 pm13 an13 cd13 ct13), sl13⟩) (c13 : PySem.W.codeIn K cd13 "_law_sixteens" = true) (k13 : PySem.W.keepIn K (.ref f13) = true)
    {f14 : Addr} {od14 an14 : Option Addr} {sl14 : Array (Option Value)} {oc14 kV14 dc14 pm14 cd14 ct14 : Value}
    (a14 : PySem.W.nsIn K mainGlobals "_law_reference" = some (some (.ref f14))) (l14 : K.lookup f14 = some ⟨oc14, od14, .func (PySem.W.fnOf "_law_reference" "_law_reference" (defArgs s__law_reference) (defBody s__law_reference) (defScope s__law_reference) .none kV14 dc14 pm14 an14 cd14 ct14), sl14⟩) (c14 : PySem.W.codeIn K cd14 "_law_reference" = true) (k14 : PySem.W.keepIn K (.ref f14) = true)
    {f15 : Addr} {od15 an15 : Option Addr} {sl15 : Array (Option Value)} {oc15 kV15 dc15 pm15 cd15 ct15 : Value}
    (a15 : PySem.W.nsIn K mainGlobals "_law_piece" = some (some (.ref f15))) (l15 : K.lookup f15 = some ⟨oc15, od15, .func (PySem.W.fnOf "_law_piece" "_law_piece" (defArgs s__law_piece) (defBody s__law_piece) (defScope s__law_piece) .none kV15 dc15 pm15 an15 cd15 ct15), sl15⟩) (c15 : PySem.W.codeIn K cd15 "_law_piece" = true) (k15 : PySem.W.keepIn K (.ref f15) = true)
    {f16 : Addr} {od16 an16 : Option Addr} {sl16 : Array (Option Value)} {oc16 kV16 dc16 pm16 cd16 ct16 : Value}
    (a16 : PySem.W.nsIn K mainGlobals "law" = some (some (.ref f16))) (l16 : K.lookup f16 = some ⟨oc16, od16, .func (PySem.W.fnOf "law" "law" (defArgs s_law) (defBody s_law) (defScope s_law) .none kV16 dc16 pm16 an16 cd16 ct16), sl16⟩) (c16 : PySem.W.codeIn K cd16 "law" = true) (k16 : PySem.W.keepIn K (.ref f16) = true)
    (z_all : PySem.W.nsIn K mainGlobals "all" = some none)
    (z_int : PySem.W.nsIn K mainGlobals "int" = some none)
    (z_len : PySem.W.nsIn K mainGlobals "len" = some none)
    (z_range : PySem.W.nsIn K mainGlobals "range" = some none)
    (z_sorted : PySem.W.nsIn K mainGlobals "sorted" = some none)
    (z_str : PySem.W.nsIn K mainGlobals "str" = some none)
    {t_PUNCTUATION : Tok} (q_PUNCTUATION : PySem.W.nsIn K mainGlobals "PUNCTUATION" = some (some (.str "!\"#$&'()*+,-./:;<=>?\x40[\\]^_{|}~`" t_PUNCTUATION)))
    {A_NAMES : Addr} {es_NAMES : Array DictEntry} {n_NAMES : Nat} (q_NAMES : PySem.W.nsIn K mainGlobals "NAMES" = some (some (.ref A_NAMES)))
    (L_NAMES : K.lookup A_NAMES = some ⟨.type "dict", none, .dict es_NAMES n_NAMES, #[]⟩) (KL_NAMES : PySem.W.KeysLit w.params es_NAMES.toList) (W_NAMES : (A_NAMES == sysModules) = false) (EN_NAMES : EntS es_NAMES.toList [("amp", .str "&"), ("lt", .str "<"), ("gt", .str ">"), ("quot", .str "\""), ("apos", .str "'"), ("num", .str "#"), ("ast", .str "*"), ("lowbar", .str "_"), ("grave", .str "`"), ("lsqb", .str "["), ("rsqb", .str "]"), ("lpar", .str "("), ("rpar", .str ")"), ("lcub", .str "{"), ("rcub", .str "}"), ("bsol", .str "\\"), ("excl", .str "!"), ("Tab", .str "\t"), ("NewLine", .str "\n")])
    {A_SIGN_ROWS : Addr} {e_SIGN_ROWS_0 e_SIGN_ROWS_1 e_SIGN_ROWS_2 : Addr} {O_SIGN_ROWS : Option Addr} {n_SIGN_ROWS : Nat} {w_SIGN_ROWS : Array (Option Value)} (q_SIGN_ROWS : PySem.W.nsIn K mainGlobals "SIGN_ROWS" = some (some (.ref A_SIGN_ROWS)))
    (L_SIGN_ROWS : K.lookup A_SIGN_ROWS = some ⟨.type "tuple", O_SIGN_ROWS, .seq #[.ref e_SIGN_ROWS_0, .ref e_SIGN_ROWS_1, .ref e_SIGN_ROWS_2] n_SIGN_ROWS, w_SIGN_ROWS⟩)
    {O_SIGN_ROWS_0 : Option Addr} {n_SIGN_ROWS_0 : Nat} {w_SIGN_ROWS_0 : Array (Option Value)} {u_SIGN_ROWS_0_0 u_SIGN_ROWS_0_1 : Tok} (L_SIGN_ROWS_0 : K.lookup e_SIGN_ROWS_0 = some ⟨.type "tuple", O_SIGN_ROWS_0, .seq #[.int 9 u_SIGN_ROWS_0_0, .str "\t\n" u_SIGN_ROWS_0_1] n_SIGN_ROWS_0, w_SIGN_ROWS_0⟩)
    {O_SIGN_ROWS_1 : Option Addr} {n_SIGN_ROWS_1 : Nat} {w_SIGN_ROWS_1 : Array (Option Value)} {u_SIGN_ROWS_1_0 u_SIGN_ROWS_1_1 : Tok} (L_SIGN_ROWS_1 : K.lookup e_SIGN_ROWS_1 = some ⟨.type "tuple", O_SIGN_ROWS_1, .seq #[.int 32 u_SIGN_ROWS_1_0, .str " !\"#$" u_SIGN_ROWS_1_1] n_SIGN_ROWS_1, w_SIGN_ROWS_1⟩)
    {O_SIGN_ROWS_2 : Option Addr} {n_SIGN_ROWS_2 : Nat} {w_SIGN_ROWS_2 : Array (Option Value)} {u_SIGN_ROWS_2_0 u_SIGN_ROWS_2_1 : Tok} (L_SIGN_ROWS_2 : K.lookup e_SIGN_ROWS_2 = some ⟨.type "tuple", O_SIGN_ROWS_2, .seq #[.int 38 u_SIGN_ROWS_2_0, .str "&'()*+,-./0123456789:;<=>?@ABCDEFGHIJKLMNOPQRSTUVWXYZ[\\]^_`abcdefghijklmnopqrstuvwxyz{|}~" u_SIGN_ROWS_2_1] n_SIGN_ROWS_2, w_SIGN_ROWS_2⟩)
    {t_LONGEST : Tok} (q_LONGEST : PySem.W.nsIn K mainGlobals "LONGEST" = some (some (.int 10 t_LONGEST)))
    : ∃ fd : FuncData, (∀ (s : Shared) (v : Value), BindsTo s fd ⟨[v], []⟩ [("_law_script", v)]) ∧ ∀ base : Heap, K.In base → base.Ns mainGlobals mg → FnOk l.prog w K mg base CX0 6 fa fd ["_law_script"] (sp_law K) := by
  have e := hfa.symm.trans (PySem.W.mg_of X G a16)
  cases e
  have F0 := fun_mk (st := s_is_escape) l0 c0 k0
  have F1 := fun_mk (st := s_reference_at) l1 c1 k1
  have F2 := fun_mk (st := s_decoded) l2 c2 k2
  have F3 := fun_mk (st := s_decoded_at) l3 c3 k3
  have F4 := fun_mk (st := s_sign_meant) l4 c4 k4
  have F5 := fun_mk (st := s_number_in) l5 c5 k5
  have F6 := fun_mk (st := s_sign_of) l6 c6 k6
  have F7 := fun_mk (st := s__law_well) l7 c7 k7
  have F8 := fun_mk (st := s__law_draw) l8 c8 k8
  have F9 := fun_mk (st := s__law_one) l9 c9 k9
  have F10 := fun_mk (st := s__law_names) l10 c10 k10
  have F11 := fun_mk (st := s__law_signs) l11 c11 k11
  have F12 := fun_mk (st := s__law_sign) l12 c12 k12
  have F13 := fun_mk (st := s__law_sixteens) l13 c13 k13
  have F14 := fun_mk (st := s__law_reference) l14 c14 k14
  have F15 := fun_mk (st := s__law_piece) l15 c15 k15
  have F16 := fun_mk (st := s_law) l16 c16 k16
  have b0 := F0.binds (ps := ["text", "place"]) fun _ _ _ _ _ _ us hl => match us, hl with | [_, _], _ => rfl
  have b1 := F1.binds (ps := ["text", "place"]) fun _ _ _ _ _ _ us hl => match us, hl with | [_, _], _ => rfl
  have b2 := F2.binds (ps := ["text"]) fun _ _ _ _ _ _ us hl => match us, hl with | [_], _ => rfl
  have b3 := F3.binds (ps := ["text", "place"]) fun _ _ _ _ _ _ us hl => match us, hl with | [_, _], _ => rfl
  have b4 := F4.binds (ps := ["words"]) fun _ _ _ _ _ _ us hl => match us, hl with | [_], _ => rfl
  have b5 := F5.binds (ps := ["digits", "signs", "base"]) fun _ _ _ _ _ _ us hl => match us, hl with | [_, _, _], _ => rfl
  have b6 := F6.binds (ps := ["number"]) fun _ _ _ _ _ _ us hl => match us, hl with | [_], _ => rfl
  have b7 := F7.binds (ps := ["_law_cell"]) fun _ _ _ _ _ _ us hl => match us, hl with | [_], _ => rfl
  have b8 := F8.binds (ps := ["_law_well_here", "_law_many"]) fun _ _ _ _ _ _ us hl => match us, hl with | [_, _], _ => rfl
  have b9 := F9.binds (ps := ["_law_well_here", "_law_some"]) fun _ _ _ _ _ _ us hl => match us, hl with | [_, _], _ => rfl
  have b10 := F10.binds (ps := []) fun _ _ _ _ _ _ us hl => match us, hl with | [], _ => rfl
  have b11 := F11.binds (ps := []) fun _ _ _ _ _ _ us hl => match us, hl with | [], _ => rfl
  have b12 := F12.binds (ps := ["_law_number"]) fun _ _ _ _ _ _ us hl => match us, hl with | [_], _ => rfl
  have b13 := F13.binds (ps := ["_law_number"]) fun _ _ _ _ _ _ us hl => match us, hl with | [_], _ => rfl
  have b14 := F14.binds (ps := ["_law_well_here"]) fun _ _ _ _ _ _ us hl => match us, hl with | [_], _ => rfl
  have b15 := F15.binds (ps := ["_law_well_here"]) fun _ _ _ _ _ _ us hl => match us, hl with | [_], _ => rfl
  have T : Txt w K mg := {
    a_is_escape := f0, d_is_escape := _, f_is_escape := F0, g_is_escape := PySem.W.mg_of X G a0, b_is_escape := b0,
    a_reference_at := f1, d_reference_at := _, f_reference_at := F1, g_reference_at := PySem.W.mg_of X G a1, b_reference_at := b1,
    a_decoded := f2, d_decoded := _, f_decoded := F2, g_decoded := PySem.W.mg_of X G a2, b_decoded := b2,
    a_decoded_at := f3, d_decoded_at := _, f_decoded_at := F3, g_decoded_at := PySem.W.mg_of X G a3, b_decoded_at := b3,
    a_sign_meant := f4, d_sign_meant := _, f_sign_meant := F4, g_sign_meant := PySem.W.mg_of X G a4, b_sign_meant := b4,
    a_number_in := f5, d_number_in := _, f_number_in := F5, g_number_in := PySem.W.mg_of X G a5, b_number_in := b5,
    a_sign_of := f6, d_sign_of := _, f_sign_of := F6, g_sign_of := PySem.W.mg_of X G a6, b_sign_of := b6,
    a__law_well := f7, d__law_well := _, f__law_well := F7, g__law_well := PySem.W.mg_of X G a7, b__law_well := b7,
    a__law_draw := f8, d__law_draw := _, f__law_draw := F8, g__law_draw := PySem.W.mg_of X G a8, b__law_draw := b8,
    a__law_one := f9, d__law_one := _, f__law_one := F9, g__law_one := PySem.W.mg_of X G a9, b__law_one := b9,
    a__law_names := f10, d__law_names := _, f__law_names := F10, g__law_names := PySem.W.mg_of X G a10, b__law_names := b10,
    a__law_signs := f11, d__law_signs := _, f__law_signs := F11, g__law_signs := PySem.W.mg_of X G a11, b__law_signs := b11,
    a__law_sign := f12, d__law_sign := _, f__law_sign := F12, g__law_sign := PySem.W.mg_of X G a12, b__law_sign := b12,
    a__law_sixteens := f13, d__law_sixteens := _, f__law_sixteens := F13, g__law_sixteens := PySem.W.mg_of X G a13, b__law_sixteens := b13,
    a__law_reference := f14, d__law_reference := _, f__law_reference := F14, g__law_reference := PySem.W.mg_of X G a14, b__law_reference := b14,
    a__law_piece := f15, d__law_piece := _, f__law_piece := F15, g__law_piece := PySem.W.mg_of X G a15, b__law_piece := b15,
    z_all := PySem.W.mg_none_of X G z_all,
    z_int := PySem.W.mg_none_of X G z_int,
    z_len := PySem.W.mg_none_of X G z_len,
    z_range := PySem.W.mg_none_of X G z_range,
    z_sorted := PySem.W.mg_none_of X G z_sorted,
    z_str := PySem.W.mg_none_of X G z_str,
    t_PUNCTUATION := t_PUNCTUATION, g_PUNCTUATION := PySem.W.mg_of X G q_PUNCTUATION,
    a_NAMES := A_NAMES, g_NAMES := PySem.W.mg_of X G q_NAMES, k_NAMES := ⟨_, _, ⟨L_NAMES, KL_NAMES, W_NAMES⟩, EN_NAMES⟩,
    a_SIGN_ROWS := A_SIGN_ROWS, o_SIGN_ROWS := O_SIGN_ROWS, n_SIGN_ROWS := n_SIGN_ROWS, w_SIGN_ROWS := w_SIGN_ROWS, g_SIGN_ROWS := PySem.W.mg_of X G q_SIGN_ROWS, l_SIGN_ROWS := L_SIGN_ROWS, e_SIGN_ROWS_0 := e_SIGN_ROWS_0, o_SIGN_ROWS_0 := O_SIGN_ROWS_0, n_SIGN_ROWS_0 := n_SIGN_ROWS_0, w_SIGN_ROWS_0 := w_SIGN_ROWS_0, l_SIGN_ROWS_0 := L_SIGN_ROWS_0, u_SIGN_ROWS_0_0 := u_SIGN_ROWS_0_0, u_SIGN_ROWS_0_1 := u_SIGN_ROWS_0_1, e_SIGN_ROWS_1 := e_SIGN_ROWS_1, o_SIGN_ROWS_1 := O_SIGN_ROWS_1, n_SIGN_ROWS_1 := n_SIGN_ROWS_1, w_SIGN_ROWS_1 := w_SIGN_ROWS_1, l_SIGN_ROWS_1 := L_SIGN_ROWS_1, u_SIGN_ROWS_1_0 := u_SIGN_ROWS_1_0, u_SIGN_ROWS_1_1 := u_SIGN_ROWS_1_1, e_SIGN_ROWS_2 := e_SIGN_ROWS_2, o_SIGN_ROWS_2 := O_SIGN_ROWS_2, n_SIGN_ROWS_2 := n_SIGN_ROWS_2, w_SIGN_ROWS_2 := w_SIGN_ROWS_2, l_SIGN_ROWS_2 := L_SIGN_ROWS_2, u_SIGN_ROWS_2_0 := u_SIGN_ROWS_2_0, u_SIGN_ROWS_2_1 := u_SIGN_ROWS_2_1,
    t_LONGEST := t_LONGEST, g_LONGEST := PySem.W.mg_of X G q_LONGEST }
  exact ⟨PySem.W.fnOf "law" "law" (defArgs s_law) (defBody s_law) (defScope s_law) .none kV16 dc16 pm16 an16 cd16 ct16, fun s v => .of_eq rfl, fun base _ _ => ok_law T F16⟩
end K14
open PySem PySem.W PyProof.Rows
set_option maxHeartbeats 0 in
theorem PySem.Challenge.cw_plainmark_k14_references_and_decoding_holds : PySem.Challenge.rw_plainmark_k14_references_and_decoding.Holds := by
  w_on; o_law; k_head; (case hw => w_witness2)
  k_fill
  refine L2.walk_of (l := PySem.Challenge.rw_plainmark_k14_references_and_decoding) (n := 63) (k := 6) (x := "_law_script") (CX := fun _ => L2.CX0) (sp := fun w => K14.sp_law _) rfl (by decide) rfl ⟨rfl, by decide, by decide⟩ (fun w h Y => PySem.W.kIn_of Y) ?F (fun _ _ a ns hl _ hS => ⟨a, ns, rfl, hS, hl, fun _ => rfl⟩) (fun _ _ _ _ _ h => h)
  case F =>
    intro w mg fa h KX G hmg
    refine' K14.all_mk KX G hmg ?a0 ?l0 ?c0 ?k0 ?a1 ?l1 ?c1 ?k1 ?a2 ?l2 ?c2 ?k2 ?a3 ?l3 ?c3 ?k3 ?a4 ?l4 ?c4 ?k4 ?a5 ?l5 ?c5 ?k5 ?a6 ?l6 ?c6 ?k6 ?a7 ?l7 ?c7 ?k7 ?a8 ?l8 ?c8 ?k8 ?a9 ?l9 ?c9 ?k9 ?a10 ?l10 ?c10 ?k10 ?a11 ?l11 ?c11 ?k11 ?a12 ?l12 ?c12 ?k12 ?a13 ?l13 ?c13 ?k13 ?a14 ?l14 ?c14 ?k14 ?a15 ?l15 ?c15 ?k15 ?a16 ?l16 ?c16 ?k16 ?z_all ?z_int ?z_len ?z_range ?z_sorted ?z_str ?q_PUNCTUATION ?q_NAMES ?L_NAMES ?KL_NAMES ?W_NAMES ?EN_NAMES ?q_SIGN_ROWS ?L_SIGN_ROWS ?L_SIGN_ROWS_0 ?L_SIGN_ROWS_1 ?L_SIGN_ROWS_2 ?q_LONGEST
    (case a0 => k_is); (case l0 => k_is); (case c0 => k_is); (case k0 => k_is); (case a1 => k_is); (case l1 => k_is); (case c1 => k_is); (case k1 => k_is); (case a2 => k_is); (case l2 => k_is); (case c2 => k_is); (case k2 => k_is); (case a3 => k_is); (case l3 => k_is); (case c3 => k_is); (case k3 => k_is); (case a4 => k_is); (case l4 => k_is); (case c4 => k_is); (case k4 => k_is); (case a5 => k_is); (case l5 => k_is); (case c5 => k_is); (case k5 => k_is); (case a6 => k_is); (case l6 => k_is); (case c6 => k_is); (case k6 => k_is); (case a7 => k_is); (case l7 => k_is); (case c7 => k_is); (case k7 => k_is); (case a8 => k_is); (case l8 => k_is); (case c8 => k_is); (case k8 => k_is); (case a9 => k_is); (case l9 => k_is); (case c9 => k_is); (case k9 => k_is); (case a10 => k_is); (case l10 => k_is); (case c10 => k_is); (case k10 => k_is); (case a11 => k_is); (case l11 => k_is); (case c11 => k_is); (case k11 => k_is); (case a12 => k_is); (case l12 => k_is); (case c12 => k_is); (case k12 => k_is); (case a13 => k_is); (case l13 => k_is); (case c13 => k_is); (case k13 => k_is); (case a14 => k_is); (case l14 => k_is); (case c14 => k_is); (case k14 => k_is); (case a15 => k_is); (case l15 => k_is); (case c15 => k_is); (case k15 => k_is); (case a16 => k_is); (case l16 => k_is); (case c16 => k_is); (case k16 => k_is); (case z_all => k_is); (case z_int => k_is); (case z_len => k_is); (case z_range => k_is); (case z_sorted => k_is); (case z_str => k_is); (case q_PUNCTUATION => k_is); (case q_NAMES => k_is); (case L_NAMES => k_is); (case KL_NAMES => exact ⟨⟨_, _, rfl, rfl⟩, ⟨⟨_, _, rfl, rfl⟩, ⟨⟨_, _, rfl, rfl⟩, ⟨⟨_, _, rfl, rfl⟩, ⟨⟨_, _, rfl, rfl⟩, ⟨⟨_, _, rfl, rfl⟩, ⟨⟨_, _, rfl, rfl⟩, ⟨⟨_, _, rfl, rfl⟩, ⟨⟨_, _, rfl, rfl⟩, ⟨⟨_, _, rfl, rfl⟩, ⟨⟨_, _, rfl, rfl⟩, ⟨⟨_, _, rfl, rfl⟩, ⟨⟨_, _, rfl, rfl⟩, ⟨⟨_, _, rfl, rfl⟩, ⟨⟨_, _, rfl, rfl⟩, ⟨⟨_, _, rfl, rfl⟩, ⟨⟨_, _, rfl, rfl⟩, ⟨⟨_, _, rfl, rfl⟩, ⟨⟨_, _, rfl, rfl⟩, True.intro⟩⟩⟩⟩⟩⟩⟩⟩⟩⟩⟩⟩⟩⟩⟩⟩⟩⟩⟩); (case W_NAMES => rfl); (case EN_NAMES => exact ⟨⟨_, rfl⟩, ⟨_, rfl⟩, ⟨⟨_, rfl⟩, ⟨_, rfl⟩, ⟨⟨_, rfl⟩, ⟨_, rfl⟩, ⟨⟨_, rfl⟩, ⟨_, rfl⟩, ⟨⟨_, rfl⟩, ⟨_, rfl⟩, ⟨⟨_, rfl⟩, ⟨_, rfl⟩, ⟨⟨_, rfl⟩, ⟨_, rfl⟩, ⟨⟨_, rfl⟩, ⟨_, rfl⟩, ⟨⟨_, rfl⟩, ⟨_, rfl⟩, ⟨⟨_, rfl⟩, ⟨_, rfl⟩, ⟨⟨_, rfl⟩, ⟨_, rfl⟩, ⟨⟨_, rfl⟩, ⟨_, rfl⟩, ⟨⟨_, rfl⟩, ⟨_, rfl⟩, ⟨⟨_, rfl⟩, ⟨_, rfl⟩, ⟨⟨_, rfl⟩, ⟨_, rfl⟩, ⟨⟨_, rfl⟩, ⟨_, rfl⟩, ⟨⟨_, rfl⟩, ⟨_, rfl⟩, ⟨⟨_, rfl⟩, ⟨_, rfl⟩, ⟨⟨_, rfl⟩, ⟨_, rfl⟩, True.intro⟩⟩⟩⟩⟩⟩⟩⟩⟩⟩⟩⟩⟩⟩⟩⟩⟩⟩⟩); (case q_SIGN_ROWS => k_is); (case L_SIGN_ROWS => k_is); (case L_SIGN_ROWS_0 => k_is); (case L_SIGN_ROWS_1 => k_is); (case L_SIGN_ROWS_2 => k_is); (case q_LONGEST => k_is)
