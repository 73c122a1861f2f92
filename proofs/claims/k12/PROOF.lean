import PyProof.Rows.All
import Wide.All
import OpenK.AllK
import Wide.FinOn
import HandS.ForMost
import HandS.Wide
import HandS.StrMore
import HandS.Style
import HandS.Flow
import HandS.Walk
import PyProof.Draws
import PyProof.StrOps2

import HandS.More
import PySem.Challenge.RW_plainmark_k12_kinds_of_html

set_option Elab.async false
set_option linter.all false
set_option maxRecDepth 100000
/-! words of my own over the hand layer -/
namespace My
open PySem PySem.Spec PyProof.Rows L2

/-- a text by its signs -/
def S (l : List Nat) : Str := ⟨l.toArray⟩
theorem S_tl (l : List Nat) : (S l).cps.toList = l := by simp [S]
theorem S_of (z : Str) : z = S z.cps.toList := by
  cases z
  simp [S]
theorem S_len (l : List Nat) : (S l).length = l.length := by simp [S, Str.length]
theorem S_size (l : List Nat) : (S l).cps.size = l.length := by simp [S]
theorem S_get (l : List Nat) (i : Nat) : (S l).cps[i]? = l[i]? := by simp [S]
theorem S_app (a b : List Nat) : S a ++ S b = S (a ++ b) := by
  show (⟨a.toArray ++ b.toArray⟩ : Str) = ⟨(a ++ b).toArray⟩
  simp
theorem S_inj {a b : List Nat} (h : S a = S b) : a = b := by
  have := congrArg (fun z : Str => z.cps.toList) h
  simpa [S] using this
theorem S_dec (a b : List Nat) : decide (V.str (S a) = V.str (S b)) = decide (a = b) := by
  by_cases h : a = b
  · subst h
    simp
  · have h2 : ¬ V.str (S a) = V.str (S b) := fun e => h (S_inj (V.str.inj e))
    simp [h, h2]
theorem S_cut (l : List Nat) (k : Nat) : cutS (S l) (some (k : Int)) none = S (l.drop k) := by
  unfold cutS
  rw [HT.sIx_nat, HT.sIx_none, S_len, S_tl]
  show S _ = S _
  congr 1
  by_cases h : k ≤ l.length
  · rw [Nat.min_eq_left h]
    exact List.take_of_length_le (by rw [List.length_drop]; omega)
  · rw [Nat.min_eq_right (by omega), Nat.sub_self, List.take_zero, List.drop_of_length_le (by omega)]
theorem S_cut2 (l : List Nat) (j k : Nat) (h : j ≤ k) : cutS (S l) (some (j : Int)) (some (k : Int)) = S ((l.drop j).take (k - j)) := by
  unfold cutS
  rw [HT.sIx_nat, HT.sIx_nat, S_len, S_tl]
  show S _ = S _
  congr 1
  by_cases h1 : j ≤ l.length
  · rw [Nat.min_eq_left h1]
    by_cases h2 : k ≤ l.length
    · rw [Nat.min_eq_left h2]
    · rw [Nat.min_eq_right (by omega), List.take_of_length_le (by rw [List.length_drop]; omega), List.take_of_length_le (by rw [List.length_drop]; omega)]
  · rw [List.drop_of_length_le (by omega), List.drop_of_length_le (by omega), List.take_nil, List.take_nil]

/-- all that is tracked but L stays -/
def Keeps (L : Addr) (H H' : Hp) : Prop := ∀ b o, b ≠ L → H b = some o → H' b = some o
theorem Keeps.refl {L : Addr} (H : Hp) : Keeps L H H := fun _ _ _ h => h
theorem Keeps.trans {L : Addr} {H H1 H2 : Hp} (a : Keeps L H H1) (b : Keeps L H1 H2) : Keeps L H H2 := fun c o n h => b c o n (a c o n h)
theorem Keeps.new {L p : Addr} {H : Hp} {o : HO} (h : H p = none) : Keeps L H (upd H p o) := fun b u _ e => by
  rw [upd_ne (ne_of_none e h)]
  exact e
theorem Keeps.at {L : Addr} {H : Hp} {o : HO} : Keeps L H (upd H L o) := fun b u n e => by
  rw [upd_ne n]
  exact e
theorem Keeps.of {L : Addr} {H H' : Hp} (h : Same H H') : Keeps L H H' := fun b o _ e => h b o e
theorem same_new {p : Addr} {H : Hp} {o : HO} (h : H p = none) : Same H (upd H p o) := fun b u e => by
  rw [upd_ne (ne_of_none e h)]
  exact e
/-- a well of draws -/
def Well (H : Hp) (L : Addr) : Prop := ∃ x y : Int, H L = some (.lst [.int x, .int y])
theorem Well.same {H H' : Hp} {L : Addr} (h : Well H L) (s : Same H H') : Well H' L := by
  obtain ⟨x, y, e⟩ := h
  exact ⟨x, y, s _ _ e⟩
theorem Well.new {H : Hp} {L p : Addr} {o : HO} (h : Well H L) (n : H p = none) : Well (upd H p o) L := h.same (same_new n)
theorem Well.ne {H : Hp} {L p : Addr} (h : Well H L) (n : H p = none) : p ≠ L := by
  obtain ⟨x, y, e⟩ := h
  exact (ne_of_none e n).symm
theorem Well.kept {H H' : Hp} {L p : Addr} (h : Well H L) (k : Keeps L H H') (w : Well H' L) (n : H' p = none) : H p = none := by
  cases q : H p with
  | none => rfl
  | some o =>
    have z := k p o (w.ne n) q
    rw [n] at z
    cases z
theorem Keeps.free {L p : Addr} {H H' : Hp} (k : Keeps L H H') (n : H' p = none) (h : p ≠ L) : H p = none := by
  cases q : H p with
  | none => rfl
  | some o =>
    have z := k p o h q
    rw [n] at z
    cases z
theorem Keeps.seq {K : PySem.W.Frag} {L a : Addr} {H H' : Hp} {xs : List V} (k : Keeps L H H') (n : a ≠ L) (h : SqL K H a xs) : SqL K H' a xs := by
  rcases h with (h | ⟨o, h⟩) | h
  · exact .inl (.inl (k _ _ n h))
  · exact .inl (.inr ⟨o, k _ _ n h⟩)
  · exact .inr h
theorem Keeps.tup {K : PySem.W.Frag} {L a : Addr} {H H' : Hp} {xs : List V} (k : Keeps L H H') (n : a ≠ L) (h : SqT K H a xs) : SqT K H' a xs := by
  rcases h with (h | ⟨o, h⟩) | h
  · exact .inl (.inl (k _ _ n h))
  · exact .inl (.inr ⟨o, k _ _ n h⟩)
  · exact .inr h

section
variable {X : Cx}
/-- one sign, so often -/
theorem op_mul_str : OpR X (binaryOp .Mult) (fun x y H Q => ∃ (c j : Nat), x = .str (S [c]) ∧ y = .int (j : Int) ∧ j ≤ 1000 ∧ Q (.str (S (List.replicate j c))) H) := by
  intro pins s σ H x y v u Q I rx ry h
  obtain ⟨c, j, rfl, rfl, hj, q⟩ := h
  obtain ⟨t, rfl⟩ := rx
  obtain ⟨t', rfl⟩ := ry
  have hlen : (S [c]).length = 1 := S_len _
  refine PySem.P.mul_str (by simp; omega) (fun _ _ => by
    rw [hlen]
    have : (1 : Int) ≤ (2 ^ 63 - 1) / (j : Int) := by
      by_cases hj0 : j = 0
      · omega
      · refine Int.le_ediv_of_mul_le (by omega) ?_
        omega
    omega) (fun _ _ => by
    rw [hlen]
    have : (j : Int).toNat = j := by omega
    rw [this]
    exact decide_eq_false (by rw [sizeLine_eq]; omega)) ?_
  have fin : ∀ (l : List Nat), l = List.replicate j c → ∀ (v : Value) (k : Nat), RelV (.str (S l)) v → EP X pins σ Q v { s with toks := k } := fun l e v k r => ⟨.str (S l), H, I.tok _, r, by rw [e]; exact q⟩
  by_cases h0 : (j : Int) < 1
  · have e0 : j = 0 := by omega
    rw [if_pos h0]
    exact ⟨by decide, fin [] (by rw [e0]; rfl) _ _ ⟨_, rfl⟩⟩
  · rw [if_neg h0]
    by_cases h1 : j = 1
    · subst h1
      rw [if_pos (by rfl)]
      exact fin [c] rfl _ s.toks ⟨_, rfl⟩
    · rw [if_neg (by rw [hlen]; simp; omega)]
      have e : (⟨(List.replicate (j : Int).toNat (S [c]).cps).foldl (· ++ ·) #[]⟩ : Str) = S (List.replicate j c) := by
        have ej : (j : Int).toNat = j := by omega
        rw [ej]
        have gen : ∀ (n : Nat) (acc : List Nat), (List.replicate n (S [c]).cps).foldl (· ++ ·) acc.toArray = (acc ++ List.replicate n c).toArray := by
          intro n
          induction n with
          | zero => intro acc; simp
          | succ n ih =>
            intro acc
            rw [List.replicate_succ, List.foldl_cons]
            have : acc.toArray ++ (S [c]).cps = (acc ++ [c]).toArray := by simp [S]
            rw [this, ih, List.replicate_succ]
            simp
        have := gen j []
        simp at this
        unfold S
        congr 1
      rw [e]
      refine ⟨?_, fin _ rfl _ _ ⟨_, rfl⟩⟩
      rw [S_len, List.length_replicate, sizeLine_eq]
      omega

/-- a text with its places -/
def Its2 (z : Str) : It :=
  ⟨fun i _ => i < z.cps.size, fun i H v H' => ∃ T c, v = .ref T ∧ H T = none ∧ H' = upd H T (.tup [.int (i : Nat), .str (S [c])]) ∧ z.cps[i]? = some c, fun i _ => i = z.cps.size⟩
theorem turn_enumS {P : Program} {w : World} {K : PySem.W.Frag} {elts : List Expr} {kk : Nat} {tpos : Pos} (z : Str) (t : Tok) (e it : Addr) :
    Turn P w K (.Tuple elts kk tpos) (Its2 z) [e, it] e (fun i h => (∃ old, IsEnum h e it ((i : Nat) : Int) old) ∧ h.IsStrIter it (strIterType z) z t i ∧ e ≠ it) where
  mem := List.mem_cons_self ..
  obj := fun i h st b hb => by
    obtain ⟨⟨old, he⟩, ⟨o, ho, hc, hd⟩, _⟩ := st
    rcases List.mem_cons.mp hb with rfl | hb
    · exact ⟨_, he, fun v q => nomatch q⟩
    · rw [List.mem_singleton.mp hb]
      exact ⟨o, ho, fun v q => by rw [hd] at q; cases q⟩
  keep := fun i h h' st k => by
    obtain ⟨⟨old, he⟩, ⟨o, ho, r⟩, hne⟩ := st
    exact ⟨⟨old, k e (by simp) _ he⟩, ⟨o, k it (by simp) o ho, r⟩, hne⟩
  item := by
    intro X hP hw hK hc i pins s σ H E I hf st hg
    subst hP hw hK
    obtain ⟨⟨old, he⟩, hit, hne⟩ := st
    have hel : e < s.heap.objs.size := Heap.lt_size he
    have hil : it < s.heap.objs.size := by
      obtain ⟨_, q, _⟩ := hit
      exact Heap.lt_size q
    have hef : e ∉ [it] := fun q => hne (List.mem_singleton.mp q)
    have D : Draws X.prog X.w X.A.in1 it [it] z.cps.size (fun i v => ∃ c u, z.cps[i]? = some c ∧ v = .str ⟨#[c]⟩ u) (fun i h => h.IsStrIter it (strIterType z) z t i) := by
      unfold strIterType
      cases ha : z.cps.all (· < 128)
      · simpa [ha] using Draws.strWide (prog := X.prog) (w := X.w) (A := X.A.in1) (I.ok.hd hc) it z t
      · simpa [ha] using Draws.strAscii (prog := X.prog) (w := X.w) (A := X.A.in1) (I.ok.hd hc) it z t
    refine wpAny_pyNext_enum_itemD D he hit hg hne hef fun x h' tk hx ho hit' hT hsz hk => ?_
    obtain ⟨c, u, hcx, rfl⟩ := hx
    refine ⟨_, rfl, wpAny_letOwnedTupleGo_enum (s := { s with heap := h', toks := tk + 1 }) ho fun h'' he' sb => ?_⟩
    have hT2 : h''.get? s.heap.objs.size = some { cls := .type "tuple", data := .seq #[.int i tk, .str ⟨#[c]⟩ u] } := (sb.2 _ (Nat.ne_of_gt hel)).trans hT
    have new : ObjOk X.prog X.w (upd H s.heap.objs.size (.tup [.int (i : Nat), .str (S [c])])) h'' s.heap.objs.size (.tup [.int (i : Nat), .str (S [c])]) :=
      ⟨by show 2 ≤ sizeLine; decide, [.int i tk, .str ⟨#[c]⟩ u], .cons ⟨_, rfl⟩ (.cons ⟨_, rfl⟩ .nil), ⟨_, hT2, rfl, _, rfl⟩⟩
    have hold : ∀ b ob, b ∉ [e, it] → s.heap.get? b = some ob → h''.get? b = some ob := fun b ob hb q =>
      (sb.2 b (fun q => hb (by simp [q]))).trans (hk b ob (fun q => hb (by simp [q])) (fun q => hb (by simp [q])) q)
    have I1 : Inv X pins σ (upd H s.heap.objs.size (.tup [.int (i : Nat), .str (S [c])])) { s with heap := h'', toks := tk + 1 } :=
      I.turnedNew (t' := tk + 1) (ch := [e, it]) hold hf (Nat.le_refl _) new
    refine ⟨.ref s.heap.objs.size, _, I1, rfl, ⟨_, c, rfl, I.hok.fresh (Nat.le_refl _), rfl, hcx⟩, ⟨⟨.str ⟨#[c]⟩ u, ?_⟩, ?_, hne⟩, fun b hb => ?_⟩
    · have e1 : ((i + 1 : Nat) : Int) = (i : Int) + 1 := Int.natCast_succ i
      rw [e1]
      exact he'
    · obtain ⟨o, q, r⟩ := hit'
      exact ⟨o, (sb.2 it (Ne.symm hne)).trans q, r⟩
    · have hb' : b < s.heap.objs.size := by
        rcases List.mem_cons.mp hb with q | q
        · rw [q]
          exact hel
        · rw [List.mem_singleton.mp q]
          exact hil
      rw [upd_ne (Nat.ne_of_lt hb')]
      exact (hf b hb).1
  done := by
    intro X hP hw hK hc i pins s σ H E I hf st hg
    subst hP hw hK
    obtain ⟨⟨old, he⟩, hit, hne⟩ := st
    obtain ⟨f0, f1, f2, f3, f4, f5⟩ := hf it (by simp)
    have D : Draws X.prog X.w X.A.in1 it [it] z.cps.size (fun i v => ∃ c u, z.cps[i]? = some c ∧ v = .str ⟨#[c]⟩ u) (fun i h => h.IsStrIter it (strIterType z) z t i) := by
      unfold strIterType
      cases ha : z.cps.all (· < 128)
      · simpa [ha] using Draws.strWide (prog := X.prog) (w := X.w) (A := X.A.in1) (I.ok.hd hc) it z t
      · simpa [ha] using Draws.strAscii (prog := X.prog) (w := X.w) (A := X.A.in1) (I.ok.hd hc) it z t
    have hi : i = z.cps.size := hg
    subst hi
    exact wpAny_pyNext_enum_endD D he hit fun h' eb => ⟨rfl, I.turned (t' := s.toks) (fun b o hb q => eb b o hb q) f0 f1 f3 f4 f5⟩
  self := fun A i s Q E st h => by
    obtain ⟨⟨_, he⟩, _⟩ := st
    exact wpAny_pyIter_enum he h
def iEnumS (ta : TA) : TI := fun σ H R => ta σ H fun vs H1 => ∃ z, vs = [.str z] ∧ R (Its2 z) H1
theorem pi_enumS {e : Expr} {ta : TA} {p pos tpos : Pos} {elts : List Expr} {kk : Nat} (hg : Gl X "enumerate") (hm : X.mg "enumerate" = none) (ha : PA X [e] ta)
    (hs : starEach [e] X.env = [(false, eval e X.env)] := by rfl) : PI X (.Tuple elts kk tpos) (.Call (.Name "enumerate" p) [e] [] pos) (iEnumS ta) := by
  refine ⟨fun pins s σ H R I h => ?_⟩
  refine Call_ (ld_blt I hg hm boot_enumerate (PyProof.Rows.callWith_type1 (thn (ha.run pos pins s σ H _ I h) fun us s1 ⟨vs, H1, I1, r1, q1⟩ => ?_) hs rfl))
  obtain ⟨z, rfl, q⟩ := q1
  obtain ⟨u1, rfl, r⟩ := vals1 r1
  obtain ⟨t, rfl⟩ := r
  refine PySem.call_enumerate_str fun h' he hit hsz hk => wpAny_pyIter_enum he ?_
  have I2 : Inv X pins σ H1 { s1 with heap := h' } := I1.kept (t' := s1.toks) hk
  refine ⟨s1.heap.objs.size + 1, [s1.heap.objs.size + 1, s1.heap.objs.size], _, _, H1, rfl, I2, turn_enumS z t (s1.heap.objs.size + 1) s1.heap.objs.size, ⟨⟨.none, he⟩, hit, Nat.succ_ne_self _⟩, fun b hb => ?_, q⟩
  have hle : s1.heap.objs.size ≤ b := by
    rcases List.mem_cons.mp hb with q | q
    · rw [q]
      exact Nat.le_succ _
    · rw [List.mem_singleton.mp q]
      exact Nat.le_refl _
  exact I1.fpOk hle (I1.hok.fresh hle)
theorem walk_enumS {z : Str} : Walk (Its2 z) z.cps.size (fun _ => True) (fun i H v H' => ∃ T c, v = .ref T ∧ H T = none ∧ H' = upd H T (.tup [.int (i : Nat), .str (S [c])]) ∧ z.cps[i]? = some c) :=
  ⟨fun _ _ hi _ => hi, fun _ _ => rfl, fun _ _ _ _ _ _ y => y⟩
end

/-! ### data -/
def Sm (l : List Nat) : Prop := ∀ c ∈ l, c < 1114112
theorem Sm.ok {l : List Nat} (h : Sm l) : PyData.strOk (S l) = true := by
  unfold PyData.strOk S
  rw [Array.all_eq_true']
  intro c hc
  exact decide_eq_true (h c (by simpa using hc))
theorem Sm.drop {l : List Nat} (h : Sm l) (n : Nat) : Sm (l.drop n) := fun c hc => h c (List.mem_of_mem_drop hc)
theorem dp_strs {K : PySem.W.Frag} {H : Hp} : ∀ ls : List (List Nat), DpAll K H (ls.map fun l => V.str (S l)) (ls.map fun l => PyData.str (S l))
  | [] => .nil
  | l :: r => .cons (.str _) (dp_strs r)
theorem canLay_strs : ∀ {ls : List (List Nat)}, (∀ l ∈ ls, Sm l) → PyData.canLayAll0 (ls.map fun l => PyData.str (S l)) = true
  | [], _ => rfl
  | l :: r, h => by
    show (PyData.strOk (S l) && PyData.canLayAll0 (r.map fun l => PyData.str (S l))) = true
    rw [(h l (List.mem_cons_self ..)).ok, canLay_strs fun z hz => h z (List.mem_cons_of_mem _ hz)]
    rfl
theorem depth_strs : ∀ ls : List (List Nat), PyData.depthAll (ls.map fun l => PyData.str (S l)) = 0
  | [] => rfl
  | l :: r => by
    show max 0 (PyData.depthAll (r.map fun l => PyData.str (S l))) = 0
    rw [depth_strs r]
    rfl
theorem shaped_strs {ls : List (List Nat)} (h : ∀ l ∈ ls, Sm l) : SeqAt.shaped (.list (ls.map fun l => PyData.str (S l))) = true := by
  show (PyData.canLayAll0 _ && decide (PyData.depthAll _ + 1 ≤ 64)) = true
  rw [canLay_strs h, depth_strs]
  rfl
theorem eq_strs {ls : List (List Nat)} (h : ∀ l ∈ ls, Sm l) : PyData.eqv (.list (ls.map fun l => PyData.str (S l))) (.list (ls.map fun l => PyData.str (S l))) = true :=
  PySem.SeqAt.eqv_refl _ (canLay_strs h)
/-- a text and two ints -/
def D3 (l : List Nat) (b c : Int) : PyData := .tuple [.str (S l), .int b, .int c]
theorem dp3 {K : PySem.W.Frag} {H : Hp} {a : Addr} {l : List Nat} {b c : Int} (h : SqT K H a [.str (S l), .int b, .int c]) : Dp K H (.ref a) (D3 l b c) :=
  .tup h (.cons (.str _) (.cons (.int _) (.cons (.int _) .nil)))
theorem lay3 {l : List Nat} (h : Sm l) (b c : Int) : (D3 l b c).canLay0 = true := by
  show (PyData.strOk (S l) && (true && (true && true))) = true
  rw [h.ok]
  rfl
theorem shaped3 {l : List Nat} (h : Sm l) (b c : Int) : SeqAt.shaped (D3 l b c) = true := by
  show ((D3 l b c).canLay0 && decide ((D3 l b c).depth ≤ 64)) = true
  rw [lay3 h]
  rfl
theorem eq3 {l : List Nat} (h : Sm l) (b c : Int) : PyData.eqv (D3 l b c) (D3 l b c) = true := PySem.SeqAt.eqv_refl _ (lay3 h b c)

/-! ### a if t else b -/
def AnsB (t : TT) (σ : L2.St) (H : Hp) (b : Bool) : Prop := ∀ Q : Bool → Hp → Prop, Q b H → t σ H Q
def ValB (te : TE) (σ : L2.St) (H : Hp) (P : V → Hp → Prop) : Prop := ∀ Q : VK, (∀ v H', P v H' → Q v H') → te σ H Q
theorem tif_val {t : TT} {ta tb : TE} {σ : L2.St} {H : Hp} {P : V → Hp → Prop} (b : Bool) (ht : AnsB t σ H b) (ha : b = true → ValB ta σ H P) (hb : b = false → ValB tb σ H P) : ValB (tIf t ta tb) σ H P := by
  intro Q q
  refine ht _ ?_
  cases b with
  | true =>
    rw [if_pos rfl]
    exact ha rfl Q q
  | false =>
    rw [if_neg Bool.false_ne_true]
    exact hb rfl Q q
theorem sum_le : ∀ {ls : List (List Nat)} {k : Nat}, (∀ l ∈ ls, l.length ≤ k) → ((ls.map S).map (·.length)).sum ≤ k * ls.length
  | [], k, _ => by simp
  | a :: r, k, h => by
    have ih := sum_le (ls := r) (k := k) fun l hl => h l (List.mem_cons_of_mem _ hl)
    have ha := h a (List.mem_cons_self ..)
    rw [List.map_cons, List.map_cons, List.sum_cons, S_len, List.length_cons, Nat.mul_succ]
    omega

theorem asg_if {t : TT} {ta tb : TE} {g : TG} {u : TS} {D : Ends} {σ : L2.St} {H : Hp} (P : V → Hp → Prop) (b : Bool) (ht : AnsB t σ H b) (ha : b = true → ValB ta σ H P) (hb : b = false → ValB tb σ H P)
    (hq : ∀ v H', P v H' → g v σ H' (u D)) : tSeq (tAsg (tIf t ta tb) g) u D σ H :=
  tif_val b ht ha hb (fun v H' => g v σ H' (u D)) hq
theorem go_nx {D : Ends} {σ : L2.St} {H : Hp} (q : D.nx σ H) : tNext D σ H := q
end My

/-! ### texts by their signs: what the methods tell -/
namespace My
open PySem PySem.Spec PyProof.Rows L2 PySem.StrLaws PySem.Builtin.Str
theorem from_nat (n p : Nat) : fromIndex n (p : Int) = p := by
  unfold fromIndex
  have : ¬ (p : Int) < 0 := by omega
  rw [if_neg this]
  omega
theorem to_nat (n p : Nat) : toIndexW n (p : Int) = min n p := by
  unfold toIndexW
  have : ¬ (p : Int) < 0 := by omega
  rw [if_neg this]
  omega
theorem sub_S (t w : List Nat) (i : Nat) : subAt (S t) (S w) i = ((t.drop i).take w.length == w) := by
  rw [subAt_eq, S_tl, S_tl, S_len]
theorem take_pre : ∀ (w r : List Nat), (r.take w.length == w) = w.isPrefixOf r
  | [], r => by simp [List.isPrefixOf]
  | a :: w, [] => by simp [List.isPrefixOf]
  | a :: w, b :: r => by
    show (b :: r.take w.length == a :: w) = (a == b && w.isPrefixOf r)
    rw [← take_pre w r]
    show (b == a && (r.take w.length == w)) = _
    have e : (b == a) = (a == b) := by
      by_cases h : a = b
      · rw [h]
      · rw [beq_eq_false_iff_ne.mpr h, beq_eq_false_iff_ne.mpr fun e => h e.symm]
    rw [e]
theorem pre_len : ∀ (w r : List Nat), w.isPrefixOf r = true → w.length ≤ r.length
  | [], r, _ => Nat.zero_le _
  | a :: w, [], h => by cases h
  | a :: w, b :: r, h => by
    have h2 : w.isPrefixOf r = true := (Bool.and_eq_true_iff.mp (show (a == b && w.isPrefixOf r) = true from h)).2
    have := pre_len w r h2
    simp
    omega
theorem at_S (t w : List Nat) (hw : w ≠ []) (i : Nat) : At (S t) (S w) (S t).length i ↔ w.isPrefixOf (t.drop i) = true := by
  unfold At
  rw [sub_S, take_pre, S_len, S_len]
  constructor
  · exact fun h => h.2
  · intro h
    refine ⟨?_, h⟩
    have := pre_len _ _ h
    rw [List.length_drop] at this
    have h0 : 0 < w.length := List.length_pos_iff.mpr hw
    omega
theorem starts3 (t w : List Nat) (hw : w ≠ []) (p : Nat) : Txt.startswith3 (S t) (S w) (p : Int) = w.isPrefixOf (t.drop p) := by
  unfold Txt.startswith3
  rw [from_nat, sub_S, take_pre]
  cases h : w.isPrefixOf (t.drop p) with
  | false => simp
  | true =>
    have := (at_S t w hw p).mpr h
    have h1 : p + (S w).length ≤ (S t).length := this.1
    simp [h1]
theorem starts1 (t w : List Nat) (hw : w ≠ []) : Txt.startswith (S t) (S w) = w.isPrefixOf t := by
  have := starts3 t w hw 0
  unfold Txt.startswith3 at this
  rw [from_nat, List.drop_zero] at this
  exact this
/-- the first place of w -/
def findL (w : List Nat) : List Nat → Option Nat
  | [] => if w = [] then some 0 else none
  | c :: r => if w.isPrefixOf (c :: r) = true then some 0 else (findL w r).map (· + 1)
theorem findL_some {w : List Nat} : ∀ {r : List Nat} {k : Nat}, w ≠ [] → findL w r = some k → w.isPrefixOf (r.drop k) = true ∧ ∀ j, j < k → w.isPrefixOf (r.drop j) = false
  | [], k, hw, h => by
    unfold findL at h
    rw [if_neg hw] at h
    cases h
  | c :: r, k, hw, h => by
    unfold findL at h
    split at h
    · rename_i hp
      cases h
      exact ⟨hp, fun j hj => absurd hj (Nat.not_lt_zero _)⟩
    · rename_i hp
      cases hf : findL w r with
      | none => rw [hf] at h; cases h
      | some k' =>
        rw [hf] at h
        have e : k' + 1 = k := Option.some.inj h
        subst e
        obtain ⟨h1, h2⟩ := findL_some hw hf
        refine ⟨h1, fun j hj => ?_⟩
        cases j with
        | zero => exact eq_false_of_ne_true hp
        | succ j => exact h2 j (by omega)
theorem findL_none {w : List Nat} : ∀ {r : List Nat}, w ≠ [] → findL w r = none → ∀ j, w.isPrefixOf (r.drop j) = false
  | [], hw, _, j => by
    rw [List.drop_nil]
    cases w with
    | nil => exact absurd rfl hw
    | cons a w => rfl
  | c :: r, hw, h, j => by
    unfold findL at h
    split at h
    · cases h
    · rename_i hp
      cases hf : findL w r with
      | some k => rw [hf] at h; cases h
      | none =>
        cases j with
        | zero => exact eq_false_of_ne_true hp
        | succ j => exact findL_none hw hf j
theorem find3_S (t w : List Nat) (hw : w ≠ []) (p : Nat) : Txt.find3 (S t) (S w) (p : Int) = match findL w (t.drop p) with | some k => ((p + k : Nat) : Int) | none => -1 := by
  unfold Txt.find3
  rw [from_nat]
  rcases occ_head_from (S t) (S w) p 1 (Nat.le_refl _) with ⟨h0, hn⟩ | ⟨i, r, h0, hp, ha, hn⟩
  · rw [h0]
    cases hf : findL w (t.drop p) with
    | none => rfl
    | some k =>
      have h1 := (findL_some hw hf).1
      rw [List.drop_drop] at h1
      exact absurd ((at_S t w hw (p + k)).mpr h1) (hn (p + k) (by omega))
  · rw [h0]
    have ha' := (at_S t w hw i).mp ha
    cases hf : findL w (t.drop p) with
    | none =>
      have h1 := findL_none hw hf (i - p)
      rw [List.drop_drop, show p + (i - p) = i by omega, ha'] at h1
      cases h1
    | some k =>
      obtain ⟨h1, h2⟩ := findL_some hw hf
      rw [List.drop_drop] at h1
      have e : i = p + k := by
        rcases Nat.lt_trichotomy i (p + k) with h | h | h
        · have h3 := h2 (i - p) (by omega)
          rw [List.drop_drop, show p + (i - p) = i by omega, ha'] at h3
          cases h3
        · exact h
        · exact absurd ((at_S t w hw (p + k)).mpr h1) (hn (p + k) (by omega) h)
      show ((i : Nat) : Int) = _
      rw [e]
/-- one text in another -/
def inL (w r : List Nat) : Bool := (findL w r).isSome
theorem in_S (t w : List Nat) (hw : w ≠ []) : (!(occurrences (S t) (S w) 0 (S t).length 1).isEmpty) = inL w t := by
  have h := find3_S t w hw 0
  unfold Txt.find3 at h
  rw [from_nat, List.drop_zero] at h
  unfold inL
  cases ho : occurrences (S t) (S w) 0 (S t).length 1 with
  | nil =>
    rw [ho] at h
    cases hf : findL w t with
    | none => rfl
    | some k =>
      rw [hf] at h
      have h' : (-1 : Int) = ((0 + k : Nat) : Int) := h
      omega
  | cons a b =>
    rw [ho] at h
    cases hf : findL w t with
    | none =>
      rw [hf] at h
      have h' : ((a : Nat) : Int) = -1 := h
      omega
    | some k => rfl
/-- signs counted -/
theorem occ_count (t : List Nat) (c hi limit : Nat) : ∀ (n a : Nat) (st : Array Nat × Nat), st.2 ≤ a → st.1.size + n ≤ limit → hi ≤ t.length → a + n = hi + 1 ∨ (n = 0 ∧ hi < a) →
    (forIn (List.range' a n) st (occBody (S t) (S [c]) hi limit)).run.fst.size = st.1.size + ((t.drop a).take (hi - a)).count c
  | 0, a, st, h1, h2, h3, h4 => by
    have : hi - a = 0 := by omega
    rw [this]
    simp
  | n + 1, a, st, h1, h2, h3, h4 => by
    rw [List.range'_succ, List.forIn_cons]
    have hl : (S [c]).length = 1 := S_len _
    have stay : ¬ (((st.1.size < limit ∧ st.2 ≤ a) ∧ a + (S [c]).length ≤ hi) ∧ subAt (S t) (S [c]) a = true) →
        (occBody (S t) (S [c]) hi limit a st) = pure (ForInStep.yield st) := fun z => by
      unfold occBody
      rw [if_neg z]
    by_cases ha : a < hi
    · have hat : a < t.length := by omega
      have hd : t.drop a = t[a] :: t.drop (a + 1) := List.drop_eq_getElem_cons hat
      have hs : hi - a = (hi - (a + 1)) + 1 := by omega
      have hsub : subAt (S t) (S [c]) a = (t[a] == c) := by
        rw [sub_S, hd]
        show (t[a] :: (t.drop (a + 1)).take 0 == [c]) = _
        rw [List.take_zero]
        by_cases h : t[a] = c <;> simp [h]
      have hcnt : ((t.drop a).take (hi - a)).count c = ((t.drop (a + 1)).take (hi - (a + 1))).count c + if t[a] == c then 1 else 0 := by
        rw [hd, hs, List.take_succ_cons, List.count_cons]
      rw [hcnt]
      by_cases hc : t[a] = c
      · have e : occBody (S t) (S [c]) hi limit a st = pure (ForInStep.yield (st.1.push a, a + (S [c]).length)) := by
          unfold occBody
          rw [if_pos ⟨⟨⟨by omega, h1⟩, by omega⟩, by rw [hsub]; simp [hc]⟩]
        rw [e, hl]
        have ih := occ_count t c hi limit n (a + 1) (st.1.push a, a + 1) (Nat.le_refl _) (by rw [Array.size_push]; omega) h3 (by omega)
        have e1 : (if t[a] == c then 1 else 0) = 1 := by rw [hc]; simp
        rw [e1]
        refine Eq.trans ih ?_
        rw [Array.size_push]
        omega
      · rw [stay (fun z => by have := z.2; rw [hsub] at this; simp at this; exact hc this)]
        have ih := occ_count t c hi limit n (a + 1) st (by omega) (by omega) h3 (by omega)
        have e1 : (if t[a] == c then 1 else 0) = 0 := by simp [hc]
        rw [e1]
        exact ih
    · rw [stay (fun z => by have := z.1.2; omega)]
      have ih := occ_count t c hi limit n (a + 1) st (by omega) (by omega) h3 (by omega)
      have e0 : hi - a = 0 := by omega
      have e1 : hi - (a + 1) = 0 := by omega
      rw [e1] at ih
      rw [e0]
      refine Eq.trans ih ?_
      simp
theorem count_S (t : List Nat) (c p e : Nat) (he : e ≤ t.length) (hp : p ≤ e) : Txt.countIn (S t) (S [c]) (p : Int) (e : Int) = (((t.drop p).take (e - p)).count c : Nat) := by
  unfold Txt.countIn
  rw [from_nat, to_nat, S_len, Nat.min_eq_right he, occ_eq]
  have h := occ_count t c e (t.length + 1) (e + 1 - p) p (#[], p) (Nat.le_refl _) (by simp; omega) he (by omega)
  rw [Array.length_toList]
  congr 1
  rw [h]
  simp
/-- blank: nothing but such signs -/
theorem tw_all {g : Nat → Bool} : ∀ {t : List Nat}, t.all g = true → t.takeWhile g = t
  | [], _ => rfl
  | a :: r, h => by
    have h2 := Bool.and_eq_true_iff.mp (show (g a && r.all g) = true from h)
    rw [List.takeWhile_cons, if_pos h2.1, tw_all h2.2]
theorem tw_not {g : Nat → Bool} : ∀ {t : List Nat}, t.all g = false → ∃ c r, t.drop (t.takeWhile g).length = c :: r ∧ g c = false
  | [], h => by cases h
  | a :: r, h => by
    rw [List.takeWhile_cons]
    cases hg : g a with
    | false => exact ⟨a, r, by simp, hg⟩
    | true =>
      have h2 : r.all g = false := by
        have : (g a && r.all g) = false := h
        rw [hg] at this
        simpa using this
      obtain ⟨c, r', h3, h4⟩ := tw_not h2
      exact ⟨c, r', by simpa using h3, h4⟩
theorem strip_nil (t w : List Nat) : ((Txt.stripChars (S t) (S w)).cps.toList = []) ↔ t.all (fun c => w.contains c) = true := by
  have hg : (S w).cps.contains = fun c => w.contains c := by
    funext c
    simp [S]
  unfold Txt.stripChars Txt.stripBy stripSame stripped stripLo stripHi
  rw [hg]
  simp only [if_true]
  rw [S_tl, S_len]
  cases h : t.all (fun c => w.contains c) with
  | true =>
    have e := tw_all h
    rw [e, List.drop_length]
    simp only [List.reverse_nil, List.takeWhile_nil, List.length_nil, Nat.sub_zero]
    have key : (if (t.length == 0 && t.length == t.length) = true then S t else strSub (S t) t.length t.length).cps.toList = [] := by
      by_cases h0 : (t.length == 0 && t.length == t.length) = true
      · rw [if_pos h0, S_tl]
        have h1 : t.length = 0 := by simpa using h0
        exact List.length_eq_zero_iff.mp h1
      · rw [if_neg h0, strSub_toList, Nat.sub_self, List.take_zero]
    exact ⟨fun _ => trivial, fun _ => key⟩
  | false =>
    constructor
    · intro h0
      exfalso
      obtain ⟨c, r, h1, h2⟩ := tw_not h
      have hlen : (t.takeWhile (fun c => w.contains c)).length < t.length := by
        have := congrArg List.length h1
        rw [List.length_drop, List.length_cons] at this
        omega
      split at h0
      · rw [S_tl] at h0
        rw [h0] at hlen
        simp at hlen
      · rw [strSub_toList, S_tl, h1] at h0
        have hr : ((c :: r).reverse.takeWhile (fun c => w.contains c)).length ≤ r.length := by
          rw [List.reverse_cons]
          by_cases hall : r.reverse.all (fun c => w.contains c) = true
          · rw [List.takeWhile_append_of_pos (by simpa using hall), List.takeWhile_cons, if_neg (by rw [h2]; exact Bool.false_ne_true)]
            simp
          · obtain ⟨x, y, h5, h6⟩ := tw_not (eq_false_of_ne_true hall)
            have h7 : (r.reverse.takeWhile (fun c => w.contains c)).length < r.reverse.length := by
              have := congrArg List.length h5
              rw [List.length_drop] at this
              simp at this
              simp
              omega
            have h8 : (r.reverse ++ [c]).takeWhile (fun c => w.contains c) = r.reverse.takeWhile (fun c => w.contains c) := by
              have e := List.takeWhile_append (p := fun c => w.contains c) (xs := r.reverse) (ys := [c])
              rw [e, if_neg (by omega)]
            rw [h8]
            have := List.length_reverse (as := r)
            omega
        have h9 : (c :: r).length = t.length - (t.takeWhile (fun c => w.contains c)).length := by
          rw [← h1, List.length_drop]
        have h10 := congrArg List.length h0
        rw [List.length_take] at h10
        simp only [List.length_cons, List.length_nil] at h10 h9
        omega
    · intro h1
      cases h1
theorem strip_blank (t w : List Nat) : decide (V.str (Txt.stripChars (S t) (S w)) = V.str (S [])) = t.all (fun c => w.contains c) := by
  rw [S_of (Txt.stripChars (S t) (S w)), S_dec]
  cases h : t.all (fun c => w.contains c) with
  | true => exact decide_eq_true ((strip_nil t w).mpr h)
  | false => exact decide_eq_false fun z => by rw [(strip_nil t w).mp z] at h; cases h
/-- small letters, great letters -/
theorem lower_S (t : List Nat) (h : ∀ c ∈ t, c < 128) : Txt.lower (S t) = S (t.map lo1) := by
  rw [lower_ascii (by rw [S_tl]; exact h)]
  show (⟨t.toArray.map lo1⟩ : Str) = ⟨(t.map lo1).toArray⟩
  simp
theorem upper_S (t : List Nat) (h : ∀ c ∈ t, c < 128) : Txt.upper (S t) = S (t.map up1) := by
  rw [upper_ascii (by rw [S_tl]; exact h)]
  show (⟨t.toArray.map up1⟩ : Str) = ⟨(t.map up1).toArray⟩
  simp
end My

/-! ### a written dict of numbers, each with an object -/
namespace My
open PySem PySem.Spec PyProof.Rows L2
def EntI : List DictEntry → List (Int × Addr) → Prop
  | [], [] => True
  | e :: es, p :: ps => e.hash = hashInt p.1 ∧ (∃ t, e.key = .int p.1 t) ∧ e.val = .ref p.2 ∧ EntI es ps
  | _, _ => False
structure KDictI (K : PySem.W.Frag) (d : Addr) (ps : List (Int × Addr)) : Prop where
  here : ∃ es n, K.lookup d = some ⟨.type "dict", none, .dict es n, #[]⟩ ∧ EntI es.toList ps
  low : (d == sysModules) = false
theorem entI_keys {prog : Program} {w : World} : ∀ {es : List DictEntry} {ps : List (Int × Addr)}, EntI es ps → ∀ e ∈ es, ∃ k, (intKind prog w).is k e.key = true ∧ e.hash = (intKind prog w).hash k
  | [], _, _, _, h => by cases h
  | e :: es, [], h, _, _ => h.elim
  | e :: es, p :: ps, ⟨h1, ⟨t, h2⟩, _, r⟩, x, hx => by
    rcases List.mem_cons.mp hx with rfl | hx
    · exact ⟨p.1, by rw [h2]; exact intKind_is prog w p.1 t, h1⟩
    · exact entI_keys r x hx
theorem entI_find {prog : Program} {w : World} (k : Int) : ∀ {es : List DictEntry} {ps : List (Int × Addr)}, EntI es ps → (es.find? fun e => (intKind prog w).is k e.key).map (·.val) = (ps.lookup k).map Value.ref
  | [], [], _ => rfl
  | [], _ :: _, h => h.elim
  | _ :: _, [], h => h.elim
  | e :: es, p :: ps, ⟨_, ⟨t, h2⟩, h3, r⟩ => by
    have ih := entI_find (prog := prog) (w := w) k r
    rw [List.find?_cons, List.lookup_cons]
    by_cases h : k = p.1
    · subst h
      rw [h2, intKind_is, beq_self_eq_true]
      show some e.val = some (Value.ref p.2)
      rw [h3]
    · have h4 : (intKind prog w).is k e.key = false := by
        rw [h2]
        cases hk : (intKind prog w).is k (.int p.1 t) with
        | false => rfl
        | true => exact absurd ((intKind prog w).inj _ _ _ hk (intKind_is prog w p.1 t)) h
      rw [h4, beq_eq_false_iff_ne.mpr h]
      exact ih
section
variable {X : Cx} {d : Addr} {ps : List (Int × Addr)}
theorem kdi_map {prog : Program} {w : World} {h : Heap} {K : PySem.W.Frag} (D : KDictI K d ps) (I : K.In h) : h.MapOf (intKind prog w) d (fun k => (ps.lookup k).map Value.ref) := by
  obtain ⟨es, n, hl, he⟩ := D.here
  refine ⟨_, es, n, I _ _ hl, ⟨rfl, rfl, rfl⟩, rfl, fun e hm => entI_keys he e (Array.mem_toList_iff.mpr hm), fun k => ?_⟩
  show findBy (intKind prog w).is es k = (ps.lookup k).map Value.ref
  rw [← entI_find (prog := prog) (w := w) k he]
  obtain ⟨l⟩ := es
  simp only [findBy, List.find?_toArray]
theorem op_in_ki (D : KDictI X.K d ps) : OpR X (compareOp .In) (fun x y H Q => ∃ k : Int, x = .int k ∧ y = .ref d ∧ Q (.bl (ps.lookup k).isSome) H) := by
  intro pins s σ H x y v u Q I rx ry h
  obtain ⟨k, rfl, rfl, q⟩ := h
  obtain ⟨t, rfl⟩ := rx
  cases ry
  refine wpAny_in_of (PySem.intKind_is X.prog X.w k t) D.low (kdi_map (prog := X.prog) D I.kIn) ?_
  exact ⟨.bl (ps.lookup k).isSome, H, I.tok _, by show Value.bool _ = Value.bool _; rw [Option.isSome_map], q⟩
theorem ix_ki (D : KDictI X.K d ps) : IxR X (fun x y H Q => ∃ (k : Int) (a : Addr), x = .ref d ∧ y = .int k ∧ ps.lookup k = some a ∧ Q (.ref a) H) := by
  intro value slice pins s σ H x y v u Q I rx ry h hs
  obtain ⟨k, a, rfl, rfl, e, q⟩ := h
  obtain rfl : v = Value.ref d := rx
  obtain ⟨t, rfl⟩ := ry
  have hm := kdi_map (prog := X.prog) (w := X.w) D I.kIn
  exact tail_any hm.typeIs slot_dict_getitem.lookup (wpAny_getItem_of (intKind_is X.prog X.w k t) hm (by rw [e]; rfl) ⟨.ref a, H, I.tok _, rfl, q⟩) hs
end
end My

namespace TM
open My
open PyProof.Rows (lo1 up1)
/-! ### tags, by what is left of a text -/
def LettersL : List Nat := [97, 98, 99, 100, 101, 102, 103, 104, 105, 106, 107, 108, 109, 110, 111, 112, 113, 114, 115, 116, 117, 118, 119, 120, 121, 122, 65, 66, 67, 68, 69, 70, 71, 72, 73, 74, 75, 76, 77, 78, 79, 80, 81, 82, 83, 84, 85, 86, 87, 88, 89, 90]
def FiguresL : List Nat := [48, 49, 50, 51, 52, 53, 54, 55, 56, 57]
def NameL : List Nat := LettersL ++ FiguresL ++ [45]
def KeyL : List Nat := LettersL ++ FiguresL ++ [95, 46, 58, 45]
def GapL : List Nat := [32, 9, 10]
def BareL : List Nat := [32, 9, 10, 34, 39, 61, 60, 62, 96]
def isG (c : Nat) : Bool := GapL.contains c
def pos (t r : List Nat) : Nat := t.length - r.length
theorem pos_le (t r : List Nat) : pos t r ≤ t.length := Nat.sub_le _ _
theorem pos_drop {t r : List Nat} (h : r <:+ t) : t.drop (pos t r) = r := (List.suffix_iff_eq_drop.mp h).symm
theorem drop_pos {t : List Nat} {p : Nat} (h : p ≤ t.length) : pos t (t.drop p) = p := by
  unfold pos
  rw [List.length_drop]
  omega
theorem suf_drop (t : List Nat) (p : Nat) : t.drop p <:+ t := List.drop_suffix p t
theorem suf_dw (g : Nat → Bool) (r : List Nat) : r.dropWhile g <:+ r := List.dropWhile_suffix g
def ov (t : List Nat) : Option (List Nat) → L2.V
  | none => .non
  | some r => .int (pos t r : Nat)
def ba (ws r : List Nat) : List Nat := r.dropWhile fun c => ws.contains c
def gapR (r : List Nat) : List Nat := if (r.takeWhile isG).count 10 > 1 then r else r.dropWhile isG
theorem suf_gap (r : List Nat) : gapR r <:+ r := by
  unfold gapR
  split
  · exact List.suffix_refl _
  · exact suf_dw _ _
def letterR : List Nat → Bool
  | c :: _ => LettersL.contains c
  | [] => false
def nameR (r : List Nat) : Option (List Nat) := if letterR r = true then some (ba NameL r) else none
def signR (c : Nat) (r : List Nat) : Option (List Nat) := if ([c] : List Nat).isPrefixOf r = true then some (r.drop 1) else none
def firstR (w r : List Nat) : Option (List Nat) := (findL w r).map fun k => r.drop (k + w.length)
def bareR (r : List Nat) : List Nat := r.dropWhile fun c => !BareL.contains c
def valueR (r : List Nat) : Option (List Nat) :=
  if ([39] : List Nat).isPrefixOf r = true then firstR [39] (r.drop 1)
  else if ([34] : List Nat).isPrefixOf r = true then firstR [34] (r.drop 1)
  else if (bareR r).length = r.length then none else some (bareR r)
def attrR (r : List Nat) : Option (List Nat) :=
  if (gapR r).length = r.length then none
  else if letterR (gapR r) = false ∧ (gapR r).take 1 ≠ [95] ∧ (gapR r).take 1 ≠ [58] then none
  else if ([61] : List Nat).isPrefixOf (gapR (ba KeyL (gapR r))) = false then some (ba KeyL (gapR r))
  else valueR (gapR ((gapR (ba KeyL (gapR r))).drop 1))
def attrsR : Nat → List Nat → List Nat
  | 0, r => r
  | n + 1, r => match attrR r with
    | none => r
    | some r' => attrsR n r'
def endR (r : List Nat) : Option (List Nat) := signR 62 (if ([47] : List Nat).isPrefixOf (gapR r) = true then (gapR r).drop 1 else gapR r)
def openR (r : List Nat) : Option (List Nat) := match nameR (r.drop 1) with
  | none => none
  | some e => endR (attrsR e.length e)
def closeR (r : List Nat) : Option (List Nat) := match nameR (r.drop 2) with
  | none => none
  | some e => signR 62 (gapR e)
def tagR (r : List Nat) : Option (List Nat) :=
  if ([60, 33, 45, 45] : List Nat).isPrefixOf r = true then firstR [45, 45, 62] (r.drop 2)
  else if ([60, 63] : List Nat).isPrefixOf r = true then firstR [63, 62] (r.drop 2)
  else if ([60, 33, 91, 67, 68, 65, 84, 65, 91] : List Nat).isPrefixOf r = true then firstR [93, 93, 62] (r.drop 9)
  else if ([60, 33] : List Nat).isPrefixOf r = true ∧ letterR (r.drop 2) = true then firstR [62] (r.drop 3)
  else if ([60, 47] : List Nat).isPrefixOf r = true then closeR r
  else if ([60] : List Nat).isPrefixOf r = true then openR r
  else none
theorem suf_first {w r r' : List Nat} (h : firstR w r = some r') : r' <:+ r := by
  unfold firstR at h
  cases hf : findL w r with
  | none => rw [hf] at h; cases h
  | some k =>
    rw [hf] at h
    have e : r.drop (k + w.length) = r' := Option.some.inj h
    rw [← e]
    exact List.drop_suffix _ _
theorem suf_value {r r' : List Nat} (h : valueR r = some r') : r' <:+ r := by
  unfold valueR at h
  split at h
  · exact (suf_first h).trans (List.drop_suffix _ _)
  · split at h
    · exact (suf_first h).trans (List.drop_suffix _ _)
    · split at h
      · cases h
      · have e := Option.some.inj h
        rw [← e]
        exact suf_dw _ _
theorem suf_attr {r r' : List Nat} (h : attrR r = some r') : r' <:+ r := by
  unfold attrR at h
  split at h
  · cases h
  · split at h
    · cases h
    · have h1 : ba KeyL (gapR r) <:+ r := (suf_dw _ _).trans (suf_gap r)
      split at h
      · have e := Option.some.inj h
        rw [← e]
        exact h1
      · exact (suf_value h).trans ((suf_gap _).trans ((List.drop_suffix _ _).trans ((suf_gap _).trans h1)))
theorem dw_len (g : Nat → Bool) (r : List Nat) : (r.dropWhile g).length ≤ r.length := (suf_dw g r).length_le
/-- an attribute takes something -/
theorem attr_lt {r r' : List Nat} (h : attrR r = some r') : r'.length < r.length := by
  unfold attrR at h
  split at h
  · cases h
  · rename_i h0
    have hg : (gapR r).length < r.length := by
      have := (suf_gap r).length_le
      omega
    split at h
    · cases h
    · have h1 : (ba KeyL (gapR r)).length ≤ (gapR r).length := dw_len _ _
      split at h
      · have e := Option.some.inj h
        rw [← e]
        omega
      · have h2 := (suf_value h).length_le
        have h3 := (suf_gap ((gapR (ba KeyL (gapR r))).drop 1)).length_le
        have h4 := (List.drop_suffix 1 (gapR (ba KeyL (gapR r)))).length_le
        have h5 := (suf_gap (ba KeyL (gapR r))).length_le
        omega
theorem suf_attrs : ∀ (n : Nat) (r : List Nat), attrsR n r <:+ r
  | 0, r => List.suffix_refl _
  | n + 1, r => by
    unfold attrsR
    split
    · exact List.suffix_refl _
    · rename_i r' h
      exact (suf_attrs n r').trans (suf_attr h)
theorem attrs_more : ∀ (n m : Nat) (r : List Nat), r.length ≤ n → r.length ≤ m → attrsR n r = attrsR m r
  | 0, m, r, h1, h2 => by
    have hr : r = [] := List.length_eq_zero_iff.mp (by omega)
    subst hr
    cases m with
    | zero => rfl
    | succ m => rfl
  | n + 1, 0, r, h1, h2 => by
    have hr : r = [] := List.length_eq_zero_iff.mp (by omega)
    subst hr
    rfl
  | n + 1, m + 1, r, h1, h2 => by
    unfold attrsR
    cases ha : attrR r with
    | none => rfl
    | some r' =>
      have := attr_lt ha
      exact attrs_more n m r' (by omega) (by omega)
theorem attrs_step {r r' : List Nat} (h : attrR r = some r') : attrsR r.length r = attrsR r'.length r' := by
  have hl := attr_lt h
  have e : attrsR r.length r = attrsR (r.length - 1 + 1) r := attrs_more _ _ _ (Nat.le_refl _) (by omega)
  rw [e]
  conv => lhs; unfold attrsR
  rw [h]
  exact attrs_more _ _ _ (by omega) (Nat.le_refl _)
theorem attrs_stop {r : List Nat} (h : attrR r = none) : attrsR r.length r = r := by
  have e : attrsR r.length r = attrsR (r.length + 1) r := attrs_more _ _ _ (Nat.le_refl _) (by omega)
  rw [e]
  unfold attrsR
  rw [h]

/-! ### what is put together, and what is read -/
def NH (g : Nat → Bool) (r : List Nat) : Prop := ∀ c s, r = c :: s → g c = false
theorem nh_nil (g : Nat → Bool) : NH g [] := fun c s h => by cases h
theorem nh_cons {g : Nat → Bool} {c : Nat} (s : List Nat) (h : g c = false) : NH g (c :: s) := fun d u e => by
  injection e with e1 _
  rw [← e1]
  exact h
theorem dw_nh {g : Nat → Bool} {r : List Nat} (h : NH g r) : r.dropWhile g = r := by
  cases r with
  | nil => rfl
  | cons c s => rw [List.dropWhile_cons, if_neg (by rw [h c s rfl]; exact Bool.false_ne_true)]
theorem tw_nh {g : Nat → Bool} {r : List Nat} (h : NH g r) : r.takeWhile g = [] := by
  cases r with
  | nil => rfl
  | cons c s => rw [List.takeWhile_cons, if_neg (by rw [h c s rfl]; exact Bool.false_ne_true)]
theorem dw_app {g : Nat → Bool} : ∀ {a r : List Nat}, (∀ c ∈ a, g c = true) → (a ++ r).dropWhile g = r.dropWhile g
  | [], r, _ => rfl
  | c :: a, r, h => by
    rw [List.cons_append, List.dropWhile_cons, if_pos (h c (List.mem_cons_self ..))]
    exact dw_app fun d hd => h d (List.mem_cons_of_mem _ hd)
theorem tw_app {g : Nat → Bool} : ∀ {a r : List Nat}, (∀ c ∈ a, g c = true) → (a ++ r).takeWhile g = a ++ r.takeWhile g
  | [], r, _ => rfl
  | c :: a, r, h => by
    rw [List.cons_append, List.takeWhile_cons, if_pos (h c (List.mem_cons_self ..)), tw_app fun d hd => h d (List.mem_cons_of_mem _ hd)]
    rfl
/-- a gap -/
def GapOk (g : List Nat) : Prop := (∀ c ∈ g, isG c = true) ∧ g.count 10 ≤ 1
theorem gap_app {g r : List Nat} (hg : GapOk g) (hr : NH isG r) : gapR (g ++ r) = r := by
  unfold gapR
  rw [tw_app hg.1, tw_nh hr, List.append_nil, if_neg (by have := hg.2; omega), dw_app hg.1, dw_nh hr]
theorem gap_nh {r : List Nat} (hr : NH isG r) : gapR r = r := gap_app (g := []) ⟨by simp, by simp⟩ hr
def NN : List Nat := [10, 10]
theorem gap_bad (r : List Nat) : gapR (NN ++ r) = NN ++ r := by
  unfold gapR
  rw [tw_app (a := NN) (by decide)]
  have h1 : (NN ++ List.takeWhile isG r).count 10 > 1 := by
    rw [List.count_append]
    have : NN.count 10 = 2 := by decide
    omega
  rw [if_pos h1]
/-- the rest of an open tag -/
def tailR (r : List Nat) : Option (List Nat) := endR (attrsR r.length r)
theorem tail_step {r r' : List Nat} (h : attrR r = some r') : tailR r = tailR r' := by
  unfold tailR
  rw [attrs_step h]
theorem tail_stop {r : List Nat} (h : attrR r = none) : tailR r = endR r := by
  unfold tailR
  rw [attrs_stop h]
theorem pre_one (c : Nat) (r : List Nat) : ([c] : List Nat).isPrefixOf r = (r.head? == some c) := by
  cases r with
  | nil => rfl
  | cons d s =>
    show (c == d && true) = (some d == some c)
    rw [Bool.and_true]
    have e : (some d == some c) = (d == c) := rfl
    rw [e]
    by_cases h : c = d
    · rw [h]
    · rw [beq_eq_false_iff_ne.mpr h, beq_eq_false_iff_ne.mpr fun e => h e.symm]
/-- no ">" is left -/
theorem sign_sub {c : Nat} {r s : List Nat} (h : signR c r = some s) : c ∈ r := by
  unfold signR at h
  split at h
  · rename_i h1
    rw [pre_one] at h1
    cases r with
    | nil => simp at h1
    | cons d u =>
      have : d = c := by simpa using h1
      rw [this]
      exact List.mem_cons_self ..
  · cases h
theorem dead {r R : List Nat} (hs : r <:+ R) (h : 62 ∉ R) : tailR r = none := by
  cases ht : tailR r with
  | none => rfl
  | some s =>
    exfalso
    unfold tailR endR at ht
    have h1 := sign_sub ht
    have h2 : (gapR (attrsR r.length r)) <:+ R := (suf_gap _).trans ((suf_attrs _ _).trans hs)
    split at h1
    · exact h (((List.drop_suffix 1 _).trans h2).subset h1)
    · exact h (h2.subset h1)
theorem end_none {r : List Nat} (h : NH (fun c => isG c || c == 47 || c == 62) r) : endR r = none := by
  have h1 : NH isG r := fun c s e => by
    have := h c s e
    simp at this
    simp [this]
  unfold endR
  rw [gap_nh h1]
  cases r with
  | nil => rfl
  | cons c s =>
    have h2 := h c s rfl
    simp at h2
    rw [if_neg (by rw [pre_one]; simp; exact h2.1.2)]
    unfold signR
    rw [if_neg (by rw [pre_one]; simp; exact h2.2)]
/-- no attribute without white -/
theorem attr_nogap {r : List Nat} (h : NH isG r) : attrR r = none := by
  unfold attrR
  rw [gap_nh h, if_pos rfl]
theorem stuck {r : List Nat} (h : NH (fun c => isG c || c == 47 || c == 62) r) : tailR r = none := by
  have h1 : NH isG r := fun c s e => by
    have := h c s e
    simp at this
    simp [this]
  rw [tail_stop (attr_nogap h1)]
  exact end_none h
/-- a gap with two line feeds -/
theorem stuck_gap (r : List Nat) : tailR (NN ++ r) = none := by
  have h : attrR (NN ++ r) = none := by
    unfold attrR
    rw [gap_bad, if_pos rfl]
  rw [tail_stop h]
  unfold endR
  rw [gap_bad]
  rfl
def nameHead (c : Nat) : Bool := LettersL.contains c || c == 95 || c == 58
def GoodKey (n : List Nat) : Prop := ∃ c r, n = c :: r ∧ nameHead c = true ∧ ∀ x ∈ n, KeyL.contains x = true
theorem head_facts : ∀ c, nameHead c = true → isG c = false ∧ c ≠ 47 ∧ c ≠ 62 ∧ c ≠ 61 := by
  intro c h
  unfold nameHead LettersL at h
  simp at h
  unfold isG GapL
  refine ⟨?_, ?_, ?_, ?_⟩
  · simp
    omega
  all_goals omega
/-- a gap and what begins no attribute -/
theorem attr_nohead {g r : List Nat} (hg : GapOk g) (hr : NH isG r) (hn : NH nameHead r) : attrR (g ++ r) = none := by
  unfold attrR
  rw [gap_app hg hr]
  split
  · rfl
  · rw [if_pos]
    cases r with
    | nil => exact ⟨rfl, by simp, by simp⟩
    | cons c s =>
      have := hn c s rfl
      unfold nameHead at this
      simp only [Bool.or_eq_false_iff] at this
      refine ⟨this.1.1, ?_, ?_⟩
      · have h2 := this.1.2
        simp at h2
        simp [h2]
      · have h2 := this.2
        simp at h2
        simp [h2]
theorem end_app {g r : List Nat} (hg : GapOk g) (hr : NH isG r) : endR (g ++ r) = signR 62 (if ([47] : List Nat).isPrefixOf r = true then r.drop 1 else r) := by
  unfold endR
  rw [gap_app hg hr]
theorem stuck2 {g r : List Nat} (hg : GapOk g) (hr : NH (fun c => isG c || c == 47 || c == 62) r) (hn : NH nameHead r) : tailR (g ++ r) = none := by
  have h1 : NH isG r := fun c s e => by
    have := hr c s e
    simp at this
    simp [this]
  rw [tail_stop (attr_nohead hg h1 hn), end_app hg h1]
  have := end_none hr
  unfold endR at this
  rw [gap_nh h1] at this
  exact this
theorem nil_ok : GapOk [] := ⟨by simp, by simp⟩
/-- a gap ahead of an attribute -/
theorem attr_key {g n r : List Nat} (hg : GapOk g) (h0 : g ≠ []) (hn : GoodKey n) :
    attrR (g ++ (n ++ r)) = if ([61] : List Nat).isPrefixOf (gapR (ba KeyL r)) = false then some (ba KeyL r) else valueR (gapR ((gapR (ba KeyL r)).drop 1)) := by
  obtain ⟨c, u, rfl, hc, hk⟩ := hn
  have hf := head_facts c hc
  have e1 : gapR (g ++ (c :: u ++ r)) = c :: u ++ r := gap_app hg (nh_cons _ hf.1)
  have e2 : ba KeyL (c :: u ++ r) = ba KeyL r := dw_app hk
  unfold attrR
  rw [e1, e2]
  have hl : ¬ (c :: u ++ r).length = (g ++ (c :: u ++ r)).length := by
    rw [List.length_append (as := g)]
    have : 0 < g.length := List.length_pos_iff.mpr h0
    omega
  rw [if_neg hl, if_neg]
  intro z
  have h1 : LettersL.contains c = false := z.1
  have h2 : c ≠ 95 := fun e => z.2.1 (by rw [e]; rfl)
  have h3 : c ≠ 58 := fun e => z.2.2 (by rw [e]; rfl)
  unfold nameHead at hc
  rw [h1] at hc
  simp at hc
  omega
def noEq (r : List Nat) : Prop := ([61] : List Nat).isPrefixOf (gapR (ba KeyL r)) = false
/-- an attribute without a value -/
theorem attr_bare {g n r : List Nat} (hg : GapOk g) (h0 : g ≠ []) (hn : GoodKey n) (hr : noEq r) : attrR (g ++ (n ++ r)) = some (ba KeyL r) := by
  rw [attr_key hg h0 hn, if_pos (show ([61] : List Nat).isPrefixOf (gapR (ba KeyL r)) = false from hr)]
/-- .. with one -/
theorem attr_val {g n o q v : List Nat} (hg : GapOk g) (h0 : g ≠ []) (hn : GoodKey n) (ho : GapOk o) (hq : GapOk q) (hv : NH isG v) : attrR (g ++ (n ++ (o ++ (61 :: (q ++ v))))) = valueR v := by
  rw [attr_key hg h0 hn]
  have e1 : ba KeyL (o ++ (61 :: (q ++ v))) = o ++ (61 :: (q ++ v)) := by
    refine dw_nh ?_
    cases o with
    | nil => exact nh_cons _ (by decide)
    | cons c s =>
      refine nh_cons _ ?_
      have := ho.1 c (List.mem_cons_self ..)
      unfold isG GapL at this
      simp at this
      rcases this with h | h | h <;> (subst h; decide)
  have e2 : gapR (o ++ (61 :: (q ++ v))) = 61 :: (q ++ v) := gap_app ho (nh_cons _ (by decide))
  rw [e1, e2, if_neg (by simp [List.isPrefixOf])]
  show valueR (gapR (q ++ v)) = valueR v
  rw [gap_app hq hv]
theorem attr_val_bad1 {g n r : List Nat} (hg : GapOk g) (h0 : g ≠ []) (hn : GoodKey n) : attrR (g ++ (n ++ (NN ++ r))) = some (NN ++ r) := by
  have e1 : ba KeyL (NN ++ r) = NN ++ r := dw_nh (nh_cons _ (by decide))
  rw [attr_key hg h0 hn, e1, gap_bad, if_pos (show ([61] : List Nat).isPrefixOf (NN ++ r) = false from rfl)]
theorem attr_val_bad2 {g n o r : List Nat} (hg : GapOk g) (h0 : g ≠ []) (hn : GoodKey n) (ho : GapOk o) : attrR (g ++ (n ++ (o ++ (61 :: (NN ++ r))))) = none := by
  rw [attr_key hg h0 hn]
  have e1 : ba KeyL (o ++ (61 :: (NN ++ r))) = o ++ (61 :: (NN ++ r)) := by
    refine dw_nh ?_
    cases o with
    | nil => exact nh_cons _ (by decide)
    | cons c s =>
      refine nh_cons _ ?_
      have := ho.1 c (List.mem_cons_self ..)
      unfold isG GapL at this
      simp at this
      rcases this with h | h | h <;> (subst h; decide)
  have e2 : gapR (o ++ (61 :: (NN ++ r))) = 61 :: (NN ++ r) := gap_app ho (nh_cons _ (by decide))
  rw [e1, e2, if_neg (by simp [List.isPrefixOf])]
  show valueR (gapR (NN ++ r)) = none
  rw [gap_bad]
  unfold valueR
  rw [if_neg (by simp [NN, List.isPrefixOf]), if_neg (by simp [NN, List.isPrefixOf]), if_pos]
  have : bareR (NN ++ r) = NN ++ r := dw_nh (nh_cons _ (by decide))
  rw [this]
/-- values -/
theorem find_in {c : Nat} : ∀ {w r : List Nat}, c ∉ w → findL [c] (w ++ c :: r) = some w.length
  | [], r, _ => by simp [findL, List.isPrefixOf]
  | d :: w, r, h => by
    have h1 : ¬ c = d := fun e => h (by rw [e]; exact List.mem_cons_self ..)
    show (if ([c] : List Nat).isPrefixOf (d :: (w ++ c :: r)) = true then some 0 else (findL [c] (w ++ c :: r)).map (· + 1)) = _
    rw [if_neg (by rw [pre_one]; simp; exact fun e => h1 e.symm), find_in fun z => h (List.mem_cons_of_mem _ z)]
    rfl
theorem first_in {c : Nat} {w r : List Nat} (h : c ∉ w) : firstR [c] (w ++ c :: r) = some r := by
  unfold firstR
  rw [find_in h]
  show some ((w ++ c :: r).drop (w.length + 1)) = some r
  rw [show w ++ c :: r = (w ++ [c]) ++ r by simp, List.drop_left' (by simp)]
theorem value_q1 {w r : List Nat} (h : 39 ∉ w) : valueR (39 :: (w ++ 39 :: r)) = some r := by
  unfold valueR
  rw [if_pos (by simp [List.isPrefixOf])]
  exact first_in h
theorem value_q2 {w r : List Nat} (h : 34 ∉ w) : valueR (34 :: (w ++ 34 :: r)) = some r := by
  unfold valueR
  rw [if_neg (by simp [List.isPrefixOf]), if_pos (by simp [List.isPrefixOf])]
  exact first_in h
theorem value_bare {v r : List Nat} (h0 : v ≠ []) (h : ∀ c ∈ v, BareL.contains c = false) (hr : NH (fun c => !BareL.contains c) r) : valueR (v ++ r) = some r := by
  have e : bareR (v ++ r) = r := by
    unfold bareR
    rw [dw_app (fun c hc => by
      show (!BareL.contains c) = true
      rw [h c hc]
      rfl), dw_nh hr]
  unfold valueR
  rw [e]
  cases v with
  | nil => exact absurd rfl h0
  | cons c s =>
    have hc := h c (List.mem_cons_self ..)
    have h39 : c ≠ 39 := fun e => by rw [e] at hc; cases hc
    have h34 : c ≠ 34 := fun e => by rw [e] at hc; cases hc
    rw [if_neg (by rw [pre_one]; simpa using h39), if_neg (by rw [pre_one]; simpa using h34), if_neg (by simp; omega)]

def RawL : List (List Nat) := [[115, 99, 114, 105, 112, 116], [112, 114, 101], [115, 116, 121, 108, 101], [116, 101, 120, 116, 97, 114, 101, 97]]
def BlockL : List (List Nat) := [[97, 100, 100, 114, 101, 115, 115], [97, 114, 116, 105, 99, 108, 101], [97, 115, 105, 100, 101], [98, 97, 115, 101], [98, 97, 115, 101, 102, 111, 110, 116], [98, 108, 111, 99, 107, 113, 117, 111, 116, 101], [98, 111, 100, 121], [99, 97, 112, 116, 105, 111, 110], [99, 101, 110, 116, 101, 114], [99, 111, 108], [99, 111, 108, 103, 114, 111, 117, 112], [100, 100], [100, 101, 116, 97, 105, 108, 115], [100, 105, 97, 108, 111, 103], [100, 105, 114], [100, 105, 118], [100, 108], [100, 116], [102, 105, 101, 108, 100, 115, 101, 116], [102, 105, 103, 99, 97, 112, 116, 105, 111, 110], [102, 105, 103, 117, 114, 101], [102, 111, 111, 116, 101, 114], [102, 111, 114, 109], [102, 114, 97, 109, 101], [102, 114, 97, 109, 101, 115, 101, 116], [104, 49], [104, 50], [104, 51], [104, 52], [104, 53], [104, 54], [104, 101, 97, 100], [104, 101, 97, 100, 101, 114], [104, 114], [104, 116, 109, 108], [105, 102, 114, 97, 109, 101], [108, 101, 103, 101, 110, 100], [108, 105], [108, 105, 110, 107], [109, 97, 105, 110], [109, 101, 110, 117], [109, 101, 110, 117, 105, 116, 101, 109], [110, 97, 118], [110, 111, 102, 114, 97, 109, 101, 115], [111, 108], [111, 112, 116, 103, 114, 111, 117, 112], [111, 112, 116, 105, 111, 110], [112], [112, 97, 114, 97, 109], [115, 101, 97, 114, 99, 104], [115, 101, 99, 116, 105, 111, 110], [115, 117, 109, 109, 97, 114, 121], [116, 97, 98, 108, 101], [116, 98, 111, 100, 121], [116, 100], [116, 102, 111, 111, 116], [116, 104], [116, 104, 101, 97, 100], [116, 105, 116, 108, 101], [116, 114], [116, 114, 97, 99, 107], [117, 108]]
def EndsL : Nat → List (List Nat)
  | 1 => [[60, 47, 115, 99, 114, 105, 112, 116, 62], [60, 47, 112, 114, 101, 62], [60, 47, 115, 116, 121, 108, 101, 62], [60, 47, 116, 101, 120, 116, 97, 114, 101, 97, 62]]
  | 2 => [[45, 45, 62]]
  | 3 => [[63, 62]]
  | 4 => [[62]]
  | 5 => [[93, 93, 62]]
  | _ => []

/-! ### the kinds of html, by the signs -/
open PyProof.Rows (lo1 up1)
/-- the name, in small letters -/
def nmR (r : List Nat) : List Nat := (r.takeWhile fun c => NameL.contains c).map lo1
def blankL (r : List Nat) : Bool := r.all fun c => ([32, 9] : List Nat).contains c
def place (l : List Nat) : Nat := if ([60, 47] : List Nat).isPrefixOf l = true then 2 else 1
def begRaw (l : List Nat) : Bool := RawL.contains (nmR (l.drop 1)) && (blankL ((ba NameL (l.drop 1)).take 1) || ([62] : List Nat).isPrefixOf (ba NameL (l.drop 1)))
def begBlock (l : List Nat) : Bool := BlockL.contains (nmR (l.drop (place l))) && (blankL ((ba NameL (l.drop (place l))).take 1) || (([62] : List Nat).isPrefixOf (ba NameL (l.drop (place l))) || ([47, 62] : List Nat).isPrefixOf (ba NameL (l.drop (place l)))))
def lone (l : List Nat) : Bool := match tagR l with
  | none => false
  | some e => !RawL.contains (nmR (l.drop (place l))) && blankL e
def kindR (l : List Nat) : Nat :=
  if ([60] : List Nat).isPrefixOf l = true then
    if begRaw l = true then 1
    else if ([60, 33, 45, 45] : List Nat).isPrefixOf l = true then 2
    else if ([60, 63] : List Nat).isPrefixOf l = true then 3
    else if (([60, 33] : List Nat).isPrefixOf l = true ∧ letterR (l.drop 2) = true) then 4
    else if ([60, 33, 91, 67, 68, 65, 84, 65, 91] : List Nat).isPrefixOf l = true then 5
    else if begBlock l = true then 6
    else if lone l = true then 7
    else 0
  else 0
def endsR (k : Nat) (l : List Nat) : Bool := if 1 ≤ k ∧ k ≤ 5 then (EndsL k).any fun e => inL e (l.map lo1) else blankL l
theorem take_tw {g : Nat → Bool} : ∀ {r : List Nat}, r.take (r.length - (r.dropWhile g).length) = r.takeWhile g
  | [] => rfl
  | c :: r => by
    have ih := take_tw (g := g) (r := r)
    have hl : (r.dropWhile g).length ≤ r.length := (List.dropWhile_suffix g).length_le
    rw [List.dropWhile_cons, List.takeWhile_cons]
    cases h : g c with
    | true =>
      simp only [if_true]
      rw [List.length_cons, Nat.succ_sub hl, List.take_succ_cons, ih]
    | false =>
      simp
theorem name_ascii : ∀ {r : List Nat}, ∀ c ∈ r.takeWhile (fun c => NameL.contains c), c < 128 := by
  intro r c hc
  have h1 : NameL.contains c = true := by
    have : ∀ {r : List Nat}, ∀ c ∈ r.takeWhile (fun c => NameL.contains c), NameL.contains c = true := fun {r} => by
      induction r with
      | nil => exact fun c hc => by cases hc
      | cons d r ih =>
        intro c hc
        rw [List.takeWhile_cons] at hc
        cases hd : NameL.contains d with
        | true =>
          rw [hd] at hc
          rcases List.mem_cons.mp hc with rfl | hc
          · exact hd
          · exact ih c hc
        | false =>
          rw [hd] at hc
          cases hc
    exact this c hc
  have h2 : c ∈ NameL := by simpa using h1
  have : ∀ x ∈ NameL, x < 128 := by decide
  exact this c h2
theorem sign_suf {c : Nat} {r s : List Nat} (h : signR c r = some s) : s <:+ r := by
  unfold signR at h
  split at h
  · rw [← Option.some.inj h]
    exact List.drop_suffix _ _
  · cases h
theorem name_suf {r s : List Nat} (h : nameR r = some s) : s <:+ r := by
  unfold nameR at h
  split at h
  · rw [← Option.some.inj h]
    exact suf_dw _ _
  · cases h
theorem end_suf {r s : List Nat} (h : endR r = some s) : s <:+ r := by
  unfold endR at h
  refine (sign_suf h).trans ?_
  split
  · exact (List.drop_suffix _ _).trans (suf_gap r)
  · exact suf_gap r
theorem tag_suf {r s : List Nat} (h : tagR r = some s) : s <:+ r := by
  unfold tagR at h
  split at h
  · exact (suf_first h).trans (List.drop_suffix _ _)
  · split at h
    · exact (suf_first h).trans (List.drop_suffix _ _)
    · split at h
      · exact (suf_first h).trans (List.drop_suffix _ _)
      · split at h
        · exact (suf_first h).trans (List.drop_suffix _ _)
        · split at h
          · unfold closeR at h
            split at h
            · cases h
            · rename_i e he
              exact (sign_suf h).trans ((suf_gap e).trans ((name_suf he).trans (List.drop_suffix _ _)))
          · split at h
            · unfold openR at h
              split at h
              · cases h
              · rename_i e he
                exact (end_suf h).trans ((suf_attrs _ e).trans ((name_suf he).trans (List.drop_suffix _ _)))
            · cases h

/-! ### names in letters of either case -/
def Cased : List Nat → List Nat → Prop
  | [], [] => True
  | x :: c, y :: w => (x = y ∨ x = up1 y) ∧ Cased c w
  | _, _ => False
theorem cased_snoc {x y : Nat} (h : x = y ∨ x = up1 y) : ∀ {c w : List Nat}, Cased c w → Cased (c ++ [x]) (w ++ [y])
  | [], [], _ => ⟨h, trivial⟩
  | _ :: _, _ :: _, ⟨h1, h2⟩ => ⟨h1, cased_snoc h h2⟩
  | [], _ :: _, h => h.elim
  | _ :: _, [], h => h.elim
theorem cased_len : ∀ {c w : List Nat}, Cased c w → c.length = w.length
  | [], [], _ => rfl
  | _ :: _, _ :: _, ⟨_, h2⟩ => congrArg (· + 1) (cased_len h2)
  | [], _ :: _, h => h.elim
  | _ :: _, [], h => h.elim
def SmallL : List Nat := [97, 98, 99, 100, 101, 102, 103, 104, 105, 106, 107, 108, 109, 110, 111, 112, 113, 114, 115, 116, 117, 118, 119, 120, 121, 122, 49, 50, 51, 52, 53, 54]
theorem small_ok : ∀ y ∈ SmallL, NameL.contains y = true ∧ NameL.contains (up1 y) = true ∧ lo1 y = y ∧ lo1 (up1 y) = y ∧ (LettersL.contains y = true → LettersL.contains (up1 y) = true) := by decide
structure Name (c w : List Nat) : Prop where
  signs : ∀ x ∈ c, NameL.contains x = true
  first : letterR c = true
  low : c.map lo1 = w
theorem cased_signs : ∀ {c w : List Nat}, Cased c w → (∀ y ∈ w, y ∈ SmallL) → (∀ x ∈ c, NameL.contains x = true) ∧ c.map lo1 = w
  | [], [], _, _ => ⟨(fun _ h => by cases h), rfl⟩
  | x :: c, y :: w, ⟨h1, h2⟩, hs => by
    obtain ⟨i1, i2⟩ := cased_signs h2 fun y hy => hs y (List.mem_cons_of_mem _ hy)
    obtain ⟨k1, k2, k3, k4, _⟩ := small_ok y (hs y (List.mem_cons_self ..))
    have hx : NameL.contains x = true ∧ lo1 x = y := by
      rcases h1 with rfl | rfl
      · exact ⟨k1, k3⟩
      · exact ⟨k2, k4⟩
    refine ⟨fun z hz => ?_, by rw [List.map_cons, hx.2, i2]⟩
    rcases List.mem_cons.mp hz with rfl | hz
    · exact hx.1
    · exact i1 z hz
  | [], _ :: _, h, _ => h.elim
  | _ :: _, [], h, _ => h.elim
theorem cased_name {c w : List Nat} (h : Cased c w) (hs : ∀ y ∈ w, y ∈ SmallL) (hl : letterR w = true) : Name c w := by
  obtain ⟨h1, h2⟩ := cased_signs h hs
  refine ⟨h1, ?_, h2⟩
  cases w with
  | nil => cases hl
  | cons y w =>
    cases c with
    | nil => exact h.elim
    | cons x c =>
      obtain ⟨_, _, _, _, k5⟩ := small_ok y (hs y (List.mem_cons_self ..))
      rcases h.1 with e | e
      · subst e
        exact hl
      · subst e
        exact k5 hl
theorem nm_app {c w b : List Nat} (h : Name c w) : nmR (c ++ b) = w ++ nmR b := by
  unfold nmR
  rw [tw_app h.signs, List.map_append, h.low]
theorem ba_app {c w b : List Nat} (h : Name c w) : ba NameL (c ++ b) = ba NameL b := dw_app h.signs
def tail1 (w b : List Nat) : Bool := RawL.contains (w ++ nmR b) && (blankL ((ba NameL b).take 1) || ([62] : List Nat).isPrefixOf (ba NameL b))
def tail6 (w b : List Nat) : Bool := BlockL.contains (w ++ nmR b) && (blankL ((ba NameL b).take 1) || (([62] : List Nat).isPrefixOf (ba NameL b) || ([47, 62] : List Nat).isPrefixOf (ba NameL b)))
def tail7 (o : Option (List Nat)) (w b : List Nat) : Bool := match o with
  | none => false
  | some e => !RawL.contains (w ++ nmR b) && blankL e
def K1 (w b : List Nat) : Nat := if tail1 w b = true then 1 else if tail6 w b = true then 6 else if tail7 (tailR (ba NameL b)) w b = true then 7 else 0
def K2 (w b : List Nat) : Nat := if tail6 w b = true then 6 else if tail7 (signR 62 (gapR (ba NameL b))) w b = true then 7 else 0
theorem pre_ne {a c : Nat} {w r : List Nat} (h : a ≠ c) : (60 :: a :: w : List Nat).isPrefixOf (60 :: c :: r) = false := by
  show (60 == 60 && (a == c && w.isPrefixOf r)) = false
  rw [beq_eq_false_iff_ne.mpr h]
  rfl
theorem letter_ne : ∀ c, LettersL.contains c = true → c ≠ 33 ∧ c ≠ 63 ∧ c ≠ 47 := by
  intro c h
  unfold LettersL at h
  simp at h
  omega
theorem kind_open {c w b : List Nat} (h : Name c w) : kindR (60 :: (c ++ b)) = K1 w b := by
  have hnm := nm_app (b := b) h
  have hba := ba_app (b := b) h
  obtain ⟨x, c', rfl⟩ : ∃ x c', c = x :: c' := by
    cases c with
    | nil => exact absurd h.first (by decide)
    | cons x c' => exact ⟨x, c', rfl⟩
  obtain ⟨n33, n63, n47⟩ := letter_ne x h.first
  have ht : tagR (60 :: (x :: c' ++ b)) = tailR (ba NameL b) := by
    rw [show (60 :: (x :: c' ++ b) : List Nat) = 60 :: x :: (c' ++ b) from rfl]
    unfold tagR
    rw [if_neg (by rw [pre_ne (Ne.symm n33)]; simp), if_neg (by rw [pre_ne (Ne.symm n63)]; simp), if_neg (by rw [pre_ne (Ne.symm n33)]; simp), if_neg (by rw [pre_ne (Ne.symm n33)]; simp), if_neg (by rw [pre_ne (Ne.symm n47)]; simp), if_pos (by simp [List.isPrefixOf])]
    unfold openR nameR
    rw [show (60 :: x :: (c' ++ b)).drop 1 = x :: c' ++ b from rfl, if_pos (show letterR (x :: c' ++ b) = true from h.first), hba]
    rfl
  have hp : place (60 :: (x :: c' ++ b)) = 1 := by
    unfold place
    rw [if_neg (by rw [show (60 :: (x :: c' ++ b) : List Nat) = 60 :: x :: (c' ++ b) from rfl, pre_ne (Ne.symm n47)]; simp)]
  have hd : (60 :: (x :: c' ++ b)).drop 1 = x :: c' ++ b := rfl
  have h1 : begRaw (60 :: (x :: c' ++ b)) = tail1 w b := by
    unfold begRaw tail1
    rw [hd, hnm, hba]
  have h6 : begBlock (60 :: (x :: c' ++ b)) = tail6 w b := by
    unfold begBlock tail6
    rw [hp, hd, hnm, hba]
  have h7 : lone (60 :: (x :: c' ++ b)) = tail7 (tailR (ba NameL b)) w b := by
    unfold lone tail7
    rw [hp, hd, hnm, ht]
    all_goals (cases tailR (ba NameL b) <;> rfl)
  unfold kindR K1
  rw [h1, h6, h7, if_pos (by simp [List.isPrefixOf])]
  have q1 : ∀ z : List Nat, (60 :: 33 :: z : List Nat).isPrefixOf (60 :: (x :: c' ++ b)) = false := fun z => pre_ne (Ne.symm n33)
  have q2 : ∀ z : List Nat, (60 :: 63 :: z : List Nat).isPrefixOf (60 :: (x :: c' ++ b)) = false := fun z => pre_ne (Ne.symm n63)
  rw [q1, q1, q1, q2]
  simp
theorem kind_close {c w b : List Nat} (h : Name c w) : kindR (60 :: 47 :: (c ++ b)) = K2 w b := by
  have hnm := nm_app (b := b) h
  have hba := ba_app (b := b) h
  have q1 : ∀ z : List Nat, (60 :: 33 :: z : List Nat).isPrefixOf (60 :: 47 :: (c ++ b)) = false := fun z => pre_ne (by decide)
  have q2 : ∀ z : List Nat, (60 :: 63 :: z : List Nat).isPrefixOf (60 :: 47 :: (c ++ b)) = false := fun z => pre_ne (by decide)
  have hl : letterR (c ++ b) = true := by
    cases c with
    | nil => exact absurd h.first (by decide)
    | cons x c' => exact h.first
  have ht : tagR (60 :: 47 :: (c ++ b)) = signR 62 (gapR (ba NameL b)) := by
    unfold tagR
    rw [q1, q2, q1, q1, if_neg (by simp), if_neg (by simp), if_neg (by simp), if_neg (by simp), if_pos (by simp [List.isPrefixOf])]
    unfold closeR nameR
    rw [show (60 :: 47 :: (c ++ b)).drop 2 = c ++ b from rfl, if_pos hl, hba]
  have hp : place (60 :: 47 :: (c ++ b)) = 2 := by
    unfold place
    rw [if_pos (by simp [List.isPrefixOf])]
  have hd : (60 :: 47 :: (c ++ b)).drop 2 = c ++ b := rfl
  have h1 : begRaw (60 :: 47 :: (c ++ b)) = false := by
    unfold begRaw
    rw [show nmR ((60 :: 47 :: (c ++ b)).drop 1) = [] by
      show (List.takeWhile _ (47 :: (c ++ b))).map lo1 = []
      rw [List.takeWhile_cons_of_neg (by decide)]
      rfl]
    rfl
  have h6 : begBlock (60 :: 47 :: (c ++ b)) = tail6 w b := by
    unfold begBlock tail6
    rw [hp, hd, hnm, hba]
  have h7 : lone (60 :: 47 :: (c ++ b)) = tail7 (signR 62 (gapR (ba NameL b))) w b := by
    unfold lone tail7
    rw [hp, hd, hnm, ht]
    all_goals (cases signR 62 (gapR (ba NameL b)) <;> rfl)
  unfold kindR K2
  rw [h1, h6, h7, if_pos (by simp [List.isPrefixOf]), q1, q1, q1, q2]
  simp
theorem block_small : ∀ w ∈ BlockL, (∀ y ∈ w, y ∈ SmallL) ∧ letterR w = true ∧ w.length ≤ 10 := by decide +kernel
theorem raw_small : ∀ w ∈ RawL, (∀ y ∈ w, y ∈ SmallL) ∧ letterR w = true ∧ w.length ≤ 10 := by decide +kernel
theorem names_six : ∀ w ∈ BlockL, kindR (60 :: w) = 6 ∧ kindR ([60, 47] ++ w.map up1 ++ [47, 62]) = 6 ∧ kindR (60 :: w ++ [120]) = 0 := by decide +kernel
def SixB : List (List Nat × Bool) := [([], true), ([32, 120], true), ([9], true), ([62], true), ([47, 62], true), ([62, 32, 121], true), ([47, 32, 62], false)]
theorem six_ok : ∀ w ∈ BlockL, ∀ b ∈ SixB, b.2 = true → K1 w b.1 = 6 ∧ K2 w b.1 = 6 := by decide +kernel
def OwnB : List (List Nat × Nat) := [([], 1), ([32, 97, 61, 39, 98, 39], 1), ([62, 120], 1), ([9], 1), ([47, 62], 0), ([120, 62], 7), ([120, 62, 32, 121], 0), ([45, 97, 32, 62], 7)]
theorem own_ok : ∀ w ∈ RawL, (∀ b ∈ OwnB, K1 w b.1 = b.2) ∧ K2 w [62] = 0 ∧ K1 w [] = 1 := by decide +kernel
/-! ### lines of parts, and the ends -/
/-- each ">" stands behind " " or " -" -/
def Good (l : List Nat) : Prop := ∀ u v, l = u ++ 62 :: v → ∃ w, u = w ++ [32] ∨ u = w ++ [32, 45]
theorem good_app {a b : List Nat} (ha : Good a) (hb : Good b) : Good (a ++ b) := fun u v e => by
  rcases List.append_eq_append_iff.mp e with ⟨z, h1, h2⟩ | ⟨z, h1, h2⟩
  · obtain ⟨w, h | h⟩ := hb z v h2
    · exact ⟨a ++ w, .inl (by rw [h1, h, List.append_assoc])⟩
    · exact ⟨a ++ w, .inr (by rw [h1, h, List.append_assoc])⟩
  · cases z with
    | nil =>
      rw [List.append_nil] at h1
      obtain ⟨w, h | h⟩ := hb [] v (by rw [List.nil_append] at h2; exact h2.symm)
      · exact absurd (congrArg List.length h) (by simp)
      · exact absurd (congrArg List.length h) (by simp)
    | cons d z =>
      have e2 := List.cons.inj h2
      obtain ⟨e3, e4⟩ := e2
      subst e3
      exact ha u z h1
theorem findL_in {w : List Nat} (hw : w ≠ []) : ∀ {r : List Nat}, inL w r = true → ∃ u v, r = u ++ (w ++ v) := fun {r} h => by
  unfold inL at h
  cases hf : findL w r with
  | none => rw [hf] at h; cases h
  | some k =>
    obtain ⟨h1, _⟩ := findL_some hw hf
    have h2 : w <+: r.drop k := List.isPrefixOf_iff_prefix.mp h1
    obtain ⟨v, hv⟩ := h2
    exact ⟨r.take k, v, by rw [hv, List.take_append_drop]⟩
theorem in_findL {w u v : List Nat} (hw : w ≠ []) : inL w (u ++ (w ++ v)) = true := by
  unfold inL
  cases hf : findL w (u ++ (w ++ v)) with
  | some k => rfl
  | none =>
    have h1 := findL_none hw hf u.length
    rw [List.drop_left] at h1
    have h2 : w.isPrefixOf (w ++ v) = true := List.isPrefixOf_iff_prefix.mpr ⟨v, rfl⟩
    rw [h2] at h1
    cases h1
/-- an end: before its last sign stands neither " " nor " -" -/
def EndOk (e : List Nat) : Prop := ∃ e' y, e = e' ++ [y, 62] ∧ y ≠ 32 ∧ (y = 45 → ∃ e'' z, e' = e'' ++ [z] ∧ z ≠ 32)
theorem good_not {e l : List Nat} (he : EndOk e) (hl : Good l) : inL e l = false := by
  cases h : inL e l with
  | false => rfl
  | true =>
    obtain ⟨e', y, rfl, hy, hz⟩ := he
    obtain ⟨u, v, rfl⟩ := findL_in (by simp) h
    obtain ⟨w, hw | hw⟩ := hl (u ++ (e' ++ [y])) v (by simp)
    · have := congrArg List.getLast? hw
      simp at this
      exact absurd this hy
    · have := congrArg List.getLast? hw
      simp at this
      obtain ⟨e'', z, rfl, h32⟩ := hz this
      rw [this] at hw
      have e1 : (u ++ (e'' ++ [z])) ++ [45] = (w ++ [32]) ++ [45] := by simpa using hw
      have e2 := List.append_inj_left' e1 rfl
      have := congrArg List.getLast? e2
      simp at this
      exact absurd this h32
def PartsL : List (List Nat) := [[97], [32], [60, 47, 115, 99, 114, 105, 112, 116], [45, 45], [93, 93], [60, 47, 98], [112, 114, 101], [60, 47, 112, 114, 101, 32, 62], [45, 32, 45, 62]]
theorem no_good {l : List Nat} (h : 62 ∉ l) : Good l := fun u v e => absurd (by rw [e]; simp) h
theorem parts_ok : ∀ p ∈ PartsL, Good p ∧ p.length ≤ 10 ∧ ∀ c ∈ p, c < 128 ∧ lo1 c = c := by
  intro p hp
  refine ⟨?_, ?_⟩
  · have h1 : (62 ∉ p) ∨ p = [60, 47, 112, 114, 101, 32, 62] ∨ p = [45, 32, 45, 62] := by
      revert p
      decide
    rcases h1 with h | rfl | rfl
    · exact no_good h
    · refine good_app (a := [60, 47, 112, 114, 101]) (b := [32, 62]) (no_good (by decide)) fun u v e => ?_
      cases u with
      | nil => cases (List.cons.inj e).1
      | cons a u =>
        cases u with
        | nil =>
          obtain ⟨e1, _⟩ := List.cons.inj e
          rw [← e1]
          exact ⟨[], .inl rfl⟩
        | cons b u =>
          have := congrArg List.length e
          simp at this
    · refine good_app (a := [45]) (b := [32, 45, 62]) (no_good (by decide)) fun u v e => ?_
      cases u with
      | nil => cases (List.cons.inj e).1
      | cons a u =>
        cases u with
        | nil => cases (List.cons.inj (List.cons.inj e).2).1
        | cons b u =>
          cases u with
          | nil =>
            obtain ⟨e1, e⟩ := List.cons.inj e
            obtain ⟨e2, _⟩ := List.cons.inj e
            rw [← e1, ← e2]
            exact ⟨[], .inr rfl⟩
          | cons d u =>
            have := congrArg List.length e
            simp at this
  · revert p
    decide
theorem ends_bad : ∀ k, (k = 1 ∨ k = 2 ∨ k = 3 ∨ k = 5) → ∀ e ∈ EndsL k, EndOk e := by
  intro k hk e he
  have : e = [60, 47, 115, 99, 114, 105, 112, 116, 62] ∨ e = [60, 47, 112, 114, 101, 62] ∨ e = [60, 47, 115, 116, 121, 108, 101, 62] ∨ e = [60, 47, 116, 101, 120, 116, 97, 114, 101, 97, 62] ∨ e = [45, 45, 62] ∨ e = [63, 62] ∨ e = [93, 93, 62] := by
    rcases hk with rfl | rfl | rfl | rfl <;> (revert e; decide)
  rcases this with rfl | rfl | rfl | rfl | rfl | rfl | rfl
  · exact ⟨[60, 47, 115, 99, 114, 105, 112], 116, rfl, by decide, fun z => by cases z⟩
  · exact ⟨[60, 47, 112, 114], 101, rfl, by decide, fun z => by cases z⟩
  · exact ⟨[60, 47, 115, 116, 121, 108], 101, rfl, by decide, fun z => by cases z⟩
  · exact ⟨[60, 47, 116, 101, 120, 116, 97, 114, 101], 97, rfl, by decide, fun z => by cases z⟩
  · exact ⟨[45], 45, rfl, by decide, fun _ => ⟨[], 45, rfl, by decide⟩⟩
  · exact ⟨[], 63, rfl, by decide, fun z => by cases z⟩
  · exact ⟨[93], 93, rfl, by decide, fun z => by cases z⟩
theorem map_same {l : List Nat} (h : ∀ c ∈ l, lo1 c = c) : l.map lo1 = l := by
  have : l.map lo1 = l.map id := List.map_congr_left h
  simpa using this
/-- no end stands in a line of parts -/
theorem ends_none {k : Nat} {l : List Nat} (hk : 1 ≤ k ∧ k ≤ 5) (hg : Good l) (h4 : k = 4 → 62 ∉ l) (hl : ∀ c ∈ l, lo1 c = c) : endsR k l = false := by
  unfold endsR
  rw [if_pos hk, map_same hl, List.any_eq_false]
  intro e he
  by_cases h : k = 4
  · subst h
    have : e = [62] := by
      revert e
      decide
    subst this
    intro z
    obtain ⟨u, v, rfl⟩ := findL_in (by simp) z
    exact h4 rfl (by simp)
  · have := good_not (ends_bad k (by omega) e he) hg
    rw [this]
    simp
def TableL : Nat → List (List Nat)
  | 1 => [[60, 47, 115, 99, 114, 105, 112, 116, 62], [60, 47, 80, 82, 69, 62], [60, 47, 83, 116, 121, 108, 101, 62], [60, 47, 116, 101, 120, 116, 97, 114, 101, 97, 62]]
  | 2 => [[45, 45, 62]]
  | 3 => [[63, 62]]
  | 4 => [[62]]
  | 5 => [[93, 93, 62]]
  | _ => []
theorem table_ok : ∀ k, 1 ≤ k → k ≤ 5 → ∀ e ∈ TableL k, e.map lo1 ∈ EndsL k ∧ e ≠ [] ∧ e.length ≤ 12 ∧ ∀ c ∈ e, c < 128 := by
  intro k h1 h5
  have : k = 1 ∨ k = 2 ∨ k = 3 ∨ k = 4 ∨ k = 5 := by omega
  rcases this with rfl | rfl | rfl | rfl | rfl <;> decide
theorem ends_some {k : Nat} {l e : List Nat} (hk : 1 ≤ k ∧ k ≤ 5) (he : e ∈ TableL k) : endsR k (l ++ e ++ [120]) = true := by
  unfold endsR
  obtain ⟨h1, h2, _⟩ := table_ok k hk.1 hk.2 e he
  rw [if_pos hk, List.any_eq_true]
  refine ⟨e.map lo1, h1, ?_⟩
  rw [List.map_append, List.map_append, List.append_assoc]
  exact in_findL (by simpa using h2)

end TM
namespace K12
open PySem PySem.Spec PyProof.Rows L2 My TM
def topS (i : Nat) : Stmt := PySem.Challenge.pw_plainmark_k12_kinds_of_html.main.body.getD i (.Pass ⟨0, 0, 0, 0⟩)
abbrev s_is_blank : Stmt := topS 2
abbrev s_behind_all : Stmt := topS 5
abbrev s_behind_gap : Stmt := topS 6
abbrev s_behind_first : Stmt := topS 7
abbrev s_behind_sign : Stmt := topS 8
abbrev s_html_kind : Stmt := topS 17
abbrev s_html_ends : Stmt := topS 18
abbrev s_tag_at : Stmt := topS 19
abbrev s_begins_raw : Stmt := topS 20
abbrev s_begins_block : Stmt := topS 21
abbrev s_is_lone_tag : Stmt := topS 22
abbrev s_name_place : Stmt := topS 23
abbrev s_name_and_behind : Stmt := topS 24
abbrev s_open_tag_at : Stmt := topS 25
abbrev s_closing_tag_at : Stmt := topS 26
abbrev s_attribute_at : Stmt := topS 27
abbrev s_value_at : Stmt := topS 28
abbrev s_name_at : Stmt := topS 29
abbrev s_is_letter : Stmt := topS 30
abbrev s__law_well : Stmt := topS 32
abbrev s__law_draw : Stmt := topS 33
abbrev s__law_one : Stmt := topS 34
abbrev s__law_names : Stmt := topS 35
abbrev s__law_cased : Stmt := topS 36
abbrev s__law_six : Stmt := topS 37
abbrev s__law_own : Stmt := topS 38
abbrev s__law_other : Stmt := topS 39
abbrev s__law_ends_right : Stmt := topS 40
abbrev s_law : Stmt := topS 41
theorem sc_is_blank : FnScope ["line"] ["line"] (defScope s_is_blank) := ⟨rfl, rfl, rfl, by decide +kernel, rfl, by decide +kernel, by decide +kernel⟩
theorem sc_behind_all : FnScope ["signs", "text", "place"] ["signs", "text", "place"] (defScope s_behind_all) := ⟨rfl, rfl, rfl, by decide +kernel, rfl, by decide +kernel, by decide +kernel⟩
theorem sc_behind_gap : FnScope ["text", "place", "end"] ["text", "place"] (defScope s_behind_gap) := ⟨rfl, rfl, rfl, by decide +kernel, rfl, by decide +kernel, by decide +kernel⟩
theorem sc_behind_first : FnScope ["words", "text", "place", "found"] ["words", "text", "place"] (defScope s_behind_first) := ⟨rfl, rfl, rfl, by decide +kernel, rfl, by decide +kernel, by decide +kernel⟩
theorem sc_behind_sign : FnScope ["sign", "text", "place"] ["sign", "text", "place"] (defScope s_behind_sign) := ⟨rfl, rfl, rfl, by decide +kernel, rfl, by decide +kernel, by decide +kernel⟩
theorem sc_html_kind : FnScope ["line"] ["line"] (defScope s_html_kind) := ⟨rfl, rfl, rfl, by decide +kernel, rfl, by decide +kernel, by decide +kernel⟩
theorem sc_html_ends : FnScope ["kind", "line", "small", "end"] ["kind", "line"] (defScope s_html_ends) := ⟨rfl, rfl, rfl, by decide +kernel, rfl, by decide +kernel, by decide +kernel⟩
theorem sc_tag_at : FnScope ["text", "place"] ["text", "place"] (defScope s_tag_at) := ⟨rfl, rfl, rfl, by decide +kernel, rfl, by decide +kernel, by decide +kernel⟩
theorem sc_begins_raw : FnScope ["line", "name", "behind"] ["line"] (defScope s_begins_raw) := ⟨rfl, rfl, rfl, by decide +kernel, rfl, by decide +kernel, by decide +kernel⟩
theorem sc_begins_block : FnScope ["line", "name", "behind", "ended"] ["line"] (defScope s_begins_block) := ⟨rfl, rfl, rfl, by decide +kernel, rfl, by decide +kernel, by decide +kernel⟩
theorem sc_is_lone_tag : FnScope ["line", "name", "_", "end"] ["line"] (defScope s_is_lone_tag) := ⟨rfl, rfl, rfl, by decide +kernel, rfl, by decide +kernel, by decide +kernel⟩
theorem sc_name_place : FnScope ["line"] ["line"] (defScope s_name_place) := ⟨rfl, rfl, rfl, by decide +kernel, rfl, by decide +kernel, by decide +kernel⟩
theorem sc_name_and_behind : FnScope ["line", "place", "end"] ["line", "place"] (defScope s_name_and_behind) := ⟨rfl, rfl, rfl, by decide +kernel, rfl, by decide +kernel, by decide +kernel⟩
theorem sc_open_tag_at : FnScope ["text", "place", "end", "behind"] ["text", "place"] (defScope s_open_tag_at) := ⟨rfl, rfl, rfl, by decide +kernel, rfl, by decide +kernel, by decide +kernel⟩
theorem sc_closing_tag_at : FnScope ["text", "place", "end"] ["text", "place"] (defScope s_closing_tag_at) := ⟨rfl, rfl, rfl, by decide +kernel, rfl, by decide +kernel, by decide +kernel⟩
theorem sc_attribute_at : FnScope ["text", "place", "begin", "end", "sign"] ["text", "place"] (defScope s_attribute_at) := ⟨rfl, rfl, rfl, by decide +kernel, rfl, by decide +kernel, by decide +kernel⟩
theorem sc_value_at : FnScope ["text", "place", "end"] ["text", "place"] (defScope s_value_at) := ⟨rfl, rfl, rfl, by decide +kernel, rfl, by decide +kernel, by decide +kernel⟩
theorem sc_name_at : FnScope ["text", "place"] ["text", "place"] (defScope s_name_at) := ⟨rfl, rfl, rfl, by decide +kernel, rfl, by decide +kernel, by decide +kernel⟩
theorem sc_is_letter : FnScope ["text", "place"] ["text", "place"] (defScope s_is_letter) := ⟨rfl, rfl, rfl, by decide +kernel, rfl, by decide +kernel, by decide +kernel⟩
theorem sc__law_well : FnScope ["_law_cell"] ["_law_cell"] (defScope s__law_well) := ⟨rfl, rfl, rfl, by decide +kernel, rfl, by decide +kernel, by decide +kernel⟩
theorem sc__law_draw : FnScope ["_law_well_here", "_law_many", "_law_digit", "_law_number", "_law_more"] ["_law_well_here", "_law_many"] (defScope s__law_draw) := ⟨rfl, rfl, rfl, by decide +kernel, rfl, by decide +kernel, by decide +kernel⟩
theorem sc__law_one : FnScope ["_law_well_here", "_law_some"] ["_law_well_here", "_law_some"] (defScope s__law_one) := ⟨rfl, rfl, rfl, by decide +kernel, rfl, by decide +kernel, by decide +kernel⟩
theorem sc__law_names : FnScope ["_law_found"] [] (defScope s__law_names) := ⟨rfl, rfl, rfl, by decide +kernel, rfl, by decide +kernel, by decide +kernel⟩
theorem sc__law_cased : FnScope ["_law_well_here", "_law_word", "_law_sign"] ["_law_well_here", "_law_word"] (defScope s__law_cased) := ⟨rfl, rfl, rfl, by decide +kernel, rfl, by decide +kernel, by decide +kernel⟩
theorem sc__law_six : FnScope ["_law_well_here", "_law_name", "_law_some", "_law_behind", "_law_open_sign"] ["_law_well_here"] (defScope s__law_six) := ⟨rfl, rfl, rfl, by decide +kernel, rfl, by decide +kernel, by decide +kernel⟩
theorem sc__law_own : FnScope ["_law_well_here", "_law_name", "_law_some", "_law_behind"] ["_law_well_here"] (defScope s__law_own) := ⟨rfl, rfl, rfl, by decide +kernel, rfl, by decide +kernel, by decide +kernel⟩
theorem sc__law_other : FnScope ["_law_well_here", "_law_some"] ["_law_well_here"] (defScope s__law_other) := ⟨rfl, rfl, rfl, by decide +kernel, rfl, by decide +kernel, by decide +kernel⟩
theorem sc__law_ends_right : FnScope ["_law_well_here", "_law_table", "_law_kind", "_law_some", "_law_parts", "_law_line", "_law_k", "_law_part"] ["_law_well_here"] (defScope s__law_ends_right) := ⟨rfl, rfl, rfl, by decide +kernel, rfl, by decide +kernel, by decide +kernel⟩
theorem sc_law : FnScope ["_law_script", "_law_name", "_law_cell", "_law_well_here", "_law_k", "_law_row"] ["_law_script"] (defScope s_law) := ⟨rfl, rfl, rfl, by decide +kernel, rfl, by decide +kernel, by decide +kernel⟩
structure Txt (K : PySem.W.Frag) (mg : Str → Option Value) where
  a_is_blank : Addr
  d_is_blank : FuncData
  f_is_blank : Fun K "is_blank" "is_blank" s_is_blank a_is_blank d_is_blank
  g_is_blank : mg "is_blank" = some (.ref a_is_blank)
  b_is_blank : Binds K d_is_blank ["line"] []
  a_behind_all : Addr
  d_behind_all : FuncData
  f_behind_all : Fun K "behind_all" "behind_all" s_behind_all a_behind_all d_behind_all
  g_behind_all : mg "behind_all" = some (.ref a_behind_all)
  b_behind_all : Binds K d_behind_all ["signs", "text", "place"] []
  a_behind_gap : Addr
  d_behind_gap : FuncData
  f_behind_gap : Fun K "behind_gap" "behind_gap" s_behind_gap a_behind_gap d_behind_gap
  g_behind_gap : mg "behind_gap" = some (.ref a_behind_gap)
  b_behind_gap : Binds K d_behind_gap ["text", "place"] []
  a_behind_first : Addr
  d_behind_first : FuncData
  f_behind_first : Fun K "behind_first" "behind_first" s_behind_first a_behind_first d_behind_first
  g_behind_first : mg "behind_first" = some (.ref a_behind_first)
  b_behind_first : Binds K d_behind_first ["words", "text", "place"] []
  a_behind_sign : Addr
  d_behind_sign : FuncData
  f_behind_sign : Fun K "behind_sign" "behind_sign" s_behind_sign a_behind_sign d_behind_sign
  g_behind_sign : mg "behind_sign" = some (.ref a_behind_sign)
  b_behind_sign : Binds K d_behind_sign ["sign", "text", "place"] []
  a_html_kind : Addr
  d_html_kind : FuncData
  f_html_kind : Fun K "html_kind" "html_kind" s_html_kind a_html_kind d_html_kind
  g_html_kind : mg "html_kind" = some (.ref a_html_kind)
  b_html_kind : Binds K d_html_kind ["line"] []
  a_html_ends : Addr
  d_html_ends : FuncData
  f_html_ends : Fun K "html_ends" "html_ends" s_html_ends a_html_ends d_html_ends
  g_html_ends : mg "html_ends" = some (.ref a_html_ends)
  b_html_ends : Binds K d_html_ends ["kind", "line"] []
  a_tag_at : Addr
  d_tag_at : FuncData
  f_tag_at : Fun K "tag_at" "tag_at" s_tag_at a_tag_at d_tag_at
  g_tag_at : mg "tag_at" = some (.ref a_tag_at)
  b_tag_at : Binds K d_tag_at ["text", "place"] []
  a_begins_raw : Addr
  d_begins_raw : FuncData
  f_begins_raw : Fun K "begins_raw" "begins_raw" s_begins_raw a_begins_raw d_begins_raw
  g_begins_raw : mg "begins_raw" = some (.ref a_begins_raw)
  b_begins_raw : Binds K d_begins_raw ["line"] []
  a_begins_block : Addr
  d_begins_block : FuncData
  f_begins_block : Fun K "begins_block" "begins_block" s_begins_block a_begins_block d_begins_block
  g_begins_block : mg "begins_block" = some (.ref a_begins_block)
  b_begins_block : Binds K d_begins_block ["line"] []
  a_is_lone_tag : Addr
  d_is_lone_tag : FuncData
  f_is_lone_tag : Fun K "is_lone_tag" "is_lone_tag" s_is_lone_tag a_is_lone_tag d_is_lone_tag
  g_is_lone_tag : mg "is_lone_tag" = some (.ref a_is_lone_tag)
  b_is_lone_tag : Binds K d_is_lone_tag ["line"] []
  a_name_place : Addr
  d_name_place : FuncData
  f_name_place : Fun K "name_place" "name_place" s_name_place a_name_place d_name_place
  g_name_place : mg "name_place" = some (.ref a_name_place)
  b_name_place : Binds K d_name_place ["line"] []
  a_name_and_behind : Addr
  d_name_and_behind : FuncData
  f_name_and_behind : Fun K "name_and_behind" "name_and_behind" s_name_and_behind a_name_and_behind d_name_and_behind
  g_name_and_behind : mg "name_and_behind" = some (.ref a_name_and_behind)
  b_name_and_behind : Binds K d_name_and_behind ["line", "place"] []
  a_open_tag_at : Addr
  d_open_tag_at : FuncData
  f_open_tag_at : Fun K "open_tag_at" "open_tag_at" s_open_tag_at a_open_tag_at d_open_tag_at
  g_open_tag_at : mg "open_tag_at" = some (.ref a_open_tag_at)
  b_open_tag_at : Binds K d_open_tag_at ["text", "place"] []
  a_closing_tag_at : Addr
  d_closing_tag_at : FuncData
  f_closing_tag_at : Fun K "closing_tag_at" "closing_tag_at" s_closing_tag_at a_closing_tag_at d_closing_tag_at
  g_closing_tag_at : mg "closing_tag_at" = some (.ref a_closing_tag_at)
  b_closing_tag_at : Binds K d_closing_tag_at ["text", "place"] []
  a_attribute_at : Addr
  d_attribute_at : FuncData
  f_attribute_at : Fun K "attribute_at" "attribute_at" s_attribute_at a_attribute_at d_attribute_at
  g_attribute_at : mg "attribute_at" = some (.ref a_attribute_at)
  b_attribute_at : Binds K d_attribute_at ["text", "place"] []
  a_value_at : Addr
  d_value_at : FuncData
  f_value_at : Fun K "value_at" "value_at" s_value_at a_value_at d_value_at
  g_value_at : mg "value_at" = some (.ref a_value_at)
  b_value_at : Binds K d_value_at ["text", "place"] []
  a_name_at : Addr
  d_name_at : FuncData
  f_name_at : Fun K "name_at" "name_at" s_name_at a_name_at d_name_at
  g_name_at : mg "name_at" = some (.ref a_name_at)
  b_name_at : Binds K d_name_at ["text", "place"] []
  a_is_letter : Addr
  d_is_letter : FuncData
  f_is_letter : Fun K "is_letter" "is_letter" s_is_letter a_is_letter d_is_letter
  g_is_letter : mg "is_letter" = some (.ref a_is_letter)
  b_is_letter : Binds K d_is_letter ["text", "place"] []
  a__law_well : Addr
  d__law_well : FuncData
  f__law_well : Fun K "_law_well" "_law_well" s__law_well a__law_well d__law_well
  g__law_well : mg "_law_well" = some (.ref a__law_well)
  b__law_well : Binds K d__law_well ["_law_cell"] []
  a__law_draw : Addr
  d__law_draw : FuncData
  f__law_draw : Fun K "_law_draw" "_law_draw" s__law_draw a__law_draw d__law_draw
  g__law_draw : mg "_law_draw" = some (.ref a__law_draw)
  b__law_draw : Binds K d__law_draw ["_law_well_here", "_law_many"] []
  a__law_one : Addr
  d__law_one : FuncData
  f__law_one : Fun K "_law_one" "_law_one" s__law_one a__law_one d__law_one
  g__law_one : mg "_law_one" = some (.ref a__law_one)
  b__law_one : Binds K d__law_one ["_law_well_here", "_law_some"] []
  a__law_names : Addr
  d__law_names : FuncData
  f__law_names : Fun K "_law_names" "_law_names" s__law_names a__law_names d__law_names
  g__law_names : mg "_law_names" = some (.ref a__law_names)
  b__law_names : Binds K d__law_names [] []
  a__law_cased : Addr
  d__law_cased : FuncData
  f__law_cased : Fun K "_law_cased" "_law_cased" s__law_cased a__law_cased d__law_cased
  g__law_cased : mg "_law_cased" = some (.ref a__law_cased)
  b__law_cased : Binds K d__law_cased ["_law_well_here", "_law_word"] []
  a__law_six : Addr
  d__law_six : FuncData
  f__law_six : Fun K "_law_six" "_law_six" s__law_six a__law_six d__law_six
  g__law_six : mg "_law_six" = some (.ref a__law_six)
  b__law_six : Binds K d__law_six ["_law_well_here"] []
  a__law_own : Addr
  d__law_own : FuncData
  f__law_own : Fun K "_law_own" "_law_own" s__law_own a__law_own d__law_own
  g__law_own : mg "_law_own" = some (.ref a__law_own)
  b__law_own : Binds K d__law_own ["_law_well_here"] []
  a__law_other : Addr
  d__law_other : FuncData
  f__law_other : Fun K "_law_other" "_law_other" s__law_other a__law_other d__law_other
  g__law_other : mg "_law_other" = some (.ref a__law_other)
  b__law_other : Binds K d__law_other ["_law_well_here"] []
  a__law_ends_right : Addr
  d__law_ends_right : FuncData
  f__law_ends_right : Fun K "_law_ends_right" "_law_ends_right" s__law_ends_right a__law_ends_right d__law_ends_right
  g__law_ends_right : mg "_law_ends_right" = some (.ref a__law_ends_right)
  b__law_ends_right : Binds K d__law_ends_right ["_law_well_here"] []
  z_any : mg "any" = none
  z_int : mg "int" = none
  z_len : mg "len" = none
  z_range : mg "range" = none
  t_WHITE : Tok
  g_WHITE : mg "WHITE" = some (.str " \t" t_WHITE)
  t_INLINE_WHITE : Tok
  g_INLINE_WHITE : mg "INLINE_WHITE" = some (.str " \t\n" t_INLINE_WHITE)
  t_LETTERS : Tok
  g_LETTERS : mg "LETTERS" = some (.str "abcdefghijklmnopqrstuvwxyzABCDEFGHIJKLMNOPQRSTUVWXYZ" t_LETTERS)
  t_NAME_SIGNS : Tok
  g_NAME_SIGNS : mg "NAME_SIGNS" = some (.str "abcdefghijklmnopqrstuvwxyzABCDEFGHIJKLMNOPQRSTUVWXYZ0123456789-" t_NAME_SIGNS)
  t_KEY_SIGNS : Tok
  g_KEY_SIGNS : mg "KEY_SIGNS" = some (.str "abcdefghijklmnopqrstuvwxyzABCDEFGHIJKLMNOPQRSTUVWXYZ0123456789_.:-" t_KEY_SIGNS)
  t_NO_BARE_SIGNS : Tok
  g_NO_BARE_SIGNS : mg "NO_BARE_SIGNS" = some (.str " \t\n\"'=<>`" t_NO_BARE_SIGNS)
  a_RAW_NAMES : Addr
  o_RAW_NAMES : Option Addr
  n_RAW_NAMES : Nat
  w_RAW_NAMES : Array (Option Value)
  (t_RAW_NAMES_0 t_RAW_NAMES_1 t_RAW_NAMES_2 t_RAW_NAMES_3 : Tok)
  g_RAW_NAMES : mg "RAW_NAMES" = some (.ref a_RAW_NAMES)
  l_RAW_NAMES : K.lookup a_RAW_NAMES = some ⟨.type "tuple", o_RAW_NAMES, .seq #[.str "script" t_RAW_NAMES_0, .str "pre" t_RAW_NAMES_1, .str "style" t_RAW_NAMES_2, .str "textarea" t_RAW_NAMES_3] n_RAW_NAMES, w_RAW_NAMES⟩
  a_BLOCK_NAMES : Addr
  o_BLOCK_NAMES : Option Addr
  n_BLOCK_NAMES : Nat
  w_BLOCK_NAMES : Array (Option Value)
  (t_BLOCK_NAMES_0 t_BLOCK_NAMES_1 t_BLOCK_NAMES_2 t_BLOCK_NAMES_3 t_BLOCK_NAMES_4 t_BLOCK_NAMES_5 t_BLOCK_NAMES_6 t_BLOCK_NAMES_7 t_BLOCK_NAMES_8 t_BLOCK_NAMES_9 t_BLOCK_NAMES_10 t_BLOCK_NAMES_11 t_BLOCK_NAMES_12 t_BLOCK_NAMES_13 t_BLOCK_NAMES_14 t_BLOCK_NAMES_15 t_BLOCK_NAMES_16 t_BLOCK_NAMES_17 t_BLOCK_NAMES_18 t_BLOCK_NAMES_19 t_BLOCK_NAMES_20 t_BLOCK_NAMES_21 t_BLOCK_NAMES_22 t_BLOCK_NAMES_23 t_BLOCK_NAMES_24 t_BLOCK_NAMES_25 t_BLOCK_NAMES_26 t_BLOCK_NAMES_27 t_BLOCK_NAMES_28 t_BLOCK_NAMES_29 t_BLOCK_NAMES_30 t_BLOCK_NAMES_31 t_BLOCK_NAMES_32 t_BLOCK_NAMES_33 t_BLOCK_NAMES_34 t_BLOCK_NAMES_35 t_BLOCK_NAMES_36 t_BLOCK_NAMES_37 t_BLOCK_NAMES_38 t_BLOCK_NAMES_39 t_BLOCK_NAMES_40 t_BLOCK_NAMES_41 t_BLOCK_NAMES_42 t_BLOCK_NAMES_43 t_BLOCK_NAMES_44 t_BLOCK_NAMES_45 t_BLOCK_NAMES_46 t_BLOCK_NAMES_47 t_BLOCK_NAMES_48 t_BLOCK_NAMES_49 t_BLOCK_NAMES_50 t_BLOCK_NAMES_51 t_BLOCK_NAMES_52 t_BLOCK_NAMES_53 t_BLOCK_NAMES_54 t_BLOCK_NAMES_55 t_BLOCK_NAMES_56 t_BLOCK_NAMES_57 t_BLOCK_NAMES_58 t_BLOCK_NAMES_59 t_BLOCK_NAMES_60 t_BLOCK_NAMES_61 : Tok)
  g_BLOCK_NAMES : mg "BLOCK_NAMES" = some (.ref a_BLOCK_NAMES)
  l_BLOCK_NAMES : K.lookup a_BLOCK_NAMES = some ⟨.type "tuple", o_BLOCK_NAMES, .seq #[.str "address" t_BLOCK_NAMES_0, .str "article" t_BLOCK_NAMES_1, .str "aside" t_BLOCK_NAMES_2, .str "base" t_BLOCK_NAMES_3, .str "basefont" t_BLOCK_NAMES_4, .str "blockquote" t_BLOCK_NAMES_5, .str "body" t_BLOCK_NAMES_6, .str "caption" t_BLOCK_NAMES_7, .str "center" t_BLOCK_NAMES_8, .str "col" t_BLOCK_NAMES_9, .str "colgroup" t_BLOCK_NAMES_10, .str "dd" t_BLOCK_NAMES_11, .str "details" t_BLOCK_NAMES_12, .str "dialog" t_BLOCK_NAMES_13, .str "dir" t_BLOCK_NAMES_14, .str "div" t_BLOCK_NAMES_15, .str "dl" t_BLOCK_NAMES_16, .str "dt" t_BLOCK_NAMES_17, .str "fieldset" t_BLOCK_NAMES_18, .str "figcaption" t_BLOCK_NAMES_19, .str "figure" t_BLOCK_NAMES_20, .str "footer" t_BLOCK_NAMES_21, .str "form" t_BLOCK_NAMES_22, .str "frame" t_BLOCK_NAMES_23, .str "frameset" t_BLOCK_NAMES_24, .str "h1" t_BLOCK_NAMES_25, .str "h2" t_BLOCK_NAMES_26, .str "h3" t_BLOCK_NAMES_27, .str "h4" t_BLOCK_NAMES_28, .str "h5" t_BLOCK_NAMES_29, .str "h6" t_BLOCK_NAMES_30, .str "head" t_BLOCK_NAMES_31, .str "header" t_BLOCK_NAMES_32, .str "hr" t_BLOCK_NAMES_33, .str "html" t_BLOCK_NAMES_34, .str "iframe" t_BLOCK_NAMES_35, .str "legend" t_BLOCK_NAMES_36, .str "li" t_BLOCK_NAMES_37, .str "link" t_BLOCK_NAMES_38, .str "main" t_BLOCK_NAMES_39, .str "menu" t_BLOCK_NAMES_40, .str "menuitem" t_BLOCK_NAMES_41, .str "nav" t_BLOCK_NAMES_42, .str "noframes" t_BLOCK_NAMES_43, .str "ol" t_BLOCK_NAMES_44, .str "optgroup" t_BLOCK_NAMES_45, .str "option" t_BLOCK_NAMES_46, .str "p" t_BLOCK_NAMES_47, .str "param" t_BLOCK_NAMES_48, .str "search" t_BLOCK_NAMES_49, .str "section" t_BLOCK_NAMES_50, .str "summary" t_BLOCK_NAMES_51, .str "table" t_BLOCK_NAMES_52, .str "tbody" t_BLOCK_NAMES_53, .str "td" t_BLOCK_NAMES_54, .str "tfoot" t_BLOCK_NAMES_55, .str "th" t_BLOCK_NAMES_56, .str "thead" t_BLOCK_NAMES_57, .str "title" t_BLOCK_NAMES_58, .str "tr" t_BLOCK_NAMES_59, .str "track" t_BLOCK_NAMES_60, .str "ul" t_BLOCK_NAMES_61] n_BLOCK_NAMES, w_BLOCK_NAMES⟩
  a_ENDS : Addr
  n_ENDS : Nat
  (t_ENDS_0 t_ENDS_1 t_ENDS_2 t_ENDS_3 t_ENDS_4 : Tok)
  (e_ENDS_0 e_ENDS_1 e_ENDS_2 e_ENDS_3 e_ENDS_4 : Addr)
  g_ENDS : mg "ENDS" = some (.ref a_ENDS)
  w_ENDS : (a_ENDS == sysModules) = false
  l_ENDS : K.lookup a_ENDS = some ⟨.type "dict", none, .dict #[⟨1, .int 1 t_ENDS_0, .ref e_ENDS_0⟩, ⟨2, .int 2 t_ENDS_1, .ref e_ENDS_1⟩, ⟨3, .int 3 t_ENDS_2, .ref e_ENDS_2⟩, ⟨4, .int 4 t_ENDS_3, .ref e_ENDS_3⟩, ⟨5, .int 5 t_ENDS_4, .ref e_ENDS_4⟩] n_ENDS, #[]⟩
  o_ENDS_0 : Option Addr
  n_ENDS_0 : Nat
  w_ENDS_0 : Array (Option Value)
  (u_ENDS_0_0 u_ENDS_0_1 u_ENDS_0_2 u_ENDS_0_3 : Tok)
  l_ENDS_0 : K.lookup e_ENDS_0 = some ⟨.type "tuple", o_ENDS_0, .seq #[.str "</script>" u_ENDS_0_0, .str "</pre>" u_ENDS_0_1, .str "</style>" u_ENDS_0_2, .str "</textarea>" u_ENDS_0_3] n_ENDS_0, w_ENDS_0⟩
  o_ENDS_1 : Option Addr
  n_ENDS_1 : Nat
  w_ENDS_1 : Array (Option Value)
  (u_ENDS_1_0 : Tok)
  l_ENDS_1 : K.lookup e_ENDS_1 = some ⟨.type "tuple", o_ENDS_1, .seq #[.str "-->" u_ENDS_1_0] n_ENDS_1, w_ENDS_1⟩
  o_ENDS_2 : Option Addr
  n_ENDS_2 : Nat
  w_ENDS_2 : Array (Option Value)
  (u_ENDS_2_0 : Tok)
  l_ENDS_2 : K.lookup e_ENDS_2 = some ⟨.type "tuple", o_ENDS_2, .seq #[.str "?>" u_ENDS_2_0] n_ENDS_2, w_ENDS_2⟩
  o_ENDS_3 : Option Addr
  n_ENDS_3 : Nat
  w_ENDS_3 : Array (Option Value)
  (u_ENDS_3_0 : Tok)
  l_ENDS_3 : K.lookup e_ENDS_3 = some ⟨.type "tuple", o_ENDS_3, .seq #[.str ">" u_ENDS_3_0] n_ENDS_3, w_ENDS_3⟩
  o_ENDS_4 : Option Addr
  n_ENDS_4 : Nat
  w_ENDS_4 : Array (Option Value)
  (u_ENDS_4_0 : Tok)
  l_ENDS_4 : K.lookup e_ENDS_4 = some ⟨.type "tuple", o_ENDS_4, .seq #[.str "]]>" u_ENDS_4_0] n_ENDS_4, w_ENDS_4⟩
def ENDSL {K : PySem.W.Frag} {mg : Str → Option Value} (T : Txt K mg) : List (Int × Addr) := [(1, T.e_ENDS_0), (2, T.e_ENDS_1), (3, T.e_ENDS_2), (4, T.e_ENDS_3), (5, T.e_ENDS_4)]
theorem Txt.ki_ENDS {K : PySem.W.Frag} {mg : Str → Option Value} (T : Txt K mg) : KDictI K T.a_ENDS (ENDSL T) :=
  ⟨⟨_, _, T.l_ENDS, (show (1 : Int) = hashInt 1 by decide +kernel), ⟨_, rfl⟩, rfl, (show (2 : Int) = hashInt 2 by decide +kernel), ⟨_, rfl⟩, rfl, (show (3 : Int) = hashInt 3 by decide +kernel), ⟨_, rfl⟩, rfl, (show (4 : Int) = hashInt 4 by decide +kernel), ⟨_, rfl⟩, rfl, (show (5 : Int) = hashInt 5 by decide +kernel), ⟨_, rfl⟩, rfl, trivial⟩, T.w_ENDS⟩
/-! ### the draws -/
def sp__law_well (K : PySem.W.Frag) : Sp := fun vs H Q _ => ∃ n : Int, vs = [.int n] ∧ ∀ p, H p = none → Q (.ref p) (upd H p (.lst [.int n, .int 0]))
theorem ok__law_well {P : Program} {w : World} {K : PySem.W.Frag} {mg : Str → Option Value} {base : Heap} (T : Txt K mg) : FnOk P w K mg base CX0 1 T.a__law_well T.d__law_well ["_law_cell"] (sp__law_well K) := by
  refine T.f__law_well.ok sc__law_well (fun vs H Q E h => ?_) (fun cdv A outer s H vs Q E hr h => ?_)
  · obtain ⟨n, rfl, _⟩ := h
    rfl
  · obtain ⟨n, rfl, q⟩ := h
    refine ⟨_, (pss_one (ps_ret (pe_lst (pa_cons (pe_callTy call_int1 (by rfl) T.z_int (by decide +kernel) (pa_cons (pv 0) pa_nil)) (pa_cons pe_int pa_nil))))), ?_⟩
    exact ⟨_, rfl, .inl ⟨_, rfl, (by show 2 ≤ sizeLine; decide), fun p hp => q p hp⟩⟩
def sp__law_draw (K : PySem.W.Frag) : Sp := fun vs H Q _ => ∃ (L : Addr) (m : Int), vs = [.ref L, .int m] ∧ 0 < m ∧ m < 1000000 ∧ Well H L ∧
  ∀ H' d, Keeps L H H' → Well H' L → 0 ≤ d → d < m → Q (.int d) H'
theorem ok__law_draw {P : Program} {w : World} {K : PySem.W.Frag} {mg : Str → Option Value} {base : Heap} (T : Txt K mg) : FnOk P w K mg base CX0 1 T.a__law_draw T.d__law_draw ["_law_well_here", "_law_many"] (sp__law_draw K) := by
  refine T.f__law_draw.ok sc__law_draw (fun vs H Q E h => ?_) (fun cdv A outer s H vs Q E hr h => ?_)
  · obtain ⟨L, m, rfl, _⟩ := h
    rfl
  · obtain ⟨L, m, rfl, hm0, hm1, ⟨x, y, hL⟩, q⟩ := h
    refine ⟨_, (pss_cons (ps_if (pt_cmpR op_ge (pe_ix ix_list (pv 0) pe_int (fun _ _ => rfl)) (pe_op op_pow pe_int pe_int) (nomark _)) (pss_cons (ps_set (i := 2) sc__law_draw.nd rfl (.inl rfl) (pe_op op_mod (pe_callTy call_int1 (by rfl) T.z_int (by decide +kernel) (pa_cons (pe_ix ix_list (pv 0) pe_int (fun _ _ => rfl)) pa_nil)) (pv 1)))
        (pss_cons (ps_asg (pe_op op_fdivW (pe_ix ix_list (pv 0) pe_int (fun _ _ => rfl)) (pv 1)) (pg_sub (pv 0) pe_int set_list))
        (pss_one (ps_ret (pv 2))))) pss_nil)
        (pss_cons (ps_asg (pe_op op_add (pe_ix ix_list (pv 0) pe_int (fun _ _ => rfl)) pe_int) (pg_sub (pv 0) pe_int set_list))
        (pss_cons (ps_set (i := 3) sc__law_draw.nd rfl (.inl rfl) (pe_op op_mod (pe_callTy call_int1 (by rfl) T.z_int (by decide +kernel) (pa_cons (pe_op op_mul (pe_callTy call_int1 (by rfl) T.z_int (by decide +kernel) (pa_cons (pe_op op_add (pe_op op_add (pe_op op_mod (pe_callTy call_int1 (by rfl) T.z_int (by decide +kernel) (pa_cons (pe_ix ix_list (pv 0) pe_int (fun _ _ => rfl)) pa_nil)) pe_int) (pe_op op_mul pe_int (pe_ix ix_list (pv 0) pe_int (fun _ _ => rfl)))) pe_int) pa_nil)) pe_int) pa_nil)) pe_int))
        (pss_cons (ps_set (i := 4) sc__law_draw.nd rfl (.inl rfl) (pe_op op_mod (pe_callTy call_int1 (by rfl) T.z_int (by decide +kernel) (pa_cons (pe_op op_fdivW (pe_ix ix_list (pv 0) pe_int (fun _ _ => rfl)) pe_int) pa_nil)) pe_int))
        (pss_cons (ps_set (i := 3) sc__law_draw.nd rfl (.inl rfl) (pe_op op_mod (pe_callTy call_int1 (by rfl) T.z_int (by decide +kernel) (pa_cons (pe_op op_mul (pv 3) (pe_op op_add (pe_op op_add (pe_op op_fdivW (pv 3) pe_int) pe_int) (pv 4))) pa_nil)) pe_int))
        (pss_one (ps_ret (pe_op op_mod (pe_callTy call_int1 (by rfl) T.z_int (by decide +kernel) (pa_cons (pe_op op_fdivW (pe_op op_mod (pe_callTy call_int1 (by rfl) T.z_int (by decide +kernel) (pa_cons (pe_op op_mul (pv 3) (pe_op op_add (pe_op op_fdivW (pv 3) pe_int) pe_int)) pa_nil)) pe_int) pe_int) pa_nil)) (pv 1))))))))), ?_⟩
    have a0 : ∀ x y : Int, atI [V.int x, V.int y] 0 = some (.int x) := fun x y => atI_nat (j := 0) rfl
    have a1 : ∀ x y : Int, atI [V.int x, V.int y] 1 = some (.int y) := fun x y => atI_nat (j := 1) rfl
    have wd : ∀ i j : Int, 0 < j → j < 10000000000 → CDivW i j := fun i j h1 h2 => wide_div (b := 40) h1 (by omega) (by decide) (by decide)
    refine ⟨_, rfl, L, _, _, _, rfl, rfl, SqL.of hL, a0 x y, _, _, rfl, rfl, (by refine ⟨?_, ?_, ?_⟩ <;> decide), _, _, rfl, rfl, _, rfl, ite2 (fun _ => ?_) (fun _ => ?_)⟩
    · refine ⟨_, rfl, L, _, _, _, rfl, rfl, SqL.of hL, a0 x y, .inl ⟨_, rfl, _, rfl, _, _, rfl, rfl, hm0, ?_⟩⟩
      refine ⟨_, rfl, L, _, _, _, rfl, rfl, SqL.of hL, a0 x y, _, rfl, _, _, rfl, rfl, wd _ _ hm0 (by omega), _, rfl, L, _, _, 0, rfl, rfl, hL, rfl, ?_⟩
      exact ⟨_, rfl, q _ _ .at ⟨_, _, upd_same⟩ (Int.emod_nonneg _ (by omega)) (Int.emod_lt_of_pos _ hm0)⟩
    · -- well[1] = well[1] + 1
      refine ⟨_, rfl, L, _, _, _, rfl, rfl, SqL.of hL, a1 x y, _, _, rfl, rfl, _, rfl, L, _, _, 1, rfl, rfl, hL, rfl, ?_⟩
      have k2 : Keeps L H (upd H L (.lst ([V.int x, V.int y].set 1 (.int (y + 1))))) := .at
      have hL2 : (upd H L (.lst ([V.int x, V.int y].set 1 (.int (y + 1))))) L = some (.lst [V.int x, V.int (y + 1)]) := upd_same
      generalize (upd H L (.lst ([V.int x, V.int y].set 1 (.int (y + 1))))) = H2 at hL2 k2 ⊢
      refine ⟨_, rfl, L, _, _, _, rfl, rfl, SqL.of hL2, a0 _ _, .inl ⟨_, rfl, _, _, rfl, rfl, (by show (0 : Int) < _; decide), _, rfl, L, _, _, _, rfl, rfl, SqL.of hL2, a1 _ _, _, _, rfl, rfl, .inl (by constructor <;> decide), _, _, rfl, rfl, _, _, rfl, rfl,
        .inl ⟨_, rfl, _, _, rfl, rfl, .inr (by constructor <;> decide), .inl ⟨_, rfl, _, _, rfl, rfl, (by show (0 : Int) < _; decide), ?_⟩⟩⟩⟩
      refine ⟨_, rfl, L, _, _, _, rfl, rfl, SqL.of hL2, a0 _ _, _, _, rfl, rfl, wd _ _ (by decide) (by decide), .inl ⟨_, rfl, _, _, rfl, rfl, (by show (0 : Int) < _; decide), ?_⟩⟩
      refine ⟨_, rfl, _, rfl, _, _, rfl, rfl, wd _ _ (by decide) (by decide), _, _, rfl, rfl, _, rfl, _, _, rfl, rfl, _, _, rfl, rfl, .inl (by constructor <;> omega), .inl ⟨_, rfl, _, _, rfl, rfl, (by show (0 : Int) < _; decide), ?_⟩⟩
      refine ⟨_, rfl, _, rfl, _, _, rfl, rfl, wd _ _ (by decide) (by decide), _, _, rfl, rfl, _, _, rfl, rfl, .inl (by constructor <;> omega), .inl ⟨_, rfl, _, _, rfl, rfl, (by show (0 : Int) < _; decide), _, _, rfl, rfl, wd _ _ (by decide) (by decide), .inl ⟨_, rfl, _, rfl, _, _, rfl, rfl, hm0, ?_⟩⟩⟩
      exact q _ _ k2 ⟨_, _, hL2⟩ (Int.emod_nonneg _ (by omega)) (Int.emod_lt_of_pos _ hm0)
def sp__law_one (K : PySem.W.Frag) : Sp := fun vs H Q _ => ∃ (L a : Addr) (xs : List V), vs = [.ref L, .ref a] ∧ SqL K H a xs ∧ a ≠ L ∧ xs ≠ [] ∧ xs.length < 1000000 ∧ Well H L ∧
  ∀ H' v, Keeps L H H' → Well H' L → v ∈ xs → Q v H'
theorem ok__law_one {P : Program} {w : World} {K : PySem.W.Frag} {mg : Str → Option Value} {base : Heap} (T : Txt K mg) : FnOk P w K mg base CX0 2 T.a__law_one T.d__law_one ["_law_well_here", "_law_some"] (sp__law_one K) := by
  refine T.f__law_one.ok sc__law_one (fun vs H Q E h => ?_) (fun cdv A outer s H vs Q E hr h => ?_)
  · obtain ⟨L, a, xs, rfl, _⟩ := h
    rfl
  · obtain ⟨L, a, xs, rfl, hS, ha, hne, hlen, hW, q⟩ := h
    refine ⟨_, (pss_one (ps_ret (pe_ix ix_list (pv 1) (pe_call (ok__law_draw T) (hr.mono (by decide)) (by rfl) T.g__law_draw T.f__law_draw.kp T.b__law_draw .nil pass0 (pa_cons (pv 0) (pa_cons (pe_callB call_len_seq (by rfl) T.z_len PySem.boot_len (pa_cons (pv 1) pa_nil)) pa_nil))) (fun _ _ => rfl)))), ?_⟩
    have hpos : 0 < xs.length := List.length_pos_iff.mpr hne
    refine ⟨_, rfl, _, rfl, _, rfl, a, xs, rfl, .inl hS, L, _, rfl, by omega, by omega, hW, fun H' d k w h0 h1 => ?_⟩
    obtain ⟨j, rfl⟩ := Int.eq_ofNat_of_zero_le h0
    have hj : j < xs.length := by omega
    exact ⟨a, xs, _, xs[j], rfl, rfl, k.seq ha hS, atI_nat (List.getElem?_eq_getElem hj), q _ _ k w (List.getElem_mem hj)⟩

/-! ### the defs of the tags -/
theorem lit_L : ("abcdefghijklmnopqrstuvwxyzABCDEFGHIJKLMNOPQRSTUVWXYZ" : Str) = S LettersL := by decide +kernel
theorem lit_N : ("abcdefghijklmnopqrstuvwxyzABCDEFGHIJKLMNOPQRSTUVWXYZ0123456789-" : Str) = S NameL := by decide +kernel
theorem lit_K : ("abcdefghijklmnopqrstuvwxyzABCDEFGHIJKLMNOPQRSTUVWXYZ0123456789_.:-" : Str) = S KeyL := by decide +kernel
theorem lit_G : (" \t\n" : Str) = S GapL := by decide +kernel
theorem lit_B : (" \t\n\"'=<>`" : Str) = S BareL := by decide +kernel
theorem mem_S (c : Nat) (l : List Nat) : decide (c ∈ (S l).cps.toList) = l.contains c := by
  rw [S_tl]
  by_cases h : c ∈ l
  · rw [decide_eq_true h]
    simp [h]
  · rw [decide_eq_false h]
    simp [h]
structure TP (t : List Nat) (p : Nat) : Prop where
  le : p ≤ t.length
  sz : t.length ≤ 100000
theorem TP.line {t : List Nat} {p : Nat} (h : TP t p) : (S t).length ≤ sizeLine := by
  have := h.sz
  rw [S_len, sizeLine_eq]
  omega
theorem pre1 {t : List Nat} {p c : Nat} (h : ([c] : List Nat).isPrefixOf (t.drop p) = true) : p < t.length := by
  have := pre_len _ _ h
  rw [List.length_drop] at this
  simp at this
  omega
theorem tail_pos {t r : List Nat} (h : r <:+ t) : TP t (pos t r) ↔ t.length ≤ 100000 := ⟨fun z => z.sz, fun z => ⟨pos_le _ _, z⟩⟩
/-- what a text and a place are handed back with -/
def sp_is_letter (K : PySem.W.Frag) : Sp := fun vs H Q _ => ∃ (t : List Nat) (p : Nat), vs = [.str (S t), .int (p : Int)] ∧ TP t p ∧ Q (.bl (letterR (t.drop p))) H
theorem ok_is_letter {P : Program} {w : World} {K : PySem.W.Frag} {mg : Str → Option Value} {base : Heap} (T : Txt K mg) : FnOk P w K mg base CX0 1 T.a_is_letter T.d_is_letter ["text", "place"] (sp_is_letter K) := by
  refine T.f_is_letter.ok sc_is_letter (fun vs H Q E h => ?_) (fun cdv A outer s H vs Q E hr h => ?_)
  · obtain ⟨t, p, rfl, _⟩ := h
    rfl
  · obtain ⟨t, p, rfl, tp, q⟩ := h
    refine ⟨_, (pss_one (ps_ret (pe_and (pe_cmpR op_lt (pv 1) (pe_callB call_len_str (by rfl) T.z_len PySem.boot_len (pa_cons (pv 0) pa_nil)) (nomark _)) (pe_one (pe_cmpR op_in_sign (pe_ix ix_str (pv 0) (pv 1) (fun _ _ => rfl)) (pe_glob (v := .str "abcdefghijklmnopqrstuvwxyzABCDEFGHIJKLMNOPQRSTUVWXYZ") rfl T.g_LETTERS ⟨_, rfl⟩) (by rfl)))))), ?_⟩
    refine ⟨_, rfl, _, rfl, _, rfl, tp.line, _, _, rfl, rfl, _, rfl, ite2 (fun h1 => ?_) (fun h1 => ?_)⟩
    · have h2 : p < t.length := by
        have := of_decide_eq_true h1
        rw [S_len] at this
        omega
      refine ⟨_, rfl, _, rfl, _, _, t[p], rfl, rfl, tp.line, atI_nat (by rw [S_tl]; exact List.getElem?_eq_getElem h2), t[p], _, rfl, rfl, ?_⟩
      rw [lit_L, mem_S]
      rw [List.drop_eq_getElem_cons h2] at q
      exact q
    · have h2 : t.length ≤ p := by
        have : ¬ ((p : Int) < ((S t).length : Int)) := fun z => h1 (decide_eq_true z)
        rw [S_len] at this
        omega
      rw [List.drop_of_length_le h2] at q
      exact q
def sp_behind_sign (K : PySem.W.Frag) : Sp := fun vs H Q _ => ∃ (c : Nat) (t : List Nat) (p : Nat), vs = [.str (S [c]), .str (S t), .int (p : Int)] ∧ TP t p ∧ Q (ov t (signR c (t.drop p))) H
theorem ok_behind_sign {P : Program} {w : World} {K : PySem.W.Frag} {mg : Str → Option Value} {base : Heap} (T : Txt K mg) : FnOk P w K mg base CX0 1 T.a_behind_sign T.d_behind_sign ["sign", "text", "place"] (sp_behind_sign K) := by
  refine T.f_behind_sign.ok sc_behind_sign (fun vs H Q E h => ?_) (fun cdv A outer s H vs Q E hr h => ?_)
  · obtain ⟨c, t, p, rfl, _⟩ := h
    rfl
  · obtain ⟨c, t, p, rfl, tp, q⟩ := h
    refine ⟨_, (pss_cons (ps_if (pt_val (pe_bm PySem.F.plainAttrs_str PySem.F.slot_str_startswith PySem.F.type_str_startswith mt_startswith3 (pv 1) (pa_cons (pv 0) (pa_cons (pv 2) pa_nil)))) (pss_one (ps_ret (pe_op op_add (pv 2) pe_int))) pss_nil)
        (pss_one (ps_ret pe_non))), ?_⟩
    refine ⟨_, rfl, rfl, _, rfl, _, rfl, _, _, _, rfl, rfl, _, rfl, ?_⟩
    rw [starts3 t [c] (by simp) p]
    unfold signR at q
    refine ite2 (fun h1 => ?_) (fun h1 => ?_)
    · rw [if_pos h1] at q
      have h2 := pre1 h1
      refine ⟨_, rfl, _, _, rfl, rfl, ?_⟩
      have e : pos t ((t.drop p).drop 1) = p + 1 := by
        rw [List.drop_drop]
        exact drop_pos h2
      have q' : Q (.int (pos t ((t.drop p).drop 1) : Nat)) H := q
      rw [e] at q'
      exact q'
    · rw [if_neg h1] at q
      exact q
def sp_behind_first (K : PySem.W.Frag) : Sp := fun vs H Q _ => ∃ (w t : List Nat) (p : Nat), vs = [.str (S w), .str (S t), .int (p : Int)] ∧ w ≠ [] ∧ w.length ≤ 100000 ∧ TP t p ∧ Q (ov t (firstR w (t.drop p))) H
theorem ok_behind_first {P : Program} {w : World} {K : PySem.W.Frag} {mg : Str → Option Value} {base : Heap} (T : Txt K mg) : FnOk P w K mg base CX0 1 T.a_behind_first T.d_behind_first ["words", "text", "place"] (sp_behind_first K) := by
  refine T.f_behind_first.ok sc_behind_first (fun vs H Q E h => ?_) (fun cdv A outer s H vs Q E hr h => ?_)
  · obtain ⟨w, t, p, rfl, _⟩ := h
    rfl
  · obtain ⟨w, t, p, rfl, hw, hwl, tp, q⟩ := h
    refine ⟨_, (pss_cons (ps_set (i := 3) sc_behind_first.nd rfl (.inl rfl) (pe_bm PySem.F.plainAttrs_str PySem.F.slot_str_find PySem.F.type_str_find mt_find3 (pv 1) (pa_cons (pv 0) (pa_cons (pv 2) pa_nil))))
        (pss_cons (ps_if (pt_cmpR op_lt (pv 3) pe_int (nomark _)) (pss_one (ps_ret pe_non)) pss_nil)
        (pss_one (ps_ret (pe_op op_add (pv 3) (pe_callB call_len_str (by rfl) T.z_len PySem.boot_len (pa_cons (pv 0) pa_nil))))))), ?_⟩
    refine ⟨_, rfl, rfl, _, rfl, _, rfl, _, _, _, rfl, rfl, ?_⟩
    have e3 := find3_S t w hw p
    unfold firstR at q
    cases hf : findL w (t.drop p) with
    | none =>
      rw [hf] at q e3
      rw [show Txt.find3 (S t) (S w) (p : Int) = -1 from e3]
      exact ⟨_, rfl, _, _, rfl, rfl, _, rfl, iteT q⟩
    | some k =>
      rw [hf] at q e3
      rw [show Txt.find3 (S t) (S w) (p : Int) = ((p + k : Nat) : Int) from e3]
      have h1 := pre_len _ _ (findL_some hw hf).1
      rw [List.drop_drop, List.length_drop] at h1
      have h0 : 0 < w.length := List.length_pos_iff.mpr hw
      refine ⟨_, rfl, _, _, rfl, rfl, _, rfl, ?_⟩
      rw [decide_eq_false (by omega)]
      refine iteF ?_
      refine ⟨_, rfl, _, rfl, _, rfl, by rw [S_len, sizeLine_eq]; omega, _, _, rfl, rfl, ?_⟩
      have e : pos t ((t.drop p).drop (k + w.length)) = p + k + w.length := by
        rw [List.drop_drop, drop_pos (by omega)]
        omega
      have q' : Q (.int (pos t ((t.drop p).drop (k + w.length)) : Nat)) H := q
      rw [e] at q'
      rw [S_len]
      show Q (.int (((p + k : Nat) : Int) + (w.length : Nat))) H
      rw [← Int.natCast_add]
      exact q'
def sp_behind_all (K : PySem.W.Frag) : Sp := fun vs H Q _ => ∃ (w t : List Nat) (p : Nat), vs = [.str (S w), .str (S t), .int (p : Int)] ∧ TP t p ∧ Q (.int (pos t (ba w (t.drop p)) : Nat)) H
theorem ok_behind_all {P : Program} {w : World} {K : PySem.W.Frag} {mg : Str → Option Value} {base : Heap} (T : Txt K mg) : FnOk P w K mg base CX0 1 T.a_behind_all T.d_behind_all ["signs", "text", "place"] (sp_behind_all K) := by
  refine T.f_behind_all.ok sc_behind_all (fun vs H Q E h => ?_) (fun cdv A outer s H vs Q E hr h => ?_)
  · obtain ⟨w, t, p, rfl, _⟩ := h
    rfl
  · obtain ⟨w, t, p, rfl, tp, q⟩ := h
    refine ⟨_, (pss_cons (ps_while PassesOwn.never (PW.pt (pw_and (pt_cmpR op_lt (pv 2) (pe_callB call_len_str (by rfl) T.z_len PySem.boot_len (pa_cons (pv 1) pa_nil)) (nomark _)) (pw_and1 (pt_cmpR op_in_sign (pe_ix ix_str (pv 1) (pv 2) (fun _ _ => rfl)) (pv 0) (by rfl))))) (pss_one (ps_aug (i := 2) sc_behind_all.nd rfl (.inl rfl) pe_int ip_add)))
        (pss_one (ps_ret (pv 2)))), ?_⟩
    refine ⟨fun m σ H' => ∃ k : Nat, σ = [some (.str (S w)), some (.str (S t)), some (.int (k : Int))] ∧ H = H' ∧ m = t.length - k ∧ k ≤ t.length ∧ ba w (t.drop k) = ba w (t.drop p), ⟨t.length - p, p, rfl, rfl, rfl, tp.le, rfl⟩, ?_⟩
    rintro m σ H' ⟨k, rfl, rfl, rfl, hk, e⟩
    have fin : (¬ ∃ c r, t.drop k = c :: r ∧ w.contains c = true) → Q (.int (k : Nat)) H := by
      intro hno
      have e1 : ba w (t.drop k) = t.drop k := by
        cases hd : t.drop k with
        | nil => rfl
        | cons c r =>
          unfold ba
          rw [List.dropWhile_cons, if_neg (fun z => hno ⟨c, r, hd, z⟩)]
      rw [e1] at e
      rw [← e, drop_pos hk] at q
      exact q
    refine ⟨_, rfl, _, rfl, _, rfl, tp.line, _, _, rfl, rfl, _, rfl, ite2 (fun h1 => ?_) (fun h1 => ?_)⟩
    · have h2 : k < t.length := by
        have := of_decide_eq_true h1
        rw [S_len] at this
        omega
      have hd : t.drop k = t[k] :: t.drop (k + 1) := List.drop_eq_getElem_cons h2
      refine ⟨_, rfl, _, rfl, _, _, t[k], rfl, rfl, tp.line, atI_nat (by rw [S_tl]; exact List.getElem?_eq_getElem h2), _, rfl, t[k], _, rfl, rfl, _, rfl, ?_⟩
      rw [mem_S]
      refine ite2 (fun h3 => ?_) (fun h3 => ?_)
      · refine ⟨fun σ' H' => ∃ k', σ' = [some (.str (S w)), some (.str (S t)), some (.int (k' : Nat))] ∧ H = H' ∧ k' = k + 1 ∧ ba w (t.drop k') = ba w (t.drop p), ?_, ?_⟩
        · rintro σ' H' ⟨k', rfl, rfl, rfl, e'⟩
          exact ⟨t.length - (k + 1), by omega, k + 1, rfl, rfl, rfl, by omega, e'⟩
        · refine ⟨_, rfl, _, _, rfl, rfl, k + 1, ?_, rfl, rfl, ?_⟩
          · rw [Int.natCast_add]
            rfl
          · rw [← e, hd]
            conv => rhs; unfold ba
            rw [List.dropWhile_cons, if_pos h3]
            rfl
      · refine ⟨_, rfl, fin ?_⟩
        rintro ⟨c, r, h4, h5⟩
        rw [hd] at h4
        injection h4 with h6 h7
        subst h6
        exact h3 h5
    · refine iteF ⟨_, rfl, fin ?_⟩
      rintro ⟨c, r, h4, h5⟩
      have h2 : t.length ≤ k := by
        have : ¬ ((k : Int) < ((S t).length : Int)) := fun z => h1 (decide_eq_true z)
        rw [S_len] at this
        omega
      rw [List.drop_of_length_le h2] at h4
      cases h4
theorem take_tw (g : Nat → Bool) : ∀ r : List Nat, r.take (r.length - (r.dropWhile g).length) = r.takeWhile g
  | [] => rfl
  | c :: r => by
    rw [List.dropWhile_cons, List.takeWhile_cons]
    cases hg : g c with
    | true =>
      rw [if_pos rfl, if_pos rfl, ← take_tw g r]
      have := dw_len g r
      rw [show (c :: r).length - (r.dropWhile g).length = (r.length - (r.dropWhile g).length) + 1 by rw [List.length_cons]; omega, List.take_succ_cons]
    | false =>
      rw [if_neg Bool.false_ne_true, if_neg Bool.false_ne_true, Nat.sub_self, List.take_zero]
def sp_behind_gap (K : PySem.W.Frag) : Sp := fun vs H Q _ => ∃ (t : List Nat) (p : Nat), vs = [.str (S t), .int (p : Int)] ∧ TP t p ∧ Q (.int (pos t (gapR (t.drop p)) : Nat)) H
theorem ok_behind_gap {P : Program} {w : World} {K : PySem.W.Frag} {mg : Str → Option Value} {base : Heap} (T : Txt K mg) : FnOk P w K mg base CX0 2 T.a_behind_gap T.d_behind_gap ["text", "place"] (sp_behind_gap K) := by
  refine T.f_behind_gap.ok sc_behind_gap (fun vs H Q E h => ?_) (fun cdv A outer s H vs Q E hr h => ?_)
  · obtain ⟨t, p, rfl, _⟩ := h
    rfl
  · obtain ⟨t, p, rfl, tp, q⟩ := h
    refine ⟨_, (pss_cons (ps_set (i := 2) sc_behind_gap.nd rfl (.inl rfl) (pe_call (ok_behind_all T) (hr.mono (by decide)) (by rfl) T.g_behind_all T.f_behind_all.kp T.b_behind_all .nil pass0 (pa_cons (pe_glob (v := .str " \t\n") rfl T.g_INLINE_WHITE ⟨_, rfl⟩) (pa_cons (pv 0) (pa_cons (pv 1) pa_nil)))))
        (pss_cons (ps_if (pt_cmpR op_gt (pe_bm PySem.F.plainAttrs_str PySem.F.slot_str_count PySem.F.type_str_count mt_count4 (pv 0) (pa_cons pe_str (pa_cons (pv 1) (pa_cons (pv 2) pa_nil)))) pe_int (nomark _)) (pss_one (ps_ret (pv 1))) pss_nil)
        (pss_one (ps_ret (pv 2))))), ?_⟩
    refine ⟨_, rfl, _, rfl, GapL, t, p, by rw [lit_G]; rfl, tp, ?_⟩
    have hs : ba GapL (t.drop p) <:+ t := (suf_dw _ _).trans (suf_drop t p)
    have hpe : p ≤ pos t (ba GapL (t.drop p)) := by
      have := dw_len (fun c => GapL.contains c) (t.drop p)
      rw [List.length_drop] at this
      unfold pos ba
      have := tp.le
      omega
    refine ⟨_, rfl, rfl, _, rfl, _, rfl, _, _, _, _, rfl, rfl, _, _, rfl, rfl, _, rfl, ?_⟩
    have ec : Txt.countIn (S t) ("\n" : Str) (p : Int) ((pos t (ba GapL (t.drop p)) : Nat) : Int) = (((t.drop p).takeWhile isG).count 10 : Nat) := by
      rw [show ("\n" : Str) = S [10] by decide +kernel, count_S t 10 p _ (pos_le _ _) hpe]
      congr 1
      have : pos t (ba GapL (t.drop p)) - p = (t.drop p).length - ((t.drop p).dropWhile isG).length := by
        have := dw_len isG (t.drop p)
        rw [List.length_drop] at this ⊢
        unfold pos ba
        have h1 : (List.dropWhile (fun c => GapL.contains c) (List.drop p t)).length = (List.dropWhile isG (List.drop p t)).length := rfl
        rw [h1]
        omega
      rw [this, take_tw]
    rw [ec]
    unfold gapR at q
    refine ite2 (fun h1 => ?_) (fun h1 => ?_)
    · have h2 : ((t.drop p).takeWhile isG).count 10 > 1 := by
        have := of_decide_eq_true h1
        omega
      rw [if_pos h2, drop_pos tp.le] at q
      exact ⟨_, rfl, q⟩
    · have h2 : ¬ ((t.drop p).takeWhile isG).count 10 > 1 := by
        have : ¬ ((1 : Int) < (((t.drop p).takeWhile isG).count 10 : Nat)) := fun z => h1 (decide_eq_true z)
        omega
      rw [if_neg h2] at q
      exact ⟨_, rfl, q⟩
def sp_name_at (K : PySem.W.Frag) : Sp := fun vs H Q _ => ∃ (t : List Nat) (p : Nat), vs = [.str (S t), .int (p : Int)] ∧ TP t p ∧ Q (ov t (nameR (t.drop p))) H
theorem ok_name_at {P : Program} {w : World} {K : PySem.W.Frag} {mg : Str → Option Value} {base : Heap} (T : Txt K mg) : FnOk P w K mg base CX0 2 T.a_name_at T.d_name_at ["text", "place"] (sp_name_at K) := by
  refine T.f_name_at.ok sc_name_at (fun vs H Q E h => ?_) (fun cdv A outer s H vs Q E hr h => ?_)
  · obtain ⟨t, p, rfl, _⟩ := h
    rfl
  · obtain ⟨t, p, rfl, tp, q⟩ := h
    refine ⟨_, (pss_cons (ps_if (pt_not (pt_val (pe_call (ok_is_letter T) (hr.mono (by decide)) (by rfl) T.g_is_letter T.f_is_letter.kp T.b_is_letter .nil pass0 (pa_cons (pv 0) (pa_cons (pv 1) pa_nil))))) (pss_one (ps_ret pe_non)) pss_nil)
        (pss_one (ps_ret (pe_call (ok_behind_all T) (hr.mono (by decide)) (by rfl) T.g_behind_all T.f_behind_all.kp T.b_behind_all .nil pass0 (pa_cons (pe_glob (v := .str "abcdefghijklmnopqrstuvwxyzABCDEFGHIJKLMNOPQRSTUVWXYZ0123456789-") rfl T.g_NAME_SIGNS ⟨_, rfl⟩) (pa_cons (pv 0) (pa_cons (pv 1) pa_nil))))))), ?_⟩
    unfold nameR at q
    refine ⟨_, rfl, _, rfl, t, p, rfl, tp, _, rfl, ?_⟩
    cases hl : letterR (t.drop p) with
    | false =>
      rw [hl] at q
      exact iteT q
    | true =>
      rw [hl] at q
      exact iteF ⟨_, rfl, _, rfl, NameL, t, p, by rw [lit_N]; rfl, tp, q⟩
theorem one_len {c : Nat} {r : List Nat} (h : ([c] : List Nat).isPrefixOf r = true) : 1 ≤ r.length := pre_len _ _ h
theorem drop_more {t : List Nat} {p k : Nat} (h : p + k ≤ t.length) : t.drop (p + k) = (t.drop p).drop k := by rw [List.drop_drop]
theorem lit_q1 : ("'" : Str) = S [39] := by decide +kernel
theorem lit_q2 : ("\"" : Str) = S [34] := by decide +kernel
def sp_value_at (K : PySem.W.Frag) : Sp := fun vs H Q _ => ∃ (t : List Nat) (p : Nat), vs = [.str (S t), .int (p : Int)] ∧ TP t p ∧ Q (ov t (valueR (t.drop p))) H
theorem ok_value_at {P : Program} {w : World} {K : PySem.W.Frag} {mg : Str → Option Value} {base : Heap} (T : Txt K mg) : FnOk P w K mg base CX0 2 T.a_value_at T.d_value_at ["text", "place"] (sp_value_at K) := by
  refine T.f_value_at.ok sc_value_at (fun vs H Q E h => ?_) (fun cdv A outer s H vs Q E hr h => ?_)
  · obtain ⟨t, p, rfl, _⟩ := h
    rfl
  · obtain ⟨t, p, rfl, tp, q⟩ := h
    refine ⟨_, (pss_cons (ps_if (pt_val (pe_bm PySem.F.plainAttrs_str PySem.F.slot_str_startswith PySem.F.type_str_startswith mt_startswith3 (pv 0) (pa_cons pe_str (pa_cons (pv 1) pa_nil)))) (pss_one (ps_ret (pe_call (ok_behind_first T) (hr.mono (by decide)) (by rfl) T.g_behind_first T.f_behind_first.kp T.b_behind_first .nil pass0 (pa_cons pe_str (pa_cons (pv 0) (pa_cons (pe_op op_add (pv 1) pe_int) pa_nil)))))) pss_nil)
        (pss_cons (ps_if (pt_val (pe_bm PySem.F.plainAttrs_str PySem.F.slot_str_startswith PySem.F.type_str_startswith mt_startswith3 (pv 0) (pa_cons pe_str (pa_cons (pv 1) pa_nil)))) (pss_one (ps_ret (pe_call (ok_behind_first T) (hr.mono (by decide)) (by rfl) T.g_behind_first T.f_behind_first.kp T.b_behind_first .nil pass0 (pa_cons pe_str (pa_cons (pv 0) (pa_cons (pe_op op_add (pv 1) pe_int) pa_nil)))))) pss_nil)
        (pss_cons (ps_set (i := 2) sc_value_at.nd rfl (.inl rfl) (pv 1))
        (pss_cons (ps_while PassesOwn.never (PW.pt (pw_and (pt_cmpR op_lt (pv 2) (pe_callB call_len_str (by rfl) T.z_len PySem.boot_len (pa_cons (pv 0) pa_nil)) (nomark _)) (pw_and1 (pt_cmpR op_notIn_sign (pe_ix ix_str (pv 0) (pv 2) (fun _ _ => rfl)) (pe_glob (v := .str " \t\n\"'=<>`") rfl T.g_NO_BARE_SIGNS ⟨_, rfl⟩) (by rfl))))) (pss_one (ps_aug (i := 2) sc_value_at.nd rfl (.inl rfl) pe_int ip_add)))
        (pss_cons (ps_if (pt_cmpR op_eq (pv 2) (pv 1) (nomark _)) (pss_one (ps_ret pe_non)) pss_nil)
        (pss_one (ps_ret (pv 2)))))))), ?_⟩
    unfold valueR at q
    refine ⟨_, rfl, rfl, _, rfl, _, _, _, rfl, rfl, _, rfl, ?_⟩
    rw [lit_q1, starts3 t [39] (by simp) p]
    refine ite2 (fun h1 => ?_) (fun h1 => ?_)
    · rw [if_pos h1] at q
      have h2 := pre1 h1
      refine ⟨_, rfl, _, rfl, _, _, rfl, rfl, [39], t, p + 1, by rw [Int.natCast_add]; rfl, by simp, by simp, ⟨h2, tp.sz⟩, ?_⟩
      rw [drop_more h2]
      exact q
    rw [if_neg h1] at q
    refine ⟨_, rfl, rfl, _, rfl, _, _, _, rfl, rfl, _, rfl, ?_⟩
    rw [lit_q2, starts3 t [34] (by simp) p]
    refine ite2 (fun h3 => ?_) (fun h3 => ?_)
    · rw [if_pos h3] at q
      have h2 := pre1 h3
      refine ⟨_, rfl, _, rfl, _, _, rfl, rfl, [34], t, p + 1, by rw [Int.natCast_add]; rfl, by simp, by simp, ⟨h2, tp.sz⟩, ?_⟩
      rw [drop_more h2]
      exact q
    rw [if_neg h3] at q
    refine ⟨_, rfl, ?_⟩
    refine ⟨fun m σ H' => ∃ k : Nat, σ = [some (.str (S t)), some (.int (p : Int)), some (.int (k : Int))] ∧ H = H' ∧ m = t.length - k ∧ k ≤ t.length ∧ bareR (t.drop k) = bareR (t.drop p), ⟨t.length - p, p, rfl, rfl, rfl, tp.le, rfl⟩, ?_⟩
    rintro m σ H' ⟨k, rfl, rfl, rfl, hk, e⟩
    have fin : (¬ ∃ c r, t.drop k = c :: r ∧ BareL.contains c = false) → ∀ D : Ends, D.rt = Q →
        tSeq (tIfS (tTest (tOp rEq (tVar 2) (tVar 1))) (tRet (tC .non)) tNext) (tRet (tVar 2)) D [some (.str (S t)), some (.int (p : Int)), some (.int (k : Int))] H := by
      intro hno D eD
      have e1 : bareR (t.drop k) = t.drop k := by
        cases hd : t.drop k with
        | nil => rfl
        | cons c r =>
          unfold bareR
          rw [List.dropWhile_cons, if_neg (fun z => hno ⟨c, r, hd, by simpa using z⟩)]
      rw [e1] at e
      rw [← e] at q
      refine ⟨_, rfl, _, rfl, rfl, _, rfl, ite2 (fun h5 => ?_) (fun h5 => ?_)⟩
      · have h6 : (k : Int) = p := V.int.inj (of_decide_eq_true h5)
        have h7 : k = p := by omega
        rw [h7, if_pos rfl] at q
        show D.rt .non H
        rw [eD]
        exact q
      · have h7 : ¬ (t.drop k).length = (t.drop p).length := fun z => h5 (decide_eq_true (by
          rw [List.length_drop, List.length_drop] at z
          have := tp.le
          have : k = p := by omega
          rw [this]))
        rw [if_neg h7] at q
        refine ⟨_, rfl, ?_⟩
        have q' : Q (.int (pos t (t.drop k) : Nat)) H := q
        rw [drop_pos hk] at q'
        show D.rt _ H
        rw [eD]
        exact q'
    refine ⟨_, rfl, _, rfl, _, rfl, tp.line, _, _, rfl, rfl, _, rfl, ite2 (fun h4 => ?_) (fun h4 => ?_)⟩
    · have h2 : k < t.length := by
        have := of_decide_eq_true h4
        rw [S_len] at this
        omega
      have hd : t.drop k = t[k] :: t.drop (k + 1) := List.drop_eq_getElem_cons h2
      refine ⟨_, rfl, _, rfl, _, _, t[k], rfl, rfl, tp.line, atI_nat (by rw [S_tl]; exact List.getElem?_eq_getElem h2), t[k], _, rfl, rfl, _, rfl, ?_⟩
      rw [lit_B, mem_S]
      refine ite2 (fun h5 => ?_) (fun h5 => ?_)
      · refine ⟨fun σ' H' => ∃ k', σ' = [some (.str (S t)), some (.int (p : Int)), some (.int (k' : Nat))] ∧ H = H' ∧ k' = k + 1 ∧ bareR (t.drop k') = bareR (t.drop p), ?_, ?_⟩
        · rintro σ' H' ⟨k', rfl, rfl, rfl, e'⟩
          exact ⟨t.length - (k + 1), by omega, k + 1, rfl, rfl, rfl, by omega, e'⟩
        · refine ⟨_, rfl, _, _, rfl, rfl, k + 1, ?_, rfl, rfl, ?_⟩
          · rw [Int.natCast_add]
            rfl
          · rw [← e, hd]
            conv => rhs; unfold bareR
            rw [List.dropWhile_cons, if_pos h5]
            rfl
      · refine fin ?_ _ rfl
        rintro ⟨c, r, h6, h7⟩
        rw [hd] at h6
        injection h6 with h8 h9
        subst h8
        rw [h7] at h5
        exact h5 rfl
    · refine iteF (fin ?_ _ rfl)
      rintro ⟨c, r, h6, h7⟩
      have h2 : t.length ≤ k := by
        have : ¬ ((k : Int) < ((S t).length : Int)) := fun z => h4 (decide_eq_true z)
        rw [S_len] at this
        omega
      rw [List.drop_of_length_le h2] at h6
      cases h6
theorem inV2 (l a b : List Nat) : inV (.str (S l)) [.str (S a), .str (S b)] = (decide (l = a) || decide (l = b)) := by
  have e : ∀ x y : List Nat, eqV (.str (S x)) (.str (S y)) = decide (y = x) := fun x y => by
    by_cases h : y = x
    · subst h
      simp [eqV]
    · have h2 : ¬ S x = S y := fun z => h (S_inj z).symm
      simp [eqV, h, h2]
  show (eqV (.str (S a)) (.str (S l)) || (eqV (.str (S b)) (.str (S l)) || false)) = _
  rw [e, e, Bool.or_false]
theorem lit_us : ("_" : Str) = S [95] := by decide +kernel
theorem lit_co : (":" : Str) = S [58] := by decide +kernel
theorem lit_eq : ("=" : Str) = S [61] := by decide +kernel
theorem lit_sl : ("/" : Str) = S [47] := by decide +kernel
theorem lit_gt : (">" : Str) = S [62] := by decide +kernel
theorem lit_lt : ("<" : Str) = S [60] := by decide +kernel
theorem pos_lt {t r : List Nat} (h : r <:+ t) (h1 : 1 ≤ r.length) : pos t r + 1 ≤ t.length ∧ pos t (r.drop 1) = pos t r + 1 := by
  have := h.length_le
  unfold pos
  rw [List.length_drop]
  omega
theorem pos_eq {t a b : List Nat} (ha : a <:+ t) (hb : b <:+ t) : pos t a = pos t b ↔ a.length = b.length := by
  have := ha.length_le
  have := hb.length_le
  unfold pos
  omega
def sp_attribute_at (K : PySem.W.Frag) : Sp := fun vs H Q _ => ∃ (t : List Nat) (p : Nat), vs = [.str (S t), .int (p : Int)] ∧ TP t p ∧ ∀ H', Same H H' → Q (ov t (attrR (t.drop p))) H'
theorem ok_attribute_at {P : Program} {w : World} {K : PySem.W.Frag} {mg : Str → Option Value} {base : Heap} (T : Txt K mg) : FnOk P w K mg base CX0 3 T.a_attribute_at T.d_attribute_at ["text", "place"] (sp_attribute_at K) := by
  refine T.f_attribute_at.ok sc_attribute_at (fun vs H Q E h => ?_) (fun cdv A outer s H vs Q E hr h => ?_)
  · obtain ⟨t, p, rfl, _⟩ := h
    rfl
  · obtain ⟨t, p, rfl, tp, q⟩ := h
    refine ⟨_, (pss_cons (ps_set (i := 2) sc_attribute_at.nd rfl (.inl rfl) (pe_call (ok_behind_gap T) (hr.mono (by decide)) (by rfl) T.g_behind_gap T.f_behind_gap.kp T.b_behind_gap .nil pass0 (pa_cons (pv 0) (pa_cons (pv 1) pa_nil))))
        (pss_cons (ps_if (pt_cmpR op_eq (pv 2) (pv 1) (nomark _)) (pss_one (ps_ret pe_non)) pss_nil)
        (pss_cons (ps_if (PW.pt (pw_and (pt_not (pt_val (pe_call (ok_is_letter T) (hr.mono (by decide)) (by rfl) T.g_is_letter T.f_is_letter.kp T.b_is_letter .nil pass0 (pa_cons (pv 0) (pa_cons (pv 2) pa_nil))))) (pw_and1 (pt_cmpR op_notIn_seq (pe_slice sl_str (pv 0) (po_some (pv 2)) (po_some (pe_op op_add (pv 2) pe_int))) (pe_tup (pa_cons pe_str (pa_cons pe_str pa_nil))) (by rfl))))) (pss_one (ps_ret pe_non)) pss_nil)
        (pss_cons (ps_set (i := 3) sc_attribute_at.nd rfl (.inl rfl) (pe_call (ok_behind_all T) (hr.mono (by decide)) (by rfl) T.g_behind_all T.f_behind_all.kp T.b_behind_all .nil pass0 (pa_cons (pe_glob (v := .str "abcdefghijklmnopqrstuvwxyzABCDEFGHIJKLMNOPQRSTUVWXYZ0123456789_.:-") rfl T.g_KEY_SIGNS ⟨_, rfl⟩) (pa_cons (pv 0) (pa_cons (pv 2) pa_nil)))))
        (pss_cons (ps_set (i := 4) sc_attribute_at.nd rfl (.inl rfl) (pe_call (ok_behind_gap T) (hr.mono (by decide)) (by rfl) T.g_behind_gap T.f_behind_gap.kp T.b_behind_gap .nil pass0 (pa_cons (pv 0) (pa_cons (pv 3) pa_nil))))
        (pss_cons (ps_if (pt_not (pt_val (pe_bm PySem.F.plainAttrs_str PySem.F.slot_str_startswith PySem.F.type_str_startswith mt_startswith3 (pv 0) (pa_cons pe_str (pa_cons (pv 4) pa_nil))))) (pss_one (ps_ret (pv 3))) pss_nil)
        (pss_one (ps_ret (pe_call (ok_value_at T) (hr.mono (by decide)) (by rfl) T.g_value_at T.f_value_at.kp T.b_value_at .nil pass0 (pa_cons (pv 0) (pa_cons (pe_call (ok_behind_gap T) (hr.mono (by decide)) (by rfl) T.g_behind_gap T.f_behind_gap.kp T.b_behind_gap .nil pass0 (pa_cons (pv 0) (pa_cons (pe_op op_add (pv 4) pe_int) pa_nil))) pa_nil))))))))))), ?_⟩
    have sg : gapR (t.drop p) <:+ t := (suf_gap _).trans (suf_drop t p)
    have tg : TP t (pos t (gapR (t.drop p))) := ⟨pos_le _ _, tp.sz⟩
    have dg : t.drop (pos t (gapR (t.drop p))) = gapR (t.drop p) := pos_drop sg
    unfold attrR at q
    refine ⟨_, rfl, _, rfl, t, p, rfl, tp, ?_⟩
    refine ⟨_, rfl, _, rfl, rfl, _, rfl, ite2 (fun h1 => ?_) (fun h1 => ?_)⟩
    · have h2 : ((pos t (gapR (t.drop p)) : Nat) : Int) = p := V.int.inj (of_decide_eq_true h1)
      have h3 : pos t (gapR (t.drop p)) = pos t (t.drop p) := by
        rw [drop_pos tp.le]
        omega
      rw [if_pos ((pos_eq sg (suf_drop t p)).mp h3)] at q
      exact q H (Same.refl _)
    have h3 : ¬ (gapR (t.drop p)).length = (t.drop p).length := fun z => h1 (decide_eq_true (by
      rw [(pos_eq sg (suf_drop t p)).mpr z, drop_pos tp.le]))
    rw [if_neg h3] at q
    -- what follows
    have fin : ∀ H', Same H H' → (¬ (letterR (gapR (t.drop p)) = false ∧ (gapR (t.drop p)).take 1 ≠ [95] ∧ (gapR (t.drop p)).take 1 ≠ [58])) → ∀ D : Ends, D.rt = Q →
        (tSeq (tAsg (tCall (sp_behind_all K) [] E0 (tCons (tC (.str "abcdefghijklmnopqrstuvwxyzABCDEFGHIJKLMNOPQRSTUVWXYZ0123456789_.:-")) (tCons (tVar 0) (tCons (tVar 2) tNil)))) (gName 3))
          (tSeq (tAsg (tCall (sp_behind_gap K) [] E0 (tCons (tVar 0) (tCons (tVar 3) tNil))) (gName 4))
            (tSeq (tIfS (tNot (tB (tBM K "str" (fun x xs H Q => ∃ a b i, x = .str a ∧ xs = [.str b, .int i] ∧ Q (.bl (Txt.startswith3 a b i)) H) (tVar 0) (tCons (tC (.str "=")) (tCons (tVar 4) tNil))))) (tRet (tVar 3)) tNext)
              (tRet (tCall (sp_value_at K) [] E0 (tCons (tVar 0) (tCons (tCall (sp_behind_gap K) [] E0 (tCons (tVar 0) (tCons (tOp (rI0 fun i j => .int (i + j)) (tVar 4) (tC (.int 1))) tNil))) tNil))))))) D
          [some (.str (S t)), some (.int (p : Int)), some (.int (pos t (gapR (t.drop p)) : Nat)), none, none] H' := by
      intro H' sm hno D eD
      rw [if_neg hno] at q
      have sb : ba KeyL (gapR (t.drop p)) <:+ t := (suf_dw _ _).trans sg
      have sG : gapR (ba KeyL (gapR (t.drop p))) <:+ t := (suf_gap _).trans sb
      refine ⟨_, rfl, _, rfl, KeyL, t, _, by rw [lit_K]; rfl, tg, ?_⟩
      rw [dg]
      refine ⟨_, rfl, _, rfl, t, _, rfl, ⟨pos_le _ _, tp.sz⟩, ?_⟩
      rw [pos_drop sb]
      refine ⟨_, rfl, rfl, _, rfl, _, _, _, rfl, rfl, _, rfl, ?_⟩
      rw [lit_eq, starts3 t [61] (by simp), pos_drop sG]
      cases hp : ([61] : List Nat).isPrefixOf (gapR (ba KeyL (gapR (t.drop p)))) with
      | false =>
        rw [hp, if_pos rfl] at q
        refine iteT ⟨_, rfl, ?_⟩
        rw [eD]
        exact q H' sm
      | true =>
        rw [hp, if_neg (by simp)] at q
        refine iteF ?_
        obtain ⟨h4, h5⟩ := pos_lt sG (one_len hp)
        refine ⟨_, rfl, _, rfl, _, rfl, _, _, rfl, rfl, t, pos t ((gapR (ba KeyL (gapR (t.drop p)))).drop 1), by rw [h5, Int.natCast_add]; rfl, ⟨pos_le _ _, tp.sz⟩, ?_⟩
        have s1 : (gapR (ba KeyL (gapR (t.drop p)))).drop 1 <:+ t := (List.drop_suffix _ _).trans sG
        rw [pos_drop s1]
        refine ⟨t, _, rfl, ⟨pos_le _ _, tp.sz⟩, ?_⟩
        rw [pos_drop ((suf_gap _).trans s1), eD]
        exact q H' sm
    refine ⟨_, rfl, _, rfl, t, _, rfl, tg, _, rfl, ?_⟩
    rw [dg]
    cases hl : letterR (gapR (t.drop p)) with
    | true => exact iteF (fin H (Same.refl _) (fun z => by rw [hl] at z; cases z.1) _ rfl)
    | false =>
      refine iteT ?_
      refine ⟨_, rfl, _, rfl, _, rfl, _, rfl, _, _, rfl, rfl, _, rfl, _, rfl, tp.line, (by show 2 ≤ sizeLine; decide), fun p2 np2 => ?_⟩
      have ec : cutS (S t) (some ((pos t (gapR (t.drop p)) : Nat) : Int)) (some (((pos t (gapR (t.drop p)) : Nat) : Int) + 1)) = S ((gapR (t.drop p)).take 1) := by
        rw [← Int.natCast_one, ← Int.natCast_add, S_cut2 _ _ _ (Nat.le_add_right _ _), dg, Nat.add_sub_cancel_left]
      rw [ec]
      refine ⟨p2, _, rfl, .inr (SqT.of upd_same), rfl, rfl, _, rfl, ?_⟩
      rw [lit_us, lit_co, inV2]
      have sm := same_new (o := .tup [.str (S [95]), .str (S [58])]) np2
      by_cases h5 : (gapR (t.drop p)).take 1 = [95]
      · rw [decide_eq_true h5]
        exact iteF (fin _ sm (fun z => z.2.1 h5) _ rfl)
      · by_cases h6 : (gapR (t.drop p)).take 1 = [58]
        · rw [decide_eq_false h5, decide_eq_true h6]
          exact iteF (fin _ sm (fun z => z.2.2 h6) _ rfl)
        · rw [decide_eq_false h5, decide_eq_false h6]
          rw [if_pos ⟨hl, h5, h6⟩] at q
          exact iteT (q _ sm)
theorem ov_none (t : List Nat) (o : Option (List Nat)) : decide (ov t o = .non) = o.isNone := by
  cases o with
  | none => rfl
  | some r => exact decide_eq_false fun z => by cases z
def sp_closing_tag_at (K : PySem.W.Frag) : Sp := fun vs H Q _ => ∃ (t : List Nat) (p : Nat), vs = [.str (S t), .int (p : Int)] ∧ TP t (p + 2) ∧ Q (ov t (closeR (t.drop p))) H
theorem ok_closing_tag_at {P : Program} {w : World} {K : PySem.W.Frag} {mg : Str → Option Value} {base : Heap} (T : Txt K mg) : FnOk P w K mg base CX0 3 T.a_closing_tag_at T.d_closing_tag_at ["text", "place"] (sp_closing_tag_at K) := by
  refine T.f_closing_tag_at.ok sc_closing_tag_at (fun vs H Q E h => ?_) (fun cdv A outer s H vs Q E hr h => ?_)
  · obtain ⟨t, p, rfl, _⟩ := h
    rfl
  · obtain ⟨t, p, rfl, tp, q⟩ := h
    refine ⟨_, (pss_cons (ps_set (i := 2) sc_closing_tag_at.nd rfl (.inl rfl) (pe_call (ok_name_at T) (hr.mono (by decide)) (by rfl) T.g_name_at T.f_name_at.kp T.b_name_at .nil pass0 (pa_cons (pv 0) (pa_cons (pe_op op_add (pv 1) pe_int) pa_nil))))
        (pss_cons (ps_if (pt_cmpR op_isN (pv 2) pe_non (nomark _)) (pss_one (ps_ret pe_non)) pss_nil)
        (pss_one (ps_ret (pe_call (ok_behind_sign T) (hr.mono (by decide)) (by rfl) T.g_behind_sign T.f_behind_sign.kp T.b_behind_sign .nil pass0 (pa_cons pe_str (pa_cons (pv 0) (pa_cons (pe_call (ok_behind_gap T) (hr.mono (by decide)) (by rfl) T.g_behind_gap T.f_behind_gap.kp T.b_behind_gap .nil pass0 (pa_cons (pv 0) (pa_cons (pv 2) pa_nil))) pa_nil)))))))), ?_⟩
    unfold closeR at q
    refine ⟨_, rfl, _, rfl, _, _, rfl, rfl, t, p + 2, by rw [Int.natCast_add]; rfl, tp, ?_⟩
    rw [drop_more tp.le]
    refine ⟨_, rfl, rfl, _, rfl, ?_⟩
    rw [ov_none]
    cases hn : nameR ((t.drop p).drop 2) with
    | none =>
      rw [hn] at q
      exact iteT q
    | some r =>
      rw [hn] at q
      have sr : r <:+ t := by
        unfold nameR at hn
        split at hn
        · have e := Option.some.inj hn
          rw [← e]
          exact (suf_dw _ _).trans ((List.drop_suffix _ _).trans (suf_drop t p))
        · cases hn
      refine iteF ?_
      refine ⟨_, rfl, _, rfl, _, rfl, t, pos t r, rfl, ⟨pos_le _ _, tp.sz⟩, ?_⟩
      rw [pos_drop sr]
      refine ⟨62, t, _, by rw [lit_gt]; rfl, ⟨pos_le _ _, tp.sz⟩, ?_⟩
      rw [pos_drop ((suf_gap _).trans sr)]
      exact q
def sp_open_tag_at (K : PySem.W.Frag) : Sp := fun vs H Q _ => ∃ (t : List Nat) (p : Nat), vs = [.str (S t), .int (p : Int)] ∧ TP t (p + 1) ∧ ∀ H', Same H H' → Q (ov t (openR (t.drop p))) H'
theorem ok_open_tag_at {P : Program} {w : World} {K : PySem.W.Frag} {mg : Str → Option Value} {base : Heap} (T : Txt K mg) : FnOk P w K mg base CX0 4 T.a_open_tag_at T.d_open_tag_at ["text", "place"] (sp_open_tag_at K) := by
  refine T.f_open_tag_at.ok sc_open_tag_at (fun vs H Q E h => ?_) (fun cdv A outer s H vs Q E hr h => ?_)
  · obtain ⟨t, p, rfl, _⟩ := h
    rfl
  · obtain ⟨t, p, rfl, tp, q⟩ := h
    refine ⟨_, (pss_cons (ps_set (i := 2) sc_open_tag_at.nd rfl (.inl rfl) (pe_call (ok_name_at T) (hr.mono (by decide)) (by rfl) T.g_name_at T.f_name_at.kp T.b_name_at .nil pass0 (pa_cons (pv 0) (pa_cons (pe_op op_add (pv 1) pe_int) pa_nil))))
        (pss_cons (ps_if (pt_cmpR op_isN (pv 2) pe_non (nomark _)) (pss_one (ps_ret pe_non)) pss_nil)
        (pss_cons (ps_set (i := 3) sc_open_tag_at.nd rfl (.inl rfl) (pe_call (ok_attribute_at T) (hr.mono (by decide)) (by rfl) T.g_attribute_at T.f_attribute_at.kp T.b_attribute_at .nil pass0 (pa_cons (pv 0) (pa_cons (pv 2) pa_nil))))
        (pss_cons (ps_while PassesOwn.never (pt_cmpR op_notN (pv 3) pe_non (nomark _)) (pss_cons (ps_set (i := 2) sc_open_tag_at.nd rfl (.inl rfl) (pv 3))
        (pss_one (ps_set (i := 3) sc_open_tag_at.nd rfl (.inl rfl) (pe_call (ok_attribute_at T) (hr.mono (by decide)) (by rfl) T.g_attribute_at T.f_attribute_at.kp T.b_attribute_at .nil pass0 (pa_cons (pv 0) (pa_cons (pv 2) pa_nil)))))))
        (pss_cons (ps_set (i := 2) sc_open_tag_at.nd rfl (.inl rfl) (pe_call (ok_behind_gap T) (hr.mono (by decide)) (by rfl) T.g_behind_gap T.f_behind_gap.kp T.b_behind_gap .nil pass0 (pa_cons (pv 0) (pa_cons (pv 2) pa_nil))))
        (pss_cons (ps_if (pt_val (pe_bm PySem.F.plainAttrs_str PySem.F.slot_str_startswith PySem.F.type_str_startswith mt_startswith3 (pv 0) (pa_cons pe_str (pa_cons (pv 2) pa_nil)))) (pss_one (ps_aug (i := 2) sc_open_tag_at.nd rfl (.inl rfl) pe_int ip_add)) pss_nil)
        (pss_one (ps_ret (pe_call (ok_behind_sign T) (hr.mono (by decide)) (by rfl) T.g_behind_sign T.f_behind_sign.kp T.b_behind_sign .nil pass0 (pa_cons pe_str (pa_cons (pv 0) (pa_cons (pv 2) pa_nil)))))))))))), ?_⟩
    unfold openR at q
    refine ⟨_, rfl, _, rfl, _, _, rfl, rfl, t, p + 1, by rw [Int.natCast_add]; rfl, tp, ?_⟩
    rw [drop_more tp.le]
    refine ⟨_, rfl, rfl, _, rfl, ?_⟩
    rw [ov_none]
    cases hn : nameR ((t.drop p).drop 1) with
    | none =>
      rw [hn] at q
      exact iteT (q H (Same.refl _))
    | some r =>
      rw [hn] at q
      have sr : r <:+ t := by
        unfold nameR at hn
        split at hn
        · have e := Option.some.inj hn
          rw [← e]
          exact (suf_dw _ _).trans ((List.drop_suffix _ _).trans (suf_drop t p))
        · cases hn
      refine iteF ?_
      -- behind = attribute_at(text, end)
      refine ⟨_, rfl, _, rfl, t, pos t r, rfl, ⟨pos_le _ _, tp.sz⟩, fun H1 sm1 => ?_⟩
      rw [pos_drop sr]
      refine ⟨fun m σ H' => ∃ e : List Nat, σ = [some (.str (S t)), some (.int (p : Int)), some (.int (pos t e : Nat)), some (ov t (attrR e))] ∧ Same H H' ∧ m = e.length ∧ e <:+ t ∧ attrsR e.length e = attrsR r.length r, ⟨r.length, r, rfl, sm1, rfl, sr, rfl⟩, ?_⟩
      rintro m σ H' ⟨e, rfl, sm, rfl, se, ee⟩
      refine ⟨_, rfl, rfl, _, rfl, ?_⟩
      rw [ov_none]
      cases ha : attrR e with
      | some e' =>
        have hl := attr_lt ha
        have se' : e' <:+ t := (suf_attr ha).trans se
        refine iteT ⟨fun σ' H' => ∃ e2 : List Nat, σ' = [some (.str (S t)), some (.int (p : Int)), some (.int (pos t e2 : Nat)), some (ov t (attrR e2))] ∧ Same H H' ∧ e2 = e', ?_, ?_⟩
        · rintro σ' H' ⟨e2, rfl, sm2, rfl⟩
          exact ⟨_, hl, e2, rfl, sm2, rfl, se', by rw [← attrs_step ha]; exact ee⟩
        · refine ⟨_, rfl, ?_⟩
          refine ⟨_, rfl, _, rfl, t, pos t e', rfl, ⟨pos_le _ _, tp.sz⟩, fun H2 sm2 => ?_⟩
          rw [pos_drop se']
          exact ⟨e', rfl, sm.trans sm2, rfl⟩
      | none =>
        rw [attrs_stop ha] at ee
        dsimp only at q
        rw [← ee] at q
        refine iteF ?_
        refine ⟨_, rfl, _, rfl, t, pos t e, rfl, ⟨pos_le _ _, tp.sz⟩, ?_⟩
        rw [pos_drop se]
        have sg : gapR e <:+ t := (suf_gap _).trans se
        unfold endR at q
        refine ⟨_, rfl, rfl, _, rfl, _, _, _, rfl, rfl, _, rfl, ?_⟩
        rw [lit_sl, starts3 t [47] (by simp), pos_drop sg]
        cases hp : ([47] : List Nat).isPrefixOf (gapR e) with
        | true =>
          rw [hp, if_pos rfl] at q
          obtain ⟨h4, h5⟩ := pos_lt sg (one_len hp)
          refine iteT ⟨_, rfl, _, _, rfl, rfl, ?_⟩
          refine ⟨_, rfl, _, rfl, 62, t, pos t ((gapR e).drop 1), by rw [lit_gt, h5, Int.natCast_add]; rfl, ⟨pos_le _ _, tp.sz⟩, ?_⟩
          rw [pos_drop ((List.drop_suffix _ _).trans sg)]
          exact q H' sm
        | false =>
          rw [hp, if_neg (by simp)] at q
          refine iteF ?_
          refine ⟨_, rfl, _, rfl, 62, t, pos t (gapR e), by rw [lit_gt]; rfl, ⟨pos_le _ _, tp.sz⟩, ?_⟩
          rw [pos_drop sg]
          exact q H' sm
theorem lit_c1 : ("<!--" : Str) = S [60, 33, 45, 45] := by decide +kernel
theorem lit_c2 : ("-->" : Str) = S [45, 45, 62] := by decide +kernel
theorem lit_i1 : ("<?" : Str) = S [60, 63] := by decide +kernel
theorem lit_i2 : ("?>" : Str) = S [63, 62] := by decide +kernel
theorem lit_d1 : ("<![CDATA[" : Str) = S [60, 33, 91, 67, 68, 65, 84, 65, 91] := by decide +kernel
theorem lit_d2 : ("]]>" : Str) = S [93, 93, 62] := by decide +kernel
theorem lit_e1 : ("<!" : Str) = S [60, 33] := by decide +kernel
theorem lit_f1 : ("</" : Str) = S [60, 47] := by decide +kernel
theorem pre_at {w t : List Nat} {p : Nat} (h : w.isPrefixOf (t.drop p) = true) (hp : p ≤ t.length) : p + w.length ≤ t.length := by
  have := pre_len _ _ h
  rw [List.length_drop] at this
  omega
def sp_tag_at (K : PySem.W.Frag) : Sp := fun vs H Q _ => ∃ (t : List Nat) (p : Nat), vs = [.str (S t), .int (p : Int)] ∧ TP t p ∧ ∀ H', Same H H' → Q (ov t (tagR (t.drop p))) H'
theorem ok_tag_at {P : Program} {w : World} {K : PySem.W.Frag} {mg : Str → Option Value} {base : Heap} (T : Txt K mg) : FnOk P w K mg base CX0 5 T.a_tag_at T.d_tag_at ["text", "place"] (sp_tag_at K) := by
  refine T.f_tag_at.ok sc_tag_at (fun vs H Q E h => ?_) (fun cdv A outer s H vs Q E hr h => ?_)
  · obtain ⟨t, p, rfl, _⟩ := h
    rfl
  · obtain ⟨t, p, rfl, tp, q⟩ := h
    refine ⟨_, (pss_cons (ps_if (pt_val (pe_bm PySem.F.plainAttrs_str PySem.F.slot_str_startswith PySem.F.type_str_startswith mt_startswith3 (pv 0) (pa_cons pe_str (pa_cons (pv 1) pa_nil)))) (pss_one (ps_ret (pe_call (ok_behind_first T) (hr.mono (by decide)) (by rfl) T.g_behind_first T.f_behind_first.kp T.b_behind_first .nil pass0 (pa_cons pe_str (pa_cons (pv 0) (pa_cons (pe_op op_add (pv 1) pe_int) pa_nil)))))) pss_nil)
        (pss_cons (ps_if (pt_val (pe_bm PySem.F.plainAttrs_str PySem.F.slot_str_startswith PySem.F.type_str_startswith mt_startswith3 (pv 0) (pa_cons pe_str (pa_cons (pv 1) pa_nil)))) (pss_one (ps_ret (pe_call (ok_behind_first T) (hr.mono (by decide)) (by rfl) T.g_behind_first T.f_behind_first.kp T.b_behind_first .nil pass0 (pa_cons pe_str (pa_cons (pv 0) (pa_cons (pe_op op_add (pv 1) pe_int) pa_nil)))))) pss_nil)
        (pss_cons (ps_if (pt_val (pe_bm PySem.F.plainAttrs_str PySem.F.slot_str_startswith PySem.F.type_str_startswith mt_startswith3 (pv 0) (pa_cons pe_str (pa_cons (pv 1) pa_nil)))) (pss_one (ps_ret (pe_call (ok_behind_first T) (hr.mono (by decide)) (by rfl) T.g_behind_first T.f_behind_first.kp T.b_behind_first .nil pass0 (pa_cons pe_str (pa_cons (pv 0) (pa_cons (pe_op op_add (pv 1) pe_int) pa_nil)))))) pss_nil)
        (pss_cons (ps_if (PW.pt (pw_and (pt_val (pe_bm PySem.F.plainAttrs_str PySem.F.slot_str_startswith PySem.F.type_str_startswith mt_startswith3 (pv 0) (pa_cons pe_str (pa_cons (pv 1) pa_nil)))) (pw_and1 (pt_val (pe_call (ok_is_letter T) (hr.mono (by decide)) (by rfl) T.g_is_letter T.f_is_letter.kp T.b_is_letter .nil pass0 (pa_cons (pv 0) (pa_cons (pe_op op_add (pv 1) pe_int) pa_nil))))))) (pss_one (ps_ret (pe_call (ok_behind_first T) (hr.mono (by decide)) (by rfl) T.g_behind_first T.f_behind_first.kp T.b_behind_first .nil pass0 (pa_cons pe_str (pa_cons (pv 0) (pa_cons (pe_op op_add (pv 1) pe_int) pa_nil)))))) pss_nil)
        (pss_cons (ps_if (pt_val (pe_bm PySem.F.plainAttrs_str PySem.F.slot_str_startswith PySem.F.type_str_startswith mt_startswith3 (pv 0) (pa_cons pe_str (pa_cons (pv 1) pa_nil)))) (pss_one (ps_ret (pe_call (ok_closing_tag_at T) (hr.mono (by decide)) (by rfl) T.g_closing_tag_at T.f_closing_tag_at.kp T.b_closing_tag_at .nil pass0 (pa_cons (pv 0) (pa_cons (pv 1) pa_nil))))) pss_nil)
        (pss_cons (ps_if (pt_val (pe_bm PySem.F.plainAttrs_str PySem.F.slot_str_startswith PySem.F.type_str_startswith mt_startswith3 (pv 0) (pa_cons pe_str (pa_cons (pv 1) pa_nil)))) (pss_one (ps_ret (pe_call (ok_open_tag_at T) (hr.mono (by decide)) (by rfl) T.g_open_tag_at T.f_open_tag_at.kp T.b_open_tag_at .nil pass0 (pa_cons (pv 0) (pa_cons (pv 1) pa_nil))))) pss_nil)
        (pss_one (ps_ret pe_non)))))))), ?_⟩
    unfold tagR at q
    refine ⟨_, rfl, rfl, _, rfl, _, _, _, rfl, rfl, _, rfl, ?_⟩
    rw [lit_c1, starts3 t _ (by simp)]
    refine ite2 (fun h => ?_) (fun h => ?_)
    · rw [if_pos h] at q
      have h2 : p + 4 ≤ t.length := pre_at h tp.le
      refine ⟨_, rfl, _, rfl, _, _, rfl, rfl, _, t, p + 2, by rw [lit_c2, Int.natCast_add]; rfl, by simp, by simp, ⟨by omega, tp.sz⟩, ?_⟩
      rw [drop_more (by omega)]
      exact q H (Same.refl _)
    rw [if_neg h] at q
    refine ⟨_, rfl, rfl, _, rfl, _, _, _, rfl, rfl, _, rfl, ?_⟩
    rw [lit_i1, starts3 t _ (by simp)]
    refine ite2 (fun h => ?_) (fun h => ?_)
    · rw [if_pos h] at q
      have h2 : p + 2 ≤ t.length := pre_at h tp.le
      refine ⟨_, rfl, _, rfl, _, _, rfl, rfl, _, t, p + 2, by rw [lit_i2, Int.natCast_add]; rfl, by simp, by simp, ⟨by omega, tp.sz⟩, ?_⟩
      rw [drop_more (by omega)]
      exact q H (Same.refl _)
    rw [if_neg h] at q
    refine ⟨_, rfl, rfl, _, rfl, _, _, _, rfl, rfl, _, rfl, ?_⟩
    rw [lit_d1, starts3 t _ (by simp)]
    refine ite2 (fun h => ?_) (fun h => ?_)
    · rw [if_pos h] at q
      have h2 : p + 9 ≤ t.length := pre_at h tp.le
      refine ⟨_, rfl, _, rfl, _, _, rfl, rfl, _, t, p + 9, by rw [lit_d2, Int.natCast_add]; rfl, by simp, by simp, ⟨by omega, tp.sz⟩, ?_⟩
      rw [drop_more (by omega)]
      exact q H (Same.refl _)
    rw [if_neg h] at q
    -- what follows
    have fin : (¬ (([60, 33] : List Nat).isPrefixOf (t.drop p) = true ∧ letterR ((t.drop p).drop 2) = true)) → ∀ D : Ends, D.rt = Q →
        (tSeq (tIfS (tB (tBM K "str" (fun x xs H Q => ∃ a b i, x = .str a ∧ xs = [.str b, .int i] ∧ Q (.bl (Txt.startswith3 a b i)) H) (tVar 0) (tCons (tC (.str "</")) (tCons (tVar 1) tNil)))) (tRet (tCall (sp_closing_tag_at K) [] E0 (tCons (tVar 0) (tCons (tVar 1) tNil)))) tNext)
          (tSeq (tIfS (tB (tBM K "str" (fun x xs H Q => ∃ a b i, x = .str a ∧ xs = [.str b, .int i] ∧ Q (.bl (Txt.startswith3 a b i)) H) (tVar 0) (tCons (tC (.str "<")) (tCons (tVar 1) tNil)))) (tRet (tCall (sp_open_tag_at K) [] E0 (tCons (tVar 0) (tCons (tVar 1) tNil)))) tNext)
            (tRet (tC .non)))) D [some (.str (S t)), some (.int (p : Int))] H := by
      intro hno D eD
      rw [if_neg hno] at q
      refine ⟨_, rfl, rfl, _, rfl, _, _, _, rfl, rfl, _, rfl, ?_⟩
      rw [lit_f1, starts3 t _ (by simp)]
      refine ite2 (fun h => ?_) (fun h => ?_)
      · rw [if_pos h] at q
        have h2 : p + 2 ≤ t.length := pre_at h tp.le
        refine ⟨_, rfl, _, rfl, t, p, rfl, ⟨h2, tp.sz⟩, ?_⟩
        rw [eD]
        exact q H (Same.refl _)
      rw [if_neg h] at q
      refine ⟨_, rfl, rfl, _, rfl, _, _, _, rfl, rfl, _, rfl, ?_⟩
      rw [lit_lt, starts3 t _ (by simp)]
      refine ite2 (fun h => ?_) (fun h => ?_)
      · rw [if_pos h] at q
        have h2 : p + 1 ≤ t.length := pre_at h tp.le
        refine ⟨_, rfl, _, rfl, t, p, rfl, ⟨h2, tp.sz⟩, fun H' sm => ?_⟩
        rw [eD]
        exact q H' sm
      rw [if_neg h] at q
      show D.rt .non H
      rw [eD]
      exact q H (Same.refl _)
    refine ⟨_, rfl, rfl, _, rfl, _, _, _, rfl, rfl, _, rfl, ?_⟩
    rw [lit_e1, starts3 t _ (by simp)]
    refine ite2 (fun h => ?_) (fun h => ?_)
    · have h2 : p + 2 ≤ t.length := pre_at h tp.le
      refine ⟨_, rfl, _, rfl, _, _, rfl, rfl, t, p + 2, by rw [Int.natCast_add]; rfl, ⟨h2, tp.sz⟩, _, rfl, ?_⟩
      rw [drop_more h2]
      cases hl : letterR ((t.drop p).drop 2) with
      | true =>
        rw [if_pos ⟨h, hl⟩] at q
        have h3 : p + 3 ≤ t.length := by
          cases hd : (t.drop p).drop 2 with
          | nil =>
            rw [hd] at hl
            cases hl
          | cons c r =>
            have := congrArg List.length hd
            rw [List.length_drop, List.length_drop, List.length_cons] at this
            omega
        refine iteT ⟨_, rfl, _, rfl, _, _, rfl, rfl, _, t, p + 3, by rw [lit_gt, Int.natCast_add]; rfl, by simp, by simp, ⟨h3, tp.sz⟩, ?_⟩
        rw [drop_more h3]
        exact q H (Same.refl _)
      | false => exact iteF (fin (fun z => by rw [hl] at z; cases z.2) _ rfl)
    · exact iteF (fin (fun z => h z.1) _ rfl)

theorem lits_RAW : ([.str "script", .str "pre", .str "style", .str "textarea"] : List V) = (RawL).map fun l => V.str (S l) := by
  show [_, _, _, _] = [_, _, _, _]
  rw [show ("script" : Str) = S [115, 99, 114, 105, 112, 116] by decide +kernel, show ("pre" : Str) = S [112, 114, 101] by decide +kernel, show ("style" : Str) = S [115, 116, 121, 108, 101] by decide +kernel, show ("textarea" : Str) = S [116, 101, 120, 116, 97, 114, 101, 97] by decide +kernel]
theorem sq_RAW {K : PySem.W.Frag} {mg : Str → Option Value} (T : Txt K mg) (H : Hp) : SqT K H T.a_RAW_NAMES ((RawL).map fun l => V.str (S l)) := by
  rw [← lits_RAW]
  exact .inr ⟨_, _, _, T.l_RAW_NAMES, rfl, rfl, by (show 4 ≤ sizeLine; decide), (.cons ⟨_, rfl⟩ (.cons ⟨_, rfl⟩ (.cons ⟨_, rfl⟩ (.cons ⟨_, rfl⟩ .nil))))⟩
theorem lits_BLOCK : ([.str "address", .str "article", .str "aside", .str "base", .str "basefont", .str "blockquote", .str "body", .str "caption", .str "center", .str "col", .str "colgroup", .str "dd", .str "details", .str "dialog", .str "dir", .str "div", .str "dl", .str "dt", .str "fieldset", .str "figcaption", .str "figure", .str "footer", .str "form", .str "frame", .str "frameset", .str "h1", .str "h2", .str "h3", .str "h4", .str "h5", .str "h6", .str "head", .str "header", .str "hr", .str "html", .str "iframe", .str "legend", .str "li", .str "link", .str "main", .str "menu", .str "menuitem", .str "nav", .str "noframes", .str "ol", .str "optgroup", .str "option", .str "p", .str "param", .str "search", .str "section", .str "summary", .str "table", .str "tbody", .str "td", .str "tfoot", .str "th", .str "thead", .str "title", .str "tr", .str "track", .str "ul"] : List V) = (BlockL).map fun l => V.str (S l) := by
  show [_, _, _, _, _, _, _, _, _, _, _, _, _, _, _, _, _, _, _, _, _, _, _, _, _, _, _, _, _, _, _, _, _, _, _, _, _, _, _, _, _, _, _, _, _, _, _, _, _, _, _, _, _, _, _, _, _, _, _, _, _, _] = [_, _, _, _, _, _, _, _, _, _, _, _, _, _, _, _, _, _, _, _, _, _, _, _, _, _, _, _, _, _, _, _, _, _, _, _, _, _, _, _, _, _, _, _, _, _, _, _, _, _, _, _, _, _, _, _, _, _, _, _, _, _]
  rw [show ("address" : Str) = S [97, 100, 100, 114, 101, 115, 115] by decide +kernel, show ("article" : Str) = S [97, 114, 116, 105, 99, 108, 101] by decide +kernel, show ("aside" : Str) = S [97, 115, 105, 100, 101] by decide +kernel, show ("base" : Str) = S [98, 97, 115, 101] by decide +kernel, show ("basefont" : Str) = S [98, 97, 115, 101, 102, 111, 110, 116] by decide +kernel, show ("blockquote" : Str) = S [98, 108, 111, 99, 107, 113, 117, 111, 116, 101] by decide +kernel, show ("body" : Str) = S [98, 111, 100, 121] by decide +kernel, show ("caption" : Str) = S [99, 97, 112, 116, 105, 111, 110] by decide +kernel, show ("center" : Str) = S [99, 101, 110, 116, 101, 114] by decide +kernel, show ("col" : Str) = S [99, 111, 108] by decide +kernel, show ("colgroup" : Str) = S [99, 111, 108, 103, 114, 111, 117, 112] by decide +kernel, show ("dd" : Str) = S [100, 100] by decide +kernel, show ("details" : Str) = S [100, 101, 116, 97, 105, 108, 115] by decide +kernel, show ("dialog" : Str) = S [100, 105, 97, 108, 111, 103] by decide +kernel, show ("dir" : Str) = S [100, 105, 114] by decide +kernel, show ("div" : Str) = S [100, 105, 118] by decide +kernel, show ("dl" : Str) = S [100, 108] by decide +kernel, show ("dt" : Str) = S [100, 116] by decide +kernel, show ("fieldset" : Str) = S [102, 105, 101, 108, 100, 115, 101, 116] by decide +kernel, show ("figcaption" : Str) = S [102, 105, 103, 99, 97, 112, 116, 105, 111, 110] by decide +kernel, show ("figure" : Str) = S [102, 105, 103, 117, 114, 101] by decide +kernel, show ("footer" : Str) = S [102, 111, 111, 116, 101, 114] by decide +kernel, show ("form" : Str) = S [102, 111, 114, 109] by decide +kernel, show ("frame" : Str) = S [102, 114, 97, 109, 101] by decide +kernel, show ("frameset" : Str) = S [102, 114, 97, 109, 101, 115, 101, 116] by decide +kernel, show ("h1" : Str) = S [104, 49] by decide +kernel, show ("h2" : Str) = S [104, 50] by decide +kernel, show ("h3" : Str) = S [104, 51] by decide +kernel, show ("h4" : Str) = S [104, 52] by decide +kernel, show ("h5" : Str) = S [104, 53] by decide +kernel, show ("h6" : Str) = S [104, 54] by decide +kernel, show ("head" : Str) = S [104, 101, 97, 100] by decide +kernel, show ("header" : Str) = S [104, 101, 97, 100, 101, 114] by decide +kernel, show ("hr" : Str) = S [104, 114] by decide +kernel, show ("html" : Str) = S [104, 116, 109, 108] by decide +kernel, show ("iframe" : Str) = S [105, 102, 114, 97, 109, 101] by decide +kernel, show ("legend" : Str) = S [108, 101, 103, 101, 110, 100] by decide +kernel, show ("li" : Str) = S [108, 105] by decide +kernel, show ("link" : Str) = S [108, 105, 110, 107] by decide +kernel, show ("main" : Str) = S [109, 97, 105, 110] by decide +kernel, show ("menu" : Str) = S [109, 101, 110, 117] by decide +kernel, show ("menuitem" : Str) = S [109, 101, 110, 117, 105, 116, 101, 109] by decide +kernel, show ("nav" : Str) = S [110, 97, 118] by decide +kernel, show ("noframes" : Str) = S [110, 111, 102, 114, 97, 109, 101, 115] by decide +kernel, show ("ol" : Str) = S [111, 108] by decide +kernel, show ("optgroup" : Str) = S [111, 112, 116, 103, 114, 111, 117, 112] by decide +kernel, show ("option" : Str) = S [111, 112, 116, 105, 111, 110] by decide +kernel, show ("p" : Str) = S [112] by decide +kernel, show ("param" : Str) = S [112, 97, 114, 97, 109] by decide +kernel, show ("search" : Str) = S [115, 101, 97, 114, 99, 104] by decide +kernel, show ("section" : Str) = S [115, 101, 99, 116, 105, 111, 110] by decide +kernel, show ("summary" : Str) = S [115, 117, 109, 109, 97, 114, 121] by decide +kernel, show ("table" : Str) = S [116, 97, 98, 108, 101] by decide +kernel, show ("tbody" : Str) = S [116, 98, 111, 100, 121] by decide +kernel, show ("td" : Str) = S [116, 100] by decide +kernel, show ("tfoot" : Str) = S [116, 102, 111, 111, 116] by decide +kernel, show ("th" : Str) = S [116, 104] by decide +kernel, show ("thead" : Str) = S [116, 104, 101, 97, 100] by decide +kernel, show ("title" : Str) = S [116, 105, 116, 108, 101] by decide +kernel, show ("tr" : Str) = S [116, 114] by decide +kernel, show ("track" : Str) = S [116, 114, 97, 99, 107] by decide +kernel, show ("ul" : Str) = S [117, 108] by decide +kernel]
theorem sq_BLOCK {K : PySem.W.Frag} {mg : Str → Option Value} (T : Txt K mg) (H : Hp) : SqT K H T.a_BLOCK_NAMES ((BlockL).map fun l => V.str (S l)) := by
  rw [← lits_BLOCK]
  exact .inr ⟨_, _, _, T.l_BLOCK_NAMES, rfl, rfl, by (show 62 ≤ sizeLine; decide), (.cons ⟨_, rfl⟩ (.cons ⟨_, rfl⟩ (.cons ⟨_, rfl⟩ (.cons ⟨_, rfl⟩ (.cons ⟨_, rfl⟩ (.cons ⟨_, rfl⟩ (.cons ⟨_, rfl⟩ (.cons ⟨_, rfl⟩ (.cons ⟨_, rfl⟩ (.cons ⟨_, rfl⟩ (.cons ⟨_, rfl⟩ (.cons ⟨_, rfl⟩ (.cons ⟨_, rfl⟩ (.cons ⟨_, rfl⟩ (.cons ⟨_, rfl⟩ (.cons ⟨_, rfl⟩ (.cons ⟨_, rfl⟩ (.cons ⟨_, rfl⟩ (.cons ⟨_, rfl⟩ (.cons ⟨_, rfl⟩ (.cons ⟨_, rfl⟩ (.cons ⟨_, rfl⟩ (.cons ⟨_, rfl⟩ (.cons ⟨_, rfl⟩ (.cons ⟨_, rfl⟩ (.cons ⟨_, rfl⟩ (.cons ⟨_, rfl⟩ (.cons ⟨_, rfl⟩ (.cons ⟨_, rfl⟩ (.cons ⟨_, rfl⟩ (.cons ⟨_, rfl⟩ (.cons ⟨_, rfl⟩ (.cons ⟨_, rfl⟩ (.cons ⟨_, rfl⟩ (.cons ⟨_, rfl⟩ (.cons ⟨_, rfl⟩ (.cons ⟨_, rfl⟩ (.cons ⟨_, rfl⟩ (.cons ⟨_, rfl⟩ (.cons ⟨_, rfl⟩ (.cons ⟨_, rfl⟩ (.cons ⟨_, rfl⟩ (.cons ⟨_, rfl⟩ (.cons ⟨_, rfl⟩ (.cons ⟨_, rfl⟩ (.cons ⟨_, rfl⟩ (.cons ⟨_, rfl⟩ (.cons ⟨_, rfl⟩ (.cons ⟨_, rfl⟩ (.cons ⟨_, rfl⟩ (.cons ⟨_, rfl⟩ (.cons ⟨_, rfl⟩ (.cons ⟨_, rfl⟩ (.cons ⟨_, rfl⟩ (.cons ⟨_, rfl⟩ (.cons ⟨_, rfl⟩ (.cons ⟨_, rfl⟩ (.cons ⟨_, rfl⟩ (.cons ⟨_, rfl⟩ (.cons ⟨_, rfl⟩ (.cons ⟨_, rfl⟩ (.cons ⟨_, rfl⟩ .nil))))))))))))))))))))))))))))))))))))))))))))))))))))))))))))))⟩
theorem lits_ENDS_0 : ([.str "</script>", .str "</pre>", .str "</style>", .str "</textarea>"] : List V) = (EndsL 1).map fun l => V.str (S l) := by
  show [_, _, _, _] = [_, _, _, _]
  rw [show ("</script>" : Str) = S [60, 47, 115, 99, 114, 105, 112, 116, 62] by decide +kernel, show ("</pre>" : Str) = S [60, 47, 112, 114, 101, 62] by decide +kernel, show ("</style>" : Str) = S [60, 47, 115, 116, 121, 108, 101, 62] by decide +kernel, show ("</textarea>" : Str) = S [60, 47, 116, 101, 120, 116, 97, 114, 101, 97, 62] by decide +kernel]
theorem sq_ENDS_0 {K : PySem.W.Frag} {mg : Str → Option Value} (T : Txt K mg) (H : Hp) : SqT K H T.e_ENDS_0 ((EndsL 1).map fun l => V.str (S l)) := by
  rw [← lits_ENDS_0]
  exact .inr ⟨_, _, _, T.l_ENDS_0, rfl, rfl, by (show 4 ≤ sizeLine; decide), (.cons ⟨_, rfl⟩ (.cons ⟨_, rfl⟩ (.cons ⟨_, rfl⟩ (.cons ⟨_, rfl⟩ .nil))))⟩
theorem lits_ENDS_1 : ([.str "-->"] : List V) = (EndsL 2).map fun l => V.str (S l) := by
  show [_] = [_]
  rw [show ("-->" : Str) = S [45, 45, 62] by decide +kernel]
theorem sq_ENDS_1 {K : PySem.W.Frag} {mg : Str → Option Value} (T : Txt K mg) (H : Hp) : SqT K H T.e_ENDS_1 ((EndsL 2).map fun l => V.str (S l)) := by
  rw [← lits_ENDS_1]
  exact .inr ⟨_, _, _, T.l_ENDS_1, rfl, rfl, by (show 1 ≤ sizeLine; decide), (.cons ⟨_, rfl⟩ .nil)⟩
theorem lits_ENDS_2 : ([.str "?>"] : List V) = (EndsL 3).map fun l => V.str (S l) := by
  show [_] = [_]
  rw [show ("?>" : Str) = S [63, 62] by decide +kernel]
theorem sq_ENDS_2 {K : PySem.W.Frag} {mg : Str → Option Value} (T : Txt K mg) (H : Hp) : SqT K H T.e_ENDS_2 ((EndsL 3).map fun l => V.str (S l)) := by
  rw [← lits_ENDS_2]
  exact .inr ⟨_, _, _, T.l_ENDS_2, rfl, rfl, by (show 1 ≤ sizeLine; decide), (.cons ⟨_, rfl⟩ .nil)⟩
theorem lits_ENDS_3 : ([.str ">"] : List V) = (EndsL 4).map fun l => V.str (S l) := by
  show [_] = [_]
  rw [show (">" : Str) = S [62] by decide +kernel]
theorem sq_ENDS_3 {K : PySem.W.Frag} {mg : Str → Option Value} (T : Txt K mg) (H : Hp) : SqT K H T.e_ENDS_3 ((EndsL 4).map fun l => V.str (S l)) := by
  rw [← lits_ENDS_3]
  exact .inr ⟨_, _, _, T.l_ENDS_3, rfl, rfl, by (show 1 ≤ sizeLine; decide), (.cons ⟨_, rfl⟩ .nil)⟩
theorem lits_ENDS_4 : ([.str "]]>"] : List V) = (EndsL 5).map fun l => V.str (S l) := by
  show [_] = [_]
  rw [show ("]]>" : Str) = S [93, 93, 62] by decide +kernel]
theorem sq_ENDS_4 {K : PySem.W.Frag} {mg : Str → Option Value} (T : Txt K mg) (H : Hp) : SqT K H T.e_ENDS_4 ((EndsL 5).map fun l => V.str (S l)) := by
  rw [← lits_ENDS_4]
  exact .inr ⟨_, _, _, T.l_ENDS_4, rfl, rfl, by (show 1 ≤ sizeLine; decide), (.cons ⟨_, rfl⟩ .nil)⟩

/-! ### the defs of the kinds -/
theorem S_cut0 (l : List Nat) (k : Nat) : cutS (S l) none (some (k : Int)) = S (l.take k) := by
  unfold cutS
  rw [HT.sIx_none, HT.sIx_nat, S_len, S_tl]
  show S _ = S _
  rw [List.drop_zero, Nat.sub_zero]
  congr 1
  by_cases h : k ≤ l.length
  · rw [Nat.min_eq_left h]
  · rw [Nat.min_eq_right (by omega), List.take_length, List.take_of_length_le (by omega)]
theorem inV_S (n : List Nat) : ∀ ls : List (List Nat), inV (.str (S n)) (ls.map fun l => V.str (S l)) = ls.contains n
  | [] => rfl
  | l :: ls => by
    have ih := inV_S n ls
    unfold inV at ih ⊢
    rw [List.map_cons, List.any_cons, ih, List.contains_cons]
    congr 1
    show (S l == S n) = (n == l)
    by_cases h : l = n
    · subst h
      simp
    · rw [beq_eq_false_iff_ne.mpr fun e => h (S_inj e), beq_eq_false_iff_ne.mpr fun e => h e.symm]
theorem flat_S (ls : List (List Nat)) : (ls.map fun l => V.str (S l)).all flatV = true := by
  rw [List.all_map]
  exact List.all_eq_true.mpr fun _ _ => rfl
theorem lit_ws : (" \t" : Str) = S [32, 9] := by decide +kernel
theorem lit_no : ("" : Str) = S [] := by decide +kernel
def sp_is_blank (K : PySem.W.Frag) : Sp := fun vs H Q _ => ∃ (t : List Nat), vs = [.str (S t)] ∧ t.length ≤ 100000 ∧ Q (.bl (blankL t)) H
theorem ok_is_blank {P : Program} {w : World} {K : PySem.W.Frag} {mg : Str → Option Value} {base : Heap} (T : Txt K mg) : FnOk P w K mg base CX0 1 T.a_is_blank T.d_is_blank ["line"] (sp_is_blank K) := by
  refine T.f_is_blank.ok sc_is_blank (fun vs H Q E h => ?_) (fun cdv A outer s H vs Q E hr h => ?_)
  · obtain ⟨t, rfl, _⟩ := h
    rfl
  · obtain ⟨t, rfl, ht, q⟩ := h
    refine ⟨_, (pss_one (ps_ret (pe_cmpR op_eq (pe_bm PySem.F.plainAttrs_str PySem.F.slot_str_strip PySem.F.type_str_strip mt_stripChars (pv 0) (pa_cons (pe_glob (v := .str " \t") rfl T.g_WHITE ⟨_, rfl⟩) pa_nil)) pe_str (nomark _)))), ?_⟩
    refine ⟨_, rfl, rfl, _, _, rfl, rfl, (by rw [S_len, sizeLine_eq]; omega), rfl, ?_⟩
    rw [lit_ws, lit_no, strip_blank]
    exact q
def sp_name_place (K : PySem.W.Frag) : Sp := fun vs H Q _ => ∃ (t : List Nat), vs = [.str (S t)] ∧ Q (.int (place t : Nat)) H
theorem ok_name_place {P : Program} {w : World} {K : PySem.W.Frag} {mg : Str → Option Value} {base : Heap} (T : Txt K mg) : FnOk P w K mg base CX0 1 T.a_name_place T.d_name_place ["line"] (sp_name_place K) := by
  refine T.f_name_place.ok sc_name_place (fun vs H Q E h => ?_) (fun cdv A outer s H vs Q E hr h => ?_)
  · obtain ⟨t, rfl, _⟩ := h
    rfl
  · obtain ⟨t, rfl, q⟩ := h
    refine ⟨_, (pss_cons (ps_if (pt_val (pe_bm PySem.F.plainAttrs_str PySem.F.slot_str_startswith PySem.F.type_str_startswith mt_startswith (pv 0) (pa_cons pe_str pa_nil))) (pss_one (ps_ret pe_int)) pss_nil)
        (pss_one (ps_ret pe_int))), ?_⟩
    unfold place at q
    refine ⟨_, rfl, rfl, _, _, rfl, rfl, _, rfl, ?_⟩
    rw [lit_f1, starts1 t _ (by simp)]
    refine ite2 (fun h => ?_) (fun h => ?_)
    · rw [if_pos h] at q
      exact q
    · rw [if_neg h] at q
      exact q
/-- the tuple of a name and what stands behind -/
def NB (H : Hp) (r : Addr) (t : List Nat) : Prop := H r = some (.tup [.str (S (nmR t)), .str (S (ba NameL t))])
def sp_name_and_behind (K : PySem.W.Frag) : Sp := fun vs H Q _ => ∃ (t : List Nat) (p : Nat), vs = [.str (S t), .int (p : Int)] ∧ TP t p ∧ ∀ H' r, Same H H' → NB H' r (t.drop p) → Q (.ref r) H'
theorem ok_name_and_behind {P : Program} {w : World} {K : PySem.W.Frag} {mg : Str → Option Value} {base : Heap} (T : Txt K mg) : FnOk P w K mg base CX0 2 T.a_name_and_behind T.d_name_and_behind ["line", "place"] (sp_name_and_behind K) := by
  refine T.f_name_and_behind.ok sc_name_and_behind (fun vs H Q E h => ?_) (fun cdv A outer s H vs Q E hr h => ?_)
  · obtain ⟨t, p, rfl, _⟩ := h
    rfl
  · obtain ⟨t, p, rfl, tp, q⟩ := h
    refine ⟨_, (pss_cons (ps_set (i := 2) sc_name_and_behind.nd rfl (.inl rfl) (pe_call (ok_behind_all T) (hr.mono (by decide)) (by rfl) T.g_behind_all T.f_behind_all.kp T.b_behind_all .nil pass0 (pa_cons (pe_glob (v := .str "abcdefghijklmnopqrstuvwxyzABCDEFGHIJKLMNOPQRSTUVWXYZ0123456789-") rfl T.g_NAME_SIGNS ⟨_, rfl⟩) (pa_cons (pv 0) (pa_cons (pv 1) pa_nil)))))
        (pss_one (ps_ret (pe_tup (pa_cons (pe_bm0 PySem.F.plainAttrs_str PySem.F.slot_str_lower PySem.F.type_str_lower mt_lower (pe_slice sl_str (pv 0) (po_some (pv 1)) (po_some (pv 2)))) (pa_cons (pe_slice sl_str (pv 0) (po_some (pv 2)) po_none) pa_nil)))))), ?_⟩
    refine ⟨_, rfl, _, rfl, NameL, t, p, by rw [lit_N]; rfl, tp, ?_⟩
    have sb : ba NameL (t.drop p) <:+ t := (suf_dw _ _).trans (List.drop_suffix _ _)
    have hl : (ba NameL (t.drop p)).length ≤ (t.drop p).length := (suf_dw _ _).length_le
    rw [List.length_drop] at hl
    have hpp : p ≤ pos t (ba NameL (t.drop p)) := by
      have := tp.le
      unfold pos
      omega
    have e1 : cutS (S t) (some (p : Int)) (some ((pos t (ba NameL (t.drop p)) : Nat) : Int)) = S ((t.drop p).takeWhile fun c => NameL.contains c) := by
      rw [S_cut2 _ _ _ hpp]
      congr 1
      have e2 : pos t (ba NameL (t.drop p)) - p = (t.drop p).length - (ba NameL (t.drop p)).length := by
        have := tp.le
        rw [List.length_drop]
        unfold pos
        omega
      rw [e2]
      exact TM.take_tw
    refine ⟨_, rfl, _, rfl, _, rfl, _, rfl, _, rfl, _, rfl, tp.line, ?_⟩
    rw [e1]
    refine ⟨rfl, _, rfl, rfl, ?_, ?_⟩
    · have h1 : ((t.drop p).takeWhile fun c => NameL.contains c).length ≤ (t.drop p).length := (List.takeWhile_prefix _).length_le
      rw [List.length_drop] at h1
      have := tp.sz
      rw [S_len]
      omega
    rw [lower_S _ name_ascii]
    refine ⟨_, rfl, _, rfl, _, rfl, _, rfl, tp.line, ?_⟩
    rw [S_cut, pos_drop sb]
    exact ⟨(by show 2 ≤ sizeLine; decide), fun r nr => q _ r (same_new nr) upd_same⟩
theorem lit_e2 : ("/>" : Str) = S [47, 62] := by decide +kernel
theorem bl_len {t : List Nat} {p k : Nat} (tp : TP t p) : ((ba NameL (t.drop p)).take k).length ≤ 100000 := by
  have h1 : (ba NameL (t.drop p)).length ≤ (t.drop p).length := (suf_dw _ _).length_le
  have h2 : ((ba NameL (t.drop p)).take k).length ≤ (ba NameL (t.drop p)).length := by rw [List.length_take]; omega
  rw [List.length_drop] at h1
  have := tp.sz
  omega
theorem ba_line {t : List Nat} {p : Nat} (tp : TP t p) : (S (ba NameL (t.drop p))).length ≤ sizeLine := by
  have h1 : (ba NameL (t.drop p)).length ≤ (t.drop p).length := (suf_dw _ _).length_le
  rw [List.length_drop] at h1
  have := tp.sz
  rw [S_len, sizeLine_eq]
  omega
/-- it answers the flag c -/
def AnsV (t : TE) (σ : L2.St) (H : Hp) (c : Bool) : Prop := ∀ Q : VK, Q (.bl c) H → t σ H Q
theorem andV {ta tb : TE} {σ : L2.St} {H : Hp} {a b : Bool} (ha : AnsV ta σ H a) (hb : AnsV tb σ H b) : AnsV (tAndV ta tb) σ H (a && b) := fun Q q => by
  refine ha _ ⟨a, rfl, ?_⟩
  cases a with
  | true => exact hb _ q
  | false => exact q
theorem orV {ta tb : TE} {σ : L2.St} {H : Hp} {a b : Bool} (ha : AnsV ta σ H a) (hb : AnsV tb σ H b) : AnsV (tOrV ta tb) σ H (a || b) := fun Q q => by
  refine ha _ ⟨a, rfl, ?_⟩
  cases a with
  | true => exact q
  | false => exact hb _ q
theorem blankA {K : PySem.W.Frag} {σ : L2.St} {H : Hp} {i : Nat} {b : List Nat} (hi : σ[i]? = some (some (.str (S b)))) (hb : b.length ≤ 100000) : AnsV (tCall (sp_is_blank K) [] E0 (tCons (tSl rSlS (tVar i) tNoPart (tPart (tC (.int 1)))) tNil)) σ H (blankL (b.take 1)) := fun Q q => by
  refine ⟨_, hi, _, rfl, _, rfl, (by rw [S_len, sizeLine_eq]; omega), ?_⟩
  have e : cutS (S b) none (some 1) = S (b.take 1) := S_cut0 b 1
  rw [e]
  exact ⟨_, rfl, (by rw [List.length_take]; omega), q⟩
theorem startsA {K : PySem.W.Frag} {σ : L2.St} {H : Hp} {i : Nat} {b w : List Nat} {x : Str} (hi : σ[i]? = some (some (.str (S b)))) (hx : x = S w) (hw : w ≠ []) :
    AnsV (tBM K "str" (fun x xs H Q => ∃ a b, x = .str a ∧ xs = [.str b] ∧ Q (.bl (Txt.startswith a b)) H) (tVar i) (tCons (tC (.str x)) tNil)) σ H (w.isPrefixOf b) := fun Q q => by
  subst hx
  refine ⟨_, hi, rfl, _, _, rfl, rfl, ?_⟩
  rw [starts1 b w hw]
  exact q
theorem inA {K : PySem.W.Frag} {σ : L2.St} {H : Hp} {i : Nat} {n : List Nat} {a : Addr} {ls : List (List Nat)} {te : TE} (hi : σ[i]? = some (some (.str (S n)))) (ht : ∀ Q : VK, Q (.ref a) H → te σ H Q) (hs : SqT K H a (ls.map fun l => V.str (S l))) :
    AnsV (tOp (rIn K false) (tVar i) te) σ H (ls.contains n) := fun Q q => by
  refine ⟨_, hi, ht _ ⟨a, _, rfl, .inr hs, rfl, flat_S _, ?_⟩⟩
  rw [if_neg Bool.false_ne_true, inV_S]
  exact q
theorem notInA {K : PySem.W.Frag} {σ : L2.St} {H : Hp} {i : Nat} {n : List Nat} {a : Addr} {ls : List (List Nat)} {te : TE} (hi : σ[i]? = some (some (.str (S n)))) (ht : ∀ Q : VK, Q (.ref a) H → te σ H Q) (hs : SqT K H a (ls.map fun l => V.str (S l))) :
    AnsV (tOp (rIn K true) (tVar i) te) σ H (!ls.contains n) := fun Q q => by
  refine ⟨_, hi, ht _ ⟨a, _, rfl, .inr hs, rfl, flat_S _, ?_⟩⟩
  rw [if_pos rfl, inV_S]
  exact q
theorem ba_len {t : List Nat} {p : Nat} (tp : TP t p) : (ba NameL (t.drop p)).length ≤ 100000 := by
  have h1 : (ba NameL (t.drop p)).length ≤ (t.drop p).length := (suf_dw _ _).length_le
  rw [List.length_drop] at h1
  have := tp.sz
  omega
theorem place_le {t : List Nat} (h : ([60] : List Nat).isPrefixOf t = true) : place t ≤ t.length := by
  have h1 := pre_len _ _ h
  unfold place
  split
  · rename_i h2
    have := pre_len _ _ h2
    exact this
  · exact h1
def sp_begins_raw (K : PySem.W.Frag) : Sp := fun vs H Q _ => ∃ (t : List Nat), vs = [.str (S t)] ∧ TP t 1 ∧ ∀ H', Same H H' → Q (.bl (begRaw t)) H'
theorem ok_begins_raw {P : Program} {w : World} {K : PySem.W.Frag} {mg : Str → Option Value} {base : Heap} (T : Txt K mg) : FnOk P w K mg base CX0 3 T.a_begins_raw T.d_begins_raw ["line"] (sp_begins_raw K) := by
  refine T.f_begins_raw.ok sc_begins_raw (fun vs H Q E h => ?_) (fun cdv A outer s H vs Q E hr h => ?_)
  · obtain ⟨t, rfl, _⟩ := h
    rfl
  · obtain ⟨t, rfl, tp, q⟩ := h
    refine ⟨_, (pss_cons (ps_asg (pe_call (ok_name_and_behind T) (hr.mono (by decide)) (by rfl) T.g_name_and_behind T.f_name_and_behind.kp T.b_name_and_behind .nil pass0 (pa_cons (pv 0) (pa_cons pe_int pa_nil))) (pg_tup (by rfl) (pgs_cons (pg_name (i := 1) sc_begins_raw.nd rfl (.inl rfl)) (pgs_cons (pg_name (i := 2) sc_begins_raw.nd rfl (.inl rfl)) pgs_nil))))
        (pss_one (ps_ret (pe_and (pe_cmpR op_in_seq (pv 1) (pe_glob (v := .ref T.a_RAW_NAMES) rfl T.g_RAW_NAMES rfl) (by rfl)) (pe_one (pe_or (pe_call (ok_is_blank T) (hr.mono (by decide)) (by rfl) T.g_is_blank T.f_is_blank.kp T.b_is_blank .nil pass0 (pa_cons (pe_slice sl_str (pv 2) po_none (po_some pe_int)) pa_nil)) (pe_one (pe_bm PySem.F.plainAttrs_str PySem.F.slot_str_startswith PySem.F.type_str_startswith mt_startswith (pv 2) (pa_cons pe_str pa_nil))))))))), ?_⟩
    unfold begRaw at q
    refine ⟨_, rfl, t, 1, rfl, tp, fun H1 r s1 hr1 => ?_⟩
    refine ⟨r, _, rfl, SqT.of hr1, rfl, _, _, rfl, _, _, rfl, rfl, ?_⟩
    exact andV (inA rfl (fun _ h => h) (sq_RAW T H1)) (orV (blankA rfl (ba_len tp)) (startsA rfl lit_gt (by simp))) _ (q H1 s1)
def sp_begins_block (K : PySem.W.Frag) : Sp := fun vs H Q _ => ∃ (t : List Nat), vs = [.str (S t)] ∧ TP t (place t) ∧ ∀ H', Same H H' → Q (.bl (begBlock t)) H'
theorem ok_begins_block {P : Program} {w : World} {K : PySem.W.Frag} {mg : Str → Option Value} {base : Heap} (T : Txt K mg) : FnOk P w K mg base CX0 3 T.a_begins_block T.d_begins_block ["line"] (sp_begins_block K) := by
  refine T.f_begins_block.ok sc_begins_block (fun vs H Q E h => ?_) (fun cdv A outer s H vs Q E hr h => ?_)
  · obtain ⟨t, rfl, _⟩ := h
    rfl
  · obtain ⟨t, rfl, tp, q⟩ := h
    refine ⟨_, (pss_cons (ps_asg (pe_call (ok_name_and_behind T) (hr.mono (by decide)) (by rfl) T.g_name_and_behind T.f_name_and_behind.kp T.b_name_and_behind .nil pass0 (pa_cons (pv 0) (pa_cons (pe_call (ok_name_place T) (hr.mono (by decide)) (by rfl) T.g_name_place T.f_name_place.kp T.b_name_place .nil pass0 (pa_cons (pv 0) pa_nil)) pa_nil))) (pg_tup (by rfl) (pgs_cons (pg_name (i := 1) sc_begins_block.nd rfl (.inl rfl)) (pgs_cons (pg_name (i := 2) sc_begins_block.nd rfl (.inl rfl)) pgs_nil))))
        (pss_cons (ps_set (i := 3) sc_begins_block.nd rfl (.inl rfl) (pe_or (pe_call (ok_is_blank T) (hr.mono (by decide)) (by rfl) T.g_is_blank T.f_is_blank.kp T.b_is_blank .nil pass0 (pa_cons (pe_slice sl_str (pv 2) po_none (po_some pe_int)) pa_nil)) (pe_or (pe_bm PySem.F.plainAttrs_str PySem.F.slot_str_startswith PySem.F.type_str_startswith mt_startswith (pv 2) (pa_cons pe_str pa_nil)) (pe_one (pe_bm PySem.F.plainAttrs_str PySem.F.slot_str_startswith PySem.F.type_str_startswith mt_startswith (pv 2) (pa_cons pe_str pa_nil))))))
        (pss_one (ps_ret (pe_and (pe_cmpR op_in_seq (pv 1) (pe_glob (v := .ref T.a_BLOCK_NAMES) rfl T.g_BLOCK_NAMES rfl) (by rfl)) (pe_one (pv 3))))))), ?_⟩
    unfold begBlock at q
    refine ⟨_, rfl, _, rfl, t, rfl, t, place t, rfl, tp, fun H1 r s1 hr1 => ?_⟩
    refine ⟨r, _, rfl, SqT.of hr1, rfl, _, _, rfl, _, _, rfl, rfl, ?_⟩
    refine orV (blankA rfl (ba_len tp)) (orV (startsA rfl lit_gt (by simp)) (startsA rfl lit_e2 (by simp))) _ ?_
    exact andV (inA rfl (fun _ h => h) (sq_BLOCK T H1)) (fun Q q => ⟨_, rfl, q⟩) _ (q H1 s1)
def sp_is_lone_tag (K : PySem.W.Frag) : Sp := fun vs H Q _ => ∃ (t : List Nat), vs = [.str (S t)] ∧ TP t (place t) ∧ ∀ H', Same H H' → Q (.bl (lone t)) H'
theorem ok_is_lone_tag {P : Program} {w : World} {K : PySem.W.Frag} {mg : Str → Option Value} {base : Heap} (T : Txt K mg) : FnOk P w K mg base CX0 6 T.a_is_lone_tag T.d_is_lone_tag ["line"] (sp_is_lone_tag K) := by
  refine T.f_is_lone_tag.ok sc_is_lone_tag (fun vs H Q E h => ?_) (fun cdv A outer s H vs Q E hr h => ?_)
  · obtain ⟨t, rfl, _⟩ := h
    rfl
  · obtain ⟨t, rfl, tp, q⟩ := h
    refine ⟨_, (pss_cons (ps_asg (pe_call (ok_name_and_behind T) (hr.mono (by decide)) (by rfl) T.g_name_and_behind T.f_name_and_behind.kp T.b_name_and_behind .nil pass0 (pa_cons (pv 0) (pa_cons (pe_call (ok_name_place T) (hr.mono (by decide)) (by rfl) T.g_name_place T.f_name_place.kp T.b_name_place .nil pass0 (pa_cons (pv 0) pa_nil)) pa_nil))) (pg_tup (by rfl) (pgs_cons (pg_name (i := 1) sc_is_lone_tag.nd rfl (.inl rfl)) (pgs_cons (pg_name (i := 2) sc_is_lone_tag.nd rfl (.inl rfl)) pgs_nil))))
        (pss_cons (ps_set (i := 3) sc_is_lone_tag.nd rfl (.inl rfl) (pe_call (ok_tag_at T) (hr.mono (by decide)) (by rfl) T.g_tag_at T.f_tag_at.kp T.b_tag_at .nil pass0 (pa_cons (pv 0) (pa_cons pe_int pa_nil))))
        (pss_one (ps_ret (pe_and (pe_cmpR op_notN (pv 3) pe_non (nomark _)) (pe_and (pe_cmpR op_notIn_seq (pv 1) (pe_glob (v := .ref T.a_RAW_NAMES) rfl T.g_RAW_NAMES rfl) (by rfl)) (pe_one (pe_call (ok_is_blank T) (hr.mono (by decide)) (by rfl) T.g_is_blank T.f_is_blank.kp T.b_is_blank .nil pass0 (pa_cons (pe_slice sl_str (pv 0) (po_some (pv 3)) po_none) pa_nil))))))))), ?_⟩
    unfold lone at q
    refine ⟨_, rfl, _, rfl, t, rfl, t, place t, rfl, tp, fun H1 r s1 hr1 => ?_⟩
    refine ⟨r, _, rfl, SqT.of hr1, rfl, _, _, rfl, _, _, rfl, rfl, ?_⟩
    refine ⟨_, rfl, t, 0, rfl, ⟨Nat.zero_le _, tp.sz⟩, fun H2 s2 => ?_⟩
    rw [List.drop_zero]
    refine ⟨_, rfl, rfl, ?_⟩
    rw [ov_none]
    have q' := q H2 (s1.trans s2)
    cases ht : tagR t with
    | none =>
      rw [ht] at q'
      exact ⟨_, rfl, q'⟩
    | some e =>
      rw [ht] at q'
      have se : e <:+ t := tag_suf ht
      refine ⟨_, rfl, ?_⟩
      refine andV (notInA rfl (fun _ h => h) (sq_RAW T H2)) (fun Q q => ?_) _ q'
      refine ⟨_, rfl, _, rfl, _, rfl, _, rfl, tp.line, ?_⟩
      rw [S_cut, pos_drop se]
      exact ⟨e, rfl, (by have := se.length_le; have := tp.sz; omega), q⟩
theorem startsB {K : PySem.W.Frag} {σ : L2.St} {H : Hp} {i : Nat} {b w : List Nat} {x : Str} (hi : σ[i]? = some (some (.str (S b)))) (hx : x = S w) (hw : w ≠ []) :
    AnsB (tB (tBM K "str" (fun x xs H Q => ∃ a b, x = .str a ∧ xs = [.str b] ∧ Q (.bl (Txt.startswith a b)) H) (tVar i) (tCons (tC (.str x)) tNil))) σ H (w.isPrefixOf b) := fun Q q => startsA hi hx hw _ ⟨_, rfl, q⟩
theorem andB {ta tb : TT} {σ : L2.St} {H : Hp} {a b : Bool} (ha : AnsB ta σ H a) (hb : a = true → AnsB tb σ H b) : AnsB (tAnd ta tb) σ H (a && b) := fun Q q => by
  refine ha _ ?_
  cases a with
  | true => exact hb rfl _ q
  | false => exact q
def sp_html_kind (K : PySem.W.Frag) : Sp := fun vs H Q _ => ∃ (t : List Nat), vs = [.str (S t)] ∧ t.length ≤ 100000 ∧ ∀ H', Same H H' → Q (.int (kindR t : Nat)) H'
theorem ok_html_kind {P : Program} {w : World} {K : PySem.W.Frag} {mg : Str → Option Value} {base : Heap} (T : Txt K mg) : FnOk P w K mg base CX0 7 T.a_html_kind T.d_html_kind ["line"] (sp_html_kind K) := by
  refine T.f_html_kind.ok sc_html_kind (fun vs H Q E h => ?_) (fun cdv A outer s H vs Q E hr h => ?_)
  · obtain ⟨t, rfl, _⟩ := h
    rfl
  · obtain ⟨t, rfl, tz, q⟩ := h
    refine ⟨_, (pss_cons (ps_if (pt_not (pt_val (pe_bm PySem.F.plainAttrs_str PySem.F.slot_str_startswith PySem.F.type_str_startswith mt_startswith (pv 0) (pa_cons pe_str pa_nil)))) (pss_one (ps_ret pe_int)) pss_nil)
        (pss_cons (ps_if (pt_val (pe_call (ok_begins_raw T) (hr.mono (by decide)) (by rfl) T.g_begins_raw T.f_begins_raw.kp T.b_begins_raw .nil pass0 (pa_cons (pv 0) pa_nil))) (pss_one (ps_ret pe_int)) pss_nil)
        (pss_cons (ps_if (pt_val (pe_bm PySem.F.plainAttrs_str PySem.F.slot_str_startswith PySem.F.type_str_startswith mt_startswith (pv 0) (pa_cons pe_str pa_nil))) (pss_one (ps_ret pe_int)) pss_nil)
        (pss_cons (ps_if (pt_val (pe_bm PySem.F.plainAttrs_str PySem.F.slot_str_startswith PySem.F.type_str_startswith mt_startswith (pv 0) (pa_cons pe_str pa_nil))) (pss_one (ps_ret pe_int)) pss_nil)
        (pss_cons (ps_if (PW.pt (pw_and (pt_val (pe_bm PySem.F.plainAttrs_str PySem.F.slot_str_startswith PySem.F.type_str_startswith mt_startswith (pv 0) (pa_cons pe_str pa_nil))) (pw_and1 (pt_val (pe_call (ok_is_letter T) (hr.mono (by decide)) (by rfl) T.g_is_letter T.f_is_letter.kp T.b_is_letter .nil pass0 (pa_cons (pv 0) (pa_cons pe_int pa_nil))))))) (pss_one (ps_ret pe_int)) pss_nil)
        (pss_cons (ps_if (pt_val (pe_bm PySem.F.plainAttrs_str PySem.F.slot_str_startswith PySem.F.type_str_startswith mt_startswith (pv 0) (pa_cons pe_str pa_nil))) (pss_one (ps_ret pe_int)) pss_nil)
        (pss_cons (ps_if (pt_val (pe_call (ok_begins_block T) (hr.mono (by decide)) (by rfl) T.g_begins_block T.f_begins_block.kp T.b_begins_block .nil pass0 (pa_cons (pv 0) pa_nil))) (pss_one (ps_ret pe_int)) pss_nil)
        (pss_cons (ps_if (pt_val (pe_call (ok_is_lone_tag T) (hr.mono (by decide)) (by rfl) T.g_is_lone_tag T.f_is_lone_tag.kp T.b_is_lone_tag .nil pass0 (pa_cons (pv 0) pa_nil))) (pss_one (ps_ret pe_int)) pss_nil)
        (pss_one (ps_ret pe_int)))))))))), ?_⟩
    unfold kindR at q
    refine ⟨_, rfl, rfl, _, _, rfl, rfl, _, rfl, ?_⟩
    rw [lit_lt, starts1 t _ (by simp)]
    cases h60 : ([60] : List Nat).isPrefixOf t with
    | false =>
      rw [h60, if_neg Bool.false_ne_true] at q
      exact iteT (q H (Same.refl _))
    | true =>
    rw [h60, if_pos rfl] at q
    refine iteF ?_
    have h1 : 1 ≤ t.length := pre_len _ _ h60
    have tp1 : TP t 1 := ⟨h1, tz⟩
    have tpp : TP t (place t) := ⟨place_le h60, tz⟩
    refine ⟨_, rfl, t, rfl, tp1, fun H1 s1 => ⟨_, rfl, ite2 (fun h => ?_) (fun h => ?_)⟩⟩
    · rw [if_pos h] at q
      exact q H1 s1
    rw [if_neg h] at q
    refine startsB (w := [60, 33, 45, 45]) rfl lit_c1 (by simp) _ (ite2 (fun h => ?_) (fun h => ?_))
    · rw [if_pos h] at q
      exact q H1 s1
    rw [if_neg h] at q
    refine startsB (w := [60, 63]) rfl lit_i1 (by simp) _ (ite2 (fun h => ?_) (fun h => ?_))
    · rw [if_pos h] at q
      exact q H1 s1
    rw [if_neg h] at q
    refine andB (a := ([60, 33] : List Nat).isPrefixOf t) (b := letterR (t.drop 2)) (startsB (w := [60, 33]) rfl lit_e1 (by simp)) (fun h2 Q q => ?_) _ (ite2 (fun h => ?_) (fun h => ?_))
    · exact ⟨_, rfl, t, 2, rfl, ⟨pre_len _ _ h2, tz⟩, _, rfl, q⟩
    · rw [if_pos (Bool.and_eq_true_iff.mp h)] at q
      exact q H1 s1
    rw [if_neg fun z => h (Bool.and_eq_true_iff.mpr z)] at q
    refine startsB (w := [60, 33, 91, 67, 68, 65, 84, 65, 91]) rfl lit_d1 (by simp) _ (ite2 (fun h => ?_) (fun h => ?_))
    · rw [if_pos h] at q
      exact q H1 s1
    rw [if_neg h] at q
    refine ⟨_, rfl, t, rfl, tpp, fun H2 s2 => ⟨_, rfl, ite2 (fun h => ?_) (fun h => ?_)⟩⟩
    · rw [if_pos h] at q
      exact q H2 (s1.trans s2)
    rw [if_neg h] at q
    refine ⟨_, rfl, t, rfl, tpp, fun H3 s3 => ⟨_, rfl, ite2 (fun h => ?_) (fun h => ?_)⟩⟩
    · rw [if_pos h] at q
      exact q H3 (s1.trans (s2.trans s3))
    rw [if_neg h] at q
    exact q H3 (s1.trans (s2.trans s3))
def sp_html_ends (K : PySem.W.Frag) : Sp := fun vs H Q _ => ∃ (k : Nat) (t : List Nat), vs = [.int (k : Int), .str (S t)] ∧ t.length ≤ 100000 ∧ (∀ c ∈ t, c < 128) ∧ ∀ H', Same H H' → Q (.bl (endsR k t)) H'
theorem ok_html_ends {P : Program} {w : World} {K : PySem.W.Frag} {mg : Str → Option Value} {base : Heap} (T : Txt K mg) : FnOk P w K mg base CX0 2 T.a_html_ends T.d_html_ends ["kind", "line"] (sp_html_ends K) := by
  refine T.f_html_ends.ok sc_html_ends (fun vs H Q E h => ?_) (fun cdv A outer s H vs Q E hr h => ?_)
  · obtain ⟨k, t, rfl, _⟩ := h
    rfl
  · obtain ⟨k, t, rfl, tz, ta, q⟩ := h
    refine ⟨_, (pss_cons (ps_if (pt_cmpR (op_in_ki T.ki_ENDS) (pv 0) (pe_glob (v := .ref T.a_ENDS) rfl T.g_ENDS rfl) (by rfl)) (pss_cons (ps_set (i := 2) sc_html_ends.nd rfl (.inr rfl) (pe_bm0 PySem.F.plainAttrs_str PySem.F.slot_str_lower PySem.F.type_str_lower mt_lower (pv 1)))
        (pss_one (ps_ret (pe_callB (cr_any rfl) (by rfl) T.z_any (by decide +kernel) (pa_cons (pe_lc (own := [("end", 3)]) (g := (gName 3)) (tt := tYes) (by rfl) sc_html_ends.nd (pi_tup (pe_ix (ix_ki T.ki_ENDS) (pe_glob (v := .ref T.a_ENDS) rfl T.g_ENDS rfl) (pv 0) (fun _ _ => rfl))) (blkOk_by (own := [("end", 3)]) (N := ["kind", "line", "small", "end"]) (sc := defScope s_html_ends) (by decide +kernel)) (fun _ _ _ _ _ => (pg_name (i := 3) sc_html_ends.nd rfl (Or.inl rfl))) (fun _ _ _ _ _ => pts_nil) (fun _ _ _ _ _ => (pe_cmpR op_in_str (pv 3) (pv 2) (by rfl)))) pa_nil))))) pss_nil)
        (pss_one (ps_ret (pe_call (ok_is_blank T) (hr.mono (by decide)) (by rfl) T.g_is_blank T.f_is_blank.kp T.b_is_blank .nil pass0 (pa_cons (pv 1) pa_nil))))), ?_⟩
    unfold endsR at q
    refine ⟨_, rfl, (k : Int), rfl, rfl, _, rfl, ?_⟩
    have hk : ((ENDSL T).lookup (k : Int)).isSome = decide (1 ≤ k ∧ k ≤ 5) := by
      by_cases h : 1 ≤ k ∧ k ≤ 5
      · have : k = 1 ∨ k = 2 ∨ k = 3 ∨ k = 4 ∨ k = 5 := by omega
        rcases this with rfl | rfl | rfl | rfl | rfl <;> rfl
      · rw [decide_eq_false h]
        unfold ENDSL
        have n1 : ((k : Int) == 1) = false := beq_eq_false_iff_ne.mpr (by omega)
        have n2 : ((k : Int) == 2) = false := beq_eq_false_iff_ne.mpr (by omega)
        have n3 : ((k : Int) == 3) = false := beq_eq_false_iff_ne.mpr (by omega)
        have n4 : ((k : Int) == 4) = false := beq_eq_false_iff_ne.mpr (by omega)
        have n5 : ((k : Int) == 5) = false := beq_eq_false_iff_ne.mpr (by omega)
        rw [List.lookup_cons, n1, List.lookup_cons, n2, List.lookup_cons, n3, List.lookup_cons, n4, List.lookup_cons, n5]
        rfl
    rw [hk]
    by_cases h : 1 ≤ k ∧ k ≤ 5
    · rw [decide_eq_true h]
      rw [if_pos h] at q
      refine iteT ?_
      refine ⟨_, rfl, rfl, _, rfl, rfl, (by rw [S_len]; omega), ?_⟩
      rw [lower_S t ta]
      obtain ⟨a, ha, hs⟩ : ∃ a, (ENDSL T).lookup (k : Int) = some a ∧ ∀ H, SqT K H a ((EndsL k).map fun l => V.str (S l)) := by
        have : k = 1 ∨ k = 2 ∨ k = 3 ∨ k = 4 ∨ k = 5 := by omega
        rcases this with rfl | rfl | rfl | rfl | rfl
        · exact ⟨_, rfl, sq_ENDS_0 T⟩
        · exact ⟨_, rfl, sq_ENDS_1 T⟩
        · exact ⟨_, rfl, sq_ENDS_2 T⟩
        · exact ⟨_, rfl, sq_ENDS_3 T⟩
        · exact ⟨_, rfl, sq_ENDS_4 T⟩
      refine ⟨_, rfl, (k : Int), a, rfl, rfl, ha, ?_⟩
      have hne : ∀ e ∈ EndsL k, e ≠ [] := by
        have : k = 1 ∨ k = 2 ∨ k = 3 ∨ k = 4 ∨ k = 5 := by omega
        rcases this with rfl | rfl | rfl | rfl | rfl <;> decide
      have hlen : (EndsL k).length ≤ 4 := by
        have : k = 1 ∨ k = 2 ∨ k = 3 ∨ k = 4 ∨ k = 5 := by omega
        rcases this with rfl | rfl | rfl | rfl | rfl <;> decide
      generalize EndsL k = es at hs hne hlen q ⊢
      generalize t.map lo1 = low at q ⊢
      refine ⟨a, rfl, ⟨_, hs _⟩, fun D nD => ?_⟩
      refine lc_tup (K := K) (a := a) (xs := es.map fun l => V.str (S l)) (fun i H' => Same H H' ∧ H' D = some (.lst ((es.take i).map fun e => V.bl (inL e low)))) ?_ (fun i H' _ _ => hs H') ?_ ?_
      · exact ⟨same_new nD, upd_same⟩
      · rintro j x H5 hj ⟨s5, h5⟩
        obtain ⟨e, hej, rfl⟩ : ∃ e, es[j]? = some e ∧ x = V.str (S e) := by
          rw [List.getElem?_map] at hj
          cases he : es[j]? with
          | none => rw [he] at hj; cases hj
          | some z => rw [he] at hj; exact ⟨z, rfl, (Option.some.inj hj).symm⟩
        have hem : e ∈ es := List.mem_of_getElem? hej
        refine ⟨rfl, _, rfl, _, rfl, _, _, rfl, rfl, _, h5, ?_, fun b o hb => ?_, ?_⟩
        · rw [List.length_map, List.length_take, sizeLine_eq]
          omega
        · rw [upd_ne (ne_of_none hb nD)]
          exact s5 _ _ hb
        · rw [upd_same, in_S low e (hne e hem), List.take_add_one, hej, List.map_append]
          rfl
      · rintro H5 ⟨s5, h5⟩
        rw [List.length_map, List.take_length] at h5
        refine ⟨D, es.map fun e => inL e low, rfl, SqL.of (by rw [h5, List.map_map]; rfl), ?_⟩
        rw [List.any_map]
        exact q H5 s5
    · rw [decide_eq_false h]
      rw [if_neg h] at q
      refine iteF ?_
      exact ⟨_, rfl, t, rfl, tz, q H (Same.refl _)⟩

/-! ### the law's names -/
theorem words_law : Txt.words (((((("address article aside base basefont blockquote body caption center col colgroup dd details" : Str) ++ (" dialog dir div dl dt fieldset figcaption figure footer form frame frameset h1 h2 h3" : Str)) ++ (" h4 h5 h6 head header hr html iframe legend li link main menu menuitem nav noframes" : Str)) ++ (" ol optgroup option p param search section summary table tbody td tfoot th thead" : Str)) ++ (" title tr track ul" : Str))) = BlockL.map S := by decide +kernel
def sp__law_names (K : PySem.W.Frag) : Sp := fun vs H Q _ => vs = [] ∧ ∀ H' r, Same H H' → H r = none → H' r = some (.lst (BlockL.map fun l => V.str (S l))) → Q (.ref r) H'
theorem ok__law_names {P : Program} {w : World} {K : PySem.W.Frag} {mg : Str → Option Value} {base : Heap} (T : Txt K mg) : FnOk P w K mg base CX0 1 T.a__law_names T.d__law_names [] (sp__law_names K) := by
  refine T.f__law_names.ok sc__law_names (fun vs H Q E h => ?_) (fun cdv A outer s H vs Q E hr h => ?_)
  · obtain ⟨rfl, _⟩ := h
    rfl
  · obtain ⟨rfl, q⟩ := h
    refine ⟨_, (pss_cons (ps_set (i := 0) sc__law_names.nd rfl (.inl rfl) pe_str)
        (pss_cons (ps_set (i := 0) sc__law_names.nd rfl (.inl rfl) (pe_op op_add_str (pv 0) pe_str))
        (pss_cons (ps_set (i := 0) sc__law_names.nd rfl (.inl rfl) (pe_op op_add_str (pv 0) pe_str))
        (pss_cons (ps_set (i := 0) sc__law_names.nd rfl (.inl rfl) (pe_op op_add_str (pv 0) pe_str))
        (pss_cons (ps_set (i := 0) sc__law_names.nd rfl (.inl rfl) (pe_op op_add_str (pv 0) pe_str))
        (pss_one (ps_ret (pe_words (pv 0))))))))), ?_⟩
    refine ⟨_, rfl, _, _, rfl, rfl, (by decide +kernel), ?_⟩
    refine ⟨_, rfl, _, _, rfl, rfl, (by decide +kernel), ?_⟩
    refine ⟨_, rfl, _, _, rfl, rfl, (by decide +kernel), ?_⟩
    refine ⟨_, rfl, _, _, rfl, rfl, (by decide +kernel), ?_⟩
    refine ⟨_, rfl, ⟨_, rfl⟩, _, rfl, rfl, (by decide +kernel), ?_⟩
    rw [words_law]
    intro p np
    refine q _ p (same_new np) np ?_
    rw [upd_same, List.map_map]
    rfl

theorem tup_ne {H : Hp} {f L : Addr} {xs : List V} (h : H f = some (.tup xs)) (w : Well H L) : f ≠ L := by
  obtain ⟨x, y, e⟩ := w
  exact ne_of h e fun z => by cases z
def sp__law_cased (K : PySem.W.Frag) : Sp := fun vs H Q _ => ∃ (L : Addr) (w : List Nat), vs = [.ref L, .str (S w)] ∧ Well H L ∧ w.length ≤ 10 ∧ (∀ y ∈ w, y < 128) ∧
  ∀ H' c, Keeps L H H' → Well H' L → Cased c w → Q (.str (S c)) H'
theorem join_nil (ls : List (List Nat)) : Txt.join (S []) (ls.map S) = S ls.flatten := by
  rw [TL.join_eq]
  have e := TL.tl_join (S []) (ls.map S)
  have e2 : (ls.map S).map TL.tl = ls := by
    rw [List.map_map]
    conv => rhs; rw [← List.map_id ls]
    exact List.map_congr_left fun l _ => S_tl l
  rw [e2] at e
  have e3 : TL.tl (S []) = [] := S_tl _
  rw [e3] at e
  have e4 : ∀ ls : List (List Nat), TL.joinL [] ls = ls.flatten := by
    intro ls
    induction ls with
    | nil => rfl
    | cons a r ih =>
      cases r with
      | nil => simp [TL.joinL]
      | cons b r => 
        show a ++ ([] ++ TL.joinL [] (b :: r)) = _
        rw [ih]
        simp
  rw [e4] at e
  rw [S_of (Str.join (S []) (ls.map S))]
  exact congrArg S e
theorem flat_one : ∀ l : List Nat, (l.map fun c => [c]).flatten = l
  | [] => rfl
  | c :: l => by rw [List.map_cons, List.flatten_cons, flat_one l]; rfl
theorem join_chars (l : List Nat) : Txt.join (S []) (l.map fun c => S [c]) = S l := by
  have h := join_nil (l.map fun c => [c])
  rw [List.map_map, flat_one] at h
  exact h
theorem sum_one : ∀ c : List Nat, ((c.map fun x => S [x]).map (·.length)).sum = c.length
  | [] => rfl
  | x :: c => by
    rw [List.map_cons, List.map_cons, List.sum_cons, sum_one c, S_len, List.length_singleton, List.length_cons, Nat.add_comm]
theorem keeps_upd {L D : Addr} {H H' : Hp} {o : HO} (k : Keeps L H H') (n : H D = none) : Keeps L H (upd H' D o) := fun b x hb e => by
  rw [upd_ne (ne_of_none e n)]
  exact k b x hb e
theorem well_upd {L D : Addr} {H : Hp} {o : HO} (w : Well H L) (n : D ≠ L) : Well (upd H D o) L := by
  obtain ⟨x, y, e⟩ := w
  exact ⟨x, y, by rw [upd_ne n.symm]; exact e⟩
theorem ok__law_cased {P : Program} {w : World} {K : PySem.W.Frag} {mg : Str → Option Value} {base : Heap} (T : Txt K mg) : FnOk P w K mg base CX0 2 T.a__law_cased T.d__law_cased ["_law_well_here", "_law_word"] (sp__law_cased K) := by
  refine T.f__law_cased.ok sc__law_cased (fun vs H Q E h => ?_) (fun cdv A outer s H vs Q E hr h => ?_)
  · obtain ⟨L, w, rfl, _⟩ := h
    rfl
  · obtain ⟨L, w, rfl, hW, hw, ha, q⟩ := h
    refine ⟨_, (pss_one (ps_ret (pe_join pe_str (pe_lc (own := [("_law_sign", 2)]) (g := (gName 2)) (tt := tYes) (by rfl) sc__law_cased.nd (pi_str (pv 1)) (blkOk_by (own := [("_law_sign", 2)]) (N := ["_law_well_here", "_law_word", "_law_sign"]) (sc := defScope s__law_cased) (by decide +kernel)) (fun _ _ _ _ _ => (pg_name (i := 2) sc__law_cased.nd rfl (Or.inl rfl))) (fun _ _ _ _ _ => pts_nil) (fun _ _ _ _ _ => (pe_ifExp (pt_cmpR op_eq (pe_call (ok__law_draw T) (hr.mono (by decide)) (by rfl) T.g__law_draw T.f__law_draw.kp T.b__law_draw .nil pass0 (pa_cons (pv 0) (pa_cons pe_int pa_nil))) pe_int (nomark _)) (pe_upper (pv 2)) (pv 2))))))), ?_⟩
    refine ⟨⟨_, rfl⟩, _, rfl, _, rfl, fun D nD => ?_⟩
    have nDL : D ≠ L := hW.ne nD
    refine lc_it walk_str (fun i H' => Keeps L H H' ∧ Well H' L ∧ ∃ c : List Nat, H' D = some (.lst (c.map fun x => V.str (S [x]))) ∧ Cased c (w.take i)) ?_ (fun _ _ _ _ => trivial) ?_ ?_
    · exact ⟨.new nD, hW.new nD, [], upd_same, trivial⟩
    · rintro i x H5 H5' hi ⟨k5, w5, c, hD, hc⟩ ⟨rfl, z, hz, rfl⟩
      rw [S_get] at hz
      have hzm : z ∈ w := List.mem_of_getElem? hz
      have hcl : c.length ≤ 10 := by
        have h1 := cased_len hc
        rw [List.length_take] at h1
        omega
      refine ⟨rfl, _, rfl, L, 3, rfl, by decide, by decide, w5, fun H6 d k6 w6 h0 h1 => ⟨rfl, _, rfl, ite2 (fun _ => ?_) (fun _ => ?_)⟩⟩
      · refine ⟨_, rfl, ⟨_, rfl⟩, _, rfl, rfl, (by show 1 ≤ 5592405; decide), ?_⟩
        have eu : Txt.upper ⟨#[z]⟩ = S [up1 z] := upper_S [z] (fun y hy => by rw [List.mem_singleton.mp hy]; exact ha z hzm)
        rw [eu]
        refine ⟨_, k6 _ _ nDL hD, (by rw [List.length_map, sizeLine_eq]; omega), keeps_upd (k5.trans k6) nD, well_upd w6 nDL, c ++ [up1 z], ?_, ?_⟩
        · rw [upd_same, List.map_append]
          rfl
        · rw [List.take_add_one, hz]
          exact cased_snoc (.inr rfl) hc
      · refine ⟨_, rfl, _, k6 _ _ nDL hD, (by rw [List.length_map, sizeLine_eq]; omega), keeps_upd (k5.trans k6) nD, well_upd w6 nDL, c ++ [z], ?_, ?_⟩
        · rw [upd_same, List.map_append]
          rfl
        · rw [List.take_add_one, hz]
          exact cased_snoc (.inl rfl) hc
    · rintro H5 ⟨k5, w5, c, hD, hc⟩
      rw [S_size, List.take_length] at hc
      have hcl := cased_len hc
      refine ⟨_, D, c.map fun x => S [x], rfl, rfl, .inl (SqL.of (by rw [hD, List.map_map]; rfl)), ?_, ?_⟩
      · have e0 : (("" : Str)).length = 0 := by decide +kernel
        rw [e0, sum_one]
        omega
      · rw [lit_no, join_chars]
        exact q H5 c k5 w5 hc
/-! ### menus: lists of pairs of a text and a thing -/
def menuT : List (Str × V) → TA
  | [] => tNil
  | p :: ms => tCons (tTup (tCons (tC (.str p.1)) (tCons (tC p.2) tNil))) (menuT ms)
def MAt (H : Hp) (v : V) (p : Str × V) : Prop := ∃ r, v = .ref r ∧ H r = some (.tup [.str p.1, p.2])
def Menu (H : Hp) (xs : List V) (ms : List (Str × V)) : Prop := ∀ v ∈ xs, ∃ p ∈ ms, MAt H v p
theorem MAt.same {H H' : Hp} {v : V} {p : Str × V} (h : MAt H v p) (sm : Same H H') : MAt H' v p := by
  obtain ⟨r, e, h⟩ := h
  exact ⟨r, e, sm _ _ h⟩
theorem Menu.same {H H' : Hp} {xs : List V} {ms : List (Str × V)} (h : Menu H xs ms) (sm : Same H H') : Menu H' xs ms := fun v hv => by
  obtain ⟨p, hp, h⟩ := h v hv
  exact ⟨p, hp, h.same sm⟩
theorem Menu.keep {L : Addr} {H H' : Hp} {xs : List V} {ms : List (Str × V)} (h : Menu H xs ms) (w : Well H L) (k : Keeps L H H') : Menu H' xs ms := fun v hv => by
  obtain ⟨p, hp, r, e, h⟩ := h v hv
  exact ⟨p, hp, r, e, k _ _ (tup_ne h w) h⟩
theorem Menu.app {H : Hp} {xs ys : List V} {ms ns : List (Str × V)} (h : Menu H xs ms) (g : Menu H ys ns) : Menu H (xs ++ ys) (ms ++ ns) := fun v hv => by
  rcases List.mem_append.mp hv with hv | hv
  · obtain ⟨p, hp, h⟩ := h v hv
    exact ⟨p, List.mem_append_left _ hp, h⟩
  · obtain ⟨p, hp, h⟩ := g v hv
    exact ⟨p, List.mem_append_right _ hp, h⟩
theorem menu_read : ∀ (ms : List (Str × V)) (σ : L2.St) (H : Hp) (P : List V → Hp → Prop), (∀ H' xs, Same H H' → Menu H' xs ms → xs.length = ms.length → P xs H') → menuT ms σ H P
  | [], σ, H, P, h => h H [] (Same.refl _) (fun _ hv => by cases hv) rfl
  | p :: ms, σ, H, P, h => by
    refine ⟨by show 2 ≤ sizeLine; decide, fun r nr => ?_⟩
    refine menu_read ms σ _ _ fun H' xs sm hm hl => ?_
    refine h H' (.ref r :: xs) ((same_new nr).trans sm) (fun v hv => ?_) (by rw [List.length_cons, hl, List.length_cons])
    rcases List.mem_cons.mp hv with rfl | hv
    · exact ⟨p, List.mem_cons_self .., r, rfl, sm _ _ upd_same⟩
    · obtain ⟨q, hq, h'⟩ := hm v hv
      exact ⟨q, List.mem_cons_of_mem _ hq, h'⟩
/-- the list of a menu -/
theorem menu_list (ms : List (Str × V)) (hs : ms.length ≤ 100) (σ : L2.St) (H : Hp) (Q : VK) (h : ∀ H' a xs, Same H H' → H' a = some (.lst xs) → H a = none → Menu H' xs ms → xs.length = ms.length → Q (.ref a) H') : tLst (menuT ms) σ H Q := by
  refine menu_read ms σ H _ fun H' xs sm hm hl => ⟨by rw [hl]; exact Nat.le_trans hs (by decide), fun a na => ?_⟩
  refine h _ a xs (sm.trans (same_new na)) upd_same ?_ (hm.same (same_new na)) hl
  cases e : H a with
  | none => rfl
  | some o => rw [sm _ _ e] at na; cases na
theorem new_ne {H : Hp} {L a : Addr} (w : Well H L) (na : H a = none) : a ≠ L := w.ne na
/-- one of a menu that stands in a variable -/
theorem one_var {K : PySem.W.Frag} {ms : List (Str × V)} {xs : List V} {a : Addr} {σ : L2.St} {H : Hp} {Q : VK} {L : Addr} (w : Well H L) {i j : Nat} (hi : σ[i]? = some (some (.ref L))) (hj : σ[j]? = some (some (.ref a)))
    (ha : H a = some (.lst xs)) (hne : a ≠ L) (hm : Menu H xs ms) (h0 : xs ≠ []) (hs : xs.length ≤ 100)
    (h : ∀ H' r p, Keeps L H H' → Well H' L → p ∈ ms → H' r = some (.tup [.str p.1, p.2]) → Q (.ref r) H') :
    tCall (sp__law_one K) [] E0 (tCons (tVar i) (tCons (tVar j) tNil)) σ H Q := by
  refine ⟨_, hi, _, hj, L, a, xs, rfl, SqL.of ha, hne, h0, by omega, w, fun H2 v k2 w2 hv => ?_⟩
  obtain ⟨p, hp, r, rfl, hr⟩ := (hm.keep w k2) v hv
  exact h H2 r p k2 w2 hp hr
/-- one of some texts -/
def textsT : List Str → TA
  | [] => tNil
  | s :: ms => tCons (tC (.str s)) (textsT ms)
theorem texts_read : ∀ (ms : List Str) (σ : L2.St) (H : Hp) (P : List V → Hp → Prop), P (ms.map .str) H → textsT ms σ H P
  | [], _, _, _, h => h
  | s :: ms, σ, H, P, h => texts_read ms σ H (fun xs H2 => P (.str s :: xs) H2) h
theorem one_text {K : PySem.W.Frag} (ms : List Str) (h0 : ms ≠ []) (hs : ms.length ≤ 100) {σ : L2.St} {H : Hp} {Q : VK} {L : Addr} (w : Well H L) {i : Nat} (hi : σ[i]? = some (some (.ref L)))
    (h : ∀ H' s, Keeps L H H' → Well H' L → s ∈ ms → Q (.str s) H') :
    tCall (sp__law_one K) [] E0 (tCons (tVar i) (tCons (tLst (textsT ms)) tNil)) σ H Q := by
  refine ⟨_, hi, texts_read ms σ H _ ⟨by rw [List.length_map]; exact Nat.le_trans hs (by decide), fun a na => ?_⟩⟩
  refine ⟨L, a, _, rfl, SqL.of upd_same, w.ne na, by simpa using h0, by rw [List.length_map]; omega, w.new na, fun H2 v k2 w2 hv => ?_⟩
  obtain ⟨s, hs, rfl⟩ := List.mem_map.mp hv
  exact h H2 s ((Keeps.new na).trans k2) w2 hs
theorem p0 (x y : V) : atI [x, y] 0 = some x := atI_nat (j := 0) rfl
theorem p1 (x y : V) : atI [x, y] 1 = some y := atI_nat (j := 1) rfl
theorem add_S {a b : List Nat} {n : Nat} (h : a.length + b.length ≤ n) (hn : n ≤ 1000 := by decide) : (S a).length + (S b).length ≤ sizeLine := by
  rw [S_len, S_len, sizeLine_eq]
  omega
theorem asg_menu_g {ms : List (Str × V)} (hs : ms.length ≤ 100) {g : TG} {u : TS} {D : Ends} {σ : L2.St} {H : Hp} {i : Nat} {x : V} (h : ∀ H' a xs, Same H H' → H' a = some (.lst xs) → H a = none → Menu H' xs ms → xs.length = ms.length → g (.ref a) (σ.set i (some x)) H' (u D)) :
    gName i x σ H { D with nx := tSeq (tAsg (tLst (menuT ms)) g) u D }.nx := menu_list ms hs (σ.set i (some x)) H (fun v H' => g v (σ.set i (some x)) H' (u D)) h
/-! ### a row: nothing, or a text and its kind -/
def RowOk (H : Hp) (v : V) : Prop := v = .non ∨ ∃ (r : Addr) (t : List Nat), v = .ref r ∧ H r = some (.tup [.str (S t), .int (kindR t : Nat)]) ∧ t.length ≤ 100
theorem name_row {H : Hp} {p : Addr} {t : List Nat} {k : Nat} (h : H p = some (.tup [.str (S t), .int (k : Nat)])) (hk : kindR t = k) (hl : t.length ≤ 100) : RowOk H (.ref p) := .inr ⟨p, t, rfl, by rw [hk]; exact h, hl⟩
def sp__law_six (K : PySem.W.Frag) : Sp := fun vs H Q _ => ∃ (L : Addr), vs = [.ref L] ∧ Well H L ∧ ∀ H' v, Keeps L H H' → Well H' L → RowOk H' v → Q v H'
def Six7 : List (Str × V) := [("", .bl true), (" x", .bl true), ("\t", .bl true), (">", .bl true), ("/>", .bl true), ("> y", .bl true), ("/ >", .bl false)]
theorem six_all : Six7 = SixB.map fun x => (S x.1, V.bl x.2) := by
  show [_, _, _, _, _, _, _] = [_, _, _, _, _, _, _]
  rw [show ("" : Str) = S [] by decide +kernel, show (" x" : Str) = S [32, 120] by decide +kernel, show ("\t" : Str) = S [9] by decide +kernel, show (">" : Str) = S [62] by decide +kernel, show ("/>" : Str) = S [47, 62] by decide +kernel, show ("> y" : Str) = S [62, 32, 121] by decide +kernel, show ("/ >" : Str) = S [47, 32, 62] by decide +kernel]
def OtherN : List (List Nat) := [[115, 111, 117, 114, 99, 101], [115, 112, 97, 110], [120, 100, 105, 118], [100, 105, 118, 120], [104, 55], [98], [104, 49, 120]]
theorem othern_all : ([.str "source", .str "span", .str "xdiv", .str "divx", .str "h7", .str "b", .str "h1x"] : List V) = OtherN.map fun l => V.str (S l) := by
  show [_, _, _, _, _, _, _] = [_, _, _, _, _, _, _]
  rw [show ("source" : Str) = S [115, 111, 117, 114, 99, 101] by decide +kernel, show ("span" : Str) = S [115, 112, 97, 110] by decide +kernel, show ("xdiv" : Str) = S [120, 100, 105, 118] by decide +kernel, show ("divx" : Str) = S [100, 105, 118, 120] by decide +kernel, show ("h7" : Str) = S [104, 55] by decide +kernel, show ("b" : Str) = S [98] by decide +kernel, show ("h1x" : Str) = S [104, 49, 120] by decide +kernel]
theorem ok__law_six {P : Program} {w : World} {K : PySem.W.Frag} {mg : Str → Option Value} {base : Heap} (T : Txt K mg) : FnOk P w K mg base CX0 3 T.a__law_six T.d__law_six ["_law_well_here"] (sp__law_six K) := by
  refine T.f__law_six.ok sc__law_six (fun vs H Q E h => ?_) (fun cdv A outer s H vs Q E hr h => ?_)
  · obtain ⟨L, rfl, _⟩ := h
    rfl
  · obtain ⟨L, rfl, hW, q⟩ := h
    refine ⟨_, (pss_cons (ps_set (i := 1) sc__law_six.nd rfl (.inl rfl) (pe_call (ok__law_one T) (hr.mono (by decide)) (by rfl) T.g__law_one T.f__law_one.kp T.b__law_one .nil pass0 (pa_cons (pv 0) (pa_cons (pe_op op_cat (pe_call0 (ok__law_names T) (hr.mono (by decide)) (by rfl) T.g__law_names T.f__law_names.kp T.b__law_names .nil pass0) (pe_lst (pa_cons pe_str (pa_cons pe_str (pa_cons pe_str (pa_cons pe_str (pa_cons pe_str (pa_cons pe_str (pa_cons pe_str pa_nil))))))))) pa_nil))))
        (pss_cons (ps_set (i := 2) sc__law_six.nd rfl (.inl rfl) (pe_lst (pa_cons (pe_tup (pa_cons pe_str (pa_cons pe_bl pa_nil))) (pa_cons (pe_tup (pa_cons pe_str (pa_cons pe_bl pa_nil))) (pa_cons (pe_tup (pa_cons pe_str (pa_cons pe_bl pa_nil))) (pa_cons (pe_tup (pa_cons pe_str (pa_cons pe_bl pa_nil))) (pa_cons (pe_tup (pa_cons pe_str (pa_cons pe_bl pa_nil))) (pa_cons (pe_tup (pa_cons pe_str (pa_cons pe_bl pa_nil))) (pa_cons (pe_tup (pa_cons pe_str (pa_cons pe_bl pa_nil))) pa_nil)))))))))
        (pss_cons (ps_set (i := 3) sc__law_six.nd rfl (.inl rfl) (pe_call (ok__law_one T) (hr.mono (by decide)) (by rfl) T.g__law_one T.f__law_one.kp T.b__law_one .nil pass0 (pa_cons (pv 0) (pa_cons (pv 2) pa_nil))))
        (pss_cons (ps_set (i := 4) sc__law_six.nd rfl (.inl rfl) (pe_call (ok__law_one T) (hr.mono (by decide)) (by rfl) T.g__law_one T.f__law_one.kp T.b__law_one .nil pass0 (pa_cons (pv 0) (pa_cons (pe_lst (pa_cons pe_str (pa_cons pe_str pa_nil))) pa_nil))))
        (pss_cons (ps_if (PW.pt (pw_or (pt_cmpR op_notIn_seq (pv 1) (pe_call0 (ok__law_names T) (hr.mono (by decide)) (by rfl) T.g__law_names T.f__law_names.kp T.b__law_names .nil pass0) (by rfl)) (pw_or1 (pt_not (pt_val (pe_ix ix_tup (pv 3) pe_int (fun _ _ => rfl))))))) (pss_one (ps_ret pe_non)) pss_nil)
        (pss_one (ps_ret (pe_tup (pa_cons (pe_op op_add_str (pe_op op_add_str (pv 4) (pe_call (ok__law_cased T) (hr.mono (by decide)) (by rfl) T.g__law_cased T.f__law_cased.kp T.b__law_cased .nil pass0 (pa_cons (pv 0) (pa_cons (pv 1) pa_nil)))) (pe_ix ix_tup (pv 3) pe_int (fun _ _ => rfl))) (pa_cons pe_int pa_nil)))))))))), ?_⟩
    refine ⟨_, rfl, rfl, fun H1 a s1 na ha => ⟨by show 7 ≤ sizeLine; decide, fun b nb => ?_⟩⟩
    have ha1 : (upd H1 b (.lst [.str "source", .str "span", .str "xdiv", .str "divx", .str "h7", .str "b", .str "h1x"])) a = some (.lst (BlockL.map fun l => V.str (S l))) := by rw [upd_ne (ne_of_none ha nb)]; exact ha
    have w1 := (hW.same s1).new (o := .lst [.str "source", .str "span", .str "xdiv", .str "divx", .str "h7", .str "b", .str "h1x"]) nb
    refine ⟨a, b, _, _, rfl, rfl, ha1, upd_same, (by rw [List.length_map]; show 62 + 7 ≤ sizeLine; decide), fun c nc => ?_⟩
    have k1 : Keeps L H _ := (Keeps.of s1).trans ((Keeps.new (o := .lst [.str "source", .str "span", .str "xdiv", .str "divx", .str "h7", .str "b", .str "h1x"]) nb).trans (Keeps.new (o := .lst (BlockL.map (fun l => V.str (S l)) ++ [.str "source", .str "span", .str "xdiv", .str "divx", .str "h7", .str "b", .str "h1x"])) nc))
    refine ⟨L, c, _, rfl, SqL.of upd_same, w1.ne nc, by simp, ?_, w1.new nc, fun H2 v k2 w2 hv => ?_⟩
    · rw [List.length_append, List.length_map]
      show 62 + 7 < _
      decide
    rw [othern_all, ← List.map_append] at hv
    obtain ⟨n, hn, rfl⟩ := List.mem_map.mp hv
    have kk := k1.trans k2
    refine asg_menu_g (ms := Six7) (by decide) fun H3 m xs s3 hm nm hM hl => ?_
    have w3 := w2.same s3
    refine one_var w3 rfl rfl hm (w2.ne nm) hM (by intro z; rw [z] at hl; cases hl) (by rw [hl]; decide) fun H4 r p k4 w4 hp hr => ?_
    rw [six_all] at hp
    obtain ⟨⟨b1, bb⟩, hb, rfl⟩ := List.mem_map.mp hp
    dsimp only at hr
    refine one_text ["<", "</"] (by decide) (by decide) w4 rfl fun H5 o k5 w5 ho => ?_
    have hr5 := k5 _ _ (tup_ne hr w4) hr
    have kk5 := kk.trans ((Keeps.of s3).trans (k4.trans k5))
    refine ⟨_, rfl, rfl, fun H6 e s6 ne he => ⟨e, _, rfl, .inl (SqL.of he), rfl, flat_S _, _, rfl, ?_⟩⟩
    rw [if_pos rfl, inV_S]
    have w6 := w5.same s6
    have hr6 := s6 _ _ hr5
    have kk6 := kk5.trans (Keeps.of s6)
    cases hin : BlockL.contains n with
    | false => exact iteT (iteT (q _ _ kk6 w6 (.inl rfl)))
    | true =>
    refine iteF ?_
    refine ⟨_, rfl, r, _, _, _, rfl, rfl, SqT.of hr6, p1 _ _, bb, rfl, ?_⟩
    cases bb with
    | false => exact iteT (q _ _ kk6 w6 (.inl rfl))
    | true =>
    refine iteF ?_
    have hnb : n ∈ BlockL := by simpa using hin
    obtain ⟨n1, n2, n3⟩ := block_small n hnb
    refine ⟨_, rfl, _, rfl, _, rfl, L, n, rfl, w6, n3, fun y hy => ?_, fun H7 c k7 w7 hc => ?_⟩
    · have : ∀ y ∈ SmallL, y < 128 := by decide
      exact this y (n1 y hy)
    have hr7 := k7 _ _ (tup_ne hr6 w6) hr6
    have hN := cased_name hc n1 n2
    have hcl := cased_len hc
    obtain ⟨q1, q2⟩ := six_ok n hnb _ hb rfl
    dsimp only at q1 q2
    have bl : b1.length ≤ 5 := by
      have : ∀ x ∈ SixB, x.1.length ≤ 5 := by decide
      exact this _ hb
    simp only [List.mem_cons, List.not_mem_nil, or_false] at ho
    rcases ho with rfl | rfl
    · refine ⟨_, _, rfl, rfl, (by rw [lit_lt]; exact add_S (n := 20) (by show 1 + _ ≤ _; omega)), ?_⟩
      rw [lit_lt, S_app]
      refine ⟨_, rfl, r, _, _, _, rfl, rfl, SqT.of hr7, p0 _ _, _, _, rfl, rfl, add_S (n := 30) (by rw [List.length_append]; show 1 + _ + _ ≤ _; omega), (by show 2 ≤ sizeLine; decide), fun p np => ?_⟩
      rw [S_app]
      refine q _ _ (kk6.trans (k7.trans (.new np))) (w7.new np) (name_row upd_same ?_ ?_)
      · exact (kind_open hN).trans q1
      · rw [List.length_append, List.length_append]
        show 1 + _ + _ ≤ _
        omega
    · refine ⟨_, _, rfl, rfl, (by rw [lit_f1]; exact add_S (n := 20) (by show 2 + _ ≤ _; omega)), ?_⟩
      rw [lit_f1, S_app]
      refine ⟨_, rfl, r, _, _, _, rfl, rfl, SqT.of hr7, p0 _ _, _, _, rfl, rfl, add_S (n := 30) (by rw [List.length_append]; show 2 + _ + _ ≤ _; omega), (by show 2 ≤ sizeLine; decide), fun p np => ?_⟩
      rw [S_app]
      refine q _ _ (kk6.trans (k7.trans (.new np))) (w7.new np) (name_row upd_same ?_ ?_)
      · exact (kind_close hN).trans q2
      · rw [List.length_append, List.length_append]
        show 2 + _ + _ ≤ _
        omega
def sp__law_own (K : PySem.W.Frag) : Sp := fun vs H Q _ => ∃ (L : Addr), vs = [.ref L] ∧ Well H L ∧ ∀ H' v, Keeps L H H' → Well H' L → RowOk H' v → Q v H'
def Own8 : List (Str × V) := [("", .int 1), (" a='b'", .int 1), (">x", .int 1), ("\t", .int 1), ("/>", .int 0), ("x>", .int 7), ("x> y", .int 0), ("-a >", .int 7)]
theorem own_all : Own8 = OwnB.map fun x => (S x.1, V.int (x.2 : Nat)) := by
  show [_, _, _, _, _, _, _, _] = [_, _, _, _, _, _, _, _]
  rw [show ("" : Str) = S [] by decide +kernel, show (" a='b'" : Str) = S [32, 97, 61, 39, 98, 39] by decide +kernel, show (">x" : Str) = S [62, 120] by decide +kernel, show ("\t" : Str) = S [9] by decide +kernel, show ("/>" : Str) = S [47, 62] by decide +kernel, show ("x>" : Str) = S [120, 62] by decide +kernel, show ("x> y" : Str) = S [120, 62, 32, 121] by decide +kernel, show ("-a >" : Str) = S [45, 97, 32, 62] by decide +kernel]
  rfl
theorem raws_all : (["script", "pre", "style", "textarea"] : List Str) = RawL.map S := by
  show [_, _, _, _] = [_, _, _, _]
  rw [show ("script" : Str) = S [115, 99, 114, 105, 112, 116] by decide +kernel, show ("pre" : Str) = S [112, 114, 101] by decide +kernel, show ("style" : Str) = S [115, 116, 121, 108, 101] by decide +kernel, show ("textarea" : Str) = S [116, 101, 120, 116, 97, 114, 101, 97] by decide +kernel]
theorem ok__law_own {P : Program} {w : World} {K : PySem.W.Frag} {mg : Str → Option Value} {base : Heap} (T : Txt K mg) : FnOk P w K mg base CX0 3 T.a__law_own T.d__law_own ["_law_well_here"] (sp__law_own K) := by
  refine T.f__law_own.ok sc__law_own (fun vs H Q E h => ?_) (fun cdv A outer s H vs Q E hr h => ?_)
  · obtain ⟨L, rfl, _⟩ := h
    rfl
  · obtain ⟨L, rfl, hW, q⟩ := h
    refine ⟨_, (pss_cons (ps_set (i := 1) sc__law_own.nd rfl (.inl rfl) (pe_call (ok__law_cased T) (hr.mono (by decide)) (by rfl) T.g__law_cased T.f__law_cased.kp T.b__law_cased .nil pass0 (pa_cons (pv 0) (pa_cons (pe_call (ok__law_one T) (hr.mono (by decide)) (by rfl) T.g__law_one T.f__law_one.kp T.b__law_one .nil pass0 (pa_cons (pv 0) (pa_cons (pe_lst (pa_cons pe_str (pa_cons pe_str (pa_cons pe_str (pa_cons pe_str pa_nil))))) pa_nil))) pa_nil))))
        (pss_cons (ps_set (i := 2) sc__law_own.nd rfl (.inl rfl) (pe_lst (pa_cons (pe_tup (pa_cons pe_str (pa_cons pe_int pa_nil))) (pa_cons (pe_tup (pa_cons pe_str (pa_cons pe_int pa_nil))) (pa_cons (pe_tup (pa_cons pe_str (pa_cons pe_int pa_nil))) (pa_cons (pe_tup (pa_cons pe_str (pa_cons pe_int pa_nil))) (pa_cons (pe_tup (pa_cons pe_str (pa_cons pe_int pa_nil))) (pa_cons (pe_tup (pa_cons pe_str (pa_cons pe_int pa_nil))) (pa_cons (pe_tup (pa_cons pe_str (pa_cons pe_int pa_nil))) (pa_cons (pe_tup (pa_cons pe_str (pa_cons pe_int pa_nil))) pa_nil))))))))))
        (pss_cons (ps_set (i := 3) sc__law_own.nd rfl (.inl rfl) (pe_call (ok__law_one T) (hr.mono (by decide)) (by rfl) T.g__law_one T.f__law_one.kp T.b__law_one .nil pass0 (pa_cons (pv 0) (pa_cons (pv 2) pa_nil))))
        (pss_one (ps_ret (pe_call (ok__law_one T) (hr.mono (by decide)) (by rfl) T.g__law_one T.f__law_one.kp T.b__law_one .nil pass0 (pa_cons (pv 0) (pa_cons (pe_lst (pa_cons (pe_tup (pa_cons (pe_op op_add_str (pe_op op_add_str pe_str (pv 1)) (pe_ix ix_tup (pv 3) pe_int (fun _ _ => rfl))) (pa_cons (pe_ix ix_tup (pv 3) pe_int (fun _ _ => rfl)) pa_nil))) (pa_cons (pe_tup (pa_cons (pe_op op_add_str (pe_op op_add_str pe_str (pv 1)) pe_str) (pa_cons pe_int pa_nil))) (pa_cons (pe_tup (pa_cons (pe_op op_add_str pe_str (pv 1)) (pa_cons pe_int pa_nil))) pa_nil)))) pa_nil)))))))), ?_⟩
    refine ⟨_, rfl, one_text ["script", "pre", "style", "textarea"] (by decide) (by decide) hW rfl fun H1 o k1 w1 ho => ?_⟩
    rw [raws_all] at ho
    obtain ⟨n, hn, rfl⟩ := List.mem_map.mp ho
    obtain ⟨n1, n2, n3⟩ := raw_small n hn
    obtain ⟨o1, o2, o3⟩ := own_ok n hn
    refine ⟨L, n, rfl, w1, n3, fun y hy => ?_, fun H2 c k2 w2 hc => ?_⟩
    · have : ∀ y ∈ SmallL, y < 128 := by decide
      exact this y (n1 y hy)
    have hN := cased_name hc n1 n2
    have hcl := cased_len hc
    have kk := k1.trans k2
    refine asg_menu_g (ms := Own8) (by decide) fun H3 m xs s3 hm nm hM hl => ?_
    have w3 := w2.same s3
    refine one_var w3 rfl rfl hm (w2.ne nm) hM (by intro z; rw [z] at hl; cases hl) (by rw [hl]; decide) fun H4 r p k4 w4 hp hr => ?_
    rw [own_all] at hp
    obtain ⟨⟨b1, bk⟩, hb, rfl⟩ := List.mem_map.mp hp
    dsimp only at hr
    have q1 := o1 _ hb
    dsimp only at q1
    have kk4 := kk.trans ((Keeps.of s3).trans k4)
    have bl : b1.length ≤ 6 := by
      have : ∀ x ∈ OwnB, x.1.length ≤ 6 := by decide
      exact this _ hb
    have e1 : kindR (60 :: (c ++ b1)) = bk := (kind_open hN).trans q1
    have e2 : kindR (60 :: 47 :: (c ++ [62])) = 0 := (kind_close hN).trans o2
    have e3 : kindR (60 :: (c ++ [])) = 1 := (kind_open hN).trans o3
    rw [List.append_nil] at e3
    -- the three
    refine ⟨_, rfl, _, rfl, _, _, rfl, rfl, (by rw [lit_lt]; exact add_S (n := 20) (by show 1 + _ ≤ _; omega)), ?_⟩
    rw [lit_lt, S_app]
    refine ⟨_, rfl, r, _, _, _, rfl, rfl, SqT.of hr, p0 _ _, _, _, rfl, rfl, add_S (n := 30) (by rw [List.length_append]; show 1 + _ + _ ≤ _; omega), ?_⟩
    rw [S_app]
    refine ⟨_, rfl, r, _, _, _, rfl, rfl, SqT.of hr, p1 _ _, (by show 2 ≤ sizeLine; decide), fun a1 na1 => ?_⟩
    have h1 : (upd H4 a1 (.tup [.str (S ([60] ++ c ++ b1)), .int (bk : Nat)])) a1 = some (.tup [.str (S ([60] ++ c ++ b1)), .int (bk : Nat)]) := upd_same
    have s5 := same_new (o := .tup [.str (S ([60] ++ c ++ b1)), .int (bk : Nat)]) na1
    generalize upd H4 a1 (.tup [.str (S ([60] ++ c ++ b1)), .int (bk : Nat)]) = H5 at h1 s5 ⊢
    refine ⟨_, rfl, _, _, rfl, rfl, (by rw [lit_f1]; exact add_S (n := 20) (by show 2 + _ ≤ _; omega)), ?_⟩
    rw [lit_f1, S_app]
    refine ⟨_, _, rfl, rfl, (by rw [lit_gt]; exact add_S (n := 30) (by rw [List.length_append]; show 2 + _ + 1 ≤ _; omega)), (by show 2 ≤ sizeLine; decide), fun a2 na2 => ?_⟩
    rw [lit_gt, S_app]
    have h2 : (upd H5 a2 (.tup [.str (S ([60, 47] ++ c ++ [62])), .int 0])) a2 = some (.tup [.str (S ([60, 47] ++ c ++ [62])), .int 0]) := upd_same
    have s6 := same_new (o := .tup [.str (S ([60, 47] ++ c ++ [62])), .int 0]) na2
    generalize upd H5 a2 (.tup [.str (S ([60, 47] ++ c ++ [62])), .int 0]) = H6 at h2 s6 ⊢
    refine ⟨_, rfl, _, _, rfl, rfl, (by exact add_S (n := 20) (by show 1 + _ ≤ _; omega)), (by show 2 ≤ sizeLine; decide), fun a3 na3 => ?_⟩
    rw [S_app]
    have h3 : (upd H6 a3 (.tup [.str (S ([60] ++ c)), .int 1])) a3 = some (.tup [.str (S ([60] ++ c)), .int 1]) := upd_same
    have s7 := same_new (o := .tup [.str (S ([60] ++ c)), .int 1]) na3
    generalize upd H6 a3 (.tup [.str (S ([60] ++ c)), .int 1]) = H7 at h3 s7 ⊢
    refine ⟨(by show 3 ≤ sizeLine; decide), fun l nl => ?_⟩
    have s8 := s5.trans (s6.trans (s7.trans (same_new (o := .lst [.ref a1, .ref a2, .ref a3]) nl)))
    have w8 := w4.same s8
    refine ⟨L, l, _, rfl, SqL.of upd_same, (w4.same (s5.trans (s6.trans s7))).ne nl, (by simp), (by show 3 < 1000000; decide), w8, fun H9 v k9 w9 hv => ?_⟩
    have kk9 := kk4.trans ((Keeps.of s8).trans k9)
    have g1 : H9 a1 = some (.tup [.str (S ([60] ++ c ++ b1)), .int (bk : Nat)]) := by
      have := (s6.trans (s7.trans (same_new (o := .lst [.ref a1, .ref a2, .ref a3]) nl))) _ _ h1
      exact k9 _ _ (tup_ne this w8) this
    have g2 : H9 a2 = some (.tup [.str (S ([60, 47] ++ c ++ [62])), .int 0]) := by
      have := (s7.trans (same_new (o := .lst [.ref a1, .ref a2, .ref a3]) nl)) _ _ h2
      exact k9 _ _ (tup_ne this w8) this
    have g3 : H9 a3 = some (.tup [.str (S ([60] ++ c)), .int 1]) := by
      have := (same_new (o := .lst [.ref a1, .ref a2, .ref a3]) nl) _ _ h3
      exact k9 _ _ (tup_ne this w8) this
    simp only [List.mem_cons, List.not_mem_nil, or_false] at hv
    rcases hv with rfl | rfl | rfl
    · refine q _ _ kk9 w9 (name_row g1 e1 ?_)
      rw [List.length_append, List.length_append]
      show 1 + _ + _ ≤ _
      omega
    · refine q _ _ kk9 w9 (name_row (k := 0) g2 e2 ?_)
      rw [List.length_append, List.length_append]
      show 2 + _ + 1 ≤ _
      omega
    · refine q _ _ kk9 w9 (name_row (k := 1) g3 e3 ?_)
      rw [List.length_append]
      show 1 + _ ≤ _
      omega

/-! ### the others -/
def X0 : List (Str × V) := [("<!-- a", .int 2), ("<!-->", .int 2), ("<!- a", .int 0), ("<?a", .int 3), ("<?", .int 3), ("<!a", .int 4), ("<!1", .int 0)]
def X1 : List (Str × V) := [("<!DOCTYPE x>", .int 4)]
def X2 : List (Str × V) := [("<![CDATA[", .int 5), ("<![cdata[", .int 0), ("<![CDATA x", .int 0), ("<", .int 0), ("a <div>", .int 0), ("", .int 0)]
def X3 : List (Str × V) := [("<b>", .int 7)]
def X4 : List (Str × V) := [("<b> \t", .int 7), ("<b> x", .int 0), ("</b >", .int 7), ("</b x>", .int 0), ("<b c='d' e>", .int 7), ("<b/>", .int 7), ("<b", .int 0)]
def X5 : List (Str × V) := [("<b c=>", .int 0), ("<1>", .int 0), ("<a-b x:y=\"\">", .int 7), ("<span></span>", .int 0), ("<source>", .int 7)]
def X6 : List (Str × V) := [("<b c=d/>", .int 7)]
def XL : List (List Nat × Nat) := [([60, 33, 45, 45, 32, 97], 2), ([60, 33, 45, 45, 62], 2), ([60, 33, 45, 32, 97], 0), ([60, 63, 97], 3), ([60, 63], 3), ([60, 33, 97], 4), ([60, 33, 49], 0), ([60, 33, 68, 79, 67, 84, 89, 80, 69, 32, 120, 62], 4), ([60, 33, 91, 67, 68, 65, 84, 65, 91], 5), ([60, 33, 91, 99, 100, 97, 116, 97, 91], 0), ([60, 33, 91, 67, 68, 65, 84, 65, 32, 120], 0), ([60], 0), ([97, 32, 60, 100, 105, 118, 62], 0), ([], 0), ([60, 98, 62], 7), ([60, 98, 62, 32, 9], 7), ([60, 98, 62, 32, 120], 0), ([60, 47, 98, 32, 62], 7), ([60, 47, 98, 32, 120, 62], 0), ([60, 98, 32, 99, 61, 39, 100, 39, 32, 101, 62], 7), ([60, 98, 47, 62], 7), ([60, 98], 0), ([60, 98, 32, 99, 61, 62], 0), ([60, 49, 62], 0), ([60, 97, 45, 98, 32, 120, 58, 121, 61, 34, 34, 62], 7), ([60, 115, 112, 97, 110, 62, 60, 47, 115, 112, 97, 110, 62], 0), ([60, 115, 111, 117, 114, 99, 101, 62], 7), ([60, 98, 32, 99, 61, 100, 47, 62], 7)]
theorem x_all : ((((((X0 ++ X1) ++ X2) ++ X3) ++ X4) ++ X5) ++ X6) = XL.map fun x => (S x.1, V.int (x.2 : Nat)) := by
  show [_, _, _, _, _, _, _, _, _, _, _, _, _, _, _, _, _, _, _, _, _, _, _, _, _, _, _, _] = [_, _, _, _, _, _, _, _, _, _, _, _, _, _, _, _, _, _, _, _, _, _, _, _, _, _, _, _]
  rw [show ("<!-- a" : Str) = S [60, 33, 45, 45, 32, 97] by decide +kernel, show ("<!-->" : Str) = S [60, 33, 45, 45, 62] by decide +kernel, show ("<!- a" : Str) = S [60, 33, 45, 32, 97] by decide +kernel, show ("<?a" : Str) = S [60, 63, 97] by decide +kernel, show ("<?" : Str) = S [60, 63] by decide +kernel, show ("<!a" : Str) = S [60, 33, 97] by decide +kernel, show ("<!1" : Str) = S [60, 33, 49] by decide +kernel, show ("<!DOCTYPE x>" : Str) = S [60, 33, 68, 79, 67, 84, 89, 80, 69, 32, 120, 62] by decide +kernel, show ("<![CDATA[" : Str) = S [60, 33, 91, 67, 68, 65, 84, 65, 91] by decide +kernel, show ("<![cdata[" : Str) = S [60, 33, 91, 99, 100, 97, 116, 97, 91] by decide +kernel, show ("<![CDATA x" : Str) = S [60, 33, 91, 67, 68, 65, 84, 65, 32, 120] by decide +kernel, show ("<" : Str) = S [60] by decide +kernel, show ("a <div>" : Str) = S [97, 32, 60, 100, 105, 118, 62] by decide +kernel, show ("" : Str) = S [] by decide +kernel, show ("<b>" : Str) = S [60, 98, 62] by decide +kernel, show ("<b> \t" : Str) = S [60, 98, 62, 32, 9] by decide +kernel, show ("<b> x" : Str) = S [60, 98, 62, 32, 120] by decide +kernel, show ("</b >" : Str) = S [60, 47, 98, 32, 62] by decide +kernel, show ("</b x>" : Str) = S [60, 47, 98, 32, 120, 62] by decide +kernel, show ("<b c='d' e>" : Str) = S [60, 98, 32, 99, 61, 39, 100, 39, 32, 101, 62] by decide +kernel, show ("<b/>" : Str) = S [60, 98, 47, 62] by decide +kernel, show ("<b" : Str) = S [60, 98] by decide +kernel, show ("<b c=>" : Str) = S [60, 98, 32, 99, 61, 62] by decide +kernel, show ("<1>" : Str) = S [60, 49, 62] by decide +kernel, show ("<a-b x:y=\"\">" : Str) = S [60, 97, 45, 98, 32, 120, 58, 121, 61, 34, 34, 62] by decide +kernel, show ("<span></span>" : Str) = S [60, 115, 112, 97, 110, 62, 60, 47, 115, 112, 97, 110, 62] by decide +kernel, show ("<source>" : Str) = S [60, 115, 111, 117, 114, 99, 101, 62] by decide +kernel, show ("<b c=d/>" : Str) = S [60, 98, 32, 99, 61, 100, 47, 62] by decide +kernel]
  rfl
theorem x_ok : ∀ x ∈ XL, kindR x.1 = x.2 ∧ x.1.length ≤ 100 := by decide +kernel
theorem cat_menu {σ : L2.St} {H : Hp} {Q : VK} {i : Nat} {a : Addr} {xs : List V} {ms0 : List (Str × V)} (ms : List (Str × V)) (hs : ms.length ≤ 100) (hi : σ[i]? = some (some (.ref a))) (ha : H a = some (.lst xs)) (hm : Menu H xs ms0) (hl : xs.length ≤ 100)
    (h : ∀ H' c ys, Same H H' → H' c = some (.lst ys) → H c = none → Menu H' ys (ms0 ++ ms) → ys.length = xs.length + ms.length → Q (.ref c) H') : tOp rCat (tVar i) (tLst (menuT ms)) σ H Q := by
  refine ⟨_, hi, menu_list ms hs _ _ _ fun H2 b ys sm2 hb nb hm2 hl2 => ?_⟩
  have ha2 := sm2 _ _ ha
  refine ⟨a, b, xs, ys, rfl, rfl, ha2, hb, by rw [hl2, sizeLine_eq]; omega, fun p np => ?_⟩
  have np0 : H p = none := by
    cases e : H p with
    | none => rfl
    | some o => rw [sm2 _ _ e] at np; cases np
  exact h _ p (xs ++ ys) (sm2.trans (same_new np)) upd_same np0 (((hm.same sm2).app hm2).same (same_new np)) (by rw [List.length_append, hl2])
def sp__law_other (K : PySem.W.Frag) : Sp := fun vs H Q _ => ∃ (L : Addr), vs = [.ref L] ∧ Well H L ∧ ∀ H' v, Keeps L H H' → Well H' L → RowOk H' v → Q v H'
theorem ok__law_other {P : Program} {w : World} {K : PySem.W.Frag} {mg : Str → Option Value} {base : Heap} (T : Txt K mg) : FnOk P w K mg base CX0 3 T.a__law_other T.d__law_other ["_law_well_here"] (sp__law_other K) := by
  refine T.f__law_other.ok sc__law_other (fun vs H Q E h => ?_) (fun cdv A outer s H vs Q E hr h => ?_)
  · obtain ⟨L, rfl, _⟩ := h
    rfl
  · obtain ⟨L, rfl, hW, q⟩ := h
    refine ⟨_, (pss_cons (ps_set (i := 1) sc__law_other.nd rfl (.inl rfl) (pe_lst (pa_cons (pe_tup (pa_cons pe_str (pa_cons pe_int pa_nil))) (pa_cons (pe_tup (pa_cons pe_str (pa_cons pe_int pa_nil))) (pa_cons (pe_tup (pa_cons pe_str (pa_cons pe_int pa_nil))) (pa_cons (pe_tup (pa_cons pe_str (pa_cons pe_int pa_nil))) (pa_cons (pe_tup (pa_cons pe_str (pa_cons pe_int pa_nil))) (pa_cons (pe_tup (pa_cons pe_str (pa_cons pe_int pa_nil))) (pa_cons (pe_tup (pa_cons pe_str (pa_cons pe_int pa_nil))) pa_nil)))))))))
        (pss_cons (ps_set (i := 1) sc__law_other.nd rfl (.inl rfl) (pe_op op_cat (pv 1) (pe_lst (pa_cons (pe_tup (pa_cons pe_str (pa_cons pe_int pa_nil))) pa_nil))))
        (pss_cons (ps_set (i := 1) sc__law_other.nd rfl (.inl rfl) (pe_op op_cat (pv 1) (pe_lst (pa_cons (pe_tup (pa_cons pe_str (pa_cons pe_int pa_nil))) (pa_cons (pe_tup (pa_cons pe_str (pa_cons pe_int pa_nil))) (pa_cons (pe_tup (pa_cons pe_str (pa_cons pe_int pa_nil))) (pa_cons (pe_tup (pa_cons pe_str (pa_cons pe_int pa_nil))) (pa_cons (pe_tup (pa_cons pe_str (pa_cons pe_int pa_nil))) (pa_cons (pe_tup (pa_cons pe_str (pa_cons pe_int pa_nil))) pa_nil)))))))))
        (pss_cons (ps_set (i := 1) sc__law_other.nd rfl (.inl rfl) (pe_op op_cat (pv 1) (pe_lst (pa_cons (pe_tup (pa_cons pe_str (pa_cons pe_int pa_nil))) pa_nil))))
        (pss_cons (ps_set (i := 1) sc__law_other.nd rfl (.inl rfl) (pe_op op_cat (pv 1) (pe_lst (pa_cons (pe_tup (pa_cons pe_str (pa_cons pe_int pa_nil))) (pa_cons (pe_tup (pa_cons pe_str (pa_cons pe_int pa_nil))) (pa_cons (pe_tup (pa_cons pe_str (pa_cons pe_int pa_nil))) (pa_cons (pe_tup (pa_cons pe_str (pa_cons pe_int pa_nil))) (pa_cons (pe_tup (pa_cons pe_str (pa_cons pe_int pa_nil))) (pa_cons (pe_tup (pa_cons pe_str (pa_cons pe_int pa_nil))) (pa_cons (pe_tup (pa_cons pe_str (pa_cons pe_int pa_nil))) pa_nil))))))))))
        (pss_cons (ps_set (i := 1) sc__law_other.nd rfl (.inl rfl) (pe_op op_cat (pv 1) (pe_lst (pa_cons (pe_tup (pa_cons pe_str (pa_cons pe_int pa_nil))) (pa_cons (pe_tup (pa_cons pe_str (pa_cons pe_int pa_nil))) (pa_cons (pe_tup (pa_cons pe_str (pa_cons pe_int pa_nil))) (pa_cons (pe_tup (pa_cons pe_str (pa_cons pe_int pa_nil))) (pa_cons (pe_tup (pa_cons pe_str (pa_cons pe_int pa_nil))) pa_nil))))))))
        (pss_cons (ps_set (i := 1) sc__law_other.nd rfl (.inl rfl) (pe_op op_cat (pv 1) (pe_lst (pa_cons (pe_tup (pa_cons pe_str (pa_cons pe_int pa_nil))) pa_nil))))
        (pss_one (ps_ret (pe_call (ok__law_one T) (hr.mono (by decide)) (by rfl) T.g__law_one T.f__law_one.kp T.b__law_one .nil pass0 (pa_cons (pv 0) (pa_cons (pv 1) pa_nil)))))))))))), ?_⟩
    unfold tSeq tAsg
    dsimp only
    refine menu_list X0 (by decide) _ _ _ fun H0 a0 xs0 s0 h0 n0 m0 l0 => ?_
    refine cat_menu X1 (by decide) rfl h0 m0 (by rw [l0]; decide) fun H1 a1 xs1 s1 h1 n1 m1 l1 => ?_
    refine cat_menu X2 (by decide) rfl h1 m1 (by rw [l1, l0]; decide) fun H2 a2 xs2 s2 h2 n2 m2 l2 => ?_
    refine cat_menu X3 (by decide) rfl h2 m2 (by rw [l2, l1, l0]; decide) fun H3 a3 xs3 s3 h3 n3 m3 l3 => ?_
    refine cat_menu X4 (by decide) rfl h3 m3 (by rw [l3, l2, l1, l0]; decide) fun H4 a4 xs4 s4 h4 n4 m4 l4 => ?_
    refine cat_menu X5 (by decide) rfl h4 m4 (by rw [l4, l3, l2, l1, l0]; decide) fun H5 a5 xs5 s5 h5 n5 m5 l5 => ?_
    refine cat_menu X6 (by decide) rfl h5 m5 (by rw [l5, l4, l3, l2, l1, l0]; decide) fun H6 a6 xs6 s6 h6 n6 m6 l6 => ?_
    have w9 := hW.same ((((((s0.trans s1).trans s2).trans s3).trans s4).trans s5).trans s6)
    refine one_var w9 rfl rfl h6 ((hW.same (((((s0.trans s1).trans s2).trans s3).trans s4).trans s5)).ne n6) m6 (by intro z; rw [z] at l6; rw [l5, l4, l3, l2, l1, l0] at l6; cases l6) (by rw [l6, l5, l4, l3, l2, l1, l0]; decide) fun H9 r p k9 w9' hp hr => ?_
    rw [x_all] at hp
    obtain ⟨x, hx, rfl⟩ := List.mem_map.mp hp
    obtain ⟨h1, h2⟩ := x_ok x hx
    exact q _ _ ((Keeps.of ((((((s0.trans s1).trans s2).trans s3).trans s4).trans s5).trans s6)).trans k9) w9' (name_row hr h1 h2)

/-! ### the ends: 0 _law_well_here, 1 _law_table, 2 _law_kind, 3 _law_some, 4 _law_parts, 5 _law_line, 6 _law_k, 7 _law_part -/
theorem parts_all : (["a", " ", "</script", "--", "]]", "</b", "pre", "</pre >", "- ->"] : List Str) = PartsL.map S := by
  show [_, _, _, _, _, _, _, _, _] = [_, _, _, _, _, _, _, _, _]
  rw [show ("a" : Str) = S [97] by decide +kernel, show (" " : Str) = S [32] by decide +kernel, show ("</script" : Str) = S [60, 47, 115, 99, 114, 105, 112, 116] by decide +kernel, show ("--" : Str) = S [45, 45] by decide +kernel, show ("]]" : Str) = S [93, 93] by decide +kernel, show ("</b" : Str) = S [60, 47, 98] by decide +kernel, show ("pre" : Str) = S [112, 114, 101] by decide +kernel, show ("</pre >" : Str) = S [60, 47, 112, 114, 101, 32, 62] by decide +kernel, show ("- ->" : Str) = S [45, 32, 45, 62] by decide +kernel]
def TabD (a1 a2 a3 a4 a5 : Addr) : List (Key × V) := [(.inl 1, .ref a1), (.inl 2, .ref a2), (.inl 3, .ref a3), (.inl 4, .ref a4), (.inl 5, .ref a5)]
def tabS (k : Nat) : List V := (TableL k).map fun l => V.str (S l)
theorem tab1 : ([.str "</script>", .str "</PRE>", .str "</Style>", .str "</textarea>"] : List V) = tabS 1 := by
  show [_, _, _, _] = [_, _, _, _]
  rw [show ("</script>" : Str) = S [60, 47, 115, 99, 114, 105, 112, 116, 62] by decide +kernel, show ("</PRE>" : Str) = S [60, 47, 80, 82, 69, 62] by decide +kernel, show ("</Style>" : Str) = S [60, 47, 83, 116, 121, 108, 101, 62] by decide +kernel, show ("</textarea>" : Str) = S [60, 47, 116, 101, 120, 116, 97, 114, 101, 97, 62] by decide +kernel]
theorem tab2 : ([.str "-->"] : List V) = tabS 2 := by
  show [_] = [_]
  rw [show ("-->" : Str) = S [45, 45, 62] by decide +kernel]
theorem tab3 : ([.str "?>"] : List V) = tabS 3 := by
  show [_] = [_]
  rw [show ("?>" : Str) = S [63, 62] by decide +kernel]
theorem tab4 : ([.str ">"] : List V) = tabS 4 := by
  show [_] = [_]
  rw [show (">" : Str) = S [62] by decide +kernel]
theorem tab5 : ([.str "]]>"] : List V) = tabS 5 := by
  show [_] = [_]
  rw [show ("]]>" : Str) = S [93, 93, 62] by decide +kernel]
structure TabAt (H : Hp) (L p a1 a2 a3 a4 a5 : Addr) : Prop where
  d : H p = some (.dK (TabD a1 a2 a3 a4 a5))
  h1 : H a1 = some (.lst (tabS 1))
  h2 : H a2 = some (.lst (tabS 2))
  h3 : H a3 = some (.lst (tabS 3))
  h4 : H a4 = some (.lst (tabS 4))
  h5 : H a5 = some (.lst (tabS 5))
theorem strs_ne {H : Hp} {f L : Addr} {ls : List (List Nat)} (h : H f = some (.lst (ls.map fun l => V.str (S l)))) (w : Well H L) : f ≠ L := by
  obtain ⟨x, y, e⟩ := w
  refine ne_of h e fun z => ?_
  have z1 := HO.lst.inj z
  cases ls with
  | nil => cases z1
  | cons l ls => cases z1
theorem TabAt.keep {H H' : Hp} {L p a1 a2 a3 a4 a5 : Addr} (t : TabAt H L p a1 a2 a3 a4 a5) (w : Well H L) (k : Keeps L H H') : TabAt H' L p a1 a2 a3 a4 a5 := by
  have hp : p ≠ L := by
    obtain ⟨x, y, e⟩ := w
    exact ne_of t.d e fun z => by cases z
  exact ⟨k _ _ hp t.d, k _ _ (strs_ne t.h1 w) t.h1, k _ _ (strs_ne t.h2 w) t.h2, k _ _ (strs_ne t.h3 w) t.h3, k _ _ (strs_ne t.h4 w) t.h4, k _ _ (strs_ne t.h5 w) t.h5⟩
theorem tab_made {H : Hp} {L p a1 a2 a3 a4 a5 : Addr} (w : Well H L) (np : H p = none) (n1 : upd H p (.dK []) a1 = none) (n2 : upd (upd H p (.dK [])) a1 (.lst (tabS 1)) a2 = none) (n3 : upd (upd (upd H p (.dK [])) a1 (.lst (tabS 1))) a2 (.lst (tabS 2)) a3 = none)
    (n4 : upd (upd (upd (upd H p (.dK [])) a1 (.lst (tabS 1))) a2 (.lst (tabS 2))) a3 (.lst (tabS 3)) a4 = none) (n5 : upd (upd (upd (upd (upd H p (.dK [])) a1 (.lst (tabS 1))) a2 (.lst (tabS 2))) a3 (.lst (tabS 3))) a4 (.lst (tabS 4)) a5 = none) :
    (upd (upd (upd (upd (upd (upd H p (.dK [])) a1 (.lst (tabS 1))) a2 (.lst (tabS 2))) a3 (.lst (tabS 3))) a4 (.lst (tabS 4))) a5 (.lst (tabS 5))) p = some (.dK []) ∧
    TabAt (upd (upd (upd (upd (upd (upd (upd H p (.dK [])) a1 (.lst (tabS 1))) a2 (.lst (tabS 2))) a3 (.lst (tabS 3))) a4 (.lst (tabS 4))) a5 (.lst (tabS 5))) p (.dK (TabD a1 a2 a3 a4 a5))) L p a1 a2 a3 a4 a5 ∧
    Keeps L H (upd (upd (upd (upd (upd (upd (upd H p (.dK [])) a1 (.lst (tabS 1))) a2 (.lst (tabS 2))) a3 (.lst (tabS 3))) a4 (.lst (tabS 4))) a5 (.lst (tabS 5))) p (.dK (TabD a1 a2 a3 a4 a5))) ∧
    Well (upd (upd (upd (upd (upd (upd (upd H p (.dK [])) a1 (.lst (tabS 1))) a2 (.lst (tabS 2))) a3 (.lst (tabS 3))) a4 (.lst (tabS 4))) a5 (.lst (tabS 5))) p (.dK (TabD a1 a2 a3 a4 a5))) L := by
  have s0 := same_new (o := .dK []) np
  have s1 := same_new (o := .lst (tabS 1)) n1
  have s2 := same_new (o := .lst (tabS 2)) n2
  have s3 := same_new (o := .lst (tabS 3)) n3
  have s4 := same_new (o := .lst (tabS 4)) n4
  have s5 := same_new (o := .lst (tabS 5)) n5
  have p0 : upd H p (.dK []) p = some (.dK []) := upd_same
  have p1 := s1 _ _ p0
  have p2 := s2 _ _ p1
  have p3 := s3 _ _ p2
  have p4 := s4 _ _ p3
  have p5 := s5 _ _ p4
  have e1 : a1 ≠ p := (ne_of_none p0 n1).symm
  have e2 : a2 ≠ p := (ne_of_none p1 n2).symm
  have e3 : a3 ≠ p := (ne_of_none p2 n3).symm
  have e4 : a4 ≠ p := (ne_of_none p3 n4).symm
  have e5 : a5 ≠ p := (ne_of_none p4 n5).symm
  have sm := s0.trans (s1.trans (s2.trans (s3.trans (s4.trans s5))))
  refine ⟨p5, ⟨upd_same, ?_, ?_, ?_, ?_, ?_⟩, keeps_upd (Keeps.of sm) np, well_upd (w.same sm) (w.ne np)⟩
  · rw [upd_ne e1]
    exact (s2.trans (s3.trans (s4.trans s5))) _ _ upd_same
  · rw [upd_ne e2]
    exact (s3.trans (s4.trans s5)) _ _ upd_same
  · rw [upd_ne e3]
    exact (s4.trans s5) _ _ upd_same
  · rw [upd_ne e4]
    exact s5 _ _ upd_same
  · rw [upd_ne e5]
    exact upd_same
def sp__law_ends_right (K : PySem.W.Frag) : Sp := fun vs H Q _ => ∃ (L : Addr), vs = [.ref L] ∧ Well H L ∧ ∀ H', Keeps L H H' → Well H' L → Q (.bl true) H'
theorem ok__law_ends_right {P : Program} {w : World} {K : PySem.W.Frag} {mg : Str → Option Value} {base : Heap} (T : Txt K mg) : FnOk P w K mg base CX0 3 T.a__law_ends_right T.d__law_ends_right ["_law_well_here"] (sp__law_ends_right K) := by
  refine T.f__law_ends_right.ok sc__law_ends_right (fun vs H Q E h => ?_) (fun cdv A outer s H vs Q E hr h => ?_)
  · obtain ⟨L, rfl, _⟩ := h
    rfl
  · obtain ⟨L, rfl, hW, q⟩ := h
    refine ⟨_, (pss_cons (ps_set (i := 1) sc__law_ends_right.nd rfl (.inl rfl) (pe_disp (pps_cons pe_int (pe_lst (pa_cons pe_str (pa_cons pe_str (pa_cons pe_str (pa_cons pe_str pa_nil))))) (pps_cons pe_int (pe_lst (pa_cons pe_str pa_nil)) (pps_cons pe_int (pe_lst (pa_cons pe_str pa_nil)) (pps_cons pe_int (pe_lst (pa_cons pe_str pa_nil)) (pps_cons pe_int (pe_lst (pa_cons pe_str pa_nil)) pps_nil))))) rfl rfl (by simp) (by decide)))
        (pss_cons (ps_for PassesOwn.never rfl (pi_range2 (by rfl) T.z_range (pa_cons pe_int (pa_cons pe_int pa_nil))) (pg_name (i := 2) sc__law_ends_right.nd rfl (.inr rfl)) (pss_cons (ps_set (i := 3) sc__law_ends_right.nd rfl (.inr rfl) (pe_lst (pa_cons pe_str (pa_cons pe_str (pa_cons pe_str (pa_cons pe_str (pa_cons pe_str (pa_cons pe_str (pa_cons pe_str (pa_cons pe_str (pa_cons pe_str pa_nil)))))))))))
        (pss_cons (ps_setLc (i := 4) (own := [("_law_k", 6)]) (g := (gName 6)) (tt := tYes) (by rfl) sc__law_ends_right.nd rfl rfl (sw_true rfl rfl rfl (by decide +kernel)) (pi_range1 (by rfl) T.z_range (pa_cons pe_int pa_nil)) (blkOk_by (own := [("_law_k", 6)]) (N := ["_law_well_here", "_law_table", "_law_kind", "_law_some", "_law_parts", "_law_line", "_law_k", "_law_part"]) (sc := defScope s__law_ends_right) (by decide +kernel)) (fun _ _ _ _ _ => (pg_name (i := 6) sc__law_ends_right.nd rfl (Or.inl rfl))) (fun _ _ _ _ _ => pts_nil) (fun _ _ _ _ _ => (pe_call (ok__law_one T) (hr.mono (by decide)) (by rfl) T.g__law_one T.f__law_one.kp T.b__law_one .nil pass0 (pa_cons (pv 0) (pa_cons (pv 3) pa_nil)))))
        (pss_cons (ps_set (i := 5) sc__law_ends_right.nd rfl (.inl rfl) (pe_join pe_str (pe_lc (own := [("_law_part", 7)]) (g := (gName 7)) (tt := _) (by rfl) sc__law_ends_right.nd (pi_list (pv 4)) (blkOk_by (own := [("_law_part", 7)]) (N := ["_law_well_here", "_law_table", "_law_kind", "_law_some", "_law_parts", "_law_line", "_law_k", "_law_part"]) (sc := defScope s__law_ends_right) (by decide +kernel)) (fun _ _ _ _ _ => (pg_name (i := 7) sc__law_ends_right.nd rfl (Or.inl rfl))) (fun _ _ _ _ _ => (pts_one (PW.pt (pw_or (pt_cmpR op_notIn_sign pe_str (pv 7) (by rfl)) (pw_or1 (pt_cmpR op_ne (pv 2) pe_int (nomark _))))))) (fun _ _ _ _ _ => (pv 7)))))
        (pss_one (ps_if (pt_cmpR op_gt (pv 2) pe_int (nomark _)) (pss_one (ps_if (PW.pt (pw_or (pt_cmpR op_ne (pe_call (ok_html_ends T) (hr.mono (by decide)) (by rfl) T.g_html_ends T.f_html_ends.kp T.b_html_ends .nil pass0 (pa_cons (pv 2) (pa_cons (pv 5) pa_nil))) (pe_cmpR op_eq (pe_bm PySem.F.plainAttrs_str PySem.F.slot_str_strip PySem.F.type_str_strip mt_stripChars (pv 5) (pa_cons pe_str pa_nil)) pe_str (nomark _)) (nomark _)) (pw_or1 (pt_not (pt_val (pe_call (ok_html_ends T) (hr.mono (by decide)) (by rfl) T.g_html_ends T.f_html_ends.kp T.b_html_ends .nil pass0 (pa_cons (pv 2) (pa_cons pe_str pa_nil)))))))) (pss_one (ps_ret pe_bl)) pss_nil)) (pss_one (ps_if (PW.pt (pw_or (pt_val (pe_call (ok_html_ends T) (hr.mono (by decide)) (by rfl) T.g_html_ends T.f_html_ends.kp T.b_html_ends .nil pass0 (pa_cons (pv 2) (pa_cons (pv 5) pa_nil)))) (pw_or1 (pt_not (pt_val (pe_call (ok_html_ends T) (hr.mono (by decide)) (by rfl) T.g_html_ends T.f_html_ends.kp T.b_html_ends .nil pass0 (pa_cons (pv 2) (pa_cons (pe_op op_add_str (pe_op op_add_str (pv 5) (pe_call (ok__law_one T) (hr.mono (by decide)) (by rfl) T.g__law_one T.f__law_one.kp T.b__law_one .nil pass0 (pa_cons (pv 0) (pa_cons (pe_dget (hu_of hr) (pv 1) (pv 2) (fun _ _ => rfl)) pa_nil)))) pe_str) pa_nil)))))))) (pss_one (ps_ret pe_bl)) pss_nil))))))))
        (pss_one (ps_ret pe_bl)))), ?_⟩
    intro p np
    refine ⟨by show 4 ≤ sizeLine; decide, fun a1 n1 => ⟨by show 1 ≤ sizeLine; decide, fun a2 n2 => ⟨by show 1 ≤ sizeLine; decide, fun a3 n3 => ⟨by show 1 ≤ sizeLine; decide, fun a4 n4 => ⟨by show 1 ≤ sizeLine; decide, fun a5 n5 => ?_⟩⟩⟩⟩⟩
    rw [tab1, tab2, tab3, tab4, tab5] at *
    obtain ⟨t1, t2, t3, t4⟩ := tab_made hW np n1 n2 n3 n4 n5
    refine ⟨t1, TabD a1 a2 a3 a4 a5, rfl, (by show 5 ≤ 15; decide), ?_⟩
    rw [show mergeK [] (TabD a1 a2 a3 a4 a5) = TabD a1 a2 a3 a4 a5 from rfl]
    generalize upd (upd (upd (upd (upd (upd (upd H p (.dK [])) a1 (.lst (tabS 1))) a2 (.lst (tabS 2))) a3 (.lst (tabS 3))) a4 (.lst (tabS 4))) a5 (.lst (tabS 5))) p (.dK (TabD a1 a2 a3 a4 a5)) = H1 at t2 t3 t4 ⊢
    clear t1
    refine ⟨1, 8, rfl, (by decide), for_range (lo := 1) (n := 7) (fun i σ H' => ∃ (v2 v3 v4 v5 v6 v7 : Option V), σ = [some (.ref L), some (.ref p), v2, v3, v4, v5, v6, v7] ∧ Keeps L H H' ∧ Well H' L ∧ TabAt H' L p a1 a2 a3 a4 a5) ?_ ?_ ?_⟩
    · exact ⟨_, _, _, _, _, _, rfl, t3, t4, t2⟩
    · rintro i σ H2 hi ⟨v2, v3, v4, v5, v6, v7, rfl, k2, w2, tb2⟩
      have ei : (1 + (i : Int)) = ((1 + i : Nat) : Int) := by omega
      rw [ei]
      have hk1 : 1 ≤ 1 + i := by omega
      have hk7 : 1 + i ≤ 7 := by omega
      generalize 1 + i = k at hk1 hk7 ⊢
      refine ⟨by show 9 ≤ sizeLine; decide, fun m nm => ?_⟩
      have em : ([.str "a", .str " ", .str "</script", .str "--", .str "]]", .str "</b", .str "pre", .str "</pre >", .str "- ->"] : List V) = PartsL.map fun l => V.str (S l) := by
        have := congrArg (List.map V.str) parts_all
        rw [List.map_map] at this
        exact this
      rw [em]
      have k3 := Keeps.new (L := L) (o := .lst (PartsL.map fun l => V.str (S l))) nm
      have w3 := w2.new (o := .lst (PartsL.map fun l => V.str (S l))) nm
      have hm : (upd H2 m (.lst (PartsL.map fun l => V.str (S l)))) m = some (.lst (PartsL.map fun l => V.str (S l))) := upd_same
      have nmL := w2.ne nm
      generalize upd H2 m (.lst (PartsL.map fun l => V.str (S l))) = H3 at k3 w3 hm ⊢
      -- the parts
      refine ⟨4, rfl, by decide, by decide, fun D nD => ?_⟩
      have nDL := w3.ne nD
      refine lc_range (lo := 0) (n := 4) (fun i H' => Keeps L H3 H' ∧ Well H' L ∧ ∃ ls : List (List Nat), H' D = some (.lst (ls.map fun l => V.str (S l))) ∧ ls.length = i ∧ ∀ l ∈ ls, l ∈ PartsL) ?_ ?_ ?_
      · exact ⟨.new nD, w3.new nD, [], upd_same, rfl, by simp⟩
      · rintro j H4 hj ⟨k4, w4, ls, hD, hl, hls⟩
        refine ⟨rfl, _, rfl, _, rfl, L, m, _, rfl, SqL.of (k4 _ _ nmL hm), nmL, by decide, by decide, w4, fun H5 v k5 w5 hv => ?_⟩
        obtain ⟨l, hlm, rfl⟩ := List.mem_map.mp hv
        refine ⟨_, k5 _ _ nDL hD, (by rw [List.length_map, hl, sizeLine_eq]; omega), keeps_upd (k4.trans k5) nD, well_upd w5 nDL, ls ++ [l], ?_, ?_, ?_⟩
        · rw [upd_same, List.map_append]
          rfl
        · rw [List.length_append, hl]
          rfl
        · intro z hz
          rcases List.mem_append.mp hz with h | h
          · exact hls z h
          · rw [List.mem_singleton.mp h]
            exact hlm
      rintro H4 ⟨k4, w4, ls, hD, hl, hls⟩
      -- those that are taken
      refine ⟨⟨_, rfl⟩, _, rfl, D, rfl, ⟨_, SqL.of hD⟩, fun D2 nD2 => ?_⟩
      have nD2L := w4.ne nD2
      have nDD2 : D ≠ D2 := ne_of_none hD nD2
      refine lc_list (K := K) (a := D) (xs := ls.map fun l => V.str (S l)) (fun i H' => Same H4 H' ∧ ∃ zs : List (List Nat), H' D2 = some (.lst (zs.map fun l => V.str (S l))) ∧ zs.length ≤ i ∧ ∀ l ∈ zs, l ∈ PartsL ∧ (62 ∉ l ∨ k ≠ 4)) ?_ (fun i H' _ h => SqL.of (h.1 _ _ hD)) ?_ ?_
      · exact ⟨same_new nD2, [], upd_same, Nat.le_refl _, by simp⟩
      · rintro j x H5 hj ⟨s5, zs, h5, hz, hzs⟩
        obtain ⟨l, hlj, rfl⟩ : ∃ l, ls[j]? = some l ∧ x = V.str (S l) := by
          rw [List.getElem?_map] at hj
          cases he : ls[j]? with
          | none => rw [he] at hj; cases hj
          | some z => rw [he] at hj; exact ⟨z, rfl, (Option.some.inj hj).symm⟩
        have hlP : l ∈ PartsL := hls l (List.mem_of_getElem? hlj)
        have hjl : j < ls.length := (List.getElem?_eq_some_iff.mp hlj).1
        refine ⟨rfl, _, rfl, 62, S l, (by rw [lit_gt]; rfl), rfl, _, rfl, ?_⟩
        rw [mem_S]
        have step : ∀ (H6 : Hp), H6 = H5 → (62 ∉ l ∨ k ≠ 4) → ∃ acc, H6 D2 = some (HO.lst acc) ∧ acc.length < sizeLine ∧ Same H4 (upd H6 D2 (HO.lst (acc ++ [V.str (S l)]))) ∧
            ∃ zs, upd H6 D2 (HO.lst (acc ++ [V.str (S l)])) D2 = some (HO.lst (List.map (fun l => V.str (S l)) zs)) ∧ zs.length ≤ j + 1 ∧ ∀ (l : List Nat), l ∈ zs → l ∈ PartsL ∧ (¬62 ∈ l ∨ k ≠ 4) := by
          rintro H6 rfl hl4
          refine ⟨_, h5, (by rw [List.length_map, sizeLine_eq]; omega), fun b o hb => ?_, zs ++ [l], ?_, ?_, fun y hy => ?_⟩
          · rw [upd_ne (ne_of_none hb nD2)]
            exact s5 _ _ hb
          · rw [upd_same, List.map_append]
            rfl
          · rw [List.length_append]
            show _ + 1 ≤ _
            omega
          · rcases List.mem_append.mp hy with h | h
            · exact hzs y h
            · rw [List.mem_singleton.mp h]
              exact ⟨hlP, hl4⟩
        cases h62 : l.contains 62 with
        | false =>
          have hn : 62 ∉ l := by simpa using h62
          refine iteT ?_
          exact ⟨_, rfl, step _ rfl (.inl hn)⟩
        | true =>
          refine iteF ?_
          refine ⟨_, rfl, rfl, _, rfl, ?_⟩
          by_cases hk4 : k = 4
          · subst hk4
            rw [show decide (V.int ((4 : Nat) : Int) = V.int 4) = true from rfl]
            refine iteF ?_
            exact ⟨s5, zs, h5, by omega, hzs⟩
          · rw [decide_eq_false (fun z => hk4 (by have := V.int.inj z; omega))]
            refine iteT ?_
            exact ⟨_, rfl, step _ rfl (.inr hk4)⟩
      rintro H5 ⟨s5, zs, h5, hz, hzs⟩
      rw [List.length_map, hl] at hz
      -- the line
      have e1 : (zs.map fun l => V.str (S l)) = (zs.map S).map V.str := by rw [List.map_map]; rfl
      rw [e1] at h5
      refine ⟨_, D2, zs.map S, rfl, rfl, .inl (SqL.of h5), ?_, ?_⟩
      · have := sum_le (ls := zs) (k := 10) fun l hl => (parts_ok l (hzs l hl).1).2.1
        have e0 : (("" : Str)).length = 0 := by decide +kernel
        rw [e0, Nat.mul_zero, Nat.add_zero]
        omega
      rw [lit_no, join_nil]
      have hgood : Good zs.flatten := by
        clear h5 e1 hz
        induction zs with
        | nil => exact no_good (by simp)
        | cons z zs ih =>
          rw [List.flatten_cons]
          exact good_app (parts_ok z (hzs z (List.mem_cons_self ..)).1).1 (ih fun l hl => hzs l (List.mem_cons_of_mem _ hl))
      have h62 : k = 4 → 62 ∉ zs.flatten := fun hk h => by
        obtain ⟨l, hl, h⟩ := List.mem_flatten.mp h
        rcases (hzs l hl).2 with h1 | h1
        · exact h1 h
        · exact h1 hk
      have hlow : ∀ c ∈ zs.flatten, c < 128 ∧ lo1 c = c := fun c h => by
        obtain ⟨l, hl, h⟩ := List.mem_flatten.mp h
        exact (parts_ok l (hzs l hl).1).2.2 c h
      have hlen : zs.flatten.length ≤ 40 := by
        have := sum_le (ls := zs) (k := 10) fun l hl => (parts_ok l (hzs l hl).1).2.1
        rw [List.map_map] at this
        rw [List.length_flatten]
        have e : (zs.map ((fun x => x.length) ∘ S)) = zs.map List.length := List.map_congr_left fun l _ => S_len l
        rw [e] at this
        omega
      generalize zs.flatten = ln at hgood h62 hlow hlen ⊢
      clear h5 e1 hz hzs
      have w5 := w4.same s5
      have k5 : Keeps L H H5 := k2.trans (k3.trans (k4.trans (Keeps.of s5)))
      have tb5 : TabAt H5 L p a1 a2 a3 a4 a5 := tb2.keep w2 (k3.trans (k4.trans (Keeps.of s5)))
      refine ⟨_, rfl, _, _, rfl, rfl, _, rfl, ite2 (fun h5k => ?_) (fun h5k => ?_)⟩
      · have hk5 : ¬ (1 ≤ k ∧ k ≤ 5) := by
          have : (5 : Int) < (k : Int) := by simpa using h5k
          omega
        have ek : ∀ l, endsR k l = blankL l := fun l => by
          unfold endsR
          rw [if_neg hk5]
        refine ⟨_, rfl, _, rfl, k, ln, rfl, by omega, fun c hc => (hlow c hc).1, fun H6 s6 => ?_⟩
        refine ⟨_, rfl, rfl, _, _, rfl, rfl, (by rw [S_len, sizeLine_eq]; omega), rfl, ?_⟩
        rw [lit_ws, strip_blank, ek]
        refine ⟨rfl, _, rfl, ?_⟩
        rw [show decide (V.bl (blankL ln) = V.bl (ln.all fun c => ([32, 9] : List Nat).contains c)) = true from decide_eq_true rfl]
        refine iteF ?_
        refine ⟨_, rfl, k, [32, 9], rfl, by decide, by decide, fun H7 s7 => ⟨_, rfl, ?_⟩⟩
        rw [ek]
        refine iteF ?_
        have s67 := s6.trans s7
        exact ⟨_, _, _, _, _, _, rfl, k5.trans (Keeps.of s67), w5.same s67, tb5.keep w5 (Keeps.of s67)⟩
      · have hk5 : 1 ≤ k ∧ k ≤ 5 := by
          have : ¬ (5 : Int) < (k : Int) := by simpa using h5k
          omega
        refine ⟨_, rfl, _, rfl, k, ln, rfl, by omega, fun c hc => (hlow c hc).1, fun H6 s6 => ⟨_, rfl, ?_⟩⟩
        rw [ends_none hk5 hgood h62 fun c hc => (hlow c hc).2]
        refine iteF ?_
        have w6 := w5.same s6
        have tb6 := tb5.keep w5 (Keeps.of s6)
        obtain ⟨ak, hv, hl⟩ : ∃ ak, valV (TabD a1 a2 a3 a4 a5) (.inl (k : Int)) = some (.ref ak) ∧ H6 ak = some (.lst (tabS k)) := by
          have : k = 1 ∨ k = 2 ∨ k = 3 ∨ k = 4 ∨ k = 5 := by omega
          rcases this with rfl | rfl | rfl | rfl | rfl
          · exact ⟨a1, rfl, tb6.h1⟩
          · exact ⟨a2, rfl, tb6.h2⟩
          · exact ⟨a3, rfl, tb6.h3⟩
          · exact ⟨a4, rfl, tb6.h4⟩
          · exact ⟨a5, rfl, tb6.h5⟩
        have htk := table_ok k hk5.1 hk5.2
        have htl : TableL k ≠ [] ∧ (TableL k).length ≤ 4 := by
          have : k = 1 ∨ k = 2 ∨ k = 3 ∨ k = 4 ∨ k = 5 := by omega
          rcases this with rfl | rfl | rfl | rfl | rfl <;> decide
        refine ⟨_, rfl, _, rfl, _, rfl, _, rfl, _, rfl, p, .ref ak, rfl, .inl ⟨_, .inl (k : Int), Rd.of tb6.d, rfl, hv.symm⟩, ?_⟩
        refine ⟨L, ak, _, rfl, SqL.of hl, strs_ne hl w6, ?_, ?_, w6, fun H7 v k7 w7 hv => ?_⟩
        · intro z
          exact htl.1 (List.map_eq_nil_iff.mp z)
        · show ((TableL k).map _).length < _
          rw [List.length_map]
          omega
        obtain ⟨e, he, rfl⟩ := List.mem_map.mp hv
        obtain ⟨_, _, el, ea⟩ := htk e he
        refine ⟨_, _, rfl, rfl, add_S (n := 60) (by omega), ?_⟩
        rw [S_app]
        have lit_x : ("x" : Str) = S [120] := by decide +kernel
        refine ⟨_, _, rfl, rfl, (by rw [lit_x]; exact add_S (n := 70) (by rw [List.length_append]; show _ + 1 ≤ _; omega)), ?_⟩
        rw [lit_x, S_app]
        refine ⟨k, ln ++ e ++ [120], rfl, ?_, fun c hc => ?_, fun H8 s8 => ⟨_, rfl, ?_⟩⟩
        · rw [List.length_append, List.length_append]
          show _ + 1 ≤ _
          omega
        · rcases List.mem_append.mp hc with h | h
          · rcases List.mem_append.mp h with h | h
            · exact (hlow c h).1
            · exact ea c h
          · rw [List.mem_singleton.mp h]
            decide
        rw [ends_some hk5 he]
        refine iteF ?_
        have kk : Keeps L H5 H8 := (Keeps.of s6).trans (k7.trans (Keeps.of s8))
        exact ⟨_, _, _, _, _, _, rfl, k5.trans kk, w7.same s8, tb5.keep w5 kk⟩
    · rintro σ H2 ⟨v2, v3, v4, v5, v6, v7, rfl, k2, w2, tb2⟩
      exact q H2 k2 w2

/-! ### the law: 0 _law_script, 1 _law_name, 2 _law_cell, 3 _law_well_here, 4 _law_k, 5 _law_row -/
theorem sq_same {K : PySem.W.Frag} {H H' : Hp} {a : Addr} {xs : List V} (h : SqL K H a xs) (s : Same H H') : SqL K H' a xs := by
  rcases h with (h | ⟨o, h⟩) | h
  · exact .inl (.inl (s _ _ h))
  · exact .inl (.inr ⟨o, s _ _ h⟩)
  · exact .inr h
theorem RowOk.keep {H H' : Hp} {L : Addr} {v : V} (h : RowOk H v) (w : Well H L) (k : Keeps L H H') : RowOk H' v := by
  rcases h with h | ⟨r, t, e, h, l⟩
  · exact .inl h
  · exact .inr ⟨r, t, e, k _ _ (tup_ne h w) h, l⟩
theorem RowOk.same {H H' : Hp} {v : V} (h : RowOk H v) (s : Same H H') : RowOk H' v := by
  rcases h with h | ⟨r, t, e, h, l⟩
  · exact .inl h
  · exact .inr ⟨r, t, e, s _ _ h, l⟩
def sp_law (K : PySem.W.Frag) : Sp := fun vs H Q _ => ∃ (a : Addr) (ns : List Int), vs = [.ref a] ∧ SqL K H a (ns.map V.int) ∧ ns.length ≤ 63 ∧ ∀ H', Q (.bl true) H'
theorem ok_law {P : Program} {w : World} {K : PySem.W.Frag} {mg : Str → Option Value} {base : Heap} {f : Addr} {fd : FuncData} (T : Txt K mg) (F : Fun K "law" "law" s_law f fd) : FnOk P w K mg base CX0 8 f fd ["_law_script"] (sp_law K) := by
  refine F.ok sc_law (fun vs H Q E h => ?_) (fun cdv A outer s H vs Q E hr h => ?_)
  · obtain ⟨a, ns, rfl, _⟩ := h
    rfl
  · obtain ⟨a, ns, rfl, hS, hlen, q⟩ := h
    refine ⟨_, (pss_cons (ps_for PassesOwn.never rfl (pi_list (pe_call0 (ok__law_names T) (hr.mono (by decide)) (by rfl) T.g__law_names T.f__law_names.kp T.b__law_names .nil pass0)) (pg_name (i := 1) sc_law.nd rfl (.inl rfl)) (pss_one (ps_if (PW.pt (pw_or (pt_cmpR op_ne (pe_call (ok_html_kind T) (hr.mono (by decide)) (by rfl) T.g_html_kind T.f_html_kind.kp T.b_html_kind .nil pass0 (pa_cons (pe_op op_add_str pe_str (pv 1)) pa_nil)) pe_int (nomark _)) (pw_or (pt_cmpR op_ne (pe_call (ok_html_kind T) (hr.mono (by decide)) (by rfl) T.g_html_kind T.f_html_kind.kp T.b_html_kind .nil pass0 (pa_cons (pe_op op_add_str (pe_op op_add_str pe_str (pe_upper (pv 1))) pe_str) pa_nil)) pe_int (nomark _)) (pw_or1 (pt_cmpR op_ne (pe_call (ok_html_kind T) (hr.mono (by decide)) (by rfl) T.g_html_kind T.f_html_kind.kp T.b_html_kind .nil pass0 (pa_cons (pe_op op_add_str (pe_op op_add_str pe_str (pv 1)) pe_str) pa_nil)) pe_int (nomark _)))))) (pss_one (ps_ret pe_bl)) pss_nil)))
        (pss_cons (ps_for PassesOwn.never rfl (pi_list (pe_op op_cat (pe_slice sl_list (pv 0) po_none (po_some pe_int)) (pe_lst (pa_cons pe_int pa_nil)))) (pg_name (i := 2) sc_law.nd rfl (.inl rfl)) (pss_cons (ps_set (i := 3) sc_law.nd rfl (.inl rfl) (pe_call (ok__law_well T) (hr.mono (by decide)) (by rfl) T.g__law_well T.f__law_well.kp T.b__law_well .nil pass0 (pa_cons (pv 2) pa_nil)))
        (pss_cons (ps_for PassesOwn.never rfl (pi_range1 (by rfl) T.z_range (pa_cons pe_int pa_nil)) (pg_name (i := 4) sc_law.nd rfl (.inl rfl)) (pss_one (ps_for PassesOwn.never rfl (pi_list (pe_lst (pa_cons (pe_call (ok__law_six T) (hr.mono (by decide)) (by rfl) T.g__law_six T.f__law_six.kp T.b__law_six .nil pass0 (pa_cons (pv 3) pa_nil)) (pa_cons (pe_call (ok__law_own T) (hr.mono (by decide)) (by rfl) T.g__law_own T.f__law_own.kp T.b__law_own .nil pass0 (pa_cons (pv 3) pa_nil)) (pa_cons (pe_call (ok__law_other T) (hr.mono (by decide)) (by rfl) T.g__law_other T.f__law_other.kp T.b__law_other .nil pass0 (pa_cons (pv 3) pa_nil)) pa_nil))))) (pg_name (i := 5) sc_law.nd rfl (.inl rfl)) (pss_one (ps_if (PW.pt (pw_and (pt_cmpR op_notN (pv 5) pe_non (nomark _)) (pw_and1 (pt_cmpR op_ne (pe_call (ok_html_kind T) (hr.mono (by decide)) (by rfl) T.g_html_kind T.f_html_kind.kp T.b_html_kind .nil pass0 (pa_cons (pe_ix ix_tup (pv 5) pe_int (fun _ _ => rfl)) pa_nil)) (pe_ix ix_tup (pv 5) pe_int (fun _ _ => rfl)) (nomark _))))) (pss_one (ps_ret pe_bl)) pss_nil)))))
        (pss_one (ps_if (pt_not (pt_val (pe_call (ok__law_ends_right T) (hr.mono (by decide)) (by rfl) T.g__law_ends_right T.f__law_ends_right.kp T.b__law_ends_right .nil pass0 (pa_cons (pv 3) pa_nil)))) (pss_one (ps_ret pe_bl)) pss_nil)))))
        (pss_one (ps_ret pe_bl)))), ?_⟩
    refine ⟨rfl, fun H1 r s1 nr hr1 => ⟨r, rfl, ⟨_, SqL.of hr1⟩, for_list (K := K) (a := r) (xs := BlockL.map fun l => V.str (S l)) (fun i σ H' => ∃ (v1 v2 v3 v4 v5 : Option V), σ = [some (.ref a), v1, v2, v3, v4, v5] ∧ Same H1 H') ?_ (fun i σ H' _ h => by obtain ⟨_, _, _, _, _, _, h⟩ := h; exact SqL.of (h _ _ hr1)) ?_ ?_⟩⟩
    · exact ⟨none, none, none, none, none, rfl, Same.refl _⟩
    · rintro i x σ H2 hi ⟨v1, v2, v3, v4, v5, rfl, s2⟩
      obtain ⟨n, hn, rfl⟩ : ∃ z ∈ BlockL, x = V.str (S z) := by
        obtain ⟨z, h1, h2⟩ := List.mem_map.mp (List.mem_of_getElem? hi)
        exact ⟨z, h1, h2.symm⟩
      obtain ⟨q1, q2, q3⟩ := names_six n hn
      obtain ⟨n1, n2, n3⟩ := block_small n hn
      have na : ∀ c ∈ n, c < 128 := fun y hy => by
        have : ∀ y ∈ SmallL, y < 128 := by decide
        exact this y (n1 y hy)
      refine ⟨_, rfl, _, _, rfl, rfl, (by rw [lit_lt]; exact add_S (n := 20) (by show 1 + _ ≤ _; omega)), ?_⟩
      rw [lit_lt, S_app]
      refine ⟨[60] ++ n, rfl, (by rw [List.length_append]; show 1 + _ ≤ _; omega), fun H3 s3 => ⟨rfl, _, rfl, ?_⟩⟩
      rw [show kindR ([60] ++ n) = 6 from q1, show decide (V.int ((6 : Nat) : Int) = V.int 6) = true from rfl]
      refine iteF ?_
      refine ⟨_, rfl, ⟨_, rfl⟩, _, rfl, rfl, (by rw [S_len]; omega), ?_⟩
      rw [upper_S n na]
      refine ⟨_, _, rfl, rfl, (by rw [lit_f1]; exact add_S (n := 20) (by rw [List.length_map]; show 2 + _ ≤ _; omega)), ?_⟩
      rw [lit_f1, S_app]
      refine ⟨_, _, rfl, rfl, (by rw [lit_e2]; exact add_S (n := 30) (by rw [List.length_append, List.length_map]; show 2 + _ + 2 ≤ _; omega)), ?_⟩
      rw [lit_e2, S_app]
      refine ⟨_, rfl, (by rw [List.length_append, List.length_append, List.length_map]; show 2 + _ + 2 ≤ _; omega), fun H4 s4 => ⟨rfl, _, rfl, ?_⟩⟩
      rw [q2, show decide (V.int ((6 : Nat) : Int) = V.int 6) = true from rfl]
      refine iteF ?_
      refine ⟨_, rfl, _, _, rfl, rfl, add_S (n := 20) (by show 1 + _ ≤ _; omega), ?_⟩
      rw [S_app]
      have lit_x : ("x" : Str) = S [120] := by decide +kernel
      refine ⟨_, _, rfl, rfl, (by rw [lit_x]; exact add_S (n := 30) (by rw [List.length_append]; show 1 + _ + 1 ≤ _; omega)), ?_⟩
      rw [lit_x, S_app]
      refine ⟨_, rfl, (by rw [List.length_append, List.length_append]; show 1 + _ + 1 ≤ _; omega), fun H5 s5 => ⟨rfl, _, rfl, ?_⟩⟩
      rw [show kindR ([60] ++ n ++ [120]) = 0 from q3, show decide (V.int ((0 : Nat) : Int) = V.int 0) = true from rfl]
      refine iteF ?_
      exact ⟨_, _, _, _, _, rfl, s2.trans (s3.trans (s4.trans s5))⟩
    rintro σ H2 ⟨v1, v2, v3, v4, v5, rfl, s2⟩
    have hS2 := sq_same (sq_same hS s1) s2
    clear hS s1 s2 hr1 nr
    -- script[:8] + [0]
    refine ⟨_, rfl, _, rfl, a, _, rfl, hS2, fun p np => ⟨by show 1 ≤ sizeLine; decide, fun p2 np2 => ⟨p, p2, _, _, rfl, rfl, by rw [upd_ne (ne_of_none upd_same np2)]; exact upd_same, upd_same, ?_, fun p3 np3 => ?_⟩⟩⟩
    · have := cutV_length (ns.map V.int) none (some 8)
      rw [List.length_map] at this
      rw [sizeLine_eq]
      show (cutV (ns.map V.int) none (some 8)).length + 1 ≤ _
      omega
    have ec : cutV (ns.map V.int) none (some 8) ++ [V.int 0] = (ns.take 8 ++ [0]).map V.int := by
      unfold cutV
      rw [HT.sIx_none, show HT.sIx (ns.map V.int).length (ns.map V.int).length (some 8) = min 8 (ns.map V.int).length from HT.sIx_nat _ _ 8]
      rw [List.drop_zero, Nat.sub_zero, List.map_append, List.map_take]
      have e8 : (ns.map V.int).take (min 8 (ns.map V.int).length) = (ns.map V.int).take 8 := by
        by_cases h8 : 8 ≤ (ns.map V.int).length
        · rw [Nat.min_eq_left h8]
        · rw [Nat.min_eq_right (by omega), List.take_length, List.take_of_length_le (by omega)]
      rw [e8]
      rfl
    rw [ec]
    have h3 : (upd (upd (upd H2 p (.lst (cutV (ns.map V.int) none (some 8)))) p2 (.lst [V.int 0])) p3 (.lst ((ns.take 8 ++ [0]).map V.int))) p3 = some (.lst ((ns.take 8 ++ [0]).map V.int)) := upd_same
    generalize upd (upd (upd H2 p (.lst (cutV (ns.map V.int) none (some 8)))) p2 (.lst [V.int 0])) p3 (.lst ((ns.take 8 ++ [0]).map V.int)) = H0 at h3 ⊢
    generalize ns.take 8 ++ [0] = ms at h3 ⊢
    refine ⟨p3, rfl, ⟨_, SqL.of h3⟩, for_list (K := K) (a := p3) (xs := ms.map V.int) (fun i σ H' => ∃ (v1 v2 v3 v4 v5 : Option V), σ = [some (.ref a), v1, v2, v3, v4, v5] ∧ H' p3 = some (.lst (ms.map V.int))) ?_ (fun i σ H' _ h => by obtain ⟨_, _, _, _, _, _, h⟩ := h; exact SqL.of h) ?_ ?_⟩
    · exact ⟨_, _, _, _, _, rfl, h3⟩
    · rintro i x σ H' hi ⟨v1, v2, v3, v4, v5, rfl, hp⟩
      obtain ⟨z, hz, rfl⟩ : ∃ z, ms[i]? = some z ∧ x = V.int z := by
        rw [List.getElem?_map] at hi
        cases e : ms[i]? with
        | none => rw [e] at hi; cases hi
        | some z => rw [e] at hi; exact ⟨z, rfl, (Option.some.inj hi).symm⟩
      -- the well
      refine ⟨_, rfl, z, rfl, fun L nL => ?_⟩
      have hW1 : Well (upd H' L (.lst [.int z, .int 0])) L := ⟨_, _, upd_same⟩
      have npL : p3 ≠ L := ne_of_none hp nL
      have hp1 : (upd H' L (.lst [.int z, .int 0])) p3 = some (.lst (ms.map V.int)) := by rw [upd_ne npL]; exact hp
      generalize upd H' L (.lst [.int z, .int 0]) = H1 at hW1 hp1 ⊢
      refine ⟨6, rfl, by decide, by decide, for_range (lo := 0) (n := 6) (fun i σ H' => ∃ (v1 v4 v5 : Option V), σ = [some (.ref a), v1, some (.int z), some (.ref L), v4, v5] ∧ H' p3 = some (.lst (ms.map V.int)) ∧ Well H' L) ?_ ?_ ?_⟩
      · exact ⟨_, _, _, rfl, hp1, hW1⟩
      · rintro k σ H3 hk ⟨v1, v4, v5, rfl, hp3, hW3⟩
        refine ⟨_, rfl, L, rfl, hW3, fun H4 r1 k4 w4 o1 => ⟨_, rfl, L, rfl, w4, fun H5 r2 k5 w5 o2 => ⟨_, rfl, L, rfl, w5, fun H6 r3 k6 w6 o3 => ⟨by show 3 ≤ sizeLine; decide, fun m nm => ?_⟩⟩⟩⟩
        have hp6 := k6 _ _ npL (k5 _ _ npL (k4 _ _ npL hp3))
        have sm := same_new (o := .lst [r1, r2, r3]) nm
        have o1' := ((o1.keep w4 k5).keep w5 k6).same sm
        have o2' := (o2.keep w5 k6).same sm
        have o3' := o3.same sm
        have hp7 := sm _ _ hp6
        have w7 := w6.same sm
        have hm : (upd H6 m (.lst [r1, r2, r3])) m = some (.lst [r1, r2, r3]) := upd_same
        generalize upd H6 m (.lst [r1, r2, r3]) = H7 at o1' o2' o3' hp7 w7 hm ⊢
        refine ⟨m, rfl, ⟨_, SqL.of hm⟩, for_list (K := K) (a := m) (xs := [r1, r2, r3]) (fun i σ H' => ∃ (v5 : Option V), σ = [some (.ref a), v1, some (.int z), some (.ref L), some (.int (0 + k : Int)), v5] ∧ Same H7 H') ?_ (fun i σ H' _ h => by obtain ⟨_, _, h⟩ := h; exact SqL.of (h _ _ hm)) ?_ ?_⟩
        · exact ⟨_, rfl, Same.refl _⟩
        · rintro j v σ H8 hj ⟨v5, rfl, s8⟩
          have ov : RowOk H8 v := by
            have := List.mem_of_getElem? hj
            simp only [List.mem_cons, List.not_mem_nil, or_false] at this
            rcases this with rfl | rfl | rfl
            · exact o1'.same s8
            · exact o2'.same s8
            · exact o3'.same s8
          refine ⟨_, rfl, rfl, _, rfl, ?_⟩
          rcases ov with rfl | ⟨r, t, rfl, ht, tl⟩
          · exact iteF (iteF ⟨_, rfl, s8⟩)
          · rw [decide_eq_false (by intro z; cases z)]
            refine iteT ?_
            refine ⟨_, rfl, r, _, _, _, rfl, rfl, SqT.of ht, p0 _ _, t, rfl, by omega, fun H9 s9 => ?_⟩
            refine ⟨_, rfl, r, _, _, _, rfl, rfl, SqT.of (s9 _ _ ht), p1 _ _, rfl, _, rfl, ?_⟩
            rw [decide_eq_true rfl]
            exact iteF ⟨_, rfl, s8.trans s9⟩
        · rintro σ H8 ⟨v5, rfl, s8⟩
          exact ⟨_, _, _, rfl, s8 _ _ hp7, w7.same s8⟩
      · rintro σ H3 ⟨v1, v4, v5, rfl, hp3, hW3⟩
        refine ⟨_, rfl, L, rfl, hW3, fun H4 k4 w4 => ⟨_, rfl, iteF ?_⟩⟩
        exact ⟨_, _, _, _, _, rfl, k4 _ _ npL hp3⟩
    · rintro σ H' ⟨v1, v2, v3, v4, v5, rfl, hp⟩
      exact q H'

theorem all_mk {l : PySem.W.OpenLaw} {w : World} {K : PySem.W.Frag} {h : Heap} {mg : Str → Option Value} {fa : Addr} (X : K.In h) (G : h.Ns mainGlobals mg) (hfa : mg "law" = some (.ref fa))
    {f0 : Addr} {od0 an0 : Option Addr} {sl0 : Array (Option Value)} {oc0 kV0 dc0 pm0 cd0 ct0 : Value}
    (a0 : PySem.W.nsIn K mainGlobals "is_blank" = some (some (.ref f0))) (l0 : K.lookup f0 = some ⟨oc0, od0, .func (PySem.W.fnOf "is_blank" "is_blank" (defArgs s_is_blank) (defBody s_is_blank) (defScope s_is_blank) .none kV0 dc0 pm0 an0 cd0 ct0), sl0⟩) (c0 : PySem.W.codeIn K cd0 "is_blank" = true) (k0 : PySem.W.keepIn K (.ref f0) = true)
    {f1 : Addr} {od1 an1 : Option Addr} {sl1 : Array (Option Value)} {oc1 kV1 dc1 pm1 cd1 ct1 : Value}
    (a1 : PySem.W.nsIn K mainGlobals "behind_all" = some (some (.ref f1))) (l1 : K.lookup f1 = some ⟨oc1, od1, .func (PySem.W.fnOf "behind_all" "behind_all" (defArgs s_behind_all) (defBody s_behind_all) (defScope s_behind_all) .none kV1 dc1 pm1 an1 cd1 ct1), sl1⟩) (c1 : PySem.W.codeIn K cd1 "behind_all" = true) (k1 : PySem.W.keepIn K (.ref f1) = true)
    {f2 : Addr} {od2 an2 : Option Addr} {sl2 : Array (Option Value)} {oc2 kV2 dc2 pm2 cd2 ct2 : Value}
    (a2 : PySem.W.nsIn K mainGlobals "behind_gap" = some (some (.ref f2))) (l2 : K.lookup f2 = some ⟨oc2, od2, .func (PySem.W.fnOf "behind_gap" "behind_gap" (defArgs s_behind_gap) (defBody s_behind_gap) (defScope s_behind_gap) .none kV2 dc2 pm2 an2 cd2 ct2), sl2⟩) (c2 : PySem.W.codeIn K cd2 "behind_gap" = true) (k2 : PySem.W.keepIn K (.ref f2) = true)
    {f3 : Addr} {od3 an3 : Option Addr} {sl3 : Array (Option Value)} {oc3 kV3 dc3 pm3 cd3 ct3 : Value}
    (a3 : PySem.W.nsIn K mainGlobals "behind_first" = some (some (.ref f3))) (l3 : K.lookup f3 = some ⟨oc3, od3, .func (PySem.W.fnOf "behind_first" "behind_first" (defArgs s_behind_first) (defBody s_behind_first) (defScope s_behind_first) .none kV3 dc3 pm3 an3 cd3 ct3), sl3⟩) (c3 : PySem.W.codeIn K cd3 "behind_first" = true) (k3 : PySem.W.keepIn K (.ref f3) = true)
    {f4 : Addr} {od4 an4 : Option Addr} {sl4 : Array (Option Value)} {oc4 kV4 dc4 pm4 cd4 ct4 : Value}
    (a4 : PySem.W.nsIn K mainGlobals "behind_sign" = some (some (.ref f4))) (l4 : K.lookup f4 = some ⟨oc4, od4, .func (PySem.W.fnOf "behind_sign" "behind_sign" (defArgs s_behind_sign) (defBody s_behind_sign) (defScope s_behind_sign) .none kV4 dc4 pm4 an4 cd4 ct4), sl4⟩) (c4 : PySem.W.codeIn K cd4 "behind_sign" = true) (k4 : PySem.W.keepIn K (.ref f4) = true)
    {f5 : Addr} {od5 an5 : Option Addr} {sl5 : Array (Option Value)} {oc5 kV5 dc5 pm5 cd5 ct5 : Value}
    (a5 : PySem.W.nsIn K mainGlobals "html_kind" = some (some (.ref f5))) (l5 : K.lookup f5 = some ⟨oc5, od5, .func (PySem.W.fnOf "html_kind" "html_kind" (defArgs s_html_kind) (defBody s_html_kind) (defScope s_html_kind) .none kV5 dc5 pm5 an5 cd5 ct5), sl5⟩) (c5 : PySem.W.codeIn K cd5 "html_kind" = true) (k5 : PySem.W.keepIn K (.ref f5) = true)
    {f6 : Addr} {od6 an6 : Option Addr} {sl6 : Array (Option Value)} {oc6 kV6 dc6 pm6 cd6 ct6 : Value}
    (a6 : PySem.W.nsIn K mainGlobals "html_ends" = some (some (.ref f6))) (l6 : K.lookup f6 = some ⟨oc6, od6, .func (PySem.W.fnOf "html_ends" "html_ends" (defArgs s_html_ends) (defBody s_html_ends) (defScope s_html_ends) .none kV6 dc6 pm6 an6 cd6 ct6), sl6⟩) (c6 : PySem.W.codeIn K cd6 "html_ends" = true) (k6 : PySem.W.keepIn K (.ref f6) = true)
    {f7 : Addr} {od7 an7 : Option Addr} {sl7 : Array (Option Value)} {oc7 kV7 dc7 pm7 cd7 ct7 : Value}
    (a7 : PySem.W.nsIn K mainGlobals "tag_at" = some (some (.ref f7))) (l7 : K.lookup f7 = some ⟨oc7, od7, .func (PySem.W.fnOf "tag_at" "tag_at" (defArgs s_tag_at) (defBody s_tag_at) (defScope s_tag_at) .none kV7 dc7 pm7 an7 cd7 ct7), sl7⟩) (c7 : PySem.W.codeIn K cd7 "tag_at" = true) (k7 : PySem.W.keepIn K (.ref f7) = true)
    {f8 : Addr} {od8 an8 : Option Addr} {sl8 : Array (Option Value)} {oc8 kV8 dc8 pm8 cd8 ct8 : Value}
    (a8 : PySem.W.nsIn K mainGlobals "begins_raw" = some (some (.ref f8))) (l8 : K.lookup f8 = some ⟨oc8, od8, .func (PySem.W.fnOf "begins_raw" "begins_raw" (defArgs s_begins_raw) (defBody s_begins_raw) (defScope s_begins_raw) .none kV8 dc8 pm8 an8 cd8 ct8), sl8⟩) (c8 : PySem.W.codeIn K cd8 "begins_raw" = true) (k8 : PySem.W.keepIn K (.ref f8) = true)
    {f9 : Addr} {od9 an9 : Option Addr} {sl9 : Array (Option Value)} {oc9 kV9 dc9 pm9 cd9 ct9 : Value}
    (a9 : PySem.W.nsIn K mainGlobals "begins_block" = some (some (.ref f9))) (l9 : K.lookup f9 = some ⟨oc9, od9, .func (PySem.W.fnOf "begins_block" "begins_block" (defArgs s_begins_block) (defBody s_begins_block) (defScope s_begins_block) .none kV9 dc9 pm9 an9 cd9 ct9), sl9⟩) (c9 : PySem.W.codeIn K cd9 "begins_block" = true) (k9 : PySem.W.keepIn K (.ref f9) = true)
    {f10 : Addr} {od10 an10 : Option Addr} {sl10 : Array (Option Value)} {oc10 kV10 dc10 pm10 cd10 ct10 : Value}
    (a10 : PySem.W.nsIn K mainGlobals "is_lone_tag" = some (some (.ref f10))) (l10 : K.lookup f10 = some ⟨oc10, od10, .func (PySem.W.fnOf "is_lone_tag" "is_lone_tag" (defArgs s_is_lone_tag) (defBody s_is_lone_tag) (defScope s_is_lone_tag) .none kV10 dc10 pm10 an10 cd10 ct10), sl10⟩) (c10 : PySem.W.codeIn K cd10 "is_lone_tag" = true) (k10 : PySem.W.keepIn K (.ref f10) = true)
    {f11 : Addr} {od11 an11 : Option Addr} {sl11 : Array (Option Value)} {oc11 kV11 dc11 pm11 cd11 ct11 : Value}
    (a11 : PySem.W.nsIn K mainGlobals "name_place" = some (some (.ref f11))) (l11 : K.lookup f11 = some ⟨oc11, od11, .func (PySem.W.fnOf "name_place" "name_place" (defArgs s_name_place) (defBody s_name_place) (defScope s_name_place) .none kV11 dc11 pm11 an11 cd11 ct11), sl11⟩) (c11 : PySem.W.codeIn K cd11 "name_place" = true) (k11 : PySem.W.keepIn K (.ref f11) = true)
    {f12 : Addr} {od12 an12 : Option Addr} {sl12 : Array (Option Value)} {oc12 kV12 dc12 pm12 cd12 ct12 : Value}
    (a12 : PySem.W.nsIn K mainGlobals "name_and_behind" = some (some (.ref f12))) (l12 : K.lookup f12 = some ⟨oc12, od12, .func (PySem.W.fnOf "name_and_behind" "name_and_behind" (defArgs s_name_and_behind) (defBody s_name_and_behind) (defScope s_name_and_behind) .none kV12 dc12 pm12 an12 cd12 ct12), sl12⟩) (c12 : PySem.W.codeIn K cd12 "name_and_behind" = true) (k12 : PySem.W.keepIn K (.ref f12) = true)
    {f13 : Addr} {od13 an13 : Option Addr} {sl13 : Array (Option Value)} {oc13 kV13 dc13 pm13 cd13 ct13 : Value}
    (a13 : PySem.W.nsIn K mainGlobals "open_tag_at" = some (some (.ref f13))) (l13 : K.lookup f13 = some ⟨oc13, od13, .func (PySem.W.fnOf "open_tag_at" "open_tag_at" (defArgs s_open_tag_at) (defBody s_open_tag_at) (defScope s_open_tag_at) .none kV13 dc13 pm13 an13 cd13 ct13), sl13⟩) (c13 : PySem.W.codeIn K cd13 "open_tag_at" = true) (k13 : PySem.W.keepIn K (.ref f13) = true)
    {f14 : Addr} {od14 an14 : Option Addr} {sl14 : Array (Option Value)} {oc14 kV14 dc14 pm14 cd14 ct14 : Value}
    (a14 : PySem.W.nsIn K mainGlobals "closing_tag_at" = some (some (.ref f14))) (l14 : K.lookup f14 = some ⟨oc14, od14, .func (PySem.W.fnOf "closing_tag_at" "closing_tag_at" (defArgs s_closing_tag_at) (defBody s_closing_tag_at) (defScope s_closing_tag_at) .none kV14 dc14 pm14 an14 cd14 ct14), sl14⟩) (c14 : PySem.W.codeIn K cd14 "closing_tag_at" = true) (k14 : PySem.W.keepIn K (.ref f14) = true)
    {f15 : Addr} {od15 an15 : Option Addr} {sl15 : Array (Option Value)} {oc15 kV15 dc15 pm15 cd15 ct15 : Value}
    (a15 : PySem.W.nsIn K mainGlobals "attribute_at" = some (some (.ref f15))) (l15 : K.lookup f15 = some ⟨oc15, od15, .func (PySem.W.fnOf "attribute_at" "attribute_at" (defArgs s_attribute_at) (defBody s_attribute_at) (defScope s_attribute_at) .none kV15 dc15 pm15 an15 cd15 ct15), sl15⟩) (c15 : PySem.W.codeIn K cd15 "attribute_at" = true) (k15 : PySem.W.keepIn K (.ref f15) = true)
    {f16 : Addr} {od16 an16 : Option Addr} {sl16 : Array (Option Value)} {oc16 kV16 dc16 pm16 cd16 ct16 : Value}
    (a16 : PySem.W.nsIn K mainGlobals "value_at" = some (some (.ref f16))) (l16 : K.lookup f16 = some ⟨oc16, od16, .func (PySem.W.fnOf "value_at" "value_at" (defArgs s_value_at) (defBody s_value_at) (defScope s_value_at) .none kV16 dc16 pm16 an16 cd16 ct16), sl16⟩) (c16 : PySem.W.codeIn K cd16 "value_at" = true) (k16 : PySem.W.keepIn K (.ref f16) = true)
    {f17 : Addr} {od17 an17 : Option Addr} {sl17 : Array (Option Value)} {oc17 kV17 dc17 pm17 cd17 ct17 : Value}
    (a17 : PySem.W.nsIn K mainGlobals "name_at" = some (some (.ref f17))) (l17 : K.lookup f17 = some ⟨oc17, od17, .func (PySem.W.fnOf "name_at" "name_at" (defArgs s_name_at) (defBody s_name_at) (defScope s_name_at) .none kV17 dc17 pm17 an17 cd17 ct17), sl17⟩) (c17 : PySem.W.codeIn K cd17 "name_at" = true) (k17 : PySem.W.keepIn K (.ref f17) = true)
    {f18 : Addr} {od18 an18 : Option Addr} {sl18 : Array (Option Value)} {oc18 kV18 dc18 pm18 cd18 ct18 : Value}
    (a18 : PySem.W.nsIn K mainGlobals "is_letter" = some (some (.ref f18))) (l18 : K.lookup f18 = some ⟨oc18, od18, .func (PySem.W.fnOf "is_letter" "is_letter" (defArgs s_is_letter) (defBody s_is_letter) (defScope s_is_letter) .none kV18 dc18 pm18 an18 cd18 ct18), sl18⟩) (c18 : PySem.W.codeIn K cd18 "is_letter" = true) (k18 : PySem.W.keepIn K (.ref f18) = true)
    {f19 : Addr} {od19 an19 : Option Addr} {sl19 : Array (Option Value)} {oc19 kV19 dc19 pm19 cd19 ct19 : Value}
    (a19 : PySem.W.nsIn K mainGlobals "_law_well" = some (some (.ref f19))) (l19 : K.lookup f19 = some ⟨oc19, od19, .func (PySem.W.fnOf "_law_well" "_law_well" (defArgs s__law_well) (defBody s__law_well) (defScope s__law_well) .none kV19 dc19 pm19 an19 cd19 ct19), sl19⟩) (c19 : PySem.W.codeIn K cd19 "_law_well" = true) (k19 : PySem.W.keepIn K (.ref f19) = true)
    {f20 : Addr} {od20 an20 : Option Addr} {sl20 : Array (Option Value)} {oc20 kV20 dc20 pm20 cd20 ct20 : Value}
    (a20 : PySem.W.nsIn K mainGlobals "_law_draw" = some (some (.ref f20))) (l20 : K.lookup f20 = some ⟨oc20, od20, .func (PySem.W.fnOf "_law_draw" "_law_draw" (defArgs s__law_draw) (defBody s__law_draw) (defScope s__law_draw) .none kV20 dc20 pm20 an20 cd20 ct20), sl20⟩) (c20 : PySem.W.codeIn K cd20 "_law_draw" = true) (k20 : PySem.W.keepIn K (.ref f20) = true)
    {f21 : Addr} {od21 an21 : Option Addr} {sl21 : Array (Option Value)} {oc21 kV21 dc21 pm21 cd21 ct21 : Value}
    (a21 : PySem.W.nsIn K mainGlobals "_law_one" = some (some (.ref f21))) (l21 : K.lookup f21 = some ⟨oc21, od21, .func (PySem.W.fnOf "_law_one" "_law_one" (defArgs s__law_one) (defBody s__law_one) (defScope s__law_one) .none kV21 dc21 pm21 an21 cd21 ct21), sl21⟩) (c21 : PySem.W.codeIn K cd21 "_law_one" = true) (k21 : PySem.W.keepIn K (.ref f21) = true)
    {f22 : Addr} {od22 an22 : Option Addr} {sl22 : Array (Option Value)} {oc22 kV22 dc22 pm22 cd22 ct22 : Value}
    (a22 : PySem.W.nsIn K mainGlobals "_law_names" = some (some (.ref f22))) (l22 : K.lookup f22 = some ⟨oc22, od22, .func (PySem.W.fnOf "_law_names" "_law_names" (defArgs s__law_names) (defBody s__law_names) (defScope s__law_names) .none kV22 dc22 pm22 an22 cd22 ct22), sl22⟩) (c22 : PySem.W.codeIn K cd22 "_law_names" = true) (k22 : PySem.W.keepIn K (.ref f22) = true)
    {f23 : Addr} {od23 an23 : Option Addr} {sl23 : Array (Option Value)} {oc23 kV23 dc23 pm23 cd23 ct23 : Value}
    (a23 : PySem.W.nsIn K mainGlobals "_law_cased" = some (some (.ref f23))) (l23 : K.lookup f23 = some ⟨oc23, od23, .func (PySem.W.fnOf "_law_cased" "_law_cased" (defArgs s__law_cased) (defBody s__law_cased) (defScope s__law_cased) .none kV23 dc23 pm23 an23 cd23 ct23), sl23⟩) (c23 : PySem.W.codeIn K cd23 "_law_cased" = true) (k23 : PySem.W.keepIn K (.ref f23) = true)
    {f24 : Addr} {od24 an24 : Option Addr} {sl24 : Array (Option Value)} {oc24 kV24 dc24 pm24 cd24 ct24 : Value}
    (a24 : PySem.W.nsIn K mainGlobals "_law_six" = some (some (.ref f24))) (l24 : K.lookup f24 = some ⟨oc24, od24, .func (PySem.W.fnOf "_law_six" "_law_six" (defArgs s__law_six) (defBody s__law_six) (defScope s__law_six) .none kV24 dc24 pm24 an24 cd24 ct24), sl24⟩) (c24 : PySem.W.codeIn K cd24 "_law_six" = true) (k24 : PySem.W.keepIn K (.ref f24) = true)
    {f25 : Addr} {od25 an25 : Option Addr} {sl25 : Array (Option Value)} {oc25 kV25 dc25 pm25 cd25 ct25 : Value}
    (a25 : PySem.W.nsIn K mainGlobals "_law_own" = some (some (.ref f25))) (l25 : K.lookup f25 = some ⟨oc25, od25, .func (PySem.W.fnOf "_law_own" "_law_own" (defArgs s__law_own) (defBody s__law_own) (defScope s__law_own) .none kV25 dc25 pm25 an25 cd25 ct25), sl25⟩) (c25 : PySem.W.codeIn K cd25 "_law_own" = true) (k25 : PySem.W.keepIn K (.ref f25) = true)
    {f26 : Addr} {od26 an26 : Option Addr} {sl26 : Array (Option Value)} {oc26 kV26 dc26 pm26 cd26 ct26 : Value}
    (a26 : PySem.W.nsIn K mainGlobals "_law_other" = some (some (.ref f26))) (l26 : K.lookup f26 = some ⟨oc26, od26, .func (PySem.W.fnOf "_law_other" "_law_other" (defArgs s__law_other) (defBody s__law_other) (defScope s__law_other) .none kV26 dc26 pm26 an26 cd26 ct26), sl26⟩) (c26 : PySem.W.codeIn K cd26 "_law_other" = true) (k26 : PySem.W.keepIn K (.ref f26) = true)
    {f27 : Addr} {od27 an27 : Option Addr} {sl27 : Array (Option Value)} {oc27 kV27 dc27 pm27 cd27 ct27 : Value}
    (a27 : PySem.W.nsIn K mainGlobals "_law_ends_right" = some (some (.ref f27))) (l27 : K.lookup f27 = some ⟨oc27, od27, .func (PySem.W.fnOf "_law_ends_right" "_law_ends_right" (defArgs s__law_ends_right) (defBody s__law_ends_right) (defScope s__law_ends_right) .none kV27 dc27 pm27 an27 cd27 ct27), sl27⟩) (c27 : PySem.W.codeIn K cd27 "_law_ends_right" = true) (k27 : PySem.W.keepIn K (.ref f27) = true)
    {f28 : Addr} {od28 an28 : Option Addr} {sl28 : Array (Option Value)} {oc28 kV28 dc28 pm28 cd28 ct28 : Value}
    (a28 : PySem.W.nsIn K mainGlobals "law" = some (some (.ref f28))) (l28 : K.lookup f28 = some ⟨oc28, od28, .func (PySem.W.fnOf "law" "law" (defArgs s_law) (defBody s_law) (defScope s_law) .none kV28 dc28 pm28 an28 cd28 ct28), sl28⟩) (c28 : PySem.W.codeIn K cd28 "law" = true) (k28 : PySem.W.keepIn K (.ref f28) = true)
    (z_any : PySem.W.nsIn K mainGlobals "any" = some none)
    (z_int : PySem.W.nsIn K mainGlobals "int" = some none)
    (z_len : PySem.W.nsIn K mainGlobals "len" = some none)
    (z_range : PySem.W.nsIn K mainGlobals "range" = some none)
    {t_WHITE : Tok} (q_WHITE : PySem.W.nsIn K mainGlobals "WHITE" = some (some (.str " \t" t_WHITE)))
    {t_INLINE_WHITE : Tok} (q_INLINE_WHITE : PySem.W.nsIn K mainGlobals "INLINE_WHITE" = some (some (.str " \t\n" t_INLINE_WHITE)))
    {t_LETTERS : Tok} (q_LETTERS : PySem.W.nsIn K mainGlobals "LETTERS" = some (some (.str "abcdefghijklmnopqrstuvwxyzABCDEFGHIJKLMNOPQRSTUVWXYZ" t_LETTERS)))
    {t_NAME_SIGNS : Tok} (q_NAME_SIGNS : PySem.W.nsIn K mainGlobals "NAME_SIGNS" = some (some (.str "abcdefghijklmnopqrstuvwxyzABCDEFGHIJKLMNOPQRSTUVWXYZ0123456789-" t_NAME_SIGNS)))
    {t_KEY_SIGNS : Tok} (q_KEY_SIGNS : PySem.W.nsIn K mainGlobals "KEY_SIGNS" = some (some (.str "abcdefghijklmnopqrstuvwxyzABCDEFGHIJKLMNOPQRSTUVWXYZ0123456789_.:-" t_KEY_SIGNS)))
    {t_NO_BARE_SIGNS : Tok} (q_NO_BARE_SIGNS : PySem.W.nsIn K mainGlobals "NO_BARE_SIGNS" = some (some (.str " \t\n\"'=<>`" t_NO_BARE_SIGNS)))
    {A_RAW_NAMES : Addr} {O_RAW_NAMES : Option Addr} {n_RAW_NAMES : Nat} {w_RAW_NAMES : Array (Option Value)} {t_RAW_NAMES_0 t_RAW_NAMES_1 t_RAW_NAMES_2 t_RAW_NAMES_3 : Tok} (q_RAW_NAMES : PySem.W.nsIn K mainGlobals "RAW_NAMES" = some (some (.ref A_RAW_NAMES)))
    (L_RAW_NAMES : K.lookup A_RAW_NAMES = some ⟨.type "tuple", O_RAW_NAMES, .seq #[.str "script" t_RAW_NAMES_0, .str "pre" t_RAW_NAMES_1, .str "style" t_RAW_NAMES_2, .str "textarea" t_RAW_NAMES_3] n_RAW_NAMES, w_RAW_NAMES⟩)
    {A_BLOCK_NAMES : Addr} {O_BLOCK_NAMES : Option Addr} {n_BLOCK_NAMES : Nat} {w_BLOCK_NAMES : Array (Option Value)} {t_BLOCK_NAMES_0 t_BLOCK_NAMES_1 t_BLOCK_NAMES_2 t_BLOCK_NAMES_3 t_BLOCK_NAMES_4 t_BLOCK_NAMES_5 t_BLOCK_NAMES_6 t_BLOCK_NAMES_7 t_BLOCK_NAMES_8 t_BLOCK_NAMES_9 t_BLOCK_NAMES_10 t_BLOCK_NAMES_11 t_BLOCK_NAMES_12 t_BLOCK_NAMES_13 t_BLOCK_NAMES_14 t_BLOCK_NAMES_15 t_BLOCK_NAMES_16 t_BLOCK_NAMES_17 t_BLOCK_NAMES_18 t_BLOCK_NAMES_19 t_BLOCK_NAMES_20 t_BLOCK_NAMES_21 t_BLOCK_NAMES_22 t_BLOCK_NAMES_23 t_BLOCK_NAMES_24 t_BLOCK_NAMES_25 t_BLOCK_NAMES_26 t_BLOCK_NAMES_27 t_BLOCK_NAMES_28 t_BLOCK_NAMES_29 t_BLOCK_NAMES_30 t_BLOCK_NAMES_31 t_BLOCK_NAMES_32 t_BLOCK_NAMES_33 t_BLOCK_NAMES_34 t_BLOCK_NAMES_35 t_BLOCK_NAMES_36 t_BLOCK_NAMES_37 t_BLOCK_NAMES_38 t_BLOCK_NAMES_39 t_BLOCK_NAMES_40 t_BLOCK_NAMES_41 t_BLOCK_NAMES_42 t_BLOCK_NAMES_43 t_BLOCK_NAMES_44 t_BLOCK_NAMES_45 t_BLOCK_NAMES_46 t_BLOCK_NAMES_47 t_BLOCK_NAMES_48 t_BLOCK_NAMES_49 t_BLOCK_NAMES_50 t_BLOCK_NAMES_51 t_BLOCK_NAMES_52 t_BLOCK_NAMES_53 t_BLOCK_NAMES_54 t_BLOCK_NAMES_55 t_BLOCK_NAMES_56 t_BLOCK_NAMES_57 t_BLOCK_NAMES_58 t_BLOCK_NAMES_59 t_BLOCK_NAMES_60 t_BLOCK_NAMES_61 : Tok} (q_BLOCK_NAMES : PySem.W.nsIn K mainGlobals "BLOCK_NAMES" = some (some (.ref A_BLOCK_NAMES)))
    (L_BLOCK_NAMES : K.lookup A_BLOCK_NAMES = some ⟨.type "tuple", O_BLOCK_NAMES, .seq #[.str "address" t_BLOCK_NAMES_0, .str "article" t_BLOCK_NAMES_1, .str "aside" t_BLOCK_NAMES_2, .str "base" t_BLOCK_NAMES_3, .str "basefont" t_BLOCK_NAMES_4, .str "blockquote" t_BLOCK_NAMES_5, .str "body" t_BLOCK_NAMES_6, .str "caption" t_BLOCK_NAMES_7, .str "center" t_BLOCK_NAMES_8, .str "col" t_BLOCK_NAMES_9, .str "colgroup" t_BLOCK_NAMES_10, .str "dd" t_BLOCK_NAMES_11, .str "details" t_BLOCK_NAMES_12, .str "dialog" t_BLOCK_NAMES_13, .str "dir" t_BLOCK_NAMES_14, .str "div" t_BLOCK_NAMES_15, .str "dl" t_BLOCK_NAMES_16, .str "dt" t_BLOCK_NAMES_17, .str "fieldset" t_BLOCK_NAMES_18, .str "figcaption" t_BLOCK_NAMES_19, .str "figure" t_BLOCK_NAMES_20, .str "footer" t_BLOCK_NAMES_21, .str "form" t_BLOCK_NAMES_22, .str "frame" t_BLOCK_NAMES_23, .str "frameset" t_BLOCK_NAMES_24, .str "h1" t_BLOCK_NAMES_25, .str "h2" t_BLOCK_NAMES_26, .str "h3" t_BLOCK_NAMES_27, .str "h4" t_BLOCK_NAMES_28, .str "h5" t_BLOCK_NAMES_29, .str "h6" t_BLOCK_NAMES_30, .str "head" t_BLOCK_NAMES_31, .str "header" t_BLOCK_NAMES_32, .str "hr" t_BLOCK_NAMES_33, .str "html" t_BLOCK_NAMES_34, .str "iframe" t_BLOCK_NAMES_35, .str "legend" t_BLOCK_NAMES_36, .str "li" t_BLOCK_NAMES_37, .str "link" t_BLOCK_NAMES_38, .str "main" t_BLOCK_NAMES_39, .str "menu" t_BLOCK_NAMES_40, .str "menuitem" t_BLOCK_NAMES_41, .str "nav" t_BLOCK_NAMES_42, .str "noframes" t_BLOCK_NAMES_43, .str "ol" t_BLOCK_NAMES_44, .str "optgroup" t_BLOCK_NAMES_45, .str "option" t_BLOCK_NAMES_46, .str "p" t_BLOCK_NAMES_47, .str "param" t_BLOCK_NAMES_48, .str "search" t_BLOCK_NAMES_49, .str "section" t_BLOCK_NAMES_50, .str "summary" t_BLOCK_NAMES_51, .str "table" t_BLOCK_NAMES_52, .str "tbody" t_BLOCK_NAMES_53, .str "td" t_BLOCK_NAMES_54, .str "tfoot" t_BLOCK_NAMES_55, .str "th" t_BLOCK_NAMES_56, .str "thead" t_BLOCK_NAMES_57, .str "title" t_BLOCK_NAMES_58, .str "tr" t_BLOCK_NAMES_59, .str "track" t_BLOCK_NAMES_60, .str "ul" t_BLOCK_NAMES_61] n_BLOCK_NAMES, w_BLOCK_NAMES⟩)
    {A_ENDS : Addr} {n_ENDS : Nat} {t_ENDS_0 t_ENDS_1 t_ENDS_2 t_ENDS_3 t_ENDS_4 : Tok} {e_ENDS_0 e_ENDS_1 e_ENDS_2 e_ENDS_3 e_ENDS_4 : Addr} (q_ENDS : PySem.W.nsIn K mainGlobals "ENDS" = some (some (.ref A_ENDS)))
    (L_ENDS : K.lookup A_ENDS = some ⟨.type "dict", none, .dict #[⟨1, .int 1 t_ENDS_0, .ref e_ENDS_0⟩, ⟨2, .int 2 t_ENDS_1, .ref e_ENDS_1⟩, ⟨3, .int 3 t_ENDS_2, .ref e_ENDS_2⟩, ⟨4, .int 4 t_ENDS_3, .ref e_ENDS_3⟩, ⟨5, .int 5 t_ENDS_4, .ref e_ENDS_4⟩] n_ENDS, #[]⟩) (W_ENDS : (A_ENDS == sysModules) = false)
    {O_ENDS_0 : Option Addr} {n_ENDS_0 : Nat} {w_ENDS_0 : Array (Option Value)} {u_ENDS_0_0 u_ENDS_0_1 u_ENDS_0_2 u_ENDS_0_3 : Tok} (L_ENDS_0 : K.lookup e_ENDS_0 = some ⟨.type "tuple", O_ENDS_0, .seq #[.str "</script>" u_ENDS_0_0, .str "</pre>" u_ENDS_0_1, .str "</style>" u_ENDS_0_2, .str "</textarea>" u_ENDS_0_3] n_ENDS_0, w_ENDS_0⟩)
    {O_ENDS_1 : Option Addr} {n_ENDS_1 : Nat} {w_ENDS_1 : Array (Option Value)} {u_ENDS_1_0 : Tok} (L_ENDS_1 : K.lookup e_ENDS_1 = some ⟨.type "tuple", O_ENDS_1, .seq #[.str "-->" u_ENDS_1_0] n_ENDS_1, w_ENDS_1⟩)
    {O_ENDS_2 : Option Addr} {n_ENDS_2 : Nat} {w_ENDS_2 : Array (Option Value)} {u_ENDS_2_0 : Tok} (L_ENDS_2 : K.lookup e_ENDS_2 = some ⟨.type "tuple", O_ENDS_2, .seq #[.str "?>" u_ENDS_2_0] n_ENDS_2, w_ENDS_2⟩)
    {O_ENDS_3 : Option Addr} {n_ENDS_3 : Nat} {w_ENDS_3 : Array (Option Value)} {u_ENDS_3_0 : Tok} (L_ENDS_3 : K.lookup e_ENDS_3 = some ⟨.type "tuple", O_ENDS_3, .seq #[.str ">" u_ENDS_3_0] n_ENDS_3, w_ENDS_3⟩)
    {O_ENDS_4 : Option Addr} {n_ENDS_4 : Nat} {w_ENDS_4 : Array (Option Value)} {u_ENDS_4_0 : Tok} (L_ENDS_4 : K.lookup e_ENDS_4 = some ⟨.type "tuple", O_ENDS_4, .seq #[.str "]]>" u_ENDS_4_0] n_ENDS_4, w_ENDS_4⟩)
    : ∃ fd : FuncData, (∀ (s : Shared) (v : Value), BindsTo s fd ⟨[v], []⟩ [("_law_script", v)]) ∧ ∀ base : Heap, K.In base → base.Ns mainGlobals mg → FnOk l.prog w K mg base CX0 8 fa fd ["_law_script"] (sp_law K) := by
  have e := hfa.symm.trans (PySem.W.mg_of X G a28)
  cases e
  have F0 := fun_mk (st := s_is_blank) l0 c0 k0
  have F1 := fun_mk (st := s_behind_all) l1 c1 k1
  have F2 := fun_mk (st := s_behind_gap) l2 c2 k2
  have F3 := fun_mk (st := s_behind_first) l3 c3 k3
  have F4 := fun_mk (st := s_behind_sign) l4 c4 k4
  have F5 := fun_mk (st := s_html_kind) l5 c5 k5
  have F6 := fun_mk (st := s_html_ends) l6 c6 k6
  have F7 := fun_mk (st := s_tag_at) l7 c7 k7
  have F8 := fun_mk (st := s_begins_raw) l8 c8 k8
  have F9 := fun_mk (st := s_begins_block) l9 c9 k9
  have F10 := fun_mk (st := s_is_lone_tag) l10 c10 k10
  have F11 := fun_mk (st := s_name_place) l11 c11 k11
  have F12 := fun_mk (st := s_name_and_behind) l12 c12 k12
  have F13 := fun_mk (st := s_open_tag_at) l13 c13 k13
  have F14 := fun_mk (st := s_closing_tag_at) l14 c14 k14
  have F15 := fun_mk (st := s_attribute_at) l15 c15 k15
  have F16 := fun_mk (st := s_value_at) l16 c16 k16
  have F17 := fun_mk (st := s_name_at) l17 c17 k17
  have F18 := fun_mk (st := s_is_letter) l18 c18 k18
  have F19 := fun_mk (st := s__law_well) l19 c19 k19
  have F20 := fun_mk (st := s__law_draw) l20 c20 k20
  have F21 := fun_mk (st := s__law_one) l21 c21 k21
  have F22 := fun_mk (st := s__law_names) l22 c22 k22
  have F23 := fun_mk (st := s__law_cased) l23 c23 k23
  have F24 := fun_mk (st := s__law_six) l24 c24 k24
  have F25 := fun_mk (st := s__law_own) l25 c25 k25
  have F26 := fun_mk (st := s__law_other) l26 c26 k26
  have F27 := fun_mk (st := s__law_ends_right) l27 c27 k27
  have F28 := fun_mk (st := s_law) l28 c28 k28
  have b0 := F0.binds (ps := ["line"]) fun _ _ _ _ _ _ us hl => match us, hl with | [_], _ => rfl
  have b1 := F1.binds (ps := ["signs", "text", "place"]) fun _ _ _ _ _ _ us hl => match us, hl with | [_, _, _], _ => rfl
  have b2 := F2.binds (ps := ["text", "place"]) fun _ _ _ _ _ _ us hl => match us, hl with | [_, _], _ => rfl
  have b3 := F3.binds (ps := ["words", "text", "place"]) fun _ _ _ _ _ _ us hl => match us, hl with | [_, _, _], _ => rfl
  have b4 := F4.binds (ps := ["sign", "text", "place"]) fun _ _ _ _ _ _ us hl => match us, hl with | [_, _, _], _ => rfl
  have b5 := F5.binds (ps := ["line"]) fun _ _ _ _ _ _ us hl => match us, hl with | [_], _ => rfl
  have b6 := F6.binds (ps := ["kind", "line"]) fun _ _ _ _ _ _ us hl => match us, hl with | [_, _], _ => rfl
  have b7 := F7.binds (ps := ["text", "place"]) fun _ _ _ _ _ _ us hl => match us, hl with | [_, _], _ => rfl
  have b8 := F8.binds (ps := ["line"]) fun _ _ _ _ _ _ us hl => match us, hl with | [_], _ => rfl
  have b9 := F9.binds (ps := ["line"]) fun _ _ _ _ _ _ us hl => match us, hl with | [_], _ => rfl
  have b10 := F10.binds (ps := ["line"]) fun _ _ _ _ _ _ us hl => match us, hl with | [_], _ => rfl
  have b11 := F11.binds (ps := ["line"]) fun _ _ _ _ _ _ us hl => match us, hl with | [_], _ => rfl
  have b12 := F12.binds (ps := ["line", "place"]) fun _ _ _ _ _ _ us hl => match us, hl with | [_, _], _ => rfl
  have b13 := F13.binds (ps := ["text", "place"]) fun _ _ _ _ _ _ us hl => match us, hl with | [_, _], _ => rfl
  have b14 := F14.binds (ps := ["text", "place"]) fun _ _ _ _ _ _ us hl => match us, hl with | [_, _], _ => rfl
  have b15 := F15.binds (ps := ["text", "place"]) fun _ _ _ _ _ _ us hl => match us, hl with | [_, _], _ => rfl
  have b16 := F16.binds (ps := ["text", "place"]) fun _ _ _ _ _ _ us hl => match us, hl with | [_, _], _ => rfl
  have b17 := F17.binds (ps := ["text", "place"]) fun _ _ _ _ _ _ us hl => match us, hl with | [_, _], _ => rfl
  have b18 := F18.binds (ps := ["text", "place"]) fun _ _ _ _ _ _ us hl => match us, hl with | [_, _], _ => rfl
  have b19 := F19.binds (ps := ["_law_cell"]) fun _ _ _ _ _ _ us hl => match us, hl with | [_], _ => rfl
  have b20 := F20.binds (ps := ["_law_well_here", "_law_many"]) fun _ _ _ _ _ _ us hl => match us, hl with | [_, _], _ => rfl
  have b21 := F21.binds (ps := ["_law_well_here", "_law_some"]) fun _ _ _ _ _ _ us hl => match us, hl with | [_, _], _ => rfl
  have b22 := F22.binds (ps := []) fun _ _ _ _ _ _ us hl => match us, hl with | [], _ => rfl
  have b23 := F23.binds (ps := ["_law_well_here", "_law_word"]) fun _ _ _ _ _ _ us hl => match us, hl with | [_, _], _ => rfl
  have b24 := F24.binds (ps := ["_law_well_here"]) fun _ _ _ _ _ _ us hl => match us, hl with | [_], _ => rfl
  have b25 := F25.binds (ps := ["_law_well_here"]) fun _ _ _ _ _ _ us hl => match us, hl with | [_], _ => rfl
  have b26 := F26.binds (ps := ["_law_well_here"]) fun _ _ _ _ _ _ us hl => match us, hl with | [_], _ => rfl
  have b27 := F27.binds (ps := ["_law_well_here"]) fun _ _ _ _ _ _ us hl => match us, hl with | [_], _ => rfl
  have T : Txt K mg := {
    a_is_blank := f0, d_is_blank := _, f_is_blank := F0, g_is_blank := PySem.W.mg_of X G a0, b_is_blank := b0,
    a_behind_all := f1, d_behind_all := _, f_behind_all := F1, g_behind_all := PySem.W.mg_of X G a1, b_behind_all := b1,
    a_behind_gap := f2, d_behind_gap := _, f_behind_gap := F2, g_behind_gap := PySem.W.mg_of X G a2, b_behind_gap := b2,
    a_behind_first := f3, d_behind_first := _, f_behind_first := F3, g_behind_first := PySem.W.mg_of X G a3, b_behind_first := b3,
    a_behind_sign := f4, d_behind_sign := _, f_behind_sign := F4, g_behind_sign := PySem.W.mg_of X G a4, b_behind_sign := b4,
    a_html_kind := f5, d_html_kind := _, f_html_kind := F5, g_html_kind := PySem.W.mg_of X G a5, b_html_kind := b5,
    a_html_ends := f6, d_html_ends := _, f_html_ends := F6, g_html_ends := PySem.W.mg_of X G a6, b_html_ends := b6,
    a_tag_at := f7, d_tag_at := _, f_tag_at := F7, g_tag_at := PySem.W.mg_of X G a7, b_tag_at := b7,
    a_begins_raw := f8, d_begins_raw := _, f_begins_raw := F8, g_begins_raw := PySem.W.mg_of X G a8, b_begins_raw := b8,
    a_begins_block := f9, d_begins_block := _, f_begins_block := F9, g_begins_block := PySem.W.mg_of X G a9, b_begins_block := b9,
    a_is_lone_tag := f10, d_is_lone_tag := _, f_is_lone_tag := F10, g_is_lone_tag := PySem.W.mg_of X G a10, b_is_lone_tag := b10,
    a_name_place := f11, d_name_place := _, f_name_place := F11, g_name_place := PySem.W.mg_of X G a11, b_name_place := b11,
    a_name_and_behind := f12, d_name_and_behind := _, f_name_and_behind := F12, g_name_and_behind := PySem.W.mg_of X G a12, b_name_and_behind := b12,
    a_open_tag_at := f13, d_open_tag_at := _, f_open_tag_at := F13, g_open_tag_at := PySem.W.mg_of X G a13, b_open_tag_at := b13,
    a_closing_tag_at := f14, d_closing_tag_at := _, f_closing_tag_at := F14, g_closing_tag_at := PySem.W.mg_of X G a14, b_closing_tag_at := b14,
    a_attribute_at := f15, d_attribute_at := _, f_attribute_at := F15, g_attribute_at := PySem.W.mg_of X G a15, b_attribute_at := b15,
    a_value_at := f16, d_value_at := _, f_value_at := F16, g_value_at := PySem.W.mg_of X G a16, b_value_at := b16,
    a_name_at := f17, d_name_at := _, f_name_at := F17, g_name_at := PySem.W.mg_of X G a17, b_name_at := b17,
    a_is_letter := f18, d_is_letter := _, f_is_letter := F18, g_is_letter := PySem.W.mg_of X G a18, b_is_letter := b18,
    a__law_well := f19, d__law_well := _, f__law_well := F19, g__law_well := PySem.W.mg_of X G a19, b__law_well := b19,
    a__law_draw := f20, d__law_draw := _, f__law_draw := F20, g__law_draw := PySem.W.mg_of X G a20, b__law_draw := b20,
    a__law_one := f21, d__law_one := _, f__law_one := F21, g__law_one := PySem.W.mg_of X G a21, b__law_one := b21,
    a__law_names := f22, d__law_names := _, f__law_names := F22, g__law_names := PySem.W.mg_of X G a22, b__law_names := b22,
    a__law_cased := f23, d__law_cased := _, f__law_cased := F23, g__law_cased := PySem.W.mg_of X G a23, b__law_cased := b23,
    a__law_six := f24, d__law_six := _, f__law_six := F24, g__law_six := PySem.W.mg_of X G a24, b__law_six := b24,
    a__law_own := f25, d__law_own := _, f__law_own := F25, g__law_own := PySem.W.mg_of X G a25, b__law_own := b25,
    a__law_other := f26, d__law_other := _, f__law_other := F26, g__law_other := PySem.W.mg_of X G a26, b__law_other := b26,
    a__law_ends_right := f27, d__law_ends_right := _, f__law_ends_right := F27, g__law_ends_right := PySem.W.mg_of X G a27, b__law_ends_right := b27,
    z_any := PySem.W.mg_none_of X G z_any,
    z_int := PySem.W.mg_none_of X G z_int,
    z_len := PySem.W.mg_none_of X G z_len,
    z_range := PySem.W.mg_none_of X G z_range,
    t_WHITE := t_WHITE, g_WHITE := PySem.W.mg_of X G q_WHITE,
    t_INLINE_WHITE := t_INLINE_WHITE, g_INLINE_WHITE := PySem.W.mg_of X G q_INLINE_WHITE,
    t_LETTERS := t_LETTERS, g_LETTERS := PySem.W.mg_of X G q_LETTERS,
    t_NAME_SIGNS := t_NAME_SIGNS, g_NAME_SIGNS := PySem.W.mg_of X G q_NAME_SIGNS,
    t_KEY_SIGNS := t_KEY_SIGNS, g_KEY_SIGNS := PySem.W.mg_of X G q_KEY_SIGNS,
    t_NO_BARE_SIGNS := t_NO_BARE_SIGNS, g_NO_BARE_SIGNS := PySem.W.mg_of X G q_NO_BARE_SIGNS,
    a_RAW_NAMES := A_RAW_NAMES, o_RAW_NAMES := O_RAW_NAMES, n_RAW_NAMES := n_RAW_NAMES, w_RAW_NAMES := w_RAW_NAMES, t_RAW_NAMES_0 := t_RAW_NAMES_0, t_RAW_NAMES_1 := t_RAW_NAMES_1, t_RAW_NAMES_2 := t_RAW_NAMES_2, t_RAW_NAMES_3 := t_RAW_NAMES_3, g_RAW_NAMES := PySem.W.mg_of X G q_RAW_NAMES, l_RAW_NAMES := L_RAW_NAMES,
    a_BLOCK_NAMES := A_BLOCK_NAMES, o_BLOCK_NAMES := O_BLOCK_NAMES, n_BLOCK_NAMES := n_BLOCK_NAMES, w_BLOCK_NAMES := w_BLOCK_NAMES, t_BLOCK_NAMES_0 := t_BLOCK_NAMES_0, t_BLOCK_NAMES_1 := t_BLOCK_NAMES_1, t_BLOCK_NAMES_2 := t_BLOCK_NAMES_2, t_BLOCK_NAMES_3 := t_BLOCK_NAMES_3, t_BLOCK_NAMES_4 := t_BLOCK_NAMES_4, t_BLOCK_NAMES_5 := t_BLOCK_NAMES_5, t_BLOCK_NAMES_6 := t_BLOCK_NAMES_6, t_BLOCK_NAMES_7 := t_BLOCK_NAMES_7, t_BLOCK_NAMES_8 := t_BLOCK_NAMES_8, t_BLOCK_NAMES_9 := t_BLOCK_NAMES_9, t_BLOCK_NAMES_10 := t_BLOCK_NAMES_10, t_BLOCK_NAMES_11 := t_BLOCK_NAMES_11, t_BLOCK_NAMES_12 := t_BLOCK_NAMES_12, t_BLOCK_NAMES_13 := t_BLOCK_NAMES_13, t_BLOCK_NAMES_14 := t_BLOCK_NAMES_14, t_BLOCK_NAMES_15 := t_BLOCK_NAMES_15, t_BLOCK_NAMES_16 := t_BLOCK_NAMES_16, t_BLOCK_NAMES_17 := t_BLOCK_NAMES_17, t_BLOCK_NAMES_18 := t_BLOCK_NAMES_18, t_BLOCK_NAMES_19 := t_BLOCK_NAMES_19, t_BLOCK_NAMES_20 := t_BLOCK_NAMES_20, t_BLOCK_NAMES_21 := t_BLOCK_NAMES_21, t_BLOCK_NAMES_22 := t_BLOCK_NAMES_22, t_BLOCK_NAMES_23 := t_BLOCK_NAMES_23, t_BLOCK_NAMES_24 := t_BLOCK_NAMES_24, t_BLOCK_NAMES_25 := t_BLOCK_NAMES_25, t_BLOCK_NAMES_26 := t_BLOCK_NAMES_26, t_BLOCK_NAMES_27 := t_BLOCK_NAMES_27, t_BLOCK_NAMES_28 := t_BLOCK_NAMES_28, t_BLOCK_NAMES_29 := t_BLOCK_NAMES_29, t_BLOCK_NAMES_30 := t_BLOCK_NAMES_30, t_BLOCK_NAMES_31 := t_BLOCK_NAMES_31, t_BLOCK_NAMES_32 := t_BLOCK_NAMES_32, t_BLOCK_NAMES_33 := t_BLOCK_NAMES_33, t_BLOCK_NAMES_34 := t_BLOCK_NAMES_34, t_BLOCK_NAMES_35 := t_BLOCK_NAMES_35, t_BLOCK_NAMES_36 := t_BLOCK_NAMES_36, t_BLOCK_NAMES_37 := t_BLOCK_NAMES_37, t_BLOCK_NAMES_38 := t_BLOCK_NAMES_38, t_BLOCK_NAMES_39 := t_BLOCK_NAMES_39, t_BLOCK_NAMES_40 := t_BLOCK_NAMES_40, t_BLOCK_NAMES_41 := t_BLOCK_NAMES_41, t_BLOCK_NAMES_42 := t_BLOCK_NAMES_42, t_BLOCK_NAMES_43 := t_BLOCK_NAMES_43, t_BLOCK_NAMES_44 := t_BLOCK_NAMES_44, t_BLOCK_NAMES_45 := t_BLOCK_NAMES_45, t_BLOCK_NAMES_46 := t_BLOCK_NAMES_46, t_BLOCK_NAMES_47 := t_BLOCK_NAMES_47, t_BLOCK_NAMES_48 := t_BLOCK_NAMES_48, t_BLOCK_NAMES_49 := t_BLOCK_NAMES_49, t_BLOCK_NAMES_50 := t_BLOCK_NAMES_50, t_BLOCK_NAMES_51 := t_BLOCK_NAMES_51, t_BLOCK_NAMES_52 := t_BLOCK_NAMES_52, t_BLOCK_NAMES_53 := t_BLOCK_NAMES_53, t_BLOCK_NAMES_54 := t_BLOCK_NAMES_54, t_BLOCK_NAMES_55 := t_BLOCK_NAMES_55, t_BLOCK_NAMES_56 := t_BLOCK_NAMES_56, t_BLOCK_NAMES_57 := t_BLOCK_NAMES_57, t_BLOCK_NAMES_58 := t_BLOCK_NAMES_58, t_BLOCK_NAMES_59 := t_BLOCK_NAMES_59, t_BLOCK_NAMES_60 := t_BLOCK_NAMES_60, t_BLOCK_NAMES_61 := t_BLOCK_NAMES_61, g_BLOCK_NAMES := PySem.W.mg_of X G q_BLOCK_NAMES, l_BLOCK_NAMES := L_BLOCK_NAMES,
    a_ENDS := A_ENDS, n_ENDS := n_ENDS, g_ENDS := PySem.W.mg_of X G q_ENDS, w_ENDS := W_ENDS, l_ENDS := L_ENDS, t_ENDS_0 := t_ENDS_0, e_ENDS_0 := e_ENDS_0, o_ENDS_0 := O_ENDS_0, n_ENDS_0 := n_ENDS_0, w_ENDS_0 := w_ENDS_0, l_ENDS_0 := L_ENDS_0, u_ENDS_0_0 := u_ENDS_0_0, u_ENDS_0_1 := u_ENDS_0_1, u_ENDS_0_2 := u_ENDS_0_2, u_ENDS_0_3 := u_ENDS_0_3, t_ENDS_1 := t_ENDS_1, e_ENDS_1 := e_ENDS_1, o_ENDS_1 := O_ENDS_1, n_ENDS_1 := n_ENDS_1, w_ENDS_1 := w_ENDS_1, l_ENDS_1 := L_ENDS_1, u_ENDS_1_0 := u_ENDS_1_0, t_ENDS_2 := t_ENDS_2, e_ENDS_2 := e_ENDS_2, o_ENDS_2 := O_ENDS_2, n_ENDS_2 := n_ENDS_2, w_ENDS_2 := w_ENDS_2, l_ENDS_2 := L_ENDS_2, u_ENDS_2_0 := u_ENDS_2_0, t_ENDS_3 := t_ENDS_3, e_ENDS_3 := e_ENDS_3, o_ENDS_3 := O_ENDS_3, n_ENDS_3 := n_ENDS_3, w_ENDS_3 := w_ENDS_3, l_ENDS_3 := L_ENDS_3, u_ENDS_3_0 := u_ENDS_3_0, t_ENDS_4 := t_ENDS_4, e_ENDS_4 := e_ENDS_4, o_ENDS_4 := O_ENDS_4, n_ENDS_4 := n_ENDS_4, w_ENDS_4 := w_ENDS_4, l_ENDS_4 := L_ENDS_4, u_ENDS_4_0 := u_ENDS_4_0 }
  exact ⟨PySem.W.fnOf "law" "law" (defArgs s_law) (defBody s_law) (defScope s_law) .none kV28 dc28 pm28 an28 cd28 ct28, fun s v => .of_eq rfl, fun base _ _ => ok_law T F28⟩
end K12
open PySem PySem.W PyProof.Rows
set_option maxHeartbeats 0 in
theorem PySem.Challenge.cw_plainmark_k12_kinds_of_html_holds : PySem.Challenge.rw_plainmark_k12_kinds_of_html.Holds := by
  w_on; o_law; k_head; (case hw => w_witness2)
  k_fill
  refine L2.walk_of (l := PySem.Challenge.rw_plainmark_k12_kinds_of_html) (n := 63) (k := 8) (x := "_law_script") (CX := fun _ => L2.CX0) (sp := fun w => K12.sp_law _) rfl (by decide) rfl ⟨rfl, by decide, by decide⟩ (fun w h Y => PySem.W.kIn_of Y) ?F (fun _ _ a ns hl _ hS => ⟨a, ns, rfl, hS, hl, fun _ => rfl⟩) (fun _ _ _ _ _ h => h)
  case F =>
    intro w mg fa h KX G hmg
    refine' K12.all_mk KX G hmg ?a0 ?l0 ?c0 ?k0 ?a1 ?l1 ?c1 ?k1 ?a2 ?l2 ?c2 ?k2 ?a3 ?l3 ?c3 ?k3 ?a4 ?l4 ?c4 ?k4 ?a5 ?l5 ?c5 ?k5 ?a6 ?l6 ?c6 ?k6 ?a7 ?l7 ?c7 ?k7 ?a8 ?l8 ?c8 ?k8 ?a9 ?l9 ?c9 ?k9 ?a10 ?l10 ?c10 ?k10 ?a11 ?l11 ?c11 ?k11 ?a12 ?l12 ?c12 ?k12 ?a13 ?l13 ?c13 ?k13 ?a14 ?l14 ?c14 ?k14 ?a15 ?l15 ?c15 ?k15 ?a16 ?l16 ?c16 ?k16 ?a17 ?l17 ?c17 ?k17 ?a18 ?l18 ?c18 ?k18 ?a19 ?l19 ?c19 ?k19 ?a20 ?l20 ?c20 ?k20 ?a21 ?l21 ?c21 ?k21 ?a22 ?l22 ?c22 ?k22 ?a23 ?l23 ?c23 ?k23 ?a24 ?l24 ?c24 ?k24 ?a25 ?l25 ?c25 ?k25 ?a26 ?l26 ?c26 ?k26 ?a27 ?l27 ?c27 ?k27 ?a28 ?l28 ?c28 ?k28 ?z_any ?z_int ?z_len ?z_range ?q_WHITE ?q_INLINE_WHITE ?q_LETTERS ?q_NAME_SIGNS ?q_KEY_SIGNS ?q_NO_BARE_SIGNS ?q_RAW_NAMES ?L_RAW_NAMES ?q_BLOCK_NAMES ?L_BLOCK_NAMES ?q_ENDS ?L_ENDS ?W_ENDS ?L_ENDS_0 ?L_ENDS_1 ?L_ENDS_2 ?L_ENDS_3 ?L_ENDS_4
    (case a0 => k_is); (case l0 => k_is); (case c0 => k_is); (case k0 => k_is); (case a1 => k_is); (case l1 => k_is); (case c1 => k_is); (case k1 => k_is); (case a2 => k_is); (case l2 => k_is); (case c2 => k_is); (case k2 => k_is); (case a3 => k_is); (case l3 => k_is); (case c3 => k_is); (case k3 => k_is); (case a4 => k_is); (case l4 => k_is); (case c4 => k_is); (case k4 => k_is); (case a5 => k_is); (case l5 => k_is); (case c5 => k_is); (case k5 => k_is); (case a6 => k_is); (case l6 => k_is); (case c6 => k_is); (case k6 => k_is); (case a7 => k_is); (case l7 => k_is); (case c7 => k_is); (case k7 => k_is); (case a8 => k_is); (case l8 => k_is); (case c8 => k_is); (case k8 => k_is); (case a9 => k_is); (case l9 => k_is); (case c9 => k_is); (case k9 => k_is); (case a10 => k_is); (case l10 => k_is); (case c10 => k_is); (case k10 => k_is); (case a11 => k_is); (case l11 => k_is); (case c11 => k_is); (case k11 => k_is); (case a12 => k_is); (case l12 => k_is); (case c12 => k_is); (case k12 => k_is); (case a13 => k_is); (case l13 => k_is); (case c13 => k_is); (case k13 => k_is); (case a14 => k_is); (case l14 => k_is); (case c14 => k_is); (case k14 => k_is); (case a15 => k_is); (case l15 => k_is); (case c15 => k_is); (case k15 => k_is); (case a16 => k_is); (case l16 => k_is); (case c16 => k_is); (case k16 => k_is); (case a17 => k_is); (case l17 => k_is); (case c17 => k_is); (case k17 => k_is); (case a18 => k_is); (case l18 => k_is); (case c18 => k_is); (case k18 => k_is); (case a19 => k_is); (case l19 => k_is); (case c19 => k_is); (case k19 => k_is); (case a20 => k_is); (case l20 => k_is); (case c20 => k_is); (case k20 => k_is); (case a21 => k_is); (case l21 => k_is); (case c21 => k_is); (case k21 => k_is); (case a22 => k_is); (case l22 => k_is); (case c22 => k_is); (case k22 => k_is); (case a23 => k_is); (case l23 => k_is); (case c23 => k_is); (case k23 => k_is); (case a24 => k_is); (case l24 => k_is); (case c24 => k_is); (case k24 => k_is); (case a25 => k_is); (case l25 => k_is); (case c25 => k_is); (case k25 => k_is); (case a26 => k_is); (case l26 => k_is); (case c26 => k_is); (case k26 => k_is); (case a27 => k_is); (case l27 => k_is); (case c27 => k_is); (case k27 => k_is); (case a28 => k_is); (case l28 => k_is); (case c28 => k_is); (case k28 => k_is); (case z_any => k_is); (case z_int => k_is); (case z_len => k_is); (case z_range => k_is); (case q_WHITE => k_is); (case q_INLINE_WHITE => k_is); (case q_LETTERS => k_is); (case q_NAME_SIGNS => k_is); (case q_KEY_SIGNS => k_is); (case q_NO_BARE_SIGNS => k_is); (case q_RAW_NAMES => k_is); (case L_RAW_NAMES => k_is); (case q_BLOCK_NAMES => k_is); (case L_BLOCK_NAMES => k_is); (case q_ENDS => k_is); (case L_ENDS => k_is); (case W_ENDS => rfl); (case L_ENDS_0 => k_is); (case L_ENDS_1 => k_is); (case L_ENDS_2 => k_is); (case L_ENDS_3 => k_is); (case L_ENDS_4 => k_is)
