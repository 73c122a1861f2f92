import PyProof.Rows.All
import Wide.All
import OpenK.AllK
import Wide.FinOn
import HandS.ForMost
import HandS.Wide
import HandS.StrMore
import HandS.Flow
import HandS.Walk
import PyProof.Draws
import PyProof.StrOps2

import PySem.Challenge.RW_plainmark_k10_columns

set_option Elab.async false
set_option linter.all false
set_option maxRecDepth 100000
/-! words of my own over the hand layer -/
namespace My
open PySem PySem.Spec PyProof.Rows L2

/-- a text by its signs -/
def S (l : List Nat) : Str := ⟨l.toArray⟩
theorem S_tl (l : List Nat) : (S l).cps.toList = l := by simp [S]
theorem S_of (z : Str) : z = S z.cps.toList := by
  cases z
  simp [S]
theorem S_len (l : List Nat) : (S l).length = l.length := by simp [S, Str.length]
theorem S_size (l : List Nat) : (S l).cps.size = l.length := by simp [S]
theorem S_get (l : List Nat) (i : Nat) : (S l).cps[i]? = l[i]? := by simp [S]
theorem S_app (a b : List Nat) : S a ++ S b = S (a ++ b) := by
  show (⟨a.toArray ++ b.toArray⟩ : Str) = ⟨(a ++ b).toArray⟩
  simp
theorem S_inj {a b : List Nat} (h : S a = S b) : a = b := by
  have := congrArg (fun z : Str => z.cps.toList) h
  simpa [S] using this
theorem S_dec (a b : List Nat) : decide (V.str (S a) = V.str (S b)) = decide (a = b) := by
  by_cases h : a = b
  · subst h
    simp
  · have h2 : ¬ V.str (S a) = V.str (S b) := fun e => h (S_inj (V.str.inj e))
    simp [h, h2]
theorem S_cut (l : List Nat) (k : Nat) : cutS (S l) (some (k : Int)) none = S (l.drop k) := by
  unfold cutS
  rw [HT.sIx_nat, HT.sIx_none, S_len, S_tl]
  show S _ = S _
  congr 1
  by_cases h : k ≤ l.length
  · rw [Nat.min_eq_left h]
    exact List.take_of_length_le (by rw [List.length_drop]; omega)
  · rw [Nat.min_eq_right (by omega), Nat.sub_self, List.take_zero, List.drop_of_length_le (by omega)]
theorem S_cut2 (l : List Nat) (j k : Nat) (h : j ≤ k) : cutS (S l) (some (j : Int)) (some (k : Int)) = S ((l.drop j).take (k - j)) := by
  unfold cutS
  rw [HT.sIx_nat, HT.sIx_nat, S_len, S_tl]
  show S _ = S _
  congr 1
  by_cases h1 : j ≤ l.length
  · rw [Nat.min_eq_left h1]
    by_cases h2 : k ≤ l.length
    · rw [Nat.min_eq_left h2]
    · rw [Nat.min_eq_right (by omega), List.take_of_length_le (by rw [List.length_drop]; omega), List.take_of_length_le (by rw [List.length_drop]; omega)]
  · rw [List.drop_of_length_le (by omega), List.drop_of_length_le (by omega), List.take_nil, List.take_nil]

/-- all that is tracked but L stays -/
def Keeps (L : Addr) (H H' : Hp) : Prop := ∀ b o, b ≠ L → H b = some o → H' b = some o
theorem Keeps.refl {L : Addr} (H : Hp) : Keeps L H H := fun _ _ _ h => h
theorem Keeps.trans {L : Addr} {H H1 H2 : Hp} (a : Keeps L H H1) (b : Keeps L H1 H2) : Keeps L H H2 := fun c o n h => b c o n (a c o n h)
theorem Keeps.new {L p : Addr} {H : Hp} {o : HO} (h : H p = none) : Keeps L H (upd H p o) := fun b u _ e => by
  rw [upd_ne (ne_of_none e h)]
  exact e
theorem Keeps.at {L : Addr} {H : Hp} {o : HO} : Keeps L H (upd H L o) := fun b u n e => by
  rw [upd_ne n]
  exact e
theorem Keeps.of {L : Addr} {H H' : Hp} (h : Same H H') : Keeps L H H' := fun b o _ e => h b o e
theorem same_new {p : Addr} {H : Hp} {o : HO} (h : H p = none) : Same H (upd H p o) := fun b u e => by
  rw [upd_ne (ne_of_none e h)]
  exact e
/-- a well of draws -/
def Well (H : Hp) (L : Addr) : Prop := ∃ x y : Int, H L = some (.lst [.int x, .int y])
theorem Well.same {H H' : Hp} {L : Addr} (h : Well H L) (s : Same H H') : Well H' L := by
  obtain ⟨x, y, e⟩ := h
  exact ⟨x, y, s _ _ e⟩
theorem Well.new {H : Hp} {L p : Addr} {o : HO} (h : Well H L) (n : H p = none) : Well (upd H p o) L := h.same (same_new n)
theorem Well.ne {H : Hp} {L p : Addr} (h : Well H L) (n : H p = none) : p ≠ L := by
  obtain ⟨x, y, e⟩ := h
  exact (ne_of_none e n).symm
theorem Well.kept {H H' : Hp} {L p : Addr} (h : Well H L) (k : Keeps L H H') (w : Well H' L) (n : H' p = none) : H p = none := by
  cases q : H p with
  | none => rfl
  | some o =>
    have z := k p o (w.ne n) q
    rw [n] at z
    cases z
theorem Keeps.free {L p : Addr} {H H' : Hp} (k : Keeps L H H') (n : H' p = none) (h : p ≠ L) : H p = none := by
  cases q : H p with
  | none => rfl
  | some o =>
    have z := k p o h q
    rw [n] at z
    cases z
theorem Keeps.seq {K : PySem.W.Frag} {L a : Addr} {H H' : Hp} {xs : List V} (k : Keeps L H H') (n : a ≠ L) (h : SqL K H a xs) : SqL K H' a xs := by
  rcases h with (h | ⟨o, h⟩) | h
  · exact .inl (.inl (k _ _ n h))
  · exact .inl (.inr ⟨o, k _ _ n h⟩)
  · exact .inr h
theorem Keeps.tup {K : PySem.W.Frag} {L a : Addr} {H H' : Hp} {xs : List V} (k : Keeps L H H') (n : a ≠ L) (h : SqT K H a xs) : SqT K H' a xs := by
  rcases h with (h | ⟨o, h⟩) | h
  · exact .inl (.inl (k _ _ n h))
  · exact .inl (.inr ⟨o, k _ _ n h⟩)
  · exact .inr h

section
variable {X : Cx}
/-- one sign, so often -/
theorem op_mul_str : OpR X (binaryOp .Mult) (fun x y H Q => ∃ (c j : Nat), x = .str (S [c]) ∧ y = .int (j : Int) ∧ j ≤ 1000 ∧ Q (.str (S (List.replicate j c))) H) := by
  intro pins s σ H x y v u Q I rx ry h
  obtain ⟨c, j, rfl, rfl, hj, q⟩ := h
  obtain ⟨t, rfl⟩ := rx
  obtain ⟨t', rfl⟩ := ry
  have hlen : (S [c]).length = 1 := S_len _
  refine PySem.P.mul_str (by simp; omega) (fun _ _ => by
    rw [hlen]
    have : (1 : Int) ≤ (2 ^ 63 - 1) / (j : Int) := by
      by_cases hj0 : j = 0
      · omega
      · refine Int.le_ediv_of_mul_le (by omega) ?_
        omega
    omega) (fun _ _ => by
    rw [hlen]
    have : (j : Int).toNat = j := by omega
    rw [this]
    exact decide_eq_false (by rw [sizeLine_eq]; omega)) ?_
  have fin : ∀ (l : List Nat), l = List.replicate j c → ∀ (v : Value) (k : Nat), RelV (.str (S l)) v → EP X pins σ Q v { s with toks := k } := fun l e v k r => ⟨.str (S l), H, I.tok _, r, by rw [e]; exact q⟩
  by_cases h0 : (j : Int) < 1
  · have e0 : j = 0 := by omega
    rw [if_pos h0]
    exact ⟨by decide, fin [] (by rw [e0]; rfl) _ _ ⟨_, rfl⟩⟩
  · rw [if_neg h0]
    by_cases h1 : j = 1
    · subst h1
      rw [if_pos (by rfl)]
      exact fin [c] rfl _ s.toks ⟨_, rfl⟩
    · rw [if_neg (by rw [hlen]; simp; omega)]
      have e : (⟨(List.replicate (j : Int).toNat (S [c]).cps).foldl (· ++ ·) #[]⟩ : Str) = S (List.replicate j c) := by
        have ej : (j : Int).toNat = j := by omega
        rw [ej]
        have gen : ∀ (n : Nat) (acc : List Nat), (List.replicate n (S [c]).cps).foldl (· ++ ·) acc.toArray = (acc ++ List.replicate n c).toArray := by
          intro n
          induction n with
          | zero => intro acc; simp
          | succ n ih =>
            intro acc
            rw [List.replicate_succ, List.foldl_cons]
            have : acc.toArray ++ (S [c]).cps = (acc ++ [c]).toArray := by simp [S]
            rw [this, ih, List.replicate_succ]
            simp
        have := gen j []
        simp at this
        unfold S
        congr 1
      rw [e]
      refine ⟨?_, fin _ rfl _ _ ⟨_, rfl⟩⟩
      rw [S_len, List.length_replicate, sizeLine_eq]
      omega

/-- a text with its places -/
def Its2 (z : Str) : It :=
  ⟨fun i _ => i < z.cps.size, fun i H v H' => ∃ T c, v = .ref T ∧ H T = none ∧ H' = upd H T (.tup [.int (i : Nat), .str (S [c])]) ∧ z.cps[i]? = some c, fun i _ => i = z.cps.size⟩
theorem turn_enumS {P : Program} {w : World} {K : PySem.W.Frag} {elts : List Expr} {kk : Nat} {tpos : Pos} (z : Str) (t : Tok) (e it : Addr) :
    Turn P w K (.Tuple elts kk tpos) (Its2 z) [e, it] e (fun i h => (∃ old, IsEnum h e it ((i : Nat) : Int) old) ∧ h.IsStrIter it (strIterType z) z t i ∧ e ≠ it) where
  mem := List.mem_cons_self ..
  obj := fun i h st b hb => by
    obtain ⟨⟨old, he⟩, ⟨o, ho, hc, hd⟩, _⟩ := st
    rcases List.mem_cons.mp hb with rfl | hb
    · exact ⟨_, he, fun v q => nomatch q⟩
    · rw [List.mem_singleton.mp hb]
      exact ⟨o, ho, fun v q => by rw [hd] at q; cases q⟩
  keep := fun i h h' st k => by
    obtain ⟨⟨old, he⟩, ⟨o, ho, r⟩, hne⟩ := st
    exact ⟨⟨old, k e (by simp) _ he⟩, ⟨o, k it (by simp) o ho, r⟩, hne⟩
  item := by
    intro X hP hw hK hc i pins s σ H E I hf st hg
    subst hP hw hK
    obtain ⟨⟨old, he⟩, hit, hne⟩ := st
    have hel : e < s.heap.objs.size := Heap.lt_size he
    have hil : it < s.heap.objs.size := by
      obtain ⟨_, q, _⟩ := hit
      exact Heap.lt_size q
    have hef : e ∉ [it] := fun q => hne (List.mem_singleton.mp q)
    have D : Draws X.prog X.w X.A.in1 it [it] z.cps.size (fun i v => ∃ c u, z.cps[i]? = some c ∧ v = .str ⟨#[c]⟩ u) (fun i h => h.IsStrIter it (strIterType z) z t i) := by
      unfold strIterType
      cases ha : z.cps.all (· < 128)
      · simpa [ha] using Draws.strWide (prog := X.prog) (w := X.w) (A := X.A.in1) (I.ok.hd hc) it z t
      · simpa [ha] using Draws.strAscii (prog := X.prog) (w := X.w) (A := X.A.in1) (I.ok.hd hc) it z t
    refine wpAny_pyNext_enum_itemD D he hit hg hne hef fun x h' tk hx ho hit' hT hsz hk => ?_
    obtain ⟨c, u, hcx, rfl⟩ := hx
    refine ⟨_, rfl, wpAny_letOwnedTupleGo_enum (s := { s with heap := h', toks := tk + 1 }) ho fun h'' he' sb => ?_⟩
    have hT2 : h''.get? s.heap.objs.size = some { cls := .type "tuple", data := .seq #[.int i tk, .str ⟨#[c]⟩ u] } := (sb.2 _ (Nat.ne_of_gt hel)).trans hT
    have new : ObjOk X.prog X.w (upd H s.heap.objs.size (.tup [.int (i : Nat), .str (S [c])])) h'' s.heap.objs.size (.tup [.int (i : Nat), .str (S [c])]) :=
      ⟨by show 2 ≤ sizeLine; decide, [.int i tk, .str ⟨#[c]⟩ u], .cons ⟨_, rfl⟩ (.cons ⟨_, rfl⟩ .nil), ⟨_, hT2, rfl, _, rfl⟩⟩
    have hold : ∀ b ob, b ∉ [e, it] → s.heap.get? b = some ob → h''.get? b = some ob := fun b ob hb q =>
      (sb.2 b (fun q => hb (by simp [q]))).trans (hk b ob (fun q => hb (by simp [q])) (fun q => hb (by simp [q])) q)
    have I1 : Inv X pins σ (upd H s.heap.objs.size (.tup [.int (i : Nat), .str (S [c])])) { s with heap := h'', toks := tk + 1 } :=
      I.turnedNew (t' := tk + 1) (ch := [e, it]) hold hf (Nat.le_refl _) new
    refine ⟨.ref s.heap.objs.size, _, I1, rfl, ⟨_, c, rfl, I.hok.fresh (Nat.le_refl _), rfl, hcx⟩, ⟨⟨.str ⟨#[c]⟩ u, ?_⟩, ?_, hne⟩, fun b hb => ?_⟩
    · have e1 : ((i + 1 : Nat) : Int) = (i : Int) + 1 := Int.natCast_succ i
      rw [e1]
      exact he'
    · obtain ⟨o, q, r⟩ := hit'
      exact ⟨o, (sb.2 it (Ne.symm hne)).trans q, r⟩
    · have hb' : b < s.heap.objs.size := by
        rcases List.mem_cons.mp hb with q | q
        · rw [q]
          exact hel
        · rw [List.mem_singleton.mp q]
          exact hil
      rw [upd_ne (Nat.ne_of_lt hb')]
      exact (hf b hb).1
  done := by
    intro X hP hw hK hc i pins s σ H E I hf st hg
    subst hP hw hK
    obtain ⟨⟨old, he⟩, hit, hne⟩ := st
    obtain ⟨f0, f1, f2, f3, f4, f5⟩ := hf it (by simp)
    have D : Draws X.prog X.w X.A.in1 it [it] z.cps.size (fun i v => ∃ c u, z.cps[i]? = some c ∧ v = .str ⟨#[c]⟩ u) (fun i h => h.IsStrIter it (strIterType z) z t i) := by
      unfold strIterType
      cases ha : z.cps.all (· < 128)
      · simpa [ha] using Draws.strWide (prog := X.prog) (w := X.w) (A := X.A.in1) (I.ok.hd hc) it z t
      · simpa [ha] using Draws.strAscii (prog := X.prog) (w := X.w) (A := X.A.in1) (I.ok.hd hc) it z t
    have hi : i = z.cps.size := hg
    subst hi
    exact wpAny_pyNext_enum_endD D he hit fun h' eb => ⟨rfl, I.turned (t' := s.toks) (fun b o hb q => eb b o hb q) f0 f1 f3 f4 f5⟩
  self := fun A i s Q E st h => by
    obtain ⟨⟨_, he⟩, _⟩ := st
    exact wpAny_pyIter_enum he h
def iEnumS (ta : TA) : TI := fun σ H R => ta σ H fun vs H1 => ∃ z, vs = [.str z] ∧ R (Its2 z) H1
theorem pi_enumS {e : Expr} {ta : TA} {p pos tpos : Pos} {elts : List Expr} {kk : Nat} (hg : Gl X "enumerate") (hm : X.mg "enumerate" = none) (ha : PA X [e] ta)
    (hs : starEach [e] X.env = [(false, eval e X.env)] := by rfl) : PI X (.Tuple elts kk tpos) (.Call (.Name "enumerate" p) [e] [] pos) (iEnumS ta) := by
  refine ⟨fun pins s σ H R I h => ?_⟩
  refine Call_ (ld_blt I hg hm boot_enumerate (PyProof.Rows.callWith_type1 (thn (ha.run pos pins s σ H _ I h) fun us s1 ⟨vs, H1, I1, r1, q1⟩ => ?_) hs rfl))
  obtain ⟨z, rfl, q⟩ := q1
  obtain ⟨u1, rfl, r⟩ := vals1 r1
  obtain ⟨t, rfl⟩ := r
  refine PySem.call_enumerate_str fun h' he hit hsz hk => wpAny_pyIter_enum he ?_
  have I2 : Inv X pins σ H1 { s1 with heap := h' } := I1.kept (t' := s1.toks) hk
  refine ⟨s1.heap.objs.size + 1, [s1.heap.objs.size + 1, s1.heap.objs.size], _, _, H1, rfl, I2, turn_enumS z t (s1.heap.objs.size + 1) s1.heap.objs.size, ⟨⟨.none, he⟩, hit, Nat.succ_ne_self _⟩, fun b hb => ?_, q⟩
  have hle : s1.heap.objs.size ≤ b := by
    rcases List.mem_cons.mp hb with q | q
    · rw [q]
      exact Nat.le_succ _
    · rw [List.mem_singleton.mp q]
      exact Nat.le_refl _
  exact I1.fpOk hle (I1.hok.fresh hle)
theorem walk_enumS {z : Str} : Walk (Its2 z) z.cps.size (fun _ => True) (fun i H v H' => ∃ T c, v = .ref T ∧ H T = none ∧ H' = upd H T (.tup [.int (i : Nat), .str (S [c])]) ∧ z.cps[i]? = some c) :=
  ⟨fun _ _ hi _ => hi, fun _ _ => rfl, fun _ _ _ _ _ _ y => y⟩
end

/-! ### data -/
def Sm (l : List Nat) : Prop := ∀ c ∈ l, c < 1114112
theorem Sm.ok {l : List Nat} (h : Sm l) : PyData.strOk (S l) = true := by
  unfold PyData.strOk S
  rw [Array.all_eq_true']
  intro c hc
  exact decide_eq_true (h c (by simpa using hc))
theorem Sm.drop {l : List Nat} (h : Sm l) (n : Nat) : Sm (l.drop n) := fun c hc => h c (List.mem_of_mem_drop hc)
theorem dp_strs {K : PySem.W.Frag} {H : Hp} : ∀ ls : List (List Nat), DpAll K H (ls.map fun l => V.str (S l)) (ls.map fun l => PyData.str (S l))
  | [] => .nil
  | l :: r => .cons (.str _) (dp_strs r)
theorem canLay_strs : ∀ {ls : List (List Nat)}, (∀ l ∈ ls, Sm l) → PyData.canLayAll0 (ls.map fun l => PyData.str (S l)) = true
  | [], _ => rfl
  | l :: r, h => by
    show (PyData.strOk (S l) && PyData.canLayAll0 (r.map fun l => PyData.str (S l))) = true
    rw [(h l (List.mem_cons_self ..)).ok, canLay_strs fun z hz => h z (List.mem_cons_of_mem _ hz)]
    rfl
theorem depth_strs : ∀ ls : List (List Nat), PyData.depthAll (ls.map fun l => PyData.str (S l)) = 0
  | [] => rfl
  | l :: r => by
    show max 0 (PyData.depthAll (r.map fun l => PyData.str (S l))) = 0
    rw [depth_strs r]
    rfl
theorem shaped_strs {ls : List (List Nat)} (h : ∀ l ∈ ls, Sm l) : SeqAt.shaped (.list (ls.map fun l => PyData.str (S l))) = true := by
  show (PyData.canLayAll0 _ && decide (PyData.depthAll _ + 1 ≤ 64)) = true
  rw [canLay_strs h, depth_strs]
  rfl
theorem eq_strs {ls : List (List Nat)} (h : ∀ l ∈ ls, Sm l) : PyData.eqv (.list (ls.map fun l => PyData.str (S l))) (.list (ls.map fun l => PyData.str (S l))) = true :=
  PySem.SeqAt.eqv_refl _ (canLay_strs h)
/-- a text and two ints -/
def D3 (l : List Nat) (b c : Int) : PyData := .tuple [.str (S l), .int b, .int c]
theorem dp3 {K : PySem.W.Frag} {H : Hp} {a : Addr} {l : List Nat} {b c : Int} (h : SqT K H a [.str (S l), .int b, .int c]) : Dp K H (.ref a) (D3 l b c) :=
  .tup h (.cons (.str _) (.cons (.int _) (.cons (.int _) .nil)))
theorem lay3 {l : List Nat} (h : Sm l) (b c : Int) : (D3 l b c).canLay0 = true := by
  show (PyData.strOk (S l) && (true && (true && true))) = true
  rw [h.ok]
  rfl
theorem shaped3 {l : List Nat} (h : Sm l) (b c : Int) : SeqAt.shaped (D3 l b c) = true := by
  show ((D3 l b c).canLay0 && decide ((D3 l b c).depth ≤ 64)) = true
  rw [lay3 h]
  rfl
theorem eq3 {l : List Nat} (h : Sm l) (b c : Int) : PyData.eqv (D3 l b c) (D3 l b c) = true := PySem.SeqAt.eqv_refl _ (lay3 h b c)

/-! ### a if t else b -/
def AnsB (t : TT) (σ : L2.St) (H : Hp) (b : Bool) : Prop := ∀ Q : Bool → Hp → Prop, Q b H → t σ H Q
def ValB (te : TE) (σ : L2.St) (H : Hp) (P : V → Hp → Prop) : Prop := ∀ Q : VK, (∀ v H', P v H' → Q v H') → te σ H Q
theorem tif_val {t : TT} {ta tb : TE} {σ : L2.St} {H : Hp} {P : V → Hp → Prop} (b : Bool) (ht : AnsB t σ H b) (ha : b = true → ValB ta σ H P) (hb : b = false → ValB tb σ H P) : ValB (tIf t ta tb) σ H P := by
  intro Q q
  refine ht _ ?_
  cases b with
  | true =>
    rw [if_pos rfl]
    exact ha rfl Q q
  | false =>
    rw [if_neg Bool.false_ne_true]
    exact hb rfl Q q
theorem sum_le : ∀ {ls : List (List Nat)} {k : Nat}, (∀ l ∈ ls, l.length ≤ k) → ((ls.map S).map (·.length)).sum ≤ k * ls.length
  | [], k, _ => by simp
  | a :: r, k, h => by
    have ih := sum_le (ls := r) (k := k) fun l hl => h l (List.mem_cons_of_mem _ hl)
    have ha := h a (List.mem_cons_self ..)
    rw [List.map_cons, List.map_cons, List.sum_cons, S_len, List.length_cons, Nat.mul_succ]
    omega

theorem asg_if {t : TT} {ta tb : TE} {g : TG} {u : TS} {D : Ends} {σ : L2.St} {H : Hp} (P : V → Hp → Prop) (b : Bool) (ht : AnsB t σ H b) (ha : b = true → ValB ta σ H P) (hb : b = false → ValB tb σ H P)
    (hq : ∀ v H', P v H' → g v σ H' (u D)) : tSeq (tAsg (tIf t ta tb) g) u D σ H :=
  tif_val b ht ha hb (fun v H' => g v σ H' (u D)) hq
theorem go_nx {D : Ends} {σ : L2.St} {H : Hp} (q : D.nx σ H) : tNext D σ H := q
end My

namespace K10
open PySem PySem.Spec PyProof.Rows L2 My
/-! ### columns -/
def isW (c : Nat) : Bool := c == 32 || c == 9
def ww (c col : Nat) : Nat := if c = 9 then 4 - col % 4 else 1
theorem ww_pos (c col : Nat) : 0 < ww c col := by
  unfold ww
  split <;> omega
theorem ww_le (c col : Nat) : ww c col ≤ 4 := by
  unfold ww
  split <;> omega
/-- the blank columns: the sign's place, how many of its columns are left -/
def blanks : Nat → Nat → List Nat → List (Nat × Nat)
  | _, _, [] => []
  | at', col, c :: r => if isW c = true then ((List.range (ww c col)).reverse.map fun l => (at', l)) ++ blanks (at' + 1) (col + ww c col) r else []
/-- the column behind the white -/
def runW : List Nat → Nat → Nat
  | [], b => b
  | c :: r, b => if isW c = true then runW r (b + ww c b) else b
theorem run_ge : ∀ (s : List Nat) (b : Nat), b ≤ runW s b
  | [], b => Nat.le_refl _
  | c :: r, b => by
    unfold runW
    split
    · exact Nat.le_trans (Nat.le_add_right _ _) (run_ge r _)
    · exact Nat.le_refl _
theorem run_blanks : ∀ (s : List Nat) (at' b : Nat), runW s b = b + (blanks at' b s).length
  | [], _, b => rfl
  | c :: r, at', b => by
    unfold runW blanks
    split
    · rw [run_blanks r (at' + 1) (b + ww c b), List.length_append, List.length_map, List.length_reverse, List.length_range]
      omega
    · rfl
/-- what is left behind g blank columns: the text, the columns held -/
def restAt : Nat → Nat → List Nat → List Nat × Nat
  | _, _, [] => ([], 0)
  | col, g, c :: r => if g = 0 then (c :: r, 0) else if isW c = true then (if g ≤ ww c col then (r, ww c col - g) else restAt (col + ww c col) (g - ww c col) r) else (c :: r, 0)
theorem restAt_zero : ∀ (s : List Nat) (col : Nat), restAt col 0 s = (s, 0)
  | [], _ => rfl
  | c :: r, col => by
    unfold restAt
    rw [if_pos rfl]
/-- white that is taken up to a column: the place, the column -/
def tk : List Nat → Nat → Nat → Nat → Nat × Nat
  | [], b, _, p => (p, b)
  | c :: r, b, g, p => if b < g ∧ isW c = true then tk r (b + ww c b) g (p + 1) else (p, b)
theorem tk_stop {s : List Nat} {b g p : Nat} (h : ¬ b < g) : tk s b g p = (p, b) := by
  cases s with
  | nil => rfl
  | cons c r =>
    unfold tk
    rw [if_neg (fun q => h q.1)]
theorem tk_shift : ∀ (s : List Nat) (b g p : Nat), tk s b g p = ((tk s b g 0).1 + p, (tk s b g 0).2)
  | [], b, g, p => by simp [tk]
  | c :: r, b, g, p => by
    unfold tk
    split
    · rw [tk_shift r _ _ (p + 1), tk_shift r _ _ (0 + 1)]
      simp only
      congr 1
      omega
    · simp
/-- what taken tells -/
def cut (s : List Nat) (b g : Nat) : List Nat × Nat × Nat := (s.drop (tk s b g 0).1, min g (tk s b g 0).2, (tk s b g 0).2 - min g (tk s b g 0).2)
theorem cut_cons {c : Nat} {r : List Nat} {b g : Nat} (h : b < g) (hc : isW c = true) : cut (c :: r) b g = cut r (b + ww c b) g := by
  unfold cut
  have e : tk (c :: r) b g 0 = tk r (b + ww c b) g (0 + 1) := by
    conv => lhs; unfold tk
    rw [if_pos ⟨h, hc⟩]
  rw [e, tk_shift r _ _ (0 + 1)]
  rfl
theorem cut_stop {s : List Nat} {b g : Nat} (h : ¬ b < g) : cut s b g = (s, g, b - g) := by
  unfold cut
  rw [tk_stop h]
  have : min g b = g := by omega
  simp only [this]
  rfl
/-- blank columns taken behind others -/
theorem cut_rest : ∀ (s : List Nat) (at' col g k : Nat), g + k ≤ (blanks at' col s).length →
    cut (restAt col g s).1 (col + g + (restAt col g s).2) (col + g + k) = ((restAt col (g + k) s).1, col + g + k, (restAt col (g + k) s).2)
  | [], at', col, g, k, h => by
    have h' : g + k ≤ 0 := h
    have hg : g = 0 := by omega
    have hk : k = 0 := by omega
    subst hg hk
    simp [restAt, cut, tk]
  | c :: r, at', col, g, k, h => by
    by_cases hc : isW c = true
    · have hl : (blanks at' col (c :: r)).length = ww c col + (blanks (at' + 1) (col + ww c col) r).length := by
        conv => lhs; unfold blanks
        rw [if_pos hc, List.length_append, List.length_map, List.length_reverse, List.length_range]
      rw [hl] at h
      have hp := ww_pos c col
      have R : ∀ n, 0 < n → restAt col n (c :: r) = if n ≤ ww c col then (r, ww c col - n) else restAt (col + ww c col) (n - ww c col) r := fun n hn => by
        conv => lhs; unfold restAt
        rw [if_neg (by omega), if_pos hc]
      by_cases hg : g = 0
      · subst hg
        rw [restAt_zero, Nat.zero_add]
        simp only [Nat.add_zero]
        by_cases hk : k = 0
        · subst hk
          rw [restAt_zero, cut_stop (by omega)]
          simp
        · rw [cut_cons (by omega) hc, R k (by omega)]
          by_cases hle : k ≤ ww c col
          · rw [if_pos hle, cut_stop (by omega)]
            simp only [Prod.mk.injEq, true_and]
            omega
          · rw [if_neg hle]
            have ih := cut_rest r (at' + 1) (col + ww c col) 0 (k - ww c col) (by omega)
            rw [restAt_zero] at ih
            simp only [Nat.add_zero, Nat.zero_add] at ih
            rw [show col + ww c col + (k - ww c col) = col + k by omega] at ih
            exact ih
      · rw [R g (by omega), R (g + k) (by omega)]
        by_cases hle : g ≤ ww c col
        · rw [if_pos hle]
          simp only
          rw [show col + g + (ww c col - g) = col + ww c col by omega]
          by_cases hle2 : g + k ≤ ww c col
          · rw [if_pos hle2, cut_stop (by omega)]
            simp only [Prod.mk.injEq, true_and]
            omega
          · rw [if_neg hle2]
            have ih := cut_rest r (at' + 1) (col + ww c col) 0 (g + k - ww c col) (by omega)
            rw [restAt_zero] at ih
            simp only [Nat.add_zero, Nat.zero_add] at ih
            rw [show col + ww c col + (g + k - ww c col) = col + g + k by omega] at ih
            exact ih
        · rw [if_neg hle, if_neg (by omega)]
          have ih := cut_rest r (at' + 1) (col + ww c col) (g - ww c col) k (by omega)
          rw [show col + ww c col + (g - ww c col) = col + g by omega, show g - ww c col + k = g + k - ww c col by omega] at ih
          exact ih
    · have hl : (blanks at' col (c :: r)).length = 0 := by
        unfold blanks
        rw [if_neg hc]
        rfl
      rw [hl] at h
      have hg : g = 0 := by omega
      have hk : k = 0 := by omega
      subst hg hk
      rw [restAt_zero, cut_stop (by omega)]
      simp
/-- the rest's indent -/
theorem run_rest : ∀ (s : List Nat) (at' col g : Nat), g ≤ (blanks at' col s).length → runW (restAt col g s).1 (col + g + (restAt col g s).2) = col + (blanks at' col s).length
  | [], at', col, g, h => by
    have h' : g ≤ 0 := h
    have hg : g = 0 := by omega
    subst hg
    rfl
  | c :: r, at', col, g, h => by
    by_cases hc : isW c = true
    · have hl : (blanks at' col (c :: r)).length = ww c col + (blanks (at' + 1) (col + ww c col) r).length := by
        conv => lhs; unfold blanks
        rw [if_pos hc, List.length_append, List.length_map, List.length_reverse, List.length_range]
      have hr := run_blanks r (at' + 1) (col + ww c col)
      by_cases hg : g = 0
      · subst hg
        rw [restAt_zero]
        exact run_blanks (c :: r) at' col
      · conv => lhs; unfold restAt
        rw [if_neg hg, if_pos hc]
        by_cases hle : g ≤ ww c col
        · rw [if_pos hle]
          simp only
          rw [show col + g + (ww c col - g) = col + ww c col by omega]
          omega
        · rw [if_neg hle]
          have ih := run_rest r (at' + 1) (col + ww c col) (g - ww c col) (by omega)
          rw [show col + ww c col + (g - ww c col) = col + g by omega] at ih
          omega
    · have hl : (blanks at' col (c :: r)).length = 0 := by
        unfold blanks
        rw [if_neg hc]
        rfl
      rw [hl] at h ⊢
      have hg : g = 0 := by omega
      subst hg
      rw [restAt_zero]
      simp only [Nat.add_zero]
      unfold runW
      rw [if_neg hc]
/-- the table's entry tells the rest -/
theorem table_rest : ∀ (s pre : List Nat) (col g : Nat), 0 < g → g ≤ (blanks pre.length col s).length →
    ∃ p, (blanks pre.length col s)[g - 1]? = some (p, (restAt col g s).2) ∧ (restAt col g s).1 = (pre ++ s).drop (p + 1)
  | [], pre, col, g, h0, h => by
    have h' : g ≤ 0 := h
    omega
  | c :: r, pre, col, g, h0, h => by
    by_cases hc : isW c = true
    · have hb : blanks pre.length col (c :: r) = ((List.range (ww c col)).reverse.map fun l => (pre.length, l)) ++ blanks (pre.length + 1) (col + ww c col) r := by
        conv => lhs; unfold blanks
        rw [if_pos hc]
      have hm : ((List.range (ww c col)).reverse.map fun l => (pre.length, l)).length = ww c col := by simp
      have R : restAt col g (c :: r) = if g ≤ ww c col then (r, ww c col - g) else restAt (col + ww c col) (g - ww c col) r := by
        conv => lhs; unfold restAt
        rw [if_neg (by omega), if_pos hc]
      rw [R, hb]
      rw [hb, List.length_append, hm] at h
      by_cases hle : g ≤ ww c col
      · rw [if_pos hle]
        refine ⟨pre.length, ?_, ?_⟩
        · rw [List.getElem?_append_left (by rw [hm]; omega), List.getElem?_map, List.getElem?_reverse (by rw [List.length_range]; omega), List.length_range, List.getElem?_range (by omega)]
          simp only [Option.map_some, Option.some.injEq, Prod.mk.injEq, true_and]
          omega
        · rw [show pre ++ c :: r = (pre ++ [c]) ++ r by simp]
          exact (List.drop_left' (by simp)).symm
      · rw [if_neg hle, List.getElem?_append_right (by rw [hm]; omega), hm]
        have ih := table_rest r (pre ++ [c]) (col + ww c col) (g - ww c col) (by omega) (by
          rw [List.length_append, List.length_singleton]
          omega)
        rw [List.length_append, List.length_singleton, List.append_assoc] at ih
        obtain ⟨p, e1, e2⟩ := ih
        exact ⟨p, by rw [show g - 1 - ww c col = g - ww c col - 1 by omega]; exact e1, e2⟩
    · have hl : (blanks pre.length col (c :: r)).length = 0 := by
        unfold blanks
        rw [if_neg hc]
        rfl
      rw [hl] at h
      omega

def topS (i : Nat) : Stmt := PySem.Challenge.pw_plainmark_k10_columns.main.body.getD i (.Pass ⟨0, 0, 0, 0⟩)
abbrev s_lines_of : Stmt := topS 3
abbrev s_whole : Stmt := topS 4
abbrev s_indent : Stmt := topS 5
abbrev s_taken : Stmt := topS 6
abbrev s_told : Stmt := topS 7
abbrev s_white_width : Stmt := topS 8
abbrev s__law_well : Stmt := topS 10
abbrev s__law_draw : Stmt := topS 11
abbrev s__law_one : Stmt := topS 12
abbrev s__law_line : Stmt := topS 13
abbrev s__law_blanks : Stmt := topS 14
abbrev s__law_walk_right : Stmt := topS 15
abbrev s__law_behind_right : Stmt := topS 16
abbrev s_law : Stmt := topS 17
theorem sc_lines_of : FnScope ["text", "lines"] ["text"] (defScope s_lines_of) := ⟨rfl, rfl, rfl, by decide +kernel, rfl, by decide +kernel, by decide +kernel⟩
theorem sc_whole : FnScope ["line"] ["line"] (defScope s_whole) := ⟨rfl, rfl, rfl, by decide +kernel, rfl, by decide +kernel, by decide +kernel⟩
theorem sc_indent : FnScope ["rest", "text", "column", "held", "behind", "sign"] ["rest"] (defScope s_indent) := ⟨rfl, rfl, rfl, by decide +kernel, rfl, by decide +kernel, by decide +kernel⟩
theorem sc_taken : FnScope ["rest", "many", "text", "column", "held", "behind", "place", "begin"] ["rest", "many"] (defScope s_taken) := ⟨rfl, rfl, rfl, by decide +kernel, rfl, by decide +kernel, by decide +kernel⟩
theorem sc_told : FnScope ["rest", "text", "_", "held"] ["rest"] (defScope s_told) := ⟨rfl, rfl, rfl, by decide +kernel, rfl, by decide +kernel, by decide +kernel⟩
theorem sc_white_width : FnScope ["sign", "column"] ["sign", "column"] (defScope s_white_width) := ⟨rfl, rfl, rfl, by decide +kernel, rfl, by decide +kernel, by decide +kernel⟩
theorem sc__law_well : FnScope ["_law_cell"] ["_law_cell"] (defScope s__law_well) := ⟨rfl, rfl, rfl, by decide +kernel, rfl, by decide +kernel, by decide +kernel⟩
theorem sc__law_draw : FnScope ["_law_well_here", "_law_many", "_law_digit", "_law_number", "_law_more"] ["_law_well_here", "_law_many"] (defScope s__law_draw) := ⟨rfl, rfl, rfl, by decide +kernel, rfl, by decide +kernel, by decide +kernel⟩
theorem sc__law_one : FnScope ["_law_well_here", "_law_some"] ["_law_well_here", "_law_some"] (defScope s__law_one) := ⟨rfl, rfl, rfl, by decide +kernel, rfl, by decide +kernel, by decide +kernel⟩
theorem sc__law_line : FnScope ["_law_well_here", "_law_some", "_law_k"] ["_law_well_here"] (defScope s__law_line) := ⟨rfl, rfl, rfl, by decide +kernel, rfl, by decide +kernel, by decide +kernel⟩
theorem sc__law_blanks : FnScope ["_law_line_here", "_law_column", "_law_found", "_law_at", "_law_sign", "_law_many", "_law_left"] ["_law_line_here", "_law_column"] (defScope s__law_blanks) := ⟨rfl, rfl, rfl, by decide +kernel, rfl, by decide +kernel, by decide +kernel⟩
theorem sc__law_walk_right : FnScope ["_law_well_here", "_law_line_here", "_law_table", "_law_rest", "_law_gone", "_law_k", "_law_step", "_law_at", "_law_left"] ["_law_well_here", "_law_line_here"] (defScope s__law_walk_right) := ⟨rfl, rfl, rfl, by decide +kernel, rfl, by decide +kernel, by decide +kernel⟩
theorem sc__law_behind_right : FnScope ["_law_well_here", "_law_line_here", "_law_column", "_law_table", "_law_rest", "_law_many", "_law_at", "_law_left"] ["_law_well_here", "_law_line_here"] (defScope s__law_behind_right) := ⟨rfl, rfl, rfl, by decide +kernel, rfl, by decide +kernel, by decide +kernel⟩
theorem sc_law : FnScope ["_law_script", "_law_cell", "_law_well_here", "_law_k", "_law_line_here", "_law_lines"] ["_law_script"] (defScope s_law) := ⟨rfl, rfl, rfl, by decide +kernel, rfl, by decide +kernel, by decide +kernel⟩
structure Txt (K : PySem.W.Frag) (mg : Str → Option Value) where
  a_lines_of : Addr
  d_lines_of : FuncData
  f_lines_of : Fun K "lines_of" "lines_of" s_lines_of a_lines_of d_lines_of
  g_lines_of : mg "lines_of" = some (.ref a_lines_of)
  b_lines_of : Binds K d_lines_of ["text"] []
  a_whole : Addr
  d_whole : FuncData
  f_whole : Fun K "whole" "whole" s_whole a_whole d_whole
  g_whole : mg "whole" = some (.ref a_whole)
  b_whole : Binds K d_whole ["line"] []
  a_indent : Addr
  d_indent : FuncData
  f_indent : Fun K "indent" "indent" s_indent a_indent d_indent
  g_indent : mg "indent" = some (.ref a_indent)
  b_indent : Binds K d_indent ["rest"] []
  a_taken : Addr
  d_taken : FuncData
  f_taken : Fun K "taken" "taken" s_taken a_taken d_taken
  g_taken : mg "taken" = some (.ref a_taken)
  b_taken : Binds K d_taken ["rest", "many"] []
  a_told : Addr
  d_told : FuncData
  f_told : Fun K "told" "told" s_told a_told d_told
  g_told : mg "told" = some (.ref a_told)
  b_told : Binds K d_told ["rest"] []
  a_white_width : Addr
  d_white_width : FuncData
  f_white_width : Fun K "white_width" "white_width" s_white_width a_white_width d_white_width
  g_white_width : mg "white_width" = some (.ref a_white_width)
  b_white_width : Binds K d_white_width ["sign", "column"] []
  a__law_well : Addr
  d__law_well : FuncData
  f__law_well : Fun K "_law_well" "_law_well" s__law_well a__law_well d__law_well
  g__law_well : mg "_law_well" = some (.ref a__law_well)
  b__law_well : Binds K d__law_well ["_law_cell"] []
  a__law_draw : Addr
  d__law_draw : FuncData
  f__law_draw : Fun K "_law_draw" "_law_draw" s__law_draw a__law_draw d__law_draw
  g__law_draw : mg "_law_draw" = some (.ref a__law_draw)
  b__law_draw : Binds K d__law_draw ["_law_well_here", "_law_many"] []
  a__law_one : Addr
  d__law_one : FuncData
  f__law_one : Fun K "_law_one" "_law_one" s__law_one a__law_one d__law_one
  g__law_one : mg "_law_one" = some (.ref a__law_one)
  b__law_one : Binds K d__law_one ["_law_well_here", "_law_some"] []
  a__law_line : Addr
  d__law_line : FuncData
  f__law_line : Fun K "_law_line" "_law_line" s__law_line a__law_line d__law_line
  g__law_line : mg "_law_line" = some (.ref a__law_line)
  b__law_line : Binds K d__law_line ["_law_well_here"] []
  a__law_blanks : Addr
  d__law_blanks : FuncData
  f__law_blanks : Fun K "_law_blanks" "_law_blanks" s__law_blanks a__law_blanks d__law_blanks
  g__law_blanks : mg "_law_blanks" = some (.ref a__law_blanks)
  b__law_blanks : Binds K d__law_blanks ["_law_line_here", "_law_column"] []
  a__law_walk_right : Addr
  d__law_walk_right : FuncData
  f__law_walk_right : Fun K "_law_walk_right" "_law_walk_right" s__law_walk_right a__law_walk_right d__law_walk_right
  g__law_walk_right : mg "_law_walk_right" = some (.ref a__law_walk_right)
  b__law_walk_right : Binds K d__law_walk_right ["_law_well_here", "_law_line_here"] []
  a__law_behind_right : Addr
  d__law_behind_right : FuncData
  f__law_behind_right : Fun K "_law_behind_right" "_law_behind_right" s__law_behind_right a__law_behind_right d__law_behind_right
  g__law_behind_right : mg "_law_behind_right" = some (.ref a__law_behind_right)
  b__law_behind_right : Binds K d__law_behind_right ["_law_well_here", "_law_line_here"] []
  z_enumerate : mg "enumerate" = none
  z_int : mg "int" = none
  z_len : mg "len" = none
  z_min : mg "min" = none
  z_range : mg "range" = none
  t_WHITE : Tok
  g_WHITE : mg "WHITE" = some (.str " \t" t_WHITE)
  t_TAB_STOP : Tok
  g_TAB_STOP : mg "TAB_STOP" = some (.int 4 t_TAB_STOP)
/-! ### the draws -/
def sp__law_well (K : PySem.W.Frag) : Sp := fun vs H Q _ => ∃ n : Int, vs = [.int n] ∧ ∀ p, H p = none → Q (.ref p) (upd H p (.lst [.int n, .int 0]))
theorem ok__law_well {P : Program} {w : World} {K : PySem.W.Frag} {mg : Str → Option Value} {base : Heap} (T : Txt K mg) : FnOk P w K mg base CX0 1 T.a__law_well T.d__law_well ["_law_cell"] (sp__law_well K) := by
  refine T.f__law_well.ok sc__law_well (fun vs H Q E h => ?_) (fun cdv A outer s H vs Q E hr h => ?_)
  · obtain ⟨n, rfl, _⟩ := h
    rfl
  · obtain ⟨n, rfl, q⟩ := h
    refine ⟨_, (pss_one (ps_ret (pe_lst (pa_cons (pe_callTy call_int1 (by rfl) T.z_int (by decide +kernel) (pa_cons (pv 0) pa_nil)) (pa_cons pe_int pa_nil))))), ?_⟩
    exact ⟨_, rfl, .inl ⟨_, rfl, (by show 2 ≤ sizeLine; decide), fun p hp => q p hp⟩⟩
def sp__law_draw (K : PySem.W.Frag) : Sp := fun vs H Q _ => ∃ (L : Addr) (m : Int), vs = [.ref L, .int m] ∧ 0 < m ∧ m < 1000000 ∧ Well H L ∧
  ∀ H' d, Keeps L H H' → Well H' L → 0 ≤ d → d < m → Q (.int d) H'
theorem ok__law_draw {P : Program} {w : World} {K : PySem.W.Frag} {mg : Str → Option Value} {base : Heap} (T : Txt K mg) : FnOk P w K mg base CX0 1 T.a__law_draw T.d__law_draw ["_law_well_here", "_law_many"] (sp__law_draw K) := by
  refine T.f__law_draw.ok sc__law_draw (fun vs H Q E h => ?_) (fun cdv A outer s H vs Q E hr h => ?_)
  · obtain ⟨L, m, rfl, _⟩ := h
    rfl
  · obtain ⟨L, m, rfl, hm0, hm1, ⟨x, y, hL⟩, q⟩ := h
    refine ⟨_, (pss_cons (ps_if (pt_cmpR op_ge (pe_ix ix_list (pv 0) pe_int (fun _ _ => rfl)) (pe_op op_pow pe_int pe_int) (nomark _)) (pss_cons (ps_set (i := 2) sc__law_draw.nd rfl (.inl rfl) (pe_op op_mod (pe_callTy call_int1 (by rfl) T.z_int (by decide +kernel) (pa_cons (pe_ix ix_list (pv 0) pe_int (fun _ _ => rfl)) pa_nil)) (pv 1)))
        (pss_cons (ps_asg (pe_op op_fdivW (pe_ix ix_list (pv 0) pe_int (fun _ _ => rfl)) (pv 1)) (pg_sub (pv 0) pe_int set_list))
        (pss_one (ps_ret (pv 2))))) pss_nil)
        (pss_cons (ps_asg (pe_op op_add (pe_ix ix_list (pv 0) pe_int (fun _ _ => rfl)) pe_int) (pg_sub (pv 0) pe_int set_list))
        (pss_cons (ps_set (i := 3) sc__law_draw.nd rfl (.inl rfl) (pe_op op_mod (pe_callTy call_int1 (by rfl) T.z_int (by decide +kernel) (pa_cons (pe_op op_mul (pe_callTy call_int1 (by rfl) T.z_int (by decide +kernel) (pa_cons (pe_op op_add (pe_op op_add (pe_op op_mod (pe_callTy call_int1 (by rfl) T.z_int (by decide +kernel) (pa_cons (pe_ix ix_list (pv 0) pe_int (fun _ _ => rfl)) pa_nil)) pe_int) (pe_op op_mul pe_int (pe_ix ix_list (pv 0) pe_int (fun _ _ => rfl)))) pe_int) pa_nil)) pe_int) pa_nil)) pe_int))
        (pss_cons (ps_set (i := 4) sc__law_draw.nd rfl (.inl rfl) (pe_op op_mod (pe_callTy call_int1 (by rfl) T.z_int (by decide +kernel) (pa_cons (pe_op op_fdivW (pe_ix ix_list (pv 0) pe_int (fun _ _ => rfl)) pe_int) pa_nil)) pe_int))
        (pss_cons (ps_set (i := 3) sc__law_draw.nd rfl (.inl rfl) (pe_op op_mod (pe_callTy call_int1 (by rfl) T.z_int (by decide +kernel) (pa_cons (pe_op op_mul (pv 3) (pe_op op_add (pe_op op_add (pe_op op_fdivW (pv 3) pe_int) pe_int) (pv 4))) pa_nil)) pe_int))
        (pss_one (ps_ret (pe_op op_mod (pe_callTy call_int1 (by rfl) T.z_int (by decide +kernel) (pa_cons (pe_op op_fdivW (pe_op op_mod (pe_callTy call_int1 (by rfl) T.z_int (by decide +kernel) (pa_cons (pe_op op_mul (pv 3) (pe_op op_add (pe_op op_fdivW (pv 3) pe_int) pe_int)) pa_nil)) pe_int) pe_int) pa_nil)) (pv 1))))))))), ?_⟩
    have a0 : ∀ x y : Int, atI [V.int x, V.int y] 0 = some (.int x) := fun x y => atI_nat (j := 0) rfl
    have a1 : ∀ x y : Int, atI [V.int x, V.int y] 1 = some (.int y) := fun x y => atI_nat (j := 1) rfl
    have wd : ∀ i j : Int, 0 < j → j < 10000000000 → CDivW i j := fun i j h1 h2 => wide_div (b := 40) h1 (by omega) (by decide) (by decide)
    refine ⟨_, rfl, L, _, _, _, rfl, rfl, SqL.of hL, a0 x y, _, _, rfl, rfl, (by refine ⟨?_, ?_, ?_⟩ <;> decide), _, _, rfl, rfl, _, rfl, ite2 (fun _ => ?_) (fun _ => ?_)⟩
    · refine ⟨_, rfl, L, _, _, _, rfl, rfl, SqL.of hL, a0 x y, .inl ⟨_, rfl, _, rfl, _, _, rfl, rfl, hm0, ?_⟩⟩
      refine ⟨_, rfl, L, _, _, _, rfl, rfl, SqL.of hL, a0 x y, _, rfl, _, _, rfl, rfl, wd _ _ hm0 (by omega), _, rfl, L, _, _, 0, rfl, rfl, hL, rfl, ?_⟩
      exact ⟨_, rfl, q _ _ .at ⟨_, _, upd_same⟩ (Int.emod_nonneg _ (by omega)) (Int.emod_lt_of_pos _ hm0)⟩
    · -- well[1] = well[1] + 1
      refine ⟨_, rfl, L, _, _, _, rfl, rfl, SqL.of hL, a1 x y, _, _, rfl, rfl, _, rfl, L, _, _, 1, rfl, rfl, hL, rfl, ?_⟩
      have k2 : Keeps L H (upd H L (.lst ([V.int x, V.int y].set 1 (.int (y + 1))))) := .at
      have hL2 : (upd H L (.lst ([V.int x, V.int y].set 1 (.int (y + 1))))) L = some (.lst [V.int x, V.int (y + 1)]) := upd_same
      generalize (upd H L (.lst ([V.int x, V.int y].set 1 (.int (y + 1))))) = H2 at hL2 k2 ⊢
      refine ⟨_, rfl, L, _, _, _, rfl, rfl, SqL.of hL2, a0 _ _, .inl ⟨_, rfl, _, _, rfl, rfl, (by show (0 : Int) < _; decide), _, rfl, L, _, _, _, rfl, rfl, SqL.of hL2, a1 _ _, _, _, rfl, rfl, .inl (by constructor <;> decide), _, _, rfl, rfl, _, _, rfl, rfl,
        .inl ⟨_, rfl, _, _, rfl, rfl, .inr (by constructor <;> decide), .inl ⟨_, rfl, _, _, rfl, rfl, (by show (0 : Int) < _; decide), ?_⟩⟩⟩⟩
      refine ⟨_, rfl, L, _, _, _, rfl, rfl, SqL.of hL2, a0 _ _, _, _, rfl, rfl, wd _ _ (by decide) (by decide), .inl ⟨_, rfl, _, _, rfl, rfl, (by show (0 : Int) < _; decide), ?_⟩⟩
      refine ⟨_, rfl, _, rfl, _, _, rfl, rfl, wd _ _ (by decide) (by decide), _, _, rfl, rfl, _, rfl, _, _, rfl, rfl, _, _, rfl, rfl, .inl (by constructor <;> omega), .inl ⟨_, rfl, _, _, rfl, rfl, (by show (0 : Int) < _; decide), ?_⟩⟩
      refine ⟨_, rfl, _, rfl, _, _, rfl, rfl, wd _ _ (by decide) (by decide), _, _, rfl, rfl, _, _, rfl, rfl, .inl (by constructor <;> omega), .inl ⟨_, rfl, _, _, rfl, rfl, (by show (0 : Int) < _; decide), _, _, rfl, rfl, wd _ _ (by decide) (by decide), .inl ⟨_, rfl, _, rfl, _, _, rfl, rfl, hm0, ?_⟩⟩⟩
      exact q _ _ k2 ⟨_, _, hL2⟩ (Int.emod_nonneg _ (by omega)) (Int.emod_lt_of_pos _ hm0)
def sp__law_one (K : PySem.W.Frag) : Sp := fun vs H Q _ => ∃ (L a : Addr) (xs : List V), vs = [.ref L, .ref a] ∧ SqL K H a xs ∧ a ≠ L ∧ xs ≠ [] ∧ xs.length < 1000000 ∧ Well H L ∧
  ∀ H' v, Keeps L H H' → Well H' L → v ∈ xs → Q v H'
theorem ok__law_one {P : Program} {w : World} {K : PySem.W.Frag} {mg : Str → Option Value} {base : Heap} (T : Txt K mg) : FnOk P w K mg base CX0 2 T.a__law_one T.d__law_one ["_law_well_here", "_law_some"] (sp__law_one K) := by
  refine T.f__law_one.ok sc__law_one (fun vs H Q E h => ?_) (fun cdv A outer s H vs Q E hr h => ?_)
  · obtain ⟨L, a, xs, rfl, _⟩ := h
    rfl
  · obtain ⟨L, a, xs, rfl, hS, ha, hne, hlen, hW, q⟩ := h
    refine ⟨_, (pss_one (ps_ret (pe_ix ix_list (pv 1) (pe_call (ok__law_draw T) (hr.mono (by decide)) (by rfl) T.g__law_draw T.f__law_draw.kp T.b__law_draw .nil pass0 (pa_cons (pv 0) (pa_cons (pe_callB call_len_seq (by rfl) T.z_len PySem.boot_len (pa_cons (pv 1) pa_nil)) pa_nil))) (fun _ _ => rfl)))), ?_⟩
    have hpos : 0 < xs.length := List.length_pos_iff.mpr hne
    refine ⟨_, rfl, _, rfl, _, rfl, a, xs, rfl, .inl hS, L, _, rfl, by omega, by omega, hW, fun H' d k w h0 h1 => ?_⟩
    obtain ⟨j, rfl⟩ := Int.eq_ofNat_of_zero_le h0
    have hj : j < xs.length := by omega
    exact ⟨a, xs, _, xs[j], rfl, rfl, k.seq ha hS, atI_nat (List.getElem?_eq_getElem hj), q _ _ k w (List.getElem_mem hj)⟩

theorem lit_white : (" \t" : Str) = S [32, 9] := by decide +kernel
theorem lit_tab : ("\t" : Str) = S [9] := by decide +kernel
theorem lit_sp : (" " : Str) = S [32] := by decide +kernel
theorem lit_nl : ("\n" : Str) = S [10] := by decide +kernel
theorem lit_e : ("" : Str) = S [] := by decide +kernel
theorem in_white (c : Nat) : decide (c ∈ (" \t" : Str).cps.toList) = isW c := by
  rw [lit_white, S_tl]
  unfold isW
  by_cases h1 : c = 32
  · subst h1
    rfl
  · by_cases h2 : c = 9
    · subst h2
      rfl
    · simp [h1, h2]
theorem len_ok {n : Nat} (h : n ≤ 1000000) : n ≤ sizeLine := by
  rw [sizeLine_eq]
  omega
def sp_whole (K : PySem.W.Frag) : Sp := fun vs H Q _ => ∃ z : Str, vs = [.str z] ∧ ∀ p, H p = none → Q (.ref p) (upd H p (.tup [.str z, .int 0, .int 0]))
theorem ok_whole {P : Program} {w : World} {K : PySem.W.Frag} {mg : Str → Option Value} {base : Heap} (T : Txt K mg) : FnOk P w K mg base CX0 1 T.a_whole T.d_whole ["line"] (sp_whole K) := by
  refine T.f_whole.ok sc_whole (fun vs H Q E h => ?_) (fun cdv A outer s H vs Q E hr h => ?_)
  · obtain ⟨z, rfl, _⟩ := h
    rfl
  · obtain ⟨z, rfl, q⟩ := h
    refine ⟨_, (pss_one (ps_ret (pe_tup (pa_cons (pv 0) (pa_cons pe_int (pa_cons pe_int pa_nil)))))), ?_⟩
    exact ⟨_, rfl, (by show 3 ≤ sizeLine; decide), fun p hp => q p hp⟩
def sp_white_width (K : PySem.W.Frag) : Sp := fun vs H Q _ => ∃ c col : Nat, vs = [.str (S [c]), .int (col : Int)] ∧ Q (.int (ww c col : Nat)) H
theorem ok_white_width {P : Program} {w : World} {K : PySem.W.Frag} {mg : Str → Option Value} {base : Heap} (T : Txt K mg) : FnOk P w K mg base CX0 1 T.a_white_width T.d_white_width ["sign", "column"] (sp_white_width K) := by
  refine T.f_white_width.ok sc_white_width (fun vs H Q E h => ?_) (fun cdv A outer s H vs Q E hr h => ?_)
  · obtain ⟨c, col, rfl, _⟩ := h
    rfl
  · obtain ⟨c, col, rfl, q⟩ := h
    refine ⟨_, (pss_cons (ps_if (pt_cmpR op_eq (pv 0) pe_str (nomark _)) (pss_one (ps_ret (pe_op op_sub (pe_glob (v := .int 4) rfl T.g_TAB_STOP ⟨_, rfl⟩) (pe_op op_mod (pv 1) (pe_glob (v := .int 4) rfl T.g_TAB_STOP ⟨_, rfl⟩))))) pss_nil)
        (pss_one (ps_ret pe_int))), ?_⟩
    refine ⟨_, rfl, rfl, _, rfl, ?_⟩
    have e : decide (V.str (S [c]) = V.str ("\t" : Str)) = decide (c = 9) := by
      rw [lit_tab, S_dec]
      simp
    refine ite2 (fun h => ?_) (fun h => ?_)
    · have h9 : c = 9 := by
        rw [e] at h
        exact of_decide_eq_true h
      refine ⟨_, rfl, _, _, rfl, rfl, (by show (0 : Int) < 4; decide), _, _, rfl, rfl, ?_⟩
      have ew : ((ww c col : Nat) : Int) = 4 - (col : Int) % 4 := by
        unfold ww
        rw [if_pos h9]
        omega
      rw [ew] at q
      exact q
    · have h9 : ¬ c = 9 := fun z => h (by rw [e]; exact decide_eq_true z)
      have ew : ((ww c col : Nat) : Int) = 1 := by
        unfold ww
        rw [if_neg h9]
        rfl
      rw [ew] at q
      exact q
def sp_told (K : PySem.W.Frag) : Sp := fun vs H Q _ => ∃ (a : Addr) (s : List Nat) (c : Int) (h : Nat), vs = [.ref a] ∧ SqT K H a [.str (S s), .int c, .int (h : Int)] ∧ h ≤ 1000 ∧ s.length ≤ 1000000 ∧ Q (.str (S (List.replicate h 32 ++ s))) H
theorem ok_told {P : Program} {w : World} {K : PySem.W.Frag} {mg : Str → Option Value} {base : Heap} (T : Txt K mg) : FnOk P w K mg base CX0 1 T.a_told T.d_told ["rest"] (sp_told K) := by
  refine T.f_told.ok sc_told (fun vs H Q E h => ?_) (fun cdv A outer s H vs Q E hr h => ?_)
  · obtain ⟨a, s, c, h, rfl, _⟩ := h
    rfl
  · obtain ⟨a, s, c, h, rfl, hT, hh, hs, q⟩ := h
    refine ⟨_, (pss_cons (ps_asg (pv 0) (pg_tup (by rfl) (pgs_cons (pg_name (i := 1) sc_told.nd rfl (.inl rfl)) (pgs_cons (pg_name (i := 2) sc_told.nd rfl (.inl rfl)) (pgs_cons (pg_name (i := 3) sc_told.nd rfl (.inl rfl)) pgs_nil)))))
        (pss_one (ps_ret (pe_op op_add_str (pe_op op_mul_str pe_str (pv 3)) (pv 1))))), ?_⟩
    refine ⟨_, rfl, a, _, rfl, hT, rfl, _, _, rfl, _, _, rfl, _, _, rfl, rfl, ?_⟩
    refine ⟨_, rfl, 32, h, by rw [lit_sp], rfl, hh, _, rfl, _, _, rfl, rfl, ?_, ?_⟩
    · rw [S_len, S_len, List.length_replicate, sizeLine_eq]
      omega
    · rw [S_app]
      exact q
def sp_indent (K : PySem.W.Frag) : Sp := fun vs H Q _ => ∃ (a : Addr) (s : List Nat) (c h : Nat), vs = [.ref a] ∧ SqT K H a [.str (S s), .int (c : Int), .int (h : Int)] ∧ Q (.int ((runW s (c + h) : Nat) - (c : Nat) : Int)) H
theorem ok_indent {P : Program} {w : World} {K : PySem.W.Frag} {mg : Str → Option Value} {base : Heap} (T : Txt K mg) : FnOk P w K mg base CX0 2 T.a_indent T.d_indent ["rest"] (sp_indent K) := by
  refine T.f_indent.ok sc_indent (fun vs H Q E h => ?_) (fun cdv A outer s H vs Q E hr h => ?_)
  · obtain ⟨a, s, c, h, rfl, _⟩ := h
    rfl
  · obtain ⟨a, s, c, h, rfl, hT, q⟩ := h
    refine ⟨_, (pss_cons (ps_asg (pv 0) (pg_tup (by rfl) (pgs_cons (pg_name (i := 1) sc_indent.nd rfl (.inl rfl)) (pgs_cons (pg_name (i := 2) sc_indent.nd rfl (.inl rfl)) (pgs_cons (pg_name (i := 3) sc_indent.nd rfl (.inl rfl)) pgs_nil)))))
        (pss_cons (ps_set (i := 4) sc_indent.nd rfl (.inl rfl) (pe_op op_add (pv 2) (pv 3)))
        (pss_cons (ps_for PassesOwn.never rfl (pi_str (pv 1)) (pg_name (i := 5) sc_indent.nd rfl (.inl rfl)) (pss_cons (ps_if (pt_cmpR op_notIn_sign (pv 5) (pe_glob (v := .str " \t") rfl T.g_WHITE ⟨_, rfl⟩) (by rfl)) (pss_one ps_break) pss_nil)
        (pss_one (ps_aug (i := 4) sc_indent.nd rfl (.inl rfl) (pe_call (ok_white_width T) (hr.mono (by decide)) (by rfl) T.g_white_width T.f_white_width.kp T.b_white_width .nil pass0 (pa_cons (pv 5) (pa_cons (pv 4) pa_nil))) ip_add))))
        (pss_one (ps_ret (pe_op op_sub (pv 4) (pv 2))))))), ?_⟩
    refine ⟨_, rfl, a, _, rfl, hT, rfl, _, _, rfl, _, _, rfl, _, _, rfl, rfl, ?_⟩
    refine ⟨_, rfl, _, rfl, _, _, rfl, rfl, ?_⟩
    refine ⟨_, rfl, _, rfl, for_it walk_str (fun i σ H' => ∃ (b : Nat) (v : Option V), σ = [some (.ref a), some (.str (S s)), some (.int (c : Int)), some (.int (h : Int)), some (.int (b : Int)), v] ∧ H' = H ∧ runW (s.drop i) b = runW s (c + h)) ?_ (fun _ _ _ _ _ => trivial) ?_ ?_⟩
    · exact ⟨c + h, none, by rw [Int.natCast_add]; rfl, rfl, rfl⟩
    · rintro i x σ H' H'' hi ⟨b, v, rfl, rfl, e⟩ ⟨rfl, ch, hc, rfl⟩
      rw [S_get] at hc
      have hd : s.drop i = ch :: s.drop (i + 1) := by
        obtain ⟨hl, e2⟩ := List.getElem?_eq_some_iff.mp hc
        rw [List.drop_eq_getElem_cons hl, e2]
      refine ⟨_, rfl, ch, _, rfl, rfl, _, rfl, ?_⟩
      rw [in_white]
      refine ite2 (fun hw => ?_) (fun hw => ?_)
      · have hw' : ¬ isW ch = true := by simpa using hw
        rw [hd] at e
        have e2 : runW (ch :: s.drop (i + 1)) b = b := by
          unfold runW
          rw [if_neg hw']
        rw [e2] at e
        refine ⟨_, rfl, _, rfl, _, _, rfl, rfl, ?_⟩
        rw [e]
        exact q
      · have hw' : isW ch = true := by simpa using hw
        refine ⟨_, rfl, _, rfl, _, rfl, ch, b, rfl, _, _, rfl, rfl, b + ww ch b, _, by rw [Int.natCast_add]; rfl, rfl, ?_⟩
        rw [hd] at e
        have e2 : runW (ch :: s.drop (i + 1)) b = runW (s.drop (i + 1)) (b + ww ch b) := by
          conv => lhs; unfold runW
          rw [if_pos hw']
        rw [← e2]
        exact e
    · rintro σ H' ⟨b, v, rfl, rfl, e⟩
      rw [S_size, List.drop_length] at e
      have e' : b = runW s (c + h) := e
      refine ⟨_, rfl, _, rfl, _, _, rfl, rfl, ?_⟩
      rw [e']
      exact q
def sp_taken (K : PySem.W.Frag) : Sp := fun vs H Q _ => ∃ (a : Addr) (s : List Nat) (c h k : Nat), vs = [.ref a, .int (k : Int)] ∧ SqT K H a [.str (S s), .int (c : Int), .int (h : Int)] ∧ s.length ≤ 1000000 ∧
  ∀ p, H p = none → Q (.ref p) (upd H p (.tup [.str (S (cut s (c + h) (c + k)).1), .int ((cut s (c + h) (c + k)).2.1 : Nat), .int ((cut s (c + h) (c + k)).2.2 : Nat)]))
theorem ok_taken {P : Program} {w : World} {K : PySem.W.Frag} {mg : Str → Option Value} {base : Heap} (T : Txt K mg) : FnOk P w K mg base CX0 2 T.a_taken T.d_taken ["rest", "many"] (sp_taken K) := by
  refine T.f_taken.ok sc_taken (fun vs H Q E h => ?_) (fun cdv A outer s H vs Q E hr h => ?_)
  · obtain ⟨a, s, c, h, k, rfl, _⟩ := h
    rfl
  · obtain ⟨a, s, c, h, k, rfl, hT, hs, q⟩ := h
    refine ⟨_, (pss_cons (ps_asg (pv 0) (pg_tup (by rfl) (pgs_cons (pg_name (i := 2) sc_taken.nd rfl (.inl rfl)) (pgs_cons (pg_name (i := 3) sc_taken.nd rfl (.inl rfl)) (pgs_cons (pg_name (i := 4) sc_taken.nd rfl (.inl rfl)) pgs_nil)))))
        (pss_cons (ps_set (i := 5) sc_taken.nd rfl (.inl rfl) (pe_op op_add (pv 3) (pv 4)))
        (pss_cons (ps_set (i := 6) sc_taken.nd rfl (.inl rfl) pe_int)
        (pss_cons (ps_while PassesOwn.never (PW.pt (pw_and (pt_cmpR op_lt (pv 5) (pe_op op_add (pv 3) (pv 1)) (nomark _)) (pw_and (pt_cmpR op_lt (pv 6) (pe_callB call_len_str (by rfl) T.z_len PySem.boot_len (pa_cons (pv 2) pa_nil)) (nomark _)) (pw_and1 (pt_cmpR op_in_sign (pe_ix ix_str (pv 2) (pv 6) (fun _ _ => rfl)) (pe_glob (v := .str " \t") rfl T.g_WHITE ⟨_, rfl⟩) (by rfl)))))) (pss_cons (ps_aug (i := 5) sc_taken.nd rfl (.inl rfl) (pe_call (ok_white_width T) (hr.mono (by decide)) (by rfl) T.g_white_width T.f_white_width.kp T.b_white_width .nil pass0 (pa_cons (pe_ix ix_str (pv 2) (pv 6) (fun _ _ => rfl)) (pa_cons (pv 5) pa_nil))) ip_add)
        (pss_one (ps_aug (i := 6) sc_taken.nd rfl (.inl rfl) pe_int ip_add))))
        (pss_cons (ps_set (i := 7) sc_taken.nd rfl (.inl rfl) (pe_callB (call_min2 rfl) (by rfl) T.z_min (by decide +kernel) (pa_cons (pe_op op_add (pv 3) (pv 1)) (pa_cons (pv 5) pa_nil))))
        (pss_one (ps_ret (pe_tup (pa_cons (pe_slice sl_str (pv 2) (po_some (pv 6)) po_none) (pa_cons (pv 7) (pa_cons (pe_op op_sub (pv 5) (pv 7)) pa_nil))))))))))), ?_⟩
    refine ⟨_, rfl, a, _, rfl, hT, rfl, _, _, rfl, _, _, rfl, _, _, rfl, rfl, ?_⟩
    refine ⟨_, rfl, _, rfl, _, _, rfl, rfl, ?_⟩
    have hsl : (S s).length ≤ sizeLine := by
      rw [S_len]
      exact len_ok hs
    have fin : ∀ pl b : Nat, tk (s.drop pl) b (c + k) pl = tk s (c + h) (c + k) 0 → tk (s.drop pl) b (c + k) pl = (pl, b) →
        ∀ (D : Ends), D.rt = Q → (tSeq (tAsg (tCB (fun xs H Q => ∃ i j, xs = [.int i, .int j] ∧ Q (.int (if j < i then j else i)) H) (tCons (tOp (rI0 fun i j => .int (i + j)) (tVar 3) (tVar 1)) (tCons (tVar 5) tNil))) (gName 7))
          (tRet (tTup (tCons (tSl rSlS (tVar 2) (tPart (tVar 6)) tNoPart) (tCons (tVar 7) (tCons (tOp (rI0 fun i j => .int (i - j)) (tVar 5) (tVar 7)) tNil)))))) D
          [some (.ref a), some (.int (k : Int)), some (.str (S s)), some (.int (c : Int)), some (.int (h : Int)), some (.int (b : Int)), some (.int (pl : Int)), none] H := by
      intro pl b e1 e2 D eD
      have e3 : tk s (c + h) (c + k) 0 = (pl, b) := e1.symm.trans e2
      refine ⟨_, rfl, _, rfl, _, _, rfl, rfl, _, rfl, _, _, rfl, ?_⟩
      refine ⟨_, rfl, _, rfl, _, rfl, _, rfl, hsl, _, rfl, _, rfl, _, rfl, _, _, rfl, rfl, (by show 3 ≤ sizeLine; decide), fun p hp => ?_⟩
      have hq := q p hp
      unfold cut at hq
      rw [e3] at hq
      simp only at hq
      rw [S_cut]
      have em : (if ((b : Nat) : Int) < (c : Int) + (k : Int) then ((b : Nat) : Int) else (c : Int) + (k : Int)) = ((min (c + k) b : Nat) : Int) := by
        split <;> omega
      have es : ((b : Nat) : Int) - ((min (c + k) b : Nat) : Int) = ((b - min (c + k) b : Nat) : Int) := by omega
      show D.rt _ (upd H p (HO.tup [V.str _, V.int _, V.int (((b : Nat) : Int) - _)]))
      rw [em, es, eD]
      exact hq
    refine ⟨fun m σ H' => ∃ pl b : Nat, σ = [some (.ref a), some (.int (k : Int)), some (.str (S s)), some (.int (c : Int)), some (.int (h : Int)), some (.int (b : Int)), some (.int (pl : Int)), none] ∧ H = H' ∧ m = s.length - pl ∧ tk (s.drop pl) b (c + k) pl = tk s (c + h) (c + k) 0,
      ⟨s.length, 0, c + h, by rw [Int.natCast_add]; rfl, rfl, rfl, rfl⟩, ?_⟩
    rintro m σ H' ⟨pl, b, rfl, rfl, rfl, e⟩
    refine ⟨_, rfl, _, rfl, _, rfl, _, _, rfl, rfl, _, _, rfl, rfl, _, rfl, ite2 (fun h1 => ?_) (fun h1 => ?_)⟩
    · have h1' : b < c + k := by
        have := of_decide_eq_true h1
        omega
      refine ⟨_, rfl, _, rfl, _, rfl, hsl, _, _, rfl, rfl, _, rfl, ite2 (fun h2 => ?_) (fun h2 => ?_)⟩
      · have h2' : pl < s.length := by
          have := of_decide_eq_true h2
          rw [S_len] at this
          omega
        have hd : s.drop pl = s[pl] :: s.drop (pl + 1) := List.drop_eq_getElem_cons h2'
        refine ⟨_, rfl, _, rfl, _, _, s[pl], rfl, rfl, hsl, atI_nat (by rw [S_tl]; exact List.getElem?_eq_getElem h2'), s[pl], _, rfl, rfl, _, rfl, ?_⟩
        rw [in_white]
        refine ite2 (fun h3 => ?_) (fun h3 => ?_)
        · refine ⟨fun σ' H' => ∃ pl' b' : Nat, σ' = [some (.ref a), some (.int (k : Int)), some (.str (S s)), some (.int (c : Int)), some (.int (h : Int)), some (.int (b' : Int)), some (.int (pl' : Int)), none] ∧ H = H' ∧ pl' = pl + 1 ∧ tk (s.drop pl') b' (c + k) pl' = tk s (c + h) (c + k) 0, ?_, ?_⟩
          · rintro σ' H' ⟨pl', b', rfl, rfl, rfl, e'⟩
            exact ⟨s.length - (pl + 1), by omega, pl + 1, b', rfl, rfl, rfl, e'⟩
          · refine ⟨_, rfl, _, rfl, _, rfl, _, _, s[pl], rfl, rfl, hsl, atI_nat (by rw [S_tl]; exact List.getElem?_eq_getElem h2'), _, rfl, s[pl], b, rfl, _, _, rfl, rfl, ?_⟩
            refine ⟨_, rfl, _, _, rfl, rfl, pl + 1, b + ww s[pl] b, ?_, rfl, rfl, ?_⟩
            · rw [Int.natCast_add, Int.natCast_add]
              rfl
            · rw [hd] at e
              have e2 : tk (s[pl] :: s.drop (pl + 1)) b (c + k) pl = tk (s.drop (pl + 1)) (b + ww s[pl] b) (c + k) (pl + 1) := by
                conv => lhs; unfold tk
                rw [if_pos ⟨h1', h3⟩]
              rw [← e2]
              exact e
        · exact fin pl b e (by rw [hd]; unfold tk; rw [if_neg (fun z => h3 z.2)]) _ rfl
      · have h2' : s.length ≤ pl := by
          have : ¬ ((pl : Int) < ((S s).length : Int)) := fun z => h2 (decide_eq_true z)
          rw [S_len] at this
          omega
        refine iteF ?_
        exact fin pl b e (by rw [List.drop_of_length_le h2']; rfl) _ rfl
    · have h1' : ¬ b < c + k := by
        have : ¬ ((b : Int) < (c : Int) + (k : Int)) := fun z => h1 (decide_eq_true z)
        omega
      refine iteF ?_
      exact fin pl b e (tk_stop h1') _ rfl

/-! ### lines -/
def joinN : List (List Nat) → List Nat := TL.joinL [10]
def linesOf (init : List (List Nat)) (last : List Nat) : List (List Nat) := if last = [] then init else init ++ [last]
theorem join_S (parts : List (List Nat)) : Txt.join (S [10]) (parts.map S) = S (joinN parts) := by
  rw [TL.join_eq]
  have e := TL.tl_join (S [10]) (parts.map S)
  have e2 : (parts.map S).map TL.tl = parts := by
    rw [List.map_map]
    conv => rhs; rw [← List.map_id parts]
    exact List.map_congr_left fun l _ => S_tl l
  rw [e2] at e
  have e3 : TL.tl (S [10]) = [10] := S_tl _
  rw [e3] at e
  rw [S_of (Str.join (S [10]) (parts.map S))]
  exact congrArg S e
theorem split_S {parts : List (List Nat)} (hne : parts ≠ []) (hp : ∀ p ∈ parts, 10 ∉ p) : Txt.split (S (joinN parts)) (S [10]) = parts.map S := by
  rw [← join_S]
  refine TL.split_join (s := 10) (S := []) (S_tl _) (by decide +kernel) (fun e => hne (List.map_eq_nil_iff.mp e)) fun p h => ?_
  obtain ⟨q, hq, rfl⟩ := List.mem_map.mp h
  show 10 ∉ (S q).cps.toList
  rw [S_tl]
  exact hp q hq
def sp_lines_of (K : PySem.W.Frag) : Sp := fun vs H Q _ => ∃ (init : List (List Nat)) (last : List Nat), vs = [.str (S (joinN (init ++ [last])))] ∧ (∀ p ∈ init ++ [last], 10 ∉ p) ∧ (joinN (init ++ [last])).length ≤ 1000000 ∧
  ∀ p H', H p = none → Same H H' → H' p = some (.lst ((linesOf init last).map fun l => V.str (S l))) → Q (.ref p) H'
theorem ok_lines_of {P : Program} {w : World} {K : PySem.W.Frag} {mg : Str → Option Value} {base : Heap} (T : Txt K mg) : FnOk P w K mg base CX0 1 T.a_lines_of T.d_lines_of ["text"] (sp_lines_of K) := by
  refine T.f_lines_of.ok sc_lines_of (fun vs H Q E h => ?_) (fun cdv A outer s H vs Q E hr h => ?_)
  · obtain ⟨init, last, rfl, _⟩ := h
    rfl
  · obtain ⟨init, last, rfl, hp, hl, q⟩ := h
    refine ⟨_, (pss_cons (ps_set (i := 1) sc_lines_of.nd rfl (.inl rfl) (pe_split (pv 0) pe_str))
        (pss_cons (ps_if (pt_cmpR op_eq (pe_ix ix_list (pv 1) (pe_un un_neg pe_int) (fun _ _ => rfl)) pe_str (nomark _)) (pss_one (ps_delL (pv 1) (pe_un un_neg pe_int))) pss_nil)
        (pss_one (ps_ret (pv 1))))), ?_⟩
    refine ⟨_, rfl, ⟨_, rfl⟩, _, _, rfl, rfl, by decide +kernel, ?_, fun p np => ?_⟩
    · rw [S_len, sizeLine_eq]
      omega
    rw [lit_nl, split_S (by simp) hp]
    have e1 : ((init ++ [last]).map S).map V.str = (init.map fun l => V.str (S l)) ++ [V.str (S last)] := by simp
    rw [e1]
    refine ⟨_, rfl, _, rfl, p, _, _, _, rfl, rfl, SqL.of upd_same, atI_last _ _, rfl, _, rfl, ?_⟩
    rw [lit_e, S_dec]
    refine ite2 (fun h => ?_) (fun h => ?_)
    · have hl0 : last = [] := of_decide_eq_true h
      refine ⟨_, rfl, _, rfl, p, _, _, init.length, rfl, rfl, upd_same, by decide, by decide, ?_, ?_⟩
      · unfold seqIndex?
        simp
        omega
      · have e2 : ((init.map fun l => V.str (S l)) ++ [V.str (S last)]).eraseIdx init.length = init.map fun l => V.str (S l) := by
          rw [List.eraseIdx_append_of_length_le (by simp)]
          simp
        rw [e2, upd_upd]
        refine ⟨_, rfl, q p _ np (same_new np) ?_⟩
        rw [upd_same]
        unfold linesOf
        rw [if_pos hl0]
    · have hl0 : ¬ last = [] := fun z => h (decide_eq_true z)
      refine ⟨_, rfl, q p _ np (same_new np) ?_⟩
      rw [upd_same]
      unfold linesOf
      rw [if_neg hl0]
      simp
/-! ### a drawn line -/
def Menu : List (List Nat) := [[9], [32], [32, 32], [97], [98, 32, 9], [9, 9], [120], [32, 32, 32], [45, 32]]
theorem menu_lit : [V.str ("\t" : Str), .str (" " : Str), .str ("  " : Str), .str ("a" : Str), .str ("b \t" : Str), .str ("\t\t" : Str), .str ("x" : Str), .str ("   " : Str), .str ("- " : Str)] = Menu.map fun l => V.str (S l) := by
  decide +kernel
def Line (s : List Nat) : Prop := s.length ≤ 1000 ∧ Sm s ∧ 10 ∉ s
theorem mem_menu {v : V} (h : v ∈ Menu.map fun l => V.str (S l)) : ∃ l ∈ Menu, v = .str (S l) := by
  obtain ⟨l, hl, rfl⟩ := List.mem_map.mp h
  exact ⟨l, hl, rfl⟩
theorem menu_ok : ∀ l ∈ Menu, l.length ≤ 3 ∧ (∀ c ∈ l, c < 128 ∧ c ≠ 10) := by decide
theorem join_nil (ls : List (List Nat)) : Txt.join (S []) (ls.map S) = S ls.flatten := by
  rw [TL.join_eq]
  have e := TL.tl_join (S []) (ls.map S)
  have e2 : (ls.map S).map TL.tl = ls := by
    rw [List.map_map]
    conv => rhs; rw [← List.map_id ls]
    exact List.map_congr_left fun l _ => S_tl l
  rw [e2] at e
  have e3 : TL.tl (S []) = [] := S_tl _
  rw [e3] at e
  have e4 : ∀ ls : List (List Nat), TL.joinL [] ls = ls.flatten := by
    intro ls
    induction ls with
    | nil => rfl
    | cons a r ih =>
      cases r with
      | nil => simp [TL.joinL]
      | cons b r => 
        show a ++ ([] ++ TL.joinL [] (b :: r)) = _
        rw [ih]
        simp
  rw [e4] at e
  rw [S_of (Str.join (S []) (ls.map S))]
  exact congrArg S e
theorem flat_len : ∀ {ls : List (List Nat)} {k : Nat}, (∀ l ∈ ls, l.length ≤ k) → ls.flatten.length ≤ k * ls.length
  | [], k, _ => by simp
  | a :: r, k, h => by
    have ih := flat_len (ls := r) (k := k) fun l hl => h l (List.mem_cons_of_mem _ hl)
    have ha := h a (List.mem_cons_self ..)
    rw [List.flatten_cons, List.length_append, List.length_cons, Nat.mul_succ]
    omega
def sp__law_line (K : PySem.W.Frag) : Sp := fun vs H Q _ => ∃ L : Addr, vs = [.ref L] ∧ Well H L ∧ ∀ H' s, Keeps L H H' → Well H' L → Line s → Q (.str (S s)) H'
theorem ok__law_line {P : Program} {w : World} {K : PySem.W.Frag} {mg : Str → Option Value} {base : Heap} (T : Txt K mg) : FnOk P w K mg base CX0 3 T.a__law_line T.d__law_line ["_law_well_here"] (sp__law_line K) := by
  refine T.f__law_line.ok sc__law_line (fun vs H Q E h => ?_) (fun cdv A outer s H vs Q E hr h => ?_)
  · obtain ⟨L, rfl, _⟩ := h
    rfl
  · obtain ⟨L, rfl, hW, q⟩ := h
    refine ⟨_, (pss_cons (ps_set (i := 1) sc__law_line.nd rfl (.inr rfl) (pe_lst (pa_cons pe_str (pa_cons pe_str (pa_cons pe_str (pa_cons pe_str (pa_cons pe_str (pa_cons pe_str (pa_cons pe_str (pa_cons pe_str (pa_cons pe_str pa_nil)))))))))))
        (pss_one (ps_ret (pe_join pe_str (pe_lc (own := [("_law_k", 2)]) (g := (gName 2)) (tt := tYes) (by rfl) sc__law_line.nd (pi_range1 (by rfl) T.z_range (pa_cons (pe_call (ok__law_draw T) (hr.mono (by decide)) (by rfl) T.g__law_draw T.f__law_draw.kp T.b__law_draw .nil pass0 (pa_cons (pv 0) (pa_cons pe_int pa_nil))) pa_nil)) (blkOk_by (own := [("_law_k", 2)]) (N := ["_law_well_here", "_law_some", "_law_k"]) (sc := defScope s__law_line) (by decide +kernel)) (fun _ _ _ _ _ => (pg_name (i := 2) sc__law_line.nd rfl (Or.inl rfl))) (fun _ _ _ _ _ => pts_nil) (fun _ _ _ _ _ => (pe_call (ok__law_one T) (hr.mono (by decide)) (by rfl) T.g__law_one T.f__law_one.kp T.b__law_one .nil pass0 (pa_cons (pv 0) (pa_cons (pv 1) pa_nil))))))))), ?_⟩
    refine ⟨by show 9 ≤ sizeLine; decide, fun m nm => ?_⟩
    rw [menu_lit]
    have hm : (upd H m (.lst (Menu.map fun l => V.str (S l)))) m = some (.lst (Menu.map fun l => V.str (S l))) := upd_same
    have k1 : Keeps L H (upd H m (.lst (Menu.map fun l => V.str (S l)))) := .new nm
    have w1 : Well (upd H m (.lst (Menu.map fun l => V.str (S l)))) L := hW.new nm
    have nmL : m ≠ L := hW.ne nm
    generalize upd H m (.lst (Menu.map fun l => V.str (S l))) = H1 at hm k1 w1 ⊢
    refine ⟨⟨_, rfl⟩, _, rfl, L, 8, rfl, by decide, by decide, w1, fun H2 d k2 w2 h0 h8 => ?_⟩
    refine ⟨d, rfl, by omega, by omega, fun D nD => ?_⟩
    refine lc_range (lo := 0) (n := d.toNat) (fun i H' => Keeps L H H' ∧ Well H' L ∧ H' m = some (.lst (Menu.map fun l => V.str (S l))) ∧ ∃ ls : List (List Nat), H' D = some (.lst (ls.map fun l => V.str (S l))) ∧ ls.length = i ∧ ∀ l ∈ ls, l ∈ Menu) ?_ ?_ ?_
    · have nDm : m ≠ D := ne_of_none (k2 _ _ nmL hm) nD
      exact ⟨(k1.trans k2).trans (.new nD), w2.new nD, by rw [upd_ne nDm]; exact k2 _ _ nmL hm, [], upd_same, rfl, by simp⟩
    · rintro i H' hi ⟨kH, wH, hm', ls, hD, hlen, hls⟩
      refine ⟨rfl, _, rfl, _, rfl, L, m, _, rfl, SqL.of hm', nmL, by decide, by decide, wH, fun H'' v k w hv => ?_⟩
      obtain ⟨l, hl, rfl⟩ := mem_menu hv
      have nDL : D ≠ L := w2.ne nD
      refine ⟨_, k _ _ nDL hD, ?_, ?_⟩
      · rw [List.length_map, hlen, sizeLine_eq]
        omega
      · have nDm : m ≠ D := ne_of_none (k2 _ _ nmL hm) nD
        refine ⟨fun b o hb e => ?_, ?_, ?_, ls ++ [l], ?_, ?_, ?_⟩
        · have hbD : b ≠ D := by
            have : H1 D = none := k2.free nD nDL
            exact ne_of_none (k1 b o hb e) this
          rw [upd_ne hbD]
          exact k _ _ hb (kH _ _ hb e)
        · obtain ⟨x, y, e⟩ := w
          exact ⟨x, y, by rw [upd_ne nDL.symm]; exact e⟩
        · rw [upd_ne nDm]
          exact k _ _ nmL hm'
        · rw [upd_same]
          simp
        · simp [hlen]
        · intro z hz
          rcases List.mem_append.mp hz with z1 | z1
          · exact hls z z1
          · rw [List.mem_singleton.mp z1]
            exact hl
    · rintro H' ⟨kH, wH, hm', ls, hD, hlen, hls⟩
      have e1 : (ls.map fun l => V.str (S l)) = (ls.map S).map V.str := by simp
      have hle : ls.flatten.length ≤ 21 := by
        have := flat_len (ls := ls) (k := 3) fun l hl => (menu_ok l (hls l hl)).1
        omega
      have hchars : ∀ c ∈ ls.flatten, c < 128 ∧ c ≠ 10 := fun c hc => by
        obtain ⟨l, hl, hcl⟩ := List.mem_flatten.mp hc
        exact (menu_ok l (hls l hl)).2 c hcl
      refine ⟨_, D, ls.map S, rfl, rfl, .inl (SqL.of (by rw [← e1]; exact hD)), ?_, ?_⟩
      · have := sum_le (ls := ls) (k := 3) fun l hl => (menu_ok l (hls l hl)).1
        have e0 : (("" : Str)).length = 0 := by decide +kernel
        rw [e0]
        omega
      · rw [lit_e, join_nil]
        exact q H' _ kH wH ⟨by omega, fun c hc => by have := hchars c hc; omega, fun h10 => (hchars 10 h10).2 rfl⟩
/-! ### the table -/
def Rep (H : Hp) (f : Addr) (ps : List (Nat × Nat)) : Prop := ∃ rs : List Addr, H f = some (.lst (rs.map V.ref)) ∧ rs.length = ps.length ∧
  ∀ (i : Nat) (p : Nat × Nat), ps[i]? = some p → ∃ r, rs[i]? = some r ∧ H r = some (.tup [.int (p.1 : Nat), .int (p.2 : Nat)])
theorem Rep.same {H H' : Hp} {f : Addr} {ps : List (Nat × Nat)} (h : Rep H f ps) (s : Same H H') : Rep H' f ps := by
  obtain ⟨rs, e, l, t⟩ := h
  exact ⟨rs, s _ _ e, l, fun i p hp => let ⟨r, h1, h2⟩ := t i p hp; ⟨r, h1, s _ _ h2⟩⟩
theorem Rep.push {H : Hp} {f p : Addr} {ps : List (Nat × Nat)} {a b : Nat} {rs : List Addr} (e : H f = some (.lst (rs.map V.ref))) (l : rs.length = ps.length)
    (t : ∀ (i : Nat) (p : Nat × Nat), ps[i]? = some p → ∃ r, rs[i]? = some r ∧ H r = some (.tup [.int (p.1 : Nat), .int (p.2 : Nat)])) (hp : H p = none) :
    Rep (upd (upd H p (.tup [.int (a : Nat), .int (b : Nat)])) f (.lst (rs.map V.ref ++ [.ref p]))) f (ps ++ [(a, b)]) := by
  have npf : p ≠ f := (ne_of_none e hp).symm
  refine ⟨rs ++ [p], by rw [upd_same, List.map_append]; rfl, by simp [l], fun i q hq => ?_⟩
  by_cases hi : i < ps.length
  · rw [List.getElem?_append_left hi] at hq
    obtain ⟨r, h1, h2⟩ := t i q hq
    have nrf : r ≠ f := ne_of h2 e (by intro z; cases z)
    exact ⟨r, by rw [List.getElem?_append_left (by omega)]; exact h1, by rw [upd_ne nrf, upd_ne (ne_of_none h2 hp)]; exact h2⟩
  · rw [List.getElem?_append_right (by omega)] at hq
    have hi0 : i - ps.length = 0 := by
      have := (List.getElem?_eq_some_iff.mp hq).1
      simp at this
      omega
    rw [hi0] at hq
    have eq : (a, b) = q := Option.some.inj hq
    subst eq
    refine ⟨p, ?_, by rw [upd_ne npf, upd_same]⟩
    rw [List.getElem?_append_right (by omega), l, hi0]
    rfl
def sp__law_blanks (K : PySem.W.Frag) : Sp := fun vs H Q _ => ∃ (s : List Nat) (col : Nat), vs = [.str (S s), .int (col : Int)] ∧ s.length ≤ 1000 ∧ ∀ f H', H f = none → Same H H' → Rep H' f (blanks 0 col s) → Q (.ref f) H'
theorem ok__law_blanks {P : Program} {w : World} {K : PySem.W.Frag} {mg : Str → Option Value} {base : Heap} (T : Txt K mg) : FnOk P w K mg base CX0 1 T.a__law_blanks T.d__law_blanks ["_law_line_here", "_law_column"] (sp__law_blanks K) := by
  refine T.f__law_blanks.ok sc__law_blanks (fun vs H Q E h => ?_) (fun cdv A outer s H vs Q E hr h => ?_)
  · obtain ⟨s, col, rfl, _⟩ := h
    rfl
  · obtain ⟨s, col, rfl, hs, q⟩ := h
    refine ⟨_, (pss_cons (ps_set (i := 2) sc__law_blanks.nd rfl (.inl rfl) (pe_lst pa_nil))
        (pss_cons (ps_for PassesOwn.never rfl (pi_enumS (by rfl) T.z_enumerate (pa_cons (pv 0) pa_nil)) (pg_tup (by rfl) (pgs_cons (pg_name (i := 3) sc__law_blanks.nd rfl (.inl rfl)) (pgs_cons (pg_name (i := 4) sc__law_blanks.nd rfl (.inl rfl)) pgs_nil))) (pss_cons (ps_if (pt_cmpR op_notIn_sign (pv 4) pe_str (by rfl)) (pss_one (ps_ret (pv 2))) pss_nil)
        (pss_cons (ps_set (i := 5) sc__law_blanks.nd rfl (.inl rfl) (pe_ifExp (pt_cmpR op_eq (pv 4) pe_str (nomark _)) (pe_op op_sub pe_int (pe_op op_mod (pe_callTy call_int1 (by rfl) T.z_int (by decide +kernel) (pa_cons (pv 1) pa_nil)) pe_int)) pe_int))
        (pss_cons (ps_for PassesOwn.never rfl (pi_range3 (by rfl) T.z_range (pa_cons (pe_op op_sub (pv 5) pe_int) (pa_cons (pe_un un_neg pe_int) (pa_cons (pe_un un_neg pe_int) pa_nil)))) (pg_name (i := 6) sc__law_blanks.nd rfl (.inl rfl)) (pss_one (ps_expr (pe_bm PySem.F.plainAttrs_list PySem.F.slot_list_append PySem.F.type_list_append mt_append (pv 2) (pa_cons (pe_tup (pa_cons (pv 3) (pa_cons (pv 6) pa_nil))) pa_nil)))))
        (pss_one (ps_set (i := 1) sc__law_blanks.nd rfl (.inl rfl) (pe_op op_add (pv 1) (pv 5))))))))
        (pss_one (ps_ret (pv 2))))), ?_⟩
    refine ⟨by show 0 ≤ sizeLine; decide, fun f nf => ?_⟩
    refine ⟨_, rfl, _, rfl, for_it walk_enumS (fun i σ H' => ∃ (v3 v4 v5 v6 : Option V) (col' : Nat) (ps : List (Nat × Nat)), σ = [some (.str (S s)), some (.int (col' : Int)), some (.ref f), v3, v4, v5, v6] ∧ Same H H' ∧ Rep H' f ps ∧ ps.length ≤ 4 * i ∧
      ps ++ blanks i col' (s.drop i) = blanks 0 col s) ?_ (fun _ _ _ _ _ => trivial) ?_ ?_⟩
    · exact ⟨none, none, none, none, col, [], rfl, same_new nf, ⟨[], upd_same, rfl, fun i p hp => by simp at hp⟩, by simp, rfl⟩
    · rintro i x σ H' H'' hi ⟨v3, v4, v5, v6, col', ps, rfl, sm, rep, hl, e⟩ ⟨U, c, rfl, nU, rfl, hc⟩
      rw [S_get] at hc
      have hd : s.drop i = c :: s.drop (i + 1) := by
        obtain ⟨hl, e2⟩ := List.getElem?_eq_some_iff.mp hc
        rw [List.drop_eq_getElem_cons hl, e2]
      have rep1 := rep.same (same_new (o := .tup [.int (i : Nat), .str (S [c])]) nU)
      have sm1 : Same H (upd H' U (.tup [.int (i : Nat), .str (S [c])])) := sm.trans (same_new nU)
      refine ⟨U, _, rfl, SqT.of upd_same, rfl, _, _, rfl, _, _, rfl, rfl, ?_⟩
      generalize upd H' U (.tup [.int (i : Nat), .str (S [c])]) = H1 at rep1 sm1 ⊢
      refine ⟨_, rfl, c, _, rfl, rfl, _, rfl, ?_⟩
      rw [in_white]
      refine ite2 (fun hw => ?_) (fun hw => ?_)
      · have hw' : ¬ isW c = true := by simpa using hw
        have e2 : blanks i col' (c :: s.drop (i + 1)) = [] := by
          unfold blanks
          rw [if_neg hw']
        rw [hd, e2, List.append_nil] at e
        rw [e] at rep1
        exact ⟨_, rfl, q f H1 nf sm1 rep1⟩
      · have hw' : isW c = true := by simpa using hw
        have e2 : blanks i col' (c :: s.drop (i + 1)) = ((List.range (ww c col')).reverse.map fun l => (i, l)) ++ blanks (i + 1) (col' + ww c col') (s.drop (i + 1)) := by
          conv => lhs; unfold blanks
          rw [if_pos hw']
        rw [hd, e2] at e
        have ee : decide (V.str (S [c]) = V.str ("\t" : Str)) = decide (c = 9) := by
          rw [lit_tab, S_dec]
          simp
        refine go_nx ?_
        dsimp only
        refine asg_if (fun v H' => v = .int (ww c col' : Nat) ∧ H' = H1) (decide (c = 9)) (fun Q q => ⟨_, rfl, rfl, _, rfl, by rw [ee]; exact q⟩) (fun hb Q q => ?_) (fun hb Q q => ?_) ?_
        · have h9 : c = 9 := of_decide_eq_true hb
          refine ⟨_, rfl, .inl ⟨_, rfl, _, _, rfl, rfl, (by show (0 : Int) < 4; decide), _, _, rfl, rfl, q _ _ ⟨?_, rfl⟩⟩⟩
          have ew : ((ww c col' : Nat) : Int) = 4 - (col' : Int) % 4 := by
            unfold ww
            rw [if_pos h9]
            omega
          rw [ew]
        · have h9 : ¬ c = 9 := of_decide_eq_false hb
          refine q _ _ ⟨?_, rfl⟩
          have ew : ((ww c col' : Nat) : Int) = 1 := by
            unfold ww
            rw [if_neg h9]
            rfl
          rw [ew]
        rintro v H' ⟨rfl, rfl⟩
        have hw4 := ww_le c col'
        have hw0 := ww_pos c col'
        refine ⟨_, rfl, _, _, rfl, rfl, _, rfl, _, rfl, _, _, _, _, rfl, RgC.neg (by omega) (by omega) (by decide) (by decide), ?_⟩
        have en : (((ww c col' : Nat) : Int) - 1 - -1).toNat = ww c col' := by omega
        rw [en]
        obtain ⟨hi1, _⟩ := List.getElem?_eq_some_iff.mp hc
        refine for_rangeC (lo := ((ww c col' : Nat) : Int) - 1) (c := -1) (n := ww c col') (fun k σ H2 => ∃ v6 : Option V, σ = [some (.str (S s)), some (.int (col' : Int)), some (.ref f), some (.int (i : Nat)), some (.str (S [c])), some (.int (ww c col' : Nat)), v6] ∧ Same H H2 ∧
          Rep H2 f (ps ++ (((List.range (ww c col')).reverse.map fun l => (i, l)).take k))) ?_ ?_ ?_
        · exact ⟨v6, rfl, sm1, by rw [List.take_zero, List.append_nil]; exact rep1⟩
        · rintro k σ H2 hk ⟨v6, rfl, sm2, rs, e3, l3, t3⟩
          have el : ((ww c col' : Nat) : Int) - 1 + (k : Nat) * -1 = ((ww c col' - 1 - k : Nat) : Int) := by omega
          rw [el]
          refine ⟨_, rfl, .inl ⟨rfl, _, SqL.of e3⟩, _, rfl, _, rfl, (by show 2 ≤ sizeLine; decide), fun p np => ?_⟩
          have npf : f ≠ p := ne_of_none e3 np
          refine ⟨f, _, _, rfl, rfl, by rw [upd_ne npf]; exact e3, ?_, _, rfl, ?_, ?_⟩
          · have h1 : (ps ++ (((List.range (ww c col')).reverse.map fun l => (i, l)).take k)).length ≤ 4 * i + k := by
              rw [List.length_append, List.length_take]
              omega
            rw [List.length_map, l3, sizeLine_eq]
            omega
          · intro b o hb
            have hbf : b ≠ f := ne_of_none hb nf
            rw [upd_ne hbf, upd_ne (ne_of_none (sm2 _ _ hb) np)]
            exact sm2 _ _ hb
          · have h2 := Rep.push (a := i) (b := ww c col' - 1 - k) e3 l3 t3 np
            rw [List.append_assoc] at h2
            have h3 : (((List.range (ww c col')).reverse.map fun l => (i, l)).take k) ++ [(i, ww c col' - 1 - k)] = ((List.range (ww c col')).reverse.map fun l => (i, l)).take (k + 1) := by
              rw [List.take_add_one]
              congr 1
              rw [List.getElem?_map, List.getElem?_reverse (by rw [List.length_range]; omega), List.length_range, List.getElem?_range (by omega)]
              rfl
            rw [h3] at h2
            exact h2
        · rintro σ H2 ⟨v6, rfl, sm2, rep2⟩
          rw [List.take_of_length_le (by simp)] at rep2
          refine ⟨_, rfl, _, rfl, _, _, rfl, rfl, _, _, _, _, col' + ww c col', _, by rw [Int.natCast_add]; rfl, sm2, rep2, ?_, ?_⟩
          · rw [List.length_append, List.length_map, List.length_reverse, List.length_range]
            omega
          · rw [List.append_assoc]
            exact e
    · rintro σ H' ⟨v3, v4, v5, v6, col', ps, rfl, sm, rep, hl, e⟩
      rw [S_size, List.drop_length] at e
      have e' : ps = blanks 0 col s := by
        rw [← e]
        simp [blanks]
      rw [e'] at rep
      exact ⟨_, rfl, q f H' nf sm rep⟩

/-! ### the law -/
theorem ref_ne {H : Hp} {f L : Addr} {rs : List Addr} (h : H f = some (.lst (rs.map V.ref))) (w : Well H L) : f ≠ L := by
  obtain ⟨x, y, e⟩ := w
  refine ne_of h e fun z => ?_
  have z1 := HO.lst.inj z
  cases rs with
  | nil => cases z1
  | cons r rs => cases z1
theorem tup_ne {H : Hp} {f L : Addr} {xs : List V} (h : H f = some (.tup xs)) (w : Well H L) : f ≠ L := by
  obtain ⟨x, y, e⟩ := w
  exact ne_of h e fun z => by cases z
theorem Rep.keep {H H' : Hp} {f L : Addr} {ps : List (Nat × Nat)} (h : Rep H f ps) (w : Well H L) (k : Keeps L H H') : Rep H' f ps := by
  obtain ⟨rs, e, l, t⟩ := h
  refine ⟨rs, k _ _ (ref_ne e w) e, l, fun i p hp => ?_⟩
  obtain ⟨r, h1, h2⟩ := t i p hp
  exact ⟨r, h1, k _ _ (tup_ne h2 w) h2⟩
theorem blanks_le : ∀ (s : List Nat) (a c : Nat), (blanks a c s).length ≤ 4 * s.length
  | [], _, _ => by simp [blanks]
  | x :: r, a, c => by
    unfold blanks
    split
    · have ih := blanks_le r (a + 1) (c + ww x c)
      have := ww_le x c
      rw [List.length_append, List.length_map, List.length_reverse, List.length_range, List.length_cons]
      omega
    · simp
/-- the entry of the table, or (-1, 0): the place behind, the columns held -/
def Entry (H : Hp) (s rest : List Nat) (held : Nat) : V → Hp → Prop := fun v H' => ∃ (r : Addr) (a : Nat), v = .ref r ∧ Same H H' ∧ H' r = some (.tup [.int ((a : Nat) - 1 : Int), .int (held : Nat)]) ∧ s.drop a = rest
theorem entry_of {H : Hp} {s : List Nat} {t : Addr} {rs : List Addr} {col g : Nat} (e : H t = some (.lst (rs.map V.ref))) (l : rs.length = (blanks 0 col s).length)
    (tt : ∀ (i : Nat) (p : Nat × Nat), (blanks 0 col s)[i]? = some p → ∃ r, rs[i]? = some r ∧ H r = some (.tup [.int (p.1 : Nat), .int (p.2 : Nat)])) (h0 : 0 < g) (hg : g ≤ (blanks 0 col s).length) :
    ∃ r, (rs.map V.ref)[g - 1]? = some (.ref r) ∧ Entry H s (restAt col g s).1 (restAt col g s).2 (.ref r) H := by
  obtain ⟨p, h1, h2⟩ := table_rest s [] col g h0 hg
  obtain ⟨r, h3, h4⟩ := tt _ _ h1
  refine ⟨r, by rw [List.getElem?_map, h3]; rfl, r, p + 1, rfl, Same.refl _, ?_, h2.symm⟩
  have e1 : ((p + 1 : Nat) : Int) - 1 = (p : Int) := by omega
  rw [e1]
  exact h4
theorem restAt_sm {s : List Nat} (h : Sm s) : ∀ (s' : List Nat) (col g : Nat), (∀ c ∈ s', c ∈ s) → Sm (restAt col g s').1
  | [], col, g, _ => fun c hc => by simp [restAt] at hc
  | x :: r, col, g, hs => by
    unfold restAt
    split
    · exact fun c hc => h c (hs c hc)
    · split
      · split
        · exact fun c hc => h c (hs c (List.mem_cons_of_mem _ hc))
        · exact restAt_sm h r _ _ fun c hc => hs c (List.mem_cons_of_mem _ hc)
      · exact fun c hc => h c (hs c hc)
theorem restAt_len : ∀ (s : List Nat) (col g : Nat), (restAt col g s).1.length ≤ s.length ∧ (restAt col g s).2 ≤ 4
  | [], col, g => by simp [restAt]
  | x :: r, col, g => by
    unfold restAt
    split
    · simp
    · split
      · split
        · have := ww_le x col
          simp
          omega
        · have := restAt_len r (col + ww x col) (g - ww x col)
          simp only [List.length_cons]
          omega
      · simp
/-- the rest behind g columns stands at r -/
def RestAt (H : Hp) (r : Addr) (s : List Nat) (col g : Nat) : Prop := H r = some (.tup [.str (S (restAt col g s).1), .int ((col + g : Nat) : Int), .int ((restAt col g s).2 : Nat)])
def sp__law_walk_right (K : PySem.W.Frag) : Sp := fun vs H Q _ => ∃ (L : Addr) (s : List Nat), vs = [.ref L, .str (S s)] ∧ Well H L ∧ Line s ∧ ∀ H', Keeps L H H' → Well H' L → Q (.bl true) H'
theorem ok__law_walk_right {P : Program} {w : World} {K : PySem.W.Frag} {mg : Str → Option Value} {base : Heap} (T : Txt K mg) : FnOk P w K mg base CX0 3 T.a__law_walk_right T.d__law_walk_right ["_law_well_here", "_law_line_here"] (sp__law_walk_right K) := by
  refine T.f__law_walk_right.ok sc__law_walk_right (fun vs H Q E h => ?_) (fun cdv A outer s H vs Q E hr h => ?_)
  · obtain ⟨L, s, rfl, _⟩ := h
    rfl
  · obtain ⟨L, s, rfl, hW, ⟨hs, hsm, h10⟩, q⟩ := h
    refine ⟨_, (pss_cons (ps_set (i := 2) sc__law_walk_right.nd rfl (.inl rfl) (pe_call (ok__law_blanks T) (hr.mono (by decide)) (by rfl) T.g__law_blanks T.f__law_blanks.kp T.b__law_blanks .nil pass0 (pa_cons (pv 1) (pa_cons pe_int pa_nil))))
        (pss_cons (ps_set (i := 3) sc__law_walk_right.nd rfl (.inl rfl) (pe_call (ok_whole T) (hr.mono (by decide)) (by rfl) T.g_whole T.f_whole.kp T.b_whole .nil pass0 (pa_cons (pv 1) pa_nil)))
        (pss_cons (ps_if (pt_cmpR (op_neD hr.units) (pv 3) (pe_tup (pa_cons (pv 1) (pa_cons pe_int (pa_cons pe_int pa_nil)))) (nomark _)) (pss_one (ps_ret pe_bl)) pss_nil)
        (pss_cons (ps_set (i := 4) sc__law_walk_right.nd rfl (.inl rfl) pe_int)
        (pss_cons (ps_for PassesOwn.never rfl (pi_range1 (by rfl) T.z_range (pa_cons pe_int pa_nil)) (pg_name (i := 5) sc__law_walk_right.nd rfl (.inl rfl)) (pss_cons (ps_if (PW.pt (pw_or (pt_cmpR op_ne (pe_call (ok_indent T) (hr.mono (by decide)) (by rfl) T.g_indent T.f_indent.kp T.b_indent .nil pass0 (pa_cons (pv 3) pa_nil)) (pe_op op_sub (pe_callB call_len_seq (by rfl) T.z_len PySem.boot_len (pa_cons (pv 2) pa_nil)) (pv 4)) (nomark _)) (pw_or1 (pt_cmpR (op_neD hr.units) (pe_call (ok_taken T) (hr.mono (by decide)) (by rfl) T.g_taken T.f_taken.kp T.b_taken .nil pass0 (pa_cons (pv 3) (pa_cons pe_int pa_nil))) (pv 3) (nomark _))))) (pss_one (ps_ret pe_bl)) pss_nil)
        (pss_cons (ps_set (i := 6) sc__law_walk_right.nd rfl (.inl rfl) (pe_call (ok__law_draw T) (hr.mono (by decide)) (by rfl) T.g__law_draw T.f__law_draw.kp T.b__law_draw .nil pass0 (pa_cons (pv 0) (pa_cons (pe_op op_add (pe_op op_sub (pe_callB call_len_seq (by rfl) T.z_len PySem.boot_len (pa_cons (pv 2) pa_nil)) (pv 4)) pe_int) pa_nil))))
        (pss_cons (ps_set (i := 3) sc__law_walk_right.nd rfl (.inl rfl) (pe_call (ok_taken T) (hr.mono (by decide)) (by rfl) T.g_taken T.f_taken.kp T.b_taken .nil pass0 (pa_cons (pv 3) (pa_cons (pv 6) pa_nil))))
        (pss_cons (ps_set (i := 4) sc__law_walk_right.nd rfl (.inl rfl) (pe_op op_add (pv 4) (pv 6)))
        (pss_cons (ps_asg (pe_ifExp (pt_cmpR op_gt (pv 4) pe_int (nomark _)) (pe_ix ix_list (pv 2) (pe_op op_sub (pv 4) pe_int) (fun _ _ => rfl)) (pe_tup (pa_cons (pe_un un_neg pe_int) (pa_cons pe_int pa_nil)))) (pg_tup (by rfl) (pgs_cons (pg_name (i := 7) sc__law_walk_right.nd rfl (.inl rfl)) (pgs_cons (pg_name (i := 8) sc__law_walk_right.nd rfl (.inl rfl)) pgs_nil))))
        (pss_one (ps_if (PW.pt (pw_or (pt_cmpR (op_neD hr.units) (pv 3) (pe_tup (pa_cons (pe_slice sl_str (pv 1) (po_some (pe_op op_add (pv 7) pe_int)) po_none) (pa_cons (pv 4) (pa_cons (pv 8) pa_nil)))) (nomark _)) (pw_or1 (pt_cmpR op_ne (pe_call (ok_told T) (hr.mono (by decide)) (by rfl) T.g_told T.f_told.kp T.b_told .nil pass0 (pa_cons (pv 3) pa_nil)) (pe_op op_add_str (pe_op op_mul_str pe_str (pv 8)) (pe_slice sl_str (pv 1) (po_some (pe_op op_add (pv 7) pe_int)) po_none)) (nomark _))))) (pss_one (ps_ret pe_bl)) pss_nil))))))))
        (pss_one (ps_ret pe_bl))))))), ?_⟩
    refine ⟨_, rfl, s, 0, rfl, hs, fun t H1 nt sm1 rep1 => ?_⟩
    have w1 : Well H1 L := hW.same sm1
    have k1 : Keeps L H H1 := .of sm1
    refine ⟨_, rfl, _, rfl, fun r nr => ?_⟩
    have rep2 := rep1.same (same_new (o := .tup [.str (S s), .int 0, .int 0]) nr)
    have w2 : Well (upd H1 r (.tup [.str (S s), .int 0, .int 0])) L := w1.new nr
    have k2 : Keeps L H (upd H1 r (.tup [.str (S s), .int 0, .int 0])) := k1.trans (.new nr)
    have hr2 : (upd H1 r (.tup [.str (S s), .int 0, .int 0])) r = some (.tup [.str (S s), .int 0, .int 0]) := upd_same
    generalize upd H1 r (.tup [.str (S s), .int 0, .int 0]) = H2 at rep2 w2 k2 hr2 ⊢
    refine ⟨_, rfl, _, rfl, (by show 3 ≤ sizeLine; decide), fun p np => ?_⟩
    have hr3 : (upd H2 p (.tup [.str (S s), .int 0, .int 0])) r = some (.tup [.str (S s), .int 0, .int 0]) := by rw [upd_ne (ne_of_none hr2 np)]; exact hr2
    have rep3 := rep2.same (same_new (o := .tup [.str (S s), .int 0, .int 0]) np)
    have w3 : Well (upd H2 p (.tup [.str (S s), .int 0, .int 0])) L := w2.new np
    have k3 : Keeps L H (upd H2 p (.tup [.str (S s), .int 0, .int 0])) := k2.trans (.new np)
    refine ⟨D3 s 0 0, D3 s 0 0, dp3 (SqT.of hr3), dp3 (SqT.of upd_same), shaped3 hsm _ _, shaped3 hsm _ _, _, rfl, ?_⟩
    generalize upd H2 p (.tup [.str (S s), .int 0, .int 0]) = H3 at rep3 w3 k3 hr3 ⊢
    rw [eq3 hsm]
    refine iteF ?_
    have hbl := blanks_le s 0 0
    -- gone = 0; for k in range(6)
    refine ⟨6, rfl, by decide, by decide, for_range (lo := 0) (n := 6) (fun i σ H' => ∃ (v5 v6 v7 v8 : Option V) (r : Addr) (g : Nat), σ = [some (.ref L), some (.str (S s)), some (.ref t), some (.ref r), some (.int (g : Nat)), v5, v6, v7, v8] ∧
      Keeps L H H' ∧ Well H' L ∧ Rep H' t (blanks 0 0 s) ∧ RestAt H' r s 0 g ∧ g ≤ (blanks 0 0 s).length) ?_ ?_ ?_⟩
    · refine ⟨none, none, none, none, r, 0, rfl, k3, w3, rep3, ?_, Nat.zero_le _⟩
      unfold RestAt
      rw [restAt_zero]
      exact hr3
    · rintro i σ H' hi ⟨v5, v6, v7, v8, r, g, rfl, kH, wH, rep, hR, hg⟩
      obtain ⟨rs, e, l, tt⟩ := id rep
      have hlen := restAt_len s 0 g
      have hsm1 : Sm (restAt 0 g s).1 := restAt_sm hsm s 0 g fun c hc => hc
      have hin := run_rest s 0 0 g hg
      rw [Nat.zero_add] at hin
      have hR' : H' r = some (.tup [.str (S (restAt 0 g s).1), .int ((0 + g : Nat) : Int), .int ((restAt 0 g s).2 : Nat)]) := hR
      -- indent(rest) != len(table) - gone
      refine ⟨_, rfl, r, _, 0 + g, _, rfl, SqT.of hR', _, rfl, t, _, rfl, .inl (SqL.of e), _, rfl, _, _, rfl, rfl, rfl, _, rfl, ?_⟩
      have e1 : V.int ((runW (restAt 0 g s).1 (0 + g + (restAt 0 g s).2) : Nat) - (0 + g : Nat) : Int) = V.int (((rs.map V.ref).length : Nat) - (g : Nat) : Int) := by
        rw [List.length_map, l, Nat.zero_add]
        congr 1
        omega
      rw [e1, decide_eq_true rfl]
      refine iteF ?_
      -- taken(rest, 0) != rest
      refine ⟨_, rfl, r, _, 0 + g, _, 0, rfl, SqT.of hR', by omega, fun p np => ?_⟩
      have hc0 := cut_rest s 0 0 g 0 (by omega)
      rw [Nat.add_zero, Nat.add_zero] at hc0
      have hc0' : cut (restAt 0 g s).1 (0 + g + (restAt 0 g s).2) (0 + g + 0) = ((restAt 0 g s).1, 0 + g, (restAt 0 g s).2) := hc0
      rw [hc0']
      refine ⟨_, rfl, D3 _ _ _, D3 _ _ _, dp3 (SqT.of upd_same), dp3 (SqT.of (by rw [upd_ne (ne_of_none hR' np)]; exact hR')), shaped3 hsm1 _ _, shaped3 hsm1 _ _, _, rfl, ?_⟩
      rw [eq3 hsm1]
      refine iteF ?_
      have hR2 : (upd H' p (.tup [.str (S (restAt 0 g s).1), .int ((0 + g : Nat) : Int), .int ((restAt 0 g s).2 : Nat)])) r = some (.tup [.str (S (restAt 0 g s).1), .int ((0 + g : Nat) : Int), .int ((restAt 0 g s).2 : Nat)]) := by
        rw [upd_ne (ne_of_none hR' np)]
        exact hR'
      have e2 : (upd H' p (.tup [.str (S (restAt 0 g s).1), .int ((0 + g : Nat) : Int), .int ((restAt 0 g s).2 : Nat)])) t = some (.lst (rs.map V.ref)) := by
        rw [upd_ne (ne_of_none e np)]
        exact e
      have rep2 := rep.same (same_new (o := .tup [.str (S (restAt 0 g s).1), .int ((0 + g : Nat) : Int), .int ((restAt 0 g s).2 : Nat)]) np)
      have w2 := wH.new (o := .tup [.str (S (restAt 0 g s).1), .int ((0 + g : Nat) : Int), .int ((restAt 0 g s).2 : Nat)]) np
      have k2 := kH.trans (.new (o := .tup [.str (S (restAt 0 g s).1), .int ((0 + g : Nat) : Int), .int ((restAt 0 g s).2 : Nat)]) np)
      generalize upd H' p (.tup [.str (S (restAt 0 g s).1), .int ((0 + g : Nat) : Int), .int ((restAt 0 g s).2 : Nat)]) = H2 at hR2 e2 rep2 w2 k2 ⊢
      -- step
      refine ⟨_, rfl, _, rfl, t, _, rfl, .inl (SqL.of e2), _, rfl, _, _, rfl, rfl, _, _, rfl, rfl, L, _, rfl, ?_, ?_, w2, fun H3 d k w h0 h1 => ?_⟩
      · rw [List.length_map, l]
        omega
      · rw [List.length_map, l]
        omega
      rw [List.length_map, l] at h1
      obtain ⟨k', rfl⟩ := Int.eq_ofNat_of_zero_le h0
      have hk : g + k' ≤ (blanks 0 0 s).length := by omega
      have rep3 := rep2.keep w2 k
      have hR3 := k _ _ (tup_ne hR2 w2) hR2
      have k3 := k2.trans k
      -- rest = taken(rest, step)
      refine ⟨_, rfl, _, rfl, r, _, 0 + g, _, k', rfl, SqT.of hR3, by omega, fun p np => ?_⟩
      rw [show cut (restAt 0 g s).1 (0 + g + (restAt 0 g s).2) (0 + g + k') = ((restAt 0 (g + k') s).1, 0 + g + k', (restAt 0 (g + k') s).2) from cut_rest s 0 0 g k' hk]
      have hR4 : RestAt (upd H3 p (.tup [.str (S (restAt 0 (g + k') s).1), .int ((0 + g + k' : Nat) : Int), .int ((restAt 0 (g + k') s).2 : Nat)])) p s 0 (g + k') := by
        unfold RestAt
        rw [upd_same, Nat.add_assoc]
      have rep4 := rep3.same (same_new (o := .tup [.str (S (restAt 0 (g + k') s).1), .int ((0 + g + k' : Nat) : Int), .int ((restAt 0 (g + k') s).2 : Nat)]) np)
      have w4 := w.new (o := .tup [.str (S (restAt 0 (g + k') s).1), .int ((0 + g + k' : Nat) : Int), .int ((restAt 0 (g + k') s).2 : Nat)]) np
      have k4 := k3.trans (.new (o := .tup [.str (S (restAt 0 (g + k') s).1), .int ((0 + g + k' : Nat) : Int), .int ((restAt 0 (g + k') s).2 : Nat)]) np)
      dsimp only
      generalize upd H3 p (.tup [.str (S (restAt 0 (g + k') s).1), .int ((0 + g + k' : Nat) : Int), .int ((restAt 0 (g + k') s).2 : Nat)]) = H4 at hR4 rep4 w4 k4 ⊢
      -- gone = gone + step
      refine ⟨_, rfl, _, rfl, _, _, rfl, rfl, ?_⟩
      have eg : ((g : Nat) : Int) + (k' : Nat) = ((g + k' : Nat) : Int) := by omega
      generalize hG : g + k' = G at hk hR4 eg
      have hlenG := restAt_len s 0 G
      have hsmG : Sm (restAt 0 G s).1 := restAt_sm hsm s 0 G fun c hc => hc
      dsimp only
      refine asg_if (Entry H4 s (restAt 0 G s).1 (restAt 0 G s).2) (decide (0 < G)) (fun Q q => ?_) (fun hb Q q => ?_) (fun hb Q q => ?_) ?_
      · refine ⟨_, rfl, _, _, rfl, rfl, _, rfl, ?_⟩
        have : decide ((0 : Int) < (g : Nat) + (k' : Nat)) = decide (0 < G) := by
          rw [eg]
          by_cases h : 0 < G
          · rw [decide_eq_true h]
            exact decide_eq_true (by omega)
          · rw [decide_eq_false h]
            exact decide_eq_false (by omega)
        rw [this]
        exact q
      · have hG0 : 0 < G := of_decide_eq_true hb
        obtain ⟨rs4, e4, l4, t4⟩ := rep4
        obtain ⟨r4, h4, en⟩ := entry_of e4 l4 t4 hG0 hk
        refine ⟨_, rfl, _, rfl, _, _, rfl, rfl, t, _, _, _, rfl, rfl, SqL.of e4, at_of (j := G - 1) ?_ h4, q _ _ en⟩
        omega
      · have hG0 : G = 0 := by
          have := of_decide_eq_false hb
          omega
        refine ⟨_, rfl, (by show 2 ≤ sizeLine; decide), fun p np => q _ _ ⟨p, 0, rfl, same_new np, ?_, ?_⟩⟩
        · rw [upd_same, hG0, restAt_zero]
          rfl
        · rw [hG0, restAt_zero]
          rfl
      rintro v H5 ⟨r5, a, rfl, sm5, e5, ed⟩
      refine ⟨r5, _, rfl, SqT.of e5, rfl, _, _, rfl, _, _, rfl, rfl, ?_⟩
      have hR5 : H5 p = some (.tup [.str (S (restAt 0 G s).1), .int ((0 + G : Nat) : Int), .int ((restAt 0 G s).2 : Nat)]) := sm5 _ _ hR4
      have rep5 := rep4.same sm5
      have w5 := w4.same sm5
      have k5 := k4.trans (.of sm5)
      have hsl : (S s).length ≤ sizeLine := by
        rw [S_len]
        exact len_ok (by omega)
      have ec : cutS (S s) (some (((a : Nat) : Int) - 1 + 1)) none = S (restAt 0 G s).1 := by
        rw [show ((a : Nat) : Int) - 1 + 1 = (a : Int) by omega, S_cut, ed]
      have ez : ((0 + G : Nat) : Int) = (g : Nat) + (k' : Nat) := by omega
      refine ⟨_, rfl, _, rfl, _, rfl, _, _, rfl, rfl, _, rfl, _, rfl, hsl, _, rfl, _, rfl, (by show 3 ≤ sizeLine; decide), fun p2 np2 => ?_⟩
      rw [ec, ← ez]
      refine ⟨D3 _ _ _, D3 _ _ _, dp3 (SqT.of (by rw [upd_ne (ne_of_none hR5 np2)]; exact hR5)), dp3 (SqT.of upd_same), shaped3 hsmG _ _, shaped3 hsmG _ _, _, rfl, ?_⟩
      rw [eq3 hsmG]
      refine iteF ?_
      have hR6 : (upd H5 p2 (.tup [.str (S (restAt 0 G s).1), .int ((0 + G : Nat) : Int), .int ((restAt 0 G s).2 : Nat)])) p = some (.tup [.str (S (restAt 0 G s).1), .int ((0 + G : Nat) : Int), .int ((restAt 0 G s).2 : Nat)]) := by
        rw [upd_ne (ne_of_none hR5 np2)]
        exact hR5
      have rep6 := rep5.same (same_new (o := .tup [.str (S (restAt 0 G s).1), .int ((0 + G : Nat) : Int), .int ((restAt 0 G s).2 : Nat)]) np2)
      have w6 := w5.new (o := .tup [.str (S (restAt 0 G s).1), .int ((0 + G : Nat) : Int), .int ((restAt 0 G s).2 : Nat)]) np2
      have k6 := k5.trans (.new (o := .tup [.str (S (restAt 0 G s).1), .int ((0 + G : Nat) : Int), .int ((restAt 0 G s).2 : Nat)]) np2)
      generalize upd H5 p2 (.tup [.str (S (restAt 0 G s).1), .int ((0 + G : Nat) : Int), .int ((restAt 0 G s).2 : Nat)]) = H6 at hR6 rep6 w6 k6 ⊢
      refine ⟨_, rfl, p, _, _, _, rfl, SqT.of hR6, by omega, by omega, _, rfl, 32, _, by rw [lit_sp], rfl, by omega, _, rfl, _, rfl, _, _, rfl, rfl, _, rfl, _, rfl, hsl, ?_⟩
      rw [ec]
      refine ⟨_, _, rfl, rfl, ?_, rfl, ?_⟩
      · rw [S_len, S_len, List.length_replicate, sizeLine_eq]
        omega
      rw [S_app, decide_eq_true rfl]
      refine ⟨_, rfl, iteF ?_⟩
      exact ⟨_, _, _, _, p, G, by rw [Nat.zero_add]; rfl, k6, w6, rep6, by unfold RestAt; exact hR6, hk⟩
    · rintro σ H' ⟨v5, v6, v7, v8, r, g, rfl, kH, wH, rep, hR, hg⟩
      exact q H' kH wH
def sp__law_behind_right (K : PySem.W.Frag) : Sp := fun vs H Q _ => ∃ (L : Addr) (s : List Nat), vs = [.ref L, .str (S s)] ∧ Well H L ∧ Line s ∧ ∀ H', Keeps L H H' → Well H' L → Q (.bl true) H'
theorem ok__law_behind_right {P : Program} {w : World} {K : PySem.W.Frag} {mg : Str → Option Value} {base : Heap} (T : Txt K mg) : FnOk P w K mg base CX0 3 T.a__law_behind_right T.d__law_behind_right ["_law_well_here", "_law_line_here"] (sp__law_behind_right K) := by
  refine T.f__law_behind_right.ok sc__law_behind_right (fun vs H Q E h => ?_) (fun cdv A outer s H vs Q E hr h => ?_)
  · obtain ⟨L, s, rfl, _⟩ := h
    rfl
  · obtain ⟨L, s, rfl, hW, ⟨hs, hsm, h10⟩, q⟩ := h
    refine ⟨_, (pss_cons (ps_set (i := 2) sc__law_behind_right.nd rfl (.inl rfl) (pe_op op_add pe_int (pe_call (ok__law_draw T) (hr.mono (by decide)) (by rfl) T.g__law_draw T.f__law_draw.kp T.b__law_draw .nil pass0 (pa_cons (pv 0) (pa_cons pe_int pa_nil)))))
        (pss_cons (ps_set (i := 3) sc__law_behind_right.nd rfl (.inl rfl) (pe_call (ok__law_blanks T) (hr.mono (by decide)) (by rfl) T.g__law_blanks T.f__law_blanks.kp T.b__law_blanks .nil pass0 (pa_cons (pv 1) (pa_cons (pv 2) pa_nil))))
        (pss_cons (ps_set (i := 4) sc__law_behind_right.nd rfl (.inl rfl) (pe_tup (pa_cons (pv 1) (pa_cons (pv 2) (pa_cons pe_int pa_nil)))))
        (pss_cons (ps_if (pt_cmpR op_ne (pe_call (ok_indent T) (hr.mono (by decide)) (by rfl) T.g_indent T.f_indent.kp T.b_indent .nil pass0 (pa_cons (pv 4) pa_nil)) (pe_callB call_len_seq (by rfl) T.z_len PySem.boot_len (pa_cons (pv 3) pa_nil)) (nomark _)) (pss_one (ps_ret pe_bl)) pss_nil)
        (pss_cons (ps_set (i := 5) sc__law_behind_right.nd rfl (.inl rfl) (pe_call (ok__law_draw T) (hr.mono (by decide)) (by rfl) T.g__law_draw T.f__law_draw.kp T.b__law_draw .nil pass0 (pa_cons (pv 0) (pa_cons (pe_op op_add (pe_callB call_len_seq (by rfl) T.z_len PySem.boot_len (pa_cons (pv 3) pa_nil)) pe_int) pa_nil))))
        (pss_cons (ps_asg (pe_ifExp (pt_cmpR op_gt (pv 5) pe_int (nomark _)) (pe_ix ix_list (pv 3) (pe_op op_sub (pv 5) pe_int) (fun _ _ => rfl)) (pe_tup (pa_cons (pe_un un_neg pe_int) (pa_cons pe_int pa_nil)))) (pg_tup (by rfl) (pgs_cons (pg_name (i := 6) sc__law_behind_right.nd rfl (.inl rfl)) (pgs_cons (pg_name (i := 7) sc__law_behind_right.nd rfl (.inl rfl)) pgs_nil))))
        (pss_one (ps_ret (pe_cmpR (op_eqD hr.units) (pe_call (ok_taken T) (hr.mono (by decide)) (by rfl) T.g_taken T.f_taken.kp T.b_taken .nil pass0 (pa_cons (pv 4) (pa_cons (pv 5) pa_nil))) (pe_tup (pa_cons (pe_slice sl_str (pv 1) (po_some (pe_op op_add (pv 6) pe_int)) po_none) (pa_cons (pe_op op_add (pv 2) (pv 5)) (pa_cons (pv 7) pa_nil)))) (nomark _)))))))))), ?_⟩
    refine ⟨_, rfl, L, _, rfl, by decide, by decide, hW, fun H1 d k1 w1 h0 h1 => ⟨_, _, rfl, rfl, ?_⟩⟩
    obtain ⟨d', rfl⟩ := Int.eq_ofNat_of_zero_le h0
    have ecol : (1 : Int) + (d' : Nat) = ((1 + d' : Nat) : Int) := by omega
    dsimp only
    rw [ecol]
    generalize 1 + d' = col
    refine ⟨_, rfl, _, rfl, s, col, rfl, hs, fun t H2 nt sm2 rep2 => ?_⟩
    have w2 : Well H2 L := w1.same sm2
    have k2 : Keeps L H H2 := k1.trans (.of sm2)
    refine ⟨_, rfl, _, rfl, (by show 3 ≤ sizeLine; decide), fun r nr => ?_⟩
    have rep3 := rep2.same (same_new (o := .tup [.str (S s), .int (col : Nat), .int 0]) nr)
    have w3 : Well (upd H2 r (.tup [.str (S s), .int (col : Nat), .int 0])) L := w2.new nr
    have k3 : Keeps L H (upd H2 r (.tup [.str (S s), .int (col : Nat), .int 0])) := k2.trans (.new nr)
    have hr3 : (upd H2 r (.tup [.str (S s), .int (col : Nat), .int 0])) r = some (.tup [.str (S s), .int (col : Nat), .int ((0 : Nat) : Int)]) := upd_same
    generalize upd H2 r (.tup [.str (S s), .int (col : Nat), .int 0]) = H3 at rep3 w3 k3 hr3 ⊢
    obtain ⟨rs, e, l, tt⟩ := id rep3
    have hbl := blanks_le s 0 col
    refine ⟨_, rfl, r, s, col, 0, rfl, SqT.of hr3, _, rfl, t, _, rfl, .inl (SqL.of e), rfl, _, rfl, ?_⟩
    have hrb := run_blanks s 0 col
    have e1 : V.int ((runW s (col + 0) : Nat) - (col : Nat) : Int) = V.int ((rs.map V.ref).length : Nat) := by
      rw [List.length_map, l]
      congr 1
      simp only [Nat.add_zero]
      omega
    rw [e1, decide_eq_true rfl]
    refine iteF ?_
    refine ⟨_, rfl, _, rfl, t, _, rfl, .inl (SqL.of e), _, _, rfl, rfl, L, _, rfl, ?_, ?_, w3, fun H4 d2 k4 w4 h2 h3 => ?_⟩
    · rw [List.length_map, l]
      omega
    · rw [List.length_map, l]
      omega
    rw [List.length_map, l] at h3
    obtain ⟨G, rfl⟩ := Int.eq_ofNat_of_zero_le h2
    have hk : G ≤ (blanks 0 col s).length := by omega
    have rep4 := rep3.keep w3 k4
    have hr4 := k4 _ _ (tup_ne hr3 w3) hr3
    have k5 := k3.trans k4
    have hsmG : Sm (restAt col G s).1 := restAt_sm hsm s col G fun c hc => hc
    dsimp only
    refine asg_if (Entry H4 s (restAt col G s).1 (restAt col G s).2) (decide (0 < G)) (fun Q q => ?_) (fun hb Q q => ?_) (fun hb Q q => ?_) ?_
    · refine ⟨_, rfl, _, _, rfl, rfl, _, rfl, ?_⟩
      have : decide ((0 : Int) < (G : Nat)) = decide (0 < G) := by
        by_cases h : 0 < G
        · rw [decide_eq_true h]
          exact decide_eq_true (by omega)
        · rw [decide_eq_false h]
          exact decide_eq_false (by omega)
      rw [this]
      exact q
    · have hG0 : 0 < G := of_decide_eq_true hb
      obtain ⟨rs4, e4, l4, t4⟩ := rep4
      obtain ⟨r4, h4, en⟩ := entry_of e4 l4 t4 hG0 hk
      refine ⟨_, rfl, _, rfl, _, _, rfl, rfl, t, _, _, _, rfl, rfl, SqL.of e4, at_of (j := G - 1) ?_ h4, q _ _ en⟩
      omega
    · have hG0 : G = 0 := by
        have := of_decide_eq_false hb
        omega
      refine ⟨_, rfl, (by show 2 ≤ sizeLine; decide), fun p np => q _ _ ⟨p, 0, rfl, same_new np, ?_, ?_⟩⟩
      · rw [upd_same, hG0, restAt_zero]
        rfl
      · rw [hG0, restAt_zero]
        rfl
    rintro v H5 ⟨r5, a, rfl, sm5, e5, ed⟩
    refine ⟨r5, _, rfl, SqT.of e5, rfl, _, _, rfl, _, _, rfl, rfl, ?_⟩
    have hr5 := sm5 _ _ hr4
    have w5 := w4.same sm5
    have k6 := k5.trans (.of sm5)
    have hsl : (S s).length ≤ sizeLine := by
      rw [S_len]
      exact len_ok (by omega)
    have ec : cutS (S s) (some (((a : Nat) : Int) - 1 + 1)) none = S (restAt col G s).1 := by
      rw [show ((a : Nat) : Int) - 1 + 1 = (a : Int) by omega, S_cut, ed]
    refine ⟨_, rfl, _, rfl, r, s, col, 0, G, rfl, SqT.of hr5, by omega, fun p np => ?_⟩
    have hc := cut_rest s 0 col 0 G (by omega)
    rw [restAt_zero] at hc
    simp only [Nat.add_zero, Nat.zero_add] at hc
    rw [show cut s (col + 0) (col + G) = ((restAt col G s).1, col + G, (restAt col G s).2) from hc]
    refine ⟨_, rfl, _, rfl, _, _, rfl, rfl, _, rfl, _, rfl, hsl, _, rfl, _, rfl, _, _, rfl, rfl, _, rfl, (by show 3 ≤ sizeLine; decide), fun p2 np2 => ?_⟩
    rw [ec]
    dsimp only at np2 ⊢
    rw [show ((col : Nat) : Int) + (G : Nat) = ((col + G : Nat) : Int) by omega]
    refine ⟨D3 _ _ _, D3 _ _ _, dp3 (SqT.of (by rw [upd_ne (ne_of_none upd_same np2)]; exact upd_same)), dp3 (SqT.of upd_same), shaped3 hsmG _ _, shaped3 hsmG _ _, ?_⟩
    rw [eq3 hsmG]
    exact q _ ((k6.trans (.new np)).trans (.new np2)) ((w5.new np).new np2)
theorem join_lines (ls : List (List Nat)) : joinN (ls ++ [[]]) = (ls.map fun l => l ++ [10]).flatten := by
  induction ls with
  | nil => rfl
  | cons a r ih =>
    cases r with
    | nil => simp [joinN, TL.joinL]
    | cons b r =>
      show a ++ ([10] ++ TL.joinL [10] ((b :: r) ++ [[]])) = _
      rw [show TL.joinL [10] ((b :: r) ++ [[]]) = joinN ((b :: r) ++ [[]]) from rfl, ih]
      simp
theorem joinN_len : ∀ {ls : List (List Nat)} {k : Nat}, (∀ l ∈ ls, l.length ≤ k) → (joinN ls).length ≤ (k + 1) * ls.length
  | [], k, _ => by simp [joinN, TL.joinL]
  | [a], k, h => by
    have := h a (List.mem_cons_self ..)
    show a.length ≤ _
    simp only [List.length_singleton]
    omega
  | a :: b :: r, k, h => by
    have ih := joinN_len (ls := b :: r) (k := k) fun l hl => h l (List.mem_cons_of_mem _ hl)
    have ha := h a (List.mem_cons_self ..)
    show (a ++ ([10] ++ joinN (b :: r))).length ≤ _
    rw [List.length_append, List.length_append, List.length_cons (a := a), Nat.mul_succ]
    simp only [List.length_singleton]
    omega
def Menu2 : List (List Nat) := [[], [97], [32], [98, 9], []]
theorem menu2_lit : [V.str ("" : Str), .str ("a" : Str), .str (" " : Str), .str ("b\t" : Str), .str ("" : Str)] = Menu2.map fun l => V.str (S l) := by decide +kernel
theorem menu2_ok : ∀ l ∈ Menu2, l.length ≤ 2 ∧ (∀ c ∈ l, c < 128 ∧ c ≠ 10) := by decide
theorem lit_x : ("x" : Str) = S [120] := by decide +kernel
def sp_law (K : PySem.W.Frag) : Sp := fun vs H Q _ => ∃ (a : Addr) (ns : List Int), vs = [.ref a] ∧ SqL K H a (ns.map V.int) ∧ ns.length ≤ 63 ∧ ∀ H', Q (.bl true) H'
theorem ok_law {P : Program} {w : World} {K : PySem.W.Frag} {mg : Str → Option Value} {base : Heap} {f : Addr} {fd : FuncData} (T : Txt K mg) (F : Fun K "law" "law" s_law f fd) : FnOk P w K mg base CX0 4 f fd ["_law_script"] (sp_law K) := by
  refine F.ok sc_law (fun vs H Q E h => ?_) (fun cdv A outer s H vs Q E hr h => ?_)
  · obtain ⟨a, ns, rfl, _⟩ := h
    rfl
  · obtain ⟨a, ns, rfl, hS, hlen, q⟩ := h
    refine ⟨_, (pss_cons (ps_for PassesOwn.never rfl (pi_list (pe_op op_cat (pe_slice sl_list (pv 0) po_none (po_some pe_int)) (pe_lst (pa_cons pe_int pa_nil)))) (pg_name (i := 1) sc_law.nd rfl (.inl rfl)) (pss_cons (ps_set (i := 2) sc_law.nd rfl (.inr rfl) (pe_call (ok__law_well T) (hr.mono (by decide)) (by rfl) T.g__law_well T.f__law_well.kp T.b__law_well .nil pass0 (pa_cons (pv 1) pa_nil)))
        (pss_cons (ps_for PassesOwn.never rfl (pi_range1 (by rfl) T.z_range (pa_cons pe_int pa_nil)) (pg_name (i := 3) sc_law.nd rfl (.inl rfl)) (pss_cons (ps_set (i := 4) sc_law.nd rfl (.inl rfl) (pe_call (ok__law_line T) (hr.mono (by decide)) (by rfl) T.g__law_line T.f__law_line.kp T.b__law_line .nil pass0 (pa_cons (pv 2) pa_nil)))
        (pss_one (ps_if (PW.pt (pw_or (pt_not (pt_val (pe_call (ok__law_walk_right T) (hr.mono (by decide)) (by rfl) T.g__law_walk_right T.f__law_walk_right.kp T.b__law_walk_right .nil pass0 (pa_cons (pv 2) (pa_cons (pv 4) pa_nil))))) (pw_or1 (pt_not (pt_val (pe_call (ok__law_behind_right T) (hr.mono (by decide)) (by rfl) T.g__law_behind_right T.f__law_behind_right.kp T.b__law_behind_right .nil pass0 (pa_cons (pv 2) (pa_cons (pv 4) pa_nil)))))))) (pss_one (ps_ret pe_bl)) pss_nil))))
        (pss_cons (ps_setLc (i := 5) (own := [("_law_k", 3)]) (g := (gName 3)) (tt := tYes) (by rfl) sc_law.nd rfl rfl (sw_true rfl rfl rfl (by decide +kernel)) (pi_range1 (by rfl) T.z_range (pa_cons (pe_call (ok__law_draw T) (hr.mono (by decide)) (by rfl) T.g__law_draw T.f__law_draw.kp T.b__law_draw .nil pass0 (pa_cons (pv 2) (pa_cons pe_int pa_nil))) pa_nil)) (blkOk_by (own := [("_law_k", 3)]) (N := ["_law_script", "_law_cell", "_law_well_here", "_law_k", "_law_line_here", "_law_lines"]) (sc := defScope s_law) (by decide +kernel)) (fun _ _ _ _ _ => (pg_name (i := 3) sc_law.nd rfl (Or.inl rfl))) (fun _ _ _ _ _ => pts_nil) (fun _ _ _ _ _ => (pe_call (ok__law_one T) (hr.mono (by decide)) (by rfl) T.g__law_one T.f__law_one.kp T.b__law_one .nil pass0 (pa_cons (pv 2) (pa_cons (pe_lst (pa_cons pe_str (pa_cons pe_str (pa_cons pe_str (pa_cons pe_str (pa_cons pe_str pa_nil)))))) pa_nil)))))
        (pss_cons (ps_if (pt_cmpR (op_neD hr.units) (pe_call (ok_lines_of T) (hr.mono (by decide)) (by rfl) T.g_lines_of T.f_lines_of.kp T.b_lines_of .nil pass0 (pa_cons (pe_join pe_str (pe_lc (own := [("_law_line_here", 4)]) (g := (gName 4)) (tt := tYes) (by rfl) sc_law.nd (pi_list (pv 5)) (blkOk_by (own := [("_law_line_here", 4)]) (N := ["_law_script", "_law_cell", "_law_well_here", "_law_k", "_law_line_here", "_law_lines"]) (sc := defScope s_law) (by decide +kernel)) (fun _ _ _ _ _ => (pg_name (i := 4) sc_law.nd rfl (Or.inl rfl))) (fun _ _ _ _ _ => pts_nil) (fun _ _ _ _ _ => (pe_op op_add_str (pv 4) pe_str)))) pa_nil)) (pv 5) (nomark _)) (pss_one (ps_ret pe_bl)) pss_nil)
        (pss_cons (ps_if (pt_cmpR (op_neD hr.units) (pe_call (ok_lines_of T) (hr.mono (by decide)) (by rfl) T.g_lines_of T.f_lines_of.kp T.b_lines_of .nil pass0 (pa_cons (pe_join pe_str (pv 5)) pa_nil)) (pe_ifExp (PW.pt (pw_and (pt_cmpR (op_neD hr.units) (pv 5) (pe_lst pa_nil) (nomark _)) (pw_and1 (pt_cmpR op_eq (pe_ix ix_list (pv 5) (pe_un un_neg pe_int) (fun _ _ => rfl)) pe_str (nomark _))))) (pe_slice sl_list (pv 5) po_none (po_some (pe_un un_neg pe_int))) (pv 5)) (nomark _)) (pss_one (ps_ret pe_bl)) pss_nil)
        (pss_one (ps_if (pt_cmpR (op_neD hr.units) (pe_call (ok_lines_of T) (hr.mono (by decide)) (by rfl) T.g_lines_of T.f_lines_of.kp T.b_lines_of .nil pass0 (pa_cons (pe_join pe_str (pe_op op_cat (pv 5) (pe_lst (pa_cons pe_str pa_nil)))) pa_nil)) (pe_op op_cat (pv 5) (pe_lst (pa_cons pe_str pa_nil))) (nomark _)) (pss_one (ps_ret pe_bl)) pss_nil))))))))
        (pss_one (ps_ret pe_bl))), ?_⟩
    -- script[:8] + [0]
    refine ⟨_, rfl, _, rfl, a, _, rfl, hS, fun p np => ⟨by show 1 ≤ sizeLine; decide, fun p2 np2 => ⟨p, p2, _, _, rfl, rfl, by rw [upd_ne (ne_of_none upd_same np2)]; exact upd_same, upd_same, ?_, fun p3 np3 => ?_⟩⟩⟩
    · have := cutV_length (ns.map V.int) none (some 8)
      rw [List.length_map] at this
      rw [sizeLine_eq]
      show (cutV (ns.map V.int) none (some 8)).length + 1 ≤ _
      omega
    have ec : cutV (ns.map V.int) none (some 8) ++ [V.int 0] = (ns.take 8 ++ [0]).map V.int := by
      unfold cutV
      rw [HT.sIx_none, show HT.sIx (ns.map V.int).length (ns.map V.int).length (some 8) = min 8 (ns.map V.int).length from HT.sIx_nat _ _ 8]
      rw [List.drop_zero, Nat.sub_zero, List.map_append, List.map_take]
      have e8 : (ns.map V.int).take (min 8 (ns.map V.int).length) = (ns.map V.int).take 8 := by
        by_cases h8 : 8 ≤ (ns.map V.int).length
        · rw [Nat.min_eq_left h8]
        · rw [Nat.min_eq_right (by omega), List.take_length, List.take_of_length_le (by omega)]
      rw [e8]
      rfl
    rw [ec]
    have h3 : (upd (upd (upd H p (.lst (cutV (ns.map V.int) none (some 8)))) p2 (.lst [V.int 0])) p3 (.lst ((ns.take 8 ++ [0]).map V.int))) p3 = some (.lst ((ns.take 8 ++ [0]).map V.int)) := upd_same
    generalize upd (upd (upd H p (.lst (cutV (ns.map V.int) none (some 8)))) p2 (.lst [V.int 0])) p3 (.lst ((ns.take 8 ++ [0]).map V.int)) = H0 at h3 ⊢
    generalize ns.take 8 ++ [0] = ms at h3 ⊢
    refine ⟨p3, rfl, ⟨_, SqL.of h3⟩, for_list (K := K) (a := p3) (xs := ms.map V.int) (fun i σ H' => ∃ (v1 v2 v3 v4 v5 : Option V), σ = [some (.ref a), v1, v2, v3, v4, v5] ∧ H' p3 = some (.lst (ms.map V.int))) ?_ (fun i σ H' _ h => by obtain ⟨_, _, _, _, _, _, h⟩ := h; exact SqL.of h) ?_ ?_⟩
    · exact ⟨none, none, none, none, none, rfl, h3⟩
    · rintro i x σ H' hi ⟨v1, v2, v3, v4, v5, rfl, hp⟩
      obtain ⟨z, hz, rfl⟩ : ∃ z, ms[i]? = some z ∧ x = V.int z := by
        rw [List.getElem?_map] at hi
        cases e : ms[i]? with
        | none => rw [e] at hi; cases hi
        | some z => rw [e] at hi; exact ⟨z, rfl, (Option.some.inj hi).symm⟩
      -- the well
      refine ⟨_, rfl, z, rfl, fun L nL => ?_⟩
      have hW1 : Well (upd H' L (.lst [.int z, .int 0])) L := ⟨_, _, upd_same⟩
      have npL : p3 ≠ L := ne_of_none hp nL
      have hp1 : (upd H' L (.lst [.int z, .int 0])) p3 = some (.lst (ms.map V.int)) := by rw [upd_ne npL]; exact hp
      generalize upd H' L (.lst [.int z, .int 0]) = H1 at hW1 hp1 ⊢
      refine ⟨4, rfl, by decide, by decide, for_range (lo := 0) (n := 4) (fun i σ H' => ∃ (v3 v4 v5 : Option V), σ = [some (.ref a), some (.int z), some (.ref L), v3, v4, v5] ∧ H' p3 = some (.lst (ms.map V.int)) ∧ Well H' L) ?_ ?_ ?_⟩
      · exact ⟨v3, v4, v5, rfl, hp1, hW1⟩
      · rintro k σ H2 hk ⟨v3, v4, v5, rfl, hp2, hW2⟩
        refine ⟨_, rfl, L, rfl, hW2, fun H3 s k3 w3 hs => ?_⟩
        have hp3 := k3 _ _ npL hp2
        refine ⟨_, rfl, _, rfl, L, s, rfl, w3, hs, fun H4 k4 w4 => ⟨_, rfl, iteF ?_⟩⟩
        have hp4 := k4 _ _ npL hp3
        refine ⟨_, rfl, _, rfl, L, s, rfl, w4, hs, fun H5 k5 w5 => ⟨_, rfl, iteF ?_⟩⟩
        exact ⟨_, _, _, rfl, k5 _ _ npL hp4, w5⟩
      · rintro σ H2 ⟨v3, v4, v5, rfl, hp2, hW2⟩
        -- lines
        refine ⟨_, rfl, L, 6, rfl, by decide, by decide, hW2, fun H3 d k3 w3 h0 h6 => ?_⟩
        have hp3 := k3 _ _ npL hp2
        refine ⟨d, rfl, by omega, by omega, fun D nD => ?_⟩
        have nDL : D ≠ L := w3.ne nD
        have nDp : p3 ≠ D := ne_of_none hp3 nD
        refine lc_range (lo := 0) (n := d.toNat) (fun i H' => H' p3 = some (.lst (ms.map V.int)) ∧ Well H' L ∧ ∃ ls : List (List Nat), H' D = some (.lst (ls.map fun l => V.str (S l))) ∧ ls.length = i ∧ ∀ l ∈ ls, l ∈ Menu2) ?_ ?_ ?_
        · exact ⟨by rw [upd_ne nDp]; exact hp3, w3.new nD, [], upd_same, rfl, by simp⟩
        · rintro j H4 hj ⟨hp4, w4, ls, hD, hl, hls⟩
          refine ⟨rfl, _, rfl, by show 5 ≤ sizeLine; decide, fun m nm => ?_⟩
          rw [menu2_lit]
          have nmL : m ≠ L := w4.ne nm
          have nmD : D ≠ m := ne_of_none hD nm
          refine ⟨L, m, _, rfl, SqL.of upd_same, nmL, by decide, by decide, w4.new nm, fun H5 v k5 w5 hv => ?_⟩
          obtain ⟨l, hlm, rfl⟩ := List.mem_map.mp hv
          have hD5 : H5 D = some (.lst (ls.map fun l => V.str (S l))) := k5 _ _ nDL (by rw [upd_ne nmD]; exact hD)
          have hp5 : H5 p3 = some (.lst (ms.map V.int)) := k5 _ _ npL (by rw [upd_ne (ne_of_none hp4 nm)]; exact hp4)
          refine ⟨_, hD5, ?_, by rw [upd_ne nDp]; exact hp5, ?_, ls ++ [l], ?_, ?_, ?_⟩
          · rw [List.length_map, hl, sizeLine_eq]
            omega
          · obtain ⟨x, y, e⟩ := w5
            exact ⟨x, y, by rw [upd_ne nDL.symm]; exact e⟩
          · rw [upd_same]
            simp
          · simp [hl]
          · intro z hz
            rcases List.mem_append.mp hz with z1 | z1
            · exact hls z z1
            · rw [List.mem_singleton.mp z1]
              exact hlm
        · rintro H4 ⟨hp4, w4, ls, hD, hl, hls⟩
          have hl6 : ls.length ≤ 5 := by omega
          have hsm : ∀ l ∈ ls, Sm l := fun l h c hc => by
            have := (menu2_ok l (hls l h)).2 c hc
            omega
          have h10 : ∀ l ∈ ls, 10 ∉ l := fun l h hc => ((menu2_ok l (hls l h)).2 10 hc).2 rfl
          have hl2 : ∀ l ∈ ls, l.length ≤ 2 := fun l h => (menu2_ok l (hls l h)).1
          have hD6 : H4 D = some (.lst (ls.map fun l => V.str (S l))) := hD
          have e1 : ∀ ls : List (List Nat), (ls.map fun l => V.str (S l)) = (ls.map S).map V.str := fun ls => by simp
          -- the lines, each with a line feed
          refine ⟨⟨_, rfl⟩, _, rfl, D, rfl, ⟨_, SqL.of hD⟩, fun D2 nD2 => ?_⟩
          have nD2D : D ≠ D2 := ne_of_none hD nD2
          have nD2p : p3 ≠ D2 := ne_of_none hp4 nD2
          have nD2L : D2 ≠ L := w4.ne nD2
          refine lc_list (K := K) (a := D) (xs := ls.map fun l => V.str (S l)) (fun i H' => H' p3 = some (.lst (ms.map V.int)) ∧ Well H' L ∧ H' D = some (.lst (ls.map fun l => V.str (S l))) ∧ H' D2 = some (.lst ((ls.take i).map fun l => V.str (S (l ++ [10]))))) ?_ (fun i H _ h => SqL.of h.2.2.1) ?_ ?_
          · exact ⟨by rw [upd_ne nD2p]; exact hp4, w4.new nD2, by rw [upd_ne nD2D]; exact hD, upd_same⟩
          · rintro j x H5 hj ⟨hp5, w5, hD5, h5⟩
            obtain ⟨l, hlj, rfl⟩ : ∃ l, ls[j]? = some l ∧ x = V.str (S l) := by
              rw [List.getElem?_map] at hj
              cases e : ls[j]? with
              | none => rw [e] at hj; cases hj
              | some z => rw [e] at hj; exact ⟨z, rfl, (Option.some.inj hj).symm⟩
            have hjl : j < ls.length := (List.getElem?_eq_some_iff.mp hlj).1
            have hlm : l ∈ ls := List.mem_of_getElem? hlj
            refine ⟨rfl, _, rfl, _, _, rfl, rfl, ?_, _, h5, ?_, by rw [upd_ne nD2p]; exact hp5, ?_, by rw [upd_ne nD2D]; exact hD5, ?_⟩
            · rw [lit_nl, S_len, S_len, sizeLine_eq]
              have := hl2 l hlm
              simp
              omega
            · rw [List.length_map, List.length_take, sizeLine_eq]
              omega
            · obtain ⟨x, y, e⟩ := w5
              exact ⟨x, y, by rw [upd_ne nD2L.symm]; exact e⟩
            · rw [upd_same, lit_nl, S_app, List.take_add_one, hlj, List.map_append]
              rfl
          rintro H5 ⟨hp5, w5, hD5, h5⟩
          rw [List.length_map, List.take_length] at h5
          have e2 : (ls.map fun l => V.str (S (l ++ [10]))) = ((ls.map fun l => l ++ [10]).map S).map V.str := by simp
          rw [e2] at h5
          refine ⟨_, D2, _, rfl, rfl, .inl (SqL.of h5), ?_, ?_⟩
          · have := sum_le (ls := ls.map fun l => l ++ [10]) (k := 3) fun l hl => by
              obtain ⟨z, hz, rfl⟩ := List.mem_map.mp hl
              have := hl2 z hz
              simp
              omega
            have e0 : (("" : Str)).length = 0 := by decide +kernel
            rw [e0]
            simp only [List.length_map] at this ⊢
            omega
          rw [lit_e, join_nil, ← join_lines]
          refine ⟨ls, [], rfl, ?_, ?_, fun p4 H6 np4 sm6 e6 => ?_⟩
          · intro l hl h
            rcases List.mem_append.mp hl with z | z
            · exact h10 l z h
            · rw [List.mem_singleton.mp z] at h
              cases h
          · have := joinN_len (ls := ls ++ [[]]) (k := 2) fun l hl => by
              rcases List.mem_append.mp hl with z | z
              · exact hl2 l z
              · rw [List.mem_singleton.mp z]
                simp
            rw [List.length_append, List.length_singleton] at this
            omega
          rw [show linesOf ls [] = ls from if_pos rfl] at e6
          have hD7 := sm6 _ _ hD5
          have hp7 := sm6 _ _ hp5
          have w7 := w5.same sm6
          refine ⟨_, rfl, _, _, .lst (SqL.of e6) (dp_strs ls), .lst (SqL.of hD7) (dp_strs ls), shaped_strs hsm, shaped_strs hsm, _, rfl, ?_⟩
          rw [eq_strs hsm]
          refine iteF ?_
          -- the lines joined
          refine ⟨⟨_, rfl⟩, _, rfl, _, D, ls.map S, rfl, rfl, .inl (SqL.of (by rw [← e1]; exact hD7)), ?_, ?_⟩
          · have := sum_le (ls := ls) (k := 2) hl2
            have e0 : (("\n" : Str)).length = 1 := by decide +kernel
            rw [e0, List.length_map]
            omega
          rw [lit_nl, join_S]
          -- what is told, and what is due
          have split : ∃ init last, joinN ls = joinN (init ++ [last]) ∧ (∀ l ∈ init ++ [last], l = [] ∨ l ∈ ls) ∧ (init ++ [last]).length ≤ 6 ∧ (ls = [] → linesOf init last = []) ∧
              (∀ a b, ls = a ++ [b] → linesOf init last = if b = [] then a else ls) := by
            cases hls0 : ls.reverse with
            | nil =>
              have : ls = [] := by simpa using hls0
              refine ⟨[], [], by rw [this]; rfl, by simp, by simp, fun _ => rfl, fun a b e => ?_⟩
              rw [this] at e
              simp at e
            | cons b ra =>
              have : ls = ra.reverse ++ [b] := by
                have := congrArg List.reverse hls0
                simpa using this
              refine ⟨ra.reverse, b, by rw [this], fun l hl => .inr (by rw [this]; exact hl), by rw [← this]; omega, fun e => ?_, fun a' b' e => ?_⟩
              · rw [this] at e
                simp at e
              · have e3 := this.symm.trans e
                obtain ⟨e4, e5⟩ := List.append_inj' e3 rfl
                have e6 : b = b' := by simpa using e5
                subst e4 e6
                unfold linesOf
                rw [this]
          obtain ⟨init, last, ej, hmem, hln, hz1, hz2⟩ := split
          rw [ej]
          refine ⟨init, last, rfl, ?_, ?_, fun p5 H8 np5 sm8 e8 => ?_⟩
          · intro l hl h
            rcases hmem l hl with z | z
            · rw [z] at h
              cases h
            · exact h10 l z h
          · have := joinN_len (ls := init ++ [last]) (k := 2) fun l hl => by
              rcases hmem l hl with z | z
              · rw [z]
                simp
              · exact hl2 l z
            omega
          have hD8 := sm8 _ _ hD7
          have hp8 := sm8 _ _ hp7
          have w8 := w7.same sm8
          have hsmO : ∀ l ∈ linesOf init last, Sm l := by
            intro l hl
            have : l ∈ init ++ [last] := by
              unfold linesOf at hl
              split at hl
              · exact List.mem_append_left _ hl
              · exact hl
            rcases hmem l this with z | z
            · rw [z]
              exact fun c hc => by cases hc
            · exact hsm l z
          have fin : ∀ (t : TT) (ta tb : TE) (Qk : VK) (σ : L2.St), (∀ Q, tAnd (tTest (tOp (rNeD K) (tVar 5) (tLst tNil))) (tTest (tOp rEq (tOp (rIxL K) (tVar 5) (tUn (rU fun i => V.int (-i)) (tC (.int 1)))) (tC (.str "")))) σ H8 Q → t σ H8 Q) →
              σ[5]? = some (some (.ref D)) → (∀ H' Q, Same H8 H' → tSl (rSlL K) (tVar 5) tNoPart (tPart (tUn (rU fun i => V.int (-i)) (tC (.int 1)))) σ H' Q → ta σ H' Q) → (∀ H' Q, Same H8 H' → tVar 5 σ H' Q → tb σ H' Q) →
              (∀ v H9, (∃ D3 : Addr, v = .ref D3 ∧ Same H8 H9 ∧ H9 D3 = some (.lst ((linesOf init last).map fun l => V.str (S l)))) → Qk v H9) → tIf t ta tb σ H8 Qk := by
            intro t ta tb Qk σ ht h5 hta htb hQ
            show t σ H8 fun c H1 => if c = true then ta σ H1 Qk else tb σ H1 Qk
            refine ht _ ⟨_, h5, by show 0 ≤ sizeLine; decide, fun y1 ny1 => ?_⟩
            have sy := same_new (o := .lst []) ny1
            have hDy := sy _ _ hD8
            refine ⟨_, _, .lst (SqL.of hDy) (dp_strs ls), .lst (SqL.of upd_same) (dp_strs []), shaped_strs hsm, shaped_strs (by simp), _, rfl, ?_⟩
            cases hls0 : ls.reverse with
            | nil =>
              have els : ls = [] := by simpa using hls0
              have e9 := hz1 els
              refine iteF (iteF (htb _ _ sy ⟨_, h5, hQ _ _ ⟨D, rfl, sy, ?_⟩⟩)) |> cast (by rw [els]; rfl)
              rw [e9]
              rw [els] at hDy
              exact hDy
            | cons b ra =>
              have els : ls = ra.reverse ++ [b] := by
                have := congrArg List.reverse hls0
                simpa using this
              have e9 := hz2 _ _ els
              have ene : (!PyData.eqv (.list (ls.map fun l => PyData.str (S l))) (.list (([] : List (List Nat)).map fun l => PyData.str (S l)))) = true := by
                cases hl0 : ls with
                | nil =>
                  rw [hl0] at els
                  simp at els
                | cons x xs => rfl
              rw [ene]
              refine iteT ?_
              have hxs : (ls.map fun l => V.str (S l)) = (ra.reverse.map fun l => V.str (S l)) ++ [V.str (S b)] := by
                rw [els]
                simp
              refine ⟨_, h5, _, rfl, D, _, _, _, rfl, rfl, SqL.of hDy, by rw [hxs]; exact atI_last _ _, rfl, _, rfl, ?_⟩
              rw [lit_e, S_dec]
              by_cases hb0 : b = []
              · rw [decide_eq_true hb0]
                refine iteT (hta _ _ sy ⟨_, h5, _, rfl, _, rfl, D, _, rfl, SqL.of hDy, fun z1 nz1 => hQ _ _ ⟨z1, rfl, sy.trans (same_new nz1), ?_⟩⟩)
                rw [upd_same, e9, if_pos hb0, hxs]
                unfold cutV
                rw [HT.sIx_none]
                have : HT.sIx ((ra.reverse.map fun l => V.str (S l)) ++ [V.str (S b)]).length ((ra.reverse.map fun l => V.str (S l)) ++ [V.str (S b)]).length (some (-1)) = ra.reverse.length := by
                  unfold HT.sIx
                  simp
                  omega
                rw [this, List.drop_zero, Nat.sub_zero, List.take_left' (by simp)]
              · rw [decide_eq_false hb0]
                refine iteF (htb _ _ sy ⟨_, h5, hQ _ _ ⟨D, rfl, sy, ?_⟩⟩)
                rw [e9, if_neg hb0]
                exact hDy
          refine fin _ _ _ _ _ (fun Q h => h) rfl (fun _ _ _ h => h) (fun _ _ _ h => h) ?_
          rintro v H9 ⟨D3, rfl, sm9, e9⟩
          refine ⟨_, _, .lst (SqL.of (sm9 _ _ e8)) (dp_strs _), .lst (SqL.of e9) (dp_strs _), shaped_strs hsmO, shaped_strs hsmO, _, rfl, ?_⟩
          rw [eq_strs hsmO]
          refine iteF ?_
          have hD9 := sm9 _ _ hD8
          have hp9 := sm9 _ _ hp8
          -- the lines and "x"
          refine ⟨⟨_, rfl⟩, _, rfl, by show 1 ≤ sizeLine; decide, fun x1 nx1 => ⟨D, x1, _, _, rfl, rfl, by rw [upd_ne (ne_of_none hD9 nx1)]; exact hD9, upd_same, ?_, fun x2 nx2 => ?_⟩⟩
          · rw [List.length_map, sizeLine_eq]
            show ls.length + 1 ≤ _
            omega
          have hDx : (upd H9 x1 (.lst [V.str "x"])) D = some (.lst (ls.map fun l => V.str (S l))) := by rw [upd_ne (ne_of_none hD9 nx1)]; exact hD9
          have hpx : (upd H9 x1 (.lst [V.str "x"])) p3 = some (.lst (ms.map V.int)) := by rw [upd_ne (ne_of_none hp9 nx1)]; exact hp9
          have w9 := (w8.same sm9).new (o := .lst [V.str "x"]) nx1
          generalize upd H9 x1 (.lst [V.str "x"]) = Hx at hDx hpx w9 nx2 ⊢
          have exs : (ls.map fun l => V.str (S l)) ++ [V.str "x"] = (ls ++ [[120]]).map fun l => V.str (S l) := by
            rw [lit_x]
            simp
          rw [exs]
          refine ⟨_, x2, (ls ++ [[120]]).map S, rfl, rfl, .inl (SqL.of (by rw [upd_same, ← e1])), ?_, ?_⟩
          · have := sum_le (ls := ls ++ [[120]]) (k := 2) fun l hl => by
              rcases List.mem_append.mp hl with z | z
              · exact hl2 l z
              · rw [List.mem_singleton.mp z]
                simp
            rw [S_len, List.length_map, List.length_singleton]
            rw [List.length_append, List.length_singleton] at this ⊢
            omega
          rw [join_S]
          have hsmx : ∀ l ∈ ls ++ [[120]], Sm l := fun l hl => by
            rcases List.mem_append.mp hl with z | z
            · exact hsm l z
            · rw [List.mem_singleton.mp z]
              exact fun c hc => by
                have := List.mem_singleton.mp hc
                omega
          have hDy : (upd Hx x2 (.lst ((ls ++ [[120]]).map fun l => V.str (S l)))) D = some (.lst (ls.map fun l => V.str (S l))) := by rw [upd_ne (ne_of_none hDx nx2)]; exact hDx
          have hpy : (upd Hx x2 (.lst ((ls ++ [[120]]).map fun l => V.str (S l)))) p3 = some (.lst (ms.map V.int)) := by rw [upd_ne (ne_of_none hpx nx2)]; exact hpx
          generalize upd Hx x2 (.lst ((ls ++ [[120]]).map fun l => V.str (S l))) = Hy at hDy hpy ⊢
          refine ⟨ls, [120], rfl, ?_, ?_, fun p6 Hz np6 smz ez => ?_⟩
          · intro l hl h
            rcases List.mem_append.mp hl with z | z
            · exact h10 l z h
            · rw [List.mem_singleton.mp z] at h
              have := List.mem_singleton.mp h
              omega
          · have := joinN_len (ls := ls ++ [[120]]) (k := 2) fun l hl => by
              rcases List.mem_append.mp hl with z | z
              · exact hl2 l z
              · rw [List.mem_singleton.mp z]
                simp
            rw [List.length_append, List.length_singleton] at this
            omega
          rw [show linesOf ls [120] = ls ++ [[120]] from if_neg (by simp)] at ez
          have hDz := smz _ _ hDy
          have hpz := smz _ _ hpy
          refine ⟨_, rfl, by show 1 ≤ sizeLine; decide, fun y1 ny1 => ⟨D, y1, _, _, rfl, rfl, by rw [upd_ne (ne_of_none hDz ny1)]; exact hDz, upd_same, ?_, fun y2 ny2 => ?_⟩⟩
          · rw [List.length_map, sizeLine_eq]
            show ls.length + 1 ≤ _
            omega
          rw [exs]
          have sy1 := same_new (o := .lst [V.str "x"]) ny1
          have sy2 := same_new (o := .lst ((ls ++ [[120]]).map fun l => V.str (S l))) ny2
          refine ⟨_, _, .lst (SqL.of (sy2 _ _ (sy1 _ _ ez))) (dp_strs _), .lst (SqL.of upd_same) (dp_strs _), shaped_strs hsmx, shaped_strs hsmx, _, rfl, ?_⟩
          rw [eq_strs hsmx]
          refine iteF ?_
          exact ⟨_, _, _, _, _, rfl, sy2 _ _ (sy1 _ _ hpz)⟩
    · rintro σ H' ⟨v1, v2, v3, v4, v5, rfl, hp⟩
      exact q H'

theorem all_mk {l : PySem.W.OpenLaw} {w : World} {K : PySem.W.Frag} {h : Heap} {mg : Str → Option Value} {fa : Addr} (X : K.In h) (G : h.Ns mainGlobals mg) (hfa : mg "law" = some (.ref fa))
    {f0 : Addr} {od0 an0 : Option Addr} {sl0 : Array (Option Value)} {oc0 kV0 dc0 pm0 cd0 ct0 : Value}
    (a0 : PySem.W.nsIn K mainGlobals "lines_of" = some (some (.ref f0))) (l0 : K.lookup f0 = some ⟨oc0, od0, .func (PySem.W.fnOf "lines_of" "lines_of" (defArgs s_lines_of) (defBody s_lines_of) (defScope s_lines_of) .none kV0 dc0 pm0 an0 cd0 ct0), sl0⟩) (c0 : PySem.W.codeIn K cd0 "lines_of" = true) (k0 : PySem.W.keepIn K (.ref f0) = true)
    {f1 : Addr} {od1 an1 : Option Addr} {sl1 : Array (Option Value)} {oc1 kV1 dc1 pm1 cd1 ct1 : Value}
    (a1 : PySem.W.nsIn K mainGlobals "whole" = some (some (.ref f1))) (l1 : K.lookup f1 = some ⟨oc1, od1, .func (PySem.W.fnOf "whole" "whole" (defArgs s_whole) (defBody s_whole) (defScope s_whole) .none kV1 dc1 pm1 an1 cd1 ct1), sl1⟩) (c1 : PySem.W.codeIn K cd1 "whole" = true) (k1 : PySem.W.keepIn K (.ref f1) = true)
    {f2 : Addr} {od2 an2 : Option Addr} {sl2 : Array (Option Value)} {oc2 kV2 dc2 pm2 cd2 ct2 : Value}
    (a2 : PySem.W.nsIn K mainGlobals "indent" = some (some (.ref f2))) (l2 : K.lookup f2 = some ⟨oc2, od2, .func (PySem.W.fnOf "indent" "indent" (defArgs s_indent) (defBody s_indent) (defScope s_indent) .none kV2 dc2 pm2 an2 cd2 ct2), sl2⟩) (c2 : PySem.W.codeIn K cd2 "indent" = true) (k2 : PySem.W.keepIn K (.ref f2) = true)
    {f3 : Addr} {od3 an3 : Option Addr} {sl3 : Array (Option Value)} {oc3 kV3 dc3 pm3 cd3 ct3 : Value}
    (a3 : PySem.W.nsIn K mainGlobals "taken" = some (some (.ref f3))) (l3 : K.lookup f3 = some ⟨oc3, od3, .func (PySem.W.fnOf "taken" "taken" (defArgs s_taken) (defBody s_taken) (defScope s_taken) .none kV3 dc3 pm3 an3 cd3 ct3), sl3⟩) (c3 : PySem.W.codeIn K cd3 "taken" = true) (k3 : PySem.W.keepIn K (.ref f3) = true)
    {f4 : Addr} {od4 an4 : Option Addr} {sl4 : Array (Option Value)} {oc4 kV4 dc4 pm4 cd4 ct4 : Value}
    (a4 : PySem.W.nsIn K mainGlobals "told" = some (some (.ref f4))) (l4 : K.lookup f4 = some ⟨oc4, od4, .func (PySem.W.fnOf "told" "told" (defArgs s_told) (defBody s_told) (defScope s_told) .none kV4 dc4 pm4 an4 cd4 ct4), sl4⟩) (c4 : PySem.W.codeIn K cd4 "told" = true) (k4 : PySem.W.keepIn K (.ref f4) = true)
    {f5 : Addr} {od5 an5 : Option Addr} {sl5 : Array (Option Value)} {oc5 kV5 dc5 pm5 cd5 ct5 : Value}
    (a5 : PySem.W.nsIn K mainGlobals "white_width" = some (some (.ref f5))) (l5 : K.lookup f5 = some ⟨oc5, od5, .func (PySem.W.fnOf "white_width" "white_width" (defArgs s_white_width) (defBody s_white_width) (defScope s_white_width) .none kV5 dc5 pm5 an5 cd5 ct5), sl5⟩) (c5 : PySem.W.codeIn K cd5 "white_width" = true) (k5 : PySem.W.keepIn K (.ref f5) = true)
    {f6 : Addr} {od6 an6 : Option Addr} {sl6 : Array (Option Value)} {oc6 kV6 dc6 pm6 cd6 ct6 : Value}
    (a6 : PySem.W.nsIn K mainGlobals "_law_well" = some (some (.ref f6))) (l6 : K.lookup f6 = some ⟨oc6, od6, .func (PySem.W.fnOf "_law_well" "_law_well" (defArgs s__law_well) (defBody s__law_well) (defScope s__law_well) .none kV6 dc6 pm6 an6 cd6 ct6), sl6⟩) (c6 : PySem.W.codeIn K cd6 "_law_well" = true) (k6 : PySem.W.keepIn K (.ref f6) = true)
    {f7 : Addr} {od7 an7 : Option Addr} {sl7 : Array (Option Value)} {oc7 kV7 dc7 pm7 cd7 ct7 : Value}
    (a7 : PySem.W.nsIn K mainGlobals "_law_draw" = some (some (.ref f7))) (l7 : K.lookup f7 = some ⟨oc7, od7, .func (PySem.W.fnOf "_law_draw" "_law_draw" (defArgs s__law_draw) (defBody s__law_draw) (defScope s__law_draw) .none kV7 dc7 pm7 an7 cd7 ct7), sl7⟩) (c7 : PySem.W.codeIn K cd7 "_law_draw" = true) (k7 : PySem.W.keepIn K (.ref f7) = true)
    {f8 : Addr} {od8 an8 : Option Addr} {sl8 : Array (Option Value)} {oc8 kV8 dc8 pm8 cd8 ct8 : Value}
    (a8 : PySem.W.nsIn K mainGlobals "_law_one" = some (some (.ref f8))) (l8 : K.lookup f8 = some ⟨oc8, od8, .func (PySem.W.fnOf "_law_one" "_law_one" (defArgs s__law_one) (defBody s__law_one) (defScope s__law_one) .none kV8 dc8 pm8 an8 cd8 ct8), sl8⟩) (c8 : PySem.W.codeIn K cd8 "_law_one" = true) (k8 : PySem.W.keepIn K (.ref f8) = true)
    {f9 : Addr} {od9 an9 : Option Addr} {sl9 : Array (Option Value)} {oc9 kV9 dc9 pm9 cd9 ct9 : Value}
    (a9 : PySem.W.nsIn K mainGlobals "_law_line" = some (some (.ref f9))) (l9 : K.lookup f9 = some ⟨oc9, od9, .func (PySem.W.fnOf "_law_line" "_law_line" (defArgs s__law_line) (defBody s__law_line) (defScope s__law_line) .none kV9 dc9 pm9 an9 cd9 ct9), sl9⟩) (c9 : PySem.W.codeIn K cd9 "_law_line" = true) (k9 : PySem.W.keepIn K (.ref f9) = true)
    {f10 : Addr} {od10 an10 : Option Addr} {sl10 : Array (Option Value)} {oc10 kV10 dc10 pm10 cd10 ct10 : Value}
    (a10 : PySem.W.nsIn K mainGlobals "_law_blanks" = some (some (.ref f10))) (l10 : K.lookup f10 = some ⟨oc10, od10, .func (PySem.W.fnOf "_law_blanks" "_law_blanks" (defArgs s__law_blanks) (defBody s__law_blanks) (defScope s__law_blanks) .none kV10 dc10 pm10 an10 cd10 ct10), sl10⟩) (c10 : PySem.W.codeIn K cd10 "_law_blanks" = true) (k10 : PySem.W.keepIn K (.ref f10) = true)
    {f11 : Addr} {od11 an11 : Option Addr} {sl11 : Array (Option Value)} {oc11 kV11 dc11 pm11 cd11 ct11 : Value}
    (a11 : PySem.W.nsIn K mainGlobals "_law_walk_right" = some (some (.ref f11))) (l11 : K.lookup f11 = some ⟨oc11, od11, .func (PySem.W.fnOf "_law_walk_right" "_law_walk_right" (defArgs s__law_walk_right) (defBody s__law_walk_right) (defScope s__law_walk_right) .none kV11 dc11 pm11 an11 cd11 ct11), sl11⟩) (c11 : PySem.W.codeIn K cd11 "_law_walk_right" = true) (k11 : PySem.W.keepIn K (.ref f11) = true)
    {f12 : Addr} {od12 an12 : Option Addr} {sl12 : Array (Option Value)} {oc12 kV12 dc12 pm12 cd12 ct12 : Value}
    (a12 : PySem.W.nsIn K mainGlobals "_law_behind_right" = some (some (.ref f12))) (l12 : K.lookup f12 = some ⟨oc12, od12, .func (PySem.W.fnOf "_law_behind_right" "_law_behind_right" (defArgs s__law_behind_right) (defBody s__law_behind_right) (defScope s__law_behind_right) .none kV12 dc12 pm12 an12 cd12 ct12), sl12⟩) (c12 : PySem.W.codeIn K cd12 "_law_behind_right" = true) (k12 : PySem.W.keepIn K (.ref f12) = true)
    {f13 : Addr} {od13 an13 : Option Addr} {sl13 : Array (Option Value)} {oc13 kV13 dc13 pm13 cd13 ct13 : Value}
    (a13 : PySem.W.nsIn K mainGlobals "law" = some (some (.ref f13))) (l13 : K.lookup f13 = some ⟨oc13, od13, .func (PySem.W.fnOf "law" "law" (defArgs s_law) (defBody s_law) (defScope s_law) .none kV13 dc13 pm13 an13 cd13 ct13), sl13⟩) (c13 : PySem.W.codeIn K cd13 "law" = true) (k13 : PySem.W.keepIn K (.ref f13) = true)
    (z_enumerate : PySem.W.nsIn K mainGlobals "enumerate" = some none)
    (z_int : PySem.W.nsIn K mainGlobals "int" = some none)
    (z_len : PySem.W.nsIn K mainGlobals "len" = some none)
    (z_min : PySem.W.nsIn K mainGlobals "min" = some none)
    (z_range : PySem.W.nsIn K mainGlobals "range" = some none)
    {t_WHITE : Tok} (q_WHITE : PySem.W.nsIn K mainGlobals "WHITE" = some (some (.str " \t" t_WHITE)))
    {t_TAB_STOP : Tok} (q_TAB_STOP : PySem.W.nsIn K mainGlobals "TAB_STOP" = some (some (.int 4 t_TAB_STOP)))
    : ∃ fd : FuncData, (∀ (s : Shared) (v : Value), BindsTo s fd ⟨[v], []⟩ [("_law_script", v)]) ∧ ∀ base : Heap, K.In base → base.Ns mainGlobals mg → FnOk l.prog w K mg base CX0 4 fa fd ["_law_script"] (sp_law K) := by
  have e := hfa.symm.trans (PySem.W.mg_of X G a13)
  cases e
  have F0 := fun_mk (st := s_lines_of) l0 c0 k0
  have F1 := fun_mk (st := s_whole) l1 c1 k1
  have F2 := fun_mk (st := s_indent) l2 c2 k2
  have F3 := fun_mk (st := s_taken) l3 c3 k3
  have F4 := fun_mk (st := s_told) l4 c4 k4
  have F5 := fun_mk (st := s_white_width) l5 c5 k5
  have F6 := fun_mk (st := s__law_well) l6 c6 k6
  have F7 := fun_mk (st := s__law_draw) l7 c7 k7
  have F8 := fun_mk (st := s__law_one) l8 c8 k8
  have F9 := fun_mk (st := s__law_line) l9 c9 k9
  have F10 := fun_mk (st := s__law_blanks) l10 c10 k10
  have F11 := fun_mk (st := s__law_walk_right) l11 c11 k11
  have F12 := fun_mk (st := s__law_behind_right) l12 c12 k12
  have F13 := fun_mk (st := s_law) l13 c13 k13
  have b0 := F0.binds (ps := ["text"]) fun _ _ _ _ _ _ us hl => match us, hl with | [_], _ => rfl
  have b1 := F1.binds (ps := ["line"]) fun _ _ _ _ _ _ us hl => match us, hl with | [_], _ => rfl
  have b2 := F2.binds (ps := ["rest"]) fun _ _ _ _ _ _ us hl => match us, hl with | [_], _ => rfl
  have b3 := F3.binds (ps := ["rest", "many"]) fun _ _ _ _ _ _ us hl => match us, hl with | [_, _], _ => rfl
  have b4 := F4.binds (ps := ["rest"]) fun _ _ _ _ _ _ us hl => match us, hl with | [_], _ => rfl
  have b5 := F5.binds (ps := ["sign", "column"]) fun _ _ _ _ _ _ us hl => match us, hl with | [_, _], _ => rfl
  have b6 := F6.binds (ps := ["_law_cell"]) fun _ _ _ _ _ _ us hl => match us, hl with | [_], _ => rfl
  have b7 := F7.binds (ps := ["_law_well_here", "_law_many"]) fun _ _ _ _ _ _ us hl => match us, hl with | [_, _], _ => rfl
  have b8 := F8.binds (ps := ["_law_well_here", "_law_some"]) fun _ _ _ _ _ _ us hl => match us, hl with | [_, _], _ => rfl
  have b9 := F9.binds (ps := ["_law_well_here"]) fun _ _ _ _ _ _ us hl => match us, hl with | [_], _ => rfl
  have b10 := F10.binds (ps := ["_law_line_here", "_law_column"]) fun _ _ _ _ _ _ us hl => match us, hl with | [_, _], _ => rfl
  have b11 := F11.binds (ps := ["_law_well_here", "_law_line_here"]) fun _ _ _ _ _ _ us hl => match us, hl with | [_, _], _ => rfl
  have b12 := F12.binds (ps := ["_law_well_here", "_law_line_here"]) fun _ _ _ _ _ _ us hl => match us, hl with | [_, _], _ => rfl
  have T : Txt K mg := {
    a_lines_of := f0, d_lines_of := _, f_lines_of := F0, g_lines_of := PySem.W.mg_of X G a0, b_lines_of := b0,
    a_whole := f1, d_whole := _, f_whole := F1, g_whole := PySem.W.mg_of X G a1, b_whole := b1,
    a_indent := f2, d_indent := _, f_indent := F2, g_indent := PySem.W.mg_of X G a2, b_indent := b2,
    a_taken := f3, d_taken := _, f_taken := F3, g_taken := PySem.W.mg_of X G a3, b_taken := b3,
    a_told := f4, d_told := _, f_told := F4, g_told := PySem.W.mg_of X G a4, b_told := b4,
    a_white_width := f5, d_white_width := _, f_white_width := F5, g_white_width := PySem.W.mg_of X G a5, b_white_width := b5,
    a__law_well := f6, d__law_well := _, f__law_well := F6, g__law_well := PySem.W.mg_of X G a6, b__law_well := b6,
    a__law_draw := f7, d__law_draw := _, f__law_draw := F7, g__law_draw := PySem.W.mg_of X G a7, b__law_draw := b7,
    a__law_one := f8, d__law_one := _, f__law_one := F8, g__law_one := PySem.W.mg_of X G a8, b__law_one := b8,
    a__law_line := f9, d__law_line := _, f__law_line := F9, g__law_line := PySem.W.mg_of X G a9, b__law_line := b9,
    a__law_blanks := f10, d__law_blanks := _, f__law_blanks := F10, g__law_blanks := PySem.W.mg_of X G a10, b__law_blanks := b10,
    a__law_walk_right := f11, d__law_walk_right := _, f__law_walk_right := F11, g__law_walk_right := PySem.W.mg_of X G a11, b__law_walk_right := b11,
    a__law_behind_right := f12, d__law_behind_right := _, f__law_behind_right := F12, g__law_behind_right := PySem.W.mg_of X G a12, b__law_behind_right := b12,
    z_enumerate := PySem.W.mg_none_of X G z_enumerate,
    z_int := PySem.W.mg_none_of X G z_int,
    z_len := PySem.W.mg_none_of X G z_len,
    z_min := PySem.W.mg_none_of X G z_min,
    z_range := PySem.W.mg_none_of X G z_range,
    t_WHITE := t_WHITE, g_WHITE := PySem.W.mg_of X G q_WHITE,
    t_TAB_STOP := t_TAB_STOP, g_TAB_STOP := PySem.W.mg_of X G q_TAB_STOP }
  exact ⟨PySem.W.fnOf "law" "law" (defArgs s_law) (defBody s_law) (defScope s_law) .none kV13 dc13 pm13 an13 cd13 ct13, fun s v => .of_eq rfl, fun base _ _ => ok_law T F13⟩
end K10
open PySem PySem.W PyProof.Rows
set_option maxHeartbeats 0 in
theorem PySem.Challenge.cw_plainmark_k10_columns_holds : PySem.Challenge.rw_plainmark_k10_columns.Holds := by
  w_on; o_law; k_head; (case hw => w_witness2)
  k_fill
  refine L2.walk_of (l := PySem.Challenge.rw_plainmark_k10_columns) (n := 63) (k := 4) (x := "_law_script") (CX := fun _ => L2.CX0) (sp := fun w => K10.sp_law _) rfl (by decide) rfl ⟨rfl, by decide, by decide⟩ (fun w h Y => PySem.W.kIn_of Y) ?F (fun _ _ a ns hl _ hS => ⟨a, ns, rfl, hS, hl, fun _ => rfl⟩) (fun _ _ _ _ _ h => h)
  case F =>
    intro w mg fa h KX G hmg
    refine' K10.all_mk KX G hmg ?a0 ?l0 ?c0 ?k0 ?a1 ?l1 ?c1 ?k1 ?a2 ?l2 ?c2 ?k2 ?a3 ?l3 ?c3 ?k3 ?a4 ?l4 ?c4 ?k4 ?a5 ?l5 ?c5 ?k5 ?a6 ?l6 ?c6 ?k6 ?a7 ?l7 ?c7 ?k7 ?a8 ?l8 ?c8 ?k8 ?a9 ?l9 ?c9 ?k9 ?a10 ?l10 ?c10 ?k10 ?a11 ?l11 ?c11 ?k11 ?a12 ?l12 ?c12 ?k12 ?a13 ?l13 ?c13 ?k13 ?z_enumerate ?z_int ?z_len ?z_min ?z_range ?q_WHITE ?q_TAB_STOP
    (case a0 => k_is); (case l0 => k_is); (case c0 => k_is); (case k0 => k_is); (case a1 => k_is); (case l1 => k_is); (case c1 => k_is); (case k1 => k_is); (case a2 => k_is); (case l2 => k_is); (case c2 => k_is); (case k2 => k_is); (case a3 => k_is); (case l3 => k_is); (case c3 => k_is); (case k3 => k_is); (case a4 => k_is); (case l4 => k_is); (case c4 => k_is); (case k4 => k_is); (case a5 => k_is); (case l5 => k_is); (case c5 => k_is); (case k5 => k_is); (case a6 => k_is); (case l6 => k_is); (case c6 => k_is); (case k6 => k_is); (case a7 => k_is); (case l7 => k_is); (case c7 => k_is); (case k7 => k_is); (case a8 => k_is); (case l8 => k_is); (case c8 => k_is); (case k8 => k_is); (case a9 => k_is); (case l9 => k_is); (case c9 => k_is); (case k9 => k_is); (case a10 => k_is); (case l10 => k_is); (case c10 => k_is); (case k10 => k_is); (case a11 => k_is); (case l11 => k_is); (case c11 => k_is); (case k11 => k_is); (case a12 => k_is); (case l12 => k_is); (case c12 => k_is); (case k12 => k_is); (case a13 => k_is); (case l13 => k_is); (case c13 => k_is); (case k13 => k_is); (case z_enumerate => k_is); (case z_int => k_is); (case z_len => k_is); (case z_min => k_is); (case z_range => k_is); (case q_WHITE => k_is); (case q_TAB_STOP => k_is)
