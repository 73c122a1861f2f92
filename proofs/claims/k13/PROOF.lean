import PyProof.Rows.All
import Wide.All
import OpenK.AllK
import Wide.FinOn
import HandS.ForMost
import HandS.Wide
import HandS.StrMore
import HandS.Style
import HandS.Flow
import HandS.Walk
import PyProof.Draws
import PyProof.StrOps2

import PySem.Challenge.RW_plainmark_k13_raw_html

set_option Elab.async false
set_option linter.all false
set_option maxRecDepth 100000
/-! words of my own over the hand layer -/
namespace My
open PySem PySem.Spec PyProof.Rows L2

/-- a text by its signs -/
def S (l : List Nat) : Str := ⟨l.toArray⟩
theorem S_tl (l : List Nat) : (S l).cps.toList = l := by simp [S]
theorem S_of (z : Str) : z = S z.cps.toList := by
  cases z
  simp [S]
theorem S_len (l : List Nat) : (S l).length = l.length := by simp [S, Str.length]
theorem S_size (l : List Nat) : (S l).cps.size = l.length := by simp [S]
theorem S_get (l : List Nat) (i : Nat) : (S l).cps[i]? = l[i]? := by simp [S]
theorem S_app (a b : List Nat) : S a ++ S b = S (a ++ b) := by
  show (⟨a.toArray ++ b.toArray⟩ : Str) = ⟨(a ++ b).toArray⟩
  simp
theorem S_inj {a b : List Nat} (h : S a = S b) : a = b := by
  have := congrArg (fun z : Str => z.cps.toList) h
  simpa [S] using this
theorem S_dec (a b : List Nat) : decide (V.str (S a) = V.str (S b)) = decide (a = b) := by
  by_cases h : a = b
  · subst h
    simp
  · have h2 : ¬ V.str (S a) = V.str (S b) := fun e => h (S_inj (V.str.inj e))
    simp [h, h2]
theorem S_cut (l : List Nat) (k : Nat) : cutS (S l) (some (k : Int)) none = S (l.drop k) := by
  unfold cutS
  rw [HT.sIx_nat, HT.sIx_none, S_len, S_tl]
  show S _ = S _
  congr 1
  by_cases h : k ≤ l.length
  · rw [Nat.min_eq_left h]
    exact List.take_of_length_le (by rw [List.length_drop]; omega)
  · rw [Nat.min_eq_right (by omega), Nat.sub_self, List.take_zero, List.drop_of_length_le (by omega)]
theorem S_cut2 (l : List Nat) (j k : Nat) (h : j ≤ k) : cutS (S l) (some (j : Int)) (some (k : Int)) = S ((l.drop j).take (k - j)) := by
  unfold cutS
  rw [HT.sIx_nat, HT.sIx_nat, S_len, S_tl]
  show S _ = S _
  congr 1
  by_cases h1 : j ≤ l.length
  · rw [Nat.min_eq_left h1]
    by_cases h2 : k ≤ l.length
    · rw [Nat.min_eq_left h2]
    · rw [Nat.min_eq_right (by omega), List.take_of_length_le (by rw [List.length_drop]; omega), List.take_of_length_le (by rw [List.length_drop]; omega)]
  · rw [List.drop_of_length_le (by omega), List.drop_of_length_le (by omega), List.take_nil, List.take_nil]

/-- all that is tracked but L stays -/
def Keeps (L : Addr) (H H' : Hp) : Prop := ∀ b o, b ≠ L → H b = some o → H' b = some o
theorem Keeps.refl {L : Addr} (H : Hp) : Keeps L H H := fun _ _ _ h => h
theorem Keeps.trans {L : Addr} {H H1 H2 : Hp} (a : Keeps L H H1) (b : Keeps L H1 H2) : Keeps L H H2 := fun c o n h => b c o n (a c o n h)
theorem Keeps.new {L p : Addr} {H : Hp} {o : HO} (h : H p = none) : Keeps L H (upd H p o) := fun b u _ e => by
  rw [upd_ne (ne_of_none e h)]
  exact e
theorem Keeps.at {L : Addr} {H : Hp} {o : HO} : Keeps L H (upd H L o) := fun b u n e => by
  rw [upd_ne n]
  exact e
theorem Keeps.of {L : Addr} {H H' : Hp} (h : Same H H') : Keeps L H H' := fun b o _ e => h b o e
theorem same_new {p : Addr} {H : Hp} {o : HO} (h : H p = none) : Same H (upd H p o) := fun b u e => by
  rw [upd_ne (ne_of_none e h)]
  exact e
/-- a well of draws -/
def Well (H : Hp) (L : Addr) : Prop := ∃ x y : Int, H L = some (.lst [.int x, .int y])
theorem Well.same {H H' : Hp} {L : Addr} (h : Well H L) (s : Same H H') : Well H' L := by
  obtain ⟨x, y, e⟩ := h
  exact ⟨x, y, s _ _ e⟩
theorem Well.new {H : Hp} {L p : Addr} {o : HO} (h : Well H L) (n : H p = none) : Well (upd H p o) L := h.same (same_new n)
theorem Well.ne {H : Hp} {L p : Addr} (h : Well H L) (n : H p = none) : p ≠ L := by
  obtain ⟨x, y, e⟩ := h
  exact (ne_of_none e n).symm
theorem Well.kept {H H' : Hp} {L p : Addr} (h : Well H L) (k : Keeps L H H') (w : Well H' L) (n : H' p = none) : H p = none := by
  cases q : H p with
  | none => rfl
  | some o =>
    have z := k p o (w.ne n) q
    rw [n] at z
    cases z
theorem Keeps.free {L p : Addr} {H H' : Hp} (k : Keeps L H H') (n : H' p = none) (h : p ≠ L) : H p = none := by
  cases q : H p with
  | none => rfl
  | some o =>
    have z := k p o h q
    rw [n] at z
    cases z
theorem Keeps.seq {K : PySem.W.Frag} {L a : Addr} {H H' : Hp} {xs : List V} (k : Keeps L H H') (n : a ≠ L) (h : SqL K H a xs) : SqL K H' a xs := by
  rcases h with (h | ⟨o, h⟩) | h
  · exact .inl (.inl (k _ _ n h))
  · exact .inl (.inr ⟨o, k _ _ n h⟩)
  · exact .inr h
theorem Keeps.tup {K : PySem.W.Frag} {L a : Addr} {H H' : Hp} {xs : List V} (k : Keeps L H H') (n : a ≠ L) (h : SqT K H a xs) : SqT K H' a xs := by
  rcases h with (h | ⟨o, h⟩) | h
  · exact .inl (.inl (k _ _ n h))
  · exact .inl (.inr ⟨o, k _ _ n h⟩)
  · exact .inr h

section
variable {X : Cx}
/-- one sign, so often -/
theorem op_mul_str : OpR X (binaryOp .Mult) (fun x y H Q => ∃ (c j : Nat), x = .str (S [c]) ∧ y = .int (j : Int) ∧ j ≤ 1000 ∧ Q (.str (S (List.replicate j c))) H) := by
  intro pins s σ H x y v u Q I rx ry h
  obtain ⟨c, j, rfl, rfl, hj, q⟩ := h
  obtain ⟨t, rfl⟩ := rx
  obtain ⟨t', rfl⟩ := ry
  have hlen : (S [c]).length = 1 := S_len _
  refine PySem.P.mul_str (by simp; omega) (fun _ _ => by
    rw [hlen]
    have : (1 : Int) ≤ (2 ^ 63 - 1) / (j : Int) := by
      by_cases hj0 : j = 0
      · omega
      · refine Int.le_ediv_of_mul_le (by omega) ?_
        omega
    omega) (fun _ _ => by
    rw [hlen]
    have : (j : Int).toNat = j := by omega
    rw [this]
    exact decide_eq_false (by rw [sizeLine_eq]; omega)) ?_
  have fin : ∀ (l : List Nat), l = List.replicate j c → ∀ (v : Value) (k : Nat), RelV (.str (S l)) v → EP X pins σ Q v { s with toks := k } := fun l e v k r => ⟨.str (S l), H, I.tok _, r, by rw [e]; exact q⟩
  by_cases h0 : (j : Int) < 1
  · have e0 : j = 0 := by omega
    rw [if_pos h0]
    exact ⟨by decide, fin [] (by rw [e0]; rfl) _ _ ⟨_, rfl⟩⟩
  · rw [if_neg h0]
    by_cases h1 : j = 1
    · subst h1
      rw [if_pos (by rfl)]
      exact fin [c] rfl _ s.toks ⟨_, rfl⟩
    · rw [if_neg (by rw [hlen]; simp; omega)]
      have e : (⟨(List.replicate (j : Int).toNat (S [c]).cps).foldl (· ++ ·) #[]⟩ : Str) = S (List.replicate j c) := by
        have ej : (j : Int).toNat = j := by omega
        rw [ej]
        have gen : ∀ (n : Nat) (acc : List Nat), (List.replicate n (S [c]).cps).foldl (· ++ ·) acc.toArray = (acc ++ List.replicate n c).toArray := by
          intro n
          induction n with
          | zero => intro acc; simp
          | succ n ih =>
            intro acc
            rw [List.replicate_succ, List.foldl_cons]
            have : acc.toArray ++ (S [c]).cps = (acc ++ [c]).toArray := by simp [S]
            rw [this, ih, List.replicate_succ]
            simp
        have := gen j []
        simp at this
        unfold S
        congr 1
      rw [e]
      refine ⟨?_, fin _ rfl _ _ ⟨_, rfl⟩⟩
      rw [S_len, List.length_replicate, sizeLine_eq]
      omega

/-- a text with its places -/
def Its2 (z : Str) : It :=
  ⟨fun i _ => i < z.cps.size, fun i H v H' => ∃ T c, v = .ref T ∧ H T = none ∧ H' = upd H T (.tup [.int (i : Nat), .str (S [c])]) ∧ z.cps[i]? = some c, fun i _ => i = z.cps.size⟩
theorem turn_enumS {P : Program} {w : World} {K : PySem.W.Frag} {elts : List Expr} {kk : Nat} {tpos : Pos} (z : Str) (t : Tok) (e it : Addr) :
    Turn P w K (.Tuple elts kk tpos) (Its2 z) [e, it] e (fun i h => (∃ old, IsEnum h e it ((i : Nat) : Int) old) ∧ h.IsStrIter it (strIterType z) z t i ∧ e ≠ it) where
  mem := List.mem_cons_self ..
  obj := fun i h st b hb => by
    obtain ⟨⟨old, he⟩, ⟨o, ho, hc, hd⟩, _⟩ := st
    rcases List.mem_cons.mp hb with rfl | hb
    · exact ⟨_, he, fun v q => nomatch q⟩
    · rw [List.mem_singleton.mp hb]
      exact ⟨o, ho, fun v q => by rw [hd] at q; cases q⟩
  keep := fun i h h' st k => by
    obtain ⟨⟨old, he⟩, ⟨o, ho, r⟩, hne⟩ := st
    exact ⟨⟨old, k e (by simp) _ he⟩, ⟨o, k it (by simp) o ho, r⟩, hne⟩
  item := by
    intro X hP hw hK hc i pins s σ H E I hf st hg
    subst hP hw hK
    obtain ⟨⟨old, he⟩, hit, hne⟩ := st
    have hel : e < s.heap.objs.size := Heap.lt_size he
    have hil : it < s.heap.objs.size := by
      obtain ⟨_, q, _⟩ := hit
      exact Heap.lt_size q
    have hef : e ∉ [it] := fun q => hne (List.mem_singleton.mp q)
    have D : Draws X.prog X.w X.A.in1 it [it] z.cps.size (fun i v => ∃ c u, z.cps[i]? = some c ∧ v = .str ⟨#[c]⟩ u) (fun i h => h.IsStrIter it (strIterType z) z t i) := by
      unfold strIterType
      cases ha : z.cps.all (· < 128)
      · simpa [ha] using Draws.strWide (prog := X.prog) (w := X.w) (A := X.A.in1) (I.ok.hd hc) it z t
      · simpa [ha] using Draws.strAscii (prog := X.prog) (w := X.w) (A := X.A.in1) (I.ok.hd hc) it z t
    refine wpAny_pyNext_enum_itemD D he hit hg hne hef fun x h' tk hx ho hit' hT hsz hk => ?_
    obtain ⟨c, u, hcx, rfl⟩ := hx
    refine ⟨_, rfl, wpAny_letOwnedTupleGo_enum (s := { s with heap := h', toks := tk + 1 }) ho fun h'' he' sb => ?_⟩
    have hT2 : h''.get? s.heap.objs.size = some { cls := .type "tuple", data := .seq #[.int i tk, .str ⟨#[c]⟩ u] } := (sb.2 _ (Nat.ne_of_gt hel)).trans hT
    have new : ObjOk X.prog X.w (upd H s.heap.objs.size (.tup [.int (i : Nat), .str (S [c])])) h'' s.heap.objs.size (.tup [.int (i : Nat), .str (S [c])]) :=
      ⟨by show 2 ≤ sizeLine; decide, [.int i tk, .str ⟨#[c]⟩ u], .cons ⟨_, rfl⟩ (.cons ⟨_, rfl⟩ .nil), ⟨_, hT2, rfl, _, rfl⟩⟩
    have hold : ∀ b ob, b ∉ [e, it] → s.heap.get? b = some ob → h''.get? b = some ob := fun b ob hb q =>
      (sb.2 b (fun q => hb (by simp [q]))).trans (hk b ob (fun q => hb (by simp [q])) (fun q => hb (by simp [q])) q)
    have I1 : Inv X pins σ (upd H s.heap.objs.size (.tup [.int (i : Nat), .str (S [c])])) { s with heap := h'', toks := tk + 1 } :=
      I.turnedNew (t' := tk + 1) (ch := [e, it]) hold hf (Nat.le_refl _) new
    refine ⟨.ref s.heap.objs.size, _, I1, rfl, ⟨_, c, rfl, I.hok.fresh (Nat.le_refl _), rfl, hcx⟩, ⟨⟨.str ⟨#[c]⟩ u, ?_⟩, ?_, hne⟩, fun b hb => ?_⟩
    · have e1 : ((i + 1 : Nat) : Int) = (i : Int) + 1 := Int.natCast_succ i
      rw [e1]
      exact he'
    · obtain ⟨o, q, r⟩ := hit'
      exact ⟨o, (sb.2 it (Ne.symm hne)).trans q, r⟩
    · have hb' : b < s.heap.objs.size := by
        rcases List.mem_cons.mp hb with q | q
        · rw [q]
          exact hel
        · rw [List.mem_singleton.mp q]
          exact hil
      rw [upd_ne (Nat.ne_of_lt hb')]
      exact (hf b hb).1
  done := by
    intro X hP hw hK hc i pins s σ H E I hf st hg
    subst hP hw hK
    obtain ⟨⟨old, he⟩, hit, hne⟩ := st
    obtain ⟨f0, f1, f2, f3, f4, f5⟩ := hf it (by simp)
    have D : Draws X.prog X.w X.A.in1 it [it] z.cps.size (fun i v => ∃ c u, z.cps[i]? = some c ∧ v = .str ⟨#[c]⟩ u) (fun i h => h.IsStrIter it (strIterType z) z t i) := by
      unfold strIterType
      cases ha : z.cps.all (· < 128)
      · simpa [ha] using Draws.strWide (prog := X.prog) (w := X.w) (A := X.A.in1) (I.ok.hd hc) it z t
      · simpa [ha] using Draws.strAscii (prog := X.prog) (w := X.w) (A := X.A.in1) (I.ok.hd hc) it z t
    have hi : i = z.cps.size := hg
    subst hi
    exact wpAny_pyNext_enum_endD D he hit fun h' eb => ⟨rfl, I.turned (t' := s.toks) (fun b o hb q => eb b o hb q) f0 f1 f3 f4 f5⟩
  self := fun A i s Q E st h => by
    obtain ⟨⟨_, he⟩, _⟩ := st
    exact wpAny_pyIter_enum he h
def iEnumS (ta : TA) : TI := fun σ H R => ta σ H fun vs H1 => ∃ z, vs = [.str z] ∧ R (Its2 z) H1
theorem pi_enumS {e : Expr} {ta : TA} {p pos tpos : Pos} {elts : List Expr} {kk : Nat} (hg : Gl X "enumerate") (hm : X.mg "enumerate" = none) (ha : PA X [e] ta)
    (hs : starEach [e] X.env = [(false, eval e X.env)] := by rfl) : PI X (.Tuple elts kk tpos) (.Call (.Name "enumerate" p) [e] [] pos) (iEnumS ta) := by
  refine ⟨fun pins s σ H R I h => ?_⟩
  refine Call_ (ld_blt I hg hm boot_enumerate (PyProof.Rows.callWith_type1 (thn (ha.run pos pins s σ H _ I h) fun us s1 ⟨vs, H1, I1, r1, q1⟩ => ?_) hs rfl))
  obtain ⟨z, rfl, q⟩ := q1
  obtain ⟨u1, rfl, r⟩ := vals1 r1
  obtain ⟨t, rfl⟩ := r
  refine PySem.call_enumerate_str fun h' he hit hsz hk => wpAny_pyIter_enum he ?_
  have I2 : Inv X pins σ H1 { s1 with heap := h' } := I1.kept (t' := s1.toks) hk
  refine ⟨s1.heap.objs.size + 1, [s1.heap.objs.size + 1, s1.heap.objs.size], _, _, H1, rfl, I2, turn_enumS z t (s1.heap.objs.size + 1) s1.heap.objs.size, ⟨⟨.none, he⟩, hit, Nat.succ_ne_self _⟩, fun b hb => ?_, q⟩
  have hle : s1.heap.objs.size ≤ b := by
    rcases List.mem_cons.mp hb with q | q
    · rw [q]
      exact Nat.le_succ _
    · rw [List.mem_singleton.mp q]
      exact Nat.le_refl _
  exact I1.fpOk hle (I1.hok.fresh hle)
theorem walk_enumS {z : Str} : Walk (Its2 z) z.cps.size (fun _ => True) (fun i H v H' => ∃ T c, v = .ref T ∧ H T = none ∧ H' = upd H T (.tup [.int (i : Nat), .str (S [c])]) ∧ z.cps[i]? = some c) :=
  ⟨fun _ _ hi _ => hi, fun _ _ => rfl, fun _ _ _ _ _ _ y => y⟩
end

/-! ### data -/
def Sm (l : List Nat) : Prop := ∀ c ∈ l, c < 1114112
theorem Sm.ok {l : List Nat} (h : Sm l) : PyData.strOk (S l) = true := by
  unfold PyData.strOk S
  rw [Array.all_eq_true']
  intro c hc
  exact decide_eq_true (h c (by simpa using hc))
theorem Sm.drop {l : List Nat} (h : Sm l) (n : Nat) : Sm (l.drop n) := fun c hc => h c (List.mem_of_mem_drop hc)
theorem dp_strs {K : PySem.W.Frag} {H : Hp} : ∀ ls : List (List Nat), DpAll K H (ls.map fun l => V.str (S l)) (ls.map fun l => PyData.str (S l))
  | [] => .nil
  | l :: r => .cons (.str _) (dp_strs r)
theorem canLay_strs : ∀ {ls : List (List Nat)}, (∀ l ∈ ls, Sm l) → PyData.canLayAll0 (ls.map fun l => PyData.str (S l)) = true
  | [], _ => rfl
  | l :: r, h => by
    show (PyData.strOk (S l) && PyData.canLayAll0 (r.map fun l => PyData.str (S l))) = true
    rw [(h l (List.mem_cons_self ..)).ok, canLay_strs fun z hz => h z (List.mem_cons_of_mem _ hz)]
    rfl
theorem depth_strs : ∀ ls : List (List Nat), PyData.depthAll (ls.map fun l => PyData.str (S l)) = 0
  | [] => rfl
  | l :: r => by
    show max 0 (PyData.depthAll (r.map fun l => PyData.str (S l))) = 0
    rw [depth_strs r]
    rfl
theorem shaped_strs {ls : List (List Nat)} (h : ∀ l ∈ ls, Sm l) : SeqAt.shaped (.list (ls.map fun l => PyData.str (S l))) = true := by
  show (PyData.canLayAll0 _ && decide (PyData.depthAll _ + 1 ≤ 64)) = true
  rw [canLay_strs h, depth_strs]
  rfl
theorem eq_strs {ls : List (List Nat)} (h : ∀ l ∈ ls, Sm l) : PyData.eqv (.list (ls.map fun l => PyData.str (S l))) (.list (ls.map fun l => PyData.str (S l))) = true :=
  PySem.SeqAt.eqv_refl _ (canLay_strs h)
/-- a text and two ints -/
def D3 (l : List Nat) (b c : Int) : PyData := .tuple [.str (S l), .int b, .int c]
theorem dp3 {K : PySem.W.Frag} {H : Hp} {a : Addr} {l : List Nat} {b c : Int} (h : SqT K H a [.str (S l), .int b, .int c]) : Dp K H (.ref a) (D3 l b c) :=
  .tup h (.cons (.str _) (.cons (.int _) (.cons (.int _) .nil)))
theorem lay3 {l : List Nat} (h : Sm l) (b c : Int) : (D3 l b c).canLay0 = true := by
  show (PyData.strOk (S l) && (true && (true && true))) = true
  rw [h.ok]
  rfl
theorem shaped3 {l : List Nat} (h : Sm l) (b c : Int) : SeqAt.shaped (D3 l b c) = true := by
  show ((D3 l b c).canLay0 && decide ((D3 l b c).depth ≤ 64)) = true
  rw [lay3 h]
  rfl
theorem eq3 {l : List Nat} (h : Sm l) (b c : Int) : PyData.eqv (D3 l b c) (D3 l b c) = true := PySem.SeqAt.eqv_refl _ (lay3 h b c)

/-! ### a if t else b -/
def AnsB (t : TT) (σ : L2.St) (H : Hp) (b : Bool) : Prop := ∀ Q : Bool → Hp → Prop, Q b H → t σ H Q
def ValB (te : TE) (σ : L2.St) (H : Hp) (P : V → Hp → Prop) : Prop := ∀ Q : VK, (∀ v H', P v H' → Q v H') → te σ H Q
theorem tif_val {t : TT} {ta tb : TE} {σ : L2.St} {H : Hp} {P : V → Hp → Prop} (b : Bool) (ht : AnsB t σ H b) (ha : b = true → ValB ta σ H P) (hb : b = false → ValB tb σ H P) : ValB (tIf t ta tb) σ H P := by
  intro Q q
  refine ht _ ?_
  cases b with
  | true =>
    rw [if_pos rfl]
    exact ha rfl Q q
  | false =>
    rw [if_neg Bool.false_ne_true]
    exact hb rfl Q q
theorem sum_le : ∀ {ls : List (List Nat)} {k : Nat}, (∀ l ∈ ls, l.length ≤ k) → ((ls.map S).map (·.length)).sum ≤ k * ls.length
  | [], k, _ => by simp
  | a :: r, k, h => by
    have ih := sum_le (ls := r) (k := k) fun l hl => h l (List.mem_cons_of_mem _ hl)
    have ha := h a (List.mem_cons_self ..)
    rw [List.map_cons, List.map_cons, List.sum_cons, S_len, List.length_cons, Nat.mul_succ]
    omega

theorem asg_if {t : TT} {ta tb : TE} {g : TG} {u : TS} {D : Ends} {σ : L2.St} {H : Hp} (P : V → Hp → Prop) (b : Bool) (ht : AnsB t σ H b) (ha : b = true → ValB ta σ H P) (hb : b = false → ValB tb σ H P)
    (hq : ∀ v H', P v H' → g v σ H' (u D)) : tSeq (tAsg (tIf t ta tb) g) u D σ H :=
  tif_val b ht ha hb (fun v H' => g v σ H' (u D)) hq
theorem go_nx {D : Ends} {σ : L2.St} {H : Hp} (q : D.nx σ H) : tNext D σ H := q
end My

/-! ### texts by their signs: what the methods tell -/
namespace My
open PySem PySem.Spec PyProof.Rows L2 PySem.StrLaws PySem.Builtin.Str
theorem from_nat (n p : Nat) : fromIndex n (p : Int) = p := by
  unfold fromIndex
  have : ¬ (p : Int) < 0 := by omega
  rw [if_neg this]
  omega
theorem to_nat (n p : Nat) : toIndexW n (p : Int) = min n p := by
  unfold toIndexW
  have : ¬ (p : Int) < 0 := by omega
  rw [if_neg this]
  omega
theorem sub_S (t w : List Nat) (i : Nat) : subAt (S t) (S w) i = ((t.drop i).take w.length == w) := by
  rw [subAt_eq, S_tl, S_tl, S_len]
theorem take_pre : ∀ (w r : List Nat), (r.take w.length == w) = w.isPrefixOf r
  | [], r => by simp [List.isPrefixOf]
  | a :: w, [] => by simp [List.isPrefixOf]
  | a :: w, b :: r => by
    show (b :: r.take w.length == a :: w) = (a == b && w.isPrefixOf r)
    rw [← take_pre w r]
    show (b == a && (r.take w.length == w)) = _
    have e : (b == a) = (a == b) := by
      by_cases h : a = b
      · rw [h]
      · rw [beq_eq_false_iff_ne.mpr h, beq_eq_false_iff_ne.mpr fun e => h e.symm]
    rw [e]
theorem pre_len : ∀ (w r : List Nat), w.isPrefixOf r = true → w.length ≤ r.length
  | [], r, _ => Nat.zero_le _
  | a :: w, [], h => by cases h
  | a :: w, b :: r, h => by
    have h2 : w.isPrefixOf r = true := (Bool.and_eq_true_iff.mp (show (a == b && w.isPrefixOf r) = true from h)).2
    have := pre_len w r h2
    simp
    omega
theorem at_S (t w : List Nat) (hw : w ≠ []) (i : Nat) : At (S t) (S w) (S t).length i ↔ w.isPrefixOf (t.drop i) = true := by
  unfold At
  rw [sub_S, take_pre, S_len, S_len]
  constructor
  · exact fun h => h.2
  · intro h
    refine ⟨?_, h⟩
    have := pre_len _ _ h
    rw [List.length_drop] at this
    have h0 : 0 < w.length := List.length_pos_iff.mpr hw
    omega
theorem starts3 (t w : List Nat) (hw : w ≠ []) (p : Nat) : Txt.startswith3 (S t) (S w) (p : Int) = w.isPrefixOf (t.drop p) := by
  unfold Txt.startswith3
  rw [from_nat, sub_S, take_pre]
  cases h : w.isPrefixOf (t.drop p) with
  | false => simp
  | true =>
    have := (at_S t w hw p).mpr h
    have h1 : p + (S w).length ≤ (S t).length := this.1
    simp [h1]
theorem starts1 (t w : List Nat) (hw : w ≠ []) : Txt.startswith (S t) (S w) = w.isPrefixOf t := by
  have := starts3 t w hw 0
  unfold Txt.startswith3 at this
  rw [from_nat, List.drop_zero] at this
  exact this
/-- the first place of w -/
def findL (w : List Nat) : List Nat → Option Nat
  | [] => if w = [] then some 0 else none
  | c :: r => if w.isPrefixOf (c :: r) = true then some 0 else (findL w r).map (· + 1)
theorem findL_some {w : List Nat} : ∀ {r : List Nat} {k : Nat}, w ≠ [] → findL w r = some k → w.isPrefixOf (r.drop k) = true ∧ ∀ j, j < k → w.isPrefixOf (r.drop j) = false
  | [], k, hw, h => by
    unfold findL at h
    rw [if_neg hw] at h
    cases h
  | c :: r, k, hw, h => by
    unfold findL at h
    split at h
    · rename_i hp
      cases h
      exact ⟨hp, fun j hj => absurd hj (Nat.not_lt_zero _)⟩
    · rename_i hp
      cases hf : findL w r with
      | none => rw [hf] at h; cases h
      | some k' =>
        rw [hf] at h
        have e : k' + 1 = k := Option.some.inj h
        subst e
        obtain ⟨h1, h2⟩ := findL_some hw hf
        refine ⟨h1, fun j hj => ?_⟩
        cases j with
        | zero => exact eq_false_of_ne_true hp
        | succ j => exact h2 j (by omega)
theorem findL_none {w : List Nat} : ∀ {r : List Nat}, w ≠ [] → findL w r = none → ∀ j, w.isPrefixOf (r.drop j) = false
  | [], hw, _, j => by
    rw [List.drop_nil]
    cases w with
    | nil => exact absurd rfl hw
    | cons a w => rfl
  | c :: r, hw, h, j => by
    unfold findL at h
    split at h
    · cases h
    · rename_i hp
      cases hf : findL w r with
      | some k => rw [hf] at h; cases h
      | none =>
        cases j with
        | zero => exact eq_false_of_ne_true hp
        | succ j => exact findL_none hw hf j
theorem find3_S (t w : List Nat) (hw : w ≠ []) (p : Nat) : Txt.find3 (S t) (S w) (p : Int) = match findL w (t.drop p) with | some k => ((p + k : Nat) : Int) | none => -1 := by
  unfold Txt.find3
  rw [from_nat]
  rcases occ_head_from (S t) (S w) p 1 (Nat.le_refl _) with ⟨h0, hn⟩ | ⟨i, r, h0, hp, ha, hn⟩
  · rw [h0]
    cases hf : findL w (t.drop p) with
    | none => rfl
    | some k =>
      have h1 := (findL_some hw hf).1
      rw [List.drop_drop] at h1
      exact absurd ((at_S t w hw (p + k)).mpr h1) (hn (p + k) (by omega))
  · rw [h0]
    have ha' := (at_S t w hw i).mp ha
    cases hf : findL w (t.drop p) with
    | none =>
      have h1 := findL_none hw hf (i - p)
      rw [List.drop_drop, show p + (i - p) = i by omega, ha'] at h1
      cases h1
    | some k =>
      obtain ⟨h1, h2⟩ := findL_some hw hf
      rw [List.drop_drop] at h1
      have e : i = p + k := by
        rcases Nat.lt_trichotomy i (p + k) with h | h | h
        · have h3 := h2 (i - p) (by omega)
          rw [List.drop_drop, show p + (i - p) = i by omega, ha'] at h3
          cases h3
        · exact h
        · exact absurd ((at_S t w hw (p + k)).mpr h1) (hn (p + k) (by omega) h)
      show ((i : Nat) : Int) = _
      rw [e]
/-- one text in another -/
def inL (w r : List Nat) : Bool := (findL w r).isSome
theorem in_S (t w : List Nat) (hw : w ≠ []) : (!(occurrences (S t) (S w) 0 (S t).length 1).isEmpty) = inL w t := by
  have h := find3_S t w hw 0
  unfold Txt.find3 at h
  rw [from_nat, List.drop_zero] at h
  unfold inL
  cases ho : occurrences (S t) (S w) 0 (S t).length 1 with
  | nil =>
    rw [ho] at h
    cases hf : findL w t with
    | none => rfl
    | some k =>
      rw [hf] at h
      have h' : (-1 : Int) = ((0 + k : Nat) : Int) := h
      omega
  | cons a b =>
    rw [ho] at h
    cases hf : findL w t with
    | none =>
      rw [hf] at h
      have h' : ((a : Nat) : Int) = -1 := h
      omega
    | some k => rfl
/-- signs counted -/
theorem occ_count (t : List Nat) (c hi limit : Nat) : ∀ (n a : Nat) (st : Array Nat × Nat), st.2 ≤ a → st.1.size + n ≤ limit → hi ≤ t.length → a + n = hi + 1 ∨ (n = 0 ∧ hi < a) →
    (forIn (List.range' a n) st (occBody (S t) (S [c]) hi limit)).run.fst.size = st.1.size + ((t.drop a).take (hi - a)).count c
  | 0, a, st, h1, h2, h3, h4 => by
    have : hi - a = 0 := by omega
    rw [this]
    simp
  | n + 1, a, st, h1, h2, h3, h4 => by
    rw [List.range'_succ, List.forIn_cons]
    have hl : (S [c]).length = 1 := S_len _
    have stay : ¬ (((st.1.size < limit ∧ st.2 ≤ a) ∧ a + (S [c]).length ≤ hi) ∧ subAt (S t) (S [c]) a = true) →
        (occBody (S t) (S [c]) hi limit a st) = pure (ForInStep.yield st) := fun z => by
      unfold occBody
      rw [if_neg z]
    by_cases ha : a < hi
    · have hat : a < t.length := by omega
      have hd : t.drop a = t[a] :: t.drop (a + 1) := List.drop_eq_getElem_cons hat
      have hs : hi - a = (hi - (a + 1)) + 1 := by omega
      have hsub : subAt (S t) (S [c]) a = (t[a] == c) := by
        rw [sub_S, hd]
        show (t[a] :: (t.drop (a + 1)).take 0 == [c]) = _
        rw [List.take_zero]
        by_cases h : t[a] = c <;> simp [h]
      have hcnt : ((t.drop a).take (hi - a)).count c = ((t.drop (a + 1)).take (hi - (a + 1))).count c + if t[a] == c then 1 else 0 := by
        rw [hd, hs, List.take_succ_cons, List.count_cons]
      rw [hcnt]
      by_cases hc : t[a] = c
      · have e : occBody (S t) (S [c]) hi limit a st = pure (ForInStep.yield (st.1.push a, a + (S [c]).length)) := by
          unfold occBody
          rw [if_pos ⟨⟨⟨by omega, h1⟩, by omega⟩, by rw [hsub]; simp [hc]⟩]
        rw [e, hl]
        have ih := occ_count t c hi limit n (a + 1) (st.1.push a, a + 1) (Nat.le_refl _) (by rw [Array.size_push]; omega) h3 (by omega)
        have e1 : (if t[a] == c then 1 else 0) = 1 := by rw [hc]; simp
        rw [e1]
        refine Eq.trans ih ?_
        rw [Array.size_push]
        omega
      · rw [stay (fun z => by have := z.2; rw [hsub] at this; simp at this; exact hc this)]
        have ih := occ_count t c hi limit n (a + 1) st (by omega) (by omega) h3 (by omega)
        have e1 : (if t[a] == c then 1 else 0) = 0 := by simp [hc]
        rw [e1]
        exact ih
    · rw [stay (fun z => by have := z.1.2; omega)]
      have ih := occ_count t c hi limit n (a + 1) st (by omega) (by omega) h3 (by omega)
      have e0 : hi - a = 0 := by omega
      have e1 : hi - (a + 1) = 0 := by omega
      rw [e1] at ih
      rw [e0]
      refine Eq.trans ih ?_
      simp
theorem count_S (t : List Nat) (c p e : Nat) (he : e ≤ t.length) (hp : p ≤ e) : Txt.countIn (S t) (S [c]) (p : Int) (e : Int) = (((t.drop p).take (e - p)).count c : Nat) := by
  unfold Txt.countIn
  rw [from_nat, to_nat, S_len, Nat.min_eq_right he, occ_eq]
  have h := occ_count t c e (t.length + 1) (e + 1 - p) p (#[], p) (Nat.le_refl _) (by simp; omega) he (by omega)
  rw [Array.length_toList]
  congr 1
  rw [h]
  simp
/-- blank: nothing but such signs -/
theorem tw_all {g : Nat → Bool} : ∀ {t : List Nat}, t.all g = true → t.takeWhile g = t
  | [], _ => rfl
  | a :: r, h => by
    have h2 := Bool.and_eq_true_iff.mp (show (g a && r.all g) = true from h)
    rw [List.takeWhile_cons, if_pos h2.1, tw_all h2.2]
theorem tw_not {g : Nat → Bool} : ∀ {t : List Nat}, t.all g = false → ∃ c r, t.drop (t.takeWhile g).length = c :: r ∧ g c = false
  | [], h => by cases h
  | a :: r, h => by
    rw [List.takeWhile_cons]
    cases hg : g a with
    | false => exact ⟨a, r, by simp, hg⟩
    | true =>
      have h2 : r.all g = false := by
        have : (g a && r.all g) = false := h
        rw [hg] at this
        simpa using this
      obtain ⟨c, r', h3, h4⟩ := tw_not h2
      exact ⟨c, r', by simpa using h3, h4⟩
theorem strip_nil (t w : List Nat) : ((Txt.stripChars (S t) (S w)).cps.toList = []) ↔ t.all (fun c => w.contains c) = true := by
  have hg : (S w).cps.contains = fun c => w.contains c := by
    funext c
    simp [S]
  unfold Txt.stripChars Txt.stripBy stripSame stripped stripLo stripHi
  rw [hg]
  simp only [if_true]
  rw [S_tl, S_len]
  cases h : t.all (fun c => w.contains c) with
  | true =>
    have e := tw_all h
    rw [e, List.drop_length]
    simp only [List.reverse_nil, List.takeWhile_nil, List.length_nil, Nat.sub_zero]
    have key : (if (t.length == 0 && t.length == t.length) = true then S t else strSub (S t) t.length t.length).cps.toList = [] := by
      by_cases h0 : (t.length == 0 && t.length == t.length) = true
      · rw [if_pos h0, S_tl]
        have h1 : t.length = 0 := by simpa using h0
        exact List.length_eq_zero_iff.mp h1
      · rw [if_neg h0, strSub_toList, Nat.sub_self, List.take_zero]
    exact ⟨fun _ => trivial, fun _ => key⟩
  | false =>
    constructor
    · intro h0
      exfalso
      obtain ⟨c, r, h1, h2⟩ := tw_not h
      have hlen : (t.takeWhile (fun c => w.contains c)).length < t.length := by
        have := congrArg List.length h1
        rw [List.length_drop, List.length_cons] at this
        omega
      split at h0
      · rw [S_tl] at h0
        rw [h0] at hlen
        simp at hlen
      · rw [strSub_toList, S_tl, h1] at h0
        have hr : ((c :: r).reverse.takeWhile (fun c => w.contains c)).length ≤ r.length := by
          rw [List.reverse_cons]
          by_cases hall : r.reverse.all (fun c => w.contains c) = true
          · rw [List.takeWhile_append_of_pos (by simpa using hall), List.takeWhile_cons, if_neg (by rw [h2]; exact Bool.false_ne_true)]
            simp
          · obtain ⟨x, y, h5, h6⟩ := tw_not (eq_false_of_ne_true hall)
            have h7 : (r.reverse.takeWhile (fun c => w.contains c)).length < r.reverse.length := by
              have := congrArg List.length h5
              rw [List.length_drop] at this
              simp at this
              simp
              omega
            have h8 : (r.reverse ++ [c]).takeWhile (fun c => w.contains c) = r.reverse.takeWhile (fun c => w.contains c) := by
              have e := List.takeWhile_append (p := fun c => w.contains c) (xs := r.reverse) (ys := [c])
              rw [e, if_neg (by omega)]
            rw [h8]
            have := List.length_reverse (as := r)
            omega
        have h9 : (c :: r).length = t.length - (t.takeWhile (fun c => w.contains c)).length := by
          rw [← h1, List.length_drop]
        have h10 := congrArg List.length h0
        rw [List.length_take] at h10
        simp only [List.length_cons, List.length_nil] at h10 h9
        omega
    · intro h1
      cases h1
theorem strip_blank (t w : List Nat) : decide (V.str (Txt.stripChars (S t) (S w)) = V.str (S [])) = t.all (fun c => w.contains c) := by
  rw [S_of (Txt.stripChars (S t) (S w)), S_dec]
  cases h : t.all (fun c => w.contains c) with
  | true => exact decide_eq_true ((strip_nil t w).mpr h)
  | false => exact decide_eq_false fun z => by rw [(strip_nil t w).mp z] at h; cases h
/-- small letters, great letters -/
theorem lower_S (t : List Nat) (h : ∀ c ∈ t, c < 128) : Txt.lower (S t) = S (t.map lo1) := by
  rw [lower_ascii (by rw [S_tl]; exact h)]
  show (⟨t.toArray.map lo1⟩ : Str) = ⟨(t.map lo1).toArray⟩
  simp
theorem upper_S (t : List Nat) (h : ∀ c ∈ t, c < 128) : Txt.upper (S t) = S (t.map up1) := by
  rw [upper_ascii (by rw [S_tl]; exact h)]
  show (⟨t.toArray.map up1⟩ : Str) = ⟨(t.map up1).toArray⟩
  simp
end My

/-! ### text.endswith((a, b, c)) -/
namespace PySem
open Sem (wp)
open Builtin Builtin.Str
theorem ends3_meets (x a b c : Str) (t ta tb tc : Tok) (p : Addr) (o : Obj) (n : Nat) :
    Meets (Builtin.«str.endswith» ⟨[.str x t, .ref p], []⟩) (fun _ R s => s.heap.get? p = some o ∧ o.cls = .type "tuple" ∧ o.data = .seq #[.str a ta, .str b tb, .str c tc] n ∧
      R (.ok (.ret (.bool (Txt.endswith x a || (Txt.endswith x b || Txt.endswith x c))))) s) :=
  Meets.of_wp fun prog w A R s hs => by
    obtain ⟨hp, g, d, tk, os⟩ := s
    obtain ⟨ho, hc, hd, hs⟩ := hs
    obtain ⟨cls, dd, dt, sl⟩ := o
    simp only at hc hd ho
    subst hc hd
    have hT : (⟨hp, g, d, tk, os⟩ : Shared).TypeIs (.ref p) "tuple" := ⟨_, ho, rfl⟩
    have ht := isSubtype_tuple_tuple
    have e0 : ∃ f : Str → Nat → Nat → Str → Bool, Builtin.«str.endswith» ⟨[.str x t, .ref p], []⟩ = affixEntry "endswith" f ⟨[.str x t, .ref p], []⟩ ∧ ∀ y : Str, f x (0 : Int).toNat (min (x.length : Int).toNat x.length) y = Txt.endswith x y :=
      ⟨_, rfl, fun y => by
        have em : (min (x.length : Int).toNat x.length) = x.length := by simp
        rw [em]
        rfl⟩
    obtain ⟨f, e0, hf⟩ := e0
    rw [e0]
    unfold affixEntry
    repeat (any_goals (first | assumption | wp_step))
    simp only [hf]
    cases ha : Txt.endswith x a
    · simp only [Bool.false_eq_true, if_false]
      repeat (any_goals (first | assumption | wp_step))
      cases hb : Txt.endswith x b
      · simp only [Bool.false_eq_true, if_false]
        repeat (any_goals (first | assumption | wp_step))
        cases hc : Txt.endswith x c
        · simp only [Bool.false_eq_true, if_false]
          repeat (any_goals (first | assumption | wp_step))
          rw [ha, hb, hc] at hs
          exact ⟨_, rfl, hs⟩
        · simp only [if_true]
          repeat (any_goals (first | assumption | wp_step))
          rw [ha, hb, hc] at hs
          exact ⟨_, rfl, hs⟩
      · simp only [if_true]
        repeat (any_goals (first | assumption | wp_step))
        rw [ha, hb] at hs
        exact ⟨_, rfl, hs⟩
    · simp only [if_true]
      repeat (any_goals (first | assumption | wp_step))
      rw [ha] at hs
      exact ⟨_, rfl, hs⟩
end PySem
namespace My
open PySem PySem.Spec PyProof.Rows L2
/-- text.endswith((a, b, c)) -/
theorem mt_ends3 {X : Cx} : MtR X "str.endswith" (fun x xs H Q => ∃ (y a b c : Str) (p : Addr), x = .str y ∧ xs = [.ref p] ∧ SqT X.K H p [.str a, .str b, .str c] ∧ Q (.bl (Txt.endswith y a || (Txt.endswith y b || Txt.endswith y c))) H) := by
  intro pins s σ H x xs v us Q I rx rs h
  obtain ⟨y, a, b, c, p, rfl, rfl, hq, q⟩ := h
  obtain ⟨t, rfl⟩ := rx
  cases rs with
  | cons r1 rs =>
    cases rs
    cases r1
    obtain ⟨its, r, pl, hz⟩ := I.tuple hq
    obtain ⟨o, ho, hc, n, hd⟩ := pl
    cases r with
    | cons ra r => cases r with
      | cons rb r => cases r with
        | cons rc r =>
          cases r
          obtain ⟨ta, rfl⟩ := ra
          obtain ⟨tb, rfl⟩ := rb
          obtain ⟨tc, rfl⟩ := rc
          exact call_meets F.slot_str_endswith (typeIs_str _ _ _) F.entry_str_endswith (F.args_str_endswith_2 _ _) (ends3_meets y a b c t ta tb tc p o n) ⟨ho, hc, hd, .bl _, H, I, rfl, q⟩
end My

namespace TM
open My
/-! ### tags, by what is left of a text -/
def LettersL : List Nat := [97, 98, 99, 100, 101, 102, 103, 104, 105, 106, 107, 108, 109, 110, 111, 112, 113, 114, 115, 116, 117, 118, 119, 120, 121, 122, 65, 66, 67, 68, 69, 70, 71, 72, 73, 74, 75, 76, 77, 78, 79, 80, 81, 82, 83, 84, 85, 86, 87, 88, 89, 90]
def FiguresL : List Nat := [48, 49, 50, 51, 52, 53, 54, 55, 56, 57]
def NameL : List Nat := LettersL ++ FiguresL ++ [45]
def KeyL : List Nat := LettersL ++ FiguresL ++ [95, 46, 58, 45]
def GapL : List Nat := [32, 9, 10]
def BareL : List Nat := [32, 9, 10, 34, 39, 61, 60, 62, 96]
def isG (c : Nat) : Bool := GapL.contains c
def pos (t r : List Nat) : Nat := t.length - r.length
theorem pos_le (t r : List Nat) : pos t r ≤ t.length := Nat.sub_le _ _
theorem pos_drop {t r : List Nat} (h : r <:+ t) : t.drop (pos t r) = r := (List.suffix_iff_eq_drop.mp h).symm
theorem drop_pos {t : List Nat} {p : Nat} (h : p ≤ t.length) : pos t (t.drop p) = p := by
  unfold pos
  rw [List.length_drop]
  omega
theorem suf_drop (t : List Nat) (p : Nat) : t.drop p <:+ t := List.drop_suffix p t
theorem suf_dw (g : Nat → Bool) (r : List Nat) : r.dropWhile g <:+ r := List.dropWhile_suffix g
def ov (t : List Nat) : Option (List Nat) → L2.V
  | none => .non
  | some r => .int (pos t r : Nat)
def ba (ws r : List Nat) : List Nat := r.dropWhile fun c => ws.contains c
def gapR (r : List Nat) : List Nat := if (r.takeWhile isG).count 10 > 1 then r else r.dropWhile isG
theorem suf_gap (r : List Nat) : gapR r <:+ r := by
  unfold gapR
  split
  · exact List.suffix_refl _
  · exact suf_dw _ _
def letterR : List Nat → Bool
  | c :: _ => LettersL.contains c
  | [] => false
def nameR (r : List Nat) : Option (List Nat) := if letterR r = true then some (ba NameL r) else none
def signR (c : Nat) (r : List Nat) : Option (List Nat) := if ([c] : List Nat).isPrefixOf r = true then some (r.drop 1) else none
def firstR (w r : List Nat) : Option (List Nat) := (findL w r).map fun k => r.drop (k + w.length)
def bareR (r : List Nat) : List Nat := r.dropWhile fun c => !BareL.contains c
def valueR (r : List Nat) : Option (List Nat) :=
  if ([39] : List Nat).isPrefixOf r = true then firstR [39] (r.drop 1)
  else if ([34] : List Nat).isPrefixOf r = true then firstR [34] (r.drop 1)
  else if (bareR r).length = r.length then none else some (bareR r)
def attrR (r : List Nat) : Option (List Nat) :=
  if (gapR r).length = r.length then none
  else if letterR (gapR r) = false ∧ (gapR r).take 1 ≠ [95] ∧ (gapR r).take 1 ≠ [58] then none
  else if ([61] : List Nat).isPrefixOf (gapR (ba KeyL (gapR r))) = false then some (ba KeyL (gapR r))
  else valueR (gapR ((gapR (ba KeyL (gapR r))).drop 1))
def attrsR : Nat → List Nat → List Nat
  | 0, r => r
  | n + 1, r => match attrR r with
    | none => r
    | some r' => attrsR n r'
def endR (r : List Nat) : Option (List Nat) := signR 62 (if ([47] : List Nat).isPrefixOf (gapR r) = true then (gapR r).drop 1 else gapR r)
def openR (r : List Nat) : Option (List Nat) := match nameR (r.drop 1) with
  | none => none
  | some e => endR (attrsR e.length e)
def closeR (r : List Nat) : Option (List Nat) := match nameR (r.drop 2) with
  | none => none
  | some e => signR 62 (gapR e)
def tagR (r : List Nat) : Option (List Nat) :=
  if ([60, 33, 45, 45] : List Nat).isPrefixOf r = true then firstR [45, 45, 62] (r.drop 2)
  else if ([60, 63] : List Nat).isPrefixOf r = true then firstR [63, 62] (r.drop 2)
  else if ([60, 33, 91, 67, 68, 65, 84, 65, 91] : List Nat).isPrefixOf r = true then firstR [93, 93, 62] (r.drop 9)
  else if ([60, 33] : List Nat).isPrefixOf r = true ∧ letterR (r.drop 2) = true then firstR [62] (r.drop 3)
  else if ([60, 47] : List Nat).isPrefixOf r = true then closeR r
  else if ([60] : List Nat).isPrefixOf r = true then openR r
  else none
theorem suf_first {w r r' : List Nat} (h : firstR w r = some r') : r' <:+ r := by
  unfold firstR at h
  cases hf : findL w r with
  | none => rw [hf] at h; cases h
  | some k =>
    rw [hf] at h
    have e : r.drop (k + w.length) = r' := Option.some.inj h
    rw [← e]
    exact List.drop_suffix _ _
theorem suf_value {r r' : List Nat} (h : valueR r = some r') : r' <:+ r := by
  unfold valueR at h
  split at h
  · exact (suf_first h).trans (List.drop_suffix _ _)
  · split at h
    · exact (suf_first h).trans (List.drop_suffix _ _)
    · split at h
      · cases h
      · have e := Option.some.inj h
        rw [← e]
        exact suf_dw _ _
theorem suf_attr {r r' : List Nat} (h : attrR r = some r') : r' <:+ r := by
  unfold attrR at h
  split at h
  · cases h
  · split at h
    · cases h
    · have h1 : ba KeyL (gapR r) <:+ r := (suf_dw _ _).trans (suf_gap r)
      split at h
      · have e := Option.some.inj h
        rw [← e]
        exact h1
      · exact (suf_value h).trans ((suf_gap _).trans ((List.drop_suffix _ _).trans ((suf_gap _).trans h1)))
theorem dw_len (g : Nat → Bool) (r : List Nat) : (r.dropWhile g).length ≤ r.length := (suf_dw g r).length_le
/-- an attribute takes something -/
theorem attr_lt {r r' : List Nat} (h : attrR r = some r') : r'.length < r.length := by
  unfold attrR at h
  split at h
  · cases h
  · rename_i h0
    have hg : (gapR r).length < r.length := by
      have := (suf_gap r).length_le
      omega
    split at h
    · cases h
    · have h1 : (ba KeyL (gapR r)).length ≤ (gapR r).length := dw_len _ _
      split at h
      · have e := Option.some.inj h
        rw [← e]
        omega
      · have h2 := (suf_value h).length_le
        have h3 := (suf_gap ((gapR (ba KeyL (gapR r))).drop 1)).length_le
        have h4 := (List.drop_suffix 1 (gapR (ba KeyL (gapR r)))).length_le
        have h5 := (suf_gap (ba KeyL (gapR r))).length_le
        omega
theorem suf_attrs : ∀ (n : Nat) (r : List Nat), attrsR n r <:+ r
  | 0, r => List.suffix_refl _
  | n + 1, r => by
    unfold attrsR
    split
    · exact List.suffix_refl _
    · rename_i r' h
      exact (suf_attrs n r').trans (suf_attr h)
theorem attrs_more : ∀ (n m : Nat) (r : List Nat), r.length ≤ n → r.length ≤ m → attrsR n r = attrsR m r
  | 0, m, r, h1, h2 => by
    have hr : r = [] := List.length_eq_zero_iff.mp (by omega)
    subst hr
    cases m with
    | zero => rfl
    | succ m => rfl
  | n + 1, 0, r, h1, h2 => by
    have hr : r = [] := List.length_eq_zero_iff.mp (by omega)
    subst hr
    rfl
  | n + 1, m + 1, r, h1, h2 => by
    unfold attrsR
    cases ha : attrR r with
    | none => rfl
    | some r' =>
      have := attr_lt ha
      exact attrs_more n m r' (by omega) (by omega)
theorem attrs_step {r r' : List Nat} (h : attrR r = some r') : attrsR r.length r = attrsR r'.length r' := by
  have hl := attr_lt h
  have e : attrsR r.length r = attrsR (r.length - 1 + 1) r := attrs_more _ _ _ (Nat.le_refl _) (by omega)
  rw [e]
  conv => lhs; unfold attrsR
  rw [h]
  exact attrs_more _ _ _ (by omega) (Nat.le_refl _)
theorem attrs_stop {r : List Nat} (h : attrR r = none) : attrsR r.length r = r := by
  have e : attrsR r.length r = attrsR (r.length + 1) r := attrs_more _ _ _ (Nat.le_refl _) (by omega)
  rw [e]
  unfold attrsR
  rw [h]

/-! ### what is put together, and what is read -/
def NH (g : Nat → Bool) (r : List Nat) : Prop := ∀ c s, r = c :: s → g c = false
theorem nh_nil (g : Nat → Bool) : NH g [] := fun c s h => by cases h
theorem nh_cons {g : Nat → Bool} {c : Nat} (s : List Nat) (h : g c = false) : NH g (c :: s) := fun d u e => by
  injection e with e1 _
  rw [← e1]
  exact h
theorem dw_nh {g : Nat → Bool} {r : List Nat} (h : NH g r) : r.dropWhile g = r := by
  cases r with
  | nil => rfl
  | cons c s => rw [List.dropWhile_cons, if_neg (by rw [h c s rfl]; exact Bool.false_ne_true)]
theorem tw_nh {g : Nat → Bool} {r : List Nat} (h : NH g r) : r.takeWhile g = [] := by
  cases r with
  | nil => rfl
  | cons c s => rw [List.takeWhile_cons, if_neg (by rw [h c s rfl]; exact Bool.false_ne_true)]
theorem dw_app {g : Nat → Bool} : ∀ {a r : List Nat}, (∀ c ∈ a, g c = true) → (a ++ r).dropWhile g = r.dropWhile g
  | [], r, _ => rfl
  | c :: a, r, h => by
    rw [List.cons_append, List.dropWhile_cons, if_pos (h c (List.mem_cons_self ..))]
    exact dw_app fun d hd => h d (List.mem_cons_of_mem _ hd)
theorem tw_app {g : Nat → Bool} : ∀ {a r : List Nat}, (∀ c ∈ a, g c = true) → (a ++ r).takeWhile g = a ++ r.takeWhile g
  | [], r, _ => rfl
  | c :: a, r, h => by
    rw [List.cons_append, List.takeWhile_cons, if_pos (h c (List.mem_cons_self ..)), tw_app fun d hd => h d (List.mem_cons_of_mem _ hd)]
    rfl
/-- a gap -/
def GapOk (g : List Nat) : Prop := (∀ c ∈ g, isG c = true) ∧ g.count 10 ≤ 1
theorem gap_app {g r : List Nat} (hg : GapOk g) (hr : NH isG r) : gapR (g ++ r) = r := by
  unfold gapR
  rw [tw_app hg.1, tw_nh hr, List.append_nil, if_neg (by have := hg.2; omega), dw_app hg.1, dw_nh hr]
theorem gap_nh {r : List Nat} (hr : NH isG r) : gapR r = r := gap_app (g := []) ⟨by simp, by simp⟩ hr
def NN : List Nat := [10, 10]
theorem gap_bad (r : List Nat) : gapR (NN ++ r) = NN ++ r := by
  unfold gapR
  rw [tw_app (a := NN) (by decide)]
  have h1 : (NN ++ List.takeWhile isG r).count 10 > 1 := by
    rw [List.count_append]
    have : NN.count 10 = 2 := by decide
    omega
  rw [if_pos h1]
/-- the rest of an open tag -/
def tailR (r : List Nat) : Option (List Nat) := endR (attrsR r.length r)
theorem tail_step {r r' : List Nat} (h : attrR r = some r') : tailR r = tailR r' := by
  unfold tailR
  rw [attrs_step h]
theorem tail_stop {r : List Nat} (h : attrR r = none) : tailR r = endR r := by
  unfold tailR
  rw [attrs_stop h]
theorem pre_one (c : Nat) (r : List Nat) : ([c] : List Nat).isPrefixOf r = (r.head? == some c) := by
  cases r with
  | nil => rfl
  | cons d s =>
    show (c == d && true) = (some d == some c)
    rw [Bool.and_true]
    have e : (some d == some c) = (d == c) := rfl
    rw [e]
    by_cases h : c = d
    · rw [h]
    · rw [beq_eq_false_iff_ne.mpr h, beq_eq_false_iff_ne.mpr fun e => h e.symm]
/-- no ">" is left -/
theorem sign_sub {c : Nat} {r s : List Nat} (h : signR c r = some s) : c ∈ r := by
  unfold signR at h
  split at h
  · rename_i h1
    rw [pre_one] at h1
    cases r with
    | nil => simp at h1
    | cons d u =>
      have : d = c := by simpa using h1
      rw [this]
      exact List.mem_cons_self ..
  · cases h
theorem dead {r R : List Nat} (hs : r <:+ R) (h : 62 ∉ R) : tailR r = none := by
  cases ht : tailR r with
  | none => rfl
  | some s =>
    exfalso
    unfold tailR endR at ht
    have h1 := sign_sub ht
    have h2 : (gapR (attrsR r.length r)) <:+ R := (suf_gap _).trans ((suf_attrs _ _).trans hs)
    split at h1
    · exact h (((List.drop_suffix 1 _).trans h2).subset h1)
    · exact h (h2.subset h1)
theorem end_none {r : List Nat} (h : NH (fun c => isG c || c == 47 || c == 62) r) : endR r = none := by
  have h1 : NH isG r := fun c s e => by
    have := h c s e
    simp at this
    simp [this]
  unfold endR
  rw [gap_nh h1]
  cases r with
  | nil => rfl
  | cons c s =>
    have h2 := h c s rfl
    simp at h2
    rw [if_neg (by rw [pre_one]; simp; exact h2.1.2)]
    unfold signR
    rw [if_neg (by rw [pre_one]; simp; exact h2.2)]
/-- no attribute without white -/
theorem attr_nogap {r : List Nat} (h : NH isG r) : attrR r = none := by
  unfold attrR
  rw [gap_nh h, if_pos rfl]
theorem stuck {r : List Nat} (h : NH (fun c => isG c || c == 47 || c == 62) r) : tailR r = none := by
  have h1 : NH isG r := fun c s e => by
    have := h c s e
    simp at this
    simp [this]
  rw [tail_stop (attr_nogap h1)]
  exact end_none h
/-- a gap with two line feeds -/
theorem stuck_gap (r : List Nat) : tailR (NN ++ r) = none := by
  have h : attrR (NN ++ r) = none := by
    unfold attrR
    rw [gap_bad, if_pos rfl]
  rw [tail_stop h]
  unfold endR
  rw [gap_bad]
  rfl
def nameHead (c : Nat) : Bool := LettersL.contains c || c == 95 || c == 58
def GoodKey (n : List Nat) : Prop := ∃ c r, n = c :: r ∧ nameHead c = true ∧ ∀ x ∈ n, KeyL.contains x = true
theorem head_facts : ∀ c, nameHead c = true → isG c = false ∧ c ≠ 47 ∧ c ≠ 62 ∧ c ≠ 61 := by
  intro c h
  unfold nameHead LettersL at h
  simp at h
  unfold isG GapL
  refine ⟨?_, ?_, ?_, ?_⟩
  · simp
    omega
  all_goals omega
/-- a gap and what begins no attribute -/
theorem attr_nohead {g r : List Nat} (hg : GapOk g) (hr : NH isG r) (hn : NH nameHead r) : attrR (g ++ r) = none := by
  unfold attrR
  rw [gap_app hg hr]
  split
  · rfl
  · rw [if_pos]
    cases r with
    | nil => exact ⟨rfl, by simp, by simp⟩
    | cons c s =>
      have := hn c s rfl
      unfold nameHead at this
      simp only [Bool.or_eq_false_iff] at this
      refine ⟨this.1.1, ?_, ?_⟩
      · have h2 := this.1.2
        simp at h2
        simp [h2]
      · have h2 := this.2
        simp at h2
        simp [h2]
theorem end_app {g r : List Nat} (hg : GapOk g) (hr : NH isG r) : endR (g ++ r) = signR 62 (if ([47] : List Nat).isPrefixOf r = true then r.drop 1 else r) := by
  unfold endR
  rw [gap_app hg hr]
theorem stuck2 {g r : List Nat} (hg : GapOk g) (hr : NH (fun c => isG c || c == 47 || c == 62) r) (hn : NH nameHead r) : tailR (g ++ r) = none := by
  have h1 : NH isG r := fun c s e => by
    have := hr c s e
    simp at this
    simp [this]
  rw [tail_stop (attr_nohead hg h1 hn), end_app hg h1]
  have := end_none hr
  unfold endR at this
  rw [gap_nh h1] at this
  exact this
theorem nil_ok : GapOk [] := ⟨by simp, by simp⟩
/-- a gap ahead of an attribute -/
theorem attr_key {g n r : List Nat} (hg : GapOk g) (h0 : g ≠ []) (hn : GoodKey n) :
    attrR (g ++ (n ++ r)) = if ([61] : List Nat).isPrefixOf (gapR (ba KeyL r)) = false then some (ba KeyL r) else valueR (gapR ((gapR (ba KeyL r)).drop 1)) := by
  obtain ⟨c, u, rfl, hc, hk⟩ := hn
  have hf := head_facts c hc
  have e1 : gapR (g ++ (c :: u ++ r)) = c :: u ++ r := gap_app hg (nh_cons _ hf.1)
  have e2 : ba KeyL (c :: u ++ r) = ba KeyL r := dw_app hk
  unfold attrR
  rw [e1, e2]
  have hl : ¬ (c :: u ++ r).length = (g ++ (c :: u ++ r)).length := by
    rw [List.length_append (as := g)]
    have : 0 < g.length := List.length_pos_iff.mpr h0
    omega
  rw [if_neg hl, if_neg]
  intro z
  have h1 : LettersL.contains c = false := z.1
  have h2 : c ≠ 95 := fun e => z.2.1 (by rw [e]; rfl)
  have h3 : c ≠ 58 := fun e => z.2.2 (by rw [e]; rfl)
  unfold nameHead at hc
  rw [h1] at hc
  simp at hc
  omega
def noEq (r : List Nat) : Prop := ([61] : List Nat).isPrefixOf (gapR (ba KeyL r)) = false
/-- an attribute without a value -/
theorem attr_bare {g n r : List Nat} (hg : GapOk g) (h0 : g ≠ []) (hn : GoodKey n) (hr : noEq r) : attrR (g ++ (n ++ r)) = some (ba KeyL r) := by
  rw [attr_key hg h0 hn, if_pos (show ([61] : List Nat).isPrefixOf (gapR (ba KeyL r)) = false from hr)]
/-- .. with one -/
theorem attr_val {g n o q v : List Nat} (hg : GapOk g) (h0 : g ≠ []) (hn : GoodKey n) (ho : GapOk o) (hq : GapOk q) (hv : NH isG v) : attrR (g ++ (n ++ (o ++ (61 :: (q ++ v))))) = valueR v := by
  rw [attr_key hg h0 hn]
  have e1 : ba KeyL (o ++ (61 :: (q ++ v))) = o ++ (61 :: (q ++ v)) := by
    refine dw_nh ?_
    cases o with
    | nil => exact nh_cons _ (by decide)
    | cons c s =>
      refine nh_cons _ ?_
      have := ho.1 c (List.mem_cons_self ..)
      unfold isG GapL at this
      simp at this
      rcases this with h | h | h <;> (subst h; decide)
  have e2 : gapR (o ++ (61 :: (q ++ v))) = 61 :: (q ++ v) := gap_app ho (nh_cons _ (by decide))
  rw [e1, e2, if_neg (by simp [List.isPrefixOf])]
  show valueR (gapR (q ++ v)) = valueR v
  rw [gap_app hq hv]
theorem attr_val_bad1 {g n r : List Nat} (hg : GapOk g) (h0 : g ≠ []) (hn : GoodKey n) : attrR (g ++ (n ++ (NN ++ r))) = some (NN ++ r) := by
  have e1 : ba KeyL (NN ++ r) = NN ++ r := dw_nh (nh_cons _ (by decide))
  rw [attr_key hg h0 hn, e1, gap_bad, if_pos (show ([61] : List Nat).isPrefixOf (NN ++ r) = false from rfl)]
theorem attr_val_bad2 {g n o r : List Nat} (hg : GapOk g) (h0 : g ≠ []) (hn : GoodKey n) (ho : GapOk o) : attrR (g ++ (n ++ (o ++ (61 :: (NN ++ r))))) = none := by
  rw [attr_key hg h0 hn]
  have e1 : ba KeyL (o ++ (61 :: (NN ++ r))) = o ++ (61 :: (NN ++ r)) := by
    refine dw_nh ?_
    cases o with
    | nil => exact nh_cons _ (by decide)
    | cons c s =>
      refine nh_cons _ ?_
      have := ho.1 c (List.mem_cons_self ..)
      unfold isG GapL at this
      simp at this
      rcases this with h | h | h <;> (subst h; decide)
  have e2 : gapR (o ++ (61 :: (NN ++ r))) = 61 :: (NN ++ r) := gap_app ho (nh_cons _ (by decide))
  rw [e1, e2, if_neg (by simp [List.isPrefixOf])]
  show valueR (gapR (NN ++ r)) = none
  rw [gap_bad]
  unfold valueR
  rw [if_neg (by simp [NN, List.isPrefixOf]), if_neg (by simp [NN, List.isPrefixOf]), if_pos]
  have : bareR (NN ++ r) = NN ++ r := dw_nh (nh_cons _ (by decide))
  rw [this]
/-- values -/
theorem find_in {c : Nat} : ∀ {w r : List Nat}, c ∉ w → findL [c] (w ++ c :: r) = some w.length
  | [], r, _ => by simp [findL, List.isPrefixOf]
  | d :: w, r, h => by
    have h1 : ¬ c = d := fun e => h (by rw [e]; exact List.mem_cons_self ..)
    show (if ([c] : List Nat).isPrefixOf (d :: (w ++ c :: r)) = true then some 0 else (findL [c] (w ++ c :: r)).map (· + 1)) = _
    rw [if_neg (by rw [pre_one]; simp; exact fun e => h1 e.symm), find_in fun z => h (List.mem_cons_of_mem _ z)]
    rfl
theorem first_in {c : Nat} {w r : List Nat} (h : c ∉ w) : firstR [c] (w ++ c :: r) = some r := by
  unfold firstR
  rw [find_in h]
  show some ((w ++ c :: r).drop (w.length + 1)) = some r
  rw [show w ++ c :: r = (w ++ [c]) ++ r by simp, List.drop_left' (by simp)]
theorem value_q1 {w r : List Nat} (h : 39 ∉ w) : valueR (39 :: (w ++ 39 :: r)) = some r := by
  unfold valueR
  rw [if_pos (by simp [List.isPrefixOf])]
  exact first_in h
theorem value_q2 {w r : List Nat} (h : 34 ∉ w) : valueR (34 :: (w ++ 34 :: r)) = some r := by
  unfold valueR
  rw [if_neg (by simp [List.isPrefixOf]), if_pos (by simp [List.isPrefixOf])]
  exact first_in h
theorem value_bare {v r : List Nat} (h0 : v ≠ []) (h : ∀ c ∈ v, BareL.contains c = false) (hr : NH (fun c => !BareL.contains c) r) : valueR (v ++ r) = some r := by
  have e : bareR (v ++ r) = r := by
    unfold bareR
    rw [dw_app (fun c hc => by
      show (!BareL.contains c) = true
      rw [h c hc]
      rfl), dw_nh hr]
  unfold valueR
  rw [e]
  cases v with
  | nil => exact absurd rfl h0
  | cons c s =>
    have hc := h c (List.mem_cons_self ..)
    have h39 : c ≠ 39 := fun e => by rw [e] at hc; cases hc
    have h34 : c ≠ 34 := fun e => by rw [e] at hc; cases hc
    rw [if_neg (by rw [pre_one]; simpa using h39), if_neg (by rw [pre_one]; simpa using h34), if_neg (by simp; omega)]

/-! ### the pieces -/
def GapSpec (least : Bool) (g : List Nat) (b : Bool) : Prop := (b = false ∧ g = NN) ∨ (b = true ∧ GapOk g ∧ (least = true → g ≠ []))
def Junk (c : Nat) : Prop := nameHead c = false ∧ isG c = false ∧ c ≠ 47 ∧ c ≠ 62 ∧ c ≠ 61
def KeySpec (n : List Nat) (b : Bool) : Prop := (b = true ∧ GoodKey n) ∨ (b = false ∧ ((∃ c r, n = c :: r ∧ Junk c) ∨ ∃ n', GoodKey n' ∧ n = n' ++ [42]))
def ValSpec (v : List Nat) (b e : Bool) : Prop :=
  (b = true ∧ ((e = false ∧ ∃ w, 39 ∉ w ∧ v = 39 :: (w ++ [39])) ∨ (e = false ∧ ∃ w, 34 ∉ w ∧ v = 34 :: (w ++ [34])) ∨ (e = true ∧ v ≠ [] ∧ ∀ c ∈ v, BareL.contains c = false))) ∨
  (b = false ∧ e = false ∧ ((∃ w c s, v = w ++ c :: s ∧ w ≠ [] ∧ (∀ x ∈ w, BareL.contains x = false) ∧ (c = 39 ∨ c = 61 ∨ c = 96)) ∨ v = [60]))
def AttrSpec (a : List Nat) (b e : Bool) : Prop := ∃ g gb n nb, GapSpec true g gb ∧ KeySpec n nb ∧
  ((a = g ++ n ∧ b = (gb && nb) ∧ e = false) ∨
    ∃ o ob q qb v vb, GapSpec false o ob ∧ GapSpec false q qb ∧ ValSpec v vb e ∧ a = g ++ (n ++ (o ++ (61 :: (q ++ v)))) ∧ b = (gb && nb && ob && qb && vb))
def RC (r : List Nat) (e : Bool) : Prop := (e = true → NH (fun c => !BareL.contains c) r) ∧ noEq r ∧ (NH (fun c => KeyL.contains c) r ∨ 62 ∉ r)
theorem tail_ba {r : List Nat} (l : List Nat) (h : NH (fun c => l.contains c) r ∨ 62 ∉ r) : tailR (ba l r) = tailR r := by
  rcases h with h | h
  · rw [show ba l r = r from dw_nh h]
  · rw [dead (show ba l r <:+ r from suf_dw _ r) h, dead (List.suffix_refl r) h]
theorem gap_head {g : List Nat} (hg : GapOk g) (h0 : g ≠ []) : ∃ c s, g = c :: s ∧ (c = 32 ∨ c = 9 ∨ c = 10) := by
  cases g with
  | nil => exact absurd rfl h0
  | cons c s =>
    have := hg.1 c (List.mem_cons_self ..)
    unfold isG GapL at this
    simp at this
    exact ⟨c, s, rfl, this⟩
theorem nh_gap {g r : List Nat} {p : Nat → Bool} (hg : GapOk g) (h0 : g ≠ []) (h1 : p 32 = false) (h2 : p 9 = false) (h3 : p 10 = false) : NH p (g ++ r) := by
  obtain ⟨c, s, rfl, h⟩ := gap_head hg h0
  refine nh_cons _ ?_
  rcases h with h | h | h <;> (subst h; assumption)
theorem key_head {n : List Nat} {b : Bool} (h : KeySpec n b) : ∃ c r, n = c :: r ∧ isG c = false ∧ c ≠ 61 ∧ c ≠ 47 ∧ c ≠ 62 := by
  rcases h with ⟨_, c, r, e, h1, _⟩ | ⟨_, ⟨c, r, e, h1⟩ | ⟨n', ⟨c, r, e', h1, _⟩, e⟩⟩
  · have := head_facts c h1
    exact ⟨c, r, e, this.1, this.2.2.2, this.2.1, this.2.2.1⟩
  · exact ⟨c, r, e, h1.2.1, h1.2.2.2.2, h1.2.2.1, h1.2.2.2.1⟩
  · have := head_facts c h1
    exact ⟨c, r ++ [42], by rw [e, e']; rfl, this.1, this.2.2.2, this.2.1, this.2.2.1⟩
theorem noEq_of {r : List Nat} (h : 61 ∉ r) : noEq r := by
  unfold noEq
  rw [pre_one]
  cases hg : gapR (ba KeyL r) with
  | nil => rfl
  | cons c s =>
    have h1 : gapR (ba KeyL r) <:+ r := (suf_gap _).trans (suf_dw _ r)
    have h2 : c ∈ r := h1.subset (by rw [hg]; exact List.mem_cons_self ..)
    show (some c == some 61) = false
    have : ¬ c = 61 := fun e => h (by rw [← e]; exact h2)
    simpa using this
theorem gap_rc {g n r : List Nat} {gb nb : Bool} (hg : GapSpec true g gb) (hn : KeySpec n nb) (e : Bool) : RC (g ++ (n ++ r)) e := by
  obtain ⟨c, s, rfl, h1, h2, _, _⟩ := key_head hn
  rcases hg with ⟨_, rfl⟩ | ⟨_, hg, h0⟩
  · refine ⟨fun _ => nh_cons _ (by decide), ?_, .inl (nh_cons _ (by decide))⟩
    unfold noEq
    rw [show ba KeyL (NN ++ (c :: s ++ r)) = NN ++ (c :: s ++ r) from dw_nh (nh_cons _ (by decide)), gap_bad]
    rfl
  · have h0 := h0 rfl
    have hk : NH (fun c => KeyL.contains c) (g ++ (c :: s ++ r)) := nh_gap hg h0 (by decide) (by decide) (by decide)
    refine ⟨fun _ => nh_gap hg h0 (by decide) (by decide) (by decide), ?_, .inl hk⟩
    unfold noEq
    rw [show ba KeyL (g ++ (c :: s ++ r)) = g ++ (c :: s ++ r) from dw_nh hk, show gapR (g ++ (c :: s ++ r)) = c :: s ++ r from gap_app hg (nh_cons _ h1), pre_one]
    show (some c == some 61) = false
    simpa using h2
theorem attr_rc {a r : List Nat} {b e : Bool} (h : AttrSpec a b e) (e' : Bool) : RC (a ++ r) e' := by
  obtain ⟨g, gb, n, nb, hg, hn, h⟩ := h
  rcases h with ⟨rfl, _, _⟩ | ⟨o, ob, q, qb, v, vb, _, _, _, rfl, _⟩
  · rw [List.append_assoc]
    exact gap_rc hg hn e'
  · rw [List.append_assoc, List.append_assoc]
    exact gap_rc hg hn e'
theorem attr_good {a r : List Nat} {e : Bool} (h : AttrSpec a true e) (hr : RC r e) : tailR (a ++ r) = tailR r := by
  obtain ⟨g, gb, n, nb, hg, hn, h⟩ := h
  rcases h with ⟨rfl, hb, _⟩ | ⟨o, ob, q, qb, v, vb, ho, hq, hv, rfl, hb⟩
  · have hb' := Bool.and_eq_true_iff.mp hb.symm
    rcases hg with ⟨hg, _⟩ | ⟨_, hg, h0⟩
    · rw [hg] at hb'; exact absurd hb'.1 (by simp)
    rcases hn with ⟨_, hn⟩ | ⟨hn, _⟩
    · rw [List.append_assoc, tail_step (attr_bare hg (h0 rfl) hn hr.2.1), tail_ba KeyL hr.2.2]
    · rw [hn] at hb'; exact absurd hb'.2 (by simp)
  · have hb' := Bool.and_eq_true_iff.mp hb.symm
    have hb2 := Bool.and_eq_true_iff.mp hb'.1
    have hb3 := Bool.and_eq_true_iff.mp hb2.1
    have hb4 := Bool.and_eq_true_iff.mp hb3.1
    rcases hg with ⟨hg, _⟩ | ⟨_, hg, h0⟩
    · rw [hg] at hb4; exact absurd hb4.1 (by simp)
    rcases hn with ⟨_, hn⟩ | ⟨hn, _⟩
    rotate_left
    · rw [hn] at hb4; exact absurd hb4.2 (by simp)
    rcases ho with ⟨ho, _⟩ | ⟨_, ho, _⟩
    · rw [ho] at hb3; exact absurd hb3.2 (by simp)
    rcases hq with ⟨hq, _⟩ | ⟨_, hq, _⟩
    · rw [hq] at hb2; exact absurd hb2.2 (by simp)
    rcases hv with ⟨_, hv⟩ | ⟨hv, _⟩
    rotate_left
    · rw [hv] at hb'; exact absurd hb'.2 (by simp)
    have ea : (g ++ (n ++ (o ++ 61 :: (q ++ v)))) ++ r = g ++ (n ++ (o ++ (61 :: (q ++ (v ++ r))))) := by simp
    rw [ea]
    rcases hv with ⟨_, w, hw, rfl⟩ | ⟨_, w, hw, rfl⟩ | ⟨he, h1, h2⟩
    · have ev : 39 :: (w ++ [39]) ++ r = 39 :: (w ++ 39 :: r) := by simp
      rw [ev]
      exact tail_step ((attr_val hg (h0 rfl) hn ho hq (nh_cons _ (by decide))).trans (value_q1 hw))
    · have ev : 34 :: (w ++ [34]) ++ r = 34 :: (w ++ 34 :: r) := by simp
      rw [ev]
      exact tail_step ((attr_val hg (h0 rfl) hn ho hq (nh_cons _ (by decide))).trans (value_q2 hw))
    · refine tail_step ((attr_val hg (h0 rfl) hn ho hq ?_).trans (value_bare h1 h2 (hr.1 he)))
      cases v with
      | nil => exact absurd rfl h1
      | cons c s =>
        refine nh_cons _ ?_
        have := h2 c (List.mem_cons_self ..)
        unfold BareL at this
        unfold isG GapL
        simp at this ⊢
        omega
theorem attr_bad {a r : List Nat} {e : Bool} (h : AttrSpec a false e) : tailR (a ++ r) = none := by
  obtain ⟨g, gb, n, nb, hg, hn, h⟩ := h
  have key : ∃ r', a ++ r = g ++ (n ++ r') := by
    rcases h with ⟨rfl, _, _⟩ | ⟨o, ob, q, qb, v, vb, ho, hq, hv, rfl, hb⟩
    · exact ⟨r, by simp⟩
    · exact ⟨o ++ (61 :: (q ++ v)) ++ r, by simp⟩
  rcases hg with ⟨hg, rfl⟩ | ⟨hgb, hg, h0⟩
  · obtain ⟨r', e1⟩ := key
    rw [e1]
    exact stuck_gap _
  have h0 := h0 rfl
  rcases hn with ⟨hnb, hn⟩ | ⟨_, ⟨c, s, rfl, hj⟩ | ⟨n', hn', rfl⟩⟩
  · -- the key is good
    rcases h with ⟨rfl, hb, _⟩ | ⟨o, ob, q, qb, v, vb, ho, hq, hv, rfl, hb⟩
    · rw [hgb, hnb] at hb
      cases hb
    have ea : (g ++ (n ++ (o ++ 61 :: (q ++ v)))) ++ r = g ++ (n ++ (o ++ (61 :: (q ++ (v ++ r))))) := by simp
    rw [ea]
    rcases ho with ⟨_, rfl⟩ | ⟨hob, ho, _⟩
    · rw [tail_step (attr_val_bad1 hg h0 hn)]
      exact stuck_gap _
    obtain ⟨c, u, en, hc, _⟩ := id hn
    have hf := head_facts c hc
    have none_end : attrR (g ++ (n ++ (o ++ (61 :: (q ++ (v ++ r)))))) = none → tailR (g ++ (n ++ (o ++ (61 :: (q ++ (v ++ r)))))) = none := fun z => by
      rw [tail_stop z, end_app hg (by rw [en]; exact nh_cons _ hf.1), en, if_neg (by rw [pre_one]; simpa using hf.2.1)]
      unfold signR
      rw [if_neg (by rw [pre_one]; simpa using hf.2.2.1)]
    rcases hq with ⟨_, rfl⟩ | ⟨hqb, hq, _⟩
    · exact none_end (attr_val_bad2 hg h0 hn ho)
    rcases hv with ⟨hvb, _⟩ | ⟨_, _, ⟨w, d, s, rfl, hw0, hw, hd⟩ | rfl⟩
    · rw [hgb, hnb, hob, hqb, hvb] at hb
      cases hb
    · have ev : (w ++ d :: s) ++ r = w ++ (d :: (s ++ r)) := by simp
      rw [ev]
      have h1 : NH isG (w ++ (d :: (s ++ r))) := by
        cases w with
        | nil => exact absurd rfl hw0
        | cons x w =>
          refine nh_cons _ ?_
          have := hw x (List.mem_cons_self ..)
          unfold BareL at this
          unfold isG GapL
          simp at this ⊢
          omega
      rw [tail_step ((attr_val hg h0 hn ho hq h1).trans (value_bare hw0 hw (nh_cons _ (by rcases hd with h | h | h <;> (subst h; decide)))))]
      exact stuck (nh_cons _ (by rcases hd with h | h | h <;> (subst h; decide)))
    · refine none_end ((attr_val hg h0 hn ho hq (nh_cons _ (by decide))).trans ?_)
      unfold valueR
      rw [if_neg (by simp [List.isPrefixOf]), if_neg (by simp [List.isPrefixOf]), if_pos]
      show (bareR (60 :: r)).length = (60 :: r).length
      rw [show bareR (60 :: r) = 60 :: r from dw_nh (nh_cons _ (by decide))]
  · obtain ⟨r', e1⟩ := key
    rw [e1]
    refine stuck2 hg (nh_cons _ ?_) (nh_cons _ hj.1)
    simp [hj.2.1, hj.2.2.1, hj.2.2.2.1]
  · obtain ⟨r', e1⟩ := key
    rw [e1, List.append_assoc]
    have h1 : ba KeyL ([42] ++ r') = [42] ++ r' := dw_nh (nh_cons _ (by decide))
    have h2 : noEq ([42] ++ r') := by
      unfold noEq
      rw [h1, show gapR ([42] ++ r') = [42] ++ r' from gap_nh (nh_cons _ (by decide))]
      rfl
    rw [tail_step (attr_bare hg h0 hn' h2), h1]
    exact stuck (nh_cons _ (by decide))
/-! ### the end of an open tag -/
def Ends5 : List (List Nat × Bool) := [([62], true), ([47, 62], true), ([], false), ([42, 62], false), ([47, 32, 62], false)]
def Tails4 : List (List Nat) := [[], [32, 99], [100], [10, 10, 101]]
theorem base_rc {g f tl : List Nat} {gb fb : Bool} (hg : GapSpec false g gb) (hf : (f, fb) ∈ Ends5) (ht : tl ∈ Tails4) {e : Bool} (he : e = true → g ≠ []) : RC (g ++ (f ++ tl)) e := by
  have h61 : 61 ∉ f ++ tl := by
    have : ∀ p ∈ Ends5, ∀ t ∈ Tails4, 61 ∉ p.1 ++ t := by decide
    exact this _ hf _ ht
  have hg61 : 61 ∉ g := by
    rcases hg with ⟨_, rfl⟩ | ⟨_, hg, _⟩
    · decide
    · exact fun z => by
        have := hg.1 _ z
        revert this
        decide
  refine ⟨fun z => ?_, noEq_of (fun z => (List.mem_append.mp z).elim hg61 h61), ?_⟩
  · have h0 := he z
    rcases hg with ⟨_, rfl⟩ | ⟨_, hg, _⟩
    · exact nh_cons _ (by decide)
    · exact nh_gap hg h0 (by decide) (by decide) (by decide)
  · rcases hg with ⟨_, rfl⟩ | ⟨_, hg, _⟩
    · exact .inl (nh_cons _ (by decide))
    · by_cases h0 : g = []
      · subst h0
        have : ∀ p ∈ Ends5, ∀ t ∈ Tails4, p.1 = [] ∧ 62 ∉ p.1 ++ t ∨ ∃ c s, p.1 ++ t = c :: s ∧ KeyL.contains c = false := by
          intro p hp t htt
          simp only [Ends5, List.mem_cons, List.not_mem_nil, or_false] at hp
          simp only [Tails4, List.mem_cons, List.not_mem_nil, or_false] at htt
          rcases hp with rfl | rfl | rfl | rfl | rfl
          · exact .inr ⟨62, _, rfl, by decide⟩
          · exact .inr ⟨47, _, rfl, by decide⟩
          · exact .inl ⟨rfl, by rcases htt with rfl | rfl | rfl | rfl <;> decide⟩
          · exact .inr ⟨42, _, rfl, by decide⟩
          · exact .inr ⟨47, _, rfl, by decide⟩
        rcases this _ hf _ ht with ⟨_, h⟩ | ⟨c, s, h1, h2⟩
        · exact .inr h
        · refine .inl ?_
          show NH _ (f ++ tl)
          rw [h1]
          exact nh_cons _ h2
      · exact .inl (nh_gap hg h0 (by decide) (by decide) (by decide))
theorem base_tail {g f tl : List Nat} {gb fb : Bool} (hg : GapSpec false g gb) (hf : (f, fb) ∈ Ends5) (ht : tl ∈ Tails4) : tailR (g ++ (f ++ tl)) = if (gb && fb) = true then some tl else none := by
  rcases hg with ⟨rfl, rfl⟩ | ⟨rfl, hg, _⟩
  · exact stuck_gap _
  simp only [Ends5, List.mem_cons, List.not_mem_nil, or_false, Prod.mk.injEq] at hf
  rcases hf with ⟨rfl, rfl⟩ | ⟨rfl, rfl⟩ | ⟨rfl, rfl⟩ | ⟨rfl, rfl⟩ | ⟨rfl, rfl⟩
  · show tailR (g ++ (62 :: tl)) = some tl
    rw [tail_stop (attr_nohead hg (nh_cons _ (by decide)) (nh_cons _ (by decide))), end_app hg (nh_cons _ (by decide))]
    rfl
  · show tailR (g ++ (47 :: 62 :: tl)) = some tl
    rw [tail_stop (attr_nohead hg (nh_cons _ (by decide)) (nh_cons _ (by decide))), end_app hg (nh_cons _ (by decide))]
    rfl
  · refine dead (List.suffix_refl _) fun z => ?_
    rcases List.mem_append.mp z with z | z
    · have := hg.1 _ z
      revert this
      decide
    · have : ∀ t ∈ Tails4, 62 ∉ [] ++ t := by decide
      exact this _ ht z
  · exact stuck2 hg (nh_cons _ (by decide)) (nh_cons _ (by decide))
  · show tailR (g ++ (47 :: 32 :: 62 :: tl)) = none
    rw [tail_stop (attr_nohead hg (nh_cons _ (by decide)) (nh_cons _ (by decide))), end_app hg (nh_cons _ (by decide))]
    rfl
/-- the attributes' last word: does the last one end with a bare value -/
def lastE (as : List (List Nat × Bool × Bool)) (e0 : Bool) : Bool := match as.getLast? with
  | none => e0
  | some a => a.2.2
theorem chain {g f tl : List Nat} {gb fb : Bool} (hg : GapSpec false g gb) (hf : (f, fb) ∈ Ends5) (ht : tl ∈ Tails4) : ∀ (as : List (List Nat × Bool × Bool)) (e0 : Bool), (∀ a ∈ as, AttrSpec a.1 a.2.1 a.2.2) → (lastE as e0 = true → g ≠ []) →
    RC ((as.map (·.1)).flatten ++ (g ++ (f ++ tl))) e0 ∧ tailR ((as.map (·.1)).flatten ++ (g ++ (f ++ tl))) = if (as.all (·.2.1) && (gb && fb)) = true then some tl else none
  | [], e0, _, he => ⟨base_rc hg hf ht he, by
    show tailR (g ++ (f ++ tl)) = _
    rw [base_tail hg hf ht]
    simp⟩
  | a :: as, e0, hs, he => by
    have ha := hs a (List.mem_cons_self ..)
    have el : lastE (a :: as) e0 = lastE as a.2.2 := by
      unfold lastE
      cases as with
      | nil => rfl
      | cons b r => rfl
    obtain ⟨h1, h2⟩ := chain hg hf ht as a.2.2 (fun x hx => hs x (List.mem_cons_of_mem _ hx)) (by rw [← el]; exact he)
    have e1 : ((a :: as).map (·.1)).flatten ++ (g ++ (f ++ tl)) = a.1 ++ ((as.map (·.1)).flatten ++ (g ++ (f ++ tl))) := by simp
    rw [e1]
    refine ⟨attr_rc ha e0, ?_⟩
    obtain ⟨x, b, e⟩ := a
    cases b with
    | true =>
      rw [attr_good ha h1, h2]
      rfl
    | false =>
      rw [attr_bad ha]
      rfl
def NameSpec (n : List Nat) (b : Bool) : Prop := (b = true ∧ ∃ c r, n = c :: r ∧ LettersL.contains c = true ∧ ∀ x ∈ n, NameL.contains x = true) ∨ (b = false ∧ (n = [] ∨ ∃ c r, n = c :: r ∧ LettersL.contains c = false ∧ c ≠ 33 ∧ c ≠ 63 ∧ c ≠ 47))
theorem letter_facts : ∀ c, LettersL.contains c = true → c ≠ 33 ∧ c ≠ 63 ∧ c ≠ 47 := by
  intro c h
  unfold LettersL at h
  simp at h
  omega
theorem tag_open {c : Nat} {r : List Nat} (h1 : c ≠ 33) (h2 : c ≠ 63) (h3 : c ≠ 47) : tagR (60 :: c :: r) = openR (60 :: c :: r) := by
  have p2 : ∀ (d : Nat) (w : List Nat), d ≠ c → (60 :: d :: w : List Nat).isPrefixOf (60 :: c :: r) = false := fun d w h => by
    show (60 == 60 && (d == c && w.isPrefixOf r)) = false
    rw [beq_eq_false_iff_ne.mpr h]
    rfl
  unfold tagR
  rw [if_neg (by rw [p2 33 _ (Ne.symm h1)]; simp), if_neg (by rw [p2 63 _ (Ne.symm h2)]; simp), if_neg (by rw [p2 33 _ (Ne.symm h1)]; simp), if_neg (by rw [p2 33 _ (Ne.symm h1)]; simp), if_neg (by rw [p2 47 _ (Ne.symm h3)]; simp), if_pos (by simp [List.isPrefixOf])]
theorem open_none {r : List Nat} (h : letterR r = false) : openR (60 :: r) = none := by
  unfold openR nameR
  rw [show (60 :: r).drop 1 = r from rfl, if_neg (by rw [h]; simp)]
theorem open_some {r : List Nat} (h : letterR r = true) : openR (60 :: r) = tailR (ba NameL r) := by
  unfold openR nameR
  rw [show (60 :: r).drop 1 = r from rfl, if_pos h]
  rfl
theorem open_ok {n g f tl : List Nat} {nb gb fb : Bool} (hn : NameSpec n nb) (hg : GapSpec false g gb) (hf : (f, fb) ∈ Ends5) (ht : tl ∈ Tails4) (as : List (List Nat × Bool × Bool)) (hs : ∀ a ∈ as, AttrSpec a.1 a.2.1 a.2.2) (he : lastE as false = true → g ≠ []) :
    tagR (60 :: (n ++ ((as.map (·.1)).flatten ++ (g ++ (f ++ tl))))) = if (nb && (as.all (·.2.1) && (gb && fb))) = true then some tl else none := by
  obtain ⟨_, h2⟩ := chain hg hf ht as false hs he
  rcases hn with ⟨rfl, c, r, rfl, hc, hr⟩ | ⟨rfl, h⟩
  · have hl := letter_facts c hc
    show tagR (60 :: c :: (r ++ _)) = _
    rw [tag_open hl.1 hl.2.1 hl.2.2, open_some (show letterR (c :: (r ++ _)) = true from hc)]
    have e1 : ba NameL (c :: (r ++ ((as.map (·.1)).flatten ++ (g ++ (f ++ tl))))) = ba NameL ((as.map (·.1)).flatten ++ (g ++ (f ++ tl))) := dw_app (a := c :: r) hr
    have hX : NH (fun c => NameL.contains c) ((as.map (·.1)).flatten ++ (g ++ (f ++ tl))) ∨ 62 ∉ (as.map (·.1)).flatten ++ (g ++ (f ++ tl)) := by
      rcases (chain hg hf ht as false hs he).1.2.2 with h | h
      · refine .inl fun d s e => ?_
        have h3 : KeyL.contains d = false := h d s e
        show NameL.contains d = false
        have h5 : ∀ x ∈ NameL, x ∈ KeyL := by decide
        cases h6 : NameL.contains d with
        | false => rfl
        | true =>
          have h7 : d ∈ NameL := by simpa using h6
          have h8 : KeyL.contains d = true := by simpa using h5 d h7
          rw [h8] at h3
          cases h3
      · exact .inr h
    rw [e1, tail_ba NameL hX, h2]
    rfl
  · rcases h with rfl | ⟨c, r, rfl, hc, h33, h63, h47⟩
    · show tagR (60 :: ((as.map (·.1)).flatten ++ (g ++ (f ++ tl)))) = none
      have gaphead : ∀ d s, (d = 32 ∨ d = 9 ∨ d = 10) → tagR (60 :: d :: s) = none := fun d s hd => by
        rw [tag_open (by rcases hd with h | h | h <;> omega) (by rcases hd with h | h | h <;> omega) (by rcases hd with h | h | h <;> omega)]
        exact open_none (by rcases hd with h | h | h <;> (subst h; rfl))
      have gaps : ∀ (g : List Nat) (b : Bool) (x : List Nat), GapSpec false g b → g ≠ [] → tagR (60 :: (g ++ x)) = none := fun g b x hg h0 => by
        rcases hg with ⟨_, rfl⟩ | ⟨_, hg, _⟩
        · exact gaphead 10 _ (.inr (.inr rfl))
        · obtain ⟨d, s, rfl, hd⟩ := gap_head hg h0
          exact gaphead d _ hd
      cases as with
      | nil =>
        show tagR (60 :: (g ++ (f ++ tl))) = none
        by_cases h0 : g = []
        · subst h0
          have : ∀ p ∈ Ends5, ∀ t ∈ Tails4, tagR (60 :: ([] ++ (p.1 ++ t))) = none := by decide +kernel
          exact this _ hf _ ht
        · exact gaps g gb _ hg h0
      | cons a as =>
        obtain ⟨g', gb', n', nb', hg', hn', h'⟩ := hs a (List.mem_cons_self ..)
        have hg2 : GapSpec false g' gb' := by
          rcases hg' with h | ⟨h3, h4, h5⟩
          · exact .inl h
          · exact .inr ⟨h3, h4, fun z => by cases z⟩
        have h0 : g' ≠ [] := by
          rcases hg' with ⟨_, rfl⟩ | ⟨_, _, h5⟩
          · decide
          · exact h5 rfl
        have key : ∃ x, ((a :: as).map (·.1)).flatten ++ (g ++ (f ++ tl)) = g' ++ x := by
          rcases h' with ⟨e, _, _⟩ | ⟨o, ob, q, qb, v, vb, _, _, _, e, _⟩
          · exact ⟨n' ++ ((as.map (·.1)).flatten ++ (g ++ (f ++ tl))), by simp [e]⟩
          · exact ⟨(n' ++ (o ++ (61 :: (q ++ v)))) ++ ((as.map (·.1)).flatten ++ (g ++ (f ++ tl))), by simp [e]⟩
        obtain ⟨x, e⟩ := key
        rw [e]
        exact gaps g' gb' x hg2 h0
    · show tagR (60 :: c :: (r ++ _)) = none
      rw [tag_open h33 h63 h47]
      exact open_none hc
/-! ### the others -/
def CNames : List (List Nat × Bool) := [([97], true), ([66, 45, 49], true), ([49, 97], false), ([], false)]
def Gaps6 : List (List Nat × Bool) := [(NN, false), ([], true), ([32], true), ([10], true), ([32, 10, 32, 32], true), ([9], true)]
def CEnds : List (List Nat × Bool) := [([62], true), ([47, 62], false), ([32, 120, 62], false), ([], false)]
theorem close_ok : ∀ n ∈ CNames, ∀ g ∈ Gaps6, ∀ f ∈ CEnds, ∀ t ∈ Tails4, tagR ([60, 47] ++ n.1 ++ g.1 ++ f.1 ++ t) = if (n.2 && g.2 && f.2) = true then some t else none := by decide +kernel
def Others : List (List Nat × Bool) := [([60, 33, 45, 45, 62], true), ([60, 33, 45, 45, 45, 62], true),
  ([60, 33, 45, 45, 32, 97, 32, 45, 45, 32, 98, 10, 10, 45, 45, 62], true), ([60, 33, 45, 45, 45, 45, 62], true), ([60, 33, 45, 45, 32, 97, 32, 45, 45], false), ([60, 33, 45, 32, 97, 32, 45, 45, 62], false),
  ([60, 63, 120, 32, 63, 32, 121, 63, 62], true), ([60, 63, 63, 62], true), ([60, 63, 32, 120], false), ([60, 33, 120, 10, 10, 121, 62], true), ([60, 33, 62], false),
  ([60, 33, 91, 67, 68, 65, 84, 65, 91, 97, 93, 93, 32, 93, 62, 98, 93, 93, 62], true), ([60, 33, 91, 67, 68, 65, 84, 65, 91, 93, 93, 62], true), ([60, 33, 91, 67, 68, 65, 84, 65, 91, 32, 93, 62], false), ([60, 33, 57, 62], false),
  ([60, 32, 97, 62], false), ([60, 62], false), ([60], false), ([60, 33, 65], false), ([60, 47, 32, 97, 62], false)]
theorem others_ok : ∀ x ∈ Others, ∀ t ∈ Tails4, tagR (x.1 ++ t) = if x.2 = true then some t else none := by decide +kernel
theorem tag_nolt {r : List Nat} (h : r.take 1 ≠ [60]) : tagR r = none := by
  have p : ∀ w : List Nat, (60 :: w : List Nat).isPrefixOf r = false := fun w => by
    cases r with
    | nil => rfl
    | cons c s =>
      have hc : c ≠ 60 := fun e => h (by rw [e]; rfl)
      show (60 == c && w.isPrefixOf s) = false
      rw [beq_eq_false_iff_ne.mpr (Ne.symm hc)]
      rfl
  unfold tagR
  rw [p, p, p, p, p, p]
  simp

end TM
namespace K13
open PySem PySem.Spec PyProof.Rows L2 My TM
def topS (i : Nat) : Stmt := PySem.Challenge.pw_plainmark_k13_raw_html.main.body.getD i (.Pass ⟨0, 0, 0, 0⟩)
abbrev s_behind_all : Stmt := topS 2
abbrev s_behind_gap : Stmt := topS 3
abbrev s_behind_first : Stmt := topS 4
abbrev s_behind_sign : Stmt := topS 5
abbrev s_tag_at : Stmt := topS 11
abbrev s_open_tag_at : Stmt := topS 12
abbrev s_closing_tag_at : Stmt := topS 13
abbrev s_attribute_at : Stmt := topS 14
abbrev s_value_at : Stmt := topS 15
abbrev s_name_at : Stmt := topS 16
abbrev s_is_letter : Stmt := topS 17
abbrev s__law_well : Stmt := topS 19
abbrev s__law_draw : Stmt := topS 20
abbrev s__law_one : Stmt := topS 21
abbrev s__law_gap : Stmt := topS 22
abbrev s__law_value : Stmt := topS 23
abbrev s__law_attribute : Stmt := topS 24
abbrev s__law_open : Stmt := topS 25
abbrev s__law_other : Stmt := topS 26
abbrev s_law : Stmt := topS 27
theorem sc_behind_all : FnScope ["signs", "text", "place"] ["signs", "text", "place"] (defScope s_behind_all) := ⟨rfl, rfl, rfl, by decide +kernel, rfl, by decide +kernel, by decide +kernel⟩
theorem sc_behind_gap : FnScope ["text", "place", "end"] ["text", "place"] (defScope s_behind_gap) := ⟨rfl, rfl, rfl, by decide +kernel, rfl, by decide +kernel, by decide +kernel⟩
theorem sc_behind_first : FnScope ["words", "text", "place", "found"] ["words", "text", "place"] (defScope s_behind_first) := ⟨rfl, rfl, rfl, by decide +kernel, rfl, by decide +kernel, by decide +kernel⟩
theorem sc_behind_sign : FnScope ["sign", "text", "place"] ["sign", "text", "place"] (defScope s_behind_sign) := ⟨rfl, rfl, rfl, by decide +kernel, rfl, by decide +kernel, by decide +kernel⟩
theorem sc_tag_at : FnScope ["text", "place"] ["text", "place"] (defScope s_tag_at) := ⟨rfl, rfl, rfl, by decide +kernel, rfl, by decide +kernel, by decide +kernel⟩
theorem sc_open_tag_at : FnScope ["text", "place", "end", "behind"] ["text", "place"] (defScope s_open_tag_at) := ⟨rfl, rfl, rfl, by decide +kernel, rfl, by decide +kernel, by decide +kernel⟩
theorem sc_closing_tag_at : FnScope ["text", "place", "end"] ["text", "place"] (defScope s_closing_tag_at) := ⟨rfl, rfl, rfl, by decide +kernel, rfl, by decide +kernel, by decide +kernel⟩
theorem sc_attribute_at : FnScope ["text", "place", "begin", "end", "sign"] ["text", "place"] (defScope s_attribute_at) := ⟨rfl, rfl, rfl, by decide +kernel, rfl, by decide +kernel, by decide +kernel⟩
theorem sc_value_at : FnScope ["text", "place", "end"] ["text", "place"] (defScope s_value_at) := ⟨rfl, rfl, rfl, by decide +kernel, rfl, by decide +kernel, by decide +kernel⟩
theorem sc_name_at : FnScope ["text", "place"] ["text", "place"] (defScope s_name_at) := ⟨rfl, rfl, rfl, by decide +kernel, rfl, by decide +kernel, by decide +kernel⟩
theorem sc_is_letter : FnScope ["text", "place"] ["text", "place"] (defScope s_is_letter) := ⟨rfl, rfl, rfl, by decide +kernel, rfl, by decide +kernel, by decide +kernel⟩
theorem sc__law_well : FnScope ["_law_cell"] ["_law_cell"] (defScope s__law_well) := ⟨rfl, rfl, rfl, by decide +kernel, rfl, by decide +kernel, by decide +kernel⟩
theorem sc__law_draw : FnScope ["_law_well_here", "_law_many", "_law_digit", "_law_number", "_law_more"] ["_law_well_here", "_law_many"] (defScope s__law_draw) := ⟨rfl, rfl, rfl, by decide +kernel, rfl, by decide +kernel, by decide +kernel⟩
theorem sc__law_one : FnScope ["_law_well_here", "_law_some"] ["_law_well_here", "_law_some"] (defScope s__law_one) := ⟨rfl, rfl, rfl, by decide +kernel, rfl, by decide +kernel, by decide +kernel⟩
theorem sc__law_gap : FnScope ["_law_well_here", "_law_least"] ["_law_well_here", "_law_least"] (defScope s__law_gap) := ⟨rfl, rfl, rfl, by decide +kernel, rfl, by decide +kernel, by decide +kernel⟩
theorem sc__law_value : FnScope ["_law_well_here", "_law_some"] ["_law_well_here"] (defScope s__law_value) := ⟨rfl, rfl, rfl, by decide +kernel, rfl, by decide +kernel, by decide +kernel⟩
theorem sc__law_attribute : FnScope ["_law_well_here", "_law_gap_here", "_law_name", "_law_one_here", "_law_other_here", "_law_value_here", "_law_text"] ["_law_well_here"] (defScope s__law_attribute) := ⟨rfl, rfl, rfl, by decide +kernel, rfl, by decide +kernel, by decide +kernel⟩
theorem sc__law_open : FnScope ["_law_well_here", "_law_name", "_law_text", "_law_is_good", "_law_is_long", "_law_k", "_law_more", "_law_gap_here", "_law_end"] ["_law_well_here"] (defScope s__law_open) := ⟨rfl, rfl, rfl, by decide +kernel, rfl, by decide +kernel, by decide +kernel⟩
theorem sc__law_other : FnScope ["_law_well_here", "_law_name", "_law_gap_here", "_law_end", "_law_some"] ["_law_well_here"] (defScope s__law_other) := ⟨rfl, rfl, rfl, by decide +kernel, rfl, by decide +kernel, by decide +kernel⟩
theorem sc_law : FnScope ["_law_script", "_law_cell", "_law_well_here", "_law_k", "_law_ahead", "_law_text", "_law_is_good", "_law_tail", "_law_due", "_law_at"] ["_law_script"] (defScope s_law) := ⟨rfl, rfl, rfl, by decide +kernel, rfl, by decide +kernel, by decide +kernel⟩
structure Txt (K : PySem.W.Frag) (mg : Str → Option Value) where
  a_behind_all : Addr
  d_behind_all : FuncData
  f_behind_all : Fun K "behind_all" "behind_all" s_behind_all a_behind_all d_behind_all
  g_behind_all : mg "behind_all" = some (.ref a_behind_all)
  b_behind_all : Binds K d_behind_all ["signs", "text", "place"] []
  a_behind_gap : Addr
  d_behind_gap : FuncData
  f_behind_gap : Fun K "behind_gap" "behind_gap" s_behind_gap a_behind_gap d_behind_gap
  g_behind_gap : mg "behind_gap" = some (.ref a_behind_gap)
  b_behind_gap : Binds K d_behind_gap ["text", "place"] []
  a_behind_first : Addr
  d_behind_first : FuncData
  f_behind_first : Fun K "behind_first" "behind_first" s_behind_first a_behind_first d_behind_first
  g_behind_first : mg "behind_first" = some (.ref a_behind_first)
  b_behind_first : Binds K d_behind_first ["words", "text", "place"] []
  a_behind_sign : Addr
  d_behind_sign : FuncData
  f_behind_sign : Fun K "behind_sign" "behind_sign" s_behind_sign a_behind_sign d_behind_sign
  g_behind_sign : mg "behind_sign" = some (.ref a_behind_sign)
  b_behind_sign : Binds K d_behind_sign ["sign", "text", "place"] []
  a_tag_at : Addr
  d_tag_at : FuncData
  f_tag_at : Fun K "tag_at" "tag_at" s_tag_at a_tag_at d_tag_at
  g_tag_at : mg "tag_at" = some (.ref a_tag_at)
  b_tag_at : Binds K d_tag_at ["text", "place"] []
  a_open_tag_at : Addr
  d_open_tag_at : FuncData
  f_open_tag_at : Fun K "open_tag_at" "open_tag_at" s_open_tag_at a_open_tag_at d_open_tag_at
  g_open_tag_at : mg "open_tag_at" = some (.ref a_open_tag_at)
  b_open_tag_at : Binds K d_open_tag_at ["text", "place"] []
  a_closing_tag_at : Addr
  d_closing_tag_at : FuncData
  f_closing_tag_at : Fun K "closing_tag_at" "closing_tag_at" s_closing_tag_at a_closing_tag_at d_closing_tag_at
  g_closing_tag_at : mg "closing_tag_at" = some (.ref a_closing_tag_at)
  b_closing_tag_at : Binds K d_closing_tag_at ["text", "place"] []
  a_attribute_at : Addr
  d_attribute_at : FuncData
  f_attribute_at : Fun K "attribute_at" "attribute_at" s_attribute_at a_attribute_at d_attribute_at
  g_attribute_at : mg "attribute_at" = some (.ref a_attribute_at)
  b_attribute_at : Binds K d_attribute_at ["text", "place"] []
  a_value_at : Addr
  d_value_at : FuncData
  f_value_at : Fun K "value_at" "value_at" s_value_at a_value_at d_value_at
  g_value_at : mg "value_at" = some (.ref a_value_at)
  b_value_at : Binds K d_value_at ["text", "place"] []
  a_name_at : Addr
  d_name_at : FuncData
  f_name_at : Fun K "name_at" "name_at" s_name_at a_name_at d_name_at
  g_name_at : mg "name_at" = some (.ref a_name_at)
  b_name_at : Binds K d_name_at ["text", "place"] []
  a_is_letter : Addr
  d_is_letter : FuncData
  f_is_letter : Fun K "is_letter" "is_letter" s_is_letter a_is_letter d_is_letter
  g_is_letter : mg "is_letter" = some (.ref a_is_letter)
  b_is_letter : Binds K d_is_letter ["text", "place"] []
  a__law_well : Addr
  d__law_well : FuncData
  f__law_well : Fun K "_law_well" "_law_well" s__law_well a__law_well d__law_well
  g__law_well : mg "_law_well" = some (.ref a__law_well)
  b__law_well : Binds K d__law_well ["_law_cell"] []
  a__law_draw : Addr
  d__law_draw : FuncData
  f__law_draw : Fun K "_law_draw" "_law_draw" s__law_draw a__law_draw d__law_draw
  g__law_draw : mg "_law_draw" = some (.ref a__law_draw)
  b__law_draw : Binds K d__law_draw ["_law_well_here", "_law_many"] []
  a__law_one : Addr
  d__law_one : FuncData
  f__law_one : Fun K "_law_one" "_law_one" s__law_one a__law_one d__law_one
  g__law_one : mg "_law_one" = some (.ref a__law_one)
  b__law_one : Binds K d__law_one ["_law_well_here", "_law_some"] []
  a__law_gap : Addr
  d__law_gap : FuncData
  f__law_gap : Fun K "_law_gap" "_law_gap" s__law_gap a__law_gap d__law_gap
  g__law_gap : mg "_law_gap" = some (.ref a__law_gap)
  b__law_gap : Binds K d__law_gap ["_law_well_here", "_law_least"] []
  a__law_value : Addr
  d__law_value : FuncData
  f__law_value : Fun K "_law_value" "_law_value" s__law_value a__law_value d__law_value
  g__law_value : mg "_law_value" = some (.ref a__law_value)
  b__law_value : Binds K d__law_value ["_law_well_here"] []
  a__law_attribute : Addr
  d__law_attribute : FuncData
  f__law_attribute : Fun K "_law_attribute" "_law_attribute" s__law_attribute a__law_attribute d__law_attribute
  g__law_attribute : mg "_law_attribute" = some (.ref a__law_attribute)
  b__law_attribute : Binds K d__law_attribute ["_law_well_here"] []
  a__law_open : Addr
  d__law_open : FuncData
  f__law_open : Fun K "_law_open" "_law_open" s__law_open a__law_open d__law_open
  g__law_open : mg "_law_open" = some (.ref a__law_open)
  b__law_open : Binds K d__law_open ["_law_well_here"] []
  a__law_other : Addr
  d__law_other : FuncData
  f__law_other : Fun K "_law_other" "_law_other" s__law_other a__law_other d__law_other
  g__law_other : mg "_law_other" = some (.ref a__law_other)
  b__law_other : Binds K d__law_other ["_law_well_here"] []
  z_int : mg "int" = none
  z_len : mg "len" = none
  z_range : mg "range" = none
  t_INLINE_WHITE : Tok
  g_INLINE_WHITE : mg "INLINE_WHITE" = some (.str " \t\n" t_INLINE_WHITE)
  t_LETTERS : Tok
  g_LETTERS : mg "LETTERS" = some (.str "abcdefghijklmnopqrstuvwxyzABCDEFGHIJKLMNOPQRSTUVWXYZ" t_LETTERS)
  t_NAME_SIGNS : Tok
  g_NAME_SIGNS : mg "NAME_SIGNS" = some (.str "abcdefghijklmnopqrstuvwxyzABCDEFGHIJKLMNOPQRSTUVWXYZ0123456789-" t_NAME_SIGNS)
  t_KEY_SIGNS : Tok
  g_KEY_SIGNS : mg "KEY_SIGNS" = some (.str "abcdefghijklmnopqrstuvwxyzABCDEFGHIJKLMNOPQRSTUVWXYZ0123456789_.:-" t_KEY_SIGNS)
  t_NO_BARE_SIGNS : Tok
  g_NO_BARE_SIGNS : mg "NO_BARE_SIGNS" = some (.str " \t\n\"'=<>`" t_NO_BARE_SIGNS)
/-! ### the draws -/
def sp__law_well (K : PySem.W.Frag) : Sp := fun vs H Q _ => ∃ n : Int, vs = [.int n] ∧ ∀ p, H p = none → Q (.ref p) (upd H p (.lst [.int n, .int 0]))
theorem ok__law_well {P : Program} {w : World} {K : PySem.W.Frag} {mg : Str → Option Value} {base : Heap} (T : Txt K mg) : FnOk P w K mg base CX0 1 T.a__law_well T.d__law_well ["_law_cell"] (sp__law_well K) := by
  refine T.f__law_well.ok sc__law_well (fun vs H Q E h => ?_) (fun cdv A outer s H vs Q E hr h => ?_)
  · obtain ⟨n, rfl, _⟩ := h
    rfl
  · obtain ⟨n, rfl, q⟩ := h
    refine ⟨_, (pss_one (ps_ret (pe_lst (pa_cons (pe_callTy call_int1 (by rfl) T.z_int (by decide +kernel) (pa_cons (pv 0) pa_nil)) (pa_cons pe_int pa_nil))))), ?_⟩
    exact ⟨_, rfl, .inl ⟨_, rfl, (by show 2 ≤ sizeLine; decide), fun p hp => q p hp⟩⟩
def sp__law_draw (K : PySem.W.Frag) : Sp := fun vs H Q _ => ∃ (L : Addr) (m : Int), vs = [.ref L, .int m] ∧ 0 < m ∧ m < 1000000 ∧ Well H L ∧
  ∀ H' d, Keeps L H H' → Well H' L → 0 ≤ d → d < m → Q (.int d) H'
theorem ok__law_draw {P : Program} {w : World} {K : PySem.W.Frag} {mg : Str → Option Value} {base : Heap} (T : Txt K mg) : FnOk P w K mg base CX0 1 T.a__law_draw T.d__law_draw ["_law_well_here", "_law_many"] (sp__law_draw K) := by
  refine T.f__law_draw.ok sc__law_draw (fun vs H Q E h => ?_) (fun cdv A outer s H vs Q E hr h => ?_)
  · obtain ⟨L, m, rfl, _⟩ := h
    rfl
  · obtain ⟨L, m, rfl, hm0, hm1, ⟨x, y, hL⟩, q⟩ := h
    refine ⟨_, (pss_cons (ps_if (pt_cmpR op_ge (pe_ix ix_list (pv 0) pe_int (fun _ _ => rfl)) (pe_op op_pow pe_int pe_int) (nomark _)) (pss_cons (ps_set (i := 2) sc__law_draw.nd rfl (.inl rfl) (pe_op op_mod (pe_callTy call_int1 (by rfl) T.z_int (by decide +kernel) (pa_cons (pe_ix ix_list (pv 0) pe_int (fun _ _ => rfl)) pa_nil)) (pv 1)))
        (pss_cons (ps_asg (pe_op op_fdivW (pe_ix ix_list (pv 0) pe_int (fun _ _ => rfl)) (pv 1)) (pg_sub (pv 0) pe_int set_list))
        (pss_one (ps_ret (pv 2))))) pss_nil)
        (pss_cons (ps_asg (pe_op op_add (pe_ix ix_list (pv 0) pe_int (fun _ _ => rfl)) pe_int) (pg_sub (pv 0) pe_int set_list))
        (pss_cons (ps_set (i := 3) sc__law_draw.nd rfl (.inl rfl) (pe_op op_mod (pe_callTy call_int1 (by rfl) T.z_int (by decide +kernel) (pa_cons (pe_op op_mul (pe_callTy call_int1 (by rfl) T.z_int (by decide +kernel) (pa_cons (pe_op op_add (pe_op op_add (pe_op op_mod (pe_callTy call_int1 (by rfl) T.z_int (by decide +kernel) (pa_cons (pe_ix ix_list (pv 0) pe_int (fun _ _ => rfl)) pa_nil)) pe_int) (pe_op op_mul pe_int (pe_ix ix_list (pv 0) pe_int (fun _ _ => rfl)))) pe_int) pa_nil)) pe_int) pa_nil)) pe_int))
        (pss_cons (ps_set (i := 4) sc__law_draw.nd rfl (.inl rfl) (pe_op op_mod (pe_callTy call_int1 (by rfl) T.z_int (by decide +kernel) (pa_cons (pe_op op_fdivW (pe_ix ix_list (pv 0) pe_int (fun _ _ => rfl)) pe_int) pa_nil)) pe_int))
        (pss_cons (ps_set (i := 3) sc__law_draw.nd rfl (.inl rfl) (pe_op op_mod (pe_callTy call_int1 (by rfl) T.z_int (by decide +kernel) (pa_cons (pe_op op_mul (pv 3) (pe_op op_add (pe_op op_add (pe_op op_fdivW (pv 3) pe_int) pe_int) (pv 4))) pa_nil)) pe_int))
        (pss_one (ps_ret (pe_op op_mod (pe_callTy call_int1 (by rfl) T.z_int (by decide +kernel) (pa_cons (pe_op op_fdivW (pe_op op_mod (pe_callTy call_int1 (by rfl) T.z_int (by decide +kernel) (pa_cons (pe_op op_mul (pv 3) (pe_op op_add (pe_op op_fdivW (pv 3) pe_int) pe_int)) pa_nil)) pe_int) pe_int) pa_nil)) (pv 1))))))))), ?_⟩
    have a0 : ∀ x y : Int, atI [V.int x, V.int y] 0 = some (.int x) := fun x y => atI_nat (j := 0) rfl
    have a1 : ∀ x y : Int, atI [V.int x, V.int y] 1 = some (.int y) := fun x y => atI_nat (j := 1) rfl
    have wd : ∀ i j : Int, 0 < j → j < 10000000000 → CDivW i j := fun i j h1 h2 => wide_div (b := 40) h1 (by omega) (by decide) (by decide)
    refine ⟨_, rfl, L, _, _, _, rfl, rfl, SqL.of hL, a0 x y, _, _, rfl, rfl, (by refine ⟨?_, ?_, ?_⟩ <;> decide), _, _, rfl, rfl, _, rfl, ite2 (fun _ => ?_) (fun _ => ?_)⟩
    · refine ⟨_, rfl, L, _, _, _, rfl, rfl, SqL.of hL, a0 x y, .inl ⟨_, rfl, _, rfl, _, _, rfl, rfl, hm0, ?_⟩⟩
      refine ⟨_, rfl, L, _, _, _, rfl, rfl, SqL.of hL, a0 x y, _, rfl, _, _, rfl, rfl, wd _ _ hm0 (by omega), _, rfl, L, _, _, 0, rfl, rfl, hL, rfl, ?_⟩
      exact ⟨_, rfl, q _ _ .at ⟨_, _, upd_same⟩ (Int.emod_nonneg _ (by omega)) (Int.emod_lt_of_pos _ hm0)⟩
    · -- well[1] = well[1] + 1
      refine ⟨_, rfl, L, _, _, _, rfl, rfl, SqL.of hL, a1 x y, _, _, rfl, rfl, _, rfl, L, _, _, 1, rfl, rfl, hL, rfl, ?_⟩
      have k2 : Keeps L H (upd H L (.lst ([V.int x, V.int y].set 1 (.int (y + 1))))) := .at
      have hL2 : (upd H L (.lst ([V.int x, V.int y].set 1 (.int (y + 1))))) L = some (.lst [V.int x, V.int (y + 1)]) := upd_same
      generalize (upd H L (.lst ([V.int x, V.int y].set 1 (.int (y + 1))))) = H2 at hL2 k2 ⊢
      refine ⟨_, rfl, L, _, _, _, rfl, rfl, SqL.of hL2, a0 _ _, .inl ⟨_, rfl, _, _, rfl, rfl, (by show (0 : Int) < _; decide), _, rfl, L, _, _, _, rfl, rfl, SqL.of hL2, a1 _ _, _, _, rfl, rfl, .inl (by constructor <;> decide), _, _, rfl, rfl, _, _, rfl, rfl,
        .inl ⟨_, rfl, _, _, rfl, rfl, .inr (by constructor <;> decide), .inl ⟨_, rfl, _, _, rfl, rfl, (by show (0 : Int) < _; decide), ?_⟩⟩⟩⟩
      refine ⟨_, rfl, L, _, _, _, rfl, rfl, SqL.of hL2, a0 _ _, _, _, rfl, rfl, wd _ _ (by decide) (by decide), .inl ⟨_, rfl, _, _, rfl, rfl, (by show (0 : Int) < _; decide), ?_⟩⟩
      refine ⟨_, rfl, _, rfl, _, _, rfl, rfl, wd _ _ (by decide) (by decide), _, _, rfl, rfl, _, rfl, _, _, rfl, rfl, _, _, rfl, rfl, .inl (by constructor <;> omega), .inl ⟨_, rfl, _, _, rfl, rfl, (by show (0 : Int) < _; decide), ?_⟩⟩
      refine ⟨_, rfl, _, rfl, _, _, rfl, rfl, wd _ _ (by decide) (by decide), _, _, rfl, rfl, _, _, rfl, rfl, .inl (by constructor <;> omega), .inl ⟨_, rfl, _, _, rfl, rfl, (by show (0 : Int) < _; decide), _, _, rfl, rfl, wd _ _ (by decide) (by decide), .inl ⟨_, rfl, _, rfl, _, _, rfl, rfl, hm0, ?_⟩⟩⟩
      exact q _ _ k2 ⟨_, _, hL2⟩ (Int.emod_nonneg _ (by omega)) (Int.emod_lt_of_pos _ hm0)
def sp__law_one (K : PySem.W.Frag) : Sp := fun vs H Q _ => ∃ (L a : Addr) (xs : List V), vs = [.ref L, .ref a] ∧ SqL K H a xs ∧ a ≠ L ∧ xs ≠ [] ∧ xs.length < 1000000 ∧ Well H L ∧
  ∀ H' v, Keeps L H H' → Well H' L → v ∈ xs → Q v H'
theorem ok__law_one {P : Program} {w : World} {K : PySem.W.Frag} {mg : Str → Option Value} {base : Heap} (T : Txt K mg) : FnOk P w K mg base CX0 2 T.a__law_one T.d__law_one ["_law_well_here", "_law_some"] (sp__law_one K) := by
  refine T.f__law_one.ok sc__law_one (fun vs H Q E h => ?_) (fun cdv A outer s H vs Q E hr h => ?_)
  · obtain ⟨L, a, xs, rfl, _⟩ := h
    rfl
  · obtain ⟨L, a, xs, rfl, hS, ha, hne, hlen, hW, q⟩ := h
    refine ⟨_, (pss_one (ps_ret (pe_ix ix_list (pv 1) (pe_call (ok__law_draw T) (hr.mono (by decide)) (by rfl) T.g__law_draw T.f__law_draw.kp T.b__law_draw .nil pass0 (pa_cons (pv 0) (pa_cons (pe_callB call_len_seq (by rfl) T.z_len PySem.boot_len (pa_cons (pv 1) pa_nil)) pa_nil))) (fun _ _ => rfl)))), ?_⟩
    have hpos : 0 < xs.length := List.length_pos_iff.mpr hne
    refine ⟨_, rfl, _, rfl, _, rfl, a, xs, rfl, .inl hS, L, _, rfl, by omega, by omega, hW, fun H' d k w h0 h1 => ?_⟩
    obtain ⟨j, rfl⟩ := Int.eq_ofNat_of_zero_le h0
    have hj : j < xs.length := by omega
    exact ⟨a, xs, _, xs[j], rfl, rfl, k.seq ha hS, atI_nat (List.getElem?_eq_getElem hj), q _ _ k w (List.getElem_mem hj)⟩

/-! ### the defs of the tags -/
theorem lit_L : ("abcdefghijklmnopqrstuvwxyzABCDEFGHIJKLMNOPQRSTUVWXYZ" : Str) = S LettersL := by decide +kernel
theorem lit_N : ("abcdefghijklmnopqrstuvwxyzABCDEFGHIJKLMNOPQRSTUVWXYZ0123456789-" : Str) = S NameL := by decide +kernel
theorem lit_K : ("abcdefghijklmnopqrstuvwxyzABCDEFGHIJKLMNOPQRSTUVWXYZ0123456789_.:-" : Str) = S KeyL := by decide +kernel
theorem lit_G : (" \t\n" : Str) = S GapL := by decide +kernel
theorem lit_B : (" \t\n\"'=<>`" : Str) = S BareL := by decide +kernel
theorem mem_S (c : Nat) (l : List Nat) : decide (c ∈ (S l).cps.toList) = l.contains c := by
  rw [S_tl]
  by_cases h : c ∈ l
  · rw [decide_eq_true h]
    simp [h]
  · rw [decide_eq_false h]
    simp [h]
structure TP (t : List Nat) (p : Nat) : Prop where
  le : p ≤ t.length
  sz : t.length ≤ 100000
theorem TP.line {t : List Nat} {p : Nat} (h : TP t p) : (S t).length ≤ sizeLine := by
  have := h.sz
  rw [S_len, sizeLine_eq]
  omega
theorem pre1 {t : List Nat} {p c : Nat} (h : ([c] : List Nat).isPrefixOf (t.drop p) = true) : p < t.length := by
  have := pre_len _ _ h
  rw [List.length_drop] at this
  simp at this
  omega
theorem tail_pos {t r : List Nat} (h : r <:+ t) : TP t (pos t r) ↔ t.length ≤ 100000 := ⟨fun z => z.sz, fun z => ⟨pos_le _ _, z⟩⟩
/-- what a text and a place are handed back with -/
def sp_is_letter (K : PySem.W.Frag) : Sp := fun vs H Q _ => ∃ (t : List Nat) (p : Nat), vs = [.str (S t), .int (p : Int)] ∧ TP t p ∧ Q (.bl (letterR (t.drop p))) H
theorem ok_is_letter {P : Program} {w : World} {K : PySem.W.Frag} {mg : Str → Option Value} {base : Heap} (T : Txt K mg) : FnOk P w K mg base CX0 1 T.a_is_letter T.d_is_letter ["text", "place"] (sp_is_letter K) := by
  refine T.f_is_letter.ok sc_is_letter (fun vs H Q E h => ?_) (fun cdv A outer s H vs Q E hr h => ?_)
  · obtain ⟨t, p, rfl, _⟩ := h
    rfl
  · obtain ⟨t, p, rfl, tp, q⟩ := h
    refine ⟨_, (pss_one (ps_ret (pe_and (pe_cmpR op_lt (pv 1) (pe_callB call_len_str (by rfl) T.z_len PySem.boot_len (pa_cons (pv 0) pa_nil)) (nomark _)) (pe_one (pe_cmpR op_in_sign (pe_ix ix_str (pv 0) (pv 1) (fun _ _ => rfl)) (pe_glob (v := .str "abcdefghijklmnopqrstuvwxyzABCDEFGHIJKLMNOPQRSTUVWXYZ") rfl T.g_LETTERS ⟨_, rfl⟩) (by rfl)))))), ?_⟩
    refine ⟨_, rfl, _, rfl, _, rfl, tp.line, _, _, rfl, rfl, _, rfl, ite2 (fun h1 => ?_) (fun h1 => ?_)⟩
    · have h2 : p < t.length := by
        have := of_decide_eq_true h1
        rw [S_len] at this
        omega
      refine ⟨_, rfl, _, rfl, _, _, t[p], rfl, rfl, tp.line, atI_nat (by rw [S_tl]; exact List.getElem?_eq_getElem h2), t[p], _, rfl, rfl, ?_⟩
      rw [lit_L, mem_S]
      rw [List.drop_eq_getElem_cons h2] at q
      exact q
    · have h2 : t.length ≤ p := by
        have : ¬ ((p : Int) < ((S t).length : Int)) := fun z => h1 (decide_eq_true z)
        rw [S_len] at this
        omega
      rw [List.drop_of_length_le h2] at q
      exact q
def sp_behind_sign (K : PySem.W.Frag) : Sp := fun vs H Q _ => ∃ (c : Nat) (t : List Nat) (p : Nat), vs = [.str (S [c]), .str (S t), .int (p : Int)] ∧ TP t p ∧ Q (ov t (signR c (t.drop p))) H
theorem ok_behind_sign {P : Program} {w : World} {K : PySem.W.Frag} {mg : Str → Option Value} {base : Heap} (T : Txt K mg) : FnOk P w K mg base CX0 1 T.a_behind_sign T.d_behind_sign ["sign", "text", "place"] (sp_behind_sign K) := by
  refine T.f_behind_sign.ok sc_behind_sign (fun vs H Q E h => ?_) (fun cdv A outer s H vs Q E hr h => ?_)
  · obtain ⟨c, t, p, rfl, _⟩ := h
    rfl
  · obtain ⟨c, t, p, rfl, tp, q⟩ := h
    refine ⟨_, (pss_cons (ps_if (pt_val (pe_bm PySem.F.plainAttrs_str PySem.F.slot_str_startswith PySem.F.type_str_startswith mt_startswith3 (pv 1) (pa_cons (pv 0) (pa_cons (pv 2) pa_nil)))) (pss_one (ps_ret (pe_op op_add (pv 2) pe_int))) pss_nil)
        (pss_one (ps_ret pe_non))), ?_⟩
    refine ⟨_, rfl, rfl, _, rfl, _, rfl, _, _, _, rfl, rfl, _, rfl, ?_⟩
    rw [starts3 t [c] (by simp) p]
    unfold signR at q
    refine ite2 (fun h1 => ?_) (fun h1 => ?_)
    · rw [if_pos h1] at q
      have h2 := pre1 h1
      refine ⟨_, rfl, _, _, rfl, rfl, ?_⟩
      have e : pos t ((t.drop p).drop 1) = p + 1 := by
        rw [List.drop_drop]
        exact drop_pos h2
      have q' : Q (.int (pos t ((t.drop p).drop 1) : Nat)) H := q
      rw [e] at q'
      exact q'
    · rw [if_neg h1] at q
      exact q
def sp_behind_first (K : PySem.W.Frag) : Sp := fun vs H Q _ => ∃ (w t : List Nat) (p : Nat), vs = [.str (S w), .str (S t), .int (p : Int)] ∧ w ≠ [] ∧ w.length ≤ 100000 ∧ TP t p ∧ Q (ov t (firstR w (t.drop p))) H
theorem ok_behind_first {P : Program} {w : World} {K : PySem.W.Frag} {mg : Str → Option Value} {base : Heap} (T : Txt K mg) : FnOk P w K mg base CX0 1 T.a_behind_first T.d_behind_first ["words", "text", "place"] (sp_behind_first K) := by
  refine T.f_behind_first.ok sc_behind_first (fun vs H Q E h => ?_) (fun cdv A outer s H vs Q E hr h => ?_)
  · obtain ⟨w, t, p, rfl, _⟩ := h
    rfl
  · obtain ⟨w, t, p, rfl, hw, hwl, tp, q⟩ := h
    refine ⟨_, (pss_cons (ps_set (i := 3) sc_behind_first.nd rfl (.inl rfl) (pe_bm PySem.F.plainAttrs_str PySem.F.slot_str_find PySem.F.type_str_find mt_find3 (pv 1) (pa_cons (pv 0) (pa_cons (pv 2) pa_nil))))
        (pss_cons (ps_if (pt_cmpR op_lt (pv 3) pe_int (nomark _)) (pss_one (ps_ret pe_non)) pss_nil)
        (pss_one (ps_ret (pe_op op_add (pv 3) (pe_callB call_len_str (by rfl) T.z_len PySem.boot_len (pa_cons (pv 0) pa_nil))))))), ?_⟩
    refine ⟨_, rfl, rfl, _, rfl, _, rfl, _, _, _, rfl, rfl, ?_⟩
    have e3 := find3_S t w hw p
    unfold firstR at q
    cases hf : findL w (t.drop p) with
    | none =>
      rw [hf] at q e3
      rw [show Txt.find3 (S t) (S w) (p : Int) = -1 from e3]
      exact ⟨_, rfl, _, _, rfl, rfl, _, rfl, iteT q⟩
    | some k =>
      rw [hf] at q e3
      rw [show Txt.find3 (S t) (S w) (p : Int) = ((p + k : Nat) : Int) from e3]
      have h1 := pre_len _ _ (findL_some hw hf).1
      rw [List.drop_drop, List.length_drop] at h1
      have h0 : 0 < w.length := List.length_pos_iff.mpr hw
      refine ⟨_, rfl, _, _, rfl, rfl, _, rfl, ?_⟩
      rw [decide_eq_false (by omega)]
      refine iteF ?_
      refine ⟨_, rfl, _, rfl, _, rfl, by rw [S_len, sizeLine_eq]; omega, _, _, rfl, rfl, ?_⟩
      have e : pos t ((t.drop p).drop (k + w.length)) = p + k + w.length := by
        rw [List.drop_drop, drop_pos (by omega)]
        omega
      have q' : Q (.int (pos t ((t.drop p).drop (k + w.length)) : Nat)) H := q
      rw [e] at q'
      rw [S_len]
      show Q (.int (((p + k : Nat) : Int) + (w.length : Nat))) H
      rw [← Int.natCast_add]
      exact q'
def sp_behind_all (K : PySem.W.Frag) : Sp := fun vs H Q _ => ∃ (w t : List Nat) (p : Nat), vs = [.str (S w), .str (S t), .int (p : Int)] ∧ TP t p ∧ Q (.int (pos t (ba w (t.drop p)) : Nat)) H
theorem ok_behind_all {P : Program} {w : World} {K : PySem.W.Frag} {mg : Str → Option Value} {base : Heap} (T : Txt K mg) : FnOk P w K mg base CX0 1 T.a_behind_all T.d_behind_all ["signs", "text", "place"] (sp_behind_all K) := by
  refine T.f_behind_all.ok sc_behind_all (fun vs H Q E h => ?_) (fun cdv A outer s H vs Q E hr h => ?_)
  · obtain ⟨w, t, p, rfl, _⟩ := h
    rfl
  · obtain ⟨w, t, p, rfl, tp, q⟩ := h
    refine ⟨_, (pss_cons (ps_while PassesOwn.never (PW.pt (pw_and (pt_cmpR op_lt (pv 2) (pe_callB call_len_str (by rfl) T.z_len PySem.boot_len (pa_cons (pv 1) pa_nil)) (nomark _)) (pw_and1 (pt_cmpR op_in_sign (pe_ix ix_str (pv 1) (pv 2) (fun _ _ => rfl)) (pv 0) (by rfl))))) (pss_one (ps_aug (i := 2) sc_behind_all.nd rfl (.inl rfl) pe_int ip_add)))
        (pss_one (ps_ret (pv 2)))), ?_⟩
    refine ⟨fun m σ H' => ∃ k : Nat, σ = [some (.str (S w)), some (.str (S t)), some (.int (k : Int))] ∧ H = H' ∧ m = t.length - k ∧ k ≤ t.length ∧ ba w (t.drop k) = ba w (t.drop p), ⟨t.length - p, p, rfl, rfl, rfl, tp.le, rfl⟩, ?_⟩
    rintro m σ H' ⟨k, rfl, rfl, rfl, hk, e⟩
    have fin : (¬ ∃ c r, t.drop k = c :: r ∧ w.contains c = true) → Q (.int (k : Nat)) H := by
      intro hno
      have e1 : ba w (t.drop k) = t.drop k := by
        cases hd : t.drop k with
        | nil => rfl
        | cons c r =>
          unfold ba
          rw [List.dropWhile_cons, if_neg (fun z => hno ⟨c, r, hd, z⟩)]
      rw [e1] at e
      rw [← e, drop_pos hk] at q
      exact q
    refine ⟨_, rfl, _, rfl, _, rfl, tp.line, _, _, rfl, rfl, _, rfl, ite2 (fun h1 => ?_) (fun h1 => ?_)⟩
    · have h2 : k < t.length := by
        have := of_decide_eq_true h1
        rw [S_len] at this
        omega
      have hd : t.drop k = t[k] :: t.drop (k + 1) := List.drop_eq_getElem_cons h2
      refine ⟨_, rfl, _, rfl, _, _, t[k], rfl, rfl, tp.line, atI_nat (by rw [S_tl]; exact List.getElem?_eq_getElem h2), _, rfl, t[k], _, rfl, rfl, _, rfl, ?_⟩
      rw [mem_S]
      refine ite2 (fun h3 => ?_) (fun h3 => ?_)
      · refine ⟨fun σ' H' => ∃ k', σ' = [some (.str (S w)), some (.str (S t)), some (.int (k' : Nat))] ∧ H = H' ∧ k' = k + 1 ∧ ba w (t.drop k') = ba w (t.drop p), ?_, ?_⟩
        · rintro σ' H' ⟨k', rfl, rfl, rfl, e'⟩
          exact ⟨t.length - (k + 1), by omega, k + 1, rfl, rfl, rfl, by omega, e'⟩
        · refine ⟨_, rfl, _, _, rfl, rfl, k + 1, ?_, rfl, rfl, ?_⟩
          · rw [Int.natCast_add]
            rfl
          · rw [← e, hd]
            conv => rhs; unfold ba
            rw [List.dropWhile_cons, if_pos h3]
            rfl
      · refine ⟨_, rfl, fin ?_⟩
        rintro ⟨c, r, h4, h5⟩
        rw [hd] at h4
        injection h4 with h6 h7
        subst h6
        exact h3 h5
    · refine iteF ⟨_, rfl, fin ?_⟩
      rintro ⟨c, r, h4, h5⟩
      have h2 : t.length ≤ k := by
        have : ¬ ((k : Int) < ((S t).length : Int)) := fun z => h1 (decide_eq_true z)
        rw [S_len] at this
        omega
      rw [List.drop_of_length_le h2] at h4
      cases h4
theorem take_tw (g : Nat → Bool) : ∀ r : List Nat, r.take (r.length - (r.dropWhile g).length) = r.takeWhile g
  | [] => rfl
  | c :: r => by
    rw [List.dropWhile_cons, List.takeWhile_cons]
    cases hg : g c with
    | true =>
      rw [if_pos rfl, if_pos rfl, ← take_tw g r]
      have := dw_len g r
      rw [show (c :: r).length - (r.dropWhile g).length = (r.length - (r.dropWhile g).length) + 1 by rw [List.length_cons]; omega, List.take_succ_cons]
    | false =>
      rw [if_neg Bool.false_ne_true, if_neg Bool.false_ne_true, Nat.sub_self, List.take_zero]
def sp_behind_gap (K : PySem.W.Frag) : Sp := fun vs H Q _ => ∃ (t : List Nat) (p : Nat), vs = [.str (S t), .int (p : Int)] ∧ TP t p ∧ Q (.int (pos t (gapR (t.drop p)) : Nat)) H
theorem ok_behind_gap {P : Program} {w : World} {K : PySem.W.Frag} {mg : Str → Option Value} {base : Heap} (T : Txt K mg) : FnOk P w K mg base CX0 2 T.a_behind_gap T.d_behind_gap ["text", "place"] (sp_behind_gap K) := by
  refine T.f_behind_gap.ok sc_behind_gap (fun vs H Q E h => ?_) (fun cdv A outer s H vs Q E hr h => ?_)
  · obtain ⟨t, p, rfl, _⟩ := h
    rfl
  · obtain ⟨t, p, rfl, tp, q⟩ := h
    refine ⟨_, (pss_cons (ps_set (i := 2) sc_behind_gap.nd rfl (.inl rfl) (pe_call (ok_behind_all T) (hr.mono (by decide)) (by rfl) T.g_behind_all T.f_behind_all.kp T.b_behind_all .nil pass0 (pa_cons (pe_glob (v := .str " \t\n") rfl T.g_INLINE_WHITE ⟨_, rfl⟩) (pa_cons (pv 0) (pa_cons (pv 1) pa_nil)))))
        (pss_cons (ps_if (pt_cmpR op_gt (pe_bm PySem.F.plainAttrs_str PySem.F.slot_str_count PySem.F.type_str_count mt_count4 (pv 0) (pa_cons pe_str (pa_cons (pv 1) (pa_cons (pv 2) pa_nil)))) pe_int (nomark _)) (pss_one (ps_ret (pv 1))) pss_nil)
        (pss_one (ps_ret (pv 2))))), ?_⟩
    refine ⟨_, rfl, _, rfl, GapL, t, p, by rw [lit_G]; rfl, tp, ?_⟩
    have hs : ba GapL (t.drop p) <:+ t := (suf_dw _ _).trans (suf_drop t p)
    have hpe : p ≤ pos t (ba GapL (t.drop p)) := by
      have := dw_len (fun c => GapL.contains c) (t.drop p)
      rw [List.length_drop] at this
      unfold pos ba
      have := tp.le
      omega
    refine ⟨_, rfl, rfl, _, rfl, _, rfl, _, _, _, _, rfl, rfl, _, _, rfl, rfl, _, rfl, ?_⟩
    have ec : Txt.countIn (S t) ("\n" : Str) (p : Int) ((pos t (ba GapL (t.drop p)) : Nat) : Int) = (((t.drop p).takeWhile isG).count 10 : Nat) := by
      rw [show ("\n" : Str) = S [10] by decide +kernel, count_S t 10 p _ (pos_le _ _) hpe]
      congr 1
      have : pos t (ba GapL (t.drop p)) - p = (t.drop p).length - ((t.drop p).dropWhile isG).length := by
        have := dw_len isG (t.drop p)
        rw [List.length_drop] at this ⊢
        unfold pos ba
        have h1 : (List.dropWhile (fun c => GapL.contains c) (List.drop p t)).length = (List.dropWhile isG (List.drop p t)).length := rfl
        rw [h1]
        omega
      rw [this, take_tw]
    rw [ec]
    unfold gapR at q
    refine ite2 (fun h1 => ?_) (fun h1 => ?_)
    · have h2 : ((t.drop p).takeWhile isG).count 10 > 1 := by
        have := of_decide_eq_true h1
        omega
      rw [if_pos h2, drop_pos tp.le] at q
      exact ⟨_, rfl, q⟩
    · have h2 : ¬ ((t.drop p).takeWhile isG).count 10 > 1 := by
        have : ¬ ((1 : Int) < (((t.drop p).takeWhile isG).count 10 : Nat)) := fun z => h1 (decide_eq_true z)
        omega
      rw [if_neg h2] at q
      exact ⟨_, rfl, q⟩
def sp_name_at (K : PySem.W.Frag) : Sp := fun vs H Q _ => ∃ (t : List Nat) (p : Nat), vs = [.str (S t), .int (p : Int)] ∧ TP t p ∧ Q (ov t (nameR (t.drop p))) H
theorem ok_name_at {P : Program} {w : World} {K : PySem.W.Frag} {mg : Str → Option Value} {base : Heap} (T : Txt K mg) : FnOk P w K mg base CX0 2 T.a_name_at T.d_name_at ["text", "place"] (sp_name_at K) := by
  refine T.f_name_at.ok sc_name_at (fun vs H Q E h => ?_) (fun cdv A outer s H vs Q E hr h => ?_)
  · obtain ⟨t, p, rfl, _⟩ := h
    rfl
  · obtain ⟨t, p, rfl, tp, q⟩ := h
    refine ⟨_, (pss_cons (ps_if (pt_not (pt_val (pe_call (ok_is_letter T) (hr.mono (by decide)) (by rfl) T.g_is_letter T.f_is_letter.kp T.b_is_letter .nil pass0 (pa_cons (pv 0) (pa_cons (pv 1) pa_nil))))) (pss_one (ps_ret pe_non)) pss_nil)
        (pss_one (ps_ret (pe_call (ok_behind_all T) (hr.mono (by decide)) (by rfl) T.g_behind_all T.f_behind_all.kp T.b_behind_all .nil pass0 (pa_cons (pe_glob (v := .str "abcdefghijklmnopqrstuvwxyzABCDEFGHIJKLMNOPQRSTUVWXYZ0123456789-") rfl T.g_NAME_SIGNS ⟨_, rfl⟩) (pa_cons (pv 0) (pa_cons (pv 1) pa_nil))))))), ?_⟩
    unfold nameR at q
    refine ⟨_, rfl, _, rfl, t, p, rfl, tp, _, rfl, ?_⟩
    cases hl : letterR (t.drop p) with
    | false =>
      rw [hl] at q
      exact iteT q
    | true =>
      rw [hl] at q
      exact iteF ⟨_, rfl, _, rfl, NameL, t, p, by rw [lit_N]; rfl, tp, q⟩
theorem one_len {c : Nat} {r : List Nat} (h : ([c] : List Nat).isPrefixOf r = true) : 1 ≤ r.length := pre_len _ _ h
theorem drop_more {t : List Nat} {p k : Nat} (h : p + k ≤ t.length) : t.drop (p + k) = (t.drop p).drop k := by rw [List.drop_drop]
theorem lit_q1 : ("'" : Str) = S [39] := by decide +kernel
theorem lit_q2 : ("\"" : Str) = S [34] := by decide +kernel
def sp_value_at (K : PySem.W.Frag) : Sp := fun vs H Q _ => ∃ (t : List Nat) (p : Nat), vs = [.str (S t), .int (p : Int)] ∧ TP t p ∧ Q (ov t (valueR (t.drop p))) H
theorem ok_value_at {P : Program} {w : World} {K : PySem.W.Frag} {mg : Str → Option Value} {base : Heap} (T : Txt K mg) : FnOk P w K mg base CX0 2 T.a_value_at T.d_value_at ["text", "place"] (sp_value_at K) := by
  refine T.f_value_at.ok sc_value_at (fun vs H Q E h => ?_) (fun cdv A outer s H vs Q E hr h => ?_)
  · obtain ⟨t, p, rfl, _⟩ := h
    rfl
  · obtain ⟨t, p, rfl, tp, q⟩ := h
    refine ⟨_, (pss_cons (ps_if (pt_val (pe_bm PySem.F.plainAttrs_str PySem.F.slot_str_startswith PySem.F.type_str_startswith mt_startswith3 (pv 0) (pa_cons pe_str (pa_cons (pv 1) pa_nil)))) (pss_one (ps_ret (pe_call (ok_behind_first T) (hr.mono (by decide)) (by rfl) T.g_behind_first T.f_behind_first.kp T.b_behind_first .nil pass0 (pa_cons pe_str (pa_cons (pv 0) (pa_cons (pe_op op_add (pv 1) pe_int) pa_nil)))))) pss_nil)
        (pss_cons (ps_if (pt_val (pe_bm PySem.F.plainAttrs_str PySem.F.slot_str_startswith PySem.F.type_str_startswith mt_startswith3 (pv 0) (pa_cons pe_str (pa_cons (pv 1) pa_nil)))) (pss_one (ps_ret (pe_call (ok_behind_first T) (hr.mono (by decide)) (by rfl) T.g_behind_first T.f_behind_first.kp T.b_behind_first .nil pass0 (pa_cons pe_str (pa_cons (pv 0) (pa_cons (pe_op op_add (pv 1) pe_int) pa_nil)))))) pss_nil)
        (pss_cons (ps_set (i := 2) sc_value_at.nd rfl (.inl rfl) (pv 1))
        (pss_cons (ps_while PassesOwn.never (PW.pt (pw_and (pt_cmpR op_lt (pv 2) (pe_callB call_len_str (by rfl) T.z_len PySem.boot_len (pa_cons (pv 0) pa_nil)) (nomark _)) (pw_and1 (pt_cmpR op_notIn_sign (pe_ix ix_str (pv 0) (pv 2) (fun _ _ => rfl)) (pe_glob (v := .str " \t\n\"'=<>`") rfl T.g_NO_BARE_SIGNS ⟨_, rfl⟩) (by rfl))))) (pss_one (ps_aug (i := 2) sc_value_at.nd rfl (.inl rfl) pe_int ip_add)))
        (pss_cons (ps_if (pt_cmpR op_eq (pv 2) (pv 1) (nomark _)) (pss_one (ps_ret pe_non)) pss_nil)
        (pss_one (ps_ret (pv 2)))))))), ?_⟩
    unfold valueR at q
    refine ⟨_, rfl, rfl, _, rfl, _, _, _, rfl, rfl, _, rfl, ?_⟩
    rw [lit_q1, starts3 t [39] (by simp) p]
    refine ite2 (fun h1 => ?_) (fun h1 => ?_)
    · rw [if_pos h1] at q
      have h2 := pre1 h1
      refine ⟨_, rfl, _, rfl, _, _, rfl, rfl, [39], t, p + 1, by rw [Int.natCast_add]; rfl, by simp, by simp, ⟨h2, tp.sz⟩, ?_⟩
      rw [drop_more h2]
      exact q
    rw [if_neg h1] at q
    refine ⟨_, rfl, rfl, _, rfl, _, _, _, rfl, rfl, _, rfl, ?_⟩
    rw [lit_q2, starts3 t [34] (by simp) p]
    refine ite2 (fun h3 => ?_) (fun h3 => ?_)
    · rw [if_pos h3] at q
      have h2 := pre1 h3
      refine ⟨_, rfl, _, rfl, _, _, rfl, rfl, [34], t, p + 1, by rw [Int.natCast_add]; rfl, by simp, by simp, ⟨h2, tp.sz⟩, ?_⟩
      rw [drop_more h2]
      exact q
    rw [if_neg h3] at q
    refine ⟨_, rfl, ?_⟩
    refine ⟨fun m σ H' => ∃ k : Nat, σ = [some (.str (S t)), some (.int (p : Int)), some (.int (k : Int))] ∧ H = H' ∧ m = t.length - k ∧ k ≤ t.length ∧ bareR (t.drop k) = bareR (t.drop p), ⟨t.length - p, p, rfl, rfl, rfl, tp.le, rfl⟩, ?_⟩
    rintro m σ H' ⟨k, rfl, rfl, rfl, hk, e⟩
    have fin : (¬ ∃ c r, t.drop k = c :: r ∧ BareL.contains c = false) → ∀ D : Ends, D.rt = Q →
        tSeq (tIfS (tTest (tOp rEq (tVar 2) (tVar 1))) (tRet (tC .non)) tNext) (tRet (tVar 2)) D [some (.str (S t)), some (.int (p : Int)), some (.int (k : Int))] H := by
      intro hno D eD
      have e1 : bareR (t.drop k) = t.drop k := by
        cases hd : t.drop k with
        | nil => rfl
        | cons c r =>
          unfold bareR
          rw [List.dropWhile_cons, if_neg (fun z => hno ⟨c, r, hd, by simpa using z⟩)]
      rw [e1] at e
      rw [← e] at q
      refine ⟨_, rfl, _, rfl, rfl, _, rfl, ite2 (fun h5 => ?_) (fun h5 => ?_)⟩
      · have h6 : (k : Int) = p := V.int.inj (of_decide_eq_true h5)
        have h7 : k = p := by omega
        rw [h7, if_pos rfl] at q
        show D.rt .non H
        rw [eD]
        exact q
      · have h7 : ¬ (t.drop k).length = (t.drop p).length := fun z => h5 (decide_eq_true (by
          rw [List.length_drop, List.length_drop] at z
          have := tp.le
          have : k = p := by omega
          rw [this]))
        rw [if_neg h7] at q
        refine ⟨_, rfl, ?_⟩
        have q' : Q (.int (pos t (t.drop k) : Nat)) H := q
        rw [drop_pos hk] at q'
        show D.rt _ H
        rw [eD]
        exact q'
    refine ⟨_, rfl, _, rfl, _, rfl, tp.line, _, _, rfl, rfl, _, rfl, ite2 (fun h4 => ?_) (fun h4 => ?_)⟩
    · have h2 : k < t.length := by
        have := of_decide_eq_true h4
        rw [S_len] at this
        omega
      have hd : t.drop k = t[k] :: t.drop (k + 1) := List.drop_eq_getElem_cons h2
      refine ⟨_, rfl, _, rfl, _, _, t[k], rfl, rfl, tp.line, atI_nat (by rw [S_tl]; exact List.getElem?_eq_getElem h2), t[k], _, rfl, rfl, _, rfl, ?_⟩
      rw [lit_B, mem_S]
      refine ite2 (fun h5 => ?_) (fun h5 => ?_)
      · refine ⟨fun σ' H' => ∃ k', σ' = [some (.str (S t)), some (.int (p : Int)), some (.int (k' : Nat))] ∧ H = H' ∧ k' = k + 1 ∧ bareR (t.drop k') = bareR (t.drop p), ?_, ?_⟩
        · rintro σ' H' ⟨k', rfl, rfl, rfl, e'⟩
          exact ⟨t.length - (k + 1), by omega, k + 1, rfl, rfl, rfl, by omega, e'⟩
        · refine ⟨_, rfl, _, _, rfl, rfl, k + 1, ?_, rfl, rfl, ?_⟩
          · rw [Int.natCast_add]
            rfl
          · rw [← e, hd]
            conv => rhs; unfold bareR
            rw [List.dropWhile_cons, if_pos h5]
            rfl
      · refine fin ?_ _ rfl
        rintro ⟨c, r, h6, h7⟩
        rw [hd] at h6
        injection h6 with h8 h9
        subst h8
        rw [h7] at h5
        exact h5 rfl
    · refine iteF (fin ?_ _ rfl)
      rintro ⟨c, r, h6, h7⟩
      have h2 : t.length ≤ k := by
        have : ¬ ((k : Int) < ((S t).length : Int)) := fun z => h4 (decide_eq_true z)
        rw [S_len] at this
        omega
      rw [List.drop_of_length_le h2] at h6
      cases h6
theorem inV2 (l a b : List Nat) : inV (.str (S l)) [.str (S a), .str (S b)] = (decide (l = a) || decide (l = b)) := by
  have e : ∀ x y : List Nat, eqV (.str (S x)) (.str (S y)) = decide (y = x) := fun x y => by
    by_cases h : y = x
    · subst h
      simp [eqV]
    · have h2 : ¬ S x = S y := fun z => h (S_inj z).symm
      simp [eqV, h, h2]
  show (eqV (.str (S a)) (.str (S l)) || (eqV (.str (S b)) (.str (S l)) || false)) = _
  rw [e, e, Bool.or_false]
theorem lit_us : ("_" : Str) = S [95] := by decide +kernel
theorem lit_co : (":" : Str) = S [58] := by decide +kernel
theorem lit_eq : ("=" : Str) = S [61] := by decide +kernel
theorem lit_sl : ("/" : Str) = S [47] := by decide +kernel
theorem lit_gt : (">" : Str) = S [62] := by decide +kernel
theorem lit_lt : ("<" : Str) = S [60] := by decide +kernel
theorem pos_lt {t r : List Nat} (h : r <:+ t) (h1 : 1 ≤ r.length) : pos t r + 1 ≤ t.length ∧ pos t (r.drop 1) = pos t r + 1 := by
  have := h.length_le
  unfold pos
  rw [List.length_drop]
  omega
theorem pos_eq {t a b : List Nat} (ha : a <:+ t) (hb : b <:+ t) : pos t a = pos t b ↔ a.length = b.length := by
  have := ha.length_le
  have := hb.length_le
  unfold pos
  omega
def sp_attribute_at (K : PySem.W.Frag) : Sp := fun vs H Q _ => ∃ (t : List Nat) (p : Nat), vs = [.str (S t), .int (p : Int)] ∧ TP t p ∧ ∀ H', Same H H' → Q (ov t (attrR (t.drop p))) H'
theorem ok_attribute_at {P : Program} {w : World} {K : PySem.W.Frag} {mg : Str → Option Value} {base : Heap} (T : Txt K mg) : FnOk P w K mg base CX0 3 T.a_attribute_at T.d_attribute_at ["text", "place"] (sp_attribute_at K) := by
  refine T.f_attribute_at.ok sc_attribute_at (fun vs H Q E h => ?_) (fun cdv A outer s H vs Q E hr h => ?_)
  · obtain ⟨t, p, rfl, _⟩ := h
    rfl
  · obtain ⟨t, p, rfl, tp, q⟩ := h
    refine ⟨_, (pss_cons (ps_set (i := 2) sc_attribute_at.nd rfl (.inl rfl) (pe_call (ok_behind_gap T) (hr.mono (by decide)) (by rfl) T.g_behind_gap T.f_behind_gap.kp T.b_behind_gap .nil pass0 (pa_cons (pv 0) (pa_cons (pv 1) pa_nil))))
        (pss_cons (ps_if (pt_cmpR op_eq (pv 2) (pv 1) (nomark _)) (pss_one (ps_ret pe_non)) pss_nil)
        (pss_cons (ps_if (PW.pt (pw_and (pt_not (pt_val (pe_call (ok_is_letter T) (hr.mono (by decide)) (by rfl) T.g_is_letter T.f_is_letter.kp T.b_is_letter .nil pass0 (pa_cons (pv 0) (pa_cons (pv 2) pa_nil))))) (pw_and1 (pt_cmpR op_notIn_seq (pe_slice sl_str (pv 0) (po_some (pv 2)) (po_some (pe_op op_add (pv 2) pe_int))) (pe_tup (pa_cons pe_str (pa_cons pe_str pa_nil))) (by rfl))))) (pss_one (ps_ret pe_non)) pss_nil)
        (pss_cons (ps_set (i := 3) sc_attribute_at.nd rfl (.inl rfl) (pe_call (ok_behind_all T) (hr.mono (by decide)) (by rfl) T.g_behind_all T.f_behind_all.kp T.b_behind_all .nil pass0 (pa_cons (pe_glob (v := .str "abcdefghijklmnopqrstuvwxyzABCDEFGHIJKLMNOPQRSTUVWXYZ0123456789_.:-") rfl T.g_KEY_SIGNS ⟨_, rfl⟩) (pa_cons (pv 0) (pa_cons (pv 2) pa_nil)))))
        (pss_cons (ps_set (i := 4) sc_attribute_at.nd rfl (.inl rfl) (pe_call (ok_behind_gap T) (hr.mono (by decide)) (by rfl) T.g_behind_gap T.f_behind_gap.kp T.b_behind_gap .nil pass0 (pa_cons (pv 0) (pa_cons (pv 3) pa_nil))))
        (pss_cons (ps_if (pt_not (pt_val (pe_bm PySem.F.plainAttrs_str PySem.F.slot_str_startswith PySem.F.type_str_startswith mt_startswith3 (pv 0) (pa_cons pe_str (pa_cons (pv 4) pa_nil))))) (pss_one (ps_ret (pv 3))) pss_nil)
        (pss_one (ps_ret (pe_call (ok_value_at T) (hr.mono (by decide)) (by rfl) T.g_value_at T.f_value_at.kp T.b_value_at .nil pass0 (pa_cons (pv 0) (pa_cons (pe_call (ok_behind_gap T) (hr.mono (by decide)) (by rfl) T.g_behind_gap T.f_behind_gap.kp T.b_behind_gap .nil pass0 (pa_cons (pv 0) (pa_cons (pe_op op_add (pv 4) pe_int) pa_nil))) pa_nil))))))))))), ?_⟩
    have sg : gapR (t.drop p) <:+ t := (suf_gap _).trans (suf_drop t p)
    have tg : TP t (pos t (gapR (t.drop p))) := ⟨pos_le _ _, tp.sz⟩
    have dg : t.drop (pos t (gapR (t.drop p))) = gapR (t.drop p) := pos_drop sg
    unfold attrR at q
    refine ⟨_, rfl, _, rfl, t, p, rfl, tp, ?_⟩
    refine ⟨_, rfl, _, rfl, rfl, _, rfl, ite2 (fun h1 => ?_) (fun h1 => ?_)⟩
    · have h2 : ((pos t (gapR (t.drop p)) : Nat) : Int) = p := V.int.inj (of_decide_eq_true h1)
      have h3 : pos t (gapR (t.drop p)) = pos t (t.drop p) := by
        rw [drop_pos tp.le]
        omega
      rw [if_pos ((pos_eq sg (suf_drop t p)).mp h3)] at q
      exact q H (Same.refl _)
    have h3 : ¬ (gapR (t.drop p)).length = (t.drop p).length := fun z => h1 (decide_eq_true (by
      rw [(pos_eq sg (suf_drop t p)).mpr z, drop_pos tp.le]))
    rw [if_neg h3] at q
    -- what follows
    have fin : ∀ H', Same H H' → (¬ (letterR (gapR (t.drop p)) = false ∧ (gapR (t.drop p)).take 1 ≠ [95] ∧ (gapR (t.drop p)).take 1 ≠ [58])) → ∀ D : Ends, D.rt = Q →
        (tSeq (tAsg (tCall (sp_behind_all K) [] E0 (tCons (tC (.str "abcdefghijklmnopqrstuvwxyzABCDEFGHIJKLMNOPQRSTUVWXYZ0123456789_.:-")) (tCons (tVar 0) (tCons (tVar 2) tNil)))) (gName 3))
          (tSeq (tAsg (tCall (sp_behind_gap K) [] E0 (tCons (tVar 0) (tCons (tVar 3) tNil))) (gName 4))
            (tSeq (tIfS (tNot (tB (tBM K "str" (fun x xs H Q => ∃ a b i, x = .str a ∧ xs = [.str b, .int i] ∧ Q (.bl (Txt.startswith3 a b i)) H) (tVar 0) (tCons (tC (.str "=")) (tCons (tVar 4) tNil))))) (tRet (tVar 3)) tNext)
              (tRet (tCall (sp_value_at K) [] E0 (tCons (tVar 0) (tCons (tCall (sp_behind_gap K) [] E0 (tCons (tVar 0) (tCons (tOp (rI0 fun i j => .int (i + j)) (tVar 4) (tC (.int 1))) tNil))) tNil))))))) D
          [some (.str (S t)), some (.int (p : Int)), some (.int (pos t (gapR (t.drop p)) : Nat)), none, none] H' := by
      intro H' sm hno D eD
      rw [if_neg hno] at q
      have sb : ba KeyL (gapR (t.drop p)) <:+ t := (suf_dw _ _).trans sg
      have sG : gapR (ba KeyL (gapR (t.drop p))) <:+ t := (suf_gap _).trans sb
      refine ⟨_, rfl, _, rfl, KeyL, t, _, by rw [lit_K]; rfl, tg, ?_⟩
      rw [dg]
      refine ⟨_, rfl, _, rfl, t, _, rfl, ⟨pos_le _ _, tp.sz⟩, ?_⟩
      rw [pos_drop sb]
      refine ⟨_, rfl, rfl, _, rfl, _, _, _, rfl, rfl, _, rfl, ?_⟩
      rw [lit_eq, starts3 t [61] (by simp), pos_drop sG]
      cases hp : ([61] : List Nat).isPrefixOf (gapR (ba KeyL (gapR (t.drop p)))) with
      | false =>
        rw [hp, if_pos rfl] at q
        refine iteT ⟨_, rfl, ?_⟩
        rw [eD]
        exact q H' sm
      | true =>
        rw [hp, if_neg (by simp)] at q
        refine iteF ?_
        obtain ⟨h4, h5⟩ := pos_lt sG (one_len hp)
        refine ⟨_, rfl, _, rfl, _, rfl, _, _, rfl, rfl, t, pos t ((gapR (ba KeyL (gapR (t.drop p)))).drop 1), by rw [h5, Int.natCast_add]; rfl, ⟨pos_le _ _, tp.sz⟩, ?_⟩
        have s1 : (gapR (ba KeyL (gapR (t.drop p)))).drop 1 <:+ t := (List.drop_suffix _ _).trans sG
        rw [pos_drop s1]
        refine ⟨t, _, rfl, ⟨pos_le _ _, tp.sz⟩, ?_⟩
        rw [pos_drop ((suf_gap _).trans s1), eD]
        exact q H' sm
    refine ⟨_, rfl, _, rfl, t, _, rfl, tg, _, rfl, ?_⟩
    rw [dg]
    cases hl : letterR (gapR (t.drop p)) with
    | true => exact iteF (fin H (Same.refl _) (fun z => by rw [hl] at z; cases z.1) _ rfl)
    | false =>
      refine iteT ?_
      refine ⟨_, rfl, _, rfl, _, rfl, _, rfl, _, _, rfl, rfl, _, rfl, _, rfl, tp.line, (by show 2 ≤ sizeLine; decide), fun p2 np2 => ?_⟩
      have ec : cutS (S t) (some ((pos t (gapR (t.drop p)) : Nat) : Int)) (some (((pos t (gapR (t.drop p)) : Nat) : Int) + 1)) = S ((gapR (t.drop p)).take 1) := by
        rw [← Int.natCast_one, ← Int.natCast_add, S_cut2 _ _ _ (Nat.le_add_right _ _), dg, Nat.add_sub_cancel_left]
      rw [ec]
      refine ⟨p2, _, rfl, .inr (SqT.of upd_same), rfl, rfl, _, rfl, ?_⟩
      rw [lit_us, lit_co, inV2]
      have sm := same_new (o := .tup [.str (S [95]), .str (S [58])]) np2
      by_cases h5 : (gapR (t.drop p)).take 1 = [95]
      · rw [decide_eq_true h5]
        exact iteF (fin _ sm (fun z => z.2.1 h5) _ rfl)
      · by_cases h6 : (gapR (t.drop p)).take 1 = [58]
        · rw [decide_eq_false h5, decide_eq_true h6]
          exact iteF (fin _ sm (fun z => z.2.2 h6) _ rfl)
        · rw [decide_eq_false h5, decide_eq_false h6]
          rw [if_pos ⟨hl, h5, h6⟩] at q
          exact iteT (q _ sm)
theorem ov_none (t : List Nat) (o : Option (List Nat)) : decide (ov t o = .non) = o.isNone := by
  cases o with
  | none => rfl
  | some r => exact decide_eq_false fun z => by cases z
def sp_closing_tag_at (K : PySem.W.Frag) : Sp := fun vs H Q _ => ∃ (t : List Nat) (p : Nat), vs = [.str (S t), .int (p : Int)] ∧ TP t (p + 2) ∧ Q (ov t (closeR (t.drop p))) H
theorem ok_closing_tag_at {P : Program} {w : World} {K : PySem.W.Frag} {mg : Str → Option Value} {base : Heap} (T : Txt K mg) : FnOk P w K mg base CX0 3 T.a_closing_tag_at T.d_closing_tag_at ["text", "place"] (sp_closing_tag_at K) := by
  refine T.f_closing_tag_at.ok sc_closing_tag_at (fun vs H Q E h => ?_) (fun cdv A outer s H vs Q E hr h => ?_)
  · obtain ⟨t, p, rfl, _⟩ := h
    rfl
  · obtain ⟨t, p, rfl, tp, q⟩ := h
    refine ⟨_, (pss_cons (ps_set (i := 2) sc_closing_tag_at.nd rfl (.inl rfl) (pe_call (ok_name_at T) (hr.mono (by decide)) (by rfl) T.g_name_at T.f_name_at.kp T.b_name_at .nil pass0 (pa_cons (pv 0) (pa_cons (pe_op op_add (pv 1) pe_int) pa_nil))))
        (pss_cons (ps_if (pt_cmpR op_isN (pv 2) pe_non (nomark _)) (pss_one (ps_ret pe_non)) pss_nil)
        (pss_one (ps_ret (pe_call (ok_behind_sign T) (hr.mono (by decide)) (by rfl) T.g_behind_sign T.f_behind_sign.kp T.b_behind_sign .nil pass0 (pa_cons pe_str (pa_cons (pv 0) (pa_cons (pe_call (ok_behind_gap T) (hr.mono (by decide)) (by rfl) T.g_behind_gap T.f_behind_gap.kp T.b_behind_gap .nil pass0 (pa_cons (pv 0) (pa_cons (pv 2) pa_nil))) pa_nil)))))))), ?_⟩
    unfold closeR at q
    refine ⟨_, rfl, _, rfl, _, _, rfl, rfl, t, p + 2, by rw [Int.natCast_add]; rfl, tp, ?_⟩
    rw [drop_more tp.le]
    refine ⟨_, rfl, rfl, _, rfl, ?_⟩
    rw [ov_none]
    cases hn : nameR ((t.drop p).drop 2) with
    | none =>
      rw [hn] at q
      exact iteT q
    | some r =>
      rw [hn] at q
      have sr : r <:+ t := by
        unfold nameR at hn
        split at hn
        · have e := Option.some.inj hn
          rw [← e]
          exact (suf_dw _ _).trans ((List.drop_suffix _ _).trans (suf_drop t p))
        · cases hn
      refine iteF ?_
      refine ⟨_, rfl, _, rfl, _, rfl, t, pos t r, rfl, ⟨pos_le _ _, tp.sz⟩, ?_⟩
      rw [pos_drop sr]
      refine ⟨62, t, _, by rw [lit_gt]; rfl, ⟨pos_le _ _, tp.sz⟩, ?_⟩
      rw [pos_drop ((suf_gap _).trans sr)]
      exact q
def sp_open_tag_at (K : PySem.W.Frag) : Sp := fun vs H Q _ => ∃ (t : List Nat) (p : Nat), vs = [.str (S t), .int (p : Int)] ∧ TP t (p + 1) ∧ ∀ H', Same H H' → Q (ov t (openR (t.drop p))) H'
theorem ok_open_tag_at {P : Program} {w : World} {K : PySem.W.Frag} {mg : Str → Option Value} {base : Heap} (T : Txt K mg) : FnOk P w K mg base CX0 4 T.a_open_tag_at T.d_open_tag_at ["text", "place"] (sp_open_tag_at K) := by
  refine T.f_open_tag_at.ok sc_open_tag_at (fun vs H Q E h => ?_) (fun cdv A outer s H vs Q E hr h => ?_)
  · obtain ⟨t, p, rfl, _⟩ := h
    rfl
  · obtain ⟨t, p, rfl, tp, q⟩ := h
    refine ⟨_, (pss_cons (ps_set (i := 2) sc_open_tag_at.nd rfl (.inl rfl) (pe_call (ok_name_at T) (hr.mono (by decide)) (by rfl) T.g_name_at T.f_name_at.kp T.b_name_at .nil pass0 (pa_cons (pv 0) (pa_cons (pe_op op_add (pv 1) pe_int) pa_nil))))
        (pss_cons (ps_if (pt_cmpR op_isN (pv 2) pe_non (nomark _)) (pss_one (ps_ret pe_non)) pss_nil)
        (pss_cons (ps_set (i := 3) sc_open_tag_at.nd rfl (.inl rfl) (pe_call (ok_attribute_at T) (hr.mono (by decide)) (by rfl) T.g_attribute_at T.f_attribute_at.kp T.b_attribute_at .nil pass0 (pa_cons (pv 0) (pa_cons (pv 2) pa_nil))))
        (pss_cons (ps_while PassesOwn.never (pt_cmpR op_notN (pv 3) pe_non (nomark _)) (pss_cons (ps_set (i := 2) sc_open_tag_at.nd rfl (.inl rfl) (pv 3))
        (pss_one (ps_set (i := 3) sc_open_tag_at.nd rfl (.inl rfl) (pe_call (ok_attribute_at T) (hr.mono (by decide)) (by rfl) T.g_attribute_at T.f_attribute_at.kp T.b_attribute_at .nil pass0 (pa_cons (pv 0) (pa_cons (pv 2) pa_nil)))))))
        (pss_cons (ps_set (i := 2) sc_open_tag_at.nd rfl (.inl rfl) (pe_call (ok_behind_gap T) (hr.mono (by decide)) (by rfl) T.g_behind_gap T.f_behind_gap.kp T.b_behind_gap .nil pass0 (pa_cons (pv 0) (pa_cons (pv 2) pa_nil))))
        (pss_cons (ps_if (pt_val (pe_bm PySem.F.plainAttrs_str PySem.F.slot_str_startswith PySem.F.type_str_startswith mt_startswith3 (pv 0) (pa_cons pe_str (pa_cons (pv 2) pa_nil)))) (pss_one (ps_aug (i := 2) sc_open_tag_at.nd rfl (.inl rfl) pe_int ip_add)) pss_nil)
        (pss_one (ps_ret (pe_call (ok_behind_sign T) (hr.mono (by decide)) (by rfl) T.g_behind_sign T.f_behind_sign.kp T.b_behind_sign .nil pass0 (pa_cons pe_str (pa_cons (pv 0) (pa_cons (pv 2) pa_nil)))))))))))), ?_⟩
    unfold openR at q
    refine ⟨_, rfl, _, rfl, _, _, rfl, rfl, t, p + 1, by rw [Int.natCast_add]; rfl, tp, ?_⟩
    rw [drop_more tp.le]
    refine ⟨_, rfl, rfl, _, rfl, ?_⟩
    rw [ov_none]
    cases hn : nameR ((t.drop p).drop 1) with
    | none =>
      rw [hn] at q
      exact iteT (q H (Same.refl _))
    | some r =>
      rw [hn] at q
      have sr : r <:+ t := by
        unfold nameR at hn
        split at hn
        · have e := Option.some.inj hn
          rw [← e]
          exact (suf_dw _ _).trans ((List.drop_suffix _ _).trans (suf_drop t p))
        · cases hn
      refine iteF ?_
      -- behind = attribute_at(text, end)
      refine ⟨_, rfl, _, rfl, t, pos t r, rfl, ⟨pos_le _ _, tp.sz⟩, fun H1 sm1 => ?_⟩
      rw [pos_drop sr]
      refine ⟨fun m σ H' => ∃ e : List Nat, σ = [some (.str (S t)), some (.int (p : Int)), some (.int (pos t e : Nat)), some (ov t (attrR e))] ∧ Same H H' ∧ m = e.length ∧ e <:+ t ∧ attrsR e.length e = attrsR r.length r, ⟨r.length, r, rfl, sm1, rfl, sr, rfl⟩, ?_⟩
      rintro m σ H' ⟨e, rfl, sm, rfl, se, ee⟩
      refine ⟨_, rfl, rfl, _, rfl, ?_⟩
      rw [ov_none]
      cases ha : attrR e with
      | some e' =>
        have hl := attr_lt ha
        have se' : e' <:+ t := (suf_attr ha).trans se
        refine iteT ⟨fun σ' H' => ∃ e2 : List Nat, σ' = [some (.str (S t)), some (.int (p : Int)), some (.int (pos t e2 : Nat)), some (ov t (attrR e2))] ∧ Same H H' ∧ e2 = e', ?_, ?_⟩
        · rintro σ' H' ⟨e2, rfl, sm2, rfl⟩
          exact ⟨_, hl, e2, rfl, sm2, rfl, se', by rw [← attrs_step ha]; exact ee⟩
        · refine ⟨_, rfl, ?_⟩
          refine ⟨_, rfl, _, rfl, t, pos t e', rfl, ⟨pos_le _ _, tp.sz⟩, fun H2 sm2 => ?_⟩
          rw [pos_drop se']
          exact ⟨e', rfl, sm.trans sm2, rfl⟩
      | none =>
        rw [attrs_stop ha] at ee
        dsimp only at q
        rw [← ee] at q
        refine iteF ?_
        refine ⟨_, rfl, _, rfl, t, pos t e, rfl, ⟨pos_le _ _, tp.sz⟩, ?_⟩
        rw [pos_drop se]
        have sg : gapR e <:+ t := (suf_gap _).trans se
        unfold endR at q
        refine ⟨_, rfl, rfl, _, rfl, _, _, _, rfl, rfl, _, rfl, ?_⟩
        rw [lit_sl, starts3 t [47] (by simp), pos_drop sg]
        cases hp : ([47] : List Nat).isPrefixOf (gapR e) with
        | true =>
          rw [hp, if_pos rfl] at q
          obtain ⟨h4, h5⟩ := pos_lt sg (one_len hp)
          refine iteT ⟨_, rfl, _, _, rfl, rfl, ?_⟩
          refine ⟨_, rfl, _, rfl, 62, t, pos t ((gapR e).drop 1), by rw [lit_gt, h5, Int.natCast_add]; rfl, ⟨pos_le _ _, tp.sz⟩, ?_⟩
          rw [pos_drop ((List.drop_suffix _ _).trans sg)]
          exact q H' sm
        | false =>
          rw [hp, if_neg (by simp)] at q
          refine iteF ?_
          refine ⟨_, rfl, _, rfl, 62, t, pos t (gapR e), by rw [lit_gt]; rfl, ⟨pos_le _ _, tp.sz⟩, ?_⟩
          rw [pos_drop sg]
          exact q H' sm
theorem lit_c1 : ("<!--" : Str) = S [60, 33, 45, 45] := by decide +kernel
theorem lit_c2 : ("-->" : Str) = S [45, 45, 62] := by decide +kernel
theorem lit_i1 : ("<?" : Str) = S [60, 63] := by decide +kernel
theorem lit_i2 : ("?>" : Str) = S [63, 62] := by decide +kernel
theorem lit_d1 : ("<![CDATA[" : Str) = S [60, 33, 91, 67, 68, 65, 84, 65, 91] := by decide +kernel
theorem lit_d2 : ("]]>" : Str) = S [93, 93, 62] := by decide +kernel
theorem lit_e1 : ("<!" : Str) = S [60, 33] := by decide +kernel
theorem lit_f1 : ("</" : Str) = S [60, 47] := by decide +kernel
theorem pre_at {w t : List Nat} {p : Nat} (h : w.isPrefixOf (t.drop p) = true) (hp : p ≤ t.length) : p + w.length ≤ t.length := by
  have := pre_len _ _ h
  rw [List.length_drop] at this
  omega
def sp_tag_at (K : PySem.W.Frag) : Sp := fun vs H Q _ => ∃ (t : List Nat) (p : Nat), vs = [.str (S t), .int (p : Int)] ∧ TP t p ∧ ∀ H', Same H H' → Q (ov t (tagR (t.drop p))) H'
theorem ok_tag_at {P : Program} {w : World} {K : PySem.W.Frag} {mg : Str → Option Value} {base : Heap} (T : Txt K mg) : FnOk P w K mg base CX0 5 T.a_tag_at T.d_tag_at ["text", "place"] (sp_tag_at K) := by
  refine T.f_tag_at.ok sc_tag_at (fun vs H Q E h => ?_) (fun cdv A outer s H vs Q E hr h => ?_)
  · obtain ⟨t, p, rfl, _⟩ := h
    rfl
  · obtain ⟨t, p, rfl, tp, q⟩ := h
    refine ⟨_, (pss_cons (ps_if (pt_val (pe_bm PySem.F.plainAttrs_str PySem.F.slot_str_startswith PySem.F.type_str_startswith mt_startswith3 (pv 0) (pa_cons pe_str (pa_cons (pv 1) pa_nil)))) (pss_one (ps_ret (pe_call (ok_behind_first T) (hr.mono (by decide)) (by rfl) T.g_behind_first T.f_behind_first.kp T.b_behind_first .nil pass0 (pa_cons pe_str (pa_cons (pv 0) (pa_cons (pe_op op_add (pv 1) pe_int) pa_nil)))))) pss_nil)
        (pss_cons (ps_if (pt_val (pe_bm PySem.F.plainAttrs_str PySem.F.slot_str_startswith PySem.F.type_str_startswith mt_startswith3 (pv 0) (pa_cons pe_str (pa_cons (pv 1) pa_nil)))) (pss_one (ps_ret (pe_call (ok_behind_first T) (hr.mono (by decide)) (by rfl) T.g_behind_first T.f_behind_first.kp T.b_behind_first .nil pass0 (pa_cons pe_str (pa_cons (pv 0) (pa_cons (pe_op op_add (pv 1) pe_int) pa_nil)))))) pss_nil)
        (pss_cons (ps_if (pt_val (pe_bm PySem.F.plainAttrs_str PySem.F.slot_str_startswith PySem.F.type_str_startswith mt_startswith3 (pv 0) (pa_cons pe_str (pa_cons (pv 1) pa_nil)))) (pss_one (ps_ret (pe_call (ok_behind_first T) (hr.mono (by decide)) (by rfl) T.g_behind_first T.f_behind_first.kp T.b_behind_first .nil pass0 (pa_cons pe_str (pa_cons (pv 0) (pa_cons (pe_op op_add (pv 1) pe_int) pa_nil)))))) pss_nil)
        (pss_cons (ps_if (PW.pt (pw_and (pt_val (pe_bm PySem.F.plainAttrs_str PySem.F.slot_str_startswith PySem.F.type_str_startswith mt_startswith3 (pv 0) (pa_cons pe_str (pa_cons (pv 1) pa_nil)))) (pw_and1 (pt_val (pe_call (ok_is_letter T) (hr.mono (by decide)) (by rfl) T.g_is_letter T.f_is_letter.kp T.b_is_letter .nil pass0 (pa_cons (pv 0) (pa_cons (pe_op op_add (pv 1) pe_int) pa_nil))))))) (pss_one (ps_ret (pe_call (ok_behind_first T) (hr.mono (by decide)) (by rfl) T.g_behind_first T.f_behind_first.kp T.b_behind_first .nil pass0 (pa_cons pe_str (pa_cons (pv 0) (pa_cons (pe_op op_add (pv 1) pe_int) pa_nil)))))) pss_nil)
        (pss_cons (ps_if (pt_val (pe_bm PySem.F.plainAttrs_str PySem.F.slot_str_startswith PySem.F.type_str_startswith mt_startswith3 (pv 0) (pa_cons pe_str (pa_cons (pv 1) pa_nil)))) (pss_one (ps_ret (pe_call (ok_closing_tag_at T) (hr.mono (by decide)) (by rfl) T.g_closing_tag_at T.f_closing_tag_at.kp T.b_closing_tag_at .nil pass0 (pa_cons (pv 0) (pa_cons (pv 1) pa_nil))))) pss_nil)
        (pss_cons (ps_if (pt_val (pe_bm PySem.F.plainAttrs_str PySem.F.slot_str_startswith PySem.F.type_str_startswith mt_startswith3 (pv 0) (pa_cons pe_str (pa_cons (pv 1) pa_nil)))) (pss_one (ps_ret (pe_call (ok_open_tag_at T) (hr.mono (by decide)) (by rfl) T.g_open_tag_at T.f_open_tag_at.kp T.b_open_tag_at .nil pass0 (pa_cons (pv 0) (pa_cons (pv 1) pa_nil))))) pss_nil)
        (pss_one (ps_ret pe_non)))))))), ?_⟩
    unfold tagR at q
    refine ⟨_, rfl, rfl, _, rfl, _, _, _, rfl, rfl, _, rfl, ?_⟩
    rw [lit_c1, starts3 t _ (by simp)]
    refine ite2 (fun h => ?_) (fun h => ?_)
    · rw [if_pos h] at q
      have h2 : p + 4 ≤ t.length := pre_at h tp.le
      refine ⟨_, rfl, _, rfl, _, _, rfl, rfl, _, t, p + 2, by rw [lit_c2, Int.natCast_add]; rfl, by simp, by simp, ⟨by omega, tp.sz⟩, ?_⟩
      rw [drop_more (by omega)]
      exact q H (Same.refl _)
    rw [if_neg h] at q
    refine ⟨_, rfl, rfl, _, rfl, _, _, _, rfl, rfl, _, rfl, ?_⟩
    rw [lit_i1, starts3 t _ (by simp)]
    refine ite2 (fun h => ?_) (fun h => ?_)
    · rw [if_pos h] at q
      have h2 : p + 2 ≤ t.length := pre_at h tp.le
      refine ⟨_, rfl, _, rfl, _, _, rfl, rfl, _, t, p + 2, by rw [lit_i2, Int.natCast_add]; rfl, by simp, by simp, ⟨by omega, tp.sz⟩, ?_⟩
      rw [drop_more (by omega)]
      exact q H (Same.refl _)
    rw [if_neg h] at q
    refine ⟨_, rfl, rfl, _, rfl, _, _, _, rfl, rfl, _, rfl, ?_⟩
    rw [lit_d1, starts3 t _ (by simp)]
    refine ite2 (fun h => ?_) (fun h => ?_)
    · rw [if_pos h] at q
      have h2 : p + 9 ≤ t.length := pre_at h tp.le
      refine ⟨_, rfl, _, rfl, _, _, rfl, rfl, _, t, p + 9, by rw [lit_d2, Int.natCast_add]; rfl, by simp, by simp, ⟨by omega, tp.sz⟩, ?_⟩
      rw [drop_more (by omega)]
      exact q H (Same.refl _)
    rw [if_neg h] at q
    -- what follows
    have fin : (¬ (([60, 33] : List Nat).isPrefixOf (t.drop p) = true ∧ letterR ((t.drop p).drop 2) = true)) → ∀ D : Ends, D.rt = Q →
        (tSeq (tIfS (tB (tBM K "str" (fun x xs H Q => ∃ a b i, x = .str a ∧ xs = [.str b, .int i] ∧ Q (.bl (Txt.startswith3 a b i)) H) (tVar 0) (tCons (tC (.str "</")) (tCons (tVar 1) tNil)))) (tRet (tCall (sp_closing_tag_at K) [] E0 (tCons (tVar 0) (tCons (tVar 1) tNil)))) tNext)
          (tSeq (tIfS (tB (tBM K "str" (fun x xs H Q => ∃ a b i, x = .str a ∧ xs = [.str b, .int i] ∧ Q (.bl (Txt.startswith3 a b i)) H) (tVar 0) (tCons (tC (.str "<")) (tCons (tVar 1) tNil)))) (tRet (tCall (sp_open_tag_at K) [] E0 (tCons (tVar 0) (tCons (tVar 1) tNil)))) tNext)
            (tRet (tC .non)))) D [some (.str (S t)), some (.int (p : Int))] H := by
      intro hno D eD
      rw [if_neg hno] at q
      refine ⟨_, rfl, rfl, _, rfl, _, _, _, rfl, rfl, _, rfl, ?_⟩
      rw [lit_f1, starts3 t _ (by simp)]
      refine ite2 (fun h => ?_) (fun h => ?_)
      · rw [if_pos h] at q
        have h2 : p + 2 ≤ t.length := pre_at h tp.le
        refine ⟨_, rfl, _, rfl, t, p, rfl, ⟨h2, tp.sz⟩, ?_⟩
        rw [eD]
        exact q H (Same.refl _)
      rw [if_neg h] at q
      refine ⟨_, rfl, rfl, _, rfl, _, _, _, rfl, rfl, _, rfl, ?_⟩
      rw [lit_lt, starts3 t _ (by simp)]
      refine ite2 (fun h => ?_) (fun h => ?_)
      · rw [if_pos h] at q
        have h2 : p + 1 ≤ t.length := pre_at h tp.le
        refine ⟨_, rfl, _, rfl, t, p, rfl, ⟨h2, tp.sz⟩, fun H' sm => ?_⟩
        rw [eD]
        exact q H' sm
      rw [if_neg h] at q
      show D.rt .non H
      rw [eD]
      exact q H (Same.refl _)
    refine ⟨_, rfl, rfl, _, rfl, _, _, _, rfl, rfl, _, rfl, ?_⟩
    rw [lit_e1, starts3 t _ (by simp)]
    refine ite2 (fun h => ?_) (fun h => ?_)
    · have h2 : p + 2 ≤ t.length := pre_at h tp.le
      refine ⟨_, rfl, _, rfl, _, _, rfl, rfl, t, p + 2, by rw [Int.natCast_add]; rfl, ⟨h2, tp.sz⟩, _, rfl, ?_⟩
      rw [drop_more h2]
      cases hl : letterR ((t.drop p).drop 2) with
      | true =>
        rw [if_pos ⟨h, hl⟩] at q
        have h3 : p + 3 ≤ t.length := by
          cases hd : (t.drop p).drop 2 with
          | nil =>
            rw [hd] at hl
            cases hl
          | cons c r =>
            have := congrArg List.length hd
            rw [List.length_drop, List.length_drop, List.length_cons] at this
            omega
        refine iteT ⟨_, rfl, _, rfl, _, _, rfl, rfl, _, t, p + 3, by rw [lit_gt, Int.natCast_add]; rfl, by simp, by simp, ⟨h3, tp.sz⟩, ?_⟩
        rw [drop_more h3]
        exact q H (Same.refl _)
      | false => exact iteF (fin (fun z => by rw [hl] at z; cases z.2) _ rfl)
    · exact iteF (fin (fun z => h z.1) _ rfl)

theorem tup_ne {H : Hp} {f L : Addr} {xs : List V} (h : H f = some (.tup xs)) (w : Well H L) : f ≠ L := by
  obtain ⟨x, y, e⟩ := w
  exact ne_of h e fun z => by cases z
/-! ### menus: lists of pairs of a text and a flag -/
def menuT : List (Str × Bool) → TA
  | [] => tNil
  | p :: ms => tCons (tTup (tCons (tC (.str p.1)) (tCons (tC (.bl p.2)) tNil))) (menuT ms)
def MAt (H : Hp) (v : V) (p : Str × Bool) : Prop := ∃ r, v = .ref r ∧ H r = some (.tup [.str p.1, .bl p.2])
def Menu (H : Hp) (xs : List V) (ms : List (Str × Bool)) : Prop := ∀ v ∈ xs, ∃ p ∈ ms, MAt H v p
theorem MAt.same {H H' : Hp} {v : V} {p : Str × Bool} (h : MAt H v p) (sm : Same H H') : MAt H' v p := by
  obtain ⟨r, e, h⟩ := h
  exact ⟨r, e, sm _ _ h⟩
theorem Menu.same {H H' : Hp} {xs : List V} {ms : List (Str × Bool)} (h : Menu H xs ms) (sm : Same H H') : Menu H' xs ms := fun v hv => by
  obtain ⟨p, hp, h⟩ := h v hv
  exact ⟨p, hp, h.same sm⟩
theorem Menu.keep {L : Addr} {H H' : Hp} {xs : List V} {ms : List (Str × Bool)} (h : Menu H xs ms) (w : Well H L) (k : Keeps L H H') : Menu H' xs ms := fun v hv => by
  obtain ⟨p, hp, r, e, h⟩ := h v hv
  exact ⟨p, hp, r, e, k _ _ (tup_ne h w) h⟩
theorem Menu.app {H : Hp} {xs ys : List V} {ms ns : List (Str × Bool)} (h : Menu H xs ms) (g : Menu H ys ns) : Menu H (xs ++ ys) (ms ++ ns) := fun v hv => by
  rcases List.mem_append.mp hv with hv | hv
  · obtain ⟨p, hp, h⟩ := h v hv
    exact ⟨p, List.mem_append_left _ hp, h⟩
  · obtain ⟨p, hp, h⟩ := g v hv
    exact ⟨p, List.mem_append_right _ hp, h⟩
theorem menu_read : ∀ (ms : List (Str × Bool)) (σ : L2.St) (H : Hp) (P : List V → Hp → Prop), (∀ H' xs, Same H H' → Menu H' xs ms → xs.length = ms.length → P xs H') → menuT ms σ H P
  | [], σ, H, P, h => h H [] (Same.refl _) (fun _ hv => by cases hv) rfl
  | p :: ms, σ, H, P, h => by
    refine ⟨by show 2 ≤ sizeLine; decide, fun r nr => ?_⟩
    refine menu_read ms σ _ _ fun H' xs sm hm hl => ?_
    refine h H' (.ref r :: xs) ((same_new nr).trans sm) (fun v hv => ?_) (by rw [List.length_cons, hl, List.length_cons])
    rcases List.mem_cons.mp hv with rfl | hv
    · exact ⟨p, List.mem_cons_self .., r, rfl, sm _ _ upd_same⟩
    · obtain ⟨q, hq, h'⟩ := hm v hv
      exact ⟨q, List.mem_cons_of_mem _ hq, h'⟩
/-- the list of a menu -/
theorem menu_list (ms : List (Str × Bool)) (hs : ms.length ≤ 100) (σ : L2.St) (H : Hp) (Q : VK) (h : ∀ H' a xs, Same H H' → H' a = some (.lst xs) → H a = none → Menu H' xs ms → xs.length = ms.length → Q (.ref a) H') : tLst (menuT ms) σ H Q := by
  refine menu_read ms σ H _ fun H' xs sm hm hl => ⟨by rw [hl]; exact Nat.le_trans hs (by decide), fun a na => ?_⟩
  refine h _ a xs (sm.trans (same_new na)) upd_same ?_ (hm.same (same_new na)) hl
  cases e : H a with
  | none => rfl
  | some o => rw [sm _ _ e] at na; cases na
/-- one of a menu -/
theorem one_menu {K : PySem.W.Frag} (ms : List (Str × Bool)) (h0 : ms ≠ []) (hs : ms.length ≤ 100) {σ : L2.St} {H : Hp} {Q : VK} {L : Addr} (w : Well H L) {i : Nat} (hi : σ[i]? = some (some (.ref L)))
    (h : ∀ H' r p, Keeps L H H' → Well H' L → p ∈ ms → H' r = some (.tup [.str p.1, .bl p.2]) → Q (.ref r) H') :
    tCall (sp__law_one K) [] E0 (tCons (tVar i) (tCons (tLst (menuT ms)) tNil)) σ H Q := by
  refine ⟨_, hi, menu_list ms hs σ H _ fun H1 a xs sm ha na hm hl => ?_⟩
  have ha' : a ≠ L := by
    obtain ⟨x, y, e⟩ := w
    intro z
    rw [z, e] at na
    cases na
  refine ⟨L, a, xs, rfl, SqL.of ha, ha', ?_, by rw [hl]; omega, w.same sm, fun H2 v k2 w2 hv => ?_⟩
  · intro z
    rw [z] at hl
    exact h0 (List.eq_nil_of_length_eq_zero hl.symm)
  · obtain ⟨p, hp, r, rfl, hr⟩ := (hm.keep (w.same sm) k2) v hv
    exact h H2 r p ((Keeps.of sm).trans k2) w2 hp hr
/-- one of some texts -/
def textsT : List Str → TA
  | [] => tNil
  | s :: ms => tCons (tC (.str s)) (textsT ms)
theorem texts_read : ∀ (ms : List Str) (σ : L2.St) (H : Hp) (P : List V → Hp → Prop), P (ms.map .str) H → textsT ms σ H P
  | [], _, _, _, h => h
  | s :: ms, σ, H, P, h => texts_read ms σ H (fun xs H2 => P (.str s :: xs) H2) h
theorem one_text {K : PySem.W.Frag} (ms : List Str) (h0 : ms ≠ []) (hs : ms.length ≤ 100) {σ : L2.St} {H : Hp} {Q : VK} {L : Addr} (w : Well H L) {i : Nat} (hi : σ[i]? = some (some (.ref L)))
    (h : ∀ H' s, Keeps L H H' → Well H' L → s ∈ ms → Q (.str s) H') :
    tCall (sp__law_one K) [] E0 (tCons (tVar i) (tCons (tLst (textsT ms)) tNil)) σ H Q := by
  refine ⟨_, hi, texts_read ms σ H _ ⟨by rw [List.length_map]; exact Nat.le_trans hs (by decide), fun a na => ?_⟩⟩
  have ha' : a ≠ L := by
    obtain ⟨x, y, e⟩ := w
    intro z
    rw [z, e] at na
    cases na
  refine ⟨L, a, _, rfl, SqL.of upd_same, ha', by simpa using h0, by rw [List.length_map]; omega, w.new na, fun H2 v k2 w2 hv => ?_⟩
  obtain ⟨s, hs, rfl⟩ := List.mem_map.mp hv
  exact h H2 s ((Keeps.new na).trans k2) w2 hs
theorem ne_of_new {H : Hp} {L a c : Addr} {o : HO} (w : Well H L) (na : H a = none) (nc : upd H a o c = none) : c ≠ L := (w.new na).ne nc
/-! ### gaps, values, attributes -/
def sp__law_gap (K : PySem.W.Frag) : Sp := fun vs H Q _ => ∃ (L : Addr) (least : Bool), vs = [.ref L, .bl least] ∧ Well H L ∧
  ∀ H' r g b, Keeps L H H' → Well H' L → H' r = some (.tup [.str (S g), .bl b]) → GapSpec least g b → g.length ≤ 4 → (g, b) ∈ Gaps6 → Q (.ref r) H'
theorem lit_nn : ("\n\n" : Str) = S [10, 10] := by decide +kernel
def GapTexts : List (List Nat) := [[], [32], [10], [32, 10, 32, 32], [9]]
theorem gap_texts : ([.str "", .str " ", .str "\n", .str " \n  ", .str "\t"] : List V) = GapTexts.map fun g => .str (S g) := by
  show _ = [V.str (S []), V.str (S [32]), V.str (S [10]), V.str (S [32, 10, 32, 32]), V.str (S [9])]
  rw [show ("" : Str) = S [] by decide +kernel, show (" " : Str) = S [32] by decide +kernel, show ("\n" : Str) = S [10] by decide +kernel, show (" \n  " : Str) = S [32, 10, 32, 32] by decide +kernel, show ("\t" : Str) = S [9] by decide +kernel]
theorem gap_in : ∀ g ∈ GapTexts, (g, true) ∈ Gaps6 := by decide
theorem gap_ok : ∀ g ∈ GapTexts, GapOk g ∧ g.length ≤ 4 := by
  unfold GapOk
  decide
theorem ok__law_gap {P : Program} {w : World} {K : PySem.W.Frag} {mg : Str → Option Value} {base : Heap} (T : Txt K mg) : FnOk P w K mg base CX0 3 T.a__law_gap T.d__law_gap ["_law_well_here", "_law_least"] (sp__law_gap K) := by
  refine T.f__law_gap.ok sc__law_gap (fun vs H Q E h => ?_) (fun cdv A outer s H vs Q E hr h => ?_)
  · obtain ⟨L, least, rfl, _⟩ := h
    rfl
  · obtain ⟨L, least, rfl, hW, q⟩ := h
    refine ⟨_, (pss_cons (ps_if (pt_cmpR op_eq (pe_call (ok__law_draw T) (hr.mono (by decide)) (by rfl) T.g__law_draw T.f__law_draw.kp T.b__law_draw .nil pass0 (pa_cons (pv 0) (pa_cons pe_int pa_nil))) pe_int (nomark _)) (pss_one (ps_ret (pe_tup (pa_cons pe_str (pa_cons pe_bl pa_nil))))) pss_nil)
        (pss_one (ps_ret (pe_tup (pa_cons (pe_call (ok__law_one T) (hr.mono (by decide)) (by rfl) T.g__law_one T.f__law_one.kp T.b__law_one .nil pass0 (pa_cons (pv 0) (pa_cons (pe_slice sl_list (pe_lst (pa_cons pe_str (pa_cons pe_str (pa_cons pe_str (pa_cons pe_str (pa_cons pe_str pa_nil)))))) (po_some (pe_callTy call_int1 (by rfl) T.z_int (by decide +kernel) (pa_cons (pv 1) pa_nil))) po_none) pa_nil))) (pa_cons pe_bl pa_nil)))))), ?_⟩
    refine ⟨_, rfl, L, 12, rfl, by decide, by decide, hW, fun H1 d k1 w1 h0 h1 => ?_⟩
    refine ⟨rfl, _, rfl, ite2 (fun _ => ?_) (fun _ => ?_)⟩
    · refine ⟨(by show 2 ≤ sizeLine; decide), fun p np => ?_⟩
      rw [lit_nn]
      exact q _ p NN false (k1.trans (.new np)) (w1.new np) upd_same (.inl ⟨rfl, rfl⟩) (by decide) (by decide)
    · refine ⟨_, rfl, (by show 5 ≤ sizeLine; decide), fun a na => ?_⟩
      rw [gap_texts]
      refine ⟨_, rfl, .inr ⟨least, rfl, _, rfl, a, _, rfl, SqL.of upd_same, fun c nc => ?_⟩⟩
      have w2 := (w1.new (o := .lst (GapTexts.map fun g => V.str (S g))) na).new (o := .lst (cutV (GapTexts.map fun g => V.str (S g)) (some (if least = true then 1 else 0)) none)) nc
      have k2 : Keeps L H1 _ := (Keeps.new (o := .lst (GapTexts.map fun g => V.str (S g))) na).trans (.new (o := .lst (cutV (GapTexts.map fun g => V.str (S g)) (some (if least = true then 1 else 0)) none)) nc)
      have hcut : cutV (GapTexts.map fun g => V.str (S g)) (some (if least = true then 1 else 0)) none = (if least = true then GapTexts.drop 1 else GapTexts).map fun g => V.str (S g) := by
        cases least <;> rfl
      refine ⟨L, c, _, rfl, SqL.of upd_same, ne_of_new w1 na nc, ?_, ?_, w2, fun H2 v k3 w3 hv => ?_⟩
      · rw [hcut]
        cases least <;> simp [GapTexts]
      · rw [hcut]
        cases least <;> simp [GapTexts]
      rw [hcut] at hv
      obtain ⟨g, hg, rfl⟩ := List.mem_map.mp hv
      refine ⟨(by show 2 ≤ sizeLine; decide), fun p np => ?_⟩
      have hg' : g ∈ GapTexts := by
        cases least with
        | true => exact List.mem_of_mem_drop hg
        | false => exact hg
      refine q _ p g true (k1.trans (k2.trans (k3.trans (.new np)))) (w3.new np) upd_same (.inr ⟨rfl, (gap_ok g hg').1, fun h => ?_⟩) (gap_ok g hg').2 (gap_in g hg')
      subst h
      intro z
      subst z
      revert hg
      decide
def sp__law_value (K : PySem.W.Frag) : Sp := fun vs H Q _ => ∃ (L : Addr), vs = [.ref L] ∧ Well H L ∧
  ∀ H' r v b e, Keeps L H H' → Well H' L → H' r = some (.tup [.str (S v), .bl b]) → ValSpec v b e → (e = true → v = [97, 47, 98] ∨ v = [38, 97, 109, 112, 59, 42]) → v.length ≤ 6 → Q (.ref r) H'
def Vals6 : List (Str × Bool) := [("'a b'", true), ("\">\"", true), ("\"x\ny\"", true), ("\"\"", true), ("a/b", true), ("&amp;*", true)]
def Vals4 : List (Str × Bool) := [("a'b", false), ("a=b", false), ("<", false), ("a`b", false)]
def ValsL : List (List Nat × Bool × Bool) := [([39, 97, 32, 98, 39], true, false), ([34, 62, 34], true, false), ([34, 120, 10, 121, 34], true, false), ([34, 34], true, false), ([97, 47, 98], true, true), ([38, 97, 109, 112, 59, 42], true, true),
  ([97, 39, 98], false, false), ([97, 61, 98], false, false), ([60], false, false), ([97, 96, 98], false, false)]
theorem vals_all : Vals6 ++ Vals4 = ValsL.map fun x => (S x.1, x.2.1) := by
  show [_, _, _, _, _, _, _, _, _, _] = [_, _, _, _, _, _, _, _, _, _]
  rw [show ("'a b'" : Str) = S [39, 97, 32, 98, 39] by decide +kernel, show ("\">\"" : Str) = S [34, 62, 34] by decide +kernel, show ("\"x\ny\"" : Str) = S [34, 120, 10, 121, 34] by decide +kernel, show ("\"\"" : Str) = S [34, 34] by decide +kernel,
    show ("a/b" : Str) = S [97, 47, 98] by decide +kernel, show ("&amp;*" : Str) = S [38, 97, 109, 112, 59, 42] by decide +kernel, show ("a'b" : Str) = S [97, 39, 98] by decide +kernel, show ("a=b" : Str) = S [97, 61, 98] by decide +kernel,
    show ("<" : Str) = S [60] by decide +kernel, show ("a`b" : Str) = S [97, 96, 98] by decide +kernel]
theorem vals_ok : ∀ x ∈ ValsL, ValSpec x.1 x.2.1 x.2.2 ∧ (x.2.2 = true → x.1 = [97, 47, 98] ∨ x.1 = [38, 97, 109, 112, 59, 42]) ∧ x.1.length ≤ 6 := by
  intro x hx
  refine ⟨?_, ?_, ?_⟩
  · simp only [ValsL, List.mem_cons, List.not_mem_nil, or_false] at hx
    rcases hx with rfl | rfl | rfl | rfl | rfl | rfl | rfl | rfl | rfl | rfl
    · exact .inl ⟨rfl, .inl ⟨rfl, [97, 32, 98], by decide, rfl⟩⟩
    · exact .inl ⟨rfl, .inr (.inl ⟨rfl, [62], by decide, rfl⟩)⟩
    · exact .inl ⟨rfl, .inr (.inl ⟨rfl, [120, 10, 121], by decide, rfl⟩)⟩
    · exact .inl ⟨rfl, .inr (.inl ⟨rfl, [], by decide, rfl⟩)⟩
    · exact .inl ⟨rfl, .inr (.inr ⟨rfl, by decide, by decide⟩)⟩
    · exact .inl ⟨rfl, .inr (.inr ⟨rfl, by decide, by decide⟩)⟩
    · exact .inr ⟨rfl, rfl, .inl ⟨[97], 39, [98], rfl, by decide, by decide, by decide⟩⟩
    · exact .inr ⟨rfl, rfl, .inl ⟨[97], 61, [98], rfl, by decide, by decide, by decide⟩⟩
    · exact .inr ⟨rfl, rfl, .inr rfl⟩
    · exact .inr ⟨rfl, rfl, .inl ⟨[97], 96, [98], rfl, by decide, by decide, by decide⟩⟩
  · revert x
    decide
  · revert x
    decide
theorem ok__law_value {P : Program} {w : World} {K : PySem.W.Frag} {mg : Str → Option Value} {base : Heap} (T : Txt K mg) : FnOk P w K mg base CX0 3 T.a__law_value T.d__law_value ["_law_well_here"] (sp__law_value K) := by
  refine T.f__law_value.ok sc__law_value (fun vs H Q E h => ?_) (fun cdv A outer s H vs Q E hr h => ?_)
  · obtain ⟨L, rfl, _⟩ := h
    rfl
  · obtain ⟨L, rfl, hW, q⟩ := h
    refine ⟨_, (pss_cons (ps_set (i := 1) sc__law_value.nd rfl (.inl rfl) (pe_lst (pa_cons (pe_tup (pa_cons pe_str (pa_cons pe_bl pa_nil))) (pa_cons (pe_tup (pa_cons pe_str (pa_cons pe_bl pa_nil))) (pa_cons (pe_tup (pa_cons pe_str (pa_cons pe_bl pa_nil))) (pa_cons (pe_tup (pa_cons pe_str (pa_cons pe_bl pa_nil))) (pa_cons (pe_tup (pa_cons pe_str (pa_cons pe_bl pa_nil))) (pa_cons (pe_tup (pa_cons pe_str (pa_cons pe_bl pa_nil))) pa_nil))))))))
        (pss_one (ps_ret (pe_call (ok__law_one T) (hr.mono (by decide)) (by rfl) T.g__law_one T.f__law_one.kp T.b__law_one .nil pass0 (pa_cons (pv 0) (pa_cons (pe_op op_cat (pv 1) (pe_lst (pa_cons (pe_tup (pa_cons pe_str (pa_cons pe_bl pa_nil))) (pa_cons (pe_tup (pa_cons pe_str (pa_cons pe_bl pa_nil))) (pa_cons (pe_tup (pa_cons pe_str (pa_cons pe_bl pa_nil))) (pa_cons (pe_tup (pa_cons pe_str (pa_cons pe_bl pa_nil))) pa_nil)))))) pa_nil)))))), ?_⟩
    unfold tSeq tAsg
    dsimp only
    refine menu_list Vals6 (by decide) _ _ _ fun H1 a xs sm1 ha na hm hl => ?_
    refine ⟨_, rfl, _, rfl, menu_list Vals4 (by decide) _ _ _ fun H2 b ys sm2 hb nb hm2 hl2 => ?_⟩
    have ha2 := sm2 _ _ ha
    refine ⟨a, b, xs, ys, rfl, rfl, ha2, hb, by rw [hl, hl2]; decide, fun p np => ?_⟩
    have w2 := (hW.same sm1).same sm2
    have hM := ((hm.same sm2).app hm2).same (same_new (o := .lst (xs ++ ys)) np)
    have k2 : Keeps L H _ := (Keeps.of (sm1.trans sm2)).trans (.new (o := .lst (xs ++ ys)) np)
    refine ⟨L, p, _, rfl, SqL.of upd_same, w2.ne np, ?_, ?_, w2.new np, fun H3 v k3 w3 hv => ?_⟩
    · intro z
      have := congrArg List.length z
      rw [List.length_append, hl] at this
      simp [Vals6] at this
    · rw [List.length_append, hl, hl2]
      decide
    obtain ⟨p, hp, r, rfl, hr⟩ := (hM.keep (w2.new np) k3) v hv
    rw [vals_all] at hp
    obtain ⟨x, hx, rfl⟩ := List.mem_map.mp hp
    obtain ⟨h1, h2, h3⟩ := vals_ok x hx
    exact q H3 r x.1 x.2.1 x.2.2 (k2.trans k3) w3 hr h1 h2 h3
def sp__law_attribute (K : PySem.W.Frag) : Sp := fun vs H Q _ => ∃ (L : Addr), vs = [.ref L] ∧ Well H L ∧
  ∀ H' r a b e, Keeps L H H' → Well H' L → H' r = some (.tup [.str (S a), .bl b]) → AttrSpec a b e → (e = true → ∃ u, a = u ++ [97, 47, 98] ∨ a = u ++ [38, 97, 109, 112, 59, 42]) → a.length ≤ 30 → Q (.ref r) H'
def KeysL : List (List Nat × Bool) := [([98], true), ([95, 99], true), ([58, 100], true), ([98, 46, 45, 95, 58, 57], true), ([57, 98], false), ([98, 42], false)]
def Keys6 : List (Str × Bool) := [("b", true), ("_c", true), (":d", true), ("b.-_:9", true), ("9b", false), ("b*", false)]
theorem keys_all : Keys6 = KeysL.map fun x => (S x.1, x.2) := by
  show [_, _, _, _, _, _] = [_, _, _, _, _, _]
  rw [show ("b" : Str) = S [98] by decide +kernel, show ("_c" : Str) = S [95, 99] by decide +kernel, show (":d" : Str) = S [58, 100] by decide +kernel, show ("b.-_:9" : Str) = S [98, 46, 45, 95, 58, 57] by decide +kernel, show ("9b" : Str) = S [57, 98] by decide +kernel, show ("b*" : Str) = S [98, 42] by decide +kernel]
theorem keys_ok : ∀ x ∈ KeysL, KeySpec x.1 x.2 ∧ x.1.length ≤ 6 := by
  intro x hx
  refine ⟨?_, ?_⟩
  · simp only [KeysL, List.mem_cons, List.not_mem_nil, or_false] at hx
    rcases hx with rfl | rfl | rfl | rfl | rfl | rfl
    · exact .inl ⟨rfl, 98, [], rfl, by decide, by decide⟩
    · exact .inl ⟨rfl, 95, [99], rfl, by decide, by decide⟩
    · exact .inl ⟨rfl, 58, [100], rfl, by decide, by decide⟩
    · exact .inl ⟨rfl, 98, [46, 45, 95, 58, 57], rfl, by decide, by decide⟩
    · exact .inr ⟨rfl, .inl ⟨57, [98], rfl, by unfold Junk; decide⟩⟩
    · exact .inr ⟨rfl, .inr ⟨[98], ⟨98, [], rfl, by decide, by decide⟩, rfl⟩⟩
  · revert x
    decide
theorem p0 (x y : V) : atI [x, y] 0 = some x := atI_nat (j := 0) rfl
theorem p1 (x y : V) : atI [x, y] 1 = some y := atI_nat (j := 1) rfl
/-- it answers the flag c -/
def AnsV (t : TE) (σ : L2.St) (H : Hp) (c : Bool) : Prop := ∀ Q : VK, Q (.bl c) H → t σ H Q
theorem ix1 {K : PySem.W.Frag} {σ : L2.St} {H : Hp} {i : Nat} {r : Addr} {x : V} {b : Bool} (hi : σ[i]? = some (some (.ref r))) (hr : H r = some (.tup [x, .bl b])) : AnsV (tOp (rIxT K) (tVar i) (tC (.int 1))) σ H b :=
  fun Q q => ⟨_, hi, r, _, _, _, rfl, rfl, SqT.of hr, p1 _ _, q⟩
theorem andV {ta tb : TE} {σ : L2.St} {H : Hp} {a b : Bool} (ha : AnsV ta σ H a) (hb : AnsV tb σ H b) : AnsV (tAndV ta tb) σ H (a && b) := fun Q q => by
  refine ha _ ⟨a, rfl, ?_⟩
  cases a with
  | true => exact hb _ q
  | false => exact q
theorem add_S {a b : List Nat} {n : Nat} (h : a.length + b.length ≤ n) (hn : n ≤ 1000 := by decide) : (S a).length + (S b).length ≤ sizeLine := by
  rw [S_len, S_len, sizeLine_eq]
  omega
theorem ok__law_attribute {P : Program} {w : World} {K : PySem.W.Frag} {mg : Str → Option Value} {base : Heap} (T : Txt K mg) : FnOk P w K mg base CX0 4 T.a__law_attribute T.d__law_attribute ["_law_well_here"] (sp__law_attribute K) := by
  refine T.f__law_attribute.ok sc__law_attribute (fun vs H Q E h => ?_) (fun cdv A outer s H vs Q E hr h => ?_)
  · obtain ⟨L, rfl, _⟩ := h
    rfl
  · obtain ⟨L, rfl, hW, q⟩ := h
    refine ⟨_, (pss_cons (ps_set (i := 1) sc__law_attribute.nd rfl (.inl rfl) (pe_call (ok__law_gap T) (hr.mono (by decide)) (by rfl) T.g__law_gap T.f__law_gap.kp T.b__law_gap .nil pass0 (pa_cons (pv 0) (pa_cons pe_bl pa_nil))))
        (pss_cons (ps_set (i := 2) sc__law_attribute.nd rfl (.inl rfl) (pe_call (ok__law_one T) (hr.mono (by decide)) (by rfl) T.g__law_one T.f__law_one.kp T.b__law_one .nil pass0 (pa_cons (pv 0) (pa_cons (pe_lst (pa_cons (pe_tup (pa_cons pe_str (pa_cons pe_bl pa_nil))) (pa_cons (pe_tup (pa_cons pe_str (pa_cons pe_bl pa_nil))) (pa_cons (pe_tup (pa_cons pe_str (pa_cons pe_bl pa_nil))) (pa_cons (pe_tup (pa_cons pe_str (pa_cons pe_bl pa_nil))) (pa_cons (pe_tup (pa_cons pe_str (pa_cons pe_bl pa_nil))) (pa_cons (pe_tup (pa_cons pe_str (pa_cons pe_bl pa_nil))) pa_nil))))))) pa_nil))))
        (pss_cons (ps_if (pt_cmpR op_eq (pe_call (ok__law_draw T) (hr.mono (by decide)) (by rfl) T.g__law_draw T.f__law_draw.kp T.b__law_draw .nil pass0 (pa_cons (pv 0) (pa_cons pe_int pa_nil))) pe_int (nomark _)) (pss_one (ps_ret (pe_tup (pa_cons (pe_op op_add_str (pe_ix ix_tup (pv 1) pe_int (fun _ _ => rfl)) (pe_ix ix_tup (pv 2) pe_int (fun _ _ => rfl))) (pa_cons (pe_and (pe_ix ix_tup (pv 1) pe_int (fun _ _ => rfl)) (pe_one (pe_ix ix_tup (pv 2) pe_int (fun _ _ => rfl)))) pa_nil))))) pss_nil)
        (pss_cons (ps_par3 (i := 3) (j := 4) (l := 5) (by rfl) sc__law_attribute.nd rfl rfl rfl (by decide) (by decide) (by decide) rfl rfl rfl (pa_cons (pe_call (ok__law_gap T) (hr.mono (by decide)) (by rfl) T.g__law_gap T.f__law_gap.kp T.b__law_gap .nil pass0 (pa_cons (pv 0) (pa_cons pe_bl pa_nil))) (pa_cons (pe_call (ok__law_gap T) (hr.mono (by decide)) (by rfl) T.g__law_gap T.f__law_gap.kp T.b__law_gap .nil pass0 (pa_cons (pv 0) (pa_cons pe_bl pa_nil))) (pa_cons (pe_call (ok__law_value T) (hr.mono (by decide)) (by rfl) T.g__law_value T.f__law_value.kp T.b__law_value .nil pass0 (pa_cons (pv 0) pa_nil)) pa_nil))) (by rfl))
        (pss_cons (ps_set (i := 6) sc__law_attribute.nd rfl (.inl rfl) (pe_op op_add_str (pe_op op_add_str (pe_op op_add_str (pe_op op_add_str (pe_op op_add_str (pe_ix ix_tup (pv 1) pe_int (fun _ _ => rfl)) (pe_ix ix_tup (pv 2) pe_int (fun _ _ => rfl))) (pe_ix ix_tup (pv 3) pe_int (fun _ _ => rfl))) pe_str) (pe_ix ix_tup (pv 4) pe_int (fun _ _ => rfl))) (pe_ix ix_tup (pv 5) pe_int (fun _ _ => rfl))))
        (pss_one (ps_ret (pe_tup (pa_cons (pv 6) (pa_cons (pe_and (pe_ix ix_tup (pv 1) pe_int (fun _ _ => rfl)) (pe_and (pe_ix ix_tup (pv 2) pe_int (fun _ _ => rfl)) (pe_and (pe_ix ix_tup (pv 3) pe_int (fun _ _ => rfl)) (pe_and (pe_ix ix_tup (pv 4) pe_int (fun _ _ => rfl)) (pe_one (pe_ix ix_tup (pv 5) pe_int (fun _ _ => rfl))))))) pa_nil)))))))))), ?_⟩
    refine ⟨_, rfl, L, true, rfl, hW, fun H1 g g1 gb k1 w1 hg gs gl gm => ?_⟩
    refine one_menu Keys6 (by decide) (by decide) w1 rfl fun H2 n p k2 w2 hp hn => ?_
    rw [keys_all] at hp
    obtain ⟨⟨n1, nb⟩, hx, rfl⟩ := List.mem_map.mp hp
    obtain ⟨ks, kl⟩ := keys_ok _ hx
    dsimp only at ks kl hn
    have hg2 := k2 _ _ (tup_ne hg w1) hg
    refine ⟨_, rfl, L, 2, rfl, by decide, by decide, w2, fun H3 d k3 w3 h0 h1 => ?_⟩
    have hg3 := k3 _ _ (tup_ne hg2 w2) hg2
    have hn3 := k3 _ _ (tup_ne hn w2) hn
    have kk := k1.trans (k2.trans k3)
    refine ⟨rfl, _, rfl, ite2 (fun _ => ?_) (fun _ => ?_)⟩
    · refine ⟨_, rfl, g, _, _, _, rfl, rfl, SqT.of hg3, p0 _ _, _, rfl, n, _, _, _, rfl, rfl, SqT.of hn3, p0 _ _, _, _, rfl, rfl, add_S (n := 10) (by omega), ?_⟩
      refine andV (ix1 rfl hg3) (ix1 rfl hn3) _ ⟨(by show 2 ≤ sizeLine; decide), fun p np => ?_⟩
      rw [S_app]
      exact q _ p (g1 ++ n1) (gb && nb) false (kk.trans (.new np)) (w3.new np) upd_same ⟨g1, gb, n1, nb, gs, ks, .inl ⟨rfl, rfl, rfl⟩⟩ (fun z => by cases z) (by rw [List.length_append]; omega)
    · refine ⟨_, rfl, L, false, rfl, w3, fun H4 o o1 ob k4 w4 ho os ol om => ?_⟩
      have hg4 := k4 _ _ (tup_ne hg3 w3) hg3
      have hn4 := k4 _ _ (tup_ne hn3 w3) hn3
      refine ⟨_, rfl, L, false, rfl, w4, fun H5 c c1 cb k5 w5 hc cs cl cm => ?_⟩
      have hg5 := k5 _ _ (tup_ne hg4 w4) hg4
      have hn5 := k5 _ _ (tup_ne hn4 w4) hn4
      have ho5 := k5 _ _ (tup_ne ho w4) ho
      refine ⟨_, rfl, L, rfl, w5, fun H6 v v1 vb e k6 w6 hv vs ve vl => ?_⟩
      have hg6 := k6 _ _ (tup_ne hg5 w5) hg5
      have hn6 := k6 _ _ (tup_ne hn5 w5) hn5
      have ho6 := k6 _ _ (tup_ne ho5 w5) ho5
      have hc6 := k6 _ _ (tup_ne hc w5) hc
      refine ⟨_, _, _, rfl, ?_⟩
      refine ⟨_, rfl, g, _, _, _, rfl, rfl, SqT.of hg6, p0 _ _, _, rfl, n, _, _, _, rfl, rfl, SqT.of hn6, p0 _ _, _, _, rfl, rfl, add_S (n := 10) (by omega), ?_⟩
      rw [S_app]
      refine ⟨_, rfl, o, _, _, _, rfl, rfl, SqT.of ho6, p0 _ _, _, _, rfl, rfl, add_S (n := 14) (by rw [List.length_append]; omega), ?_⟩
      rw [S_app]
      refine ⟨_, _, rfl, rfl, (by rw [lit_eq]; exact add_S (n := 15) (by rw [List.length_append, List.length_append]; show _ + 1 ≤ _; omega)), ?_⟩
      rw [lit_eq, S_app]
      refine ⟨_, rfl, c, _, _, _, rfl, rfl, SqT.of hc6, p0 _ _, _, _, rfl, rfl, add_S (n := 20) (by rw [List.length_append, List.length_append, List.length_append]; show _ + 1 + _ ≤ _; omega), ?_⟩
      rw [S_app]
      refine ⟨_, rfl, v, _, _, _, rfl, rfl, SqT.of hv, p0 _ _, _, _, rfl, rfl, add_S (n := 30) (by rw [List.length_append, List.length_append, List.length_append, List.length_append]; show _ + 1 + _ + _ ≤ _; omega), ?_⟩
      rw [S_app]
      refine ⟨_, rfl, andV (ix1 rfl hg6) (andV (ix1 rfl hn6) (andV (ix1 rfl ho6) (andV (ix1 rfl hc6) (ix1 rfl hv)))) _ ⟨(by show 2 ≤ sizeLine; decide), fun p np => ?_⟩⟩
      refine q _ p _ _ e (kk.trans (k4.trans (k5.trans (k6.trans (.new np))))) (w6.new np) upd_same ⟨g1, gb, n1, nb, gs, ks, .inr ⟨o1, ob, c1, cb, v1, vb, os, cs, vs, ?_, ?_⟩⟩ (fun z => ?_) ?_
      · simp
      · simp [Bool.and_assoc]
      · rcases ve z with rfl | rfl
        · exact ⟨_, .inl rfl⟩
        · exact ⟨_, .inr rfl⟩
      · rw [List.length_append, List.length_append, List.length_append, List.length_append, List.length_append]
        show _ + 1 + _ + _ ≤ _
        omega
/-! ### open tags -/
def sp__law_open (K : PySem.W.Frag) : Sp := fun vs H Q _ => ∃ (L : Addr), vs = [.ref L] ∧ Well H L ∧
  ∀ H' r t b, Keeps L H H' → Well H' L → H' r = some (.tup [.str (S t), .bl b]) → (∀ tl ∈ Tails4, tagR (t ++ tl) = if b = true then some tl else none) → t.length ≤ 800 → Q (.ref r) H'
def NamesL : List (List Nat × Bool) := [([97], true), ([66, 45, 49], true), ([120, 57], true), ([49, 97], false), ([], false), ([45, 97], false)]
def Names6 : List (Str × Bool) := [("a", true), ("B-1", true), ("x9", true), ("1a", false), ("", false), ("-a", false)]
theorem names_all : Names6 = NamesL.map fun x => (S x.1, x.2) := by
  show [_, _, _, _, _, _] = [_, _, _, _, _, _]
  rw [show ("a" : Str) = S [97] by decide +kernel, show ("B-1" : Str) = S [66, 45, 49] by decide +kernel, show ("x9" : Str) = S [120, 57] by decide +kernel, show ("1a" : Str) = S [49, 97] by decide +kernel, show ("" : Str) = S [] by decide +kernel, show ("-a" : Str) = S [45, 97] by decide +kernel]
theorem names_ok : ∀ x ∈ NamesL, NameSpec x.1 x.2 ∧ x.1.length ≤ 3 := by
  intro x hx
  refine ⟨?_, ?_⟩
  · simp only [NamesL, List.mem_cons, List.not_mem_nil, or_false] at hx
    rcases hx with rfl | rfl | rfl | rfl | rfl | rfl
    · exact .inl ⟨rfl, 97, [], rfl, by decide, by decide⟩
    · exact .inl ⟨rfl, 66, [45, 49], rfl, by decide, by decide⟩
    · exact .inl ⟨rfl, 120, [57], rfl, by decide, by decide⟩
    · exact .inr ⟨rfl, .inr ⟨49, [97], rfl, by decide, by decide, by decide, by decide⟩⟩
    · exact .inr ⟨rfl, .inl rfl⟩
    · exact .inr ⟨rfl, .inr ⟨45, [97], rfl, by decide, by decide, by decide, by decide⟩⟩
  · revert x
    decide
def MoresL : List (List Nat × Bool) := [([32, 98], false), ([32, 99, 61, 100], true), ([10, 95, 101], false), ([32, 102, 61, 39, 103, 39], false)]
theorem mores_all : ([" b", " c=d", "\n_e", " f='g'"] : List Str) = MoresL.map fun x => S x.1 := by
  show [_, _, _, _] = [_, _, _, _]
  rw [show (" b" : Str) = S [32, 98] by decide +kernel, show (" c=d" : Str) = S [32, 99, 61, 100] by decide +kernel, show ("\n_e" : Str) = S [10, 95, 101] by decide +kernel, show (" f='g'" : Str) = S [32, 102, 61, 39, 103, 39] by decide +kernel]
def EndSet (e : Bool) (a : List Nat) : Prop := e = true → ∃ u, a = u ++ [97, 47, 98] ∨ a = u ++ [38, 97, 109, 112, 59, 42] ∨ a = u ++ [99, 61, 100]
theorem mores_ok : ∀ x ∈ MoresL, AttrSpec x.1 true x.2 ∧ EndSet x.2 x.1 ∧ x.1.length ≤ 30 := by
  intro x hx
  refine ⟨?_, ?_, ?_⟩
  · simp only [MoresL, List.mem_cons, List.not_mem_nil, or_false] at hx
    rcases hx with rfl | rfl | rfl | rfl
    · exact ⟨[32], true, [98], true, .inr ⟨rfl, (by unfold GapOk; decide), by decide⟩, .inl ⟨rfl, 98, [], rfl, by decide, by decide⟩, .inl ⟨rfl, rfl, rfl⟩⟩
    · exact ⟨[32], true, [99], true, .inr ⟨rfl, (by unfold GapOk; decide), by decide⟩, .inl ⟨rfl, 99, [], rfl, by decide, by decide⟩, .inr ⟨[], true, [], true, [100], true, .inr ⟨rfl, (by unfold GapOk; decide), by decide⟩, .inr ⟨rfl, (by unfold GapOk; decide), by decide⟩, .inl ⟨rfl, .inr (.inr ⟨rfl, by decide, by decide⟩)⟩, rfl, rfl⟩⟩
    · exact ⟨[10], true, [95, 101], true, .inr ⟨rfl, (by unfold GapOk; decide), by decide⟩, .inl ⟨rfl, 95, [101], rfl, by decide, by decide⟩, .inl ⟨rfl, rfl, rfl⟩⟩
    · exact ⟨[32], true, [102], true, .inr ⟨rfl, (by unfold GapOk; decide), by decide⟩, .inl ⟨rfl, 102, [], rfl, by decide, by decide⟩, .inr ⟨[], true, [], true, [39, 103, 39], true, .inr ⟨rfl, (by unfold GapOk; decide), by decide⟩, .inr ⟨rfl, (by unfold GapOk; decide), by decide⟩, .inl ⟨rfl, .inl ⟨rfl, [103], by decide, rfl⟩⟩, rfl, rfl⟩⟩
  · simp only [MoresL, List.mem_cons, List.not_mem_nil, or_false] at hx
    rcases hx with rfl | rfl | rfl | rfl
    · exact fun z => by cases z
    · exact fun _ => ⟨[32], .inr (.inr rfl)⟩
    · exact fun z => by cases z
    · exact fun z => by cases z
  · revert x
    decide
def Ends5S : List (Str × Bool) := [(">", true), ("/>", true), ("", false), ("*>", false), ("/ >", false)]
theorem ends_all : Ends5S = Ends5.map fun x => (S x.1, x.2) := by
  show [_, _, _, _, _] = [_, _, _, _, _]
  rw [show (">" : Str) = S [62] by decide +kernel, show ("/>" : Str) = S [47, 62] by decide +kernel, show ("" : Str) = S [] by decide +kernel, show ("*>" : Str) = S [42, 62] by decide +kernel, show ("/ >" : Str) = S [47, 32, 62] by decide +kernel]
/-- what stands so far: the name, the attributes -/
structure Open (n : List Nat) (nb : Bool) (t : List Nat) (b : Bool) (as : List (List Nat × Bool × Bool)) : Prop where
  text : t = 60 :: (n ++ (as.map (·.1)).flatten)
  good : b = (nb && as.all (·.2.1))
  specs : ∀ a ∈ as, AttrSpec a.1 a.2.1 a.2.2
  last : EndSet (lastE as false) t
theorem Open.nil (n : List Nat) (nb : Bool) : Open n nb (60 :: n) nb [] := ⟨by simp, by simp, (fun _ h => by cases h), (fun z => by cases z)⟩
theorem Open.more {n t a : List Nat} {nb b x e : Bool} {as : List (List Nat × Bool × Bool)} (o : Open n nb t b as) (h : AttrSpec a x e) (he : EndSet e a) : Open n nb (t ++ a) (b && x) (as ++ [(a, x, e)]) := by
  refine ⟨by rw [o.text]; simp, by rw [o.good]; simp [Bool.and_assoc], fun y hy => ?_, fun z => ?_⟩
  · rcases List.mem_append.mp hy with hy | hy
    · exact o.specs y hy
    · rw [List.mem_singleton] at hy
      subst hy
      exact h
  · unfold lastE at z
    rw [List.getLast?_append] at z
    obtain ⟨u, h | h | h⟩ := he z
    · exact ⟨t ++ u, .inl (by rw [h, List.append_assoc])⟩
    · exact ⟨t ++ u, .inr (.inl (by rw [h, List.append_assoc]))⟩
    · exact ⟨t ++ u, .inr (.inr (by rw [h, List.append_assoc]))⟩
theorem for_tif {t : TT} {ta tb : TE} {g : TG} {body u : TS} {D : Ends} {σ : L2.St} {H : Hp} (P : V → Hp → Prop) (b : Bool) (ht : AnsB t σ H b) (ha : b = true → ValB ta σ H P) (hb : b = false → ValB tb σ H P)
    (hq : ∀ v H', P v H' → tFor (iRng1 (fun _ _ R => R [v] H')) g body { D with nx := u D } σ H') : tSeq (tFor (iRng1 (tCons (tIf t ta tb) tNil)) g body) u D σ H := by
  refine tif_val (P := P) b ht ha hb (fun v H' => tNil σ H' fun xs H2 => ∃ j : Int, v :: xs = [.int j] ∧ -(2 ^ 62) ≤ j ∧ j < 2 ^ 62 ∧ _) fun v H' p => ?_
  exact hq v H' p
theorem for_tif_g {t : TT} {ta tb : TE} {g : TG} {body u : TS} {D : Ends} {σ : L2.St} {H : Hp} {i : Nat} {x : V} (P : V → Hp → Prop) (b : Bool) (ht : AnsB t (σ.set i (some x)) H b) (ha : b = true → ValB ta (σ.set i (some x)) H P) (hb : b = false → ValB tb (σ.set i (some x)) H P)
    (hq : ∀ v H', P v H' → tFor (iRng1 (fun _ _ R => R [v] H')) g body { D with nx := u D } (σ.set i (some x)) H') : gName i x σ H { D with nx := tSeq (tFor (iRng1 (tCons (tIf t ta tb) tNil)) g body) u D }.nx :=
  for_tif P b ht ha hb hq
theorem seq_via {t u : TS} {D : Ends} {σ : L2.St} {H : Hp} (P : L2.St → Hp → Prop) (h1 : ∀ N : L2.St → Hp → Prop, (∀ σ' H', P σ' H' → N σ' H') → t { D with nx := N } σ H) (h2 : ∀ σ' H', P σ' H' → u D σ' H') : tSeq t u D σ H := h1 _ h2
theorem seq_if_g {c : TT} {a b u : TS} {D : Ends} {σ : L2.St} {H : Hp} {i : Nat} {x : V} (P : L2.St → Hp → Prop) (h1 : ∀ N : L2.St → Hp → Prop, (∀ σ' H', P σ' H' → N σ' H') → tIfS c a b { D with nx := N } (σ.set i (some x)) H) (h2 : ∀ σ' H', P σ' H' → u D σ' H') :
    gName i x σ H { D with nx := tSeq (tIfS c a b) u D }.nx := h1 _ h2
theorem ends_S (u w : List Nat) : Txt.endswith (S (u ++ w)) (S w) = true := by
  show (decide (0 + (S w).length ≤ (S (u ++ w)).length) && PySem.Builtin.Str.subAt (S (u ++ w)) (S w) ((S (u ++ w)).length - (S w).length)) = true
  rw [sub_S, S_len, S_len, List.length_append, Nat.add_sub_cancel, List.drop_left, List.take_of_length_le (Nat.le_refl _), Nat.zero_add, decide_eq_true (Nat.le_add_left _ _)]
  simp
theorem lit_v1 : ("a/b" : Str) = S [97, 47, 98] := by decide +kernel
theorem lit_v2 : ("&amp;*" : Str) = S [38, 97, 109, 112, 59, 42] := by decide +kernel
theorem lit_v3 : ("c=d" : Str) = S [99, 61, 100] := by decide +kernel
theorem lit_none : ("" : Str) = S [] := by decide +kernel
theorem lit_sp : (" " : Str) = S [32] := by decide +kernel
theorem varV {σ : L2.St} {H : Hp} {i : Nat} {b : Bool} (hi : σ[i]? = some (some (.bl b))) : AnsV (tVar i) σ H b := fun Q q => ⟨_, hi, q⟩
theorem ok__law_open {P : Program} {w : World} {K : PySem.W.Frag} {mg : Str → Option Value} {base : Heap} (T : Txt K mg) : FnOk P w K mg base CX0 5 T.a__law_open T.d__law_open ["_law_well_here"] (sp__law_open K) := by
  refine T.f__law_open.ok sc__law_open (fun vs H Q E h => ?_) (fun cdv A outer s H vs Q E hr h => ?_)
  · obtain ⟨L, rfl, _⟩ := h
    rfl
  · obtain ⟨L, rfl, hW, q⟩ := h
    refine ⟨_, (pss_cons (ps_set (i := 1) sc__law_open.nd rfl (.inl rfl) (pe_call (ok__law_one T) (hr.mono (by decide)) (by rfl) T.g__law_one T.f__law_one.kp T.b__law_one .nil pass0 (pa_cons (pv 0) (pa_cons (pe_lst (pa_cons (pe_tup (pa_cons pe_str (pa_cons pe_bl pa_nil))) (pa_cons (pe_tup (pa_cons pe_str (pa_cons pe_bl pa_nil))) (pa_cons (pe_tup (pa_cons pe_str (pa_cons pe_bl pa_nil))) (pa_cons (pe_tup (pa_cons pe_str (pa_cons pe_bl pa_nil))) (pa_cons (pe_tup (pa_cons pe_str (pa_cons pe_bl pa_nil))) (pa_cons (pe_tup (pa_cons pe_str (pa_cons pe_bl pa_nil))) pa_nil))))))) pa_nil))))
        (pss_cons (ps_par (i := 2) (j := 3) (by rfl) sc__law_open.nd rfl rfl (by decide) rfl rfl (pa_cons (pe_op op_add_str pe_str (pe_ix ix_tup (pv 1) pe_int (fun _ _ => rfl))) (pa_cons (pe_ix ix_tup (pv 1) pe_int (fun _ _ => rfl)) pa_nil)) (by rfl))
        (pss_cons (ps_set (i := 4) sc__law_open.nd rfl (.inl rfl) (pe_cmpR op_eq (pe_call (ok__law_draw T) (hr.mono (by decide)) (by rfl) T.g__law_draw T.f__law_draw.kp T.b__law_draw .nil pass0 (pa_cons (pv 0) (pa_cons pe_int pa_nil))) pe_int (nomark _)))
        (pss_cons (ps_for PassesOwn.never rfl (pi_range1 (by rfl) T.z_range (pa_cons (pe_ifExp (pt_val (pv 4)) (pe_op op_add pe_int (pe_call (ok__law_draw T) (hr.mono (by decide)) (by rfl) T.g__law_draw T.f__law_draw.kp T.b__law_draw .nil pass0 (pa_cons (pv 0) (pa_cons pe_int pa_nil)))) (pe_call (ok__law_draw T) (hr.mono (by decide)) (by rfl) T.g__law_draw T.f__law_draw.kp T.b__law_draw .nil pass0 (pa_cons (pv 0) (pa_cons pe_int pa_nil)))) pa_nil)) (pg_name (i := 5) sc__law_open.nd rfl (.inl rfl)) (pss_cons (ps_set (i := 6) sc__law_open.nd rfl (.inl rfl) (pe_ifExp (pt_val (pv 4)) (pe_tup (pa_cons (pe_call (ok__law_one T) (hr.mono (by decide)) (by rfl) T.g__law_one T.f__law_one.kp T.b__law_one .nil pass0 (pa_cons (pv 0) (pa_cons (pe_lst (pa_cons pe_str (pa_cons pe_str (pa_cons pe_str (pa_cons pe_str pa_nil))))) pa_nil))) (pa_cons pe_bl pa_nil))) (pe_call (ok__law_attribute T) (hr.mono (by decide)) (by rfl) T.g__law_attribute T.f__law_attribute.kp T.b__law_attribute .nil pass0 (pa_cons (pv 0) pa_nil))))
        (pss_one (ps_par (i := 2) (j := 3) (by rfl) sc__law_open.nd rfl rfl (by decide) rfl rfl (pa_cons (pe_op op_add_str (pv 2) (pe_ix ix_tup (pv 6) pe_int (fun _ _ => rfl))) (pa_cons (pe_and (pv 3) (pe_one (pe_ix ix_tup (pv 6) pe_int (fun _ _ => rfl)))) pa_nil)) (by rfl)))))
        (pss_cons (ps_set (i := 7) sc__law_open.nd rfl (.inl rfl) (pe_call (ok__law_gap T) (hr.mono (by decide)) (by rfl) T.g__law_gap T.f__law_gap.kp T.b__law_gap .nil pass0 (pa_cons (pv 0) (pa_cons pe_bl pa_nil))))
        (pss_cons (ps_if (PW.pt (pw_and (pt_cmpR op_eq (pe_ix ix_tup (pv 7) pe_int (fun _ _ => rfl)) pe_str (nomark _)) (pw_and1 (pt_val (pe_bm PySem.F.plainAttrs_str PySem.F.slot_str_endswith PySem.F.type_str_endswith mt_ends3 (pv 2) (pa_cons (pe_tup (pa_cons pe_str (pa_cons pe_str (pa_cons pe_str pa_nil)))) pa_nil)))))) (pss_one (ps_set (i := 7) sc__law_open.nd rfl (.inl rfl) (pe_tup (pa_cons pe_str (pa_cons pe_bl pa_nil))))) pss_nil)
        (pss_cons (ps_set (i := 8) sc__law_open.nd rfl (.inl rfl) (pe_call (ok__law_one T) (hr.mono (by decide)) (by rfl) T.g__law_one T.f__law_one.kp T.b__law_one .nil pass0 (pa_cons (pv 0) (pa_cons (pe_lst (pa_cons (pe_tup (pa_cons pe_str (pa_cons pe_bl pa_nil))) (pa_cons (pe_tup (pa_cons pe_str (pa_cons pe_bl pa_nil))) (pa_cons (pe_tup (pa_cons pe_str (pa_cons pe_bl pa_nil))) (pa_cons (pe_tup (pa_cons pe_str (pa_cons pe_bl pa_nil))) (pa_cons (pe_tup (pa_cons pe_str (pa_cons pe_bl pa_nil))) pa_nil)))))) pa_nil))))
        (pss_one (ps_ret (pe_tup (pa_cons (pe_op op_add_str (pe_op op_add_str (pv 2) (pe_ix ix_tup (pv 7) pe_int (fun _ _ => rfl))) (pe_ix ix_tup (pv 8) pe_int (fun _ _ => rfl))) (pa_cons (pe_and (pv 3) (pe_and (pe_ix ix_tup (pv 7) pe_int (fun _ _ => rfl)) (pe_one (pe_ix ix_tup (pv 8) pe_int (fun _ _ => rfl))))) pa_nil)))))))))))), ?_⟩
    refine one_menu Names6 (by decide) (by decide) hW rfl fun H1 n p k1 w1 hp hn => ?_
    rw [names_all] at hp
    obtain ⟨⟨n1, nb⟩, hx, rfl⟩ := List.mem_map.mp hp
    obtain ⟨ns, nl⟩ := names_ok _ hx
    dsimp only at ns nl hn
    refine ⟨_, rfl, n, _, _, _, rfl, rfl, SqT.of hn, p0 _ _, _, _, rfl, rfl, (by rw [lit_lt]; exact add_S (n := 4) (by show 1 + _ ≤ _; omega)), ?_⟩
    rw [lit_lt, S_app]
    refine ix1 rfl hn _ ⟨_, _, rfl, ?_⟩
    refine ⟨_, rfl, L, 6, rfl, by decide, by decide, w1, fun H2 d k2 w2 h0 h1 => ⟨rfl, ?_⟩⟩
    generalize decide (V.int d = V.int 0) = long
    have k12 := k1.trans k2
    -- how many
    refine for_tif_g (fun v H' => ∃ k : Nat, v = .int (k : Nat) ∧ k ≤ 20 ∧ Keeps L H H' ∧ Well H' L) long (fun Q q => ⟨_, rfl, _, rfl, q⟩) (fun _ Q q => ?_) (fun _ Q q => ?_) ?_
    · refine ⟨_, rfl, L, 13, rfl, by decide, by decide, w2, fun H3 d k3 w3 h0 h1 => ?_⟩
      obtain ⟨j, rfl⟩ := Int.eq_ofNat_of_zero_le h0
      exact ⟨_, _, rfl, rfl, q _ _ ⟨8 + j, by rw [Int.natCast_add]; rfl, by omega, k12.trans k3, w3⟩⟩
    · refine ⟨_, rfl, L, 4, rfl, by decide, by decide, w2, fun H3 d k3 w3 h0 h1 => ?_⟩
      obtain ⟨j, rfl⟩ := Int.eq_ofNat_of_zero_le h0
      exact q _ _ ⟨j, rfl, by omega, k12.trans k3, w3⟩
    rintro _ H3 ⟨k, rfl, hk, k3, w3⟩
    refine ⟨_, rfl, by omega, by omega, for_range (lo := 0) (n := ((k : Nat) : Int).toNat) (fun i σ H' => ∃ (v5 v6 v7 v8 : Option V) (t : List Nat) (b : Bool) (as : List (List Nat × Bool × Bool)),
      σ = [some (.ref L), some (.ref n), some (.str (S t)), some (.bl b), some (.bl long), v5, v6, v7, v8] ∧ Keeps L H H' ∧ Well H' L ∧ Open n1 nb t b as ∧ t.length ≤ 4 + 30 * i) ?_ ?_ ?_⟩
    · exact ⟨none, none, none, none, _, _, [], rfl, k3, w3, .nil n1 nb, by show (60 :: n1).length ≤ _; rw [List.length_cons]; omega⟩
    · rintro i σ H4 hi ⟨v5, v6, v7, v8, t, b, as, rfl, k4, w4, op, tl⟩
      refine asg_if (fun v H' => ∃ (r : Addr) (a : List Nat) (x e : Bool), v = .ref r ∧ H' r = some (.tup [.str (S a), .bl x]) ∧ Keeps L H H' ∧ Well H' L ∧ AttrSpec a x e ∧ EndSet e a ∧ a.length ≤ 30) long (fun Q q => ⟨_, rfl, _, rfl, q⟩) (fun _ Q q => ?_) (fun _ Q q => ?_) ?_
      · refine one_text [" b", " c=d", "\n_e", " f='g'"] (by decide) (by decide) w4 rfl fun H5 s k5 w5 hs => ?_
        rw [mores_all] at hs
        obtain ⟨⟨a, e⟩, ha, rfl⟩ := List.mem_map.mp hs
        obtain ⟨h1, h2, h3⟩ := mores_ok _ ha
        refine ⟨(by show 2 ≤ sizeLine; decide), fun p np => ?_⟩
        exact q _ _ ⟨p, a, true, e, rfl, upd_same, k4.trans (k5.trans (.new np)), w5.new np, h1, h2, h3⟩
      · refine ⟨_, rfl, L, rfl, w4, fun H5 r a x e k5 w5 hr hs he hl => ?_⟩
        refine q _ _ ⟨r, a, x, e, rfl, hr, k4.trans k5, w5, hs, fun z => ?_, hl⟩
        obtain ⟨u, h | h⟩ := he z
        · exact ⟨u, .inl h⟩
        · exact ⟨u, .inr (.inl h)⟩
      · rintro _ H5 ⟨r, a, x, e, rfl, hr, k5, w5, hs, he, hl⟩
        refine ⟨_, rfl, _, rfl, r, _, _, _, rfl, rfl, SqT.of hr, p0 _ _, _, _, rfl, rfl, add_S (n := 700) (by omega), ?_⟩
        rw [S_app]
        refine andV (varV rfl) (ix1 rfl hr) _ ⟨_, _, rfl, ?_⟩
        exact ⟨_, _, _, _, _, _, _, rfl, k5, w5, op.more hs he, by rw [List.length_append]; omega⟩
    · rintro σ H4 ⟨v5, v6, v7, v8, t, b, as, rfl, k4, w4, op, tl⟩
      have tl' : t.length ≤ 604 := by omega
      refine ⟨_, rfl, L, false, rfl, w4, fun H5 g g1 gb k5 w5 hg gs gl gm => ?_⟩
      have kk := k4.trans k5
      refine seq_if_g (fun σ' H' => ∃ (r : Addr) (G : List Nat) (gb : Bool), σ' = [some (.ref L), some (.ref n), some (.str (S t)), some (.bl b), some (.bl long), v5, v6, some (.ref r), v8] ∧ Keeps L H H' ∧ Well H' L ∧ H' r = some (.tup [.str (S G), .bl gb]) ∧ GapSpec false G gb ∧ G.length ≤ 4 ∧ (lastE as false = true → G ≠ [])) (fun N q => ?_) ?_
      · refine ⟨_, rfl, g, _, _, _, rfl, rfl, SqT.of hg, p0 _ _, rfl, _, rfl, ?_⟩
        rw [lit_none, S_dec]
        by_cases hg0 : g1 = []
        · rw [decide_eq_true hg0]
          refine iteT ⟨_, rfl, rfl, (by show 3 ≤ sizeLine; decide), fun p np => ⟨S t, _, _, _, p, rfl, rfl, SqT.of upd_same, _, rfl, ?_⟩⟩
          refine ite2 (fun h => ?_) (fun h => ?_)
          · refine ⟨(by show 2 ≤ sizeLine; decide), fun r nr => ?_⟩
            rw [lit_sp]
            exact q _ _ ⟨r, [32], true, rfl, kk.trans ((Keeps.new np).trans (.new nr)), (w5.new np).new nr, upd_same, .inr ⟨rfl, (by unfold GapOk; decide), by decide⟩, by decide, fun _ => by decide⟩
          · refine q _ _ ⟨g, g1, gb, rfl, kk.trans (.new np), w5.new np, (by rw [upd_ne (ne_of_none hg np)]; exact hg), gs, gl, fun z => ?_⟩
            refine absurd ?_ h
            obtain ⟨u, e | e | e⟩ := op.last z
            · rw [e, lit_v1, ends_S]
              rfl
            · rw [e, lit_v2, ends_S]
              simp
            · rw [e, lit_v3, ends_S]
              simp
        · rw [decide_eq_false hg0]
          refine iteF (iteF ?_)
          exact q _ _ ⟨g, g1, gb, rfl, kk, w5, hg, gs, gl, fun _ => hg0⟩
      · rintro _ H6 ⟨r, G, hb, rfl, k6, w6, hr, hs, hl, hla⟩
        refine one_menu Ends5S (by decide) (by decide) w6 rfl fun H7 f p k7 w7 hp hf => ?_
        rw [ends_all] at hp
        obtain ⟨⟨f1, fb⟩, hx, rfl⟩ := List.mem_map.mp hp
        dsimp only at hf
        have hr7 := k7 _ _ (tup_ne hr w6) hr
        have fl : f1.length ≤ 3 := by
          have : ∀ x ∈ Ends5, x.1.length ≤ 3 := by decide
          exact this _ hx
        refine ⟨_, rfl, _, rfl, r, _, _, _, rfl, rfl, SqT.of hr7, p0 _ _, _, _, rfl, rfl, add_S (n := 700) (by omega), ?_⟩
        rw [S_app]
        refine ⟨_, rfl, f, _, _, _, rfl, rfl, SqT.of hf, p0 _ _, _, _, rfl, rfl, add_S (n := 800) (by rw [List.length_append]; omega), ?_⟩
        rw [S_app]
        refine andV (varV rfl) (andV (ix1 rfl hr7) (ix1 rfl hf)) _ ⟨(by show 2 ≤ sizeLine; decide), fun p np => ?_⟩
        refine q _ p _ _ (k6.trans (k7.trans (.new np))) (w7.new np) upd_same (fun tl ht => ?_) (by rw [List.length_append, List.length_append]; omega)
        have e1 : t ++ G ++ f1 ++ tl = 60 :: (n1 ++ ((as.map (·.1)).flatten ++ (G ++ (f1 ++ tl)))) := by
          rw [op.text]
          simp
        rw [e1, open_ok ns hs hx ht as op.specs hla, op.good]
        generalize as.all (·.2.1) = z
        revert z
        cases nb <;> cases hb <;> cases fb <;> intro z <;> cases z <;> rfl
/-! ### the others -/
def sp__law_other (K : PySem.W.Frag) : Sp := fun vs H Q _ => ∃ (L : Addr), vs = [.ref L] ∧ Well H L ∧
  ∀ H' r t b, Keeps L H H' → Well H' L → H' r = some (.tup [.str (S t), .bl b]) → (∀ tl ∈ Tails4, tagR (t ++ tl) = if b = true then some tl else none) → t.length ≤ 800 → Q (.ref r) H'
def ON : List (Str × Bool) := [("a", true), ("B-1", true), ("1a", false), ("", false)]
def OE : List (Str × Bool) := [(">", true), ("/>", false), (" x>", false), ("", false)]
def O1 : List (Str × Bool) := [("<!-->", true), ("<!--->", true)]
def O2 : List (Str × Bool) := [("<!-- a -- b\n\n-->", true), ("<!---->", true), ("<!-- a --", false), ("<!- a -->", false)]
def O3 : List (Str × Bool) := [("<?x ? y?>", true), ("<??>", true), ("<? x", false), ("<!x\n\ny>", true), ("<!>", false)]
def O4 : List (Str × Bool) := [("<![CDATA[a]] ]>b]]>", true), ("<![CDATA[]]>", true), ("<![CDATA[ ]>", false), ("<!9>", false)]
def O5 : List (Str × Bool) := [("< a>", false), ("<>", false), ("<", false), ("<!A", false), ("</ a>", false)]
theorem on_all : ON = CNames.map fun x => (S x.1, x.2) := by
  show [_, _, _, _] = [_, _, _, _]
  rw [show ("a" : Str) = S [97] by decide +kernel, show ("B-1" : Str) = S [66, 45, 49] by decide +kernel, show ("1a" : Str) = S [49, 97] by decide +kernel, show ("" : Str) = S [] by decide +kernel]
theorem oe_all : OE = CEnds.map fun x => (S x.1, x.2) := by
  show [_, _, _, _] = [_, _, _, _]
  rw [show (">" : Str) = S [62] by decide +kernel, show ("/>" : Str) = S [47, 62] by decide +kernel, show (" x>" : Str) = S [32, 120, 62] by decide +kernel, show ("" : Str) = S [] by decide +kernel]
theorem o_all : O1 ++ (O2 ++ (O3 ++ (O4 ++ O5))) = Others.map fun x => (S x.1, x.2) := by
  show [_, _, _, _, _, _, _, _, _, _, _, _, _, _, _, _, _, _, _, _] = [_, _, _, _, _, _, _, _, _, _, _, _, _, _, _, _, _, _, _, _]
  rw [show ("<!-->" : Str) = S [60, 33, 45, 45, 62] by decide +kernel, show ("<!--->" : Str) = S [60, 33, 45, 45, 45, 62] by decide +kernel, show ("<!-- a -- b\n\n-->" : Str) = S [60, 33, 45, 45, 32, 97, 32, 45, 45, 32, 98, 10, 10, 45, 45, 62] by decide +kernel, show ("<!---->" : Str) = S [60, 33, 45, 45, 45, 45, 62] by decide +kernel, show ("<!-- a --" : Str) = S [60, 33, 45, 45, 32, 97, 32, 45, 45] by decide +kernel, show ("<!- a -->" : Str) = S [60, 33, 45, 32, 97, 32, 45, 45, 62] by decide +kernel, show ("<?x ? y?>" : Str) = S [60, 63, 120, 32, 63, 32, 121, 63, 62] by decide +kernel, show ("<??>" : Str) = S [60, 63, 63, 62] by decide +kernel, show ("<? x" : Str) = S [60, 63, 32, 120] by decide +kernel, show ("<!x\n\ny>" : Str) = S [60, 33, 120, 10, 10, 121, 62] by decide +kernel, show ("<!>" : Str) = S [60, 33, 62] by decide +kernel, show ("<![CDATA[a]] ]>b]]>" : Str) = S [60, 33, 91, 67, 68, 65, 84, 65, 91, 97, 93, 93, 32, 93, 62, 98, 93, 93, 62] by decide +kernel, show ("<![CDATA[]]>" : Str) = S [60, 33, 91, 67, 68, 65, 84, 65, 91, 93, 93, 62] by decide +kernel, show ("<![CDATA[ ]>" : Str) = S [60, 33, 91, 67, 68, 65, 84, 65, 91, 32, 93, 62] by decide +kernel, show ("<!9>" : Str) = S [60, 33, 57, 62] by decide +kernel, show ("< a>" : Str) = S [60, 32, 97, 62] by decide +kernel, show ("<>" : Str) = S [60, 62] by decide +kernel, show ("<" : Str) = S [60] by decide +kernel, show ("<!A" : Str) = S [60, 33, 65] by decide +kernel, show ("</ a>" : Str) = S [60, 47, 32, 97, 62] by decide +kernel]
theorem cat_menu {σ : L2.St} {H : Hp} {Q : VK} {i : Nat} {a : Addr} {xs : List V} {ms0 : List (Str × Bool)} (ms : List (Str × Bool)) (hs : ms.length ≤ 100) (hi : σ[i]? = some (some (.ref a))) (ha : H a = some (.lst xs)) (hm : Menu H xs ms0) (hl : xs.length ≤ 100)
    (h : ∀ H' c ys, Same H H' → H' c = some (.lst ys) → H c = none → Menu H' ys (ms0 ++ ms) → ys.length = xs.length + ms.length → Q (.ref c) H') : tOp rCat (tVar i) (tLst (menuT ms)) σ H Q := by
  refine ⟨_, hi, menu_list ms hs _ _ _ fun H2 b ys sm2 hb nb hm2 hl2 => ?_⟩
  have ha2 := sm2 _ _ ha
  refine ⟨a, b, xs, ys, rfl, rfl, ha2, hb, by rw [hl2, sizeLine_eq]; omega, fun p np => ?_⟩
  have np0 : H p = none := by
    cases e : H p with
    | none => rfl
    | some o => rw [sm2 _ _ e] at np; cases np
  exact h _ p (xs ++ ys) (sm2.trans (same_new np)) upd_same np0 (((hm.same sm2).app hm2).same (same_new np)) (by rw [List.length_append, hl2])
theorem lit_cl : ("</" : Str) = S [60, 47] := by decide +kernel
theorem ok__law_other {P : Program} {w : World} {K : PySem.W.Frag} {mg : Str → Option Value} {base : Heap} (T : Txt K mg) : FnOk P w K mg base CX0 4 T.a__law_other T.d__law_other ["_law_well_here"] (sp__law_other K) := by
  refine T.f__law_other.ok sc__law_other (fun vs H Q E h => ?_) (fun cdv A outer s H vs Q E hr h => ?_)
  · obtain ⟨L, rfl, _⟩ := h
    rfl
  · obtain ⟨L, rfl, hW, q⟩ := h
    refine ⟨_, (pss_cons (ps_set (i := 1) sc__law_other.nd rfl (.inl rfl) (pe_call (ok__law_one T) (hr.mono (by decide)) (by rfl) T.g__law_one T.f__law_one.kp T.b__law_one .nil pass0 (pa_cons (pv 0) (pa_cons (pe_lst (pa_cons (pe_tup (pa_cons pe_str (pa_cons pe_bl pa_nil))) (pa_cons (pe_tup (pa_cons pe_str (pa_cons pe_bl pa_nil))) (pa_cons (pe_tup (pa_cons pe_str (pa_cons pe_bl pa_nil))) (pa_cons (pe_tup (pa_cons pe_str (pa_cons pe_bl pa_nil))) pa_nil))))) pa_nil))))
        (pss_cons (ps_set (i := 2) sc__law_other.nd rfl (.inl rfl) (pe_call (ok__law_gap T) (hr.mono (by decide)) (by rfl) T.g__law_gap T.f__law_gap.kp T.b__law_gap .nil pass0 (pa_cons (pv 0) (pa_cons pe_bl pa_nil))))
        (pss_cons (ps_set (i := 3) sc__law_other.nd rfl (.inl rfl) (pe_call (ok__law_one T) (hr.mono (by decide)) (by rfl) T.g__law_one T.f__law_one.kp T.b__law_one .nil pass0 (pa_cons (pv 0) (pa_cons (pe_lst (pa_cons (pe_tup (pa_cons pe_str (pa_cons pe_bl pa_nil))) (pa_cons (pe_tup (pa_cons pe_str (pa_cons pe_bl pa_nil))) (pa_cons (pe_tup (pa_cons pe_str (pa_cons pe_bl pa_nil))) (pa_cons (pe_tup (pa_cons pe_str (pa_cons pe_bl pa_nil))) pa_nil))))) pa_nil))))
        (pss_cons (ps_set (i := 4) sc__law_other.nd rfl (.inl rfl) (pe_lst (pa_cons (pe_tup (pa_cons (pe_op op_add_str (pe_op op_add_str (pe_op op_add_str pe_str (pe_ix ix_tup (pv 1) pe_int (fun _ _ => rfl))) (pe_ix ix_tup (pv 2) pe_int (fun _ _ => rfl))) (pe_ix ix_tup (pv 3) pe_int (fun _ _ => rfl))) (pa_cons (pe_and (pe_ix ix_tup (pv 1) pe_int (fun _ _ => rfl)) (pe_and (pe_ix ix_tup (pv 2) pe_int (fun _ _ => rfl)) (pe_one (pe_ix ix_tup (pv 3) pe_int (fun _ _ => rfl))))) pa_nil))) (pa_cons (pe_tup (pa_cons pe_str (pa_cons pe_bl pa_nil))) (pa_cons (pe_tup (pa_cons pe_str (pa_cons pe_bl pa_nil))) pa_nil)))))
        (pss_cons (ps_set (i := 4) sc__law_other.nd rfl (.inl rfl) (pe_op op_cat (pv 4) (pe_lst (pa_cons (pe_tup (pa_cons pe_str (pa_cons pe_bl pa_nil))) (pa_cons (pe_tup (pa_cons pe_str (pa_cons pe_bl pa_nil))) (pa_cons (pe_tup (pa_cons pe_str (pa_cons pe_bl pa_nil))) (pa_cons (pe_tup (pa_cons pe_str (pa_cons pe_bl pa_nil))) pa_nil)))))))
        (pss_cons (ps_set (i := 4) sc__law_other.nd rfl (.inl rfl) (pe_op op_cat (pv 4) (pe_lst (pa_cons (pe_tup (pa_cons pe_str (pa_cons pe_bl pa_nil))) (pa_cons (pe_tup (pa_cons pe_str (pa_cons pe_bl pa_nil))) (pa_cons (pe_tup (pa_cons pe_str (pa_cons pe_bl pa_nil))) (pa_cons (pe_tup (pa_cons pe_str (pa_cons pe_bl pa_nil))) (pa_cons (pe_tup (pa_cons pe_str (pa_cons pe_bl pa_nil))) pa_nil))))))))
        (pss_cons (ps_set (i := 4) sc__law_other.nd rfl (.inl rfl) (pe_op op_cat (pv 4) (pe_lst (pa_cons (pe_tup (pa_cons pe_str (pa_cons pe_bl pa_nil))) (pa_cons (pe_tup (pa_cons pe_str (pa_cons pe_bl pa_nil))) (pa_cons (pe_tup (pa_cons pe_str (pa_cons pe_bl pa_nil))) (pa_cons (pe_tup (pa_cons pe_str (pa_cons pe_bl pa_nil))) pa_nil)))))))
        (pss_one (ps_ret (pe_call (ok__law_one T) (hr.mono (by decide)) (by rfl) T.g__law_one T.f__law_one.kp T.b__law_one .nil pass0 (pa_cons (pv 0) (pa_cons (pe_op op_cat (pv 4) (pe_lst (pa_cons (pe_tup (pa_cons pe_str (pa_cons pe_bl pa_nil))) (pa_cons (pe_tup (pa_cons pe_str (pa_cons pe_bl pa_nil))) (pa_cons (pe_tup (pa_cons pe_str (pa_cons pe_bl pa_nil))) (pa_cons (pe_tup (pa_cons pe_str (pa_cons pe_bl pa_nil))) (pa_cons (pe_tup (pa_cons pe_str (pa_cons pe_bl pa_nil))) pa_nil))))))) pa_nil)))))))))))), ?_⟩
    refine one_menu ON (by decide) (by decide) hW rfl fun H1 n p k1 w1 hp hn => ?_
    rw [on_all] at hp
    obtain ⟨⟨n1, nb⟩, hx1, rfl⟩ := List.mem_map.mp hp
    dsimp only at hn
    refine ⟨_, rfl, L, false, rfl, w1, fun H2 g g1 gb k2 w2 hg gs gl gm => ?_⟩
    have hn2 := k2 _ _ (tup_ne hn w1) hn
    refine one_menu OE (by decide) (by decide) w2 rfl fun H3 f p k3 w3 hp hf => ?_
    rw [oe_all] at hp
    obtain ⟨⟨f1, fb⟩, hx2, rfl⟩ := List.mem_map.mp hp
    dsimp only at hf
    have hn3 := k3 _ _ (tup_ne hn2 w2) hn2
    have hg3 := k3 _ _ (tup_ne hg w2) hg
    have nl : n1.length ≤ 3 := by
      have : ∀ x ∈ CNames, x.1.length ≤ 3 := by decide
      exact this _ hx1
    have fl : f1.length ≤ 3 := by
      have : ∀ x ∈ CEnds, x.1.length ≤ 3 := by decide
      exact this _ hx2
    have hco := close_ok _ hx1 _ gm _ hx2
    dsimp only at hco
    refine ⟨_, rfl, n, _, _, _, rfl, rfl, SqT.of hn3, p0 _ _, _, _, rfl, rfl, (by rw [lit_cl]; exact add_S (n := 10) (by show 2 + _ ≤ _; omega)), ?_⟩
    rw [lit_cl, S_app]
    refine ⟨_, rfl, g, _, _, _, rfl, rfl, SqT.of hg3, p0 _ _, _, _, rfl, rfl, add_S (n := 20) (by rw [List.length_append]; show 2 + _ + _ ≤ _; omega), ?_⟩
    rw [S_app]
    refine ⟨_, rfl, f, _, _, _, rfl, rfl, SqT.of hf, p0 _ _, _, _, rfl, rfl, add_S (n := 30) (by rw [List.length_append, List.length_append]; show 2 + _ + _ + _ ≤ _; omega), ?_⟩
    rw [S_app]
    refine andV (ix1 rfl hn3) (andV (ix1 rfl hg3) (ix1 rfl hf)) _ ⟨(by show 2 ≤ sizeLine; decide), fun p np => ?_⟩
    have hcl : ([60, 47] ++ n1 ++ g1 ++ f1).length ≤ 800 := by
      rw [List.length_append, List.length_append, List.length_append]
      show 2 + _ + _ + _ ≤ _
      omega
    generalize [60, 47] ++ n1 ++ g1 ++ f1 = ct at hco hcl ⊢
    have hco2 : ∀ tl ∈ Tails4, tagR (ct ++ tl) = if (nb && (gb && fb)) = true then some tl else none := fun tl ht => by
      rw [hco tl ht, Bool.and_assoc]
    generalize (nb && (gb && fb)) = cb at hco2 ⊢
    refine menu_read O1 _ _ _ fun H4 xs sm4 hm hl => ⟨by rw [List.length_cons, hl]; show 3 ≤ sizeLine; decide, fun a na => ?_⟩
    have hp4 := sm4 _ _ (upd_same (a := p) (H := H3) (o := HO.tup [V.str (S ct), V.bl cb]))
    have s5 : Same H3 (upd H4 a (.lst (.ref p :: xs))) := (same_new np).trans (sm4.trans (same_new na))
    have hm5 : Menu (upd H4 a (.lst (.ref p :: xs))) (.ref p :: xs) ([(S ct, cb)] ++ O1) := fun v hv => by
      rcases List.mem_cons.mp hv with rfl | hv
      · exact ⟨_, List.mem_cons_self .., p, rfl, same_new na _ _ hp4⟩
      · obtain ⟨x, h1, h2⟩ := hm v hv
        exact ⟨x, List.mem_cons_of_mem _ h1, h2.same (same_new na)⟩
    have ha5 : (upd H4 a (.lst (.ref p :: xs))) a = some (.lst (.ref p :: xs)) := upd_same
    have w5 : Well (upd H4 a (.lst (.ref p :: xs))) L := w3.same s5
    have k5 : Keeps L H _ := k1.trans (k2.trans (k3.trans (Keeps.of s5)))
    have l5 : (V.ref p :: xs).length = 3 := by rw [List.length_cons, hl]; rfl
    generalize upd H4 a (.lst (.ref p :: xs)) = H5 at hm5 ha5 w5 k5 ⊢
    generalize V.ref p :: xs = ys at hm5 ha5 l5 ⊢
    refine cat_menu O2 (by decide) rfl ha5 hm5 (by omega) fun H6 b zs s6 hb nb' hm6 hl6 => ?_
    refine cat_menu O3 (by decide) rfl hb hm6 (by rw [hl6, l5]; decide) fun H7 c us s7 hc nc' hm7 hl7 => ?_
    refine cat_menu O4 (by decide) rfl hc hm7 (by rw [hl7, hl6, l5]; decide) fun H8 d vs s8 hd nd' hm8 hl8 => ?_
    refine ⟨_, rfl, cat_menu O5 (by decide) rfl hd hm8 (by rw [hl8, hl7, hl6, l5]; decide) fun H9 e ws s9 he ne' hm9 hl9 => ?_⟩
    have s59 := s6.trans (s7.trans (s8.trans s9))
    have w9 := w5.same s59
    refine ⟨L, e, ws, rfl, SqL.of he, (w5.same (s6.trans (s7.trans s8))).ne ne', ?_, ?_, w9, fun H10 v k10 w10 hv => ?_⟩
    · intro z
      rw [z, hl8, hl7, hl6, l5] at hl9
      cases hl9
    · rw [hl9, hl8, hl7, hl6, l5]
      decide
    obtain ⟨x, hx, r, rfl, hr⟩ := (hm9.keep w9 k10) v hv
    have hx' : x = (S ct, cb) ∨ x ∈ O1 ++ (O2 ++ (O3 ++ (O4 ++ O5))) := by
      rw [List.append_assoc, List.append_assoc, List.append_assoc, List.append_assoc] at hx
      rcases List.mem_append.mp hx with h | h
      · exact .inl (List.mem_singleton.mp h)
      · exact .inr h
    rcases hx' with rfl | hx'
    · exact q _ r ct cb (k5.trans ((Keeps.of s59).trans k10)) w10 hr hco2 hcl
    · rw [o_all] at hx'
      obtain ⟨y, hy, rfl⟩ := List.mem_map.mp hx'
      exact q _ r y.1 y.2 (k5.trans ((Keeps.of s59).trans k10)) w10 hr (others_ok y hy) (by
        have : ∀ x ∈ Others, x.1.length ≤ 800 := by decide
        exact this _ hy)

/-! ### the law: 0 _law_script, 1 _law_cell, 2 _law_well_here, 3 _law_k, 4 _law_ahead, 5 _law_text, 6 _law_is_good, 7 _law_tail, 8 _law_due, 9 _law_at -/
theorem asg_if2 {t : TT} {ta tb : TE} {g : TG} {u : TS} {D : Ends} {σ : L2.St} {H : Hp} (R : Hp → Prop) (P : V → Hp → Prop) (ht : ∀ Qb : Bool → Hp → Prop, (∀ b H', R H' → Qb b H') → t σ H Qb) (ha : ∀ H', R H' → ValB ta σ H' P) (hb : ∀ H', R H' → ValB tb σ H' P)
    (hq : ∀ v H', P v H' → g v σ H' (u D)) : tSeq (tAsg (tIf t ta tb) g) u D σ H :=
  ht _ fun b H' r => by
    cases b with
    | true =>
      show (if true = true then _ else _)
      rw [if_pos rfl]
      exact ha H' r _ hq
    | false =>
      show (if false = true then _ else _)
      rw [if_neg Bool.false_ne_true]
      exact hb H' r _ hq
theorem asg_if2_g {t : TT} {ta tb : TE} {g : TG} {u : TS} {D : Ends} {σ : L2.St} {H : Hp} {i : Nat} {x : V} (R : Hp → Prop) (P : V → Hp → Prop) (ht : ∀ Qb : Bool → Hp → Prop, (∀ b H', R H' → Qb b H') → t (σ.set i (some x)) H Qb) (ha : ∀ H', R H' → ValB ta (σ.set i (some x)) H' P) (hb : ∀ H', R H' → ValB tb (σ.set i (some x)) H' P)
    (hq : ∀ v H', P v H' → g v (σ.set i (some x)) H' (u D)) : gName i x σ H { D with nx := tSeq (tAsg (tIf t ta tb) g) u D }.nx := asg_if2 R P ht ha hb hq
theorem asg_if_g {t : TT} {ta tb : TE} {g : TG} {u : TS} {D : Ends} {σ : L2.St} {H : Hp} {i : Nat} {x : V} (P : V → Hp → Prop) (b : Bool) (ht : AnsB t (σ.set i (some x)) H b) (ha : b = true → ValB ta (σ.set i (some x)) H P) (hb : b = false → ValB tb (σ.set i (some x)) H P)
    (hq : ∀ v H', P v H' → g v (σ.set i (some x)) H' (u D)) : gName i x σ H { D with nx := tSeq (tAsg (tIf t ta tb) g) u D }.nx := asg_if P b ht ha hb hq
def AheadsL : List (List Nat) := [[], [97, 32], [98, 10], [62, 32]]
theorem aheads_all : (["", "a ", "b\n", "> "] : List Str) = AheadsL.map S := by
  show [_, _, _, _] = [_, _, _, _]
  rw [show ("" : Str) = S [] by decide +kernel, show ("a " : Str) = S [97, 32] by decide +kernel, show ("b\n" : Str) = S [98, 10] by decide +kernel, show ("> " : Str) = S [62, 32] by decide +kernel]
theorem tails_all : (["", " c", "d", "\n\ne"] : List Str) = Tails4.map S := by
  show [_, _, _, _] = [_, _, _, _]
  rw [show ("" : Str) = S [] by decide +kernel, show (" c" : Str) = S [32, 99] by decide +kernel, show ("d" : Str) = S [100] by decide +kernel, show ("\n\ne" : Str) = S [10, 10, 101] by decide +kernel]
def sp_law (K : PySem.W.Frag) : Sp := fun vs H Q _ => ∃ (a : Addr) (ns : List Int), vs = [.ref a] ∧ SqL K H a (ns.map V.int) ∧ ns.length ≤ 63 ∧ ∀ H', Q (.bl true) H'
theorem ok_law {P : Program} {w : World} {K : PySem.W.Frag} {mg : Str → Option Value} {base : Heap} {f : Addr} {fd : FuncData} (T : Txt K mg) (F : Fun K "law" "law" s_law f fd) : FnOk P w K mg base CX0 6 f fd ["_law_script"] (sp_law K) := by
  refine F.ok sc_law (fun vs H Q E h => ?_) (fun cdv A outer s H vs Q E hr h => ?_)
  · obtain ⟨a, ns, rfl, _⟩ := h
    rfl
  · obtain ⟨a, ns, rfl, hS, hlen, q⟩ := h
    refine ⟨_, (pss_cons (ps_for PassesOwn.never rfl (pi_list (pe_op op_cat (pe_slice sl_list (pv 0) po_none (po_some pe_int)) (pe_lst (pa_cons pe_int pa_nil)))) (pg_name (i := 1) sc_law.nd rfl (.inl rfl)) (pss_cons (ps_set (i := 2) sc_law.nd rfl (.inl rfl) (pe_call (ok__law_well T) (hr.mono (by decide)) (by rfl) T.g__law_well T.f__law_well.kp T.b__law_well .nil pass0 (pa_cons (pv 1) pa_nil)))
        (pss_one (ps_for PassesOwn.never rfl (pi_range1 (by rfl) T.z_range (pa_cons pe_int pa_nil)) (pg_name (i := 3) sc_law.nd rfl (.inl rfl)) (pss_cons (ps_set (i := 4) sc_law.nd rfl (.inl rfl) (pe_call (ok__law_one T) (hr.mono (by decide)) (by rfl) T.g__law_one T.f__law_one.kp T.b__law_one .nil pass0 (pa_cons (pv 2) (pa_cons (pe_lst (pa_cons pe_str (pa_cons pe_str (pa_cons pe_str (pa_cons pe_str pa_nil))))) pa_nil))))
        (pss_cons (ps_asg (pe_ifExp (pt_cmpR op_gt (pe_call (ok__law_draw T) (hr.mono (by decide)) (by rfl) T.g__law_draw T.f__law_draw.kp T.b__law_draw .nil pass0 (pa_cons (pv 2) (pa_cons pe_int pa_nil))) pe_int (nomark _)) (pe_call (ok__law_open T) (hr.mono (by decide)) (by rfl) T.g__law_open T.f__law_open.kp T.b__law_open .nil pass0 (pa_cons (pv 2) pa_nil)) (pe_call (ok__law_other T) (hr.mono (by decide)) (by rfl) T.g__law_other T.f__law_other.kp T.b__law_other .nil pass0 (pa_cons (pv 2) pa_nil))) (pg_tup (by rfl) (pgs_cons (pg_name (i := 5) sc_law.nd rfl (.inl rfl)) (pgs_cons (pg_name (i := 6) sc_law.nd rfl (.inl rfl)) pgs_nil))))
        (pss_cons (ps_set (i := 7) sc_law.nd rfl (.inl rfl) (pe_call (ok__law_one T) (hr.mono (by decide)) (by rfl) T.g__law_one T.f__law_one.kp T.b__law_one .nil pass0 (pa_cons (pv 2) (pa_cons (pe_lst (pa_cons pe_str (pa_cons pe_str (pa_cons pe_str (pa_cons pe_str pa_nil))))) pa_nil))))
        (pss_cons (ps_set (i := 8) sc_law.nd rfl (.inl rfl) (pe_ifExp (pt_val (pv 6)) (pe_op op_add (pe_callB call_len_str (by rfl) T.z_len PySem.boot_len (pa_cons (pv 4) pa_nil)) (pe_callB call_len_str (by rfl) T.z_len PySem.boot_len (pa_cons (pv 5) pa_nil))) pe_non))
        (pss_cons (ps_if (pt_cmpR op_ne (pe_call (ok_tag_at T) (hr.mono (by decide)) (by rfl) T.g_tag_at T.f_tag_at.kp T.b_tag_at .nil pass0 (pa_cons (pe_op op_add_str (pe_op op_add_str (pv 4) (pv 5)) (pv 7)) (pa_cons (pe_callB call_len_str (by rfl) T.z_len PySem.boot_len (pa_cons (pv 4) pa_nil)) pa_nil))) (pv 8) (nomark _)) (pss_one (ps_ret pe_bl)) pss_nil)
        (pss_one (ps_for PassesOwn.never rfl (pi_range1 (by rfl) T.z_range (pa_cons (pe_op op_add (pe_callB call_len_str (by rfl) T.z_len PySem.boot_len (pa_cons (pv 4) pa_nil)) pe_int) pa_nil)) (pg_name (i := 9) sc_law.nd rfl (.inl rfl)) (pss_one (ps_if (PW.pt (pw_and (pt_cmpR op_ne (pe_slice sl_str (pe_op op_add_str (pv 4) (pv 5)) (po_some (pv 9)) (po_some (pe_op op_add (pv 9) pe_int))) pe_str (nomark _)) (pw_and1 (pt_cmpR op_notN (pe_call (ok_tag_at T) (hr.mono (by decide)) (by rfl) T.g_tag_at T.f_tag_at.kp T.b_tag_at .nil pass0 (pa_cons (pe_op op_add_str (pv 4) (pv 5)) (pa_cons (pv 9) pa_nil))) pe_non (nomark _))))) (pss_one (ps_ret pe_bl)) pss_nil)))))))))))))
        (pss_one (ps_ret pe_bl))), ?_⟩
    -- script[:8] + [0]
    refine ⟨_, rfl, _, rfl, a, _, rfl, hS, fun p np => ⟨by show 1 ≤ sizeLine; decide, fun p2 np2 => ⟨p, p2, _, _, rfl, rfl, by rw [upd_ne (ne_of_none upd_same np2)]; exact upd_same, upd_same, ?_, fun p3 np3 => ?_⟩⟩⟩
    · have := cutV_length (ns.map V.int) none (some 8)
      rw [List.length_map] at this
      rw [sizeLine_eq]
      show (cutV (ns.map V.int) none (some 8)).length + 1 ≤ _
      omega
    have ec : cutV (ns.map V.int) none (some 8) ++ [V.int 0] = (ns.take 8 ++ [0]).map V.int := by
      unfold cutV
      rw [HT.sIx_none, show HT.sIx (ns.map V.int).length (ns.map V.int).length (some 8) = min 8 (ns.map V.int).length from HT.sIx_nat _ _ 8]
      rw [List.drop_zero, Nat.sub_zero, List.map_append, List.map_take]
      have e8 : (ns.map V.int).take (min 8 (ns.map V.int).length) = (ns.map V.int).take 8 := by
        by_cases h8 : 8 ≤ (ns.map V.int).length
        · rw [Nat.min_eq_left h8]
        · rw [Nat.min_eq_right (by omega), List.take_length, List.take_of_length_le (by omega)]
      rw [e8]
      rfl
    rw [ec]
    have h3 : (upd (upd (upd H p (.lst (cutV (ns.map V.int) none (some 8)))) p2 (.lst [V.int 0])) p3 (.lst ((ns.take 8 ++ [0]).map V.int))) p3 = some (.lst ((ns.take 8 ++ [0]).map V.int)) := upd_same
    generalize upd (upd (upd H p (.lst (cutV (ns.map V.int) none (some 8)))) p2 (.lst [V.int 0])) p3 (.lst ((ns.take 8 ++ [0]).map V.int)) = H0 at h3 ⊢
    generalize ns.take 8 ++ [0] = ms at h3 ⊢
    refine ⟨p3, rfl, ⟨_, SqL.of h3⟩, for_list (K := K) (a := p3) (xs := ms.map V.int) (fun i σ H' => ∃ (v1 v2 v3 v4 v5 v6 v7 v8 v9 : Option V), σ = [some (.ref a), v1, v2, v3, v4, v5, v6, v7, v8, v9] ∧ H' p3 = some (.lst (ms.map V.int))) ?_ (fun i σ H' _ h => by obtain ⟨_, _, _, _, _, _, _, _, _, _, h⟩ := h; exact SqL.of h) ?_ ?_⟩
    · exact ⟨none, none, none, none, none, none, none, none, none, rfl, h3⟩
    · rintro i x σ H' hi ⟨v1, v2, v3, v4, v5, v6, v7, v8, v9, rfl, hp⟩
      obtain ⟨z, hz, rfl⟩ : ∃ z, ms[i]? = some z ∧ x = V.int z := by
        rw [List.getElem?_map] at hi
        cases e : ms[i]? with
        | none => rw [e] at hi; cases hi
        | some z => rw [e] at hi; exact ⟨z, rfl, (Option.some.inj hi).symm⟩
      -- the well
      refine ⟨_, rfl, z, rfl, fun L nL => ?_⟩
      have hW1 : Well (upd H' L (.lst [.int z, .int 0])) L := ⟨_, _, upd_same⟩
      have npL : p3 ≠ L := ne_of_none hp nL
      have hp1 : (upd H' L (.lst [.int z, .int 0])) p3 = some (.lst (ms.map V.int)) := by rw [upd_ne npL]; exact hp
      generalize upd H' L (.lst [.int z, .int 0]) = H1 at hW1 hp1 ⊢
      refine ⟨8, rfl, by decide, by decide, for_range (lo := 0) (n := 8) (fun i σ H' => ∃ (v3 v4 v5 v6 v7 v8 v9 : Option V), σ = [some (.ref a), some (.int z), some (.ref L), v3, v4, v5, v6, v7, v8, v9] ∧ H' p3 = some (.lst (ms.map V.int)) ∧ Well H' L) ?_ ?_ ?_⟩
      · exact ⟨v3, v4, v5, v6, v7, v8, v9, rfl, hp1, hW1⟩
      · rintro k σ H2 hk ⟨v3, v4, v5, v6, v7, v8, v9, rfl, hp2, hW2⟩
        refine one_text ["", "a ", "b\n", "> "] (by decide) (by decide) hW2 rfl fun H3 s k3 w3 hs => ?_
        rw [aheads_all] at hs
        obtain ⟨A1, hA, rfl⟩ := List.mem_map.mp hs
        have hp3 := k3 _ _ npL hp2
        have lA : A1.length ≤ 2 := by
          have : ∀ x ∈ AheadsL, x.length ≤ 2 := by decide
          exact this _ hA
        refine asg_if2_g (fun H' => Well H' L ∧ H' p3 = some (.lst (ms.map V.int))) (fun v H' => ∃ (r : Addr) (t : List Nat) (b : Bool), v = .ref r ∧ Well H' L ∧ H' p3 = some (.lst (ms.map V.int)) ∧ H' r = some (.tup [.str (S t), .bl b]) ∧ (∀ tl ∈ Tails4, tagR (t ++ tl) = if b = true then some tl else none) ∧ t.length ≤ 800) (fun Q q => ?_) (fun H4 h Q q => ?_) (fun H4 h Q q => ?_) ?_
        · exact ⟨_, rfl, L, 3, rfl, by decide, by decide, w3, fun H4 d k4 w4 h0 h1 => ⟨_, _, rfl, rfl, _, rfl, q _ _ ⟨w4, k4 _ _ npL hp3⟩⟩⟩
        · exact ⟨_, rfl, L, rfl, h.1, fun H5 r t b k5 w5 hr ht tl => q _ _ ⟨r, t, b, rfl, w5, k5 _ _ npL h.2, hr, ht, tl⟩⟩
        · exact ⟨_, rfl, L, rfl, h.1, fun H5 r t b k5 w5 hr ht tl => q _ _ ⟨r, t, b, rfl, w5, k5 _ _ npL h.2, hr, ht, tl⟩⟩
        rintro _ H4 ⟨r, t, b, rfl, w4, hp4, hr, ht, tl⟩
        refine ⟨r, _, rfl, SqT.of hr, rfl, _, _, rfl, _, _, rfl, rfl, ?_⟩
        refine one_text ["", " c", "d", "\n\ne"] (by decide) (by decide) w4 rfl fun H5 s k5 w5 hs => ?_
        rw [tails_all] at hs
        obtain ⟨tail, htl, rfl⟩ := List.mem_map.mp hs
        have hp5 := k5 _ _ npL hp4
        have lT : tail.length ≤ 3 := by
          have : ∀ x ∈ Tails4, x.length ≤ 3 := by decide
          exact this _ htl
        refine asg_if_g (fun v H' => v = (if b = true then V.int (A1.length + t.length : Nat) else .non) ∧ H' = H5) b (fun Q q => ⟨_, rfl, _, rfl, q⟩) (fun hb Q q => ?_) (fun hb Q q => ?_) ?_
        · refine ⟨_, rfl, _, rfl, by rw [S_len, sizeLine_eq]; omega, _, rfl, _, rfl, by rw [S_len, sizeLine_eq]; omega, _, _, rfl, rfl, q _ _ ⟨?_, rfl⟩⟩
          rw [if_pos hb, S_len, S_len, Int.natCast_add]
        · exact q _ _ ⟨by rw [if_neg (by rw [hb]; simp)], rfl⟩
        rintro v H' ⟨rfl, rfl⟩
        -- tag_at(ahead + text + tail, len(ahead)) != due
        refine ⟨_, rfl, _, rfl, _, _, rfl, rfl, add_S (n := 900) (by omega), ?_⟩
        rw [S_app]
        refine ⟨_, rfl, _, _, rfl, rfl, add_S (n := 910) (by rw [List.length_append]; omega), ?_⟩
        rw [S_app]
        refine ⟨_, rfl, _, rfl, by rw [S_len, sizeLine_eq]; omega, ?_⟩
        refine ⟨A1 ++ t ++ tail, A1.length, by rw [S_len]; rfl, ⟨by rw [List.length_append, List.length_append]; omega, by rw [List.length_append, List.length_append]; omega⟩, fun H6 s6 => ?_⟩
        have hp6 := s6 _ _ hp5
        have w6 := w5.same s6
        rw [List.append_assoc, List.drop_left, ht tail htl]
        have ev : ov (A1 ++ (t ++ tail)) (if b = true then some tail else none) = (if b = true then V.int (A1.length + t.length : Nat) else .non) := by
          cases b with
          | false => rfl
          | true =>
            show V.int ((pos _ _ : Nat) : Int) = V.int _
            unfold pos
            rw [List.length_append, List.length_append]
            congr 2
            omega
        rw [ev]
        refine ⟨_, rfl, (by cases b <;> rfl), _, rfl, ?_⟩
        rw [decide_eq_true rfl]
        refine iteF ?_
        -- nowhere else
        refine ⟨_, rfl, _, rfl, by rw [S_len, sizeLine_eq]; omega, _, _, rfl, rfl, _, rfl, by rw [S_len]; omega, by rw [S_len]; omega, ?_⟩
        rw [S_len]
        refine for_range (lo := 0) (n := ((A1.length : Nat) + 1 : Int).toNat) (fun i σ H' => ∃ (v9 : Option V), σ = [some (.ref a), some (.int z), some (.ref L), some (.int (0 + k : Int)), some (.str (S A1)), some (.str (S t)), some (.bl b), some (.str (S tail)), some (if b = true then V.int (A1.length + t.length : Nat) else .non), v9] ∧ H' p3 = some (.lst (ms.map V.int)) ∧ Well H' L) ?_ ?_ ?_
        · exact ⟨v9, rfl, hp6, w6⟩
        · rintro j σ H7 hj ⟨v9, rfl, hp7, w7⟩
          have hj' : j ≤ A1.length := by omega
          have ej : (0 + (j : Int)) = (j : Int) := Int.zero_add _
          rw [ej]
          refine ⟨_, rfl, _, rfl, _, _, rfl, rfl, add_S (n := 810) (by omega), ?_⟩
          rw [S_app]
          refine ⟨_, rfl, _, rfl, _, rfl, _, _, rfl, rfl, _, rfl, _, rfl, (by rw [S_len, List.length_append, sizeLine_eq]; omega), ?_⟩
          have ec : cutS (S (A1 ++ t)) (some (j : Int)) (some ((j : Int) + 1)) = S (((A1 ++ t).drop j).take 1) := by
            rw [← Int.natCast_one, ← Int.natCast_add, S_cut2 _ _ _ (Nat.le_add_right _ _), Nat.add_sub_cancel_left]
          rw [ec, lit_lt]
          refine ⟨rfl, _, rfl, ?_⟩
          rw [S_dec]
          by_cases h60 : ((A1 ++ t).drop j).take 1 = [60]
          · rw [decide_eq_true h60]
            exact iteF (iteF ⟨_, rfl, hp7, w7⟩)
          · rw [decide_eq_false h60]
            refine iteT ?_
            refine ⟨_, rfl, _, rfl, _, _, rfl, rfl, add_S (n := 810) (by omega), ?_⟩
            rw [S_app]
            refine ⟨_, rfl, A1 ++ t, j, rfl, ⟨by rw [List.length_append]; omega, by rw [List.length_append]; omega⟩, fun H8 s8 => ?_⟩
            rw [tag_nolt h60]
            refine ⟨rfl, _, rfl, ?_⟩
            rw [show decide (ov (A1 ++ t) none = V.non) = true from rfl]
            exact iteF ⟨_, rfl, s8 _ _ hp7, w7.same s8⟩
        · rintro σ H7 ⟨v9, rfl, hp7, w7⟩
          exact ⟨_, _, _, _, _, _, _, rfl, hp7, w7⟩
      · rintro σ H2 ⟨v3, v4, v5, v6, v7, v8, v9, rfl, hp2, hW2⟩
        exact ⟨_, _, _, _, _, _, _, _, _, rfl, hp2⟩
    · rintro σ H' ⟨v1, v2, v3, v4, v5, v6, v7, v8, v9, rfl, hp⟩
      exact q H'

theorem all_mk {l : PySem.W.OpenLaw} {w : World} {K : PySem.W.Frag} {h : Heap} {mg : Str → Option Value} {fa : Addr} (X : K.In h) (G : h.Ns mainGlobals mg) (hfa : mg "law" = some (.ref fa))
    {f0 : Addr} {od0 an0 : Option Addr} {sl0 : Array (Option Value)} {oc0 kV0 dc0 pm0 cd0 ct0 : Value}
    (a0 : PySem.W.nsIn K mainGlobals "behind_all" = some (some (.ref f0))) (l0 : K.lookup f0 = some ⟨oc0, od0, .func (PySem.W.fnOf "behind_all" "behind_all" (defArgs s_behind_all) (defBody s_behind_all) (defScope s_behind_all) .none kV0 dc0 pm0 an0 cd0 ct0), sl0⟩) (c0 : PySem.W.codeIn K cd0 "behind_all" = true) (k0 : PySem.W.keepIn K (.ref f0) = true)
    {f1 : Addr} {od1 an1 : Option Addr} {sl1 : Array (Option Value)} {oc1 kV1 dc1 pm1 cd1 ct1 : Value}
    (a1 : PySem.W.nsIn K mainGlobals "behind_gap" = some (some (.ref f1))) (l1 : K.lookup f1 = some ⟨oc1, od1, .func (PySem.W.fnOf "behind_gap" "behind_gap" (defArgs s_behind_gap) (defBody s_behind_gap) (defScope s_behind_gap) .none kV1 dc1 pm1 an1 cd1 ct1), sl1⟩) (c1 : PySem.W.codeIn K cd1 "behind_gap" = true) (k1 : PySem.W.keepIn K (.ref f1) = true)
    {f2 : Addr} {od2 an2 : Option Addr} {sl2 : Array (Option Value)} {oc2 kV2 dc2 pm2 cd2 ct2 : Value}
    (a2 : PySem.W.nsIn K mainGlobals "behind_first" = some (some (.ref f2))) (l2 : K.lookup f2 = some ⟨oc2, od2, .func (PySem.W.fnOf "behind_first" "behind_first" (defArgs s_behind_first) (defBody s_behind_first) (defScope s_behind_first) .none kV2 dc2 pm2 an2 cd2 ct2), sl2⟩) (c2 : PySem.W.codeIn K cd2 "behind_first" = true) (k2 : PySem.W.keepIn K (.ref f2) = true)
    {f3 : Addr} {od3 an3 : Option Addr} {sl3 : Array (Option Value)} {oc3 kV3 dc3 pm3 cd3 ct3 : Value}
    (a3 : PySem.W.nsIn K mainGlobals "behind_sign" = some (some (.ref f3))) (l3 : K.lookup f3 = some ⟨oc3, od3, .func (PySem.W.fnOf "behind_sign" "behind_sign" (defArgs s_behind_sign) (defBody s_behind_sign) (defScope s_behind_sign) .none kV3 dc3 pm3 an3 cd3 ct3), sl3⟩) (c3 : PySem.W.codeIn K cd3 "behind_sign" = true) (k3 : PySem.W.keepIn K (.ref f3) = true)
    {f4 : Addr} {od4 an4 : Option Addr} {sl4 : Array (Option Value)} {oc4 kV4 dc4 pm4 cd4 ct4 : Value}
    (a4 : PySem.W.nsIn K mainGlobals "tag_at" = some (some (.ref f4))) (l4 : K.lookup f4 = some ⟨oc4, od4, .func (PySem.W.fnOf "tag_at" "tag_at" (defArgs s_tag_at) (defBody s_tag_at) (defScope s_tag_at) .none kV4 dc4 pm4 an4 cd4 ct4), sl4⟩) (c4 : PySem.W.codeIn K cd4 "tag_at" = true) (k4 : PySem.W.keepIn K (.ref f4) = true)
    {f5 : Addr} {od5 an5 : Option Addr} {sl5 : Array (Option Value)} {oc5 kV5 dc5 pm5 cd5 ct5 : Value}
    (a5 : PySem.W.nsIn K mainGlobals "open_tag_at" = some (some (.ref f5))) (l5 : K.lookup f5 = some ⟨oc5, od5, .func (PySem.W.fnOf "open_tag_at" "open_tag_at" (defArgs s_open_tag_at) (defBody s_open_tag_at) (defScope s_open_tag_at) .none kV5 dc5 pm5 an5 cd5 ct5), sl5⟩) (c5 : PySem.W.codeIn K cd5 "open_tag_at" = true) (k5 : PySem.W.keepIn K (.ref f5) = true)
    {f6 : Addr} {od6 an6 : Option Addr} {sl6 : Array (Option Value)} {oc6 kV6 dc6 pm6 cd6 ct6 : Value}
    (a6 : PySem.W.nsIn K mainGlobals "closing_tag_at" = some (some (.ref f6))) (l6 : K.lookup f6 = some ⟨oc6, od6, .func (PySem.W.fnOf "closing_tag_at" "closing_tag_at" (defArgs s_closing_tag_at) (defBody s_closing_tag_at) (defScope s_closing_tag_at) .none kV6 dc6 pm6 an6 cd6 ct6), sl6⟩) (c6 : PySem.W.codeIn K cd6 "closing_tag_at" = true) (k6 : PySem.W.keepIn K (.ref f6) = true)
    {f7 : Addr} {od7 an7 : Option Addr} {sl7 : Array (Option Value)} {oc7 kV7 dc7 pm7 cd7 ct7 : Value}
    (a7 : PySem.W.nsIn K mainGlobals "attribute_at" = some (some (.ref f7))) (l7 : K.lookup f7 = some ⟨oc7, od7, .func (PySem.W.fnOf "attribute_at" "attribute_at" (defArgs s_attribute_at) (defBody s_attribute_at) (defScope s_attribute_at) .none kV7 dc7 pm7 an7 cd7 ct7), sl7⟩) (c7 : PySem.W.codeIn K cd7 "attribute_at" = true) (k7 : PySem.W.keepIn K (.ref f7) = true)
    {f8 : Addr} {od8 an8 : Option Addr} {sl8 : Array (Option Value)} {oc8 kV8 dc8 pm8 cd8 ct8 : Value}
    (a8 : PySem.W.nsIn K mainGlobals "value_at" = some (some (.ref f8))) (l8 : K.lookup f8 = some ⟨oc8, od8, .func (PySem.W.fnOf "value_at" "value_at" (defArgs s_value_at) (defBody s_value_at) (defScope s_value_at) .none kV8 dc8 pm8 an8 cd8 ct8), sl8⟩) (c8 : PySem.W.codeIn K cd8 "value_at" = true) (k8 : PySem.W.keepIn K (.ref f8) = true)
    {f9 : Addr} {od9 an9 : Option Addr} {sl9 : Array (Option Value)} {oc9 kV9 dc9 pm9 cd9 ct9 : Value}
    (a9 : PySem.W.nsIn K mainGlobals "name_at" = some (some (.ref f9))) (l9 : K.lookup f9 = some ⟨oc9, od9, .func (PySem.W.fnOf "name_at" "name_at" (defArgs s_name_at) (defBody s_name_at) (defScope s_name_at) .none kV9 dc9 pm9 an9 cd9 ct9), sl9⟩) (c9 : PySem.W.codeIn K cd9 "name_at" = true) (k9 : PySem.W.keepIn K (.ref f9) = true)
    {f10 : Addr} {od10 an10 : Option Addr} {sl10 : Array (Option Value)} {oc10 kV10 dc10 pm10 cd10 ct10 : Value}
    (a10 : PySem.W.nsIn K mainGlobals "is_letter" = some (some (.ref f10))) (l10 : K.lookup f10 = some ⟨oc10, od10, .func (PySem.W.fnOf "is_letter" "is_letter" (defArgs s_is_letter) (defBody s_is_letter) (defScope s_is_letter) .none kV10 dc10 pm10 an10 cd10 ct10), sl10⟩) (c10 : PySem.W.codeIn K cd10 "is_letter" = true) (k10 : PySem.W.keepIn K (.ref f10) = true)
    {f11 : Addr} {od11 an11 : Option Addr} {sl11 : Array (Option Value)} {oc11 kV11 dc11 pm11 cd11 ct11 : Value}
    (a11 : PySem.W.nsIn K mainGlobals "_law_well" = some (some (.ref f11))) (l11 : K.lookup f11 = some ⟨oc11, od11, .func (PySem.W.fnOf "_law_well" "_law_well" (defArgs s__law_well) (defBody s__law_well) (defScope s__law_well) .none kV11 dc11 pm11 an11 cd11 ct11), sl11⟩) (c11 : PySem.W.codeIn K cd11 "_law_well" = true) (k11 : PySem.W.keepIn K (.ref f11) = true)
    {f12 : Addr} {od12 an12 : Option Addr} {sl12 : Array (Option Value)} {oc12 kV12 dc12 pm12 cd12 ct12 : Value}
    (a12 : PySem.W.nsIn K mainGlobals "_law_draw" = some (some (.ref f12))) (l12 : K.lookup f12 = some ⟨oc12, od12, .func (PySem.W.fnOf "_law_draw" "_law_draw" (defArgs s__law_draw) (defBody s__law_draw) (defScope s__law_draw) .none kV12 dc12 pm12 an12 cd12 ct12), sl12⟩) (c12 : PySem.W.codeIn K cd12 "_law_draw" = true) (k12 : PySem.W.keepIn K (.ref f12) = true)
    {f13 : Addr} {od13 an13 : Option Addr} {sl13 : Array (Option Value)} {oc13 kV13 dc13 pm13 cd13 ct13 : Value}
    (a13 : PySem.W.nsIn K mainGlobals "_law_one" = some (some (.ref f13))) (l13 : K.lookup f13 = some ⟨oc13, od13, .func (PySem.W.fnOf "_law_one" "_law_one" (defArgs s__law_one) (defBody s__law_one) (defScope s__law_one) .none kV13 dc13 pm13 an13 cd13 ct13), sl13⟩) (c13 : PySem.W.codeIn K cd13 "_law_one" = true) (k13 : PySem.W.keepIn K (.ref f13) = true)
    {f14 : Addr} {od14 an14 : Option Addr} {sl14 : Array (Option Value)} {oc14 kV14 dc14 pm14 cd14 ct14 : Value}
    (a14 : PySem.W.nsIn K mainGlobals "_law_gap" = some (some (.ref f14))) (l14 : K.lookup f14 = some ⟨oc14, od14, .func (PySem.W.fnOf "_law_gap" "_law_gap" (defArgs s__law_gap) (defBody s__law_gap) (defScope s__law_gap) .none kV14 dc14 pm14 an14 cd14 ct14), sl14⟩) (c14 : PySem.W.codeIn K cd14 "_law_gap" = true) (k14 : PySem.W.keepIn K (.ref f14) = true)
    {f15 : Addr} {od15 an15 : Option Addr} {sl15 : Array (Option Value)} {oc15 kV15 dc15 pm15 cd15 ct15 : Value}
    (a15 : PySem.W.nsIn K mainGlobals "_law_value" = some (some (.ref f15))) (l15 : K.lookup f15 = some ⟨oc15, od15, .func (PySem.W.fnOf "_law_value" "_law_value" (defArgs s__law_value) (defBody s__law_value) (defScope s__law_value) .none kV15 dc15 pm15 an15 cd15 ct15), sl15⟩) (c15 : PySem.W.codeIn K cd15 "_law_value" = true) (k15 : PySem.W.keepIn K (.ref f15) = true)
    {f16 : Addr} {od16 an16 : Option Addr} {sl16 : Array (Option Value)} {oc16 kV16 dc16 pm16 cd16 ct16 : Value}
    (a16 : PySem.W.nsIn K mainGlobals "_law_attribute" = some (some (.ref f16))) (l16 : K.lookup f16 = some ⟨oc16, od16, .func (PySem.W.fnOf "_law_attribute" "_law_attribute" (defArgs s__law_attribute) (defBody s__law_attribute) (defScope s__law_attribute) .none kV16 dc16 pm16 an16 cd16 ct16), sl16⟩) (c16 : PySem.W.codeIn K cd16 "_law_attribute" = true) (k16 : PySem.W.keepIn K (.ref f16) = true)
    {f17 : Addr} {od17 an17 : Option Addr} {sl17 : Array (Option Value)} {oc17 kV17 dc17 pm17 cd17 ct17 : Value}
    (a17 : PySem.W.nsIn K mainGlobals "_law_open" = some (some (.ref f17))) (l17 : K.lookup f17 = some ⟨oc17, od17, .func (PySem.W.fnOf "_law_open" "_law_open" (defArgs s__law_open) (defBody s__law_open) (defScope s__law_open) .none kV17 dc17 pm17 an17 cd17 ct17), sl17⟩) (c17 : PySem.W.codeIn K cd17 "_law_open" = true) (k17 : PySem.W.keepIn K (.ref f17) = true)
    {f18 : Addr} {od18 an18 : Option Addr} {sl18 : Array (Option Value)} {oc18 kV18 dc18 pm18 cd18 ct18 : Value}
    (a18 : PySem.W.nsIn K mainGlobals "_law_other" = some (some (.ref f18))) (l18 : K.lookup f18 = some ⟨oc18, od18, .func (PySem.W.fnOf "_law_other" "_law_other" (defArgs s__law_other) (defBody s__law_other) (defScope s__law_other) .none kV18 dc18 pm18 an18 cd18 ct18), sl18⟩) (c18 : PySem.W.codeIn K cd18 "_law_other" = true) (k18 : PySem.W.keepIn K (.ref f18) = true)
    {f19 : Addr} {od19 an19 : Option Addr} {sl19 : Array (Option Value)} {oc19 kV19 dc19 pm19 cd19 ct19 : Value}
    (a19 : PySem.W.nsIn K mainGlobals "law" = some (some (.ref f19))) (l19 : K.lookup f19 = some ⟨oc19, od19, .func (PySem.W.fnOf "law" "law" (defArgs s_law) (defBody s_law) (defScope s_law) .none kV19 dc19 pm19 an19 cd19 ct19), sl19⟩) (c19 : PySem.W.codeIn K cd19 "law" = true) (k19 : PySem.W.keepIn K (.ref f19) = true)
    (z_int : PySem.W.nsIn K mainGlobals "int" = some none)
    (z_len : PySem.W.nsIn K mainGlobals "len" = some none)
    (z_range : PySem.W.nsIn K mainGlobals "range" = some none)
    {t_INLINE_WHITE : Tok} (q_INLINE_WHITE : PySem.W.nsIn K mainGlobals "INLINE_WHITE" = some (some (.str " \t\n" t_INLINE_WHITE)))
    {t_LETTERS : Tok} (q_LETTERS : PySem.W.nsIn K mainGlobals "LETTERS" = some (some (.str "abcdefghijklmnopqrstuvwxyzABCDEFGHIJKLMNOPQRSTUVWXYZ" t_LETTERS)))
    {t_NAME_SIGNS : Tok} (q_NAME_SIGNS : PySem.W.nsIn K mainGlobals "NAME_SIGNS" = some (some (.str "abcdefghijklmnopqrstuvwxyzABCDEFGHIJKLMNOPQRSTUVWXYZ0123456789-" t_NAME_SIGNS)))
    {t_KEY_SIGNS : Tok} (q_KEY_SIGNS : PySem.W.nsIn K mainGlobals "KEY_SIGNS" = some (some (.str "abcdefghijklmnopqrstuvwxyzABCDEFGHIJKLMNOPQRSTUVWXYZ0123456789_.:-" t_KEY_SIGNS)))
    {t_NO_BARE_SIGNS : Tok} (q_NO_BARE_SIGNS : PySem.W.nsIn K mainGlobals "NO_BARE_SIGNS" = some (some (.str " \t\n\"'=<>`" t_NO_BARE_SIGNS)))
    : ∃ fd : FuncData, (∀ (s : Shared) (v : Value), BindsTo s fd ⟨[v], []⟩ [("_law_script", v)]) ∧ ∀ base : Heap, K.In base → base.Ns mainGlobals mg → FnOk l.prog w K mg base CX0 6 fa fd ["_law_script"] (sp_law K) := by
  have e := hfa.symm.trans (PySem.W.mg_of X G a19)
  cases e
  have F0 := fun_mk (st := s_behind_all) l0 c0 k0
  have F1 := fun_mk (st := s_behind_gap) l1 c1 k1
  have F2 := fun_mk (st := s_behind_first) l2 c2 k2
  have F3 := fun_mk (st := s_behind_sign) l3 c3 k3
  have F4 := fun_mk (st := s_tag_at) l4 c4 k4
  have F5 := fun_mk (st := s_open_tag_at) l5 c5 k5
  have F6 := fun_mk (st := s_closing_tag_at) l6 c6 k6
  have F7 := fun_mk (st := s_attribute_at) l7 c7 k7
  have F8 := fun_mk (st := s_value_at) l8 c8 k8
  have F9 := fun_mk (st := s_name_at) l9 c9 k9
  have F10 := fun_mk (st := s_is_letter) l10 c10 k10
  have F11 := fun_mk (st := s__law_well) l11 c11 k11
  have F12 := fun_mk (st := s__law_draw) l12 c12 k12
  have F13 := fun_mk (st := s__law_one) l13 c13 k13
  have F14 := fun_mk (st := s__law_gap) l14 c14 k14
  have F15 := fun_mk (st := s__law_value) l15 c15 k15
  have F16 := fun_mk (st := s__law_attribute) l16 c16 k16
  have F17 := fun_mk (st := s__law_open) l17 c17 k17
  have F18 := fun_mk (st := s__law_other) l18 c18 k18
  have F19 := fun_mk (st := s_law) l19 c19 k19
  have b0 := F0.binds (ps := ["signs", "text", "place"]) fun _ _ _ _ _ _ us hl => match us, hl with | [_, _, _], _ => rfl
  have b1 := F1.binds (ps := ["text", "place"]) fun _ _ _ _ _ _ us hl => match us, hl with | [_, _], _ => rfl
  have b2 := F2.binds (ps := ["words", "text", "place"]) fun _ _ _ _ _ _ us hl => match us, hl with | [_, _, _], _ => rfl
  have b3 := F3.binds (ps := ["sign", "text", "place"]) fun _ _ _ _ _ _ us hl => match us, hl with | [_, _, _], _ => rfl
  have b4 := F4.binds (ps := ["text", "place"]) fun _ _ _ _ _ _ us hl => match us, hl with | [_, _], _ => rfl
  have b5 := F5.binds (ps := ["text", "place"]) fun _ _ _ _ _ _ us hl => match us, hl with | [_, _], _ => rfl
  have b6 := F6.binds (ps := ["text", "place"]) fun _ _ _ _ _ _ us hl => match us, hl with | [_, _], _ => rfl
  have b7 := F7.binds (ps := ["text", "place"]) fun _ _ _ _ _ _ us hl => match us, hl with | [_, _], _ => rfl
  have b8 := F8.binds (ps := ["text", "place"]) fun _ _ _ _ _ _ us hl => match us, hl with | [_, _], _ => rfl
  have b9 := F9.binds (ps := ["text", "place"]) fun _ _ _ _ _ _ us hl => match us, hl with | [_, _], _ => rfl
  have b10 := F10.binds (ps := ["text", "place"]) fun _ _ _ _ _ _ us hl => match us, hl with | [_, _], _ => rfl
  have b11 := F11.binds (ps := ["_law_cell"]) fun _ _ _ _ _ _ us hl => match us, hl with | [_], _ => rfl
  have b12 := F12.binds (ps := ["_law_well_here", "_law_many"]) fun _ _ _ _ _ _ us hl => match us, hl with | [_, _], _ => rfl
  have b13 := F13.binds (ps := ["_law_well_here", "_law_some"]) fun _ _ _ _ _ _ us hl => match us, hl with | [_, _], _ => rfl
  have b14 := F14.binds (ps := ["_law_well_here", "_law_least"]) fun _ _ _ _ _ _ us hl => match us, hl with | [_, _], _ => rfl
  have b15 := F15.binds (ps := ["_law_well_here"]) fun _ _ _ _ _ _ us hl => match us, hl with | [_], _ => rfl
  have b16 := F16.binds (ps := ["_law_well_here"]) fun _ _ _ _ _ _ us hl => match us, hl with | [_], _ => rfl
  have b17 := F17.binds (ps := ["_law_well_here"]) fun _ _ _ _ _ _ us hl => match us, hl with | [_], _ => rfl
  have b18 := F18.binds (ps := ["_law_well_here"]) fun _ _ _ _ _ _ us hl => match us, hl with | [_], _ => rfl
  have T : Txt K mg := {
    a_behind_all := f0, d_behind_all := _, f_behind_all := F0, g_behind_all := PySem.W.mg_of X G a0, b_behind_all := b0,
    a_behind_gap := f1, d_behind_gap := _, f_behind_gap := F1, g_behind_gap := PySem.W.mg_of X G a1, b_behind_gap := b1,
    a_behind_first := f2, d_behind_first := _, f_behind_first := F2, g_behind_first := PySem.W.mg_of X G a2, b_behind_first := b2,
    a_behind_sign := f3, d_behind_sign := _, f_behind_sign := F3, g_behind_sign := PySem.W.mg_of X G a3, b_behind_sign := b3,
    a_tag_at := f4, d_tag_at := _, f_tag_at := F4, g_tag_at := PySem.W.mg_of X G a4, b_tag_at := b4,
    a_open_tag_at := f5, d_open_tag_at := _, f_open_tag_at := F5, g_open_tag_at := PySem.W.mg_of X G a5, b_open_tag_at := b5,
    a_closing_tag_at := f6, d_closing_tag_at := _, f_closing_tag_at := F6, g_closing_tag_at := PySem.W.mg_of X G a6, b_closing_tag_at := b6,
    a_attribute_at := f7, d_attribute_at := _, f_attribute_at := F7, g_attribute_at := PySem.W.mg_of X G a7, b_attribute_at := b7,
    a_value_at := f8, d_value_at := _, f_value_at := F8, g_value_at := PySem.W.mg_of X G a8, b_value_at := b8,
    a_name_at := f9, d_name_at := _, f_name_at := F9, g_name_at := PySem.W.mg_of X G a9, b_name_at := b9,
    a_is_letter := f10, d_is_letter := _, f_is_letter := F10, g_is_letter := PySem.W.mg_of X G a10, b_is_letter := b10,
    a__law_well := f11, d__law_well := _, f__law_well := F11, g__law_well := PySem.W.mg_of X G a11, b__law_well := b11,
    a__law_draw := f12, d__law_draw := _, f__law_draw := F12, g__law_draw := PySem.W.mg_of X G a12, b__law_draw := b12,
    a__law_one := f13, d__law_one := _, f__law_one := F13, g__law_one := PySem.W.mg_of X G a13, b__law_one := b13,
    a__law_gap := f14, d__law_gap := _, f__law_gap := F14, g__law_gap := PySem.W.mg_of X G a14, b__law_gap := b14,
    a__law_value := f15, d__law_value := _, f__law_value := F15, g__law_value := PySem.W.mg_of X G a15, b__law_value := b15,
    a__law_attribute := f16, d__law_attribute := _, f__law_attribute := F16, g__law_attribute := PySem.W.mg_of X G a16, b__law_attribute := b16,
    a__law_open := f17, d__law_open := _, f__law_open := F17, g__law_open := PySem.W.mg_of X G a17, b__law_open := b17,
    a__law_other := f18, d__law_other := _, f__law_other := F18, g__law_other := PySem.W.mg_of X G a18, b__law_other := b18,
    z_int := PySem.W.mg_none_of X G z_int,
    z_len := PySem.W.mg_none_of X G z_len,
    z_range := PySem.W.mg_none_of X G z_range,
    t_INLINE_WHITE := t_INLINE_WHITE, g_INLINE_WHITE := PySem.W.mg_of X G q_INLINE_WHITE,
    t_LETTERS := t_LETTERS, g_LETTERS := PySem.W.mg_of X G q_LETTERS,
    t_NAME_SIGNS := t_NAME_SIGNS, g_NAME_SIGNS := PySem.W.mg_of X G q_NAME_SIGNS,
    t_KEY_SIGNS := t_KEY_SIGNS, g_KEY_SIGNS := PySem.W.mg_of X G q_KEY_SIGNS,
    t_NO_BARE_SIGNS := t_NO_BARE_SIGNS, g_NO_BARE_SIGNS := PySem.W.mg_of X G q_NO_BARE_SIGNS }
  exact ⟨PySem.W.fnOf "law" "law" (defArgs s_law) (defBody s_law) (defScope s_law) .none kV19 dc19 pm19 an19 cd19 ct19, fun s v => .of_eq rfl, fun base _ _ => ok_law T F19⟩
end K13
open PySem PySem.W PyProof.Rows
set_option maxHeartbeats 0 in
theorem PySem.Challenge.cw_plainmark_k13_raw_html_holds : PySem.Challenge.rw_plainmark_k13_raw_html.Holds := by
  w_on; o_law; k_head; (case hw => w_witness2)
  k_fill
  refine L2.walk_of (l := PySem.Challenge.rw_plainmark_k13_raw_html) (n := 63) (k := 6) (x := "_law_script") (CX := fun _ => L2.CX0) (sp := fun w => K13.sp_law _) rfl (by decide) rfl ⟨rfl, by decide, by decide⟩ (fun w h Y => PySem.W.kIn_of Y) ?F (fun _ _ a ns hl _ hS => ⟨a, ns, rfl, hS, hl, fun _ => rfl⟩) (fun _ _ _ _ _ h => h)
  case F =>
    intro w mg fa h KX G hmg
    refine' K13.all_mk KX G hmg ?a0 ?l0 ?c0 ?k0 ?a1 ?l1 ?c1 ?k1 ?a2 ?l2 ?c2 ?k2 ?a3 ?l3 ?c3 ?k3 ?a4 ?l4 ?c4 ?k4 ?a5 ?l5 ?c5 ?k5 ?a6 ?l6 ?c6 ?k6 ?a7 ?l7 ?c7 ?k7 ?a8 ?l8 ?c8 ?k8 ?a9 ?l9 ?c9 ?k9 ?a10 ?l10 ?c10 ?k10 ?a11 ?l11 ?c11 ?k11 ?a12 ?l12 ?c12 ?k12 ?a13 ?l13 ?c13 ?k13 ?a14 ?l14 ?c14 ?k14 ?a15 ?l15 ?c15 ?k15 ?a16 ?l16 ?c16 ?k16 ?a17 ?l17 ?c17 ?k17 ?a18 ?l18 ?c18 ?k18 ?a19 ?l19 ?c19 ?k19 ?z_int ?z_len ?z_range ?q_INLINE_WHITE ?q_LETTERS ?q_NAME_SIGNS ?q_KEY_SIGNS ?q_NO_BARE_SIGNS
    (case a0 => k_is); (case l0 => k_is); (case c0 => k_is); (case k0 => k_is); (case a1 => k_is); (case l1 => k_is); (case c1 => k_is); (case k1 => k_is); (case a2 => k_is); (case l2 => k_is); (case c2 => k_is); (case k2 => k_is); (case a3 => k_is); (case l3 => k_is); (case c3 => k_is); (case k3 => k_is); (case a4 => k_is); (case l4 => k_is); (case c4 => k_is); (case k4 => k_is); (case a5 => k_is); (case l5 => k_is); (case c5 => k_is); (case k5 => k_is); (case a6 => k_is); (case l6 => k_is); (case c6 => k_is); (case k6 => k_is); (case a7 => k_is); (case l7 => k_is); (case c7 => k_is); (case k7 => k_is); (case a8 => k_is); (case l8 => k_is); (case c8 => k_is); (case k8 => k_is); (case a9 => k_is); (case l9 => k_is); (case c9 => k_is); (case k9 => k_is); (case a10 => k_is); (case l10 => k_is); (case c10 => k_is); (case k10 => k_is); (case a11 => k_is); (case l11 => k_is); (case c11 => k_is); (case k11 => k_is); (case a12 => k_is); (case l12 => k_is); (case c12 => k_is); (case k12 => k_is); (case a13 => k_is); (case l13 => k_is); (case c13 => k_is); (case k13 => k_is); (case a14 => k_is); (case l14 => k_is); (case c14 => k_is); (case k14 => k_is); (case a15 => k_is); (case l15 => k_is); (case c15 => k_is); (case k15 => k_is); (case a16 => k_is); (case l16 => k_is); (case c16 => k_is); (case k16 => k_is); (case a17 => k_is); (case l17 => k_is); (case c17 => k_is); (case k17 => k_is); (case a18 => k_is); (case l18 => k_is); (case c18 => k_is); (case k18 => k_is); (case a19 => k_is); (case l19 => k_is); (case c19 => k_is); (case k19 => k_is); (case z_int => k_is); (case z_len => k_is); (case z_range => k_is); (case q_INLINE_WHITE => k_is); (case q_LETTERS => k_is); (case q_NAME_SIGNS => k_is); (case q_KEY_SIGNS => k_is); (case q_NO_BARE_SIGNS => k_is)
