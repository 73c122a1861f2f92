import PyProof.Rows.All
import Wide.All
import OpenK.AllK
import Wide.FinOn
import HandS.ForMost
import HandS.Wide
import HandS.StrMore
import HandS.Style
import HandS.Flow
import HandS.Walk
import PyProof.Draws
import PyProof.StrOps2

import HandS.ExcInit
import HandS.ExcIs
import HandS.ExcOwn
import HandS.ExcValue
import HandS.ExcField
import HandS.MakeKwOnly
import KE.KExcSuper
import KE.RegKSuper
import KE.RegKIsAll
import PySem.Challenge.RW_plainmark_k03_errors_apart

set_option Elab.async false
set_option linter.all false
set_option maxRecDepth 100000
/-! words of my own over the hand layer -/
namespace My
open PySem PySem.Spec PyProof.Rows L2

/-- a text by its signs -/
def S (l : List Nat) : Str := ⟨l.toArray⟩
theorem S_tl (l : List Nat) : (S l).cps.toList = l := by simp [S]
theorem S_of (z : Str) : z = S z.cps.toList := by
  cases z
  simp [S]
theorem S_len (l : List Nat) : (S l).length = l.length := by simp [S, Str.length]
theorem S_size (l : List Nat) : (S l).cps.size = l.length := by simp [S]
theorem S_get (l : List Nat) (i : Nat) : (S l).cps[i]? = l[i]? := by simp [S]
theorem S_app (a b : List Nat) : S a ++ S b = S (a ++ b) := by
  show (⟨a.toArray ++ b.toArray⟩ : Str) = ⟨(a ++ b).toArray⟩
  simp
theorem S_inj {a b : List Nat} (h : S a = S b) : a = b := by
  have := congrArg (fun z : Str => z.cps.toList) h
  simpa [S] using this
theorem S_dec (a b : List Nat) : decide (V.str (S a) = V.str (S b)) = decide (a = b) := by
  by_cases h : a = b
  · subst h
    simp
  · have h2 : ¬ V.str (S a) = V.str (S b) := fun e => h (S_inj (V.str.inj e))
    simp [h, h2]
theorem S_cut (l : List Nat) (k : Nat) : cutS (S l) (some (k : Int)) none = S (l.drop k) := by
  unfold cutS
  rw [HT.sIx_nat, HT.sIx_none, S_len, S_tl]
  show S _ = S _
  congr 1
  by_cases h : k ≤ l.length
  · rw [Nat.min_eq_left h]
    exact List.take_of_length_le (by rw [List.length_drop]; omega)
  · rw [Nat.min_eq_right (by omega), Nat.sub_self, List.take_zero, List.drop_of_length_le (by omega)]
theorem S_cut2 (l : List Nat) (j k : Nat) (h : j ≤ k) : cutS (S l) (some (j : Int)) (some (k : Int)) = S ((l.drop j).take (k - j)) := by
  unfold cutS
  rw [HT.sIx_nat, HT.sIx_nat, S_len, S_tl]
  show S _ = S _
  congr 1
  by_cases h1 : j ≤ l.length
  · rw [Nat.min_eq_left h1]
    by_cases h2 : k ≤ l.length
    · rw [Nat.min_eq_left h2]
    · rw [Nat.min_eq_right (by omega), List.take_of_length_le (by rw [List.length_drop]; omega), List.take_of_length_le (by rw [List.length_drop]; omega)]
  · rw [List.drop_of_length_le (by omega), List.drop_of_length_le (by omega), List.take_nil, List.take_nil]

/-- all that is tracked but L stays -/
def Keeps (L : Addr) (H H' : Hp) : Prop := ∀ b o, b ≠ L → H b = some o → H' b = some o
theorem Keeps.refl {L : Addr} (H : Hp) : Keeps L H H := fun _ _ _ h => h
theorem Keeps.trans {L : Addr} {H H1 H2 : Hp} (a : Keeps L H H1) (b : Keeps L H1 H2) : Keeps L H H2 := fun c o n h => b c o n (a c o n h)
theorem Keeps.new {L p : Addr} {H : Hp} {o : HO} (h : H p = none) : Keeps L H (upd H p o) := fun b u _ e => by
  rw [upd_ne (ne_of_none e h)]
  exact e
theorem Keeps.at {L : Addr} {H : Hp} {o : HO} : Keeps L H (upd H L o) := fun b u n e => by
  rw [upd_ne n]
  exact e
theorem Keeps.of {L : Addr} {H H' : Hp} (h : Same H H') : Keeps L H H' := fun b o _ e => h b o e
theorem same_new {p : Addr} {H : Hp} {o : HO} (h : H p = none) : Same H (upd H p o) := fun b u e => by
  rw [upd_ne (ne_of_none e h)]
  exact e
/-- a well of draws -/
def Well (H : Hp) (L : Addr) : Prop := ∃ x y : Int, H L = some (.lst [.int x, .int y])
theorem Well.same {H H' : Hp} {L : Addr} (h : Well H L) (s : Same H H') : Well H' L := by
  obtain ⟨x, y, e⟩ := h
  exact ⟨x, y, s _ _ e⟩
theorem Well.new {H : Hp} {L p : Addr} {o : HO} (h : Well H L) (n : H p = none) : Well (upd H p o) L := h.same (same_new n)
theorem Well.ne {H : Hp} {L p : Addr} (h : Well H L) (n : H p = none) : p ≠ L := by
  obtain ⟨x, y, e⟩ := h
  exact (ne_of_none e n).symm
theorem Well.kept {H H' : Hp} {L p : Addr} (h : Well H L) (k : Keeps L H H') (w : Well H' L) (n : H' p = none) : H p = none := by
  cases q : H p with
  | none => rfl
  | some o =>
    have z := k p o (w.ne n) q
    rw [n] at z
    cases z
theorem Keeps.free {L p : Addr} {H H' : Hp} (k : Keeps L H H') (n : H' p = none) (h : p ≠ L) : H p = none := by
  cases q : H p with
  | none => rfl
  | some o =>
    have z := k p o h q
    rw [n] at z
    cases z
theorem Keeps.seq {K : PySem.W.Frag} {L a : Addr} {H H' : Hp} {xs : List V} (k : Keeps L H H') (n : a ≠ L) (h : SqL K H a xs) : SqL K H' a xs := by
  rcases h with (h | ⟨o, h⟩) | h
  · exact .inl (.inl (k _ _ n h))
  · exact .inl (.inr ⟨o, k _ _ n h⟩)
  · exact .inr h
theorem Keeps.tup {K : PySem.W.Frag} {L a : Addr} {H H' : Hp} {xs : List V} (k : Keeps L H H') (n : a ≠ L) (h : SqT K H a xs) : SqT K H' a xs := by
  rcases h with (h | ⟨o, h⟩) | h
  · exact .inl (.inl (k _ _ n h))
  · exact .inl (.inr ⟨o, k _ _ n h⟩)
  · exact .inr h

section
variable {X : Cx}
/-- one sign, so often -/
theorem op_mul_str : OpR X (binaryOp .Mult) (fun x y H Q => ∃ (c j : Nat), x = .str (S [c]) ∧ y = .int (j : Int) ∧ j ≤ 1000 ∧ Q (.str (S (List.replicate j c))) H) := by
  intro pins s σ H x y v u Q I rx ry h
  obtain ⟨c, j, rfl, rfl, hj, q⟩ := h
  obtain ⟨t, rfl⟩ := rx
  obtain ⟨t', rfl⟩ := ry
  have hlen : (S [c]).length = 1 := S_len _
  refine PySem.P.mul_str (by simp; omega) (fun _ _ => by
    rw [hlen]
    have : (1 : Int) ≤ (2 ^ 63 - 1) / (j : Int) := by
      by_cases hj0 : j = 0
      · omega
      · refine Int.le_ediv_of_mul_le (by omega) ?_
        omega
    omega) (fun _ _ => by
    rw [hlen]
    have : (j : Int).toNat = j := by omega
    rw [this]
    exact decide_eq_false (by rw [sizeLine_eq]; omega)) ?_
  have fin : ∀ (l : List Nat), l = List.replicate j c → ∀ (v : Value) (k : Nat), RelV (.str (S l)) v → EP X pins σ Q v { s with toks := k } := fun l e v k r => ⟨.str (S l), H, I.tok _, r, by rw [e]; exact q⟩
  by_cases h0 : (j : Int) < 1
  · have e0 : j = 0 := by omega
    rw [if_pos h0]
    exact ⟨by decide, fin [] (by rw [e0]; rfl) _ _ ⟨_, rfl⟩⟩
  · rw [if_neg h0]
    by_cases h1 : j = 1
    · subst h1
      rw [if_pos (by rfl)]
      exact fin [c] rfl _ s.toks ⟨_, rfl⟩
    · rw [if_neg (by rw [hlen]; simp; omega)]
      have e : (⟨(List.replicate (j : Int).toNat (S [c]).cps).foldl (· ++ ·) #[]⟩ : Str) = S (List.replicate j c) := by
        have ej : (j : Int).toNat = j := by omega
        rw [ej]
        have gen : ∀ (n : Nat) (acc : List Nat), (List.replicate n (S [c]).cps).foldl (· ++ ·) acc.toArray = (acc ++ List.replicate n c).toArray := by
          intro n
          induction n with
          | zero => intro acc; simp
          | succ n ih =>
            intro acc
            rw [List.replicate_succ, List.foldl_cons]
            have : acc.toArray ++ (S [c]).cps = (acc ++ [c]).toArray := by simp [S]
            rw [this, ih, List.replicate_succ]
            simp
        have := gen j []
        simp at this
        unfold S
        congr 1
      rw [e]
      refine ⟨?_, fin _ rfl _ _ ⟨_, rfl⟩⟩
      rw [S_len, List.length_replicate, sizeLine_eq]
      omega

/-- a text with its places -/
def Its2 (z : Str) : It :=
  ⟨fun i _ => i < z.cps.size, fun i H v H' => ∃ T c, v = .ref T ∧ H T = none ∧ H' = upd H T (.tup [.int (i : Nat), .str (S [c])]) ∧ z.cps[i]? = some c, fun i _ => i = z.cps.size⟩
theorem turn_enumS {P : Program} {w : World} {K : PySem.W.Frag} {elts : List Expr} {kk : Nat} {tpos : Pos} (z : Str) (t : Tok) (e it : Addr) :
    Turn P w K (.Tuple elts kk tpos) (Its2 z) [e, it] e (fun i h => (∃ old, IsEnum h e it ((i : Nat) : Int) old) ∧ h.IsStrIter it (strIterType z) z t i ∧ e ≠ it) where
  mem := List.mem_cons_self ..
  obj := fun i h st b hb => by
    obtain ⟨⟨old, he⟩, ⟨o, ho, hc, hd⟩, _⟩ := st
    rcases List.mem_cons.mp hb with rfl | hb
    · exact ⟨_, he, fun v q => nomatch q⟩
    · rw [List.mem_singleton.mp hb]
      exact ⟨o, ho, fun v q => by rw [hd] at q; cases q⟩
  keep := fun i h h' st k => by
    obtain ⟨⟨old, he⟩, ⟨o, ho, r⟩, hne⟩ := st
    exact ⟨⟨old, k e (by simp) _ he⟩, ⟨o, k it (by simp) o ho, r⟩, hne⟩
  item := by
    intro X hP hw hK hc i pins s σ H E I hf st hg
    subst hP hw hK
    obtain ⟨⟨old, he⟩, hit, hne⟩ := st
    have hel : e < s.heap.objs.size := Heap.lt_size he
    have hil : it < s.heap.objs.size := by
      obtain ⟨_, q, _⟩ := hit
      exact Heap.lt_size q
    have hef : e ∉ [it] := fun q => hne (List.mem_singleton.mp q)
    have D : Draws X.prog X.w X.A.in1 it [it] z.cps.size (fun i v => ∃ c u, z.cps[i]? = some c ∧ v = .str ⟨#[c]⟩ u) (fun i h => h.IsStrIter it (strIterType z) z t i) := by
      unfold strIterType
      cases ha : z.cps.all (· < 128)
      · simpa [ha] using Draws.strWide (prog := X.prog) (w := X.w) (A := X.A.in1) (I.ok.hd hc) it z t
      · simpa [ha] using Draws.strAscii (prog := X.prog) (w := X.w) (A := X.A.in1) (I.ok.hd hc) it z t
    refine wpAny_pyNext_enum_itemD D he hit hg hne hef fun x h' tk hx ho hit' hT hsz hk => ?_
    obtain ⟨c, u, hcx, rfl⟩ := hx
    refine ⟨_, rfl, wpAny_letOwnedTupleGo_enum (s := { s with heap := h', toks := tk + 1 }) ho fun h'' he' sb => ?_⟩
    have hT2 : h''.get? s.heap.objs.size = some { cls := .type "tuple", data := .seq #[.int i tk, .str ⟨#[c]⟩ u] } := (sb.2 _ (Nat.ne_of_gt hel)).trans hT
    have new : ObjOk X.prog X.w (upd H s.heap.objs.size (.tup [.int (i : Nat), .str (S [c])])) h'' s.heap.objs.size (.tup [.int (i : Nat), .str (S [c])]) :=
      ⟨by show 2 ≤ sizeLine; decide, [.int i tk, .str ⟨#[c]⟩ u], .cons ⟨_, rfl⟩ (.cons ⟨_, rfl⟩ .nil), ⟨_, hT2, rfl, _, rfl⟩⟩
    have hold : ∀ b ob, b ∉ [e, it] → s.heap.get? b = some ob → h''.get? b = some ob := fun b ob hb q =>
      (sb.2 b (fun q => hb (by simp [q]))).trans (hk b ob (fun q => hb (by simp [q])) (fun q => hb (by simp [q])) q)
    have I1 : Inv X pins σ (upd H s.heap.objs.size (.tup [.int (i : Nat), .str (S [c])])) { s with heap := h'', toks := tk + 1 } :=
      I.turnedNew (t' := tk + 1) (ch := [e, it]) hold hf (Nat.le_refl _) new
    refine ⟨.ref s.heap.objs.size, _, I1, rfl, ⟨_, c, rfl, I.hok.fresh (Nat.le_refl _), rfl, hcx⟩, ⟨⟨.str ⟨#[c]⟩ u, ?_⟩, ?_, hne⟩, fun b hb => ?_⟩
    · have e1 : ((i + 1 : Nat) : Int) = (i : Int) + 1 := Int.natCast_succ i
      rw [e1]
      exact he'
    · obtain ⟨o, q, r⟩ := hit'
      exact ⟨o, (sb.2 it (Ne.symm hne)).trans q, r⟩
    · have hb' : b < s.heap.objs.size := by
        rcases List.mem_cons.mp hb with q | q
        · rw [q]
          exact hel
        · rw [List.mem_singleton.mp q]
          exact hil
      rw [upd_ne (Nat.ne_of_lt hb')]
      exact (hf b hb).1
  done := by
    intro X hP hw hK hc i pins s σ H E I hf st hg
    subst hP hw hK
    obtain ⟨⟨old, he⟩, hit, hne⟩ := st
    obtain ⟨f0, f1, f2, f3, f4, f5⟩ := hf it (by simp)
    have D : Draws X.prog X.w X.A.in1 it [it] z.cps.size (fun i v => ∃ c u, z.cps[i]? = some c ∧ v = .str ⟨#[c]⟩ u) (fun i h => h.IsStrIter it (strIterType z) z t i) := by
      unfold strIterType
      cases ha : z.cps.all (· < 128)
      · simpa [ha] using Draws.strWide (prog := X.prog) (w := X.w) (A := X.A.in1) (I.ok.hd hc) it z t
      · simpa [ha] using Draws.strAscii (prog := X.prog) (w := X.w) (A := X.A.in1) (I.ok.hd hc) it z t
    have hi : i = z.cps.size := hg
    subst hi
    exact wpAny_pyNext_enum_endD D he hit fun h' eb => ⟨rfl, I.turned (t' := s.toks) (fun b o hb q => eb b o hb q) f0 f1 f3 f4 f5⟩
  self := fun A i s Q E st h => by
    obtain ⟨⟨_, he⟩, _⟩ := st
    exact wpAny_pyIter_enum he h
def iEnumS (ta : TA) : TI := fun σ H R => ta σ H fun vs H1 => ∃ z, vs = [.str z] ∧ R (Its2 z) H1
theorem pi_enumS {e : Expr} {ta : TA} {p pos tpos : Pos} {elts : List Expr} {kk : Nat} (hg : Gl X "enumerate") (hm : X.mg "enumerate" = none) (ha : PA X [e] ta)
    (hs : starEach [e] X.env = [(false, eval e X.env)] := by rfl) : PI X (.Tuple elts kk tpos) (.Call (.Name "enumerate" p) [e] [] pos) (iEnumS ta) := by
  refine ⟨fun pins s σ H R I h => ?_⟩
  refine Call_ (ld_blt I hg hm boot_enumerate (PyProof.Rows.callWith_type1 (thn (ha.run pos pins s σ H _ I h) fun us s1 ⟨vs, H1, I1, r1, q1⟩ => ?_) hs rfl))
  obtain ⟨z, rfl, q⟩ := q1
  obtain ⟨u1, rfl, r⟩ := vals1 r1
  obtain ⟨t, rfl⟩ := r
  refine PySem.call_enumerate_str fun h' he hit hsz hk => wpAny_pyIter_enum he ?_
  have I2 : Inv X pins σ H1 { s1 with heap := h' } := I1.kept (t' := s1.toks) hk
  refine ⟨s1.heap.objs.size + 1, [s1.heap.objs.size + 1, s1.heap.objs.size], _, _, H1, rfl, I2, turn_enumS z t (s1.heap.objs.size + 1) s1.heap.objs.size, ⟨⟨.none, he⟩, hit, Nat.succ_ne_self _⟩, fun b hb => ?_, q⟩
  have hle : s1.heap.objs.size ≤ b := by
    rcases List.mem_cons.mp hb with q | q
    · rw [q]
      exact Nat.le_succ _
    · rw [List.mem_singleton.mp q]
      exact Nat.le_refl _
  exact I1.fpOk hle (I1.hok.fresh hle)
theorem walk_enumS {z : Str} : Walk (Its2 z) z.cps.size (fun _ => True) (fun i H v H' => ∃ T c, v = .ref T ∧ H T = none ∧ H' = upd H T (.tup [.int (i : Nat), .str (S [c])]) ∧ z.cps[i]? = some c) :=
  ⟨fun _ _ hi _ => hi, fun _ _ => rfl, fun _ _ _ _ _ _ y => y⟩
end

/-! ### data -/
def Sm (l : List Nat) : Prop := ∀ c ∈ l, c < 1114112
theorem Sm.ok {l : List Nat} (h : Sm l) : PyData.strOk (S l) = true := by
  unfold PyData.strOk S
  rw [Array.all_eq_true']
  intro c hc
  exact decide_eq_true (h c (by simpa using hc))
theorem Sm.drop {l : List Nat} (h : Sm l) (n : Nat) : Sm (l.drop n) := fun c hc => h c (List.mem_of_mem_drop hc)
theorem dp_strs {K : PySem.W.Frag} {H : Hp} : ∀ ls : List (List Nat), DpAll K H (ls.map fun l => V.str (S l)) (ls.map fun l => PyData.str (S l))
  | [] => .nil
  | l :: r => .cons (.str _) (dp_strs r)
theorem canLay_strs : ∀ {ls : List (List Nat)}, (∀ l ∈ ls, Sm l) → PyData.canLayAll0 (ls.map fun l => PyData.str (S l)) = true
  | [], _ => rfl
  | l :: r, h => by
    show (PyData.strOk (S l) && PyData.canLayAll0 (r.map fun l => PyData.str (S l))) = true
    rw [(h l (List.mem_cons_self ..)).ok, canLay_strs fun z hz => h z (List.mem_cons_of_mem _ hz)]
    rfl
theorem depth_strs : ∀ ls : List (List Nat), PyData.depthAll (ls.map fun l => PyData.str (S l)) = 0
  | [] => rfl
  | l :: r => by
    show max 0 (PyData.depthAll (r.map fun l => PyData.str (S l))) = 0
    rw [depth_strs r]
    rfl
theorem shaped_strs {ls : List (List Nat)} (h : ∀ l ∈ ls, Sm l) : SeqAt.shaped (.list (ls.map fun l => PyData.str (S l))) = true := by
  show (PyData.canLayAll0 _ && decide (PyData.depthAll _ + 1 ≤ 64)) = true
  rw [canLay_strs h, depth_strs]
  rfl
theorem eq_strs {ls : List (List Nat)} (h : ∀ l ∈ ls, Sm l) : PyData.eqv (.list (ls.map fun l => PyData.str (S l))) (.list (ls.map fun l => PyData.str (S l))) = true :=
  PySem.SeqAt.eqv_refl _ (canLay_strs h)
/-- a text and two ints -/
def D3 (l : List Nat) (b c : Int) : PyData := .tuple [.str (S l), .int b, .int c]
theorem dp3 {K : PySem.W.Frag} {H : Hp} {a : Addr} {l : List Nat} {b c : Int} (h : SqT K H a [.str (S l), .int b, .int c]) : Dp K H (.ref a) (D3 l b c) :=
  .tup h (.cons (.str _) (.cons (.int _) (.cons (.int _) .nil)))
theorem lay3 {l : List Nat} (h : Sm l) (b c : Int) : (D3 l b c).canLay0 = true := by
  show (PyData.strOk (S l) && (true && (true && true))) = true
  rw [h.ok]
  rfl
theorem shaped3 {l : List Nat} (h : Sm l) (b c : Int) : SeqAt.shaped (D3 l b c) = true := by
  show ((D3 l b c).canLay0 && decide ((D3 l b c).depth ≤ 64)) = true
  rw [lay3 h]
  rfl
theorem eq3 {l : List Nat} (h : Sm l) (b c : Int) : PyData.eqv (D3 l b c) (D3 l b c) = true := PySem.SeqAt.eqv_refl _ (lay3 h b c)

/-! ### a if t else b -/
def AnsB (t : TT) (σ : L2.St) (H : Hp) (b : Bool) : Prop := ∀ Q : Bool → Hp → Prop, Q b H → t σ H Q
def ValB (te : TE) (σ : L2.St) (H : Hp) (P : V → Hp → Prop) : Prop := ∀ Q : VK, (∀ v H', P v H' → Q v H') → te σ H Q
theorem tif_val {t : TT} {ta tb : TE} {σ : L2.St} {H : Hp} {P : V → Hp → Prop} (b : Bool) (ht : AnsB t σ H b) (ha : b = true → ValB ta σ H P) (hb : b = false → ValB tb σ H P) : ValB (tIf t ta tb) σ H P := by
  intro Q q
  refine ht _ ?_
  cases b with
  | true =>
    rw [if_pos rfl]
    exact ha rfl Q q
  | false =>
    rw [if_neg Bool.false_ne_true]
    exact hb rfl Q q
theorem sum_le : ∀ {ls : List (List Nat)} {k : Nat}, (∀ l ∈ ls, l.length ≤ k) → ((ls.map S).map (·.length)).sum ≤ k * ls.length
  | [], k, _ => by simp
  | a :: r, k, h => by
    have ih := sum_le (ls := r) (k := k) fun l hl => h l (List.mem_cons_of_mem _ hl)
    have ha := h a (List.mem_cons_self ..)
    rw [List.map_cons, List.map_cons, List.sum_cons, S_len, List.length_cons, Nat.mul_succ]
    omega

theorem asg_if {t : TT} {ta tb : TE} {g : TG} {u : TS} {D : Ends} {σ : L2.St} {H : Hp} (P : V → Hp → Prop) (b : Bool) (ht : AnsB t σ H b) (ha : b = true → ValB ta σ H P) (hb : b = false → ValB tb σ H P)
    (hq : ∀ v H', P v H' → g v σ H' (u D)) : tSeq (tAsg (tIf t ta tb) g) u D σ H :=
  tif_val b ht ha hb (fun v H' => g v σ H' (u D)) hq
theorem go_nx {D : Ends} {σ : L2.St} {H : Hp} (q : D.nx σ H) : tNext D σ H := q
end My

/-! k03: super().__init__(..) in an own exception's __init__, over the heap -/
namespace XI
open PySem PySem.W PySem.Calls PyProof.Rows PySem.HandSPX PySem.Spec
abbrev excX (C t : Addr) (dv : Option Addr) : Obj := { cls := .ref C, dict := dv, data := .fields #[.ref t, .none, .none, .none, .bool false, .none] }
/-- what the written part says of the class C, whose __init__ is f -/
structure ECls (P : Program) (K : Frag) (C f cc cda : Addr) (ar : Arg) (qual : Str) (scope : Scope) (body : List Stmt) (fd : FuncData) : Prop where
  oex : L2.OexC K C
  fn : ∃ oc od osl, K.lookup f = some ⟨oc, od, .func fd, osl⟩
  head : (fd.params.posonlyargs ++ fd.params.args).head? = some ar
  code : ∃ ccl cdd vs ccs file tf, K.lookup cda = some ⟨ccl, cdd, .fields vs, ccs⟩ ∧ vs[2]? = some (.str file tf) ∧ ((P.main.file : Str) == file) = true
  cell : ∃ cl cld csl, K.lookup cc = some ⟨cl, cld, .cell (some (.ref C)), csl⟩
  mro : mroIn K C (.ref C) = some true
  top : (P.main.scope.names.lookup ("super" : Str)).isSome = false
  opq : nsIn K cStatics "thirdparty.any" = some none
  sup : ks_superIn K C C "__init__" = some (some (.builtin "ValueError.__init__"))
  isVE : subIn K (.ref C) (.type "ValueError") = some true
section
variable {prog : Program} {w : World} {A : Around} {E : Value → Shared → Prop} {K : Frag} {C f cc cda L e t0 : Addr} {ar : Arg} {qual : Str} {scope : Scope} {body : List Stmt} {fd : FuncData}
theorem mw_call {h : Heap} {g : Array GenState} {d : Drawn} {t : Nat} {os : OsState} {u : Addr} {vs : List Value} {Q : Value → Shared → Prop} (T : L2.OexC K C) (X : K.In h) (hu : h.get? u = some (kxs_mw "ValueError.__init__" e)) (he : h.get? e = some (excX C t0 none)) (hz : vs.length ≤ sizeLine)
    (q : ∀ h' t1, (∀ b o, b ≠ e → h.get? b = some o → h'.get? b = some o) → h'.get? e = some (excX C t1 none) → Q .none ⟨h', g, d, t, os⟩) : wpAny (model prog w) A (call (.ref u) vs) Q E ⟨h, g, d, t, os⟩ := by
  obtain ⟨nm, qn, N, bs, bm, sn, sub, ab, col, dd, k0, k1, k2, k3, k5, hC, hbm⟩ := T.cls
  have FB := F.excBase_ValueError
  have cls1 : (Value.type "method-wrapper" == Value.type "method" || Value.type "method-wrapper" == Value.type "builtin_function_or_method" || Value.type "method-wrapper" == Value.type "method-wrapper") = true := by decide
  refine wpAny_call (codeAny_of_tree (show wpAny _ A.in1 (callAny (.ref u) ⟨vs, []⟩) _ _ _ from ?_))
  simp only [callAny]
  refine wpAny_bind (wpAny_load hu ?_)
  simp only [kxs_mw, cls1, if_true]
  refine KFB.if_so (by decide) (wpAny_bind (check_bound_init FB.toExcCallFacts (X _ _ hC) he rfl (wpAny_bind (wpAny_pure (wpAny_pure ⟨plainId_quiet FB.init.plain _, codeAny_builtin FB.initEntry ?_⟩)))))
  exact exc_init_tree (cls := .ref C) (t0 := t0) (dv := none) (c2 := .none) (c3 := .none) (b4 := .bool false) he hz fun h' k e' _ => q h' _ k e'
theorem super_init {s : Shared} {mg mb m : Str → Option Value} {p0 p1 p2 p3 : Pos} {args : List Expr} {Q : Value → Shared → Prop} (T : ECls prog K C f cc cda ar qual scope body fd) (X : K.In s.heap)
    (hglob : s.heap.Ns mainGlobals mg) (hsup : mg "super" = none) (hblt : s.heap.Ns builtinsNs mb) (hb : mb "super" = some (.type "super")) (hns : s.heap.Ns L m) (hv : m ar.arg = some (.ref e)) (he : s.heap.get? e = some (excX C t0 none))
    (hks : scope.names.lookup ("super" : Str) = some .globalImplicit) (hkc : scope.names.lookup ("__class__" : Str) = some .free) (hka : scope.names.lookup ar.arg = some .local) (hk : scope.kind = .function) (heC : e ≠ C)
    {pl : Sem Bool}
    (heq : eval (.Call (.Attribute (.Call (.Name "super" p0) [] [] p1) "__init__" p2) args [] p3) (ksEnv qual scope L f (.ref cda) cc) = (do
      let ov ← attributeBase (.Call (.Name "super" p0) [] [] p1) "__init__" (ksEnv qual scope L f (.ref cda) cc) (eval (.Call (.Name "super" p0) [] [] p1) (ksEnv qual scope L f (.ref cda) cc))
      standAt p2.atName
      let (f', first) ← holding [ov] (getMethod ov "__init__" pl)
      callWith p3 f' first (backTo p3 (starEach args (ksEnv qual scope L f (.ref cda) cc))) []))
    (hpl : (backTo p3 (starEach args (ksEnv qual scope L f (.ref cda) cc))).any (·.1) = false)
    (hev : ∀ (u : Addr) (s' : Shared) (P : Args → Shared → Prop), (∀ vs tk, vs.length ≤ 1 → P ⟨vs, []⟩ { s' with toks := tk }) → wpAny (model prog w) A (evalArgs (.ref u) true (backTo p3 (starEach args (ksEnv qual scope L f (.ref cda) cc))) []) P E s')
    (q : ∀ h' t1 tk, (∀ b o, b ≠ e → s.heap.get? b = some o → h'.get? b = some o) → h'.get? e = some (excX C t1 none) → Q .none { s with heap := h', toks := tk }) :
    _root_.PySem.wpAt (model prog w) A (.func body (ksEnv qual scope L f (.ref cda) cc)) (eval (.Call (.Attribute (.Call (.Name "super" p0) [] [] p1) "__init__" p2) args [] p3) (ksEnv qual scope L f (.ref cda) cc)) Q E s := by
  obtain ⟨nm, qn, N, bs, bm, sn, sub, ab, col, dd, k0, k1, k2, k3, k5, hC, hbm⟩ := T.oex.cls
  obtain ⟨oc, od, osl, hf⟩ := T.fn
  obtain ⟨ccl, cdd, vs, ccs, file, tf, hcode, hvs, hfile⟩ := T.code
  obtain ⟨cl, cld, csl, hcell⟩ := T.cell
  refine ks_wpAt_MethodCall (pl := pl) ?_ heq
  refine ks_wpAt_super_base (env := ksEnv qual scope L f (.ref cda) cc) hks hkc rfl rfl (X _ _ hf) rfl T.head rfl (X _ _ hcode) rfl hvs hfile T.top ?_
  refine ks_loadName_global hk hks (loadGlobal_builtin (env := ksEnv qual scope L f (.ref cda) cc) hglob hsup hblt hb ⟨rfl, ?_⟩)
  refine wpAny_loadName_free hk hkc rfl ⟨_, X _ _ hcell, rfl⟩ ?_
  refine wpAny_loadName_local hk hka hns hv ?_
  obtain ⟨hh, g, d, t, os⟩ := s
  refine ks_wpAny_isType_cls (X _ _ hC) rfl ⟨rfl, ?_⟩
  refine ks_wpAny_call_super (X _ _ hC) rfl he rfl (fun c z => by cases z) (looks_mroIn X T.mro) fun h1 hso k1' => ?_
  have X1 : K.In h1 := X.keeps k1'
  have I1 : InstAt h1 e (excX C t0 none) C none := ⟨k1' _ _ he, rfl, rfl, trivial⟩
  have hI : Looks (model prog w) h1 (isInstance (.ref e) (.type "ValueError")) true := I1.type.andThen (looks_subIn X1 T.isVE)
  have hcl : clsIn K C = some { name := nm, bases := bs, mro := .ref C :: bm, ns := N, qualname := qn, hasDict := true, slotNames := sn, subclasses := sub, abstract := ab, collection := col, hasDel := false } := by unfold clsIn; rw [hC] <;> rfl
  have hm := T.sup
  unfold ks_superIn at hm
  rw [hcl] at hm
  refine kxs_getMethod kxs_ValueError hso (looks_opaque X1 T.opq) (l₀ := .ref C :: bm) (fun A Q E s k q => wpAny_bind ((looks_clsIn X1 hcl) A _ E s k (wpAny_pure q))) rfl X1 hm hI heC rfl ?_
  refine kxs_callWith (i := "ValueError.__init__") (x := e) hpl (hev _ _ _ fun us tk hus => ⟨Heap.get?_push_size _ rfl, ?_⟩)
  have k2 : ∀ b o, h1.get? b = some o → (h1.push (kxs_mw "ValueError.__init__" e)).get? b = some o := fun b o z => Heap.get?_push_of_some _ z
  refine mw_call T.oex (X1.keeps k2) (Heap.get?_push_size _ rfl) (k2 _ _ (k1' _ _ he)) (Nat.le_trans hus (by decide)) fun h' t1 k3' e3 => ?_
  exact q h' t1 _ (fun b o n z => k3' b o n (k2 _ _ (k1' _ _ z))) e3
/-- a class of one field: super().__init__('..'); self.x = x -/
theorem init_two {s : Shared} {mg mb : Str → Option Value} {p0 p1 p2 p3 p4 p5 p6 p7 p8 p9 : Pos} {kk : Nat} {msg self fld name : Str} {params : Arguments} {dV kV doc pm ct : Value} {an : Option Addr} {args : Args} {v : Value} {R : Result → Shared → Prop}
    (T : ECls prog K C f cc cda ar qual scope body (ksFn name qual params body scope dV kV doc pm an (.ref cda) ct cc))
    (hb0 : body = [.Expr (.Call (.Attribute (.Call (.Name "super" p0) [] [] p1) "__init__" p2) [.Constant (.str msg) kk p4] [] p3) p5, .Assign [.Attribute (.Name self p6) fld p7] (.Name fld p8) p9]) (X : K.In s.heap) (hlim : s.heap.NoLimit)
    (hglob : s.heap.Ns mainGlobals mg) (hsup : mg "super" = none) (hblt : s.heap.Ns builtinsNs mb) (hb : mb "super" = some (.type "super")) (he : s.heap.get? e = some (excX C t0 none)) (heC : e ≠ C)
    (har : ar.arg = self) (hsf : self ≠ fld) (hd1 : (self == ("__debug__" : Str)) = false) (hd2 : (fld == ("__debug__" : Str)) = false)
    (hks : scope.names.lookup ("super" : Str) = some .globalImplicit) (hkc : scope.names.lookup ("__class__" : Str) = some .free) (hk1 : scope.names.lookup self = some .local) (hk2 : scope.names.lookup fld = some .local)
    (hcell : ∀ x ∈ scope.names, x.2 ≠ .cell) (hco : scope.isCoroutine = false) (hgen : scope.isGenerator = false) (hk : scope.kind = .function) (hcd : codeIn K (.ref cda) qual = true) (hroom : A.depth < recursionLimit)
    (hno : findIn K (.ref C) fld = some none)
    (hKe : K.lookup e = none) (hi : ∀ L : Addr, interactive (ksEnv qual scope L f (.ref cda) cc) = false)
    (hs1 : ∀ L : Addr, swapsWith (.Call (.Attribute (.Call (.Name "super" p0) [] [] p1) "__init__" p2) [.Constant (.str msg) kk p4] [] p3) none p5.line (ksEnv qual scope L f (.ref cda) cc) = pure false)
    (hs2 : ∀ L : Addr, swapsWith (.Name fld p8) (some (.Attribute (.Name self p6) fld p7)) p9.line (ksEnv qual scope L f (.ref cda) cc) = pure false)
    (heq : ∀ L : Addr, ∃ pl : Sem Bool, eval (.Call (.Attribute (.Call (.Name "super" p0) [] [] p1) "__init__" p2) [.Constant (.str msg) kk p4] [] p3) (ksEnv qual scope L f (.ref cda) cc) = (do
      let ov ← attributeBase (.Call (.Name "super" p0) [] [] p1) "__init__" (ksEnv qual scope L f (.ref cda) cc) (eval (.Call (.Name "super" p0) [] [] p1) (ksEnv qual scope L f (.ref cda) cc))
      standAt p2.atName
      let (f', first) ← holding [ov] (getMethod ov "__init__" pl)
      callWith p3 f' first (backTo p3 (starEach [.Constant (.str msg) kk p4] (ksEnv qual scope L f (.ref cda) cc))) []))
    (hbind : BindsTo s (ksFn name qual params body scope dV kV doc pm an (.ref cda) ct cc) args [(self, .ref e), (fld, v)])
    (q : ∀ h' t1 dx tk, (∀ b o, b ≠ e → s.heap.get? b = some o → h'.get? b = some o) → s.heap.get? dx = none → dx ≠ e → h'.get? e = some (excX C t1 (some dx)) → h'.Ns1 dx (fun y => if y = fld then some v else none) → R (.ok (.ret .none)) ⟨h', s.gens, s.drawn, tk, s.os⟩) :
    codeAny (model prog w) A (.call (.ref f) args) R s := by
  obtain ⟨oc, od, osl, hf⟩ := T.fn
  refine ks_codeAny_call_defAt (fd := ksFn name qual params body scope dV kV doc pm an (.ref cda) ct cc) (body := body) (binds := [(self, .ref e), (fld, v)]) hroom (X _ _ hf) rfl hlim (codeRec_of X hcd) rfl hbind hcell (fun x hx => ?_) (fun h1 hns k1 => ?_) hco hgen hk
  · simp only [List.mem_cons, List.not_mem_nil, or_false] at hx
    rcases hx with rfl | rfl
    · exact hk1
    · exact hk2
  subst hb0
  subst har
  have m1 : ([(ar.arg, Value.ref e), (fld, v)].reverse.lookup ar.arg) = some (.ref e) := by
    show List.lookup ar.arg [(fld, v), (ar.arg, Value.ref e)] = _
    rw [List.lookup_cons, beq_eq_false_iff_ne.mpr hsf]
    show List.lookup ar.arg [(ar.arg, Value.ref e)] = _
    rw [List.lookup_cons, beq_self_eq_true]
  have m2 : ([(ar.arg, Value.ref e), (fld, v)].reverse.lookup fld) = some v := by
    show List.lookup fld [(fld, v), (ar.arg, Value.ref e)] = _
    rw [List.lookup_cons, beq_self_eq_true]
  obtain ⟨pl, heq'⟩ := heq s.heap.objs.size
  refine ks_wpAt_execs_cons (ks_wpAt_Expr_any ?_ ?_ ?_)
  · refine super_init (s := { s with heap := h1, toks := s.toks + _ }) T (X.keeps k1) (hglob.keeps k1) hsup (hblt.keeps k1) hb hns m1 (k1 _ _ he) hks hkc hk1 hk heC heq' (by rfl) ?_ ?_
    · intro u s' P hP
      exact evalArgs_plain (spliced_cons (Constant_str (k := kk) (pos := p4) (spliced_nil (hP _ _ (by simp)))))
    · intro h2 t1 tk k2 e2
      have keep : ∀ b o, b ≠ e → s.heap.get? b = some o → h2.get? b = some o := fun b o n z => k2 b o n (k1 _ _ z)
      have X2 : K.In h2 := fun b o z => keep b o (fun y => by
        rw [y, hKe] at z
        cases z) (X b o z)
      have hL : s.heap.objs.size ≠ e := fun y => absurd (Heap.lt_size he) (by rw [y]; exact Nat.lt_irrefl _)
      have ns2 : h2.Ns s.heap.objs.size (fun x => List.lookup x [(ar.arg, Value.ref e), (fld, v)].reverse) := hns.at' fun o z => k2 _ o hL z
      obtain ⟨nm, qn, N, bs, bm, sn, sub, ab, col, dd, k0, k1', k2', k3', k5', hC, hbm⟩ := T.oex.cls
      have hcl : clsIn K C = some { name := nm, bases := bs, mro := .ref C :: bm, ns := N, qualname := qn, hasDict := true, slotNames := sn, subclasses := sub, abstract := ab, collection := col, hasDel := false } := by unfold clsIn; rw [hC] <;> rfl
      refine ks_wpAt_execs_cons (ks_wpAt_Assign_Attr ?_ (hs2 _))
      refine wpAt_of_wpAny (wpAny_Name (wpAny_loadName_local hk hk2 ns2 m2 ?_) hd2)
      refine wpAny_Name (wpAny_loadName_local hk hk1 ns2 m1 ?_) hd1
      refine set_plain X2 (ox := excX C t1 none) (od := none) ⟨e2, rfl, rfl, trivial⟩ T.oex.sa ?_
      refine exc_osa X2 e2 hcl (show refsVE (.ref C :: bm) = true from hbm) rfl hno fun h' tk' dx k dn dne hx hn => ?_
      refine wpAt_of_wpAny (wpAny_execs_nil ?_)
      refine q h' t1 dx tk' (fun b o n z => k b o n (keep b o n z)) ?_ dne hx hn
      cases z : s.heap.get? dx with
      | none => rfl
      | some o => exact absurd (Heap.lt_size (keep dx o dne z)) (Nat.not_lt.mpr dn)
  · exact hi _
  · exact hs1 _
/-- a class without fields: super().__init__() -/
theorem init_one {s : Shared} {mg mb : Str → Option Value} {p0 p1 p2 p3 p5 : Pos} {self name : Str} {params : Arguments} {dV kV doc pm ct : Value} {an : Option Addr} {args : Args} {R : Result → Shared → Prop}
    (T : ECls prog K C f cc cda ar qual scope body (ksFn name qual params body scope dV kV doc pm an (.ref cda) ct cc))
    (hb0 : body = [.Expr (.Call (.Attribute (.Call (.Name "super" p0) [] [] p1) "__init__" p2) [] [] p3) p5]) (X : K.In s.heap) (hlim : s.heap.NoLimit)
    (hglob : s.heap.Ns mainGlobals mg) (hsup : mg "super" = none) (hblt : s.heap.Ns builtinsNs mb) (hb : mb "super" = some (.type "super")) (he : s.heap.get? e = some (excX C t0 none)) (heC : e ≠ C) (har : ar.arg = self)
    (hks : scope.names.lookup ("super" : Str) = some .globalImplicit) (hkc : scope.names.lookup ("__class__" : Str) = some .free) (hk1 : scope.names.lookup self = some .local)
    (hcell : ∀ x ∈ scope.names, x.2 ≠ .cell) (hco : scope.isCoroutine = false) (hgen : scope.isGenerator = false) (hk : scope.kind = .function) (hcd : codeIn K (.ref cda) qual = true) (hroom : A.depth < recursionLimit)
    (hi : ∀ L : Addr, interactive (ksEnv qual scope L f (.ref cda) cc) = false)
    (hs1 : ∀ L : Addr, swapsWith (.Call (.Attribute (.Call (.Name "super" p0) [] [] p1) "__init__" p2) [] [] p3) none p5.line (ksEnv qual scope L f (.ref cda) cc) = pure false)
    (heq : ∀ L : Addr, ∃ pl : Sem Bool, eval (.Call (.Attribute (.Call (.Name "super" p0) [] [] p1) "__init__" p2) [] [] p3) (ksEnv qual scope L f (.ref cda) cc) = (do
      let ov ← attributeBase (.Call (.Name "super" p0) [] [] p1) "__init__" (ksEnv qual scope L f (.ref cda) cc) (eval (.Call (.Name "super" p0) [] [] p1) (ksEnv qual scope L f (.ref cda) cc))
      standAt p2.atName
      let (f', first) ← holding [ov] (getMethod ov "__init__" pl)
      callWith p3 f' first (backTo p3 (starEach [] (ksEnv qual scope L f (.ref cda) cc))) []))
    (hbind : BindsTo s (ksFn name qual params body scope dV kV doc pm an (.ref cda) ct cc) args [(self, .ref e)])
    (q : ∀ h' t1 tk, (∀ b o, b ≠ e → s.heap.get? b = some o → h'.get? b = some o) → h'.get? e = some (excX C t1 none) → R (.ok (.ret .none)) ⟨h', s.gens, s.drawn, tk, s.os⟩) :
    codeAny (model prog w) A (.call (.ref f) args) R s := by
  obtain ⟨oc, od, osl, hf⟩ := T.fn
  refine ks_codeAny_call_defAt (fd := ksFn name qual params body scope dV kV doc pm an (.ref cda) ct cc) (body := body) (binds := [(self, .ref e)]) hroom (X _ _ hf) rfl hlim (codeRec_of X hcd) rfl hbind hcell (fun x hx => ?_) (fun h1 hns k1 => ?_) hco hgen hk
  · rw [List.mem_singleton.mp hx]
    exact hk1
  subst hb0
  subst har
  have m1 : ([(ar.arg, Value.ref e)].reverse.lookup ar.arg) = some (.ref e) := by
    show List.lookup ar.arg [(ar.arg, Value.ref e)] = _
    rw [List.lookup_cons, beq_self_eq_true]
  obtain ⟨pl, heq'⟩ := heq s.heap.objs.size
  refine ks_wpAt_execs_cons (ks_wpAt_Expr_any ?_ ?_ ?_)
  · refine super_init (s := { s with heap := h1, toks := s.toks + _ }) T (X.keeps k1) (hglob.keeps k1) hsup (hblt.keeps k1) hb hns m1 (k1 _ _ he) hks hkc hk1 hk heC heq' (by rfl) ?_ ?_
    · intro u s' P hP
      exact evalArgs_empty (hP _ s'.toks (by simp))
    · intro h2 t1 tk k2 e2
      refine wpAt_of_wpAny (wpAny_execs_nil ?_)
      exact q h2 t1 tk (fun b o n z => k2 b o n (k1 _ _ z)) e2
  · exact hi _
  · exact hs1 _
end
end XI

namespace L2
open PySem PySem.Spec PyProof.Rows
section
variable {X : Cx} {pins : List (Addr × Obj)} {σ : St} {H : Hp} {s : Shared} {h' : Heap} {e dx : Addr} {o1 o2 : HO} {t' : Nat}
/-- two objects laid at once -/
theorem x_lay2 (I : Inv X pins σ H s) (k : ∀ b u, s.heap.get? b = some u → h'.get? b = some u) (he : s.heap.get? e = none) (hd : s.heap.get? dx = none) (hne : dx ≠ e)
    (n1 : ObjOk X.prog X.w (upd (upd H dx o2) e o1) h' e o1) (n2 : ObjOk X.prog X.w (upd (upd H dx o2) e o1) h' dx o2) : Inv X pins σ (upd (upd H dx o2) e o1) { s with heap := h', toks := t' } := by
  have ge := I.hok.gone he
  have gd := I.hok.gone hd
  have old : ∀ {b : Addr} {u : Obj}, s.heap.get? b = some u → b ≠ e ∧ b ≠ dx := fun {b u} q => ⟨(fun z => by rw [z, he] at q; cases q), (fun z => by rw [z, hd] at q; cases q)⟩
  have same : ∀ {b : Addr} {u : HO}, H b = some u → (upd (upd H dx o2) e o1) b = some u := fun {b u} q => by
    rw [upd_ne (ne_of_none q ge), upd_ne (ne_of_none q gd)]
    exact q
  refine I.un { keep := fun b u q _ _ _ => k b u q, slot := fun b u q _ _ _ => ⟨u.slots, k b u q⟩, free := fun b u q n _ => ?_, there := fun b u q _ => ⟨u, k b u q⟩, tups := fun b xs q => same q, frzs := fun b u v q => same q, tbls := fun b ps q => ⟨#[], by rw [same q]; simp⟩ } fun b u q => ?_
  · rw [upd_ne (old q).1, upd_ne (old q).2]
    exact n
  · by_cases hb : b = e
    · subst hb
      rw [upd_same] at q
      cases q
      exact n1
    · by_cases hb2 : b = dx
      · subst hb2
        rw [upd_ne hb, upd_same] at q
        cases q
        exact n2
      · rw [upd_ne hb, upd_ne hb2] at q
        exact (I.hok b u q).stay (fun c v _ q => k c v q) (fun c q => same q) fun c xs q => same q
end
/-- __init__ of a class of one field keeps its promise -/
def InitTwo (P : Program) (K : PySem.W.Frag) (C f : Addr) (fd : FuncData) (self fld : Str) : Prop := ∀ (w : World) (A : Around) (s : Shared) (mg mb : Str → Option Value) (e t0 : Addr) (args : Args) (v : Value) (R : Result → Shared → Prop),
  K.In s.heap → s.heap.NoLimit → s.heap.Ns mainGlobals mg → mg "super" = none → s.heap.Ns builtinsNs mb → mb "super" = some (.type "super") → s.heap.get? e = some (XI.excX C t0 none) → e ≠ C → K.lookup e = none → A.depth < recursionLimit →
  BindsTo s fd args [(self, .ref e), (fld, v)] →
  (∀ h' t1 dx tk, (∀ b o, b ≠ e → s.heap.get? b = some o → h'.get? b = some o) → s.heap.get? dx = none → dx ≠ e → h'.get? e = some (XI.excX C t1 (some dx)) → h'.Ns1 dx (fun y => if y = fld then some v else none) → R (.ok (.ret .none)) ⟨h', s.gens, s.drawn, tk, s.os⟩) →
  codeAny (model P w) A (.call (.ref f) args) R s
def InitOne (P : Program) (K : PySem.W.Frag) (C f : Addr) (fd : FuncData) (self : Str) : Prop := ∀ (w : World) (A : Around) (s : Shared) (mg mb : Str → Option Value) (e t0 : Addr) (args : Args) (R : Result → Shared → Prop),
  K.In s.heap → s.heap.NoLimit → s.heap.Ns mainGlobals mg → mg "super" = none → s.heap.Ns builtinsNs mb → mb "super" = some (.type "super") → s.heap.get? e = some (XI.excX C t0 none) → e ≠ C → K.lookup e = none → A.depth < recursionLimit →
  BindsTo s fd args [(self, .ref e)] →
  (∀ h' t1 tk, (∀ b o, b ≠ e → s.heap.get? b = some o → h'.get? b = some o) → h'.get? e = some (XI.excX C t1 none) → R (.ok (.ret .none)) ⟨h', s.gens, s.drawn, tk, s.os⟩) →
  codeAny (model P w) A (.call (.ref f) args) R s
/-- what is known of a class and its __init__ -/
structure ClsI (K : PySem.W.Frag) (C f : Addr) : Prop where
  oex : OexC K C
  iC : PySem.W.findIn K (.ref C) "__init__" = some (some (.ref f))
  tI : PySem.W.typeIn K (.ref f) = some (.type "function")
section
variable {X : Cx} {pins : List (Addr × Obj)} {σ : St} {H : Hp} {s : Shared} {C f : Addr} {fd : FuncData} {self fld : Str}
theorem run_mk2 {u : Value} {y : V} {Q : VK} (hr : Room 1 X.A) (T : ClsI X.K C f) (N : InitTwo X.prog X.K C f fd self fld) (hsup : X.mg "super" = none)
    (hb : ∀ s' e, BindsTo s' fd ⟨[.ref e, u], []⟩ [(self, .ref e), (fld, u)]) (I : Inv X pins σ H s) (ry : RelV y u)
    (q : ∀ e dx, H e = none → H dx = none → dx ≠ e → Q (.ref e) (upd (upd H dx (exd dx [(fld, y)])) e (exo e C (some dx)))) :
    wpAny (model X.prog X.w) X.A (call (.ref C) [u]) (EP X pins σ Q) X.xe s := by
  obtain ⟨nm, qn, Nn, bs, bm, sn, sub, ab, col, dd, k0, k1, k2, k3, k5, hC, hbm⟩ := T.oex.cls
  obtain ⟨hp, g, dr, tk, os⟩ := s
  have kk : ∀ b o, hp.get? b = some o → ((hp.push (PySem.W.kdv_tup [u])).push (PySem.HandSPX.excO C hp.objs.size)).get? b = some o := fun b o e => Heap.get?_push_of_some _ (Heap.get?_push_of_some _ e)
  have hget : ((hp.push (PySem.W.kdv_tup [u])).push (PySem.HandSPX.excO C hp.objs.size)).get? (hp.objs.size + 1) = some (PySem.HandSPX.excO C hp.objs.size) := by heap_get
  have hpe : hp.get? (hp.objs.size + 1) = none := by
    cases z : hp.get? (hp.objs.size + 1) with
    | none => rfl
    | some o => exact absurd (Heap.lt_size z) (Nat.not_lt.mpr (Nat.le_succ _))
  have heC : hp.objs.size + 1 ≠ C := fun z => by
    have := I.kIn _ _ hC
    rw [← z, hpe] at this
    cases this
  have hKe : X.K.lookup (hp.objs.size + 1) = none := by
    cases z : X.K.lookup (hp.objs.size + 1) with
    | none => rfl
    | some o =>
      have := I.kIn _ _ z
      rw [hpe] at this
      cases this
  obtain ⟨mb, h1, h2⟩ := I.mod.blt
  refine wpAny_call (PySem.HandSPX.call_own F.excBase_ValueError (fun Y => PySem.HandSPX.refsVE_contains Y bm hbm) (I.kIn _ _ hC) (PySem.W.looks_findIn I.kIn T.iC) (fun self => PySem.W.bind_fn I.kIn self T.tI) (by show 1 ≤ sizeLine; decide) ?_)
  refine N X.w _ _ X.mg mb (hp.objs.size + 1) hp.objs.size _ u _ (fun b o z => kk b o (I.kIn b o z)) ((I.mod.nolimit.keeps I.bk).keeps kk) ((I.mod.glob.keeps I.bk).keeps kk) hsup ((h1.keeps I.bk).keeps kk) ((h2 "super" (by decide)).trans (by decide +kernel)) hget heC hKe ?_ (hb _ _) fun h' t1 dx tk' k hd hne he hn => ?_
  · exact (hr.make C [u] []).depth
  · have kh : ∀ b o, hp.get? b = some o → h'.get? b = some o := fun b o z => k b o (fun y => by rw [y, hpe] at z; cases z) (kk b o z)
    have hd0 : hp.get? dx = none := by
      cases z : hp.get? dx with
      | none => rfl
      | some o => rw [kk _ _ z] at hd; cases hd
    refine ⟨rfl, .ref (hp.objs.size + 1), _, x_lay2 (s := ⟨hp, g, dr, tk, os⟩) (t' := tk') I kh hpe hd0 hne (exo_ok he) (exd_ok hn (relO_put (fs := []) ry fun g => True.intro)), rfl, q _ _ (I.hok.gone hpe) (I.hok.gone hd0) hne⟩
theorem run_mk1 {Q : VK} (hr : Room 1 X.A) (T : ClsI X.K C f) (N : InitOne X.prog X.K C f fd self) (hsup : X.mg "super" = none)
    (hb : ∀ s' e, BindsTo s' fd ⟨[.ref e], []⟩ [(self, .ref e)]) (I : Inv X pins σ H s) (q : ∀ e, H e = none → Q (.ref e) (upd H e (exo e C none))) :
    wpAny (model X.prog X.w) X.A (call (.ref C) []) (EP X pins σ Q) X.xe s := by
  obtain ⟨nm, qn, Nn, bs, bm, sn, sub, ab, col, dd, k0, k1, k2, k3, k5, hC, hbm⟩ := T.oex.cls
  obtain ⟨hp, g, dr, tk, os⟩ := s
  have kk : ∀ b o, hp.get? b = some o → ((hp.push (PySem.W.kdv_tup [])).push (PySem.HandSPX.excO C hp.objs.size)).get? b = some o := fun b o e => Heap.get?_push_of_some _ (Heap.get?_push_of_some _ e)
  have hget : ((hp.push (PySem.W.kdv_tup [])).push (PySem.HandSPX.excO C hp.objs.size)).get? (hp.objs.size + 1) = some (PySem.HandSPX.excO C hp.objs.size) := by heap_get
  have hpe : hp.get? (hp.objs.size + 1) = none := by
    cases z : hp.get? (hp.objs.size + 1) with
    | none => rfl
    | some o => exact absurd (Heap.lt_size z) (Nat.not_lt.mpr (Nat.le_succ _))
  have heC : hp.objs.size + 1 ≠ C := fun z => by
    have := I.kIn _ _ hC
    rw [← z, hpe] at this
    cases this
  have hKe : X.K.lookup (hp.objs.size + 1) = none := by
    cases z : X.K.lookup (hp.objs.size + 1) with
    | none => rfl
    | some o =>
      have := I.kIn _ _ z
      rw [hpe] at this
      cases this
  obtain ⟨mb, h1, h2⟩ := I.mod.blt
  refine wpAny_call (PySem.HandSPX.call_own F.excBase_ValueError (fun Y => PySem.HandSPX.refsVE_contains Y bm hbm) (I.kIn _ _ hC) (PySem.W.looks_findIn I.kIn T.iC) (fun self => PySem.W.bind_fn I.kIn self T.tI) (by show 0 ≤ sizeLine; decide) ?_)
  refine N X.w _ _ X.mg mb (hp.objs.size + 1) hp.objs.size _ _ (fun b o z => kk b o (I.kIn b o z)) ((I.mod.nolimit.keeps I.bk).keeps kk) ((I.mod.glob.keeps I.bk).keeps kk) hsup ((h1.keeps I.bk).keeps kk) ((h2 "super" (by decide)).trans (by decide +kernel)) hget heC hKe ?_ (hb _ _) fun h' t1 tk' k he => ?_
  · exact (hr.make C [] []).depth
  · have kh : ∀ b o, hp.get? b = some o → h'.get? b = some o := fun b o z => k b o (fun y => by rw [y, hpe] at z; cases z) (kk b o z)
    exact ⟨rfl, .ref (hp.objs.size + 1), _, Inv.laidN (s := ⟨hp, g, dr, tk, os⟩) (t' := tk') I kh hpe (I.hok.gone hpe) (exo_ok he), rfl, q _ (I.hok.gone hpe)⟩
end
end L2

namespace XI
open PySem PySem.W PySem.Calls PyProof.Rows PySem.HandSPX PySem.Spec
section
variable {prog : Program} {w : World} {M : Model} {A : Around} {E : Value → Shared → Prop} {R : Result → Shared → Prop} {h : Heap} {g : Array GenState} {d : Drawn} {t : Nat} {os : OsState}
variable {nm qn : Str} {C N : Addr} {bs bm : List Value} {sn : List Str} {sub : List Value} {ab : Bool} {col : Option Bool} {dd : Option Addr} {k0 k1 k2 k3 k5 : Option Value}
abbrev clsO (nm qn : Str) (C N : Addr) (bs bm : List Value) (sn : List Str) (sub : List Value) (ab : Bool) (col : Option Bool) (dd : Option Addr) (k0 k1 k2 k3 k5 : Option Value) : Obj := excClassObj nm qn C N bs bm true sn sub ab col dd k0 k1 k2 k3 k5 "ValueError.__new__"
/-- the check of ValueError.__new__(C, n=u) -/
theorem kw_check {kw : List (Str × Value)} {Q : Unit → Shared → Prop} (hT : refsVE bm = true) (hC : h.get? C = some (clsO nm qn C N bs bm sn sub ab col dd k0 k1 k2 k3 k5)) (hq : Q () ⟨h, g, d, t, os⟩) :
    wpAny M A (checkBuiltinCall "ValueError.__new__" ⟨[.ref C], kw⟩) Q E ⟨h, g, d, t, os⟩ := by
  have G := F.excBase_ValueError
  have inB : (Value.ref C :: bm).contains (.type "ValueError") = true := by
    rw [List.contains_cons, refsVE_contains "ValueError" bm hT]
    have z : veTail.contains (.type "ValueError") = true := by decide +kernel
    rw [z, Bool.or_true]
  have short := G.noStar
  simp only [checkBuiltinCall, G.newKind, G.newSplit, G.newRow]
  repeat (first
    | refine wpAny_loadPart_at hC ?_
    | (refine wpAny_isSubtype_exc hC ?_; rw [inB])
    | refine wpAny_staticBase_exc hC ?_
    | refine wpAny_madeBy_exc hC ?_
    | simp only [bne_self_eq_false, Bool.false_eq_true, if_false]
    | wp_step)
  exact hq
theorem kw_new {kw : List (Str × Value)} (hT : refsVE bm = true) (hC : h.get? C = some (clsO nm qn C N bs bm sn sub ab col dd k0 k1 k2 k3 k5))
    (hq : R (.ok (.ret (.ref (h.objs.size + 1)))) ⟨(h.push (W.kdv_tup [])).push (excO C h.objs.size), g, d, t, os⟩) : codeAny (model prog w) A (.builtin "ValueError.__new__" ⟨[.ref C], kw⟩) R ⟨h, g, d, t, os⟩ := by
  have G := F.excBase_ValueError
  have ends := G.ends
  have c1 : (Value.ref C :: bm).contains (.type "ValueError") = true := by
    rw [List.contains_cons, refsVE_contains "ValueError" bm hT]
    have z : veTail.contains (.type "ValueError") = true := by decide +kernel
    rw [z, Bool.or_true]
  have c2 : (Value.ref C :: bm).contains (.type "AttributeError") = false := by
    rw [List.contains_cons, refsVE_contains "AttributeError" bm hT]
    have z : veTail.contains (.type "AttributeError") = false := by decide +kernel
    rw [z]
    rfl
  have c3 : (Value.ref C :: bm).contains (.type "NameError") = false := by
    rw [List.contains_cons, refsVE_contains "NameError" bm hT]
    have z : veTail.contains (.type "NameError") = false := by decide +kernel
    rw [z]
    rfl
  refine codeAny_builtinAt G.entry ?_
  unfold Builtin.«BaseException.__new__»; refine _root_.PySem.wpAt_bind (show _root_.PySem.wpAt _ _ _ (stack >>= _) _ _ _ from _root_.PySem.wpAt_bind (_root_.PySem.wpAt_stack fun p below => _root_.PySem.wpAt_of_wpAny ?_))
  wp_walk
  refine _root_.PySem.wpAt_of_wpAny ?_
  rw [G.owner]
  repeat (first
    | with_reducible refine wpAny_madeHere_exc G.canon hC ?_
    | with_reducible refine wpAny_loadPart_at hC ?_
    | (with_reducible refine wpAny_isSubtype_exc hC ?_; first | rw [c1] | rw [c2] | rw [c3])
    | wp_step)
  show R _ _
  rw [Heap.size_push]
  exact hq
theorem kw_type {kw : List (Str × Value)} {fI : Addr} {Q : Fin → Shared → Prop} (hT : refsVE bm = true) (hC : h.get? C = some (clsO nm qn C N bs bm sn sub ab col dd k0 k1 k2 k3 k5))
    (lk : Looks (model prog w) h (typeLookup (.ref C) "__init__") (some (.ref fI))) (bd : ∀ self, Looks (model prog w) h (bindSpecial (.ref fI) self) (.ref fI, [self]))
    (hq : codeAny (model prog w) A (.call (.ref fI) ⟨[.ref (h.objs.size + 1)], kw⟩) (fun r s' => match r with | .ok (.ret v) => v = .none ∧ Q (.done (.ret (.ref (h.objs.size + 1)))) s' | .ok _ => False | .error e => E e s')
      ⟨(h.push (W.kdv_tup [])).push (excO C h.objs.size), g, d, t, os⟩) : wpAny (model prog w) A (Builtin.«type.__call__» ⟨[.ref C], kw⟩) Q E ⟨h, g, d, t, os⟩ := by
  have G := F.excBase_ValueError
  repeat (first
    | with_reducible refine wpAny_loadPart_at hC ?_
    | with_reducible refine wpAny_madeBy_exc hC ?_
    | wp_step)
  refine codeAny_call_builtin_code (Code.quiet_builtin _ G.quiet) (kw_check hT hC (kw_new hT hC (show wpAny _ _ _ _ _ _ from ?_)))
  have up : ∀ b o, h.get? b = some o → ((h.push (W.kdv_tup [])).push (excO C h.objs.size)).get? b = some o := fun b o z => Heap.get?_push_of_some _ (Heap.get?_push_of_some _ z)
  have c1 := up _ _ hC
  have e1 : ((h.push (W.kdv_tup [])).push (excO C h.objs.size)).get? (h.objs.size + 1) = some (excO C h.objs.size) := by
    heap_get
  have inC : (Value.ref C :: bm).contains (.ref C) = true := by
    simp
  unfold isInstance
  repeat (first
    | with_reducible refine wpAny_loadPart_at e1 ?_
    | (with_reducible refine wpAny_isSubtype_exc c1 ?_; rw [inC])
    | wp_step)
  refine (show wpAny _ _ (typeLookup (.ref C) _) _ _ _ from ?_); refine (lk.keeps up).at (wpAny_holding (wpAny_bind (((bd (.ref (h.objs.size + 1))).keeps up).at ?_)))
  refine wpAny_bind (wpAny_call (codeAny_mono hq ?_)); intro r s' z
  cases r with
  | error e => exact z
  | ok fl =>
    cases fl with
    | ret v =>
      obtain ⟨ev, z⟩ := z
      subst ev
      first
        | exact wpAny_pure (wpAny_pure z)
        | (wp_walk; exact z)
    | next => exact z.elim
    | brk => exact z.elim
    | cont => exact z.elim
/-- C(n=u): the own __init__ gets it by its name -/
theorem kw_call {kw : List (Str × Value)} {fI : Addr} (hT : refsVE bm = true) (hC : h.get? C = some (clsO nm qn C N bs bm sn sub ab col dd k0 k1 k2 k3 k5))
    (lk : Looks (model prog w) h (typeLookup (.ref C) "__init__") (some (.ref fI))) (bd : ∀ self, Looks (model prog w) h (bindSpecial (.ref fI) self) (.ref fI, [self]))
    (hq : codeAny (model prog w) (A.under (.builtin "type.__call__" ⟨[.ref C], kw⟩)) (.call (.ref fI) ⟨[.ref (h.objs.size + 1)], kw⟩) (W.InitBack (h.objs.size + 1) R)
      ⟨(h.push (W.kdv_tup [])).push (excO C h.objs.size), g, d, t, os⟩) : codeAny (model prog w) A (.call (.ref C) ⟨[], kw⟩) R ⟨h, g, d, t, os⟩ := by
  have a1 := tc_lookup
  have a2 := tc_bind (.ref C)
  have ty : (⟨h, g, d, t, os⟩ : Shared).TypeIs (.ref C) "type" := ⟨_, hC, rfl⟩
  refine codeAny_of_tree (show wpAny _ _ (callAny (.ref C) _) _ _ _ from ?_)
  repeat (any_goals (first
    | assumption
    | with_reducible refine wpAny_loadPart_at hC ?_
    | wp_step))
  refine ⟨rfl, codeAny_call_builtin_at (Code.quiet_builtin _ (by decide +kernel)) entry_typeCall (wpAny_check_type_call_sub hC (kw_type hT hC lk bd ?_))⟩
  refine codeAny_mono hq ?_; intro r s' z
  cases r with
  | error e => exact z
  | ok fl => cases fl <;> exact z
end
end XI
namespace L2
open PySem PySem.Spec PyProof.Rows
section
variable {X : Cx} {pins : List (Addr × Obj)} {σ : St} {H : Hp} {s : Shared} {C f : Addr} {fd : FuncData} {self fld : Str}
theorem run_mkK {u : Value} {y : V} {Q : VK} (hr : Room 1 X.A) (T : ClsI X.K C f) (N : InitTwo X.prog X.K C f fd self fld) (hsup : X.mg "super" = none)
    (hb : ∀ s' e, BindsTo s' fd ⟨[.ref e], [(fld, u)]⟩ [(self, .ref e), (fld, u)]) (I : Inv X pins σ H s) (ry : RelV y u)
    (q : ∀ e dx, H e = none → H dx = none → dx ≠ e → Q (.ref e) (upd (upd H dx (exd dx [(fld, y)])) e (exo e C (some dx)))) :
    wpAny (model X.prog X.w) X.A (call (.ref C) [] [(fld, u)]) (EP X pins σ Q) X.xe s := by
  obtain ⟨nm, qn, Nn, bs, bm, sn, sub, ab, col, dd, k0, k1, k2, k3, k5, hC, hbm⟩ := T.oex.cls
  obtain ⟨hp, g, dr, tk, os⟩ := s
  have kk : ∀ b o, hp.get? b = some o → ((hp.push (PySem.W.kdv_tup [])).push (PySem.HandSPX.excO C hp.objs.size)).get? b = some o := fun b o e => Heap.get?_push_of_some _ (Heap.get?_push_of_some _ e)
  have hget : ((hp.push (PySem.W.kdv_tup [])).push (PySem.HandSPX.excO C hp.objs.size)).get? (hp.objs.size + 1) = some (PySem.HandSPX.excO C hp.objs.size) := by heap_get
  have hpe : hp.get? (hp.objs.size + 1) = none := by
    cases z : hp.get? (hp.objs.size + 1) with
    | none => rfl
    | some o => exact absurd (Heap.lt_size z) (Nat.not_lt.mpr (Nat.le_succ _))
  have heC : hp.objs.size + 1 ≠ C := fun z => by
    have := I.kIn _ _ hC
    rw [← z, hpe] at this
    cases this
  have hKe : X.K.lookup (hp.objs.size + 1) = none := by
    cases z : X.K.lookup (hp.objs.size + 1) with
    | none => rfl
    | some o =>
      have := I.kIn _ _ z
      rw [hpe] at this
      cases this
  obtain ⟨mb, h1, h2⟩ := I.mod.blt
  refine wpAny_call (XI.kw_call hbm (I.kIn _ _ hC) (PySem.W.looks_findIn I.kIn T.iC) (fun self => PySem.W.bind_fn I.kIn self T.tI) ?_)
  refine N X.w _ _ X.mg mb (hp.objs.size + 1) hp.objs.size _ u _ (fun b o z => kk b o (I.kIn b o z)) ((I.mod.nolimit.keeps I.bk).keeps kk) ((I.mod.glob.keeps I.bk).keeps kk) hsup ((h1.keeps I.bk).keeps kk) ((h2 "super" (by decide)).trans (by decide +kernel)) hget heC hKe (hr.make C [] [(fld, u)]).depth (hb _ _) fun h' t1 dx tk' k hd hne he hn => ?_
  have kh : ∀ b o, hp.get? b = some o → h'.get? b = some o := fun b o z => k b o (fun y => by rw [y, hpe] at z; cases z) (kk b o z)
  have hd0 : hp.get? dx = none := by
    cases z : hp.get? dx with
    | none => rfl
    | some o => rw [kk _ _ z] at hd; cases hd
  exact ⟨rfl, .ref (hp.objs.size + 1), _, x_lay2 (s := ⟨hp, g, dr, tk, os⟩) (t' := tk') I kh hpe hd0 hne (exo_ok he) (exd_ok hn (relO_put (fs := []) ry fun g => True.intro)), rfl, q _ _ (I.hok.gone hpe) (I.hok.gone hd0) hne⟩
end
end L2

namespace XI
open PySem PySem.Spec PySem.Calls PyProof.Rows PySem.W
/-- what the class D says, so that its instances are asked rightly, with a dict or without -/
abbrev ECx (K : Frag) (D : Addr) : Prop := L2.ExcC K D
section
variable {prog : Program} {w : World} {A : Around} {E : Value → Shared → Prop} {s : Shared} {K : Frag} {x D : Addr} {ox : Obj} {od : Option Obj}
theorem cls_found (T : ECx K D) : findObj K D od "__class__" = some (.bind (.builtin "getset_descriptor.__get__") (.builtin "object.__class__")) := by
  obtain ⟨cd, hc, _⟩ := any_some T.hd
  unfold findObj
  rw [hc, Option.bind_some, T.ha, Option.bind_some]
  simp [T.hn, T.ht]
theorem cls_asked {Q : Option Value → Shared → Prop} (T : ECx K D) (X : K.In s.heap) (J : InstAt s.heap x ox D od) (q : Q (some (.ref D)) { s with toks := s.toks + 1 }) : wpAny (model prog w) A (getAttr? (.ref x) "__class__") Q E s := by
  have found := cls_found (od := od) T
  obtain ⟨hp, g, d, tk, os⟩ := s
  have M0 := J.type (M := model prog w)
  have M1 := looks_findIn (M := model prog w) X T.hg
  have M2 := looks_findIn (M := model prog w) X T.hk
  have M3 := looks_find (M := model prog w) X J found
  have isB : Looks (model prog w) hp (isInstance (.ref x) (.type "BaseException")) true := M0.andThen (looks_subIn X T.hs)
  have n2 : (Value.builtin "BaseException.__getattribute__" == Value.builtin "object.__getattribute__") = false := by
    decide +kernel
  have n1 : (onTheHeap (Value.ref D) && Value.builtin "BaseException.__getattribute__" == Value.builtin "object.__getattribute__") = false := by
    rw [n2]
    rfl
  unfold getAttr? getAttrBy?; unfold getAttrBy
  refine wpAny_bind (wpAny_mkText (wpAny_bind (wpAny_attempt (wpAny_holding (wpAny_bind (M0.at (wpAny_bind (M1.at ?_))))))))
  show wpAny _ _ (if (onTheHeap (Value.ref D) && Value.builtin "BaseException.__getattribute__" == Value.builtin "object.__getattribute__") = true then _ else _) _ _ _; rw [n1, if_neg Bool.false_ne_true]
  unfold getAttrByItsOwn; unfold hookBefore
  refine wpAny_bind ?_
  rw [if_pos (show onTheHeap (Value.ref D) = true by rfl)]
  refine M2.at (wpAny_bind (wpAny_attempt (wpAny_holding ?_)))
  unfold callGetattribute
  rw [show (false && onTheHeap (Value.builtin "BaseException.__getattribute__")) = false from rfl, if_neg Bool.false_ne_true]
  unfold boundAndCalled; rw [PySem.F.excAttr_ValueError.ga.bind (.ref x)]
  refine wpAny_bind (wpAny_pure (show wpAny _ _ (call (.builtin "BaseException.__getattribute__") [.ref x, .str "__class__" tk]) _ _ _ from ?_))
  refine wpAny_call (codeAny_call_builtin PySem.F.excAttr_ValueError.ga.plain PySem.F.entry_bexc_ga (@check_slot (model prog w) _ _ ⟨hp, g, d, tk + 1, os⟩ "BaseException.__getattribute__" "BaseException" "__getattribute__" (.ref x) [.str "__class__" tk] [] _ (by decide +kernel) (by decide +kernel) isB (PySem.F.args_bexc_ga (.ref x) (.str "__class__" tk)) ?_))
  unfold Builtin.«object.__getattribute__»; refine wpAny_bind (wpAny_of_eq (a := ((Value.ref x : Value), [Value.str "__class__" tk])) (by first | rfl | (simp only [slotArgs]; rfl)) (wpAny_bind (wpAny_pure (wpAny_bind (M0.at (wpAny_bind (M3.at ?_)))))))
  refine (show wpAny _ _ (holding [Value.builtin "object.__class__"] (call (.builtin "getset_descriptor.__get__") [.builtin "object.__class__", .ref x, .ref D]) >>= ret) _ _ _ from ?_); refine wpAny_bind (wpAny_holding (wpAny_call (class_get (s := ⟨hp, g, d, tk + 1, os⟩) (ox := ox) (od := od) X J T.hm (wpAny_pure (show wpAny _ _ (handedOut (.ref D)) _ _ _ from ?_))))); rw [handedOut_of (v := .ref D) rfl]
  first
    | exact wpAny_pure (wpAny_pure q)
    | exact wpAny_pure q
    | exact wpAny_pure (wpAny_bind (wpAny_pure (wpAny_pure q)))
theorem kit (T : ECx K D) : KitX K (.ref x) (.ref D) (fun h => ∃ ox od, InstAt h x ox D od) where
  ty := fun _ _ _ ⟨_, _, J⟩ => J.type
  it := fun _ _ X _ => by
    obtain ⟨cd, hc, _⟩ := any_some T.hd
    unfold clsIn at hc
    split at hc
    · rename_i a1 a2 a3 a4 e
      exact fun A' Q' E' s' k q => by
        unfold isType loadHead
        exact wpAny_bind (wpAny_loadPart (k _ _ (X _ _ e)) (wpAny_pure q))
    · cases hc
  ne := (handS_kitx_exc (x := x) (ox := excX D x none) T.hg T.hk T.hs T.hd T.ha T.hn T.ht T.hm).ne
  ca := fun X ⟨_, _, J⟩ k => cls_asked T X J k
end
end XI
namespace L2
open PySem PySem.Spec PyProof.Rows
section
variable {X : Cx}
theorem exo_inst {pins : List (Addr × Obj)} {σ : St} {H : Hp} {s : Shared} {a C : Addr} {d : Option Addr} (I : Inv X pins σ H s) (h : H a = some (exo a C d)) (hd : ∀ dx, d = some dx → ∃ fs, H dx = some (exd dx fs)) : ∃ ox od, PySem.W.InstAt s.heap a ox C od := by
  obtain ⟨t1, he⟩ := exo_at I.hok h
  cases d with
  | none => exact ⟨_, none, he, rfl, rfl, trivial⟩
  | some dx =>
    obtain ⟨fs, hf⟩ := hd dx rfl
    obtain ⟨mA, ⟨o, es, ep, ho, hr⟩, _⟩ := exd_at I.hok hf
    exact ⟨_, some o, he, rfl, rfl, ho⟩
/-- isinstance(e, c), e an own exception -/
theorem call_isX : CallR X (.builtin "isinstance") (fun xs H Q => ∃ (a C : Addr) (d : Option Addr) (c : V) (cv : Value) (b : Bool), xs = [.ref a, c] ∧ H a = some (exo a C d) ∧ (∀ dx, d = some dx → ∃ fs, H dx = some (exd dx fs)) ∧ ExcC X.K C ∧ (∀ u, RelV c u → u = cv) ∧
    PySem.W.kitOne X.K (.ref C) cv = some b ∧ Q (.bl b) H) := by
  intro pins s σ H xs us Q I r h
  obtain ⟨a, C, d, c, cv, b, rfl, ha, hd, T, hcv, e, q⟩ := h
  cases r with
  | cons rx rr =>
    cases rr with
    | cons rt rr =>
      cases rr
      cases rx
      have ec := hcv _ rt
      subst ec
      exact PySem.W.kia_one (XI.kit T) I.kIn (exo_inst I ha hd) e (fun z => nomatch z) fun tk => ⟨.bl b, H, I.kept (t' := tk) fun _ _ z => z, rfl, q⟩
/-- e.f, e an own exception -/
def tXat (K : PySem.W.Frag) (f : Str) (te : TE) : TE := fun σ H Q => te σ H fun x H1 => ∃ (a C dx : Addr) (fs : List (Str × V)) (y : V), x = .ref a ∧ H1 a = some (exo a C (some dx)) ∧ H1 dx = some (exd dx fs) ∧ ExcC K C ∧ PySem.W.findIn K (.ref C) f = some none ∧ fs.lookup f = some y ∧ Q y H1
theorem pe_xat {e : Expr} {te : TE} {f : Str} {pos : Pos} (he : PE X e te) (hb : attributeBase e f X.env (eval e X.env) = eval e X.env := by rfl) : PE X (.Attribute e f pos) (tXat X.K f te) := by
  refine ⟨fun pins s σ H Q I h => ?_⟩
  refine attr_of hb (thn (he.run pins s σ H _ I h) fun v s1 ⟨x, H1, I1, rx, a, C, dx, fs, y, ex, ea, ed, T, hno, hl, q⟩ => ?_)
  subst ex
  obtain rfl : v = Value.ref a := rx
  obtain ⟨t1, oa⟩ := exo_at I1.hok ea
  obtain ⟨mA, ns, rel⟩ := exd_at I1.hok ed
  obtain ⟨ob, oat, look⟩ := lookIn_ns ns
  obtain ⟨z, hz, rz⟩ := RelO.some_of (v := y) (o := mA f) (by rw [← hl]; exact rel f)
  have J : PySem.W.InstAt s1.heap a _ C (some ob) := ⟨oa, rfl, rfl, oat⟩
  exact HandSPX.exc_get I1.kIn J T.hg T.hk T.hs (PySem.W.findObj_own T.hd hno rfl (by rw [look, hz])) (handed_of rz) ⟨y, H1, I1.tok _, rz, q⟩
end
end L2

namespace L2
open PySem PySem.Spec PyProof.Rows
section
variable {X : Cx} {C f : Addr} {fd : FuncData} {self fld x : Str} {ta : TA} {e : Expr} {p pos kp : Pos} {kn : Option Str}
def tMkE2 (C : Addr) (fld : Str) (ta : TA) : TE := fun σ H Q => ta σ H fun vs H1 => ∃ y, vs = [y] ∧ ∀ a dx, H1 a = none → H1 dx = none → dx ≠ a → Q (.ref a) (upd (upd H1 dx (exd dx [(fld, y)])) a (exo a C (some dx)))
def tMkE1 (C : Addr) : TE := fun _ H Q => ∀ a, H a = none → Q (.ref a) (upd H a (exo a C none))
theorem pe_mk2 (hr : Room 1 X.A) (T : ClsI X.K C f) (N : InitTwo X.prog X.K C f fd self fld) (hsup : X.mg "super" = none) (hb : ∀ s' a u, BindsTo s' fd ⟨[.ref a, u], []⟩ [(self, .ref a), (fld, u)]) (hg : Gl X x) (hm : X.mg x = some (.ref C)) (ha : PA X [e] ta)
    (hdb : (x == ("__debug__" : Str)) = false := by decide) (hst : starEach [e] X.env = (false, eval e X.env) :: starEach [] X.env := by rfl) (hpl : (backTo pos (starEach [] X.env)).any (·.1) = false := by rfl) : PE X (.Call (.Name x p) [e] [] pos) (tMkE2 C fld ta) := by
  refine ⟨fun pins s σ H Q I h => wpAny_Call_Name_kw (ld_glob I hg hm ?_ hdb)⟩
  refine PySem.W.callWith_K (h₀ := X.base) I.ok.mod.kin T.oex.kC (thn (ha.run pos pins s σ H _ I h) fun us s1 ⟨vs, H1, I1, r1, y, ev, q⟩ => ⟨I1.kIn, ?_⟩) hst hpl
  subst ev
  cases r1 with
  | cons ry r' =>
    cases r'
    exact run_mk2 hr T N hsup (fun s' a => hb s' a _) I1 ry q
theorem pe_mk1 (hr : Room 1 X.A) (T : ClsI X.K C f) (N : InitOne X.prog X.K C f fd self) (hsup : X.mg "super" = none) (hb : ∀ s' a, BindsTo s' fd ⟨[.ref a], []⟩ [(self, .ref a)]) (hg : Gl X x) (hm : X.mg x = some (.ref C))
    (hdb : (x == ("__debug__" : Str)) = false := by decide) : PE X (.Call (.Name x p) [] [] pos) (tMkE1 C) := by
  refine ⟨fun pins s σ H Q I h => wpAny_Call_Name_kw (ld_glob I hg hm ?_ hdb)⟩
  exact PySem.W.callWith_K0 I.kIn T.oex.kC (run_mk1 hr T N hsup hb I h)
theorem pe_mkK (hr : Room 1 X.A) (T : ClsI X.K C f) (N : InitTwo X.prog X.K C f fd self fld) (hsup : X.mg "super" = none) (hb : ∀ s' a u, BindsTo s' fd ⟨[.ref a], [(fld, u)]⟩ [(self, .ref a), (fld, u)]) (hg : Gl X x) (hm : X.mg x = some (.ref C)) (ha : PK X [⟨kn, e, kp⟩] ta)
    (hall : (backToKw pos (keywordEach [⟨kn, e, kp⟩] X.env)).all (·.1.isSome) = true := by rfl) (hks : (backToKw pos (keywordEach [⟨kn, e, kp⟩] X.env)).filterMap (·.1) = [fld] := by rfl) (hdb : (x == ("__debug__" : Str)) = false := by decide)
    (hpl : ((backTo pos (starEach [] X.env)).any (·.1) || (backToKw pos (keywordEach [⟨kn, e, kp⟩] X.env)).any (·.1.isNone)) = false := by rfl) : PE X (.Call (.Name x p) [] [⟨kn, e, kp⟩] pos) (tMkE2 C fld ta) := by
  refine ⟨fun pins s σ H Q I h => wpAny_Call_Name_kw (ld_glob I hg hm ?_ hdb)⟩
  refine PySem.W.callWith_KW0 (h₀ := X.base) I.ok.mod.kin T.oex.kC hall ?_ hpl
  refine thn (ha.run pos pins s σ H _ I h) fun us s1 ⟨vs, H1, I1, r1, y, ev, q⟩ => ⟨I1.kIn, ?_⟩
  rw [hks]
  subst ev
  cases r1 with
  | cons ry r' =>
    cases r'
    exact run_mkK hr T N hsup (fun s' a => hb s' a _) I1 ry q
end
end L2

namespace K03
open PySem PySem.Spec PyProof.Rows L2 My
def topS (i : Nat) : Stmt := PySem.Challenge.pw_plainmark_k03_errors_apart.main.body.getD i (.Pass ⟨0, 0, 0, 0⟩)
abbrev s__law_kinds : Stmt := topS 9
abbrev s_law : Stmt := topS 10
theorem sc__law_kinds : FnScope ["_law_err", "_law_found"] ["_law_err"] (defScope s__law_kinds) := ⟨rfl, rfl, rfl, by decide +kernel, rfl, by decide +kernel, by decide +kernel⟩
theorem sc_law : FnScope ["_law_script", "_law_cell", "_law_number", "_law_some", "_law_byname", "_law_batch", "_law_k", "_law_err", "_law_other"] ["_law_script"] (defScope s_law) := ⟨rfl, rfl, rfl, by decide +kernel, rfl, by decide +kernel, by decide +kernel⟩
def clsBody (s : Stmt) : List Stmt := match s with
  | .ClassDef (body := b) .. => b
  | _ => []
abbrev i_NoSource : Stmt := (clsBody (topS 2)).getD 0 (.Pass ⟨0, 0, 0, 0⟩)
abbrev i_NoDefinitions : Stmt := (clsBody (topS 3)).getD 0 (.Pass ⟨0, 0, 0, 0⟩)
abbrev i_NoLabel : Stmt := (clsBody (topS 4)).getD 0 (.Pass ⟨0, 0, 0, 0⟩)
abbrev i_NoTree : Stmt := (clsBody (topS 5)).getD 0 (.Pass ⟨0, 0, 0, 0⟩)
abbrev i_NoText : Stmt := (clsBody (topS 6)).getD 0 (.Pass ⟨0, 0, 0, 0⟩)
abbrev i_NoEdit : Stmt := (clsBody (topS 7)).getD 0 (.Pass ⟨0, 0, 0, 0⟩)
theorem cls_NoSource {P : Program} {K : PySem.W.Frag} {C f cc cda : Addr} {nm qn : Str} {Nn : Addr} {bs bm : List Value} {sn : List Str} {sub : List Value} {ab : Bool} {col : Option Bool} {dd : Option Addr} {k0 k1 k2 k3 k5 : Option Value} {kV doc pm ct oc ccl cl : Value} {an od cdd cld : Option Addr} {osl ccs csl : Array (Option Value)} {vs : Array Value} {file : Str} {tf : Tok}
    (h1 : K.lookup C = some (excClassObj nm qn C Nn bs bm true sn sub ab col dd k0 k1 k2 k3 k5 "ValueError.__new__")) (h2 : PySem.HandSPX.refsVE bm = true) (h3 : PySem.W.findIn K (.ref C) "__setattr__" = some (some (.builtin "object.__setattr__")))
    (h4 : PySem.W.subIn K (.ref C) (.type "BaseException") = some true) (h5 : PySem.W.typeIn K (.ref C) = some (.type "type")) (h6 : PySem.W.keepIn K (.ref C) = true) (h7 : PySem.W.findIn K (.ref C) "__init__" = some (some (.ref f))) (h8 : PySem.W.typeIn K (.ref f) = some (.type "function"))
    (h9 : K.lookup f = some ⟨oc, od, .func (PySem.W.ksFn "__init__" "NoSource.__init__" (defArgs i_NoSource) (defBody i_NoSource) (defScope i_NoSource) .none kV doc pm an (.ref cda) ct cc), osl⟩) (h10 : PySem.W.codeIn K (.ref cda) "NoSource.__init__" = true) (h11 : K.lookup cda = some ⟨ccl, cdd, .fields vs, ccs⟩) (h12 : vs[2]? = some (.str file tf)) (h13 : ((P.main.file : Str) == file) = true)
    (h14 : K.lookup cc = some ⟨cl, cld, .cell (some (.ref C)), csl⟩) (h15 : PySem.W.mroIn K C (.ref C) = some true) (h16 : PySem.W.nsIn K cStatics "thirdparty.any" = some none) (h17 : PySem.W.ks_superIn K C C "__init__" = some (some (.builtin "ValueError.__init__")))
    (h18 : PySem.W.subIn K (.ref C) (.type "ValueError") = some true) (h19 : (P.main.scope.names.lookup ("super" : Str)).isSome = false) (h20 : PySem.W.findIn K (.ref C) "place" = some none)
    : ClsI K C f ∧ InitTwo P K C f (PySem.W.ksFn "__init__" "NoSource.__init__" (defArgs i_NoSource) (defBody i_NoSource) (defScope i_NoSource) .none kV doc pm an (.ref cda) ct cc) "self" "place" := by
  have X : OexC K C := ⟨⟨_, _, _, _, _, _, _, _, _, _, _, _, _, _, _, h1, h2⟩, h3, h4, h5, h6⟩
  refine ⟨⟨X, h7, h8⟩, fun w A s mg mb e t0 args v R a1 a2 a3 a4 a5 a6 a7 a8 a9 a10 a11 q => ?_⟩
  have E : XI.ECls P K C f cc cda _ "NoSource.__init__" (defScope i_NoSource) (defBody i_NoSource) (PySem.W.ksFn "__init__" "NoSource.__init__" (defArgs i_NoSource) (defBody i_NoSource) (defScope i_NoSource) .none kV doc pm an (.ref cda) ct cc) := ⟨X, ⟨_, _, _, h9⟩, rfl, ⟨_, _, _, _, _, _, h11, h12, h13⟩, ⟨_, _, _, h14⟩, h15, h19, h16, h17, h18⟩
  exact XI.init_two E rfl a1 a2 a3 a4 a5 a6 a7 a8 rfl (by decide) (by decide) (by decide) rfl rfl rfl rfl (by decide) rfl rfl rfl h10 a10 h20 a9 (fun _ => rfl) (fun _ => rfl) (fun _ => rfl) (fun _ => ⟨_, rfl⟩) a11 q
theorem cls_NoDefinitions {P : Program} {K : PySem.W.Frag} {C f cc cda : Addr} {nm qn : Str} {Nn : Addr} {bs bm : List Value} {sn : List Str} {sub : List Value} {ab : Bool} {col : Option Bool} {dd : Option Addr} {k0 k1 k2 k3 k5 : Option Value} {kV doc pm ct oc ccl cl : Value} {an od cdd cld : Option Addr} {osl ccs csl : Array (Option Value)} {vs : Array Value} {file : Str} {tf : Tok}
    (h1 : K.lookup C = some (excClassObj nm qn C Nn bs bm true sn sub ab col dd k0 k1 k2 k3 k5 "ValueError.__new__")) (h2 : PySem.HandSPX.refsVE bm = true) (h3 : PySem.W.findIn K (.ref C) "__setattr__" = some (some (.builtin "object.__setattr__")))
    (h4 : PySem.W.subIn K (.ref C) (.type "BaseException") = some true) (h5 : PySem.W.typeIn K (.ref C) = some (.type "type")) (h6 : PySem.W.keepIn K (.ref C) = true) (h7 : PySem.W.findIn K (.ref C) "__init__" = some (some (.ref f))) (h8 : PySem.W.typeIn K (.ref f) = some (.type "function"))
    (h9 : K.lookup f = some ⟨oc, od, .func (PySem.W.ksFn "__init__" "NoDefinitions.__init__" (defArgs i_NoDefinitions) (defBody i_NoDefinitions) (defScope i_NoDefinitions) .none kV doc pm an (.ref cda) ct cc), osl⟩) (h10 : PySem.W.codeIn K (.ref cda) "NoDefinitions.__init__" = true) (h11 : K.lookup cda = some ⟨ccl, cdd, .fields vs, ccs⟩) (h12 : vs[2]? = some (.str file tf)) (h13 : ((P.main.file : Str) == file) = true)
    (h14 : K.lookup cc = some ⟨cl, cld, .cell (some (.ref C)), csl⟩) (h15 : PySem.W.mroIn K C (.ref C) = some true) (h16 : PySem.W.nsIn K cStatics "thirdparty.any" = some none) (h17 : PySem.W.ks_superIn K C C "__init__" = some (some (.builtin "ValueError.__init__")))
    (h18 : PySem.W.subIn K (.ref C) (.type "ValueError") = some true) (h19 : (P.main.scope.names.lookup ("super" : Str)).isSome = false)
    : ClsI K C f ∧ InitOne P K C f (PySem.W.ksFn "__init__" "NoDefinitions.__init__" (defArgs i_NoDefinitions) (defBody i_NoDefinitions) (defScope i_NoDefinitions) .none kV doc pm an (.ref cda) ct cc) "self" := by
  have X : OexC K C := ⟨⟨_, _, _, _, _, _, _, _, _, _, _, _, _, _, _, h1, h2⟩, h3, h4, h5, h6⟩
  refine ⟨⟨X, h7, h8⟩, fun w A s mg mb e t0 args R a1 a2 a3 a4 a5 a6 a7 a8 a9 a10 a11 q => ?_⟩
  have E : XI.ECls P K C f cc cda _ "NoDefinitions.__init__" (defScope i_NoDefinitions) (defBody i_NoDefinitions) (PySem.W.ksFn "__init__" "NoDefinitions.__init__" (defArgs i_NoDefinitions) (defBody i_NoDefinitions) (defScope i_NoDefinitions) .none kV doc pm an (.ref cda) ct cc) := ⟨X, ⟨_, _, _, h9⟩, rfl, ⟨_, _, _, _, _, _, h11, h12, h13⟩, ⟨_, _, _, h14⟩, h15, h19, h16, h17, h18⟩
  exact XI.init_one E rfl a1 a2 a3 a4 a5 a6 a7 a8 rfl rfl rfl rfl (by decide) rfl rfl rfl h10 a10 (fun _ => rfl) (fun _ => rfl) (fun _ => ⟨_, rfl⟩) a11 q
theorem cls_NoLabel {P : Program} {K : PySem.W.Frag} {C f cc cda : Addr} {nm qn : Str} {Nn : Addr} {bs bm : List Value} {sn : List Str} {sub : List Value} {ab : Bool} {col : Option Bool} {dd : Option Addr} {k0 k1 k2 k3 k5 : Option Value} {kV doc pm ct oc ccl cl : Value} {an od cdd cld : Option Addr} {osl ccs csl : Array (Option Value)} {vs : Array Value} {file : Str} {tf : Tok}
    (h1 : K.lookup C = some (excClassObj nm qn C Nn bs bm true sn sub ab col dd k0 k1 k2 k3 k5 "ValueError.__new__")) (h2 : PySem.HandSPX.refsVE bm = true) (h3 : PySem.W.findIn K (.ref C) "__setattr__" = some (some (.builtin "object.__setattr__")))
    (h4 : PySem.W.subIn K (.ref C) (.type "BaseException") = some true) (h5 : PySem.W.typeIn K (.ref C) = some (.type "type")) (h6 : PySem.W.keepIn K (.ref C) = true) (h7 : PySem.W.findIn K (.ref C) "__init__" = some (some (.ref f))) (h8 : PySem.W.typeIn K (.ref f) = some (.type "function"))
    (h9 : K.lookup f = some ⟨oc, od, .func (PySem.W.ksFn "__init__" "NoLabel.__init__" (defArgs i_NoLabel) (defBody i_NoLabel) (defScope i_NoLabel) .none kV doc pm an (.ref cda) ct cc), osl⟩) (h10 : PySem.W.codeIn K (.ref cda) "NoLabel.__init__" = true) (h11 : K.lookup cda = some ⟨ccl, cdd, .fields vs, ccs⟩) (h12 : vs[2]? = some (.str file tf)) (h13 : ((P.main.file : Str) == file) = true)
    (h14 : K.lookup cc = some ⟨cl, cld, .cell (some (.ref C)), csl⟩) (h15 : PySem.W.mroIn K C (.ref C) = some true) (h16 : PySem.W.nsIn K cStatics "thirdparty.any" = some none) (h17 : PySem.W.ks_superIn K C C "__init__" = some (some (.builtin "ValueError.__init__")))
    (h18 : PySem.W.subIn K (.ref C) (.type "ValueError") = some true) (h19 : (P.main.scope.names.lookup ("super" : Str)).isSome = false)
    : ClsI K C f ∧ InitOne P K C f (PySem.W.ksFn "__init__" "NoLabel.__init__" (defArgs i_NoLabel) (defBody i_NoLabel) (defScope i_NoLabel) .none kV doc pm an (.ref cda) ct cc) "self" := by
  have X : OexC K C := ⟨⟨_, _, _, _, _, _, _, _, _, _, _, _, _, _, _, h1, h2⟩, h3, h4, h5, h6⟩
  refine ⟨⟨X, h7, h8⟩, fun w A s mg mb e t0 args R a1 a2 a3 a4 a5 a6 a7 a8 a9 a10 a11 q => ?_⟩
  have E : XI.ECls P K C f cc cda _ "NoLabel.__init__" (defScope i_NoLabel) (defBody i_NoLabel) (PySem.W.ksFn "__init__" "NoLabel.__init__" (defArgs i_NoLabel) (defBody i_NoLabel) (defScope i_NoLabel) .none kV doc pm an (.ref cda) ct cc) := ⟨X, ⟨_, _, _, h9⟩, rfl, ⟨_, _, _, _, _, _, h11, h12, h13⟩, ⟨_, _, _, h14⟩, h15, h19, h16, h17, h18⟩
  exact XI.init_one E rfl a1 a2 a3 a4 a5 a6 a7 a8 rfl rfl rfl rfl (by decide) rfl rfl rfl h10 a10 (fun _ => rfl) (fun _ => rfl) (fun _ => ⟨_, rfl⟩) a11 q
theorem cls_NoTree {P : Program} {K : PySem.W.Frag} {C f cc cda : Addr} {nm qn : Str} {Nn : Addr} {bs bm : List Value} {sn : List Str} {sub : List Value} {ab : Bool} {col : Option Bool} {dd : Option Addr} {k0 k1 k2 k3 k5 : Option Value} {kV doc pm ct oc ccl cl : Value} {an od cdd cld : Option Addr} {osl ccs csl : Array (Option Value)} {vs : Array Value} {file : Str} {tf : Tok}
    (h1 : K.lookup C = some (excClassObj nm qn C Nn bs bm true sn sub ab col dd k0 k1 k2 k3 k5 "ValueError.__new__")) (h2 : PySem.HandSPX.refsVE bm = true) (h3 : PySem.W.findIn K (.ref C) "__setattr__" = some (some (.builtin "object.__setattr__")))
    (h4 : PySem.W.subIn K (.ref C) (.type "BaseException") = some true) (h5 : PySem.W.typeIn K (.ref C) = some (.type "type")) (h6 : PySem.W.keepIn K (.ref C) = true) (h7 : PySem.W.findIn K (.ref C) "__init__" = some (some (.ref f))) (h8 : PySem.W.typeIn K (.ref f) = some (.type "function"))
    (h9 : K.lookup f = some ⟨oc, od, .func (PySem.W.ksFn "__init__" "NoTree.__init__" (defArgs i_NoTree) (defBody i_NoTree) (defScope i_NoTree) .none kV doc pm an (.ref cda) ct cc), osl⟩) (h10 : PySem.W.codeIn K (.ref cda) "NoTree.__init__" = true) (h11 : K.lookup cda = some ⟨ccl, cdd, .fields vs, ccs⟩) (h12 : vs[2]? = some (.str file tf)) (h13 : ((P.main.file : Str) == file) = true)
    (h14 : K.lookup cc = some ⟨cl, cld, .cell (some (.ref C)), csl⟩) (h15 : PySem.W.mroIn K C (.ref C) = some true) (h16 : PySem.W.nsIn K cStatics "thirdparty.any" = some none) (h17 : PySem.W.ks_superIn K C C "__init__" = some (some (.builtin "ValueError.__init__")))
    (h18 : PySem.W.subIn K (.ref C) (.type "ValueError") = some true) (h19 : (P.main.scope.names.lookup ("super" : Str)).isSome = false)
    : ClsI K C f ∧ InitOne P K C f (PySem.W.ksFn "__init__" "NoTree.__init__" (defArgs i_NoTree) (defBody i_NoTree) (defScope i_NoTree) .none kV doc pm an (.ref cda) ct cc) "self" := by
  have X : OexC K C := ⟨⟨_, _, _, _, _, _, _, _, _, _, _, _, _, _, _, h1, h2⟩, h3, h4, h5, h6⟩
  refine ⟨⟨X, h7, h8⟩, fun w A s mg mb e t0 args R a1 a2 a3 a4 a5 a6 a7 a8 a9 a10 a11 q => ?_⟩
  have E : XI.ECls P K C f cc cda _ "NoTree.__init__" (defScope i_NoTree) (defBody i_NoTree) (PySem.W.ksFn "__init__" "NoTree.__init__" (defArgs i_NoTree) (defBody i_NoTree) (defScope i_NoTree) .none kV doc pm an (.ref cda) ct cc) := ⟨X, ⟨_, _, _, h9⟩, rfl, ⟨_, _, _, _, _, _, h11, h12, h13⟩, ⟨_, _, _, h14⟩, h15, h19, h16, h17, h18⟩
  exact XI.init_one E rfl a1 a2 a3 a4 a5 a6 a7 a8 rfl rfl rfl rfl (by decide) rfl rfl rfl h10 a10 (fun _ => rfl) (fun _ => rfl) (fun _ => ⟨_, rfl⟩) a11 q
theorem cls_NoText {P : Program} {K : PySem.W.Frag} {C f cc cda : Addr} {nm qn : Str} {Nn : Addr} {bs bm : List Value} {sn : List Str} {sub : List Value} {ab : Bool} {col : Option Bool} {dd : Option Addr} {k0 k1 k2 k3 k5 : Option Value} {kV doc pm ct oc ccl cl : Value} {an od cdd cld : Option Addr} {osl ccs csl : Array (Option Value)} {vs : Array Value} {file : Str} {tf : Tok}
    (h1 : K.lookup C = some (excClassObj nm qn C Nn bs bm true sn sub ab col dd k0 k1 k2 k3 k5 "ValueError.__new__")) (h2 : PySem.HandSPX.refsVE bm = true) (h3 : PySem.W.findIn K (.ref C) "__setattr__" = some (some (.builtin "object.__setattr__")))
    (h4 : PySem.W.subIn K (.ref C) (.type "BaseException") = some true) (h5 : PySem.W.typeIn K (.ref C) = some (.type "type")) (h6 : PySem.W.keepIn K (.ref C) = true) (h7 : PySem.W.findIn K (.ref C) "__init__" = some (some (.ref f))) (h8 : PySem.W.typeIn K (.ref f) = some (.type "function"))
    (h9 : K.lookup f = some ⟨oc, od, .func (PySem.W.ksFn "__init__" "NoText.__init__" (defArgs i_NoText) (defBody i_NoText) (defScope i_NoText) .none kV doc pm an (.ref cda) ct cc), osl⟩) (h10 : PySem.W.codeIn K (.ref cda) "NoText.__init__" = true) (h11 : K.lookup cda = some ⟨ccl, cdd, .fields vs, ccs⟩) (h12 : vs[2]? = some (.str file tf)) (h13 : ((P.main.file : Str) == file) = true)
    (h14 : K.lookup cc = some ⟨cl, cld, .cell (some (.ref C)), csl⟩) (h15 : PySem.W.mroIn K C (.ref C) = some true) (h16 : PySem.W.nsIn K cStatics "thirdparty.any" = some none) (h17 : PySem.W.ks_superIn K C C "__init__" = some (some (.builtin "ValueError.__init__")))
    (h18 : PySem.W.subIn K (.ref C) (.type "ValueError") = some true) (h19 : (P.main.scope.names.lookup ("super" : Str)).isSome = false)
    : ClsI K C f ∧ InitOne P K C f (PySem.W.ksFn "__init__" "NoText.__init__" (defArgs i_NoText) (defBody i_NoText) (defScope i_NoText) .none kV doc pm an (.ref cda) ct cc) "self" := by
  have X : OexC K C := ⟨⟨_, _, _, _, _, _, _, _, _, _, _, _, _, _, _, h1, h2⟩, h3, h4, h5, h6⟩
  refine ⟨⟨X, h7, h8⟩, fun w A s mg mb e t0 args R a1 a2 a3 a4 a5 a6 a7 a8 a9 a10 a11 q => ?_⟩
  have E : XI.ECls P K C f cc cda _ "NoText.__init__" (defScope i_NoText) (defBody i_NoText) (PySem.W.ksFn "__init__" "NoText.__init__" (defArgs i_NoText) (defBody i_NoText) (defScope i_NoText) .none kV doc pm an (.ref cda) ct cc) := ⟨X, ⟨_, _, _, h9⟩, rfl, ⟨_, _, _, _, _, _, h11, h12, h13⟩, ⟨_, _, _, h14⟩, h15, h19, h16, h17, h18⟩
  exact XI.init_one E rfl a1 a2 a3 a4 a5 a6 a7 a8 rfl rfl rfl rfl (by decide) rfl rfl rfl h10 a10 (fun _ => rfl) (fun _ => rfl) (fun _ => ⟨_, rfl⟩) a11 q
theorem cls_NoEdit {P : Program} {K : PySem.W.Frag} {C f cc cda : Addr} {nm qn : Str} {Nn : Addr} {bs bm : List Value} {sn : List Str} {sub : List Value} {ab : Bool} {col : Option Bool} {dd : Option Addr} {k0 k1 k2 k3 k5 : Option Value} {kV doc pm ct oc ccl cl : Value} {an od cdd cld : Option Addr} {osl ccs csl : Array (Option Value)} {vs : Array Value} {file : Str} {tf : Tok}
    (h1 : K.lookup C = some (excClassObj nm qn C Nn bs bm true sn sub ab col dd k0 k1 k2 k3 k5 "ValueError.__new__")) (h2 : PySem.HandSPX.refsVE bm = true) (h3 : PySem.W.findIn K (.ref C) "__setattr__" = some (some (.builtin "object.__setattr__")))
    (h4 : PySem.W.subIn K (.ref C) (.type "BaseException") = some true) (h5 : PySem.W.typeIn K (.ref C) = some (.type "type")) (h6 : PySem.W.keepIn K (.ref C) = true) (h7 : PySem.W.findIn K (.ref C) "__init__" = some (some (.ref f))) (h8 : PySem.W.typeIn K (.ref f) = some (.type "function"))
    (h9 : K.lookup f = some ⟨oc, od, .func (PySem.W.ksFn "__init__" "NoEdit.__init__" (defArgs i_NoEdit) (defBody i_NoEdit) (defScope i_NoEdit) .none kV doc pm an (.ref cda) ct cc), osl⟩) (h10 : PySem.W.codeIn K (.ref cda) "NoEdit.__init__" = true) (h11 : K.lookup cda = some ⟨ccl, cdd, .fields vs, ccs⟩) (h12 : vs[2]? = some (.str file tf)) (h13 : ((P.main.file : Str) == file) = true)
    (h14 : K.lookup cc = some ⟨cl, cld, .cell (some (.ref C)), csl⟩) (h15 : PySem.W.mroIn K C (.ref C) = some true) (h16 : PySem.W.nsIn K cStatics "thirdparty.any" = some none) (h17 : PySem.W.ks_superIn K C C "__init__" = some (some (.builtin "ValueError.__init__")))
    (h18 : PySem.W.subIn K (.ref C) (.type "ValueError") = some true) (h19 : (P.main.scope.names.lookup ("super" : Str)).isSome = false) (h20 : PySem.W.findIn K (.ref C) "index" = some none)
    : ClsI K C f ∧ InitTwo P K C f (PySem.W.ksFn "__init__" "NoEdit.__init__" (defArgs i_NoEdit) (defBody i_NoEdit) (defScope i_NoEdit) .none kV doc pm an (.ref cda) ct cc) "self" "index" := by
  have X : OexC K C := ⟨⟨_, _, _, _, _, _, _, _, _, _, _, _, _, _, _, h1, h2⟩, h3, h4, h5, h6⟩
  refine ⟨⟨X, h7, h8⟩, fun w A s mg mb e t0 args v R a1 a2 a3 a4 a5 a6 a7 a8 a9 a10 a11 q => ?_⟩
  have E : XI.ECls P K C f cc cda _ "NoEdit.__init__" (defScope i_NoEdit) (defBody i_NoEdit) (PySem.W.ksFn "__init__" "NoEdit.__init__" (defArgs i_NoEdit) (defBody i_NoEdit) (defScope i_NoEdit) .none kV doc pm an (.ref cda) ct cc) := ⟨X, ⟨_, _, _, h9⟩, rfl, ⟨_, _, _, _, _, _, h11, h12, h13⟩, ⟨_, _, _, h14⟩, h15, h19, h16, h17, h18⟩
  exact XI.init_two E rfl a1 a2 a3 a4 a5 a6 a7 a8 rfl (by decide) (by decide) (by decide) rfl rfl rfl rfl (by decide) rfl rfl rfl h10 a10 h20 a9 (fun _ => rfl) (fun _ => rfl) (fun _ => rfl) (fun _ => ⟨_, rfl⟩) a11 q

structure Zt (P : Program) (K : PySem.W.Frag) (mg : Str → Option Value) where
  z_super : mg "super" = none
  z_ValueError : mg "ValueError" = none
  z_isinstance : mg "isinstance" = none
  z_enumerate : mg "enumerate" = none
  z_range : mg "range" = none
  z_int : mg "int" = none
  a_PlainmarkError : Addr
  g_PlainmarkError : mg "PlainmarkError" = some (.ref a_PlainmarkError)
  a_NoSource : Addr
  f_NoSource : Addr
  d_NoSource : FuncData
  g_NoSource : mg "NoSource" = some (.ref a_NoSource)
  t_NoSource : ClsI K a_NoSource f_NoSource ∧ InitTwo P K a_NoSource f_NoSource d_NoSource "self" "place"
  x_NoSource : ExcC K a_NoSource
  b_NoSource : ∀ s a u, BindsTo s d_NoSource ⟨[.ref a, u], []⟩ [("self", .ref a), ("place", u)]
  e_NoSource : ∀ s a u, BindsTo s d_NoSource ⟨[.ref a], [("place", u)]⟩ [("self", .ref a), ("place", u)]
  n_NoSource : PySem.W.findIn K (.ref a_NoSource) "place" = some none
  kp_NoSource : PySem.W.kitOne K (.ref a_NoSource) (.ref a_PlainmarkError) = some true
  kv_NoSource : PySem.W.kitOne K (.ref a_NoSource) (.type "ValueError") = some true
  a_NoDefinitions : Addr
  f_NoDefinitions : Addr
  d_NoDefinitions : FuncData
  g_NoDefinitions : mg "NoDefinitions" = some (.ref a_NoDefinitions)
  t_NoDefinitions : ClsI K a_NoDefinitions f_NoDefinitions ∧ InitOne P K a_NoDefinitions f_NoDefinitions d_NoDefinitions "self"
  x_NoDefinitions : ExcC K a_NoDefinitions
  b_NoDefinitions : ∀ s a, BindsTo s d_NoDefinitions ⟨[.ref a], []⟩ [("self", .ref a)]
  kp_NoDefinitions : PySem.W.kitOne K (.ref a_NoDefinitions) (.ref a_PlainmarkError) = some true
  kv_NoDefinitions : PySem.W.kitOne K (.ref a_NoDefinitions) (.type "ValueError") = some true
  a_NoLabel : Addr
  f_NoLabel : Addr
  d_NoLabel : FuncData
  g_NoLabel : mg "NoLabel" = some (.ref a_NoLabel)
  t_NoLabel : ClsI K a_NoLabel f_NoLabel ∧ InitOne P K a_NoLabel f_NoLabel d_NoLabel "self"
  x_NoLabel : ExcC K a_NoLabel
  b_NoLabel : ∀ s a, BindsTo s d_NoLabel ⟨[.ref a], []⟩ [("self", .ref a)]
  kp_NoLabel : PySem.W.kitOne K (.ref a_NoLabel) (.ref a_PlainmarkError) = some true
  kv_NoLabel : PySem.W.kitOne K (.ref a_NoLabel) (.type "ValueError") = some true
  a_NoTree : Addr
  f_NoTree : Addr
  d_NoTree : FuncData
  g_NoTree : mg "NoTree" = some (.ref a_NoTree)
  t_NoTree : ClsI K a_NoTree f_NoTree ∧ InitOne P K a_NoTree f_NoTree d_NoTree "self"
  x_NoTree : ExcC K a_NoTree
  b_NoTree : ∀ s a, BindsTo s d_NoTree ⟨[.ref a], []⟩ [("self", .ref a)]
  kp_NoTree : PySem.W.kitOne K (.ref a_NoTree) (.ref a_PlainmarkError) = some true
  kv_NoTree : PySem.W.kitOne K (.ref a_NoTree) (.type "ValueError") = some true
  a_NoText : Addr
  f_NoText : Addr
  d_NoText : FuncData
  g_NoText : mg "NoText" = some (.ref a_NoText)
  t_NoText : ClsI K a_NoText f_NoText ∧ InitOne P K a_NoText f_NoText d_NoText "self"
  x_NoText : ExcC K a_NoText
  b_NoText : ∀ s a, BindsTo s d_NoText ⟨[.ref a], []⟩ [("self", .ref a)]
  kp_NoText : PySem.W.kitOne K (.ref a_NoText) (.ref a_PlainmarkError) = some true
  kv_NoText : PySem.W.kitOne K (.ref a_NoText) (.type "ValueError") = some true
  a_NoEdit : Addr
  f_NoEdit : Addr
  d_NoEdit : FuncData
  g_NoEdit : mg "NoEdit" = some (.ref a_NoEdit)
  t_NoEdit : ClsI K a_NoEdit f_NoEdit ∧ InitTwo P K a_NoEdit f_NoEdit d_NoEdit "self" "index"
  x_NoEdit : ExcC K a_NoEdit
  b_NoEdit : ∀ s a u, BindsTo s d_NoEdit ⟨[.ref a, u], []⟩ [("self", .ref a), ("index", u)]
  e_NoEdit : ∀ s a u, BindsTo s d_NoEdit ⟨[.ref a], [("index", u)]⟩ [("self", .ref a), ("index", u)]
  n_NoEdit : PySem.W.findIn K (.ref a_NoEdit) "index" = some none
  kp_NoEdit : PySem.W.kitOne K (.ref a_NoEdit) (.ref a_PlainmarkError) = some true
  kv_NoEdit : PySem.W.kitOne K (.ref a_NoEdit) (.type "ValueError") = some true
  k_NoSource_NoSource : PySem.W.kitOne K (.ref a_NoSource) (.ref a_NoSource) = some true
  k_NoSource_NoDefinitions : PySem.W.kitOne K (.ref a_NoSource) (.ref a_NoDefinitions) = some false
  k_NoSource_NoLabel : PySem.W.kitOne K (.ref a_NoSource) (.ref a_NoLabel) = some false
  k_NoSource_NoTree : PySem.W.kitOne K (.ref a_NoSource) (.ref a_NoTree) = some false
  k_NoSource_NoText : PySem.W.kitOne K (.ref a_NoSource) (.ref a_NoText) = some false
  k_NoSource_NoEdit : PySem.W.kitOne K (.ref a_NoSource) (.ref a_NoEdit) = some false
  k_NoDefinitions_NoSource : PySem.W.kitOne K (.ref a_NoDefinitions) (.ref a_NoSource) = some false
  k_NoDefinitions_NoDefinitions : PySem.W.kitOne K (.ref a_NoDefinitions) (.ref a_NoDefinitions) = some true
  k_NoDefinitions_NoLabel : PySem.W.kitOne K (.ref a_NoDefinitions) (.ref a_NoLabel) = some false
  k_NoDefinitions_NoTree : PySem.W.kitOne K (.ref a_NoDefinitions) (.ref a_NoTree) = some false
  k_NoDefinitions_NoText : PySem.W.kitOne K (.ref a_NoDefinitions) (.ref a_NoText) = some false
  k_NoDefinitions_NoEdit : PySem.W.kitOne K (.ref a_NoDefinitions) (.ref a_NoEdit) = some false
  k_NoLabel_NoSource : PySem.W.kitOne K (.ref a_NoLabel) (.ref a_NoSource) = some false
  k_NoLabel_NoDefinitions : PySem.W.kitOne K (.ref a_NoLabel) (.ref a_NoDefinitions) = some false
  k_NoLabel_NoLabel : PySem.W.kitOne K (.ref a_NoLabel) (.ref a_NoLabel) = some true
  k_NoLabel_NoTree : PySem.W.kitOne K (.ref a_NoLabel) (.ref a_NoTree) = some false
  k_NoLabel_NoText : PySem.W.kitOne K (.ref a_NoLabel) (.ref a_NoText) = some false
  k_NoLabel_NoEdit : PySem.W.kitOne K (.ref a_NoLabel) (.ref a_NoEdit) = some false
  k_NoTree_NoSource : PySem.W.kitOne K (.ref a_NoTree) (.ref a_NoSource) = some false
  k_NoTree_NoDefinitions : PySem.W.kitOne K (.ref a_NoTree) (.ref a_NoDefinitions) = some false
  k_NoTree_NoLabel : PySem.W.kitOne K (.ref a_NoTree) (.ref a_NoLabel) = some false
  k_NoTree_NoTree : PySem.W.kitOne K (.ref a_NoTree) (.ref a_NoTree) = some true
  k_NoTree_NoText : PySem.W.kitOne K (.ref a_NoTree) (.ref a_NoText) = some false
  k_NoTree_NoEdit : PySem.W.kitOne K (.ref a_NoTree) (.ref a_NoEdit) = some false
  k_NoText_NoSource : PySem.W.kitOne K (.ref a_NoText) (.ref a_NoSource) = some false
  k_NoText_NoDefinitions : PySem.W.kitOne K (.ref a_NoText) (.ref a_NoDefinitions) = some false
  k_NoText_NoLabel : PySem.W.kitOne K (.ref a_NoText) (.ref a_NoLabel) = some false
  k_NoText_NoTree : PySem.W.kitOne K (.ref a_NoText) (.ref a_NoTree) = some false
  k_NoText_NoText : PySem.W.kitOne K (.ref a_NoText) (.ref a_NoText) = some true
  k_NoText_NoEdit : PySem.W.kitOne K (.ref a_NoText) (.ref a_NoEdit) = some false
  k_NoEdit_NoSource : PySem.W.kitOne K (.ref a_NoEdit) (.ref a_NoSource) = some false
  k_NoEdit_NoDefinitions : PySem.W.kitOne K (.ref a_NoEdit) (.ref a_NoDefinitions) = some false
  k_NoEdit_NoLabel : PySem.W.kitOne K (.ref a_NoEdit) (.ref a_NoLabel) = some false
  k_NoEdit_NoTree : PySem.W.kitOne K (.ref a_NoEdit) (.ref a_NoTree) = some false
  k_NoEdit_NoText : PySem.W.kitOne K (.ref a_NoEdit) (.ref a_NoText) = some false
  k_NoEdit_NoEdit : PySem.W.kitOne K (.ref a_NoEdit) (.ref a_NoEdit) = some true
  a__law_kinds : Addr
  d__law_kinds : FuncData
  f__law_kinds : Fun K "_law_kinds" "_law_kinds" s__law_kinds a__law_kinds d__law_kinds
  g__law_kinds : mg "_law_kinds" = some (.ref a__law_kinds)
  b__law_kinds : Binds K d__law_kinds ["_law_err"] []

def Zt.cl {P : Program} {K : PySem.W.Frag} {mg : Str → Option Value} (Z : Zt P K mg) : Nat → Addr
  | 0 => Z.a_NoSource
  | 1 => Z.a_NoDefinitions
  | 2 => Z.a_NoLabel
  | 3 => Z.a_NoTree
  | 4 => Z.a_NoText
  | _ => Z.a_NoEdit
/-- the j-th class's error stands there -/
def Err (H : Hp) (C : Addr) (v : V) : Prop := ∃ a d, v = .ref a ∧ H a = some (exo a C d) ∧ ∀ dx, d = some dx → ∃ fs, H dx = some (exd dx fs)
theorem Err.same {H H' : Hp} {C : Addr} {v : V} (h : Err H C v) (s : Same H H') : Err H' C v := by
  obtain ⟨a, d, e, ha, hd⟩ := h
  exact ⟨a, d, e, s _ _ ha, fun dx z => by obtain ⟨fs, q⟩ := hd dx z; exact ⟨fs, s _ _ q⟩⟩
theorem Zt.ex {P : Program} {K : PySem.W.Frag} {mg : Str → Option Value} (Z : Zt P K mg) : ∀ j, j < 6 → ExcC K (Z.cl j)
  | 0, _ => Z.x_NoSource
  | 1, _ => Z.x_NoDefinitions
  | 2, _ => Z.x_NoLabel
  | 3, _ => Z.x_NoTree
  | 4, _ => Z.x_NoText
  | 5, _ => Z.x_NoEdit
  | n + 6, h => absurd h (by omega)
def kindsOf (j : Nat) : List Bool := [decide (0 = j), decide (1 = j), decide (2 = j), decide (3 = j), decide (4 = j), decide (5 = j)]
def sp__law_kinds {P : Program} {K : PySem.W.Frag} {mg : Str → Option Value} (Z : Zt P K mg) : Sp := fun vs H Q _ => ∃ (v : V) (j : Nat), vs = [v] ∧ j < 6 ∧ Err H (Z.cl j) v ∧ ∀ H' r, Same H H' → H' r = some (.lst ((kindsOf j).map V.bl)) → Q (.ref r) H'
theorem ok__law_kinds {P : Program} {w : World} {K : PySem.W.Frag} {mg : Str → Option Value} {base : Heap} (Z : Zt P K mg) : FnOk P w K mg base CX0 1 Z.a__law_kinds Z.d__law_kinds ["_law_err"] (sp__law_kinds Z) := by
  refine Z.f__law_kinds.ok sc__law_kinds (fun vs H Q E h => ?_) (fun cdv A outer s H vs Q E hr h => ?_)
  · obtain ⟨v, j, rfl, _⟩ := h
    rfl
  · obtain ⟨v, j, rfl, hj, ⟨a, d, rfl, ha, hd⟩, q⟩ := h
    refine ⟨_, (pss_cons (ps_set (i := 1) sc__law_kinds.nd rfl (.inl rfl) (pe_lst (pa_cons (pe_callB call_isX (by rfl) Z.z_isinstance (by decide +kernel) (pa_cons (pv 0) (pa_cons (pe_glob (v := .ref Z.a_NoSource) rfl Z.g_NoSource rfl) pa_nil))) (pa_cons (pe_callB call_isX (by rfl) Z.z_isinstance (by decide +kernel) (pa_cons (pv 0) (pa_cons (pe_glob (v := .ref Z.a_NoDefinitions) rfl Z.g_NoDefinitions rfl) pa_nil))) (pa_cons (pe_callB call_isX (by rfl) Z.z_isinstance (by decide +kernel) (pa_cons (pv 0) (pa_cons (pe_glob (v := .ref Z.a_NoLabel) rfl Z.g_NoLabel rfl) pa_nil))) pa_nil)))))
        (pss_one (ps_ret (pe_op op_cat (pv 1) (pe_lst (pa_cons (pe_callB call_isX (by rfl) Z.z_isinstance (by decide +kernel) (pa_cons (pv 0) (pa_cons (pe_glob (v := .ref Z.a_NoTree) rfl Z.g_NoTree rfl) pa_nil))) (pa_cons (pe_callB call_isX (by rfl) Z.z_isinstance (by decide +kernel) (pa_cons (pv 0) (pa_cons (pe_glob (v := .ref Z.a_NoText) rfl Z.g_NoText rfl) pa_nil))) (pa_cons (pe_callB call_isX (by rfl) Z.z_isinstance (by decide +kernel) (pa_cons (pv 0) (pa_cons (pe_glob (v := .ref Z.a_NoEdit) rfl Z.g_NoEdit rfl) pa_nil))) pa_nil)))))))), ?_⟩
    have ref1 : ∀ (c : Addr) (u : Value), RelV (.ref c) u → u = .ref c := fun c u r => r
    have kk : PySem.W.kitOne K (.ref (Z.cl j)) (.ref Z.a_NoSource) = some (decide (0 = j)) ∧ PySem.W.kitOne K (.ref (Z.cl j)) (.ref Z.a_NoDefinitions) = some (decide (1 = j)) ∧ PySem.W.kitOne K (.ref (Z.cl j)) (.ref Z.a_NoLabel) = some (decide (2 = j)) ∧
        PySem.W.kitOne K (.ref (Z.cl j)) (.ref Z.a_NoTree) = some (decide (3 = j)) ∧ PySem.W.kitOne K (.ref (Z.cl j)) (.ref Z.a_NoText) = some (decide (4 = j)) ∧ PySem.W.kitOne K (.ref (Z.cl j)) (.ref Z.a_NoEdit) = some (decide (5 = j)) := by
      have : j = 0 ∨ j = 1 ∨ j = 2 ∨ j = 3 ∨ j = 4 ∨ j = 5 := by omega
      rcases this with rfl | rfl | rfl | rfl | rfl | rfl
      · exact ⟨Z.k_NoSource_NoSource, Z.k_NoSource_NoDefinitions, Z.k_NoSource_NoLabel, Z.k_NoSource_NoTree, Z.k_NoSource_NoText, Z.k_NoSource_NoEdit⟩
      · exact ⟨Z.k_NoDefinitions_NoSource, Z.k_NoDefinitions_NoDefinitions, Z.k_NoDefinitions_NoLabel, Z.k_NoDefinitions_NoTree, Z.k_NoDefinitions_NoText, Z.k_NoDefinitions_NoEdit⟩
      · exact ⟨Z.k_NoLabel_NoSource, Z.k_NoLabel_NoDefinitions, Z.k_NoLabel_NoLabel, Z.k_NoLabel_NoTree, Z.k_NoLabel_NoText, Z.k_NoLabel_NoEdit⟩
      · exact ⟨Z.k_NoTree_NoSource, Z.k_NoTree_NoDefinitions, Z.k_NoTree_NoLabel, Z.k_NoTree_NoTree, Z.k_NoTree_NoText, Z.k_NoTree_NoEdit⟩
      · exact ⟨Z.k_NoText_NoSource, Z.k_NoText_NoDefinitions, Z.k_NoText_NoLabel, Z.k_NoText_NoTree, Z.k_NoText_NoText, Z.k_NoText_NoEdit⟩
      · exact ⟨Z.k_NoEdit_NoSource, Z.k_NoEdit_NoDefinitions, Z.k_NoEdit_NoLabel, Z.k_NoEdit_NoTree, Z.k_NoEdit_NoText, Z.k_NoEdit_NoEdit⟩
    obtain ⟨e0, e1, e2, e3, e4, e5⟩ := kk
    have T := Z.ex j hj
    refine ⟨_, rfl, a, _, d, _, _, _, rfl, ha, hd, T, ref1 _, e0, ?_⟩
    refine ⟨_, rfl, a, _, d, _, _, _, rfl, ha, hd, T, ref1 _, e1, ?_⟩
    refine ⟨_, rfl, a, _, d, _, _, _, rfl, ha, hd, T, ref1 _, e2, ?_⟩
    refine ⟨by show 3 ≤ sizeLine; decide, fun p np => ?_⟩
    have s1 := same_new (o := .lst [.bl (decide (0 = j)), .bl (decide (1 = j)), .bl (decide (2 = j))]) np
    have h1 : (upd H p (.lst [.bl (decide (0 = j)), .bl (decide (1 = j)), .bl (decide (2 = j))])) p = some (.lst [.bl (decide (0 = j)), .bl (decide (1 = j)), .bl (decide (2 = j))]) := upd_same
    generalize upd H p (.lst [.bl (decide (0 = j)), .bl (decide (1 = j)), .bl (decide (2 = j))]) = H1 at s1 h1 ⊢
    have hd1 : ∀ dx, d = some dx → ∃ fs, H1 dx = some (exd dx fs) := fun dx z => by obtain ⟨fs, q⟩ := hd dx z; exact ⟨fs, s1 _ _ q⟩
    refine ⟨_, rfl, _, rfl, a, _, d, _, _, _, rfl, s1 _ _ ha, hd1, T, ref1 _, e3, ?_⟩
    refine ⟨_, rfl, a, _, d, _, _, _, rfl, s1 _ _ ha, hd1, T, ref1 _, e4, ?_⟩
    refine ⟨_, rfl, a, _, d, _, _, _, rfl, s1 _ _ ha, hd1, T, ref1 _, e5, ?_⟩
    refine ⟨by show 3 ≤ sizeLine; decide, fun p2 np2 => ?_⟩
    have s2 := same_new (o := .lst [.bl (decide (3 = j)), .bl (decide (4 = j)), .bl (decide (5 = j))]) np2
    refine ⟨p, p2, _, _, rfl, rfl, s2 _ _ h1, upd_same, (by show 6 ≤ sizeLine; decide), fun p3 np3 => ?_⟩
    exact q _ p3 (s1.trans (s2.trans (same_new np3))) upd_same
structure SixE {P : Program} {K : PySem.W.Frag} {mg : Str → Option Value} (Z : Zt P K mg) (H : Hp) (n : Int) (v0 v1 v2 v3 v4 v5 : V) : Prop where
  e0 : ∃ a dx, v0 = .ref a ∧ H a = some (exo a Z.a_NoSource (some dx)) ∧ H dx = some (exd dx [("place", .int n)])
  e1 : ∃ a, v1 = .ref a ∧ H a = some (exo a Z.a_NoDefinitions none)
  e2 : ∃ a, v2 = .ref a ∧ H a = some (exo a Z.a_NoLabel none)
  e3 : ∃ a, v3 = .ref a ∧ H a = some (exo a Z.a_NoTree none)
  e4 : ∃ a, v4 = .ref a ∧ H a = some (exo a Z.a_NoText none)
  e5 : ∃ a dx, v5 = .ref a ∧ H a = some (exo a Z.a_NoEdit (some dx)) ∧ H dx = some (exd dx [("index", .int n)])
section
variable {P : Program} {K : PySem.W.Frag} {mg : Str → Option Value} {Z : Zt P K mg} {H H' : Hp} {n : Int} {v0 v1 v2 v3 v4 v5 : V}
theorem one_same {v : V} {C : Addr} (h : ∃ a, v = .ref a ∧ H a = some (exo a C none)) (s : Same H H') : ∃ a, v = .ref a ∧ H' a = some (exo a C none) := by
  obtain ⟨a, e, q⟩ := h
  exact ⟨a, e, s _ _ q⟩
theorem two_same {v : V} {C : Addr} {f : Str} (h : ∃ a dx, v = .ref a ∧ H a = some (exo a C (some dx)) ∧ H dx = some (exd dx [(f, .int n)])) (s : Same H H') : ∃ a dx, v = .ref a ∧ H' a = some (exo a C (some dx)) ∧ H' dx = some (exd dx [(f, .int n)]) := by
  obtain ⟨a, dx, e, q, r⟩ := h
  exact ⟨a, dx, e, s _ _ q, s _ _ r⟩
theorem SixE.same (h : SixE Z H n v0 v1 v2 v3 v4 v5) (s : Same H H') : SixE Z H' n v0 v1 v2 v3 v4 v5 := ⟨two_same h.e0 s, one_same h.e1 s, one_same h.e2 s, one_same h.e3 s, one_same h.e4 s, two_same h.e5 s⟩
theorem one_err {v : V} {C : Addr} (h : ∃ a, v = .ref a ∧ H a = some (exo a C none)) : Err H C v := by
  obtain ⟨a, e, q⟩ := h
  exact ⟨a, none, e, q, fun _ z => by cases z⟩
theorem two_err {v : V} {C : Addr} {f : Str} (h : ∃ a dx, v = .ref a ∧ H a = some (exo a C (some dx)) ∧ H dx = some (exd dx [(f, .int n)])) : Err H C v := by
  obtain ⟨a, dx, e, q, r⟩ := h
  exact ⟨a, some dx, e, q, fun d z => by cases z; exact ⟨_, r⟩⟩
theorem mk2_same {a dx C : Addr} {f : Str} (ha : H a = none) (hd : H dx = none) : Same H (upd (upd H dx (exd dx [(f, .int n)])) a (exo a C (some dx))) := fun b u e => by
  rw [upd_ne (ne_of_none e ha), upd_ne (ne_of_none e hd)]
  exact e
theorem mk2_at {a dx C : Addr} {f : Str} (hne : dx ≠ a) : ∃ b dy, V.ref a = .ref b ∧ (upd (upd H dx (exd dx [(f, .int n)])) a (exo a C (some dx))) b = some (exo b C (some dy)) ∧ (upd (upd H dx (exd dx [(f, .int n)])) a (exo a C (some dx))) dy = some (exd dy [(f, .int n)]) :=
  ⟨a, dx, rfl, upd_same, by rw [upd_ne hne, upd_same]⟩
def sixT (Z : Zt P K mg) : TA := tCons (tMkE2 Z.a_NoSource "place" (tCons (tVar 2) tNil)) (tCons (tMkE1 Z.a_NoDefinitions) (tCons (tMkE1 Z.a_NoLabel) (tCons (tMkE1 Z.a_NoTree) (tCons (tMkE1 Z.a_NoText) (tCons (tMkE2 Z.a_NoEdit "index" (tCons (tVar 2) tNil)) tNil)))))
theorem six_read {σ : L2.St} {Q : VK} (hσ : σ[2]? = some (some (.int n))) (h : ∀ H' r v0 v1 v2 v3 v4 v5, Same H H' → H' r = some (.lst [v0, v1, v2, v3, v4, v5]) → SixE Z H' n v0 v1 v2 v3 v4 v5 → Q (.ref r) H') : tLst (sixT Z) σ H Q := by
  refine ⟨_, hσ, _, rfl, fun a0 d0 ha0 hd0 hn0 => ?_⟩
  have s0 := mk2_same (C := Z.a_NoSource) (f := "place") (n := n) ha0 hd0
  have e0 := mk2_at (H := H) (C := Z.a_NoSource) (f := "place") (n := n) hn0
  generalize upd (upd H d0 (exd d0 [("place", .int n)])) a0 (exo a0 Z.a_NoSource (some d0)) = H0 at s0 e0 ⊢
  refine fun a1 h1 => ?_
  have s1 := same_new (o := exo a1 Z.a_NoDefinitions none) h1
  have e1 : ∃ a, V.ref a1 = .ref a ∧ (upd H0 a1 (exo a1 Z.a_NoDefinitions none)) a = some (exo a Z.a_NoDefinitions none) := ⟨a1, rfl, upd_same⟩
  generalize upd H0 a1 (exo a1 Z.a_NoDefinitions none) = H1 at s1 e1 ⊢
  refine fun a2 h2 => ?_
  have s2 := same_new (o := exo a2 Z.a_NoLabel none) h2
  have e2 : ∃ a, V.ref a2 = .ref a ∧ (upd H1 a2 (exo a2 Z.a_NoLabel none)) a = some (exo a Z.a_NoLabel none) := ⟨a2, rfl, upd_same⟩
  generalize upd H1 a2 (exo a2 Z.a_NoLabel none) = H2 at s2 e2 ⊢
  refine fun a3 h3 => ?_
  have s3 := same_new (o := exo a3 Z.a_NoTree none) h3
  have e3 : ∃ a, V.ref a3 = .ref a ∧ (upd H2 a3 (exo a3 Z.a_NoTree none)) a = some (exo a Z.a_NoTree none) := ⟨a3, rfl, upd_same⟩
  generalize upd H2 a3 (exo a3 Z.a_NoTree none) = H3 at s3 e3 ⊢
  refine fun a4 h4 => ?_
  have s4 := same_new (o := exo a4 Z.a_NoText none) h4
  have e4 : ∃ a, V.ref a4 = .ref a ∧ (upd H3 a4 (exo a4 Z.a_NoText none)) a = some (exo a Z.a_NoText none) := ⟨a4, rfl, upd_same⟩
  generalize upd H3 a4 (exo a4 Z.a_NoText none) = H4 at s4 e4 ⊢
  refine ⟨_, hσ, _, rfl, fun a5 d5 ha5 hd5 hn5 => ?_⟩
  have s5 := mk2_same (C := Z.a_NoEdit) (f := "index") (n := n) ha5 hd5
  have e5 := mk2_at (H := H4) (C := Z.a_NoEdit) (f := "index") (n := n) hn5
  generalize upd (upd H4 d5 (exd d5 [("index", .int n)])) a5 (exo a5 Z.a_NoEdit (some d5)) = H5 at s5 e5 ⊢
  refine ⟨by show 6 ≤ sizeLine; decide, fun r nr => ?_⟩
  have s6 := same_new (o := .lst [.ref a0, .ref a1, .ref a2, .ref a3, .ref a4, .ref a5]) nr
  refine h _ r _ _ _ _ _ _ (s0.trans (s1.trans (s2.trans (s3.trans (s4.trans (s5.trans s6)))))) upd_same ?_
  exact ⟨two_same e0 (s1.trans (s2.trans (s3.trans (s4.trans (s5.trans s6))))), one_same e1 (s2.trans (s3.trans (s4.trans (s5.trans s6)))), one_same e2 (s3.trans (s4.trans (s5.trans s6))), one_same e3 (s4.trans (s5.trans s6)), one_same e4 (s5.trans s6), two_same e5 s6⟩
theorem six_g {g : TG} {u : TS} {D : Ends} {σ : L2.St} {i : Nat} {x : V} (hσ : (σ.set i (some x))[2]? = some (some (.int n)))
    (h : ∀ H' r v0 v1 v2 v3 v4 v5, Same H H' → H' r = some (.lst [v0, v1, v2, v3, v4, v5]) → SixE Z H' n v0 v1 v2 v3 v4 v5 → g (.ref r) (σ.set i (some x)) H' (u D)) : gName i x σ H { D with nx := tSeq (tAsg (tLst (sixT Z)) g) u D }.nx :=
  six_read (Q := fun v H' => g v (σ.set i (some x)) H' (u D)) hσ h
end

/-! ### the law: 0 _law_script, 1 _law_cell, 2 _law_number, 3 _law_some, 4 _law_byname, 5 _law_batch, 6 _law_k, 7 _law_err, 8 _law_other -/
def sp_law (K : PySem.W.Frag) : Sp := fun vs H Q _ => ∃ (a : Addr) (ns : List Int), vs = [.ref a] ∧ SqL K H a (ns.map V.int) ∧ ns.length ≤ 63 ∧ ∀ H', Q (.bl true) H'
theorem sq_same {K : PySem.W.Frag} {H H' : Hp} {a : Addr} {xs : List V} (h : SqL K H a xs) (s : Same H H') : SqL K H' a xs := by
  rcases h with (h | ⟨o, h⟩) | h
  · exact .inl (.inl (s _ _ h))
  · exact .inl (.inr ⟨o, s _ _ h⟩)
  · exact .inr h
theorem dp_bls {K : PySem.W.Frag} {H : Hp} : ∀ bs : List Bool, DpAll K H (bs.map V.bl) (bs.map PyData.bool)
  | [] => .nil
  | b :: r => .cons (.bl b) (dp_bls r)
theorem look1 (f : Str) (y : V) : ([(f, y)] : List (Str × V)).lookup f = some y := by
  rw [List.lookup_cons, beq_self_eq_true]
theorem Zt.kp {P : Program} {K : PySem.W.Frag} {mg : Str → Option Value} (Z : Zt P K mg) : ∀ j, j < 6 → PySem.W.kitOne K (.ref (Z.cl j)) (.ref Z.a_PlainmarkError) = some true
  | 0, _ => Z.kp_NoSource
  | 1, _ => Z.kp_NoDefinitions
  | 2, _ => Z.kp_NoLabel
  | 3, _ => Z.kp_NoTree
  | 4, _ => Z.kp_NoText
  | 5, _ => Z.kp_NoEdit
  | n + 6, h => absurd h (by omega)
theorem Zt.kv {P : Program} {K : PySem.W.Frag} {mg : Str → Option Value} (Z : Zt P K mg) : ∀ j, j < 6 → PySem.W.kitOne K (.ref (Z.cl j)) (.type "ValueError") = some true
  | 0, _ => Z.kv_NoSource
  | 1, _ => Z.kv_NoDefinitions
  | 2, _ => Z.kv_NoLabel
  | 3, _ => Z.kv_NoTree
  | 4, _ => Z.kv_NoText
  | 5, _ => Z.kv_NoEdit
  | n + 6, h => absurd h (by omega)
theorem ok_law {P : Program} {w : World} {K : PySem.W.Frag} {mg : Str → Option Value} {base : Heap} {f : Addr} {fd : FuncData} (Z : Zt P K mg) (F : Fun K "law" "law" s_law f fd) : FnOk P w K mg base CX0 2 f fd ["_law_script"] (sp_law K) := by
  refine F.ok sc_law (fun vs H Q E h => ?_) (fun cdv A outer s H vs Q E hr h => ?_)
  · obtain ⟨a, ns, rfl, _⟩ := h
    rfl
  · obtain ⟨a, ns, rfl, hS, hlen, q⟩ := h
    refine ⟨_, (pss_cons (ps_for PassesOwn.never rfl (pi_list (pe_op op_cat (pe_slice sl_list (pv 0) po_none (po_some pe_int)) (pe_lst (pa_cons pe_int pa_nil)))) (pg_name (i := 1) sc_law.nd rfl (.inl rfl)) (pss_cons (ps_set (i := 2) sc_law.nd rfl (.inl rfl) (pe_op op_sub (pe_op op_mod (pe_callTy call_int1 (by rfl) Z.z_int (by decide +kernel) (pa_cons (pv 1) pa_nil)) (pe_op op_add (pe_op op_mul pe_int (pe_op op_pow pe_int pe_int)) pe_int)) (pe_op op_pow pe_int pe_int)))
        (pss_cons (ps_set (i := 3) sc_law.nd rfl (.inl rfl) (pe_lst (pa_cons (pe_mk2 (hr.mono (by decide)) Z.t_NoSource.1 Z.t_NoSource.2 Z.z_super Z.b_NoSource (by rfl) Z.g_NoSource (pa_cons (pv 2) pa_nil)) (pa_cons (pe_mk1 (hr.mono (by decide)) Z.t_NoDefinitions.1 Z.t_NoDefinitions.2 Z.z_super Z.b_NoDefinitions (by rfl) Z.g_NoDefinitions) (pa_cons (pe_mk1 (hr.mono (by decide)) Z.t_NoLabel.1 Z.t_NoLabel.2 Z.z_super Z.b_NoLabel (by rfl) Z.g_NoLabel) (pa_cons (pe_mk1 (hr.mono (by decide)) Z.t_NoTree.1 Z.t_NoTree.2 Z.z_super Z.b_NoTree (by rfl) Z.g_NoTree) (pa_cons (pe_mk1 (hr.mono (by decide)) Z.t_NoText.1 Z.t_NoText.2 Z.z_super Z.b_NoText (by rfl) Z.g_NoText) (pa_cons (pe_mk2 (hr.mono (by decide)) Z.t_NoEdit.1 Z.t_NoEdit.2 Z.z_super Z.b_NoEdit (by rfl) Z.g_NoEdit (pa_cons (pv 2) pa_nil)) pa_nil))))))))
        (pss_cons (ps_set (i := 4) sc_law.nd rfl (.inl rfl) (pe_lst (pa_cons (pe_mkK (hr.mono (by decide)) Z.t_NoSource.1 Z.t_NoSource.2 Z.z_super Z.e_NoSource (by rfl) Z.g_NoSource (pk_cons (pv 2) pk_nil)) (pa_cons (pe_mk1 (hr.mono (by decide)) Z.t_NoDefinitions.1 Z.t_NoDefinitions.2 Z.z_super Z.b_NoDefinitions (by rfl) Z.g_NoDefinitions) (pa_cons (pe_mk1 (hr.mono (by decide)) Z.t_NoLabel.1 Z.t_NoLabel.2 Z.z_super Z.b_NoLabel (by rfl) Z.g_NoLabel) (pa_cons (pe_mk1 (hr.mono (by decide)) Z.t_NoTree.1 Z.t_NoTree.2 Z.z_super Z.b_NoTree (by rfl) Z.g_NoTree) (pa_cons (pe_mk1 (hr.mono (by decide)) Z.t_NoText.1 Z.t_NoText.2 Z.z_super Z.b_NoText (by rfl) Z.g_NoText) (pa_cons (pe_mkK (hr.mono (by decide)) Z.t_NoEdit.1 Z.t_NoEdit.2 Z.z_super Z.e_NoEdit (by rfl) Z.g_NoEdit (pk_cons (pv 2) pk_nil)) pa_nil))))))))
        (pss_one (ps_for PassesOwn.never rfl (pi_list (pe_lst (pa_cons (pv 3) (pa_cons (pv 4) pa_nil)))) (pg_name (i := 5) sc_law.nd rfl (.inl rfl)) (pss_cons (ps_for PassesOwn.never rfl (pi_enum (by rfl) Z.z_enumerate (pa_cons (pv 5) pa_nil)) (pg_tup (by rfl) (pgs_cons (pg_name (i := 6) sc_law.nd rfl (.inr rfl)) (pgs_cons (pg_name (i := 7) sc_law.nd rfl (.inl rfl)) pgs_nil))) (pss_cons (ps_if (PW.pt (pw_or (pt_not (pt_val (pe_callB call_isX (by rfl) Z.z_isinstance (by decide +kernel) (pa_cons (pv 7) (pa_cons (pe_glob (v := .ref Z.a_PlainmarkError) rfl Z.g_PlainmarkError rfl) pa_nil))))) (pw_or1 (pt_not (pt_val (pe_callB call_isX (by rfl) Z.z_isinstance (by decide +kernel) (pa_cons (pv 7) (pa_cons (pe_bltn (v := .ty "ValueError") (by rfl) Z.z_ValueError (by decide +kernel) rfl) pa_nil)))))))) (pss_one (ps_ret pe_bl)) pss_nil)
        (pss_one (ps_if (pt_cmpR (op_neD hr.units) (pe_call (ok__law_kinds Z) (hr.mono (by decide)) (by rfl) Z.g__law_kinds Z.f__law_kinds.kp Z.b__law_kinds .nil pass0 (pa_cons (pv 7) pa_nil)) (pe_lc (own := [("_law_other", 8)]) (g := (gName 8)) (tt := tYes) (by rfl) sc_law.nd (pi_range1 (by rfl) Z.z_range (pa_cons pe_int pa_nil)) (blkOk_by (own := [("_law_other", 8)]) (N := ["_law_script", "_law_cell", "_law_number", "_law_some", "_law_byname", "_law_batch", "_law_k", "_law_err", "_law_other"]) (sc := defScope s_law) (by decide +kernel)) (fun _ _ _ _ _ => (pg_name (i := 8) sc_law.nd rfl (Or.inl rfl))) (fun _ _ _ _ _ => pts_nil) (fun _ _ _ _ _ => (pe_cmpR op_eq (pv 8) (pv 6) (nomark _)))) (nomark _)) (pss_one (ps_ret pe_bl)) pss_nil))))
        (pss_one (ps_if (PW.pt (pw_or (pt_cmpR op_ne (pe_xat (pe_ix ix_list (pv 5) pe_int (fun _ _ => rfl))) (pv 2) (nomark _)) (pw_or1 (pt_cmpR op_ne (pe_xat (pe_ix ix_list (pv 5) pe_int (fun _ _ => rfl))) (pv 2) (nomark _))))) (pss_one (ps_ret pe_bl)) pss_nil)))))))))
        (pss_one (ps_ret pe_bl))), ?_⟩
    -- script[:8] + [0]
    refine ⟨_, rfl, _, rfl, a, _, rfl, hS, fun p np => ⟨by show 1 ≤ sizeLine; decide, fun p2 np2 => ⟨p, p2, _, _, rfl, rfl, by rw [upd_ne (ne_of_none upd_same np2)]; exact upd_same, upd_same, ?_, fun p3 np3 => ?_⟩⟩⟩
    · have := cutV_length (ns.map V.int) none (some 8)
      rw [List.length_map] at this
      rw [sizeLine_eq]
      show (cutV (ns.map V.int) none (some 8)).length + 1 ≤ _
      omega
    have ec : cutV (ns.map V.int) none (some 8) ++ [V.int 0] = (ns.take 8 ++ [0]).map V.int := by
      unfold cutV
      rw [HT.sIx_none, show HT.sIx (ns.map V.int).length (ns.map V.int).length (some 8) = min 8 (ns.map V.int).length from HT.sIx_nat _ _ 8]
      rw [List.drop_zero, Nat.sub_zero, List.map_append, List.map_take]
      have e8 : (ns.map V.int).take (min 8 (ns.map V.int).length) = (ns.map V.int).take 8 := by
        by_cases h8 : 8 ≤ (ns.map V.int).length
        · rw [Nat.min_eq_left h8]
        · rw [Nat.min_eq_right (by omega), List.take_length, List.take_of_length_le (by omega)]
      rw [e8]
      rfl
    rw [ec]
    have h3 : (upd (upd (upd H p (.lst (cutV (ns.map V.int) none (some 8)))) p2 (.lst [V.int 0])) p3 (.lst ((ns.take 8 ++ [0]).map V.int))) p3 = some (.lst ((ns.take 8 ++ [0]).map V.int)) := upd_same
    generalize upd (upd (upd H p (.lst (cutV (ns.map V.int) none (some 8)))) p2 (.lst [V.int 0])) p3 (.lst ((ns.take 8 ++ [0]).map V.int)) = H0 at h3 ⊢
    generalize ns.take 8 ++ [0] = ms at h3 ⊢
    refine ⟨p3, rfl, ⟨_, SqL.of h3⟩, for_list (K := K) (a := p3) (xs := ms.map V.int) (fun i σ H' => ∃ (v1 v2 v3 v4 v5 v6 v7 v8 : Option V), σ = [some (.ref a), v1, v2, v3, v4, v5, v6, v7, v8] ∧ H' p3 = some (.lst (ms.map V.int))) ?_ (fun i σ H' _ h => by obtain ⟨_, _, _, _, _, _, _, _, _, h⟩ := h; exact SqL.of h) ?_ ?_⟩
    · exact ⟨none, none, none, none, none, none, none, none, rfl, h3⟩
    · rintro i x σ H' hi ⟨v1, v2, v3, v4, v5, v6, v7, v8, rfl, hp⟩
      obtain ⟨z, hz, rfl⟩ : ∃ z, ms[i]? = some z ∧ x = V.int z := by
        rw [List.getElem?_map] at hi
        cases e : ms[i]? with
        | none => rw [e] at hi; cases hi
        | some z => rw [e] at hi; exact ⟨z, rfl, (Option.some.inj hi).symm⟩
      -- the number
      have pw : CPow 10 40 := by refine ⟨?_, ?_, ?_⟩ <;> decide
      refine ⟨_, rfl, .inl ⟨_, rfl, _, _, rfl, rfl, pw, _, _, rfl, rfl, .inl (by constructor <;> decide), _, _, rfl, rfl, _, _, rfl, rfl, ?_, _, _, rfl, rfl, pw, _, _, rfl, rfl, ?_⟩⟩
      · show (0 : Int) < 2 * 10 ^ 40 + 1
        decide
      show gName 2 (V.int (z % (2 * 10 ^ (40 : Int).toNat + 1) - 10 ^ (40 : Int).toNat)) _ _ _
      generalize (z % (2 * 10 ^ (40 : Int).toNat + 1) - 10 ^ (40 : Int).toNat : Int) = n
      refine six_g (n := n) rfl fun H1 r1 a0 a1 a2 a3 a4 a5 s1 hr1 S1 => ?_
      refine six_g (n := n) rfl fun H2 r2 b0 b1 b2 b3 b4 b5 s2 hr2 S2 => ?_
      have hr1' := s2 _ _ hr1
      have S1' := S1.same s2
      have hp2 := s2 _ _ (s1 _ _ hp)
      refine ⟨_, rfl, _, rfl, (by show 2 ≤ sizeLine; decide), fun m nm => ?_⟩
      have s3 := same_new (o := .lst [.ref r1, .ref r2]) nm
      have hm : (upd H2 m (.lst [.ref r1, .ref r2])) m = some (.lst [.ref r1, .ref r2]) := upd_same
      have hr1'' := s3 _ _ hr1'
      have hr2'' := s3 _ _ hr2
      have S1'' := S1'.same s3
      have S2'' := S2.same s3
      have hp3 := s3 _ _ hp2
      generalize upd H2 m (.lst [.ref r1, .ref r2]) = H3 at hm hr1'' hr2'' S1'' S2'' hp3 ⊢
      refine ⟨m, rfl, ⟨_, SqL.of hm⟩, for_list (K := K) (a := m) (xs := [.ref r1, .ref r2]) (fun i σ H' => ∃ (v5 v6 v7 v8 : Option V), σ = [some (.ref a), some (.int z), some (.int n), some (.ref r1), some (.ref r2), v5, v6, v7, v8] ∧ Same H3 H') ?_ (fun i σ H' _ h => by obtain ⟨_, _, _, _, _, h⟩ := h; exact SqL.of (h _ _ hm)) ?_ ?_⟩
      · exact ⟨_, _, _, _, rfl, Same.refl _⟩
      · rintro j v σ H4 hj ⟨v5, v6, v7, v8, rfl, s4⟩
        obtain ⟨rb, c0, c1, c2, c3, c4, c5, rfl, hrb, S4⟩ : ∃ rb c0 c1 c2 c3 c4 c5, v = .ref rb ∧ H4 rb = some (.lst [c0, c1, c2, c3, c4, c5]) ∧ SixE Z H4 n c0 c1 c2 c3 c4 c5 := by
          have := List.mem_of_getElem? hj
          simp only [List.mem_cons, List.not_mem_nil, or_false] at this
          rcases this with rfl | rfl
          · exact ⟨r1, _, _, _, _, _, _, rfl, s4 _ _ hr1'', S1''.same s4⟩
          · exact ⟨r2, _, _, _, _, _, _, rfl, s4 _ _ hr2'', S2''.same s4⟩
        refine ⟨_, rfl, rb, _, rfl, SqL.of hrb, for_it walk_enum (fun i σ H' => ∃ (v6 v7 v8 : Option V), σ = [some (.ref a), some (.int z), some (.int n), some (.ref r1), some (.ref r2), some (.ref rb), v6, v7, v8] ∧ Same H4 H') ?_ (fun i σ H' _ h => by obtain ⟨_, _, _, _, h⟩ := h; exact SqL.of (h _ _ hrb)) ?_ ?_⟩
        · exact ⟨_, _, _, rfl, Same.refl _⟩
        · rintro k y σ H5 H5' hk ⟨v6, v7, v8, rfl, s5⟩ ⟨T, xk, c, rfl, hT, rfl, hxk, hc⟩
          have exk : xk = .int (k : Nat) := (Option.some.inj hxk).symm
          subst exk
          have hk6 : k < 6 := hk
          have sT := same_new (o := .tup [.int (k : Nat), c]) hT
          have hTT : (upd H5 T (.tup [.int (k : Nat), c])) T = some (.tup [.int (k : Nat), c]) := upd_same
          have s6 := s5.trans sT
          generalize upd H5 T (.tup [.int (k : Nat), c]) = H6 at sT hTT s6 ⊢
          have hE : Err H6 (Z.cl k) c := by
            have S6 := S4.same s6
            have : k = 0 ∨ k = 1 ∨ k = 2 ∨ k = 3 ∨ k = 4 ∨ k = 5 := by omega
            rcases this with rfl | rfl | rfl | rfl | rfl | rfl <;> cases hc
            · exact two_err S6.e0
            · exact one_err S6.e1
            · exact one_err S6.e2
            · exact one_err S6.e3
            · exact one_err S6.e4
            · exact two_err S6.e5
          refine ⟨T, _, rfl, SqT.of hTT, rfl, _, _, rfl, _, _, rfl, rfl, ?_⟩
          have hE' := hE
          obtain ⟨ea, ed, rfl, hea, hed⟩ := hE
          have X := Z.ex k hk6
          have kp := Z.kp k hk6
          have kv := Z.kv k hk6
          refine ⟨_, rfl, ea, _, ed, _, _, _, rfl, hea, hed, X, (fun u r => r), kp, _, rfl, iteF ?_⟩
          refine ⟨_, rfl, ea, _, ed, _, _, _, rfl, hea, hed, X, (fun u r => r), kv, _, rfl, iteF ?_⟩
          refine ⟨_, rfl, _, k, rfl, hk6, hE', fun H7 r7 s7 hr7 => ?_⟩
          refine ⟨6, rfl, by decide, by decide, fun D nD => ?_⟩
          refine lc_range (lo := 0) (n := 6) (fun i H' => Same H7 H' ∧ H' D = some (.lst (((List.range i).map fun o => decide (o = k)).map V.bl))) ?_ ?_ ?_
          · exact ⟨same_new nD, upd_same⟩
          · rintro o H8 ho ⟨s8, h8⟩
            refine ⟨rfl, _, rfl, _, rfl, rfl, _, h8, ?_, fun b u hb => ?_, ?_⟩
            · rw [List.length_map, List.length_map, List.length_range, sizeLine_eq]
              omega
            · rw [upd_ne (ne_of_none hb nD)]
              exact s8 _ _ hb
            · have e0 : decide (V.int (0 + (o : Int)) = V.int (k : Nat)) = decide (o = k) := by
                by_cases h : o = k
                · subst h
                  rw [Int.zero_add]
                  simp
                · rw [decide_eq_false h, decide_eq_false fun z => h (by have := V.int.inj z; omega)]
              rw [upd_same, e0, List.range_succ, List.map_append, List.map_append]
              rfl
          · rintro H8 ⟨s8, h8⟩
            have eb : ((List.range 6).map fun o => decide (o = k)) = kindsOf k := rfl
            rw [eb] at h8
            have sh : SeqAt.shaped (.list ((kindsOf k).map PyData.bool)) = true ∧ PyData.eqv (.list ((kindsOf k).map PyData.bool)) (.list ((kindsOf k).map PyData.bool)) = true := by
              have : k = 0 ∨ k = 1 ∨ k = 2 ∨ k = 3 ∨ k = 4 ∨ k = 5 := by omega
              rcases this with rfl | rfl | rfl | rfl | rfl | rfl <;> exact ⟨rfl, rfl⟩
            refine ⟨_, _, .lst (SqL.of (s8 _ _ hr7)) (dp_bls _), .lst (SqL.of h8) (dp_bls _), sh.1, sh.1, _, rfl, ?_⟩
            rw [sh.2]
            refine iteF ?_
            exact ⟨_, _, _, rfl, s6.trans (s7.trans s8)⟩
        · rintro σ H5 ⟨v6, v7, v8, rfl, s5⟩
          have S5 := S4.same s5
          have hrb5 := s5 _ _ hrb
          obtain ⟨x0, d0, e0, hx0, hd0⟩ := S5.e0
          obtain ⟨x5, d5, e5, hx5, hd5⟩ := S5.e5
          refine ⟨_, rfl, rb, _, _, _, rfl, rfl, SqL.of hrb5, atI_nat (j := 0) rfl, x0, _, d0, _, _, e0, hx0, hd0, Z.x_NoSource, Z.n_NoSource, look1 _ _, _, rfl, rfl, _, rfl, ?_⟩
          rw [decide_eq_true rfl]
          refine iteF ?_
          refine ⟨_, rfl, rb, _, _, _, rfl, rfl, SqL.of hrb5, atI_nat (j := 5) rfl, x5, _, d5, _, _, e5, hx5, hd5, Z.x_NoEdit, Z.n_NoEdit, look1 _ _, _, rfl, rfl, _, rfl, ?_⟩
          rw [decide_eq_true rfl]
          refine iteF ?_
          exact ⟨_, _, _, _, rfl, s4.trans s5⟩
      · rintro σ H4 ⟨v5, v6, v7, v8, rfl, s4⟩
        exact ⟨_, _, _, _, _, _, _, _, rfl, s4 _ _ hp3⟩
    · rintro σ H' ⟨v1, v2, v3, v4, v5, v6, v7, v8, rfl, hp⟩
      exact q H'

theorem all_mk {l : PySem.W.OpenLaw} {w : World} {K : PySem.W.Frag} {h : Heap} {mg : Str → Option Value} {fa : Addr} (X : K.In h) (G : h.Ns mainGlobals mg) (hfa : mg "law" = some (.ref fa))
    {f0 : Addr} {od0 an0 : Option Addr} {sl0 : Array (Option Value)} {oc0 kV0 dc0 pm0 cd0 ct0 : Value}
    (a0 : PySem.W.nsIn K mainGlobals "_law_kinds" = some (some (.ref f0)))
    (l0 : K.lookup f0 = some ⟨oc0, od0, .func (PySem.W.fnOf "_law_kinds" "_law_kinds" (defArgs s__law_kinds) (defBody s__law_kinds) (defScope s__law_kinds) .none kV0 dc0 pm0 an0 cd0 ct0), sl0⟩)
    (c0 : PySem.W.codeIn K cd0 "_law_kinds" = true)
    (k0 : PySem.W.keepIn K (.ref f0) = true)
    {f1 : Addr} {od1 an1 : Option Addr} {sl1 : Array (Option Value)} {oc1 kV1 dc1 pm1 cd1 ct1 : Value}
    (a1 : PySem.W.nsIn K mainGlobals "law" = some (some (.ref f1)))
    (l1 : K.lookup f1 = some ⟨oc1, od1, .func (PySem.W.fnOf "law" "law" (defArgs s_law) (defBody s_law) (defScope s_law) .none kV1 dc1 pm1 an1 cd1 ct1), sl1⟩)
    (c1 : PySem.W.codeIn K cd1 "law" = true)
    (k1 : PySem.W.keepIn K (.ref f1) = true)
    (z_super : PySem.W.nsIn K mainGlobals "super" = some none)
    (z_ValueError : PySem.W.nsIn K mainGlobals "ValueError" = some none)
    (z_isinstance : PySem.W.nsIn K mainGlobals "isinstance" = some none)
    (z_enumerate : PySem.W.nsIn K mainGlobals "enumerate" = some none)
    (z_range : PySem.W.nsIn K mainGlobals "range" = some none)
    (z_int : PySem.W.nsIn K mainGlobals "int" = some none)
    {cP : Addr}
    (q_P : PySem.W.nsIn K mainGlobals "PlainmarkError" = some (some (.ref cP)))
    (o_any : PySem.W.nsIn K cStatics "thirdparty.any" = some none)
    (o_top : (l.prog.main.scope.names.lookup ("super" : Str)).isSome = false)
    (o_get : PySem.W.specialIn K (.builtin "object.__class__") "__get__" = some (some (.builtin "getset_descriptor.__get__")))
    (o_tak : PySem.W.takesIn K (.builtin "object.__class__") = some true)
    {C_NoSource F_NoSource cc_NoSource cda_NoSource : Addr} {nm_NoSource qn_NoSource : Str} {Nn_NoSource : Addr} {bs_NoSource bm_NoSource : List Value} {sn_NoSource : List Str} {sub_NoSource : List Value} {ab_NoSource : Bool} {col_NoSource : Option Bool} {dd_NoSource : Option Addr} {k0_NoSource k1_NoSource k2_NoSource k3_NoSource k5_NoSource : Option Value}
    {kV_NoSource doc_NoSource pm_NoSource ct_NoSource oc_NoSource ccl_NoSource cl_NoSource : Value} {an_NoSource od_NoSource cdd_NoSource cld_NoSource : Option Addr} {osl_NoSource ccs_NoSource csl_NoSource : Array (Option Value)} {vs_NoSource : Array Value} {file_NoSource : Str} {tf_NoSource : Tok}
    (q_NoSource : PySem.W.nsIn K mainGlobals "NoSource" = some (some (.ref C_NoSource)))
    (h1_NoSource : K.lookup C_NoSource = some (excClassObj nm_NoSource qn_NoSource C_NoSource Nn_NoSource bs_NoSource bm_NoSource true sn_NoSource sub_NoSource ab_NoSource col_NoSource dd_NoSource k0_NoSource k1_NoSource k2_NoSource k3_NoSource k5_NoSource "ValueError.__new__"))
    (h2_NoSource : PySem.HandSPX.refsVE bm_NoSource = true)
    (h3_NoSource : PySem.W.findIn K (.ref C_NoSource) "__setattr__" = some (some (.builtin "object.__setattr__")))
    (h4_NoSource : PySem.W.subIn K (.ref C_NoSource) (.type "BaseException") = some true)
    (h5_NoSource : PySem.W.typeIn K (.ref C_NoSource) = some (.type "type"))
    (h6_NoSource : PySem.W.keepIn K (.ref C_NoSource) = true)
    (h7_NoSource : PySem.W.findIn K (.ref C_NoSource) "__init__" = some (some (.ref F_NoSource)))
    (h8_NoSource : PySem.W.typeIn K (.ref F_NoSource) = some (.type "function"))
    (h9_NoSource : K.lookup F_NoSource = some ⟨oc_NoSource, od_NoSource, .func (PySem.W.ksFn "__init__" "NoSource.__init__" (defArgs i_NoSource) (defBody i_NoSource) (defScope i_NoSource) .none kV_NoSource doc_NoSource pm_NoSource an_NoSource (.ref cda_NoSource) ct_NoSource cc_NoSource), osl_NoSource⟩)
    (h10_NoSource : PySem.W.codeIn K (.ref cda_NoSource) "NoSource.__init__" = true)
    (h11_NoSource : K.lookup cda_NoSource = some ⟨ccl_NoSource, cdd_NoSource, .fields vs_NoSource, ccs_NoSource⟩)
    (h12_NoSource : vs_NoSource[2]? = some (.str file_NoSource tf_NoSource))
    (h13_NoSource : ((l.prog.main.file : Str) == file_NoSource) = true)
    (h14_NoSource : K.lookup cc_NoSource = some ⟨cl_NoSource, cld_NoSource, .cell (some (.ref C_NoSource)), csl_NoSource⟩)
    (h15_NoSource : PySem.W.mroIn K C_NoSource (.ref C_NoSource) = some true)
    (h17_NoSource : PySem.W.ks_superIn K C_NoSource C_NoSource "__init__" = some (some (.builtin "ValueError.__init__")))
    (h18_NoSource : PySem.W.subIn K (.ref C_NoSource) (.type "ValueError") = some true)
    (h20_NoSource : PySem.W.findIn K (.ref C_NoSource) "place" = some none)
    (x1_NoSource : PySem.W.findIn K (.ref C_NoSource) "__getattribute__" = some (some (.builtin "BaseException.__getattribute__")))
    (x2_NoSource : PySem.W.findIn K (.ref C_NoSource) "__getattr__" = some none)
    (x3_NoSource : PySem.W.hasDictIn K C_NoSource = true)
    (x4_NoSource : PySem.W.findIn K (.ref C_NoSource) "__class__" = some (some (.builtin "object.__class__")))
    (x5_NoSource : PySem.W.mroIn K C_NoSource (.type "object") = some true)
    {C_NoDefinitions F_NoDefinitions cc_NoDefinitions cda_NoDefinitions : Addr} {nm_NoDefinitions qn_NoDefinitions : Str} {Nn_NoDefinitions : Addr} {bs_NoDefinitions bm_NoDefinitions : List Value} {sn_NoDefinitions : List Str} {sub_NoDefinitions : List Value} {ab_NoDefinitions : Bool} {col_NoDefinitions : Option Bool} {dd_NoDefinitions : Option Addr} {k0_NoDefinitions k1_NoDefinitions k2_NoDefinitions k3_NoDefinitions k5_NoDefinitions : Option Value}
    {kV_NoDefinitions doc_NoDefinitions pm_NoDefinitions ct_NoDefinitions oc_NoDefinitions ccl_NoDefinitions cl_NoDefinitions : Value} {an_NoDefinitions od_NoDefinitions cdd_NoDefinitions cld_NoDefinitions : Option Addr} {osl_NoDefinitions ccs_NoDefinitions csl_NoDefinitions : Array (Option Value)} {vs_NoDefinitions : Array Value} {file_NoDefinitions : Str} {tf_NoDefinitions : Tok}
    (q_NoDefinitions : PySem.W.nsIn K mainGlobals "NoDefinitions" = some (some (.ref C_NoDefinitions)))
    (h1_NoDefinitions : K.lookup C_NoDefinitions = some (excClassObj nm_NoDefinitions qn_NoDefinitions C_NoDefinitions Nn_NoDefinitions bs_NoDefinitions bm_NoDefinitions true sn_NoDefinitions sub_NoDefinitions ab_NoDefinitions col_NoDefinitions dd_NoDefinitions k0_NoDefinitions k1_NoDefinitions k2_NoDefinitions k3_NoDefinitions k5_NoDefinitions "ValueError.__new__"))
    (h2_NoDefinitions : PySem.HandSPX.refsVE bm_NoDefinitions = true)
    (h3_NoDefinitions : PySem.W.findIn K (.ref C_NoDefinitions) "__setattr__" = some (some (.builtin "object.__setattr__")))
    (h4_NoDefinitions : PySem.W.subIn K (.ref C_NoDefinitions) (.type "BaseException") = some true)
    (h5_NoDefinitions : PySem.W.typeIn K (.ref C_NoDefinitions) = some (.type "type"))
    (h6_NoDefinitions : PySem.W.keepIn K (.ref C_NoDefinitions) = true)
    (h7_NoDefinitions : PySem.W.findIn K (.ref C_NoDefinitions) "__init__" = some (some (.ref F_NoDefinitions)))
    (h8_NoDefinitions : PySem.W.typeIn K (.ref F_NoDefinitions) = some (.type "function"))
    (h9_NoDefinitions : K.lookup F_NoDefinitions = some ⟨oc_NoDefinitions, od_NoDefinitions, .func (PySem.W.ksFn "__init__" "NoDefinitions.__init__" (defArgs i_NoDefinitions) (defBody i_NoDefinitions) (defScope i_NoDefinitions) .none kV_NoDefinitions doc_NoDefinitions pm_NoDefinitions an_NoDefinitions (.ref cda_NoDefinitions) ct_NoDefinitions cc_NoDefinitions), osl_NoDefinitions⟩)
    (h10_NoDefinitions : PySem.W.codeIn K (.ref cda_NoDefinitions) "NoDefinitions.__init__" = true)
    (h11_NoDefinitions : K.lookup cda_NoDefinitions = some ⟨ccl_NoDefinitions, cdd_NoDefinitions, .fields vs_NoDefinitions, ccs_NoDefinitions⟩)
    (h12_NoDefinitions : vs_NoDefinitions[2]? = some (.str file_NoDefinitions tf_NoDefinitions))
    (h13_NoDefinitions : ((l.prog.main.file : Str) == file_NoDefinitions) = true)
    (h14_NoDefinitions : K.lookup cc_NoDefinitions = some ⟨cl_NoDefinitions, cld_NoDefinitions, .cell (some (.ref C_NoDefinitions)), csl_NoDefinitions⟩)
    (h15_NoDefinitions : PySem.W.mroIn K C_NoDefinitions (.ref C_NoDefinitions) = some true)
    (h17_NoDefinitions : PySem.W.ks_superIn K C_NoDefinitions C_NoDefinitions "__init__" = some (some (.builtin "ValueError.__init__")))
    (h18_NoDefinitions : PySem.W.subIn K (.ref C_NoDefinitions) (.type "ValueError") = some true)
    (x1_NoDefinitions : PySem.W.findIn K (.ref C_NoDefinitions) "__getattribute__" = some (some (.builtin "BaseException.__getattribute__")))
    (x2_NoDefinitions : PySem.W.findIn K (.ref C_NoDefinitions) "__getattr__" = some none)
    (x3_NoDefinitions : PySem.W.hasDictIn K C_NoDefinitions = true)
    (x4_NoDefinitions : PySem.W.findIn K (.ref C_NoDefinitions) "__class__" = some (some (.builtin "object.__class__")))
    (x5_NoDefinitions : PySem.W.mroIn K C_NoDefinitions (.type "object") = some true)
    {C_NoLabel F_NoLabel cc_NoLabel cda_NoLabel : Addr} {nm_NoLabel qn_NoLabel : Str} {Nn_NoLabel : Addr} {bs_NoLabel bm_NoLabel : List Value} {sn_NoLabel : List Str} {sub_NoLabel : List Value} {ab_NoLabel : Bool} {col_NoLabel : Option Bool} {dd_NoLabel : Option Addr} {k0_NoLabel k1_NoLabel k2_NoLabel k3_NoLabel k5_NoLabel : Option Value}
    {kV_NoLabel doc_NoLabel pm_NoLabel ct_NoLabel oc_NoLabel ccl_NoLabel cl_NoLabel : Value} {an_NoLabel od_NoLabel cdd_NoLabel cld_NoLabel : Option Addr} {osl_NoLabel ccs_NoLabel csl_NoLabel : Array (Option Value)} {vs_NoLabel : Array Value} {file_NoLabel : Str} {tf_NoLabel : Tok}
    (q_NoLabel : PySem.W.nsIn K mainGlobals "NoLabel" = some (some (.ref C_NoLabel)))
    (h1_NoLabel : K.lookup C_NoLabel = some (excClassObj nm_NoLabel qn_NoLabel C_NoLabel Nn_NoLabel bs_NoLabel bm_NoLabel true sn_NoLabel sub_NoLabel ab_NoLabel col_NoLabel dd_NoLabel k0_NoLabel k1_NoLabel k2_NoLabel k3_NoLabel k5_NoLabel "ValueError.__new__"))
    (h2_NoLabel : PySem.HandSPX.refsVE bm_NoLabel = true)
    (h3_NoLabel : PySem.W.findIn K (.ref C_NoLabel) "__setattr__" = some (some (.builtin "object.__setattr__")))
    (h4_NoLabel : PySem.W.subIn K (.ref C_NoLabel) (.type "BaseException") = some true)
    (h5_NoLabel : PySem.W.typeIn K (.ref C_NoLabel) = some (.type "type"))
    (h6_NoLabel : PySem.W.keepIn K (.ref C_NoLabel) = true)
    (h7_NoLabel : PySem.W.findIn K (.ref C_NoLabel) "__init__" = some (some (.ref F_NoLabel)))
    (h8_NoLabel : PySem.W.typeIn K (.ref F_NoLabel) = some (.type "function"))
    (h9_NoLabel : K.lookup F_NoLabel = some ⟨oc_NoLabel, od_NoLabel, .func (PySem.W.ksFn "__init__" "NoLabel.__init__" (defArgs i_NoLabel) (defBody i_NoLabel) (defScope i_NoLabel) .none kV_NoLabel doc_NoLabel pm_NoLabel an_NoLabel (.ref cda_NoLabel) ct_NoLabel cc_NoLabel), osl_NoLabel⟩)
    (h10_NoLabel : PySem.W.codeIn K (.ref cda_NoLabel) "NoLabel.__init__" = true)
    (h11_NoLabel : K.lookup cda_NoLabel = some ⟨ccl_NoLabel, cdd_NoLabel, .fields vs_NoLabel, ccs_NoLabel⟩)
    (h12_NoLabel : vs_NoLabel[2]? = some (.str file_NoLabel tf_NoLabel))
    (h13_NoLabel : ((l.prog.main.file : Str) == file_NoLabel) = true)
    (h14_NoLabel : K.lookup cc_NoLabel = some ⟨cl_NoLabel, cld_NoLabel, .cell (some (.ref C_NoLabel)), csl_NoLabel⟩)
    (h15_NoLabel : PySem.W.mroIn K C_NoLabel (.ref C_NoLabel) = some true)
    (h17_NoLabel : PySem.W.ks_superIn K C_NoLabel C_NoLabel "__init__" = some (some (.builtin "ValueError.__init__")))
    (h18_NoLabel : PySem.W.subIn K (.ref C_NoLabel) (.type "ValueError") = some true)
    (x1_NoLabel : PySem.W.findIn K (.ref C_NoLabel) "__getattribute__" = some (some (.builtin "BaseException.__getattribute__")))
    (x2_NoLabel : PySem.W.findIn K (.ref C_NoLabel) "__getattr__" = some none)
    (x3_NoLabel : PySem.W.hasDictIn K C_NoLabel = true)
    (x4_NoLabel : PySem.W.findIn K (.ref C_NoLabel) "__class__" = some (some (.builtin "object.__class__")))
    (x5_NoLabel : PySem.W.mroIn K C_NoLabel (.type "object") = some true)
    {C_NoTree F_NoTree cc_NoTree cda_NoTree : Addr} {nm_NoTree qn_NoTree : Str} {Nn_NoTree : Addr} {bs_NoTree bm_NoTree : List Value} {sn_NoTree : List Str} {sub_NoTree : List Value} {ab_NoTree : Bool} {col_NoTree : Option Bool} {dd_NoTree : Option Addr} {k0_NoTree k1_NoTree k2_NoTree k3_NoTree k5_NoTree : Option Value}
    {kV_NoTree doc_NoTree pm_NoTree ct_NoTree oc_NoTree ccl_NoTree cl_NoTree : Value} {an_NoTree od_NoTree cdd_NoTree cld_NoTree : Option Addr} {osl_NoTree ccs_NoTree csl_NoTree : Array (Option Value)} {vs_NoTree : Array Value} {file_NoTree : Str} {tf_NoTree : Tok}
    (q_NoTree : PySem.W.nsIn K mainGlobals "NoTree" = some (some (.ref C_NoTree)))
    (h1_NoTree : K.lookup C_NoTree = some (excClassObj nm_NoTree qn_NoTree C_NoTree Nn_NoTree bs_NoTree bm_NoTree true sn_NoTree sub_NoTree ab_NoTree col_NoTree dd_NoTree k0_NoTree k1_NoTree k2_NoTree k3_NoTree k5_NoTree "ValueError.__new__"))
    (h2_NoTree : PySem.HandSPX.refsVE bm_NoTree = true)
    (h3_NoTree : PySem.W.findIn K (.ref C_NoTree) "__setattr__" = some (some (.builtin "object.__setattr__")))
    (h4_NoTree : PySem.W.subIn K (.ref C_NoTree) (.type "BaseException") = some true)
    (h5_NoTree : PySem.W.typeIn K (.ref C_NoTree) = some (.type "type"))
    (h6_NoTree : PySem.W.keepIn K (.ref C_NoTree) = true)
    (h7_NoTree : PySem.W.findIn K (.ref C_NoTree) "__init__" = some (some (.ref F_NoTree)))
    (h8_NoTree : PySem.W.typeIn K (.ref F_NoTree) = some (.type "function"))
    (h9_NoTree : K.lookup F_NoTree = some ⟨oc_NoTree, od_NoTree, .func (PySem.W.ksFn "__init__" "NoTree.__init__" (defArgs i_NoTree) (defBody i_NoTree) (defScope i_NoTree) .none kV_NoTree doc_NoTree pm_NoTree an_NoTree (.ref cda_NoTree) ct_NoTree cc_NoTree), osl_NoTree⟩)
    (h10_NoTree : PySem.W.codeIn K (.ref cda_NoTree) "NoTree.__init__" = true)
    (h11_NoTree : K.lookup cda_NoTree = some ⟨ccl_NoTree, cdd_NoTree, .fields vs_NoTree, ccs_NoTree⟩)
    (h12_NoTree : vs_NoTree[2]? = some (.str file_NoTree tf_NoTree))
    (h13_NoTree : ((l.prog.main.file : Str) == file_NoTree) = true)
    (h14_NoTree : K.lookup cc_NoTree = some ⟨cl_NoTree, cld_NoTree, .cell (some (.ref C_NoTree)), csl_NoTree⟩)
    (h15_NoTree : PySem.W.mroIn K C_NoTree (.ref C_NoTree) = some true)
    (h17_NoTree : PySem.W.ks_superIn K C_NoTree C_NoTree "__init__" = some (some (.builtin "ValueError.__init__")))
    (h18_NoTree : PySem.W.subIn K (.ref C_NoTree) (.type "ValueError") = some true)
    (x1_NoTree : PySem.W.findIn K (.ref C_NoTree) "__getattribute__" = some (some (.builtin "BaseException.__getattribute__")))
    (x2_NoTree : PySem.W.findIn K (.ref C_NoTree) "__getattr__" = some none)
    (x3_NoTree : PySem.W.hasDictIn K C_NoTree = true)
    (x4_NoTree : PySem.W.findIn K (.ref C_NoTree) "__class__" = some (some (.builtin "object.__class__")))
    (x5_NoTree : PySem.W.mroIn K C_NoTree (.type "object") = some true)
    {C_NoText F_NoText cc_NoText cda_NoText : Addr} {nm_NoText qn_NoText : Str} {Nn_NoText : Addr} {bs_NoText bm_NoText : List Value} {sn_NoText : List Str} {sub_NoText : List Value} {ab_NoText : Bool} {col_NoText : Option Bool} {dd_NoText : Option Addr} {k0_NoText k1_NoText k2_NoText k3_NoText k5_NoText : Option Value}
    {kV_NoText doc_NoText pm_NoText ct_NoText oc_NoText ccl_NoText cl_NoText : Value} {an_NoText od_NoText cdd_NoText cld_NoText : Option Addr} {osl_NoText ccs_NoText csl_NoText : Array (Option Value)} {vs_NoText : Array Value} {file_NoText : Str} {tf_NoText : Tok}
    (q_NoText : PySem.W.nsIn K mainGlobals "NoText" = some (some (.ref C_NoText)))
    (h1_NoText : K.lookup C_NoText = some (excClassObj nm_NoText qn_NoText C_NoText Nn_NoText bs_NoText bm_NoText true sn_NoText sub_NoText ab_NoText col_NoText dd_NoText k0_NoText k1_NoText k2_NoText k3_NoText k5_NoText "ValueError.__new__"))
    (h2_NoText : PySem.HandSPX.refsVE bm_NoText = true)
    (h3_NoText : PySem.W.findIn K (.ref C_NoText) "__setattr__" = some (some (.builtin "object.__setattr__")))
    (h4_NoText : PySem.W.subIn K (.ref C_NoText) (.type "BaseException") = some true)
    (h5_NoText : PySem.W.typeIn K (.ref C_NoText) = some (.type "type"))
    (h6_NoText : PySem.W.keepIn K (.ref C_NoText) = true)
    (h7_NoText : PySem.W.findIn K (.ref C_NoText) "__init__" = some (some (.ref F_NoText)))
    (h8_NoText : PySem.W.typeIn K (.ref F_NoText) = some (.type "function"))
    (h9_NoText : K.lookup F_NoText = some ⟨oc_NoText, od_NoText, .func (PySem.W.ksFn "__init__" "NoText.__init__" (defArgs i_NoText) (defBody i_NoText) (defScope i_NoText) .none kV_NoText doc_NoText pm_NoText an_NoText (.ref cda_NoText) ct_NoText cc_NoText), osl_NoText⟩)
    (h10_NoText : PySem.W.codeIn K (.ref cda_NoText) "NoText.__init__" = true)
    (h11_NoText : K.lookup cda_NoText = some ⟨ccl_NoText, cdd_NoText, .fields vs_NoText, ccs_NoText⟩)
    (h12_NoText : vs_NoText[2]? = some (.str file_NoText tf_NoText))
    (h13_NoText : ((l.prog.main.file : Str) == file_NoText) = true)
    (h14_NoText : K.lookup cc_NoText = some ⟨cl_NoText, cld_NoText, .cell (some (.ref C_NoText)), csl_NoText⟩)
    (h15_NoText : PySem.W.mroIn K C_NoText (.ref C_NoText) = some true)
    (h17_NoText : PySem.W.ks_superIn K C_NoText C_NoText "__init__" = some (some (.builtin "ValueError.__init__")))
    (h18_NoText : PySem.W.subIn K (.ref C_NoText) (.type "ValueError") = some true)
    (x1_NoText : PySem.W.findIn K (.ref C_NoText) "__getattribute__" = some (some (.builtin "BaseException.__getattribute__")))
    (x2_NoText : PySem.W.findIn K (.ref C_NoText) "__getattr__" = some none)
    (x3_NoText : PySem.W.hasDictIn K C_NoText = true)
    (x4_NoText : PySem.W.findIn K (.ref C_NoText) "__class__" = some (some (.builtin "object.__class__")))
    (x5_NoText : PySem.W.mroIn K C_NoText (.type "object") = some true)
    {C_NoEdit F_NoEdit cc_NoEdit cda_NoEdit : Addr} {nm_NoEdit qn_NoEdit : Str} {Nn_NoEdit : Addr} {bs_NoEdit bm_NoEdit : List Value} {sn_NoEdit : List Str} {sub_NoEdit : List Value} {ab_NoEdit : Bool} {col_NoEdit : Option Bool} {dd_NoEdit : Option Addr} {k0_NoEdit k1_NoEdit k2_NoEdit k3_NoEdit k5_NoEdit : Option Value}
    {kV_NoEdit doc_NoEdit pm_NoEdit ct_NoEdit oc_NoEdit ccl_NoEdit cl_NoEdit : Value} {an_NoEdit od_NoEdit cdd_NoEdit cld_NoEdit : Option Addr} {osl_NoEdit ccs_NoEdit csl_NoEdit : Array (Option Value)} {vs_NoEdit : Array Value} {file_NoEdit : Str} {tf_NoEdit : Tok}
    (q_NoEdit : PySem.W.nsIn K mainGlobals "NoEdit" = some (some (.ref C_NoEdit)))
    (h1_NoEdit : K.lookup C_NoEdit = some (excClassObj nm_NoEdit qn_NoEdit C_NoEdit Nn_NoEdit bs_NoEdit bm_NoEdit true sn_NoEdit sub_NoEdit ab_NoEdit col_NoEdit dd_NoEdit k0_NoEdit k1_NoEdit k2_NoEdit k3_NoEdit k5_NoEdit "ValueError.__new__"))
    (h2_NoEdit : PySem.HandSPX.refsVE bm_NoEdit = true)
    (h3_NoEdit : PySem.W.findIn K (.ref C_NoEdit) "__setattr__" = some (some (.builtin "object.__setattr__")))
    (h4_NoEdit : PySem.W.subIn K (.ref C_NoEdit) (.type "BaseException") = some true)
    (h5_NoEdit : PySem.W.typeIn K (.ref C_NoEdit) = some (.type "type"))
    (h6_NoEdit : PySem.W.keepIn K (.ref C_NoEdit) = true)
    (h7_NoEdit : PySem.W.findIn K (.ref C_NoEdit) "__init__" = some (some (.ref F_NoEdit)))
    (h8_NoEdit : PySem.W.typeIn K (.ref F_NoEdit) = some (.type "function"))
    (h9_NoEdit : K.lookup F_NoEdit = some ⟨oc_NoEdit, od_NoEdit, .func (PySem.W.ksFn "__init__" "NoEdit.__init__" (defArgs i_NoEdit) (defBody i_NoEdit) (defScope i_NoEdit) .none kV_NoEdit doc_NoEdit pm_NoEdit an_NoEdit (.ref cda_NoEdit) ct_NoEdit cc_NoEdit), osl_NoEdit⟩)
    (h10_NoEdit : PySem.W.codeIn K (.ref cda_NoEdit) "NoEdit.__init__" = true)
    (h11_NoEdit : K.lookup cda_NoEdit = some ⟨ccl_NoEdit, cdd_NoEdit, .fields vs_NoEdit, ccs_NoEdit⟩)
    (h12_NoEdit : vs_NoEdit[2]? = some (.str file_NoEdit tf_NoEdit))
    (h13_NoEdit : ((l.prog.main.file : Str) == file_NoEdit) = true)
    (h14_NoEdit : K.lookup cc_NoEdit = some ⟨cl_NoEdit, cld_NoEdit, .cell (some (.ref C_NoEdit)), csl_NoEdit⟩)
    (h15_NoEdit : PySem.W.mroIn K C_NoEdit (.ref C_NoEdit) = some true)
    (h17_NoEdit : PySem.W.ks_superIn K C_NoEdit C_NoEdit "__init__" = some (some (.builtin "ValueError.__init__")))
    (h18_NoEdit : PySem.W.subIn K (.ref C_NoEdit) (.type "ValueError") = some true)
    (h20_NoEdit : PySem.W.findIn K (.ref C_NoEdit) "index" = some none)
    (x1_NoEdit : PySem.W.findIn K (.ref C_NoEdit) "__getattribute__" = some (some (.builtin "BaseException.__getattribute__")))
    (x2_NoEdit : PySem.W.findIn K (.ref C_NoEdit) "__getattr__" = some none)
    (x3_NoEdit : PySem.W.hasDictIn K C_NoEdit = true)
    (x4_NoEdit : PySem.W.findIn K (.ref C_NoEdit) "__class__" = some (some (.builtin "object.__class__")))
    (x5_NoEdit : PySem.W.mroIn K C_NoEdit (.type "object") = some true)
    (kp_NoSource : PySem.W.kitOne K (.ref C_NoSource) (.ref cP) = some true)
    (kv_NoSource : PySem.W.kitOne K (.ref C_NoSource) (.type "ValueError") = some true)
    (k_NoSource_NoSource : PySem.W.kitOne K (.ref C_NoSource) (.ref C_NoSource) = some true)
    (k_NoSource_NoDefinitions : PySem.W.kitOne K (.ref C_NoSource) (.ref C_NoDefinitions) = some false)
    (k_NoSource_NoLabel : PySem.W.kitOne K (.ref C_NoSource) (.ref C_NoLabel) = some false)
    (k_NoSource_NoTree : PySem.W.kitOne K (.ref C_NoSource) (.ref C_NoTree) = some false)
    (k_NoSource_NoText : PySem.W.kitOne K (.ref C_NoSource) (.ref C_NoText) = some false)
    (k_NoSource_NoEdit : PySem.W.kitOne K (.ref C_NoSource) (.ref C_NoEdit) = some false)
    (kp_NoDefinitions : PySem.W.kitOne K (.ref C_NoDefinitions) (.ref cP) = some true)
    (kv_NoDefinitions : PySem.W.kitOne K (.ref C_NoDefinitions) (.type "ValueError") = some true)
    (k_NoDefinitions_NoSource : PySem.W.kitOne K (.ref C_NoDefinitions) (.ref C_NoSource) = some false)
    (k_NoDefinitions_NoDefinitions : PySem.W.kitOne K (.ref C_NoDefinitions) (.ref C_NoDefinitions) = some true)
    (k_NoDefinitions_NoLabel : PySem.W.kitOne K (.ref C_NoDefinitions) (.ref C_NoLabel) = some false)
    (k_NoDefinitions_NoTree : PySem.W.kitOne K (.ref C_NoDefinitions) (.ref C_NoTree) = some false)
    (k_NoDefinitions_NoText : PySem.W.kitOne K (.ref C_NoDefinitions) (.ref C_NoText) = some false)
    (k_NoDefinitions_NoEdit : PySem.W.kitOne K (.ref C_NoDefinitions) (.ref C_NoEdit) = some false)
    (kp_NoLabel : PySem.W.kitOne K (.ref C_NoLabel) (.ref cP) = some true)
    (kv_NoLabel : PySem.W.kitOne K (.ref C_NoLabel) (.type "ValueError") = some true)
    (k_NoLabel_NoSource : PySem.W.kitOne K (.ref C_NoLabel) (.ref C_NoSource) = some false)
    (k_NoLabel_NoDefinitions : PySem.W.kitOne K (.ref C_NoLabel) (.ref C_NoDefinitions) = some false)
    (k_NoLabel_NoLabel : PySem.W.kitOne K (.ref C_NoLabel) (.ref C_NoLabel) = some true)
    (k_NoLabel_NoTree : PySem.W.kitOne K (.ref C_NoLabel) (.ref C_NoTree) = some false)
    (k_NoLabel_NoText : PySem.W.kitOne K (.ref C_NoLabel) (.ref C_NoText) = some false)
    (k_NoLabel_NoEdit : PySem.W.kitOne K (.ref C_NoLabel) (.ref C_NoEdit) = some false)
    (kp_NoTree : PySem.W.kitOne K (.ref C_NoTree) (.ref cP) = some true)
    (kv_NoTree : PySem.W.kitOne K (.ref C_NoTree) (.type "ValueError") = some true)
    (k_NoTree_NoSource : PySem.W.kitOne K (.ref C_NoTree) (.ref C_NoSource) = some false)
    (k_NoTree_NoDefinitions : PySem.W.kitOne K (.ref C_NoTree) (.ref C_NoDefinitions) = some false)
    (k_NoTree_NoLabel : PySem.W.kitOne K (.ref C_NoTree) (.ref C_NoLabel) = some false)
    (k_NoTree_NoTree : PySem.W.kitOne K (.ref C_NoTree) (.ref C_NoTree) = some true)
    (k_NoTree_NoText : PySem.W.kitOne K (.ref C_NoTree) (.ref C_NoText) = some false)
    (k_NoTree_NoEdit : PySem.W.kitOne K (.ref C_NoTree) (.ref C_NoEdit) = some false)
    (kp_NoText : PySem.W.kitOne K (.ref C_NoText) (.ref cP) = some true)
    (kv_NoText : PySem.W.kitOne K (.ref C_NoText) (.type "ValueError") = some true)
    (k_NoText_NoSource : PySem.W.kitOne K (.ref C_NoText) (.ref C_NoSource) = some false)
    (k_NoText_NoDefinitions : PySem.W.kitOne K (.ref C_NoText) (.ref C_NoDefinitions) = some false)
    (k_NoText_NoLabel : PySem.W.kitOne K (.ref C_NoText) (.ref C_NoLabel) = some false)
    (k_NoText_NoTree : PySem.W.kitOne K (.ref C_NoText) (.ref C_NoTree) = some false)
    (k_NoText_NoText : PySem.W.kitOne K (.ref C_NoText) (.ref C_NoText) = some true)
    (k_NoText_NoEdit : PySem.W.kitOne K (.ref C_NoText) (.ref C_NoEdit) = some false)
    (kp_NoEdit : PySem.W.kitOne K (.ref C_NoEdit) (.ref cP) = some true)
    (kv_NoEdit : PySem.W.kitOne K (.ref C_NoEdit) (.type "ValueError") = some true)
    (k_NoEdit_NoSource : PySem.W.kitOne K (.ref C_NoEdit) (.ref C_NoSource) = some false)
    (k_NoEdit_NoDefinitions : PySem.W.kitOne K (.ref C_NoEdit) (.ref C_NoDefinitions) = some false)
    (k_NoEdit_NoLabel : PySem.W.kitOne K (.ref C_NoEdit) (.ref C_NoLabel) = some false)
    (k_NoEdit_NoTree : PySem.W.kitOne K (.ref C_NoEdit) (.ref C_NoTree) = some false)
    (k_NoEdit_NoText : PySem.W.kitOne K (.ref C_NoEdit) (.ref C_NoText) = some false)
    (k_NoEdit_NoEdit : PySem.W.kitOne K (.ref C_NoEdit) (.ref C_NoEdit) = some true)
    : ∃ fd : FuncData, (∀ (s : Shared) (v : Value), BindsTo s fd ⟨[v], []⟩ [("_law_script", v)]) ∧ ∀ base : Heap, K.In base → base.Ns mainGlobals mg → FnOk l.prog w K mg base CX0 2 fa fd ["_law_script"] (sp_law K) := by
  have e := hfa.symm.trans (PySem.W.mg_of X G a1)
  cases e
  have F0 := fun_mk (st := s__law_kinds) l0 c0 k0
  have F1 := fun_mk (st := s_law) l1 c1 k1
  have b0 := F0.binds (ps := ["_law_err"]) fun _ _ _ _ _ _ us hl => match us, hl with | [_], _ => rfl
  have T_NoSource := cls_NoSource (P := l.prog) h1_NoSource h2_NoSource h3_NoSource h4_NoSource h5_NoSource h6_NoSource h7_NoSource h8_NoSource h9_NoSource h10_NoSource h11_NoSource h12_NoSource h13_NoSource h14_NoSource h15_NoSource o_any h17_NoSource h18_NoSource o_top h20_NoSource
  have T_NoDefinitions := cls_NoDefinitions (P := l.prog) h1_NoDefinitions h2_NoDefinitions h3_NoDefinitions h4_NoDefinitions h5_NoDefinitions h6_NoDefinitions h7_NoDefinitions h8_NoDefinitions h9_NoDefinitions h10_NoDefinitions h11_NoDefinitions h12_NoDefinitions h13_NoDefinitions h14_NoDefinitions h15_NoDefinitions o_any h17_NoDefinitions h18_NoDefinitions o_top
  have T_NoLabel := cls_NoLabel (P := l.prog) h1_NoLabel h2_NoLabel h3_NoLabel h4_NoLabel h5_NoLabel h6_NoLabel h7_NoLabel h8_NoLabel h9_NoLabel h10_NoLabel h11_NoLabel h12_NoLabel h13_NoLabel h14_NoLabel h15_NoLabel o_any h17_NoLabel h18_NoLabel o_top
  have T_NoTree := cls_NoTree (P := l.prog) h1_NoTree h2_NoTree h3_NoTree h4_NoTree h5_NoTree h6_NoTree h7_NoTree h8_NoTree h9_NoTree h10_NoTree h11_NoTree h12_NoTree h13_NoTree h14_NoTree h15_NoTree o_any h17_NoTree h18_NoTree o_top
  have T_NoText := cls_NoText (P := l.prog) h1_NoText h2_NoText h3_NoText h4_NoText h5_NoText h6_NoText h7_NoText h8_NoText h9_NoText h10_NoText h11_NoText h12_NoText h13_NoText h14_NoText h15_NoText o_any h17_NoText h18_NoText o_top
  have T_NoEdit := cls_NoEdit (P := l.prog) h1_NoEdit h2_NoEdit h3_NoEdit h4_NoEdit h5_NoEdit h6_NoEdit h7_NoEdit h8_NoEdit h9_NoEdit h10_NoEdit h11_NoEdit h12_NoEdit h13_NoEdit h14_NoEdit h15_NoEdit o_any h17_NoEdit h18_NoEdit o_top h20_NoEdit
  have Z : Zt l.prog K mg := {
    z_super := PySem.W.mg_none_of X G z_super, z_ValueError := PySem.W.mg_none_of X G z_ValueError, z_isinstance := PySem.W.mg_none_of X G z_isinstance, z_enumerate := PySem.W.mg_none_of X G z_enumerate, z_range := PySem.W.mg_none_of X G z_range, z_int := PySem.W.mg_none_of X G z_int,
    a_PlainmarkError := cP, g_PlainmarkError := PySem.W.mg_of X G q_P,
    a_NoSource := C_NoSource, f_NoSource := F_NoSource, d_NoSource := _, g_NoSource := PySem.W.mg_of X G q_NoSource, t_NoSource := T_NoSource, x_NoSource := ⟨x1_NoSource, x2_NoSource, h4_NoSource, x3_NoSource, x4_NoSource, o_get, o_tak, x5_NoSource⟩, b_NoSource := fun _ _ _ => .of_eq rfl, e_NoSource := fun _ _ _ => .of_eq rfl, n_NoSource := h20_NoSource, kp_NoSource := kp_NoSource, kv_NoSource := kv_NoSource, k_NoSource_NoSource := k_NoSource_NoSource, k_NoSource_NoDefinitions := k_NoSource_NoDefinitions, k_NoSource_NoLabel := k_NoSource_NoLabel, k_NoSource_NoTree := k_NoSource_NoTree, k_NoSource_NoText := k_NoSource_NoText, k_NoSource_NoEdit := k_NoSource_NoEdit,
    a_NoDefinitions := C_NoDefinitions, f_NoDefinitions := F_NoDefinitions, d_NoDefinitions := _, g_NoDefinitions := PySem.W.mg_of X G q_NoDefinitions, t_NoDefinitions := T_NoDefinitions, x_NoDefinitions := ⟨x1_NoDefinitions, x2_NoDefinitions, h4_NoDefinitions, x3_NoDefinitions, x4_NoDefinitions, o_get, o_tak, x5_NoDefinitions⟩, b_NoDefinitions := fun _ _ => .of_eq rfl, kp_NoDefinitions := kp_NoDefinitions, kv_NoDefinitions := kv_NoDefinitions, k_NoDefinitions_NoSource := k_NoDefinitions_NoSource, k_NoDefinitions_NoDefinitions := k_NoDefinitions_NoDefinitions, k_NoDefinitions_NoLabel := k_NoDefinitions_NoLabel, k_NoDefinitions_NoTree := k_NoDefinitions_NoTree, k_NoDefinitions_NoText := k_NoDefinitions_NoText, k_NoDefinitions_NoEdit := k_NoDefinitions_NoEdit,
    a_NoLabel := C_NoLabel, f_NoLabel := F_NoLabel, d_NoLabel := _, g_NoLabel := PySem.W.mg_of X G q_NoLabel, t_NoLabel := T_NoLabel, x_NoLabel := ⟨x1_NoLabel, x2_NoLabel, h4_NoLabel, x3_NoLabel, x4_NoLabel, o_get, o_tak, x5_NoLabel⟩, b_NoLabel := fun _ _ => .of_eq rfl, kp_NoLabel := kp_NoLabel, kv_NoLabel := kv_NoLabel, k_NoLabel_NoSource := k_NoLabel_NoSource, k_NoLabel_NoDefinitions := k_NoLabel_NoDefinitions, k_NoLabel_NoLabel := k_NoLabel_NoLabel, k_NoLabel_NoTree := k_NoLabel_NoTree, k_NoLabel_NoText := k_NoLabel_NoText, k_NoLabel_NoEdit := k_NoLabel_NoEdit,
    a_NoTree := C_NoTree, f_NoTree := F_NoTree, d_NoTree := _, g_NoTree := PySem.W.mg_of X G q_NoTree, t_NoTree := T_NoTree, x_NoTree := ⟨x1_NoTree, x2_NoTree, h4_NoTree, x3_NoTree, x4_NoTree, o_get, o_tak, x5_NoTree⟩, b_NoTree := fun _ _ => .of_eq rfl, kp_NoTree := kp_NoTree, kv_NoTree := kv_NoTree, k_NoTree_NoSource := k_NoTree_NoSource, k_NoTree_NoDefinitions := k_NoTree_NoDefinitions, k_NoTree_NoLabel := k_NoTree_NoLabel, k_NoTree_NoTree := k_NoTree_NoTree, k_NoTree_NoText := k_NoTree_NoText, k_NoTree_NoEdit := k_NoTree_NoEdit,
    a_NoText := C_NoText, f_NoText := F_NoText, d_NoText := _, g_NoText := PySem.W.mg_of X G q_NoText, t_NoText := T_NoText, x_NoText := ⟨x1_NoText, x2_NoText, h4_NoText, x3_NoText, x4_NoText, o_get, o_tak, x5_NoText⟩, b_NoText := fun _ _ => .of_eq rfl, kp_NoText := kp_NoText, kv_NoText := kv_NoText, k_NoText_NoSource := k_NoText_NoSource, k_NoText_NoDefinitions := k_NoText_NoDefinitions, k_NoText_NoLabel := k_NoText_NoLabel, k_NoText_NoTree := k_NoText_NoTree, k_NoText_NoText := k_NoText_NoText, k_NoText_NoEdit := k_NoText_NoEdit,
    a_NoEdit := C_NoEdit, f_NoEdit := F_NoEdit, d_NoEdit := _, g_NoEdit := PySem.W.mg_of X G q_NoEdit, t_NoEdit := T_NoEdit, x_NoEdit := ⟨x1_NoEdit, x2_NoEdit, h4_NoEdit, x3_NoEdit, x4_NoEdit, o_get, o_tak, x5_NoEdit⟩, b_NoEdit := fun _ _ _ => .of_eq rfl, e_NoEdit := fun _ _ _ => .of_eq rfl, n_NoEdit := h20_NoEdit, kp_NoEdit := kp_NoEdit, kv_NoEdit := kv_NoEdit, k_NoEdit_NoSource := k_NoEdit_NoSource, k_NoEdit_NoDefinitions := k_NoEdit_NoDefinitions, k_NoEdit_NoLabel := k_NoEdit_NoLabel, k_NoEdit_NoTree := k_NoEdit_NoTree, k_NoEdit_NoText := k_NoEdit_NoText, k_NoEdit_NoEdit := k_NoEdit_NoEdit,
    a__law_kinds := f0, d__law_kinds := _, f__law_kinds := F0, g__law_kinds := PySem.W.mg_of X G a0, b__law_kinds := b0 }
  exact ⟨PySem.W.fnOf "law" "law" (defArgs s_law) (defBody s_law) (defScope s_law) .none kV1 dc1 pm1 an1 cd1 ct1, fun s v => .of_eq rfl, fun base _ _ => ok_law Z F1⟩
end K03
open PySem PySem.W PyProof.Rows
set_option maxHeartbeats 0 in
theorem PySem.Challenge.cw_plainmark_k03_errors_apart_holds : PySem.Challenge.rw_plainmark_k03_errors_apart.Holds := by
  w_on; o_law; k_head; (case hw => w_witness2)
  k_fill
  refine L2.walk_of (l := PySem.Challenge.rw_plainmark_k03_errors_apart) (n := 63) (k := 2) (x := "_law_script") (CX := fun _ => L2.CX0) (sp := fun w => K03.sp_law _) rfl (by decide) rfl ⟨rfl, by decide, by decide⟩ (fun w h Y => PySem.W.kIn_of Y) ?F (fun _ _ a ns hl _ hS => ⟨a, ns, rfl, hS, hl, fun _ => rfl⟩) (fun _ _ _ _ _ h => h)
  case F =>
    intro w mg fa h KX G hmg
    refine' K03.all_mk KX G hmg ?a0 ?l0 ?c0 ?k0 ?a1 ?l1 ?c1 ?k1 ?z_super ?z_ValueError ?z_isinstance ?z_enumerate ?z_range ?z_int ?q_P ?o_any ?o_top ?o_get ?o_tak ?q_NoSource ?h1_NoSource ?h2_NoSource ?h3_NoSource ?h4_NoSource ?h5_NoSource ?h6_NoSource ?h7_NoSource ?h8_NoSource ?h9_NoSource ?h10_NoSource ?h11_NoSource ?h12_NoSource ?h13_NoSource ?h14_NoSource ?h15_NoSource ?h17_NoSource ?h18_NoSource ?h20_NoSource ?x1_NoSource ?x2_NoSource ?x3_NoSource ?x4_NoSource ?x5_NoSource ?q_NoDefinitions ?h1_NoDefinitions ?h2_NoDefinitions ?h3_NoDefinitions ?h4_NoDefinitions ?h5_NoDefinitions ?h6_NoDefinitions ?h7_NoDefinitions ?h8_NoDefinitions ?h9_NoDefinitions ?h10_NoDefinitions ?h11_NoDefinitions ?h12_NoDefinitions ?h13_NoDefinitions ?h14_NoDefinitions ?h15_NoDefinitions ?h17_NoDefinitions ?h18_NoDefinitions ?x1_NoDefinitions ?x2_NoDefinitions ?x3_NoDefinitions ?x4_NoDefinitions ?x5_NoDefinitions ?q_NoLabel ?h1_NoLabel ?h2_NoLabel ?h3_NoLabel ?h4_NoLabel ?h5_NoLabel ?h6_NoLabel ?h7_NoLabel ?h8_NoLabel ?h9_NoLabel ?h10_NoLabel ?h11_NoLabel ?h12_NoLabel ?h13_NoLabel ?h14_NoLabel ?h15_NoLabel ?h17_NoLabel ?h18_NoLabel ?x1_NoLabel ?x2_NoLabel ?x3_NoLabel ?x4_NoLabel ?x5_NoLabel ?q_NoTree ?h1_NoTree ?h2_NoTree ?h3_NoTree ?h4_NoTree ?h5_NoTree ?h6_NoTree ?h7_NoTree ?h8_NoTree ?h9_NoTree ?h10_NoTree ?h11_NoTree ?h12_NoTree ?h13_NoTree ?h14_NoTree ?h15_NoTree ?h17_NoTree ?h18_NoTree ?x1_NoTree ?x2_NoTree ?x3_NoTree ?x4_NoTree ?x5_NoTree ?q_NoText ?h1_NoText ?h2_NoText ?h3_NoText ?h4_NoText ?h5_NoText ?h6_NoText ?h7_NoText ?h8_NoText ?h9_NoText ?h10_NoText ?h11_NoText ?h12_NoText ?h13_NoText ?h14_NoText ?h15_NoText ?h17_NoText ?h18_NoText ?x1_NoText ?x2_NoText ?x3_NoText ?x4_NoText ?x5_NoText ?q_NoEdit ?h1_NoEdit ?h2_NoEdit ?h3_NoEdit ?h4_NoEdit ?h5_NoEdit ?h6_NoEdit ?h7_NoEdit ?h8_NoEdit ?h9_NoEdit ?h10_NoEdit ?h11_NoEdit ?h12_NoEdit ?h13_NoEdit ?h14_NoEdit ?h15_NoEdit ?h17_NoEdit ?h18_NoEdit ?h20_NoEdit ?x1_NoEdit ?x2_NoEdit ?x3_NoEdit ?x4_NoEdit ?x5_NoEdit ?kp_NoSource ?kv_NoSource ?k_NoSource_NoSource ?k_NoSource_NoDefinitions ?k_NoSource_NoLabel ?k_NoSource_NoTree ?k_NoSource_NoText ?k_NoSource_NoEdit ?kp_NoDefinitions ?kv_NoDefinitions ?k_NoDefinitions_NoSource ?k_NoDefinitions_NoDefinitions ?k_NoDefinitions_NoLabel ?k_NoDefinitions_NoTree ?k_NoDefinitions_NoText ?k_NoDefinitions_NoEdit ?kp_NoLabel ?kv_NoLabel ?k_NoLabel_NoSource ?k_NoLabel_NoDefinitions ?k_NoLabel_NoLabel ?k_NoLabel_NoTree ?k_NoLabel_NoText ?k_NoLabel_NoEdit ?kp_NoTree ?kv_NoTree ?k_NoTree_NoSource ?k_NoTree_NoDefinitions ?k_NoTree_NoLabel ?k_NoTree_NoTree ?k_NoTree_NoText ?k_NoTree_NoEdit ?kp_NoText ?kv_NoText ?k_NoText_NoSource ?k_NoText_NoDefinitions ?k_NoText_NoLabel ?k_NoText_NoTree ?k_NoText_NoText ?k_NoText_NoEdit ?kp_NoEdit ?kv_NoEdit ?k_NoEdit_NoSource ?k_NoEdit_NoDefinitions ?k_NoEdit_NoLabel ?k_NoEdit_NoTree ?k_NoEdit_NoText ?k_NoEdit_NoEdit
    (case a0 => k_is); (case l0 => k_is); (case c0 => k_is); (case k0 => k_is); (case a1 => k_is); (case l1 => k_is); (case c1 => k_is); (case k1 => k_is); (case z_super => k_is); (case z_ValueError => k_is); (case z_isinstance => k_is); (case z_enumerate => k_is); (case z_range => k_is); (case z_int => k_is); (case q_P => k_is); (case o_any => k_is); (case o_top => first | rfl | k_is | decide +kernel); (case o_get => k_is); (case o_tak => k_is); (case q_NoSource => k_is); (case h1_NoSource => k_is); (case h2_NoSource => first | rfl | k_is | decide +kernel); (case h3_NoSource => k_is); (case h4_NoSource => k_is); (case h5_NoSource => k_is); (case h6_NoSource => k_is); (case h7_NoSource => k_is); (case h8_NoSource => k_is); (case h9_NoSource => k_is); (case h10_NoSource => k_is); (case h11_NoSource => k_is); (case h12_NoSource => first | rfl | k_is | decide +kernel); (case h13_NoSource => first | rfl | k_is | decide +kernel); (case h14_NoSource => k_is); (case h15_NoSource => k_is); (case h17_NoSource => ks_is); (case h18_NoSource => k_is); (case h20_NoSource => k_is); (case x1_NoSource => k_is); (case x2_NoSource => k_is); (case x3_NoSource => k_is); (case x4_NoSource => k_is); (case x5_NoSource => k_is); (case q_NoDefinitions => k_is); (case h1_NoDefinitions => k_is); (case h2_NoDefinitions => first | rfl | k_is | decide +kernel); (case h3_NoDefinitions => k_is); (case h4_NoDefinitions => k_is); (case h5_NoDefinitions => k_is); (case h6_NoDefinitions => k_is); (case h7_NoDefinitions => k_is); (case h8_NoDefinitions => k_is); (case h9_NoDefinitions => k_is); (case h10_NoDefinitions => k_is); (case h11_NoDefinitions => k_is); (case h12_NoDefinitions => first | rfl | k_is | decide +kernel); (case h13_NoDefinitions => first | rfl | k_is | decide +kernel); (case h14_NoDefinitions => k_is); (case h15_NoDefinitions => k_is); (case h17_NoDefinitions => ks_is); (case h18_NoDefinitions => k_is); (case x1_NoDefinitions => k_is); (case x2_NoDefinitions => k_is); (case x3_NoDefinitions => k_is); (case x4_NoDefinitions => k_is); (case x5_NoDefinitions => k_is); (case q_NoLabel => k_is); (case h1_NoLabel => k_is); (case h2_NoLabel => first | rfl | k_is | decide +kernel); (case h3_NoLabel => k_is); (case h4_NoLabel => k_is); (case h5_NoLabel => k_is); (case h6_NoLabel => k_is); (case h7_NoLabel => k_is); (case h8_NoLabel => k_is); (case h9_NoLabel => k_is); (case h10_NoLabel => k_is); (case h11_NoLabel => k_is); (case h12_NoLabel => first | rfl | k_is | decide +kernel); (case h13_NoLabel => first | rfl | k_is | decide +kernel); (case h14_NoLabel => k_is); (case h15_NoLabel => k_is); (case h17_NoLabel => ks_is); (case h18_NoLabel => k_is); (case x1_NoLabel => k_is); (case x2_NoLabel => k_is); (case x3_NoLabel => k_is); (case x4_NoLabel => k_is); (case x5_NoLabel => k_is); (case q_NoTree => k_is); (case h1_NoTree => k_is); (case h2_NoTree => first | rfl | k_is | decide +kernel); (case h3_NoTree => k_is); (case h4_NoTree => k_is); (case h5_NoTree => k_is); (case h6_NoTree => k_is); (case h7_NoTree => k_is); (case h8_NoTree => k_is); (case h9_NoTree => k_is); (case h10_NoTree => k_is); (case h11_NoTree => k_is); (case h12_NoTree => first | rfl | k_is | decide +kernel); (case h13_NoTree => first | rfl | k_is | decide +kernel); (case h14_NoTree => k_is); (case h15_NoTree => k_is); (case h17_NoTree => ks_is); (case h18_NoTree => k_is); (case x1_NoTree => k_is); (case x2_NoTree => k_is); (case x3_NoTree => k_is); (case x4_NoTree => k_is); (case x5_NoTree => k_is); (case q_NoText => k_is); (case h1_NoText => k_is); (case h2_NoText => first | rfl | k_is | decide +kernel); (case h3_NoText => k_is); (case h4_NoText => k_is); (case h5_NoText => k_is); (case h6_NoText => k_is); (case h7_NoText => k_is); (case h8_NoText => k_is); (case h9_NoText => k_is); (case h10_NoText => k_is); (case h11_NoText => k_is); (case h12_NoText => first | rfl | k_is | decide +kernel); (case h13_NoText => first | rfl | k_is | decide +kernel); (case h14_NoText => k_is); (case h15_NoText => k_is); (case h17_NoText => ks_is); (case h18_NoText => k_is); (case x1_NoText => k_is); (case x2_NoText => k_is); (case x3_NoText => k_is); (case x4_NoText => k_is); (case x5_NoText => k_is); (case q_NoEdit => k_is); (case h1_NoEdit => k_is); (case h2_NoEdit => first | rfl | k_is | decide +kernel); (case h3_NoEdit => k_is); (case h4_NoEdit => k_is); (case h5_NoEdit => k_is); (case h6_NoEdit => k_is); (case h7_NoEdit => k_is); (case h8_NoEdit => k_is); (case h9_NoEdit => k_is); (case h10_NoEdit => k_is); (case h11_NoEdit => k_is); (case h12_NoEdit => first | rfl | k_is | decide +kernel); (case h13_NoEdit => first | rfl | k_is | decide +kernel); (case h14_NoEdit => k_is); (case h15_NoEdit => k_is); (case h17_NoEdit => ks_is); (case h18_NoEdit => k_is); (case h20_NoEdit => k_is); (case x1_NoEdit => k_is); (case x2_NoEdit => k_is); (case x3_NoEdit => k_is); (case x4_NoEdit => k_is); (case x5_NoEdit => k_is); (case kp_NoSource => kit_is); (case kv_NoSource => kit_is); (case k_NoSource_NoSource => kit_is); (case k_NoSource_NoDefinitions => kit_is); (case k_NoSource_NoLabel => kit_is); (case k_NoSource_NoTree => kit_is); (case k_NoSource_NoText => kit_is); (case k_NoSource_NoEdit => kit_is); (case kp_NoDefinitions => kit_is); (case kv_NoDefinitions => kit_is); (case k_NoDefinitions_NoSource => kit_is); (case k_NoDefinitions_NoDefinitions => kit_is); (case k_NoDefinitions_NoLabel => kit_is); (case k_NoDefinitions_NoTree => kit_is); (case k_NoDefinitions_NoText => kit_is); (case k_NoDefinitions_NoEdit => kit_is); (case kp_NoLabel => kit_is); (case kv_NoLabel => kit_is); (case k_NoLabel_NoSource => kit_is); (case k_NoLabel_NoDefinitions => kit_is); (case k_NoLabel_NoLabel => kit_is); (case k_NoLabel_NoTree => kit_is); (case k_NoLabel_NoText => kit_is); (case k_NoLabel_NoEdit => kit_is); (case kp_NoTree => kit_is); (case kv_NoTree => kit_is); (case k_NoTree_NoSource => kit_is); (case k_NoTree_NoDefinitions => kit_is); (case k_NoTree_NoLabel => kit_is); (case k_NoTree_NoTree => kit_is); (case k_NoTree_NoText => kit_is); (case k_NoTree_NoEdit => kit_is); (case kp_NoText => kit_is); (case kv_NoText => kit_is); (case k_NoText_NoSource => kit_is); (case k_NoText_NoDefinitions => kit_is); (case k_NoText_NoLabel => kit_is); (case k_NoText_NoTree => kit_is); (case k_NoText_NoText => kit_is); (case k_NoText_NoEdit => kit_is); (case kp_NoEdit => kit_is); (case kv_NoEdit => kit_is); (case k_NoEdit_NoSource => kit_is); (case k_NoEdit_NoDefinitions => kit_is); (case k_NoEdit_NoLabel => kit_is); (case k_NoEdit_NoTree => kit_is); (case k_NoEdit_NoText => kit_is); (case k_NoEdit_NoEdit => kit_is)

