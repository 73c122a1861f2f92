import PyProof.Rows.All
import Wide.All
import OpenK.AllK
import Wide.FinOn
import HandS.ForMost
import HandS.Wide
import HandS.StrMore
import HandS.Style
import HandS.Flow
import HandS.Walk
import PyProof.Draws
import PyProof.StrOps2

import HandS.IntHex
import HandS.Dict
import HandS.More
import KE.KIntText
import HandS.ReplaceLit
import PyProof.ToksMono
import HandS.CallLocal
import HandS.RevRange
import HandS.Conv
import HandS.Zip
import HandS.TupAny
import HandS.ReplaceDef
import HandS.ReplaceList
import KE.GoesMore
import KE.GoesZip
import OpenK.KMore
import HandS.IsInst
import HandS.FStr
import HandS.TryOnly
import HandS.WordsExc
import KE.KSuper
import KE.KExcSuper
import HandS.ExcInit
import HandS.ExcIs
import HandS.ExcOwn
import HandS.ExcValue
import HandS.ExcField
import HandS.MakeKwOnly
import KE.RegKSuper
import KE.RegKIsAll
import PyProof.Rows.StrSplitMax
import HandS.StrSplit
import PySem.Challenge.RW_plainmark_k16_whole_facts_of_pages

set_option Elab.async false
set_option linter.all false
set_option maxRecDepth 100000
/-! words of my own over the hand layer -/
namespace My
open PySem PySem.Spec PyProof.Rows L2

/-- a text by its signs -/
def S (l : List Nat) : Str := ⟨l.toArray⟩
theorem S_tl (l : List Nat) : (S l).cps.toList = l := by simp [S]
theorem S_of (z : Str) : z = S z.cps.toList := by
  cases z
  simp [S]
theorem S_len (l : List Nat) : (S l).length = l.length := by simp [S, Str.length]
theorem S_size (l : List Nat) : (S l).cps.size = l.length := by simp [S]
theorem S_get (l : List Nat) (i : Nat) : (S l).cps[i]? = l[i]? := by simp [S]
theorem S_app (a b : List Nat) : S a ++ S b = S (a ++ b) := by
  show (⟨a.toArray ++ b.toArray⟩ : Str) = ⟨(a ++ b).toArray⟩
  simp
theorem S_inj {a b : List Nat} (h : S a = S b) : a = b := by
  have := congrArg (fun z : Str => z.cps.toList) h
  simpa [S] using this
theorem S_dec (a b : List Nat) : decide (V.str (S a) = V.str (S b)) = decide (a = b) := by
  by_cases h : a = b
  · subst h
    simp
  · have h2 : ¬ V.str (S a) = V.str (S b) := fun e => h (S_inj (V.str.inj e))
    simp [h, h2]
theorem S_cut (l : List Nat) (k : Nat) : cutS (S l) (some (k : Int)) none = S (l.drop k) := by
  unfold cutS
  rw [HT.sIx_nat, HT.sIx_none, S_len, S_tl]
  show S _ = S _
  congr 1
  by_cases h : k ≤ l.length
  · rw [Nat.min_eq_left h]
    exact List.take_of_length_le (by rw [List.length_drop]; omega)
  · rw [Nat.min_eq_right (by omega), Nat.sub_self, List.take_zero, List.drop_of_length_le (by omega)]
theorem S_cut2 (l : List Nat) (j k : Nat) (h : j ≤ k) : cutS (S l) (some (j : Int)) (some (k : Int)) = S ((l.drop j).take (k - j)) := by
  unfold cutS
  rw [HT.sIx_nat, HT.sIx_nat, S_len, S_tl]
  show S _ = S _
  congr 1
  by_cases h1 : j ≤ l.length
  · rw [Nat.min_eq_left h1]
    by_cases h2 : k ≤ l.length
    · rw [Nat.min_eq_left h2]
    · rw [Nat.min_eq_right (by omega), List.take_of_length_le (by rw [List.length_drop]; omega), List.take_of_length_le (by rw [List.length_drop]; omega)]
  · rw [List.drop_of_length_le (by omega), List.drop_of_length_le (by omega), List.take_nil, List.take_nil]

/-- all that is tracked but L stays -/
def Keeps (L : Addr) (H H' : Hp) : Prop := ∀ b o, b ≠ L → H b = some o → H' b = some o
theorem Keeps.refl {L : Addr} (H : Hp) : Keeps L H H := fun _ _ _ h => h
theorem Keeps.trans {L : Addr} {H H1 H2 : Hp} (a : Keeps L H H1) (b : Keeps L H1 H2) : Keeps L H H2 := fun c o n h => b c o n (a c o n h)
theorem Keeps.new {L p : Addr} {H : Hp} {o : HO} (h : H p = none) : Keeps L H (upd H p o) := fun b u _ e => by
  rw [upd_ne (ne_of_none e h)]
  exact e
theorem Keeps.at {L : Addr} {H : Hp} {o : HO} : Keeps L H (upd H L o) := fun b u n e => by
  rw [upd_ne n]
  exact e
theorem Keeps.of {L : Addr} {H H' : Hp} (h : Same H H') : Keeps L H H' := fun b o _ e => h b o e
theorem same_new {p : Addr} {H : Hp} {o : HO} (h : H p = none) : Same H (upd H p o) := fun b u e => by
  rw [upd_ne (ne_of_none e h)]
  exact e
/-- a well of draws -/
def Well (H : Hp) (L : Addr) : Prop := ∃ x y : Int, H L = some (.lst [.int x, .int y])
theorem Well.same {H H' : Hp} {L : Addr} (h : Well H L) (s : Same H H') : Well H' L := by
  obtain ⟨x, y, e⟩ := h
  exact ⟨x, y, s _ _ e⟩
theorem Well.new {H : Hp} {L p : Addr} {o : HO} (h : Well H L) (n : H p = none) : Well (upd H p o) L := h.same (same_new n)
theorem Well.ne {H : Hp} {L p : Addr} (h : Well H L) (n : H p = none) : p ≠ L := by
  obtain ⟨x, y, e⟩ := h
  exact (ne_of_none e n).symm
theorem Well.kept {H H' : Hp} {L p : Addr} (h : Well H L) (k : Keeps L H H') (w : Well H' L) (n : H' p = none) : H p = none := by
  cases q : H p with
  | none => rfl
  | some o =>
    have z := k p o (w.ne n) q
    rw [n] at z
    cases z
theorem Keeps.free {L p : Addr} {H H' : Hp} (k : Keeps L H H') (n : H' p = none) (h : p ≠ L) : H p = none := by
  cases q : H p with
  | none => rfl
  | some o =>
    have z := k p o h q
    rw [n] at z
    cases z
theorem Keeps.seq {K : PySem.W.Frag} {L a : Addr} {H H' : Hp} {xs : List V} (k : Keeps L H H') (n : a ≠ L) (h : SqL K H a xs) : SqL K H' a xs := by
  rcases h with (h | ⟨o, h⟩) | h
  · exact .inl (.inl (k _ _ n h))
  · exact .inl (.inr ⟨o, k _ _ n h⟩)
  · exact .inr h
theorem Keeps.tup {K : PySem.W.Frag} {L a : Addr} {H H' : Hp} {xs : List V} (k : Keeps L H H') (n : a ≠ L) (h : SqT K H a xs) : SqT K H' a xs := by
  rcases h with (h | ⟨o, h⟩) | h
  · exact .inl (.inl (k _ _ n h))
  · exact .inl (.inr ⟨o, k _ _ n h⟩)
  · exact .inr h

section
variable {X : Cx}
/-- one sign, so often -/
theorem op_mul_str : OpR X (binaryOp .Mult) (fun x y H Q => ∃ (c j : Nat), x = .str (S [c]) ∧ y = .int (j : Int) ∧ j ≤ 1000 ∧ Q (.str (S (List.replicate j c))) H) := by
  intro pins s σ H x y v u Q I rx ry h
  obtain ⟨c, j, rfl, rfl, hj, q⟩ := h
  obtain ⟨t, rfl⟩ := rx
  obtain ⟨t', rfl⟩ := ry
  have hlen : (S [c]).length = 1 := S_len _
  refine PySem.P.mul_str (by simp; omega) (fun _ _ => by
    rw [hlen]
    have : (1 : Int) ≤ (2 ^ 63 - 1) / (j : Int) := by
      by_cases hj0 : j = 0
      · omega
      · refine Int.le_ediv_of_mul_le (by omega) ?_
        omega
    omega) (fun _ _ => by
    rw [hlen]
    have : (j : Int).toNat = j := by omega
    rw [this]
    exact decide_eq_false (by rw [sizeLine_eq]; omega)) ?_
  have fin : ∀ (l : List Nat), l = List.replicate j c → ∀ (v : Value) (k : Nat), RelV (.str (S l)) v → EP X pins σ Q v { s with toks := k } := fun l e v k r => ⟨.str (S l), H, I.tok _, r, by rw [e]; exact q⟩
  by_cases h0 : (j : Int) < 1
  · have e0 : j = 0 := by omega
    rw [if_pos h0]
    exact ⟨by decide, fin [] (by rw [e0]; rfl) _ _ ⟨_, rfl⟩⟩
  · rw [if_neg h0]
    by_cases h1 : j = 1
    · subst h1
      rw [if_pos (by rfl)]
      exact fin [c] rfl _ s.toks ⟨_, rfl⟩
    · rw [if_neg (by rw [hlen]; simp; omega)]
      have e : (⟨(List.replicate (j : Int).toNat (S [c]).cps).foldl (· ++ ·) #[]⟩ : Str) = S (List.replicate j c) := by
        have ej : (j : Int).toNat = j := by omega
        rw [ej]
        have gen : ∀ (n : Nat) (acc : List Nat), (List.replicate n (S [c]).cps).foldl (· ++ ·) acc.toArray = (acc ++ List.replicate n c).toArray := by
          intro n
          induction n with
          | zero => intro acc; simp
          | succ n ih =>
            intro acc
            rw [List.replicate_succ, List.foldl_cons]
            have : acc.toArray ++ (S [c]).cps = (acc ++ [c]).toArray := by simp [S]
            rw [this, ih, List.replicate_succ]
            simp
        have := gen j []
        simp at this
        unfold S
        congr 1
      rw [e]
      refine ⟨?_, fin _ rfl _ _ ⟨_, rfl⟩⟩
      rw [S_len, List.length_replicate, sizeLine_eq]
      omega

/-- a text with its places -/
def Its2 (z : Str) : It :=
  ⟨fun i _ => i < z.cps.size, fun i H v H' => ∃ T c, v = .ref T ∧ H T = none ∧ H' = upd H T (.tup [.int (i : Nat), .str (S [c])]) ∧ z.cps[i]? = some c, fun i _ => i = z.cps.size⟩
theorem turn_enumS {P : Program} {w : World} {K : PySem.W.Frag} {elts : List Expr} {kk : Nat} {tpos : Pos} (z : Str) (t : Tok) (e it : Addr) :
    Turn P w K (.Tuple elts kk tpos) (Its2 z) [e, it] e (fun i h => (∃ old, IsEnum h e it ((i : Nat) : Int) old) ∧ h.IsStrIter it (strIterType z) z t i ∧ e ≠ it) where
  mem := List.mem_cons_self ..
  obj := fun i h st b hb => by
    obtain ⟨⟨old, he⟩, ⟨o, ho, hc, hd⟩, _⟩ := st
    rcases List.mem_cons.mp hb with rfl | hb
    · exact ⟨_, he, fun v q => nomatch q⟩
    · rw [List.mem_singleton.mp hb]
      exact ⟨o, ho, fun v q => by rw [hd] at q; cases q⟩
  keep := fun i h h' st k => by
    obtain ⟨⟨old, he⟩, ⟨o, ho, r⟩, hne⟩ := st
    exact ⟨⟨old, k e (by simp) _ he⟩, ⟨o, k it (by simp) o ho, r⟩, hne⟩
  item := by
    intro X hP hw hK hc i pins s σ H E I hf st hg
    subst hP hw hK
    obtain ⟨⟨old, he⟩, hit, hne⟩ := st
    have hel : e < s.heap.objs.size := Heap.lt_size he
    have hil : it < s.heap.objs.size := by
      obtain ⟨_, q, _⟩ := hit
      exact Heap.lt_size q
    have hef : e ∉ [it] := fun q => hne (List.mem_singleton.mp q)
    have D : Draws X.prog X.w X.A.in1 it [it] z.cps.size (fun i v => ∃ c u, z.cps[i]? = some c ∧ v = .str ⟨#[c]⟩ u) (fun i h => h.IsStrIter it (strIterType z) z t i) := by
      unfold strIterType
      cases ha : z.cps.all (· < 128)
      · simpa [ha] using Draws.strWide (prog := X.prog) (w := X.w) (A := X.A.in1) (I.ok.hd hc) it z t
      · simpa [ha] using Draws.strAscii (prog := X.prog) (w := X.w) (A := X.A.in1) (I.ok.hd hc) it z t
    refine wpAny_pyNext_enum_itemD D he hit hg hne hef fun x h' tk hx ho hit' hT hsz hk => ?_
    obtain ⟨c, u, hcx, rfl⟩ := hx
    refine ⟨_, rfl, wpAny_letOwnedTupleGo_enum (s := { s with heap := h', toks := tk + 1 }) ho fun h'' he' sb => ?_⟩
    have hT2 : h''.get? s.heap.objs.size = some { cls := .type "tuple", data := .seq #[.int i tk, .str ⟨#[c]⟩ u] } := (sb.2 _ (Nat.ne_of_gt hel)).trans hT
    have new : ObjOk X.prog X.w (upd H s.heap.objs.size (.tup [.int (i : Nat), .str (S [c])])) h'' s.heap.objs.size (.tup [.int (i : Nat), .str (S [c])]) :=
      ⟨by show 2 ≤ sizeLine; decide, [.int i tk, .str ⟨#[c]⟩ u], .cons ⟨_, rfl⟩ (.cons ⟨_, rfl⟩ .nil), ⟨_, hT2, rfl, _, rfl⟩⟩
    have hold : ∀ b ob, b ∉ [e, it] → s.heap.get? b = some ob → h''.get? b = some ob := fun b ob hb q =>
      (sb.2 b (fun q => hb (by simp [q]))).trans (hk b ob (fun q => hb (by simp [q])) (fun q => hb (by simp [q])) q)
    have I1 : Inv X pins σ (upd H s.heap.objs.size (.tup [.int (i : Nat), .str (S [c])])) { s with heap := h'', toks := tk + 1 } :=
      I.turnedNew (t' := tk + 1) (ch := [e, it]) hold hf (Nat.le_refl _) new
    refine ⟨.ref s.heap.objs.size, _, I1, rfl, ⟨_, c, rfl, I.hok.fresh (Nat.le_refl _), rfl, hcx⟩, ⟨⟨.str ⟨#[c]⟩ u, ?_⟩, ?_, hne⟩, fun b hb => ?_⟩
    · have e1 : ((i + 1 : Nat) : Int) = (i : Int) + 1 := Int.natCast_succ i
      rw [e1]
      exact he'
    · obtain ⟨o, q, r⟩ := hit'
      exact ⟨o, (sb.2 it (Ne.symm hne)).trans q, r⟩
    · have hb' : b < s.heap.objs.size := by
        rcases List.mem_cons.mp hb with q | q
        · rw [q]
          exact hel
        · rw [List.mem_singleton.mp q]
          exact hil
      rw [upd_ne (Nat.ne_of_lt hb')]
      exact (hf b hb).1
  done := by
    intro X hP hw hK hc i pins s σ H E I hf st hg
    subst hP hw hK
    obtain ⟨⟨old, he⟩, hit, hne⟩ := st
    obtain ⟨f0, f1, f2, f3, f4, f5⟩ := hf it (by simp)
    have D : Draws X.prog X.w X.A.in1 it [it] z.cps.size (fun i v => ∃ c u, z.cps[i]? = some c ∧ v = .str ⟨#[c]⟩ u) (fun i h => h.IsStrIter it (strIterType z) z t i) := by
      unfold strIterType
      cases ha : z.cps.all (· < 128)
      · simpa [ha] using Draws.strWide (prog := X.prog) (w := X.w) (A := X.A.in1) (I.ok.hd hc) it z t
      · simpa [ha] using Draws.strAscii (prog := X.prog) (w := X.w) (A := X.A.in1) (I.ok.hd hc) it z t
    have hi : i = z.cps.size := hg
    subst hi
    exact wpAny_pyNext_enum_endD D he hit fun h' eb => ⟨rfl, I.turned (t' := s.toks) (fun b o hb q => eb b o hb q) f0 f1 f3 f4 f5⟩
  self := fun A i s Q E st h => by
    obtain ⟨⟨_, he⟩, _⟩ := st
    exact wpAny_pyIter_enum he h
def iEnumS (ta : TA) : TI := fun σ H R => ta σ H fun vs H1 => ∃ z, vs = [.str z] ∧ R (Its2 z) H1
theorem pi_enumS {e : Expr} {ta : TA} {p pos tpos : Pos} {elts : List Expr} {kk : Nat} (hg : Gl X "enumerate") (hm : X.mg "enumerate" = none) (ha : PA X [e] ta)
    (hs : starEach [e] X.env = [(false, eval e X.env)] := by rfl) : PI X (.Tuple elts kk tpos) (.Call (.Name "enumerate" p) [e] [] pos) (iEnumS ta) := by
  refine ⟨fun pins s σ H R I h => ?_⟩
  refine Call_ (ld_blt I hg hm boot_enumerate (PyProof.Rows.callWith_type1 (thn (ha.run pos pins s σ H _ I h) fun us s1 ⟨vs, H1, I1, r1, q1⟩ => ?_) hs rfl))
  obtain ⟨z, rfl, q⟩ := q1
  obtain ⟨u1, rfl, r⟩ := vals1 r1
  obtain ⟨t, rfl⟩ := r
  refine PySem.call_enumerate_str fun h' he hit hsz hk => wpAny_pyIter_enum he ?_
  have I2 : Inv X pins σ H1 { s1 with heap := h' } := I1.kept (t' := s1.toks) hk
  refine ⟨s1.heap.objs.size + 1, [s1.heap.objs.size + 1, s1.heap.objs.size], _, _, H1, rfl, I2, turn_enumS z t (s1.heap.objs.size + 1) s1.heap.objs.size, ⟨⟨.none, he⟩, hit, Nat.succ_ne_self _⟩, fun b hb => ?_, q⟩
  have hle : s1.heap.objs.size ≤ b := by
    rcases List.mem_cons.mp hb with q | q
    · rw [q]
      exact Nat.le_succ _
    · rw [List.mem_singleton.mp q]
      exact Nat.le_refl _
  exact I1.fpOk hle (I1.hok.fresh hle)
theorem walk_enumS {z : Str} : Walk (Its2 z) z.cps.size (fun _ => True) (fun i H v H' => ∃ T c, v = .ref T ∧ H T = none ∧ H' = upd H T (.tup [.int (i : Nat), .str (S [c])]) ∧ z.cps[i]? = some c) :=
  ⟨fun _ _ hi _ => hi, fun _ _ => rfl, fun _ _ _ _ _ _ y => y⟩
end

/-! ### data -/
def Sm (l : List Nat) : Prop := ∀ c ∈ l, c < 1114112
theorem Sm.ok {l : List Nat} (h : Sm l) : PyData.strOk (S l) = true := by
  unfold PyData.strOk S
  rw [Array.all_eq_true']
  intro c hc
  exact decide_eq_true (h c (by simpa using hc))
theorem Sm.drop {l : List Nat} (h : Sm l) (n : Nat) : Sm (l.drop n) := fun c hc => h c (List.mem_of_mem_drop hc)
theorem dp_strs {K : PySem.W.Frag} {H : Hp} : ∀ ls : List (List Nat), DpAll K H (ls.map fun l => V.str (S l)) (ls.map fun l => PyData.str (S l))
  | [] => .nil
  | l :: r => .cons (.str _) (dp_strs r)
theorem canLay_strs : ∀ {ls : List (List Nat)}, (∀ l ∈ ls, Sm l) → PyData.canLayAll0 (ls.map fun l => PyData.str (S l)) = true
  | [], _ => rfl
  | l :: r, h => by
    show (PyData.strOk (S l) && PyData.canLayAll0 (r.map fun l => PyData.str (S l))) = true
    rw [(h l (List.mem_cons_self ..)).ok, canLay_strs fun z hz => h z (List.mem_cons_of_mem _ hz)]
    rfl
theorem depth_strs : ∀ ls : List (List Nat), PyData.depthAll (ls.map fun l => PyData.str (S l)) = 0
  | [] => rfl
  | l :: r => by
    show max 0 (PyData.depthAll (r.map fun l => PyData.str (S l))) = 0
    rw [depth_strs r]
    rfl
theorem shaped_strs {ls : List (List Nat)} (h : ∀ l ∈ ls, Sm l) : SeqAt.shaped (.list (ls.map fun l => PyData.str (S l))) = true := by
  show (PyData.canLayAll0 _ && decide (PyData.depthAll _ + 1 ≤ 64)) = true
  rw [canLay_strs h, depth_strs]
  rfl
theorem eq_strs {ls : List (List Nat)} (h : ∀ l ∈ ls, Sm l) : PyData.eqv (.list (ls.map fun l => PyData.str (S l))) (.list (ls.map fun l => PyData.str (S l))) = true :=
  PySem.SeqAt.eqv_refl _ (canLay_strs h)
/-- a text and two ints -/
def D3 (l : List Nat) (b c : Int) : PyData := .tuple [.str (S l), .int b, .int c]
theorem dp3 {K : PySem.W.Frag} {H : Hp} {a : Addr} {l : List Nat} {b c : Int} (h : SqT K H a [.str (S l), .int b, .int c]) : Dp K H (.ref a) (D3 l b c) :=
  .tup h (.cons (.str _) (.cons (.int _) (.cons (.int _) .nil)))
theorem lay3 {l : List Nat} (h : Sm l) (b c : Int) : (D3 l b c).canLay0 = true := by
  show (PyData.strOk (S l) && (true && (true && true))) = true
  rw [h.ok]
  rfl
theorem shaped3 {l : List Nat} (h : Sm l) (b c : Int) : SeqAt.shaped (D3 l b c) = true := by
  show ((D3 l b c).canLay0 && decide ((D3 l b c).depth ≤ 64)) = true
  rw [lay3 h]
  rfl
theorem eq3 {l : List Nat} (h : Sm l) (b c : Int) : PyData.eqv (D3 l b c) (D3 l b c) = true := PySem.SeqAt.eqv_refl _ (lay3 h b c)

/-! ### a if t else b -/
def AnsB (t : TT) (σ : L2.St) (H : Hp) (b : Bool) : Prop := ∀ Q : Bool → Hp → Prop, Q b H → t σ H Q
def ValB (te : TE) (σ : L2.St) (H : Hp) (P : V → Hp → Prop) : Prop := ∀ Q : VK, (∀ v H', P v H' → Q v H') → te σ H Q
theorem tif_val {t : TT} {ta tb : TE} {σ : L2.St} {H : Hp} {P : V → Hp → Prop} (b : Bool) (ht : AnsB t σ H b) (ha : b = true → ValB ta σ H P) (hb : b = false → ValB tb σ H P) : ValB (tIf t ta tb) σ H P := by
  intro Q q
  refine ht _ ?_
  cases b with
  | true =>
    rw [if_pos rfl]
    exact ha rfl Q q
  | false =>
    rw [if_neg Bool.false_ne_true]
    exact hb rfl Q q
theorem sum_le : ∀ {ls : List (List Nat)} {k : Nat}, (∀ l ∈ ls, l.length ≤ k) → ((ls.map S).map (·.length)).sum ≤ k * ls.length
  | [], k, _ => by simp
  | a :: r, k, h => by
    have ih := sum_le (ls := r) (k := k) fun l hl => h l (List.mem_cons_of_mem _ hl)
    have ha := h a (List.mem_cons_self ..)
    rw [List.map_cons, List.map_cons, List.sum_cons, S_len, List.length_cons, Nat.mul_succ]
    omega

theorem asg_if {t : TT} {ta tb : TE} {g : TG} {u : TS} {D : Ends} {σ : L2.St} {H : Hp} (P : V → Hp → Prop) (b : Bool) (ht : AnsB t σ H b) (ha : b = true → ValB ta σ H P) (hb : b = false → ValB tb σ H P)
    (hq : ∀ v H', P v H' → g v σ H' (u D)) : tSeq (tAsg (tIf t ta tb) g) u D σ H :=
  tif_val b ht ha hb (fun v H' => g v σ H' (u D)) hq
theorem go_nx {D : Ends} {σ : L2.St} {H : Hp} (q : D.nx σ H) : tNext D σ H := q
end My

/-! ### texts by their signs: what the methods tell -/
namespace My
open PySem PySem.Spec PyProof.Rows L2 PySem.StrLaws PySem.Builtin.Str
theorem from_nat (n p : Nat) : fromIndex n (p : Int) = p := by
  unfold fromIndex
  have : ¬ (p : Int) < 0 := by omega
  rw [if_neg this]
  omega
theorem to_nat (n p : Nat) : toIndexW n (p : Int) = min n p := by
  unfold toIndexW
  have : ¬ (p : Int) < 0 := by omega
  rw [if_neg this]
  omega
theorem sub_S (t w : List Nat) (i : Nat) : subAt (S t) (S w) i = ((t.drop i).take w.length == w) := by
  rw [subAt_eq, S_tl, S_tl, S_len]
theorem take_pre : ∀ (w r : List Nat), (r.take w.length == w) = w.isPrefixOf r
  | [], r => by simp [List.isPrefixOf]
  | a :: w, [] => by simp [List.isPrefixOf]
  | a :: w, b :: r => by
    show (b :: r.take w.length == a :: w) = (a == b && w.isPrefixOf r)
    rw [← take_pre w r]
    show (b == a && (r.take w.length == w)) = _
    have e : (b == a) = (a == b) := by
      by_cases h : a = b
      · rw [h]
      · rw [beq_eq_false_iff_ne.mpr h, beq_eq_false_iff_ne.mpr fun e => h e.symm]
    rw [e]
theorem pre_len : ∀ (w r : List Nat), w.isPrefixOf r = true → w.length ≤ r.length
  | [], r, _ => Nat.zero_le _
  | a :: w, [], h => by cases h
  | a :: w, b :: r, h => by
    have h2 : w.isPrefixOf r = true := (Bool.and_eq_true_iff.mp (show (a == b && w.isPrefixOf r) = true from h)).2
    have := pre_len w r h2
    simp
    omega
theorem at_S (t w : List Nat) (hw : w ≠ []) (i : Nat) : At (S t) (S w) (S t).length i ↔ w.isPrefixOf (t.drop i) = true := by
  unfold At
  rw [sub_S, take_pre, S_len, S_len]
  constructor
  · exact fun h => h.2
  · intro h
    refine ⟨?_, h⟩
    have := pre_len _ _ h
    rw [List.length_drop] at this
    have h0 : 0 < w.length := List.length_pos_iff.mpr hw
    omega
theorem starts3 (t w : List Nat) (hw : w ≠ []) (p : Nat) : Txt.startswith3 (S t) (S w) (p : Int) = w.isPrefixOf (t.drop p) := by
  unfold Txt.startswith3
  rw [from_nat, sub_S, take_pre]
  cases h : w.isPrefixOf (t.drop p) with
  | false => simp
  | true =>
    have := (at_S t w hw p).mpr h
    have h1 : p + (S w).length ≤ (S t).length := this.1
    simp [h1]
theorem starts1 (t w : List Nat) (hw : w ≠ []) : Txt.startswith (S t) (S w) = w.isPrefixOf t := by
  have := starts3 t w hw 0
  unfold Txt.startswith3 at this
  rw [from_nat, List.drop_zero] at this
  exact this
/-- the first place of w -/
def findL (w : List Nat) : List Nat → Option Nat
  | [] => if w = [] then some 0 else none
  | c :: r => if w.isPrefixOf (c :: r) = true then some 0 else (findL w r).map (· + 1)
theorem findL_some {w : List Nat} : ∀ {r : List Nat} {k : Nat}, w ≠ [] → findL w r = some k → w.isPrefixOf (r.drop k) = true ∧ ∀ j, j < k → w.isPrefixOf (r.drop j) = false
  | [], k, hw, h => by
    unfold findL at h
    rw [if_neg hw] at h
    cases h
  | c :: r, k, hw, h => by
    unfold findL at h
    split at h
    · rename_i hp
      cases h
      exact ⟨hp, fun j hj => absurd hj (Nat.not_lt_zero _)⟩
    · rename_i hp
      cases hf : findL w r with
      | none => rw [hf] at h; cases h
      | some k' =>
        rw [hf] at h
        have e : k' + 1 = k := Option.some.inj h
        subst e
        obtain ⟨h1, h2⟩ := findL_some hw hf
        refine ⟨h1, fun j hj => ?_⟩
        cases j with
        | zero => exact eq_false_of_ne_true hp
        | succ j => exact h2 j (by omega)
theorem findL_none {w : List Nat} : ∀ {r : List Nat}, w ≠ [] → findL w r = none → ∀ j, w.isPrefixOf (r.drop j) = false
  | [], hw, _, j => by
    rw [List.drop_nil]
    cases w with
    | nil => exact absurd rfl hw
    | cons a w => rfl
  | c :: r, hw, h, j => by
    unfold findL at h
    split at h
    · cases h
    · rename_i hp
      cases hf : findL w r with
      | some k => rw [hf] at h; cases h
      | none =>
        cases j with
        | zero => exact eq_false_of_ne_true hp
        | succ j => exact findL_none hw hf j
theorem find3_S (t w : List Nat) (hw : w ≠ []) (p : Nat) : Txt.find3 (S t) (S w) (p : Int) = match findL w (t.drop p) with | some k => ((p + k : Nat) : Int) | none => -1 := by
  unfold Txt.find3
  rw [from_nat]
  rcases occ_head_from (S t) (S w) p 1 (Nat.le_refl _) with ⟨h0, hn⟩ | ⟨i, r, h0, hp, ha, hn⟩
  · rw [h0]
    cases hf : findL w (t.drop p) with
    | none => rfl
    | some k =>
      have h1 := (findL_some hw hf).1
      rw [List.drop_drop] at h1
      exact absurd ((at_S t w hw (p + k)).mpr h1) (hn (p + k) (by omega))
  · rw [h0]
    have ha' := (at_S t w hw i).mp ha
    cases hf : findL w (t.drop p) with
    | none =>
      have h1 := findL_none hw hf (i - p)
      rw [List.drop_drop, show p + (i - p) = i by omega, ha'] at h1
      cases h1
    | some k =>
      obtain ⟨h1, h2⟩ := findL_some hw hf
      rw [List.drop_drop] at h1
      have e : i = p + k := by
        rcases Nat.lt_trichotomy i (p + k) with h | h | h
        · have h3 := h2 (i - p) (by omega)
          rw [List.drop_drop, show p + (i - p) = i by omega, ha'] at h3
          cases h3
        · exact h
        · exact absurd ((at_S t w hw (p + k)).mpr h1) (hn (p + k) (by omega) h)
      show ((i : Nat) : Int) = _
      rw [e]
/-- one text in another -/
def inL (w r : List Nat) : Bool := (findL w r).isSome
theorem in_S (t w : List Nat) (hw : w ≠ []) : (!(occurrences (S t) (S w) 0 (S t).length 1).isEmpty) = inL w t := by
  have h := find3_S t w hw 0
  unfold Txt.find3 at h
  rw [from_nat, List.drop_zero] at h
  unfold inL
  cases ho : occurrences (S t) (S w) 0 (S t).length 1 with
  | nil =>
    rw [ho] at h
    cases hf : findL w t with
    | none => rfl
    | some k =>
      rw [hf] at h
      have h' : (-1 : Int) = ((0 + k : Nat) : Int) := h
      omega
  | cons a b =>
    rw [ho] at h
    cases hf : findL w t with
    | none =>
      rw [hf] at h
      have h' : ((a : Nat) : Int) = -1 := h
      omega
    | some k => rfl
/-- signs counted -/
theorem occ_count (t : List Nat) (c hi limit : Nat) : ∀ (n a : Nat) (st : Array Nat × Nat), st.2 ≤ a → st.1.size + n ≤ limit → hi ≤ t.length → a + n = hi + 1 ∨ (n = 0 ∧ hi < a) →
    (forIn (List.range' a n) st (occBody (S t) (S [c]) hi limit)).run.fst.size = st.1.size + ((t.drop a).take (hi - a)).count c
  | 0, a, st, h1, h2, h3, h4 => by
    have : hi - a = 0 := by omega
    rw [this]
    simp
  | n + 1, a, st, h1, h2, h3, h4 => by
    rw [List.range'_succ, List.forIn_cons]
    have hl : (S [c]).length = 1 := S_len _
    have stay : ¬ (((st.1.size < limit ∧ st.2 ≤ a) ∧ a + (S [c]).length ≤ hi) ∧ subAt (S t) (S [c]) a = true) →
        (occBody (S t) (S [c]) hi limit a st) = pure (ForInStep.yield st) := fun z => by
      unfold occBody
      rw [if_neg z]
    by_cases ha : a < hi
    · have hat : a < t.length := by omega
      have hd : t.drop a = t[a] :: t.drop (a + 1) := List.drop_eq_getElem_cons hat
      have hs : hi - a = (hi - (a + 1)) + 1 := by omega
      have hsub : subAt (S t) (S [c]) a = (t[a] == c) := by
        rw [sub_S, hd]
        show (t[a] :: (t.drop (a + 1)).take 0 == [c]) = _
        rw [List.take_zero]
        by_cases h : t[a] = c <;> simp [h]
      have hcnt : ((t.drop a).take (hi - a)).count c = ((t.drop (a + 1)).take (hi - (a + 1))).count c + if t[a] == c then 1 else 0 := by
        rw [hd, hs, List.take_succ_cons, List.count_cons]
      rw [hcnt]
      by_cases hc : t[a] = c
      · have e : occBody (S t) (S [c]) hi limit a st = pure (ForInStep.yield (st.1.push a, a + (S [c]).length)) := by
          unfold occBody
          rw [if_pos ⟨⟨⟨by omega, h1⟩, by omega⟩, by rw [hsub]; simp [hc]⟩]
        rw [e, hl]
        have ih := occ_count t c hi limit n (a + 1) (st.1.push a, a + 1) (Nat.le_refl _) (by rw [Array.size_push]; omega) h3 (by omega)
        have e1 : (if t[a] == c then 1 else 0) = 1 := by rw [hc]; simp
        rw [e1]
        refine Eq.trans ih ?_
        rw [Array.size_push]
        omega
      · rw [stay (fun z => by have := z.2; rw [hsub] at this; simp at this; exact hc this)]
        have ih := occ_count t c hi limit n (a + 1) st (by omega) (by omega) h3 (by omega)
        have e1 : (if t[a] == c then 1 else 0) = 0 := by simp [hc]
        rw [e1]
        exact ih
    · rw [stay (fun z => by have := z.1.2; omega)]
      have ih := occ_count t c hi limit n (a + 1) st (by omega) (by omega) h3 (by omega)
      have e0 : hi - a = 0 := by omega
      have e1 : hi - (a + 1) = 0 := by omega
      rw [e1] at ih
      rw [e0]
      refine Eq.trans ih ?_
      simp
theorem count_S (t : List Nat) (c p e : Nat) (he : e ≤ t.length) (hp : p ≤ e) : Txt.countIn (S t) (S [c]) (p : Int) (e : Int) = (((t.drop p).take (e - p)).count c : Nat) := by
  unfold Txt.countIn
  rw [from_nat, to_nat, S_len, Nat.min_eq_right he, occ_eq]
  have h := occ_count t c e (t.length + 1) (e + 1 - p) p (#[], p) (Nat.le_refl _) (by simp; omega) he (by omega)
  rw [Array.length_toList]
  congr 1
  rw [h]
  simp
/-- blank: nothing but such signs -/
theorem tw_all {g : Nat → Bool} : ∀ {t : List Nat}, t.all g = true → t.takeWhile g = t
  | [], _ => rfl
  | a :: r, h => by
    have h2 := Bool.and_eq_true_iff.mp (show (g a && r.all g) = true from h)
    rw [List.takeWhile_cons, if_pos h2.1, tw_all h2.2]
theorem tw_not {g : Nat → Bool} : ∀ {t : List Nat}, t.all g = false → ∃ c r, t.drop (t.takeWhile g).length = c :: r ∧ g c = false
  | [], h => by cases h
  | a :: r, h => by
    rw [List.takeWhile_cons]
    cases hg : g a with
    | false => exact ⟨a, r, by simp, hg⟩
    | true =>
      have h2 : r.all g = false := by
        have : (g a && r.all g) = false := h
        rw [hg] at this
        simpa using this
      obtain ⟨c, r', h3, h4⟩ := tw_not h2
      exact ⟨c, r', by simpa using h3, h4⟩
theorem strip_nil (t w : List Nat) : ((Txt.stripChars (S t) (S w)).cps.toList = []) ↔ t.all (fun c => w.contains c) = true := by
  have hg : (S w).cps.contains = fun c => w.contains c := by
    funext c
    simp [S]
  unfold Txt.stripChars Txt.stripBy stripSame stripped stripLo stripHi
  rw [hg]
  simp only [if_true]
  rw [S_tl, S_len]
  cases h : t.all (fun c => w.contains c) with
  | true =>
    have e := tw_all h
    rw [e, List.drop_length]
    simp only [List.reverse_nil, List.takeWhile_nil, List.length_nil, Nat.sub_zero]
    have key : (if (t.length == 0 && t.length == t.length) = true then S t else strSub (S t) t.length t.length).cps.toList = [] := by
      by_cases h0 : (t.length == 0 && t.length == t.length) = true
      · rw [if_pos h0, S_tl]
        have h1 : t.length = 0 := by simpa using h0
        exact List.length_eq_zero_iff.mp h1
      · rw [if_neg h0, strSub_toList, Nat.sub_self, List.take_zero]
    exact ⟨fun _ => trivial, fun _ => key⟩
  | false =>
    constructor
    · intro h0
      exfalso
      obtain ⟨c, r, h1, h2⟩ := tw_not h
      have hlen : (t.takeWhile (fun c => w.contains c)).length < t.length := by
        have := congrArg List.length h1
        rw [List.length_drop, List.length_cons] at this
        omega
      split at h0
      · rw [S_tl] at h0
        rw [h0] at hlen
        simp at hlen
      · rw [strSub_toList, S_tl, h1] at h0
        have hr : ((c :: r).reverse.takeWhile (fun c => w.contains c)).length ≤ r.length := by
          rw [List.reverse_cons]
          by_cases hall : r.reverse.all (fun c => w.contains c) = true
          · rw [List.takeWhile_append_of_pos (by simpa using hall), List.takeWhile_cons, if_neg (by rw [h2]; exact Bool.false_ne_true)]
            simp
          · obtain ⟨x, y, h5, h6⟩ := tw_not (eq_false_of_ne_true hall)
            have h7 : (r.reverse.takeWhile (fun c => w.contains c)).length < r.reverse.length := by
              have := congrArg List.length h5
              rw [List.length_drop] at this
              simp at this
              simp
              omega
            have h8 : (r.reverse ++ [c]).takeWhile (fun c => w.contains c) = r.reverse.takeWhile (fun c => w.contains c) := by
              have e := List.takeWhile_append (p := fun c => w.contains c) (xs := r.reverse) (ys := [c])
              rw [e, if_neg (by omega)]
            rw [h8]
            have := List.length_reverse (as := r)
            omega
        have h9 : (c :: r).length = t.length - (t.takeWhile (fun c => w.contains c)).length := by
          rw [← h1, List.length_drop]
        have h10 := congrArg List.length h0
        rw [List.length_take] at h10
        simp only [List.length_cons, List.length_nil] at h10 h9
        omega
    · intro h1
      cases h1
theorem strip_blank (t w : List Nat) : decide (V.str (Txt.stripChars (S t) (S w)) = V.str (S [])) = t.all (fun c => w.contains c) := by
  rw [S_of (Txt.stripChars (S t) (S w)), S_dec]
  cases h : t.all (fun c => w.contains c) with
  | true => exact decide_eq_true ((strip_nil t w).mpr h)
  | false => exact decide_eq_false fun z => by rw [(strip_nil t w).mp z] at h; cases h
/-- small letters, great letters -/
theorem lower_S (t : List Nat) (h : ∀ c ∈ t, c < 128) : Txt.lower (S t) = S (t.map lo1) := by
  rw [lower_ascii (by rw [S_tl]; exact h)]
  show (⟨t.toArray.map lo1⟩ : Str) = ⟨(t.map lo1).toArray⟩
  simp
theorem upper_S (t : List Nat) (h : ∀ c ∈ t, c < 128) : Txt.upper (S t) = S (t.map up1) := by
  rw [upper_ascii (by rw [S_tl]; exact h)]
  show (⟨t.toArray.map up1⟩ : Str) = ⟨(t.map up1).toArray⟩
  simp
end My

/-! ### more words: a written dict of texts, update, int by a base, find up to an end -/
namespace My
open PySem PySem.Spec PyProof.Rows L2 PySem.StrLaws PySem.Builtin.Str
/-! a written dict of the module, its keys texts -/
def EntS : List DictEntry → List (Str × V) → Prop
  | [], [] => True
  | e :: es, p :: ps => (∃ t, e.key = .str p.1 t) ∧ RelV p.2 e.val ∧ EntS es ps
  | _, _ => False
structure KDictS (K : PySem.W.Frag) (w : World) (d : Addr) (ps : List (Str × V)) : Prop where
  here : ∃ es n, KDict K w d es n ∧ EntS es.toList ps
theorem entS_find (k : Str) : ∀ {es : List DictEntry} {ps : List (Str × V)}, EntS es ps →
    match ps.lookup k with
    | none => (es.find? fun e => Value.isStrOf k e.key).map (·.val) = none
    | some v => ∃ u, (es.find? fun e => Value.isStrOf k e.key).map (·.val) = some u ∧ RelV v u
  | [], [], _ => rfl
  | [], _ :: _, h => h.elim
  | _ :: _, [], h => h.elim
  | e :: es, p :: ps, ⟨⟨t, h1⟩, h2, r⟩ => by
    have ih := entS_find k r
    rw [List.find?_cons, List.lookup_cons, h1]
    by_cases h : k = p.1
    · subst h
      have e1 : Value.isStrOf p.1 (.str p.1 t) = true := by simp [Value.isStrOf]
      rw [e1, beq_self_eq_true]
      exact ⟨_, rfl, h2⟩
    · have e1 : Value.isStrOf k (.str p.1 t) = false := by
        cases q : Value.isStrOf k (.str p.1 t) with
        | false => rfl
        | true =>
          obtain ⟨t', e⟩ := Value.isStrOf_shape q
          cases e
          exact absurd rfl h
      rw [e1, beq_eq_false_iff_ne.mpr h]
      exact ih
section
variable {X : Cx} {d : Addr} {ps : List (Str × V)}
theorem kds_map {prog : Program} {w : World} {h : Heap} {K : PySem.W.Frag} (D : KDictS K w d ps) (I : K.In h) (k : Str) : (d == sysModules) = false ∧ ∃ f : Str → Option Value, h.MapOf (strKind prog w) d f ∧
    match ps.lookup k with
    | none => f k = none
    | some v => ∃ u, f k = some u ∧ RelV v u := by
  obtain ⟨es, n, D, he⟩ := D.here
  refine ⟨D.low, _, PySem.W.mapOf_K (prog := prog) I D.at_ D.lit, ?_⟩
  have := entS_find k he
  obtain ⟨l⟩ := es
  simpa only [findBy, List.find?_toArray] using this
theorem op_in_ks (D : KDictS X.K X.w d ps) : OpR X (compareOp .In) (fun x y H Q => ∃ z : Str, x = .str z ∧ y = .ref d ∧ Q (.bl (ps.lookup z).isSome) H) := by
  intro pins s σ H x y v u Q I rx ry h
  obtain ⟨z, rfl, rfl, q⟩ := h
  obtain ⟨t, rfl⟩ := rx
  cases ry
  obtain ⟨low, f, hm, hf⟩ := kds_map (prog := X.prog) D I.kIn z
  refine wpAny_in_of (PySem.strKind_is X.prog X.w z t) low hm ?_
  refine ⟨.bl (ps.lookup z).isSome, H, I.tok _, ?_, q⟩
  show Value.bool _ = Value.bool _
  cases e : ps.lookup z with
  | none => rw [e] at hf; rw [show f z = none from hf]; rfl
  | some v => rw [e] at hf; obtain ⟨u, h1, _⟩ := hf; rw [h1]; rfl
theorem op_notIn_ks (D : KDictS X.K X.w d ps) : OpR X (compareOp .NotIn) (fun x y H Q => ∃ z : Str, x = .str z ∧ y = .ref d ∧ Q (.bl (!(ps.lookup z).isSome)) H) := by
  intro pins s σ H x y v u Q I rx ry h
  obtain ⟨z, rfl, rfl, q⟩ := h
  obtain ⟨t, rfl⟩ := rx
  cases ry
  obtain ⟨low, f, hm, hf⟩ := kds_map (prog := X.prog) D I.kIn z
  refine wpAny_notIn_of (PySem.strKind_is X.prog X.w z t) low hm ?_
  refine ⟨.bl (!(ps.lookup z).isSome), H, I.tok _, ?_, q⟩
  show Value.bool _ = Value.bool _
  cases e : ps.lookup z with
  | none => rw [e] at hf; rw [show f z = none from hf]; rfl
  | some v => rw [e] at hf; obtain ⟨u, h1, _⟩ := hf; rw [h1]; rfl
theorem ix_ks (D : KDictS X.K X.w d ps) : IxR X (fun x y H Q => ∃ (z : Str) (v : V), x = .ref d ∧ y = .str z ∧ ps.lookup z = some v ∧ Q v H) := by
  intro value slice pins s σ H x y v u Q I rx ry h hs
  obtain ⟨z, a, rfl, rfl, e, q⟩ := h
  obtain rfl : v = Value.ref d := rx
  obtain ⟨t, rfl⟩ := ry
  obtain ⟨low, f, hm, hf⟩ := kds_map (prog := X.prog) D I.kIn z
  rw [e] at hf
  obtain ⟨u, h1, ru⟩ := hf
  exact tail_any hm.typeIs slot_dict_getitem.lookup (wpAny_getItem_of (strKind_is X.prog X.w z t) hm h1 ⟨a, H, I.tok _, ru, q⟩) hs
/-- NAMES.get(key) -/
theorem pe_kget {o e : Expr} {to te : TE} {apos cpos : Pos} (D : KDictS X.K X.w d ps) (ho : PE X o to) (he : PE X e te) (m : M1 X o "get" apos e cpos) :
    PE X (.Call (.Attribute o "get" apos) [e] [] cpos) (fun σ H Q => to σ H fun x H1 => x = .ref d ∧ te σ H1 fun y H2 => ∃ z : Str, y = .str z ∧ Q ((ps.lookup z).getD .non) H2) := by
  refine ⟨fun pins s σ H Q I h => ?_⟩
  refine wpAny_Call_method m.base m.few m.line PySem.F.plainAttrs_dict PySem.F.slot_dict_get PySem.F.type_dict_get (thn (ho.run pins s σ H _ I h) fun u s1 ⟨x, H1, I1, rx, ex, q1⟩ => ?_)
  subst ex
  obtain rfl : u = Value.ref d := rx
  obtain ⟨low, f, hm, hf⟩ := kds_map (prog := X.prog) D I1.kIn ""
  refine ⟨hm.typeIs, hm.noDict, ?_⟩
  rw [m.trees]
  refine Calls.callWith_builtin rfl (Calls.evalArgs_plain (Calls.spliced_cons (thn (he.run pins s1 σ H1 _ I1 q1) fun iv s2 ⟨y, H2, I2, ry, z, ez, q2⟩ => Calls.spliced_nil ?_)))
  subst ez
  obtain ⟨t, rfl⟩ := ry
  obtain ⟨low, f, hm, hf⟩ := kds_map (prog := X.prog) D I2.kIn z
  refine call_meetsIn PySem.F.slot_dict_get hm.typeIs PySem.F.entry_dict_get (PySem.F.args_dict_get_2 _ _) (meets_dict_get (strKind X.prog X.w) d (strKind_is X.prog X.w z t) low) ⟨_, hm, ?_⟩
  refine ⟨(ps.lookup z).getD .non, H2, I2.tok _, ?_, q2⟩
  cases e : ps.lookup z with
  | none => rw [e] at hf; rw [show f z = none from hf]; rfl
  | some v => rw [e] at hf; obtain ⟨u, h1, r⟩ := hf; rw [h1]; exact r
end
/-! d.update(e) -/
def rUpd : V → List V → Hp → VK → Prop := fun x vs H Q => ∃ (a b : Addr) (kvs more : List (Key × V)), x = .ref a ∧ vs = [.ref b] ∧ a ≠ b ∧ H a = some (.dK kvs) ∧ H b = some (.dK more) ∧ kvs.length + more.length ≤ 1000 ∧
  Q .non (upd H a (.dK (mergeK kvs more)))
theorem mtd_update {X : Cx} : MtR X "dict.update" rUpd := by
  intro pins s σ H x vs v us Q I rx rv h
  obtain ⟨a, b, kvs, more, ex, ev, hne, e, e2, hl, q⟩ := h
  subst ex
  subst ev
  obtain rfl : v = Value.ref a := rx
  obtain ⟨u, rfl, ru⟩ := rv.one
  obtain rfl : u = Value.ref b := ru
  obtain ⟨z, hd, vs1, rel, dd⟩ := dk_of I.hok e
  obtain ⟨z2, hd2, vs2, rel2, dd2⟩ := dk_of I.hok e2
  have hz : (mergeK kvs more).length ≤ sizeLine := by
    have h1 := length_mergeK more kvs
    rw [sizeLine_eq]
    omega
  refine call_meetsIn PySem.F.slot_dict_update dd.typeIs PySem.F.entry_dict_update (PySem.F.args_dict_update_2 _ _) (meets_dict_update (mixKind X.prog X.w) a b hne hd2)
    ⟨vs1, vs2, dd, dd2, by rw [← rel.length, ← rel2.length, sizeLine_eq]; omega, fun h' dd' _ hs => ?_⟩
  have he : ∃ q, h'.get? a = some q := let ⟨q, _, _, hq, _⟩ := dd'; ⟨q, hq⟩
  exact ⟨.non, _, d_write (t' := s.toks) I (by rw [e]; exact True.intro) hs he (dk_new hz hd (rel2.merge rel) dd'), rfl, q⟩
/-! find up to an end -/
theorem occ_take (t w : List Nat) (lo hi : Nat) (h : hi ≤ t.length) : occurrences (S t) (S w) lo hi 1 = occurrences (S (t.take hi)) (S w) lo hi 1 := by
  rw [occ_eq, occ_eq]
  have e : occBody (S t) (S w) hi 1 = occBody (S (t.take hi)) (S w) hi 1 := by
    funext i st
    unfold occBody
    by_cases hc : i + (S w).length ≤ hi
    · have e2 : subAt (S t) (S w) i = subAt (S (t.take hi)) (S w) i := by
        rw [S_len] at hc
        rw [sub_S, sub_S, List.drop_take, List.take_take, Nat.min_eq_left (by omega)]
      rw [e2]
    · rw [if_neg fun z => hc z.1.2, if_neg fun z => hc z.1.2]
  rw [e]
theorem findIn_S (t w : List Nat) (hw : w ≠ []) (p j : Nat) : Txt.findIn (S t) (S w) (p : Int) ((p + j : Nat) : Int) = match findL w ((t.drop p).take j) with | some k => ((p + k : Nat) : Int) | none => -1 := by
  unfold Txt.findIn
  rw [from_nat, to_nat, S_len]
  by_cases hp : p ≤ t.length
  · have h1 : min t.length (p + j) ≤ t.length := Nat.min_le_left _ _
    rw [occ_take t w p _ h1]
    have h2 := find3_S (t.take (min t.length (p + j))) w hw p
    unfold Txt.find3 at h2
    rw [from_nat, S_len, List.length_take, Nat.min_eq_left h1, List.drop_take] at h2
    have e : (t.drop p).take (min t.length (p + j) - p) = (t.drop p).take j := by
      by_cases hj : p + j ≤ t.length
      · rw [Nat.min_eq_right hj, Nat.add_sub_cancel_left]
      · rw [Nat.min_eq_left (by omega), List.take_of_length_le (by rw [List.length_drop]; omega), List.take_of_length_le (by rw [List.length_drop]; omega)]
    rw [e] at h2
    exact h2
  · rw [List.drop_of_length_le (by omega), List.take_nil]
    have hn : findL w [] = none := by
      unfold findL
      rw [if_neg hw]
    rw [hn, Nat.min_eq_left (by omega)]
    have : occurrences (S t) (S w) p t.length 1 = [] := by
      have h2 := find3_S t w hw p
      unfold Txt.find3 at h2
      rw [from_nat, List.drop_of_length_le (by omega), hn, S_len] at h2
      cases ho : occurrences (S t) (S w) p t.length 1 with
      | nil => rfl
      | cons a b =>
        rw [ho] at h2
        have h3 : ((a : Nat) : Int) = -1 := h2
        omega
    rw [this]
/-! int(text, 10) -/
open PySem.NumText PySem.Calls
def IsDec (c : Nat) : Prop := 48 ≤ c ∧ c ≤ 57
def decNum (l : List Nat) : Nat := l.foldl (fun a c => a * 10 + (c - 48)) 0
theorem step_dec {ds : Array Nat} {b : Bool} {c : Nat} (h : IsDec c) : PySem.NumText.step 10 (ds, b) c = some (ds.push (c - 48), true) := by
  unfold IsDec at h
  unfold PySem.NumText.step
  rw [if_neg (by rw [beq_iff_eq]; omega)]
  have e : digit? c = some (c - 48) := by
    unfold digit?
    rw [if_pos (Hx.bb h.1 h.2)]
  rw [e]
  exact if_pos (by omega)
theorem foldl_dec : ∀ (cs : List Nat) (ds : Array Nat), (∀ c ∈ cs, IsDec c) → cs.foldlM (PySem.NumText.step 10) (ds, true) = some (cs.foldl (fun acc c => acc.push (c - 48)) ds, true)
  | [], _, _ => rfl
  | c :: cs, ds, h => by
    rw [List.foldlM_cons, step_dec (h c (List.mem_cons_self ..))]
    show cs.foldlM (PySem.NumText.step 10) (ds.push (c - 48), true) = _
    exact foldl_dec cs (ds.push (c - 48)) fun d hd => h d (List.mem_cons_of_mem _ hd)
theorem digits_dec {cs : List Nat} (h : ∀ c ∈ cs, IsDec c) (hne : cs ≠ []) : digits? 10 cs = some (cs.foldl (fun acc c => acc.push (c - 48)) #[]) := by
  cases cs with
  | nil => exact absurd rfl hne
  | cons c cs =>
    unfold digits?
    rw [List.foldlM_cons, step_dec (h c (List.mem_cons_self ..))]
    show (cs.foldlM (PySem.NumText.step 10) ((#[] : Array Nat).push (c - 48), true)).bind _ = _
    rw [foldl_dec cs _ fun d hd => h d (List.mem_cons_of_mem _ hd)]
    rfl
theorem push_dec : ∀ (cs : List Nat) (ds : Array Nat), (cs.foldl (fun acc c => acc.push (c - 48)) ds).foldl (fun acc d => acc * 10 + d) 0 = cs.foldl (fun a c => a * 10 + (c - 48)) (ds.foldl (fun acc d => acc * 10 + d) 0)
  | [], _ => rfl
  | c :: cs, ds => by
    rw [List.foldl_cons, push_dec cs (ds.push (c - 48)), List.foldl_cons]
    congr 1
    simp
theorem dec_hex {cs : List Nat} (h : ∀ c ∈ cs, IsDec c) : ∀ c ∈ cs, Hx.IsHex c := fun c hc => .inl (h c hc)
theorem size_dec : ∀ (cs : List Nat) (ds : Array Nat), (cs.foldl (fun acc c => acc.push (c - 48)) ds).size = ds.size + cs.length
  | [], ds => rfl
  | c :: cs, ds => by
    rw [List.foldl_cons, size_dec cs (ds.push (c - 48)), Array.size_push, List.length_cons]
    omega
theorem read_dec {cs : List Nat} (h : ∀ c ∈ cs, IsDec c) (hne : cs ≠ []) (hl : cs.length ≤ 640) : (int_private% "readNumeral") 0 10 cs = (int_private% "Numeral.value") ((decNum cs : Nat) : Int) := by
  have hr : ∀ c ∈ cs.reverse, IsDec c := fun c hc => h c (List.mem_reverse.mp hc)
  refine (readNumeral_eq 0 10 cs).trans ?_
  rw [Hx.dropB (dec_hex h), Hx.signH (dec_hex h)]
  show judge 0 false (based 10 cs).1 (based 10 cs).2.1 (digits? (based 10 cs).1 (((based 10 cs).2.2.reverse.dropWhile blank).reverse)) = _
  rw [based_ten]
  show judge 0 false 10 false (digits? 10 ((cs.reverse.dropWhile blank).reverse)) = _
  rw [Hx.dropB (dec_hex hr), List.reverse_reverse, digits_dec h hne]
  have hz : ¬ ((10 : Nat) == 10 && (cs.foldl (fun acc c => acc.push (c - 48)) (#[] : Array Nat)).size > 6000) = true := by
    rw [size_dec]
    simp
    omega
  have ej : judge 0 false 10 false (some (cs.foldl (fun acc c => acc.push (c - 48)) #[])) = (if ((10 : Nat) == 10 && (cs.foldl (fun acc c => acc.push (c - 48)) (#[] : Array Nat)).size > 6000) = true then (int_private% "Numeral.byTheLibrary") else (int_private% "Numeral.value") (((cs.foldl (fun acc c => acc.push (c - 48)) (#[] : Array Nat)).foldl (fun acc d => acc * 10 + d) 0 : Nat) : Int)) := rfl
  rw [ej, if_neg hz]
  show (int_private% "Numeral.value") (((cs.foldl (fun acc c => acc.push (c - 48)) (#[] : Array Nat)).foldl (fun acc d => acc * 10 + d) 0 : Nat) : Int) = _
  have z : (#[] : Array Nat).foldl (fun acc d => acc * 10 + d) 0 = 0 := by first | rfl | simp
  rw [push_dec, z] <;> rfl
structure Hid (p : Prop) : Prop where
  out : p
set_option maxHeartbeats 4000000 in
theorem gives_dec {x : PySem.Str} {u t : Tok} (hl : x.length ≤ 640) (h : ∀ c ∈ x.cps.toList, IsDec c) (hne : x.cps.toList ≠ []) :
    Gives (Builtin.«int.__new__» ⟨[.type "int", .str x u, .int 10 t], []⟩) (.int ((decNum x.cps.toList : Nat) : Int)) :=
  .of_wp fun M A E s Q hQ => by
    obtain ⟨hp, g, d, tk, os⟩ := s
    have f1 := F.conv_sub_int
    have f2 := F.madeHere_int
    have f6 : typeOf (.str x u) = pure (.type "str") := rfl
    obtain ⟨e1, e2⟩ := Hx.seen_hex (dec_hex h)
    have hs : (numSeenOf x).length ≤ 640 := by
      rw [e2, Array.length_toList]
      exact hl
    have hr : (int_private% "readNumeral") 0 10 (numSeenOf x) = (int_private% "Numeral.value") ((decNum x.cps.toList : Nat) : Int) := by
      rw [e2]
      exact read_dec h hne (by rw [Array.length_toList]; exact hl)
    have ha : ((numSeenOf x).length == (numTextOf x).length) = true := by
      rw [e1, e2]
      exact beq_self_eq_true _
    have hk := Hid.mk (And.intro hs (And.intro hr ha))
    clear hs hr ha e1 e2 hl hne h
    repeat (any_goals (first
      | assumption
      | ((with_reducible show wpAny _ _ ((int_private% "intFromText") _ _ _) _ _ _); refine Hx.wp_textB hk.out.1 hk.out.2.1 hk.out.2.2 ?_)
      | wp_step))
    all_goals first | exact ⟨_, rfl, hQ⟩ | skip
theorem call_dec {prog : Program} {w : World} {A : Around} {E : Value → Shared → Prop} {s : Shared} {Q : Value → Shared → Prop} {x : PySem.Str} {u t : Tok} (hl : x.length ≤ 640) (h : ∀ c ∈ x.cps.toList, IsDec c) (hne : x.cps.toList ≠ [])
    (hQ : Q (.int ((decNum x.cps.toList : Nat) : Int) s.toks) { s with toks := s.toks + 1 }) : wpAny (model prog w) A (call (.type "int") [.str x u, .int 10 t]) Q E s :=
  callType_new F.called_int F.newNe_int (Hx.typeCall_int_2 _ _) (Hx.newCall_int_2 _ _) (fun obj => F.initArgs_range_2 obj _ _) F.entry_int_new (gives_dec hl h hne).meets (show (Made.int ((decNum x.cps.toList : Nat) : Int)).post _ s from ⟨rfl, hQ⟩)
/-- int(text, base) of base 10 and 16 -/
def IsB (B : Nat) (c : Nat) : Prop := if B = 16 then Hx.IsHex c else IsDec c
def numB (B : Nat) (l : List Nat) : Nat := if B = 16 then Hx.hexNum l else decNum l
theorem call_int_base {X : Cx} : CallR X (.type "int") (fun xs H Q => ∃ (l : List Nat) (B : Nat), xs = [.str (S l), .int (B : Int)] ∧ (B = 10 ∨ B = 16) ∧ l ≠ [] ∧ l.length ≤ 640 ∧ (∀ c ∈ l, IsB B c) ∧ Q (.int ((numB B l : Nat) : Int)) H) := by
  intro pins s σ H xs us Q I r h
  obtain ⟨l, B, rfl, hB, hne, hl, hx, q⟩ := h
  obtain ⟨u, w', rfl, r1, r2⟩ := vals2 r
  obtain ⟨t1, rfl⟩ := r1
  obtain ⟨t2, rfl⟩ := r2
  rcases hB with rfl | rfl
  · exact call_dec (x := S l) (by rw [S_len]; exact hl) (by rw [S_tl]; exact hx) (by rw [S_tl]; exact hne) ⟨.int ((numB 10 l : Nat) : Int), H, I.tok _, ⟨_, by rw [S_tl]; rfl⟩, q⟩
  · exact Hx.call_hex (x := S l) (by rw [S_len]; exact hl) (by rw [S_tl]; exact hx) (by rw [S_tl]; exact hne) ⟨.int ((numB 16 l : Nat) : Int), H, I.tok _, ⟨_, by rw [S_tl]; rfl⟩, q⟩
/-! strip signs at the begin -/
theorem lstrip_S (t w : List Nat) : Txt.lstripChars (S t) (S w) = S (t.drop (t.takeWhile (fun c => w.contains c)).length) := by
  have hg : (S w).cps.contains = fun c => w.contains c := by
    funext c
    simp [S]
  unfold Txt.lstripChars Txt.stripBy stripSame stripped stripLo stripHi
  rw [hg]
  simp only [if_true, Bool.false_eq_true, if_false]
  rw [S_tl, S_len]
  have key : ∀ k : Nat, strSub (S t) k t.length = S (t.drop k) := by
    intro k
    rw [S_of (strSub (S t) k t.length), strSub_toList, S_tl]
    congr 1
    exact List.take_of_length_le (by rw [List.length_drop]; omega)
  split
  · rename_i h
    have h0 : (t.takeWhile (fun c => w.contains c)).length = 0 := by
      have := (Bool.and_eq_true_iff.mp h).1
      exact eq_of_beq this
    rw [h0, List.drop_zero]
  · exact key _
end My

/-! ### joined texts -/
namespace My
open PySem PySem.Spec PyProof.Rows L2
theorem join_S (sep : List Nat) (ls : List (List Nat)) : Txt.join (S sep) (ls.map S) = S (TL.joinL sep ls) := by
  rw [TL.join_eq]
  have e := TL.tl_join (S sep) (ls.map S)
  have e2 : (ls.map S).map TL.tl = ls := by
    rw [List.map_map]
    conv => rhs; rw [← List.map_id ls]
    exact List.map_congr_left fun l _ => S_tl l
  rw [e2] at e
  have e3 : TL.tl (S sep) = sep := S_tl _
  rw [e3] at e
  rw [S_of (Str.join (S sep) (ls.map S))]
  exact congrArg S e
theorem join_nil (ls : List (List Nat)) : Txt.join (S []) (ls.map S) = S ls.flatten := by
  rw [join_S]
  congr 1
  induction ls with
  | nil => rfl
  | cons a r ih =>
    cases r with
    | nil => simp [TL.joinL]
    | cons b r =>
      show a ++ ([] ++ TL.joinL [] (b :: r)) = _
      rw [ih]
      simp
end My

/-! ### a text, so often; a tuple in which a token is out -/
namespace My
open PySem PySem.Spec PyProof.Rows L2
section
variable {X : Cx}
theorem op_mul_txt : OpR X (binaryOp .Mult) (fun x y H Q => ∃ (l : List Nat) (j : Nat), x = .str (S l) ∧ y = .int (j : Int) ∧ 1 ≤ l.length ∧ l.length ≤ 1000 ∧ j ≤ 1000 ∧ Q (.str (S (List.replicate j l).flatten)) H) := by
  intro pins s σ H x y v u Q I rx ry h
  obtain ⟨l, j, rfl, rfl, hl1, hl2, hj, q⟩ := h
  obtain ⟨t, rfl⟩ := rx
  obtain ⟨t', rfl⟩ := ry
  have hlen : (S l).length = l.length := S_len _
  have hmul : l.length * j ≤ 1000000 := Nat.le_trans (Nat.mul_le_mul hl2 hj) (by decide)
  refine PySem.P.mul_str (by simp; omega) (fun hn _ => by
    rw [hlen]
    have hj0 : 0 < j := by omega
    have : (l.length : Int) ≤ (2 ^ 63 - 1) / (j : Int) := by
      refine Int.le_ediv_of_mul_le (by omega) ?_
      have : ((l.length * j : Nat) : Int) ≤ 1000000 := by omega
      rw [Int.natCast_mul] at this
      omega
    omega) (fun _ _ => by
    rw [hlen]
    have : (j : Int).toNat = j := by omega
    rw [this]
    exact decide_eq_false (by rw [sizeLine_eq]; omega)) ?_
  have fin : ∀ (m : List Nat), m = (List.replicate j l).flatten → ∀ (v : Value) (k : Nat), RelV (.str (S m)) v → EP X pins σ Q v { s with toks := k } := fun m e v k r => ⟨.str (S m), H, I.tok _, r, by rw [e]; exact q⟩
  by_cases h0 : (j : Int) < 1
  · have e0 : j = 0 := by omega
    rw [if_pos h0]
    exact ⟨by decide, fin [] (by rw [e0]; rfl) _ _ ⟨_, rfl⟩⟩
  · rw [if_neg h0]
    by_cases h1 : j = 1
    · subst h1
      rw [if_pos (by rfl)]
      exact fin l (by simp) _ s.toks ⟨_, rfl⟩
    · rw [if_neg (by rw [hlen, Bool.or_eq_true, beq_iff_eq, beq_iff_eq]; omega)]
      have e : (⟨(List.replicate (j : Int).toNat (S l).cps).foldl (· ++ ·) #[]⟩ : Str) = S (List.replicate j l).flatten := by
        have ej : (j : Int).toNat = j := by omega
        rw [ej]
        have gen : ∀ (n : Nat) (acc : List Nat), (List.replicate n (S l).cps).foldl (· ++ ·) acc.toArray = (acc ++ (List.replicate n l).flatten).toArray := by
          intro n
          induction n with
          | zero => intro acc; simp
          | succ n ih =>
            intro acc
            rw [List.replicate_succ, List.foldl_cons]
            have : acc.toArray ++ (S l).cps = (acc ++ l).toArray := by simp [S]
            rw [this, ih, List.replicate_succ]
            simp
        have := gen j []
        simp at this
        unfold S
        congr 1
      rw [e]
      refine ⟨?_, fin _ rfl _ _ ⟨_, rfl⟩⟩
      rw [S_len, List.length_flatten, List.map_replicate, sizeLine_eq]
      have : (List.replicate j l.length).sum = j * l.length := by
        clear fin q h1 h0 e
        induction j with
        | zero => simp
        | succ j ih => rw [List.replicate_succ, List.sum_cons, ih (by omega) (Nat.le_trans (Nat.mul_le_mul_left _ (Nat.le_succ _)) hmul), Nat.succ_mul, Nat.add_comm]
      rw [this, Nat.mul_comm]
      omega
theorem pa_consT {a : Expr} {op : Operator} {c : Int} {j : Nat} {pc pos0 : Pos} {es : List Expr} {r : R2} {ta : TE} {t : TA} (ho : OpR X (binaryOp op) r) (ha : PE X a ta) (hr : PAT X es t)
    (hs : starEach (.BinOp a op (.Constant (.int c) j pc) pos0 :: es) X.env = (false, eval (.BinOp a op (.Constant (.int c) j pc) pos0) X.env) :: starEach es X.env := by rfl) :
    PA X (.BinOp a op (.Constant (.int c) j pc) pos0 :: es) (tCons (tOp r ta (tC (.int c))) t) := by
  refine ⟨fun pos pins s σ H Q I h => ?_⟩
  rw [hs]
  show wpAny _ _ (spliced ((false, eval (.BinOp a op (.Constant (.int c) j pc) pos0) X.env) :: backTo pos (starEach es X.env))) _ _ s
  refine Calls.spliced_cons (wpAny_BinOp (thn (ha.run pins s σ H _ I h) fun v s1 ⟨x, H1, I1, r1, q1⟩ => wpAny_Constant_int ?_))
  refine wpAny_mono (PySem.wpAny_toks_of (n := 1) (by show 1 ≤ s1.toks + 1; omega) (ho pins _ σ H1 x (.int c) v _ _ (I1.tok _) r1 ⟨_, rfl⟩ q1)) (fun w s2 q => ?_) fun _ _ z => z.2
  obtain ⟨hk, y, H2, I2, r2, q2⟩ := q
  exact thn (hr pos pins s2 σ H2 _ hk I2 q2) fun us s3 ⟨xs, H3, I3, r3, q3⟩ => ⟨y :: xs, H3, I3, .cons r2 r3, q3⟩
end
end My

namespace My
open PySem PySem.Spec PyProof.Rows L2
/-! ### joins of ways, once more by their answers -/
theorem andB' {ta tb : TT} {σ : L2.St} {H : Hp} {a b : Bool} (ha : AnsB ta σ H a) (hb : AnsB tb σ H b) : AnsB (tAnd ta tb) σ H (a && b) := fun Q q => by
  refine ha _ ?_
  cases a with
  | true => exact iteT (hb _ q)
  | false => exact iteF q
theorem if_g {c : TT} {a b u : TS} {D : Ends} {σ : L2.St} {H : Hp} {i : Nat} {x : V} {bb : Bool} (hc : AnsB c (σ.set i (some x)) H bb) (h : if bb = true then a { D with nx := u D } (σ.set i (some x)) H else b { D with nx := u D } (σ.set i (some x)) H) :
    gName i x σ H { D with nx := tSeq (tIfS c a b) u D }.nx := hc _ h
theorem if_n {c : TT} {a b u : TS} {D : Ends} {σ : L2.St} {H : Hp} {bb : Bool} (hc : AnsB c σ H bb) (h : if bb = true then a { D with nx := u D } σ H else b { D with nx := u D } σ H) :
    tNext { D with nx := tSeq (tIfS c a b) u D } σ H := hc _ h
theorem tif_const {t : TT} {x y : V} {σ : L2.St} {H : Hp} {Q : VK} (b : Bool) (ht : AnsB t σ H b) (h : ∀ v, v = (if b = true then x else y) → Q v H) : tIf t (tC x) (tC y) σ H Q := by
  refine ht _ ?_
  cases b with
  | true => exact iteT (h x rfl)
  | false => exact iteF (h y rfl)
theorem for_tif {t : TT} {ta tb : TE} {g : TG} {body u : TS} {D : Ends} {σ : L2.St} {H : Hp} (P : V → Hp → Prop) (b : Bool) (ht : AnsB t σ H b) (ha : b = true → ValB ta σ H P) (hb : b = false → ValB tb σ H P)
    (hq : ∀ v H', P v H' → tFor (iRng1 (fun _ _ R => R [v] H')) g body { D with nx := u D } σ H') : tSeq (tFor (iRng1 (tCons (tIf t ta tb) tNil)) g body) u D σ H := by
  refine tif_val (P := P) b ht ha hb (fun v H' => tNil σ H' fun xs H2 => ∃ j : Int, v :: xs = [.int j] ∧ -(2 ^ 62) ≤ j ∧ j < 2 ^ 62 ∧ _) fun v H' p => ?_
  exact hq v H' p
theorem for_tif_g {t : TT} {ta tb : TE} {g : TG} {body u : TS} {D : Ends} {σ : L2.St} {H : Hp} {i : Nat} {x : V} (P : V → Hp → Prop) (b : Bool) (ht : AnsB t (σ.set i (some x)) H b) (ha : b = true → ValB ta (σ.set i (some x)) H P) (hb : b = false → ValB tb (σ.set i (some x)) H P)
    (hq : ∀ v H', P v H' → tFor (iRng1 (fun _ _ R => R [v] H')) g body { D with nx := u D } (σ.set i (some x)) H') : gName i x σ H { D with nx := tSeq (tFor (iRng1 (tCons (tIf t ta tb) tNil)) g body) u D }.nx :=
  for_tif P b ht ha hb hq
theorem asg_if_g {t : TT} {ta tb : TE} {g : TG} {u : TS} {D : Ends} {σ : L2.St} {H : Hp} {i : Nat} {x : V} (P : V → Hp → Prop) (b : Bool) (ht : AnsB t (σ.set i (some x)) H b) (ha : b = true → ValB ta (σ.set i (some x)) H P) (hb : b = false → ValB tb (σ.set i (some x)) H P)
    (hq : ∀ v H', P v H' → g v (σ.set i (some x)) H' (u D)) : gName i x σ H { D with nx := tSeq (tAsg (tIf t ta tb) g) u D }.nx := asg_if P b ht ha hb hq
theorem keeps_upd {L D : Addr} {H H' : Hp} {o : HO} (k : Keeps L H H') (n : H D = none) : Keeps L H (upd H' D o) := fun b x hb e => by
  rw [upd_ne (ne_of_none e n)]
  exact k b x hb e
/-- one sign -/
def isSign : V → Bool
  | .str z => z.cps.size == 1 && z.cps.all fun c => decide (c < 128)
  | _ => false
theorem isSign_of {v : V} (h : isSign v = true) : ∃ c, v = .str (S [c]) ∧ c < 128 := by
  cases v with
  | str z =>
    unfold isSign at h
    rw [Bool.and_eq_true] at h
    obtain ⟨⟨l⟩⟩ := z
    match l, h with
    | [c], h => exact ⟨c, rfl, by simpa using h.2⟩
    | [], h => simp at h
    | _ :: _ :: _, h => simp at h
  | _ => cases h
/-- a text of signs below 128 -/
def isText : V → Bool
  | .str z => z.cps.all fun c => decide (c < 128)
  | _ => false
theorem isText_of {v : V} (h : isText v = true) : ∃ l, v = .str (S l) ∧ ∀ c ∈ l, c < 128 := by
  cases v with
  | str z =>
    obtain ⟨⟨l⟩⟩ := z
    exact ⟨l, rfl, by unfold isText at h; simpa using h⟩
  | _ => cases h
def Drawn (n : Nat) (l : List Nat) : Prop := l.length ≤ n ∧ ∀ c ∈ l, c < 128
theorem low_sm {l : List Nat} (h : ∀ c ∈ l, c < 128) : Sm l := fun c hc => Nat.lt_trans (h c hc) (by decide)
theorem flatten_len {k : Nat} : ∀ {ls : List (List Nat)}, (∀ l ∈ ls, l.length ≤ k) → ls.flatten.length ≤ k * ls.length
  | [], _ => Nat.zero_le _
  | a :: r, h => by
    have ih := flatten_len (ls := r) (k := k) fun l hl => h l (List.mem_cons_of_mem _ hl)
    have ha := h a (List.mem_cons_self ..)
    rw [List.flatten_cons, List.length_append, List.length_cons, Nat.mul_succ]
    omega
end My

namespace My
open PySem PySem.Spec PyProof.Rows L2
/-! ### zip of a tuple and a list -/
/-- the tuple at a and the list at b as they stand at each turn, the items in new pairs -/
def ItzM (K : PySem.W.Frag) (a b : Addr) : It :=
  ⟨fun i H => ∃ (xs ys : List V) (x y : V), SqT K H a xs ∧ SqL K H b ys ∧ xs[i]? = some x ∧ ys[i]? = some y,
    fun i H v H' => ∃ T x y, v = .ref T ∧ H T = none ∧ H' = upd H T (.tup [x, y]) ∧ (∀ xs, SqT K H a xs → xs[i]? = some x) ∧ ∀ ys, SqL K H b ys → ys[i]? = some y,
    fun i H => ∃ xs ys : List V, SqT K H a xs ∧ SqL K H b ys ∧ (i = xs.length ∧ i ≤ ys.length ∨ i = ys.length ∧ i ≤ xs.length)⟩
/-- all the cells of the zip lie apart -/
structure Apart5 (z TI TO i1 i2 a b : Addr) : Prop where
  TIz : TI ≠ z
  TOz : TO ≠ z
  TITO : TI ≠ TO
  TIi1 : TI ≠ i1
  TIi2 : TI ≠ i2
  zi1 : z ≠ i1
  zi2 : z ≠ i2
  Ti1 : TO ≠ i1
  Ti2 : TO ≠ i2
  i12 : i1 ≠ i2
  za : z ≠ a
  zb : z ≠ b
  Ta : TO ≠ a
  Tb : TO ≠ b
  a1 : a ≠ i1
  a2 : a ≠ i2
  b1 : b ≠ i1
  b2 : b ≠ i2
theorem apart_n (n a b : Nat) (ha : a < n) (hb : b < n) : Apart5 (n + 4) (n + 2) (n + 3) n (n + 1) a b := by
  refine ⟨?_, ?_, ?_, ?_, ?_, ?_, ?_, ?_, ?_, ?_, ?_, ?_, ?_, ?_, ?_, ?_, ?_, ?_⟩ <;> (show ¬ (@Eq Nat _ _)) <;> omega
theorem Apart5.sep {z TI TO i1 i2 a b : Addr} (D : Apart5 z TI TO i1 i2 a b) : ZipSep2 z TI TO i1 i2 [i1, a] [i2, b] where
  TIz := D.TIz
  TOz := D.TOz
  TITO := D.TITO
  TIi1 := D.TIi1
  mem1 := by simp
  zf1 := by simp [D.zi1, D.za]
  Tf1 := by simp [D.Ti1, D.Ta]
  TIi2 := D.TIi2
  mem2 := by simp
  zf2 := by simp [D.zi2, D.zb]
  Tf2 := by simp [D.Ti2, D.Tb]
  sep1_2 := by simp [D.i12, D.b1.symm]
  sep2_1 := by simp [D.i12.symm, D.a2.symm]
theorem turn_zipM {P : Program} {w : World} {K : PySem.W.Frag} {elts : List Expr} {kk : Nat} {tpos : Pos} {a b z TI TO i1 i2 : Addr} (D : Apart5 z TI TO i1 i2 a b) :
    Turn P w K (.Tuple elts kk tpos) (ItzM K a b) [z, TI, TO, i1, i2] z (fun i h => IsZip h z TI TO .none ∧ IsTupOf2 h TI (.ref i1) (.ref i2) ∧ (∃ x y, IsTupOf2 h TO x y) ∧ h.IsTupleIter i1 a i ∧ h.IsListIter i2 b i) where
  mem := by simp
  obj := fun i h st c hc => by
    obtain ⟨hz, hTI, ⟨x, y, hTO⟩, ⟨o1, e1, _, d1⟩, ⟨o2, e2, _, d2⟩⟩ := st
    have e' : c = z ∨ c = TI ∨ c = TO ∨ c = i1 ∨ c = i2 := by simpa using hc
    rcases e' with q | q | q | q | q
    · rw [q]; exact ⟨_, hz, fun v q => nomatch q⟩
    · rw [q]; exact ⟨_, hTI, fun v q => nomatch q⟩
    · rw [q]; exact ⟨_, hTO, fun v q => nomatch q⟩
    · rw [q]; exact ⟨o1, e1, fun v q => by rw [d1] at q; cases q⟩
    · rw [q]; exact ⟨o2, e2, fun v q => by rw [d2] at q; cases q⟩
  keep := fun i h h' st k => by
    obtain ⟨hz, hTI, ⟨x, y, hTO⟩, h1, h2⟩ := st
    exact ⟨k z (by simp) _ hz, k TI (by simp) _ hTI, ⟨x, y, k TO (by simp) _ hTO⟩, h1.at fun o q => k i1 (by simp) o q, h2.at fun o q => k i2 (by simp) o q⟩
  item := by
    intro X hP hw hK hc i pins s σ H E I hf st hg
    subst hP hw hK
    obtain ⟨hz, hTI, ⟨x0, y0, hTO⟩, h1, h2⟩ := st
    obtain ⟨xs, ys, x, y, hqx, hqy, hx, hy⟩ := hg
    obtain ⟨its, rv, p, _⟩ := I.tuple hqx
    obtain ⟨its2, rv2, p2, _⟩ := I.list hqy
    obtain ⟨u, hu, ru⟩ := rv.get hx
    obtain ⟨u2, hu2, ru2⟩ := rv2.get hy
    have hzl : z < s.heap.objs.size := Heap.lt_size hz
    have D1 := PySem.Draws.tuple (prog := X.prog) (w := X.w) (A := X.A.in1) (I.ok.hd hc) i1 a D.a1 its.toArray
    have D2 := PySem.Draws.list (prog := X.prog) (w := X.w) (A := X.A.in1) (I.ok.hd hc) i2 b D.b2 its2.toArray
    have hlt1 : i < its.toArray.size := by
      have := (List.getElem?_eq_some_iff.mp hu).1
      simpa using this
    have hlt2 : i < its2.toArray.size := by
      have := (List.getElem?_eq_some_iff.mp hu2).1
      simpa using this
    refine wpAny_pyNext_zipD2_item D.sep D1 D2 hz hTI hTO ⟨h1, p⟩ ⟨h2, p2.isList⟩ hlt1 hlt2 fun x1 x2 h' tk y1 y2 z' TO' st1' st2' hT hsz hk => ?_
    have ex1 : x1 = u := by
      have : some u = some x1 := by rw [← hu]; simpa using y1
      exact (Option.some.inj this).symm
    have ex2 : x2 = u2 := by
      have : some u2 = some x2 := by rw [← hu2]; simpa using y2
      exact (Option.some.inj this).symm
    subst ex1 ex2
    obtain ⟨h1', _⟩ := st1'
    obtain ⟨h2', _⟩ := st2'
    refine ⟨_, rfl, wpAny_letOwnedTupleGo_zip (s := { s with heap := h', toks := tk }) z' fun h'' z'' sb => ?_⟩
    have hT2 : h''.get? s.heap.objs.size = some { cls := .type "tuple", data := .seq #[x1, x2] } := (sb.2 _ (Nat.ne_of_gt hzl)).trans hT
    have new : ObjOk X.prog X.w (upd H s.heap.objs.size (.tup [x, y])) h'' s.heap.objs.size (.tup [x, y]) :=
      ⟨by show 2 ≤ sizeLine; decide, [x1, x2], .cons ru (.cons ru2 .nil), ⟨_, hT2, rfl, _, rfl⟩⟩
    have I1 : Inv X pins σ (upd H s.heap.objs.size (.tup [x, y])) { s with heap := h'', toks := tk } :=
      I.turnedNew (t' := tk) (ch := [z, TI, TO, i1, i2]) (fun c o hb q => (sb.2 c (fun q' => hb (by simp [q']))).trans (hk c o (fun q' => hb (by simp [q'])) (fun q' => hb (by simp [q'])) (fun q' => hb (by simp [q'])) (fun q' => hb (by simp [q'])) q)) hf (Nat.le_refl _) new
    refine ⟨.ref s.heap.objs.size, _, I1, rfl, ⟨_, x, y, rfl, I.hok.fresh (Nat.le_refl _), rfl, fun l hl => by rw [I.tuple_inj hl hqx]; exact hx, fun l hl => by rw [I.list_inj hl hqy]; exact hy⟩, ⟨z'', ?_, ⟨x1, x2, ?_⟩, ?_, ?_⟩, fun c hcm => ?_⟩
    · exact (sb.2 _ D.TIz).trans (hk _ _ D.TIz D.TITO D.TIi1 D.TIi2 hTI)
    · exact (sb.2 _ D.TOz).trans TO'
    · exact h1'.at fun o q => (sb.2 _ D.zi1.symm).trans q
    · exact h2'.at fun o q => (sb.2 _ D.zi2.symm).trans q
    · have hlt : c < s.heap.objs.size := by
        have e' : c = z ∨ c = TI ∨ c = TO ∨ c = i1 ∨ c = i2 := by simpa using hcm
        rcases e' with q | q | q | q | q
        · rw [q]; exact hzl
        · rw [q]; exact Heap.lt_size hTI
        · rw [q]; exact Heap.lt_size hTO
        · rw [q]; obtain ⟨_, e1, _⟩ := h1; exact Heap.lt_size e1
        · rw [q]; obtain ⟨_, e2, _⟩ := h2; exact Heap.lt_size e2
      rw [upd_ne (Nat.ne_of_lt hlt)]
      exact (hf c hcm).1
  done := by
    intro X hP hw hK hc i pins s σ H E I hf st hg
    subst hP hw hK
    obtain ⟨hz, hTI, ⟨x0, y0, hTO⟩, h1, h2⟩ := st
    obtain ⟨xs, ys, hqx, hqy, hend⟩ := hg
    obtain ⟨its, rv, p, _⟩ := I.tuple hqx
    obtain ⟨its2, rv2, p2, _⟩ := I.list hqy
    have l1 := rv.length
    have l2 := rv2.length
    have D1 := PySem.Draws.tuple (prog := X.prog) (w := X.w) (A := X.A.in1) (I.ok.hd hc) i1 a D.a1 its.toArray
    have D2 := PySem.Draws.list (prog := X.prog) (w := X.w) (A := X.A.in1) (I.ok.hd hc) i2 b D.b2 its2.toArray
    have s1 : its.toArray.size = its.length := by simp
    have s2 : its2.toArray.size = its2.length := by simp
    exact wpAny_pyNext_zipD2_end D.sep D1 D2 hz hTI hTO ⟨h1, p⟩ ⟨h2, p2.isList⟩ (by omega) (by omega) (by omega) fun h' tk hk => ⟨rfl, I.turnedL (t' := tk) (ch := [z, TI, TO, i1, i2]) (fun c o hb q =>
      hk c o (fun q' => hb (by simp [q'])) (fun q' => hb (by simp [q'])) (fun q' => hb (by simp [q'])) (fun q' => hb (by simp [q'])) q) hf⟩
  self := fun A i s Q E st h => wpAny_pyIter_zip st.1 h
def iZipM (K : PySem.W.Frag) (ta : TA) : TI := fun σ H R => ta σ H fun vs H1 => ∃ a b xs ys, vs = [.ref a, .ref b] ∧ SqT K H1 a xs ∧ SqL K H1 b ys ∧ R (ItzM K a b) H1
theorem pi_zipM {X : Cx} {e e2 : Expr} {ta : TA} {p pos tpos : Pos} {elts : List Expr} {kk : Nat} (hg : Gl X "zip") (hm : X.mg "zip" = none) (ha : PA X [e, e2] ta)
    (hs : starEach [e, e2] X.env = (false, eval e X.env) :: starEach [e2] X.env := by rfl) (hpl : (backTo pos (starEach [e2] X.env)).any (·.1) = false := by rfl) :
    PI X (.Tuple elts kk tpos) (.Call (.Name "zip" p) [e, e2] [] pos) (iZipM X.K ta) := by
  refine ⟨fun pins s σ H R I h => ?_⟩
  refine Call_ (ld_blt I hg hm PyProof.Rows.boot_zip (PyProof.Rows.callWith_type1 (thn (ha.run pos pins s σ H _ I h) fun us s1 ⟨vs, H1, I1, r1, q1⟩ => ?_) hs hpl))
  obtain ⟨a, b, xs, ys, ex, hqx, hqy, q⟩ := q1
  subst ex
  cases r1 with
  | cons r rr =>
    cases rr with
    | cons r' rr =>
      cases rr
      cases r
      cases r'
      have fresh5 : ∀ c, c ∈ [s1.heap.objs.size + 4, s1.heap.objs.size + 2, s1.heap.objs.size + 3, s1.heap.objs.size, s1.heap.objs.size + 1] → FpOk X pins H1 c := fun c hcm => by
        have e' : c = s1.heap.objs.size + 4 ∨ c = s1.heap.objs.size + 2 ∨ c = s1.heap.objs.size + 3 ∨ c = s1.heap.objs.size ∨ c = s1.heap.objs.size + 1 := by simpa using hcm
        have hle : s1.heap.objs.size ≤ c := by
          rcases e' with z | z | z | z | z
          · rw [z]; exact Nat.le_add_right _ _
          · rw [z]; exact Nat.le_add_right _ _
          · rw [z]; exact Nat.le_add_right _ _
          · rw [z]; exact Nat.le_refl _
          · rw [z]; exact Nat.le_add_right _ _
        exact I1.fpOk hle (I1.hok.fresh hle)
      obtain ⟨its, rv, p1, _⟩ := I1.tuple hqx
      obtain ⟨its2, rv2, p2, _⟩ := I1.list hqy
      obtain ⟨o1, ho1, _⟩ := id p1
      refine PySem.zip_begins2 (begins_tuple a its.toArray) (begins_list b its2.toArray) p1 p2.isList fun h' hz hTI hTO h1 h2 hsz hk => wpAny_pyIter_zip hz ?_
      have I2 : Inv X pins σ H1 { s1 with heap := h' } := I1.kept (t' := s1.toks) hk
      exact ⟨s1.heap.objs.size + 4, [s1.heap.objs.size + 4, s1.heap.objs.size + 2, s1.heap.objs.size + 3, s1.heap.objs.size, s1.heap.objs.size + 1], _, _, H1, rfl, I2, turn_zipM (apart_n s1.heap.objs.size a b (Heap.lt_size ho1) p2.lt), ⟨hz, hTI, ⟨_, _, hTO⟩, ⟨_, h1, rfl, rfl⟩, ⟨_, h2, rfl, rfl⟩⟩, fresh5, q⟩
theorem walk_zipM {K : PySem.W.Frag} {a b : Addr} {xs ys : List V} (hl : xs.length = ys.length) : Walk (ItzM K a b) xs.length (fun H => SqT K H a xs ∧ SqL K H b ys) (YPair (fun i => xs[i]?) (fun i => ys[i]?)) := by
  refine ⟨fun i _ hi q => ?_, fun _ q => ⟨xs, ys, q.1, q.2, .inl ⟨rfl, by omega⟩⟩, fun i H v H' _ q y => ?_⟩
  · have h2 : i < ys.length := by omega
    exact ⟨xs, ys, xs[i], ys[i], q.1, q.2, by simp [hi], by simp [h2]⟩
  · obtain ⟨T, x, z, h1, h2, h3, h4, h5⟩ := y
    exact ⟨T, x, z, h1, h2, h3, h4 xs q.1, h5 ys q.2⟩
end My

namespace My
open PySem PySem.Spec PyProof.Rows L2
/-! ### f(k = v, ..) without positional arguments; a def of one parameter, by name -/
section
variable {X : Cx} {CX : CXT} {k : Nat} {f : Addr} {fd : FuncData} {ps ks : List Str} {sp : Sp} {E : XK} {x : Str} {p pos : Pos} {kws : List Keyword} {tk : TA} {g : List Value → List Value → List Value} {gV : List V → List V → List V}
theorem pe_callK0 (F : FnOk X.prog X.w X.K X.mg X.base CX k f fd ps sp) (hr : Room k X.A) (hg : Gl X x) (hm : X.mg x = some (.ref f)) (hk : PySem.W.keepIn X.K (.ref f) = true) (hb : KBinds X.K fd ps ks g gV) (hx : Passes CX X E)
    (hkw : PK X kws tk) (hall : (backToKw pos (keywordEach kws X.env)).all (·.1.isSome) = true := by rfl) (hks : (backToKw pos (keywordEach kws X.env)).filterMap (·.1) = ks := by rfl)
    (hdb : (x == ("__debug__" : Str)) = false := by decide)
    (hpl : ((backTo pos (starEach [] X.env)).any (·.1) || (backToKw pos (keywordEach kws X.env)).any (·.1.isNone)) = false := by rfl) :
    PE X (.Call (.Name x p) [] kws pos) (tCallK sp gV E tNil tk) := by
  refine ⟨fun pins s σ H Q I h => ?_⟩
  refine wpAny_Call_Name_kw (ld_glob I hg hm ?_ hdb)
  refine PySem.W.callWith_KW0 (h₀ := X.base) I.ok.mod.kin hk hall ?_ hpl
  refine thn (hkw.run pos pins s σ H _ I h) fun ws s2 ⟨zs, H2, I2, rz, q2⟩ => ⟨I2.kIn, ?_⟩
  rw [hks]
  exact run_fnk F hr hb hx I2 .nil rz q2
end
/-- of several defs that the slot may hold, each with its promises -/
def tCallR (i : Nat) (S : Addr → Sp → Prop) (t : TA) : TE := fun σ H Q => ∃ f sp, σ[i]? = some (some (.ref f)) ∧ S f sp ∧ t σ H fun vs H1 => sp vs H1 Q (fun _ _ _ => False)
theorem pe_callR {X : Cx} {k i : Nat} {x : Str} {p pos : Pos} {e : Expr} {es : List Expr} {t : TA} {S : Addr → Sp → Prop} (A : ∀ f sp, S f sp → Held X.prog X.w X.K X.mg X.base k f sp) (hr : Room k X.A) (hN : X.N[i]? = some x) (hv : Vis X.env.scope x) (ha : PA X (e :: es) t)
    (hdb : (x == ("__debug__" : Str)) = false := by decide) (hcd : (x == ("__classdict__" : Str)) = false := by decide)
    (he : starEach (e :: es) X.env = (false, eval e X.env) :: starEach es X.env := by rfl) (hpl : (backTo pos (starEach es X.env)).any (·.1) = false := by rfl) : PE X (.Call (.Name x p) (e :: es) [] pos) (tCallR i S t) := by
  refine ⟨fun pins s σ H Q I h => ?_⟩
  obtain ⟨f, sp, hs, hS, ht⟩ := h
  obtain ⟨fd, ps, F, hk, hb⟩ := (A f sp hS).ex
  refine (pe_callL (i := i) (f := f) (sp := sp) (dvs := []) (E := fun _ _ _ => False) F hr hN hv hk hb .nil (fun _ _ _ _ _ _ _ z => z.elim) ha hdb hcd he hpl).run pins s σ H Q I ⟨hs, ?_⟩
  have e0 : (fun (vs : List V) (H1 : Hp) => sp (vs ++ []) H1 Q (fun _ _ _ => False)) = fun vs H1 => sp vs H1 Q (fun _ _ _ => False) := by
    funext vs H1
    rw [List.append_nil]
  show t σ H (fun vs H1 => sp (vs ++ []) H1 Q (fun _ _ _ => False))
  rw [e0]
  exact ht
theorem fnOk_up {P : Program} {w : World} {K : PySem.W.Frag} {mg : Str → Option Value} {base : Heap} {CX : CXT} {k k' : Nat} {f : Addr} {fd : FuncData} {ps : List Str} {sp : Sp} (h : FnOk P w K mg base CX k f fd ps sp) (hk : k ≤ k') : FnOk P w K mg base CX k' f fd ps sp :=
  ⟨h.len, fun A outer s H args us vs Q E hr => h.run A outer s H args us vs Q E (hr.mono hk)⟩
theorem kbinds_one {K : PySem.W.Frag} {x qual p : Str} {st : Stmt} {f : Addr} {fd : FuncData} (F : Fun K x qual st f fd)
    (h1 : ∀ (kV doc pm : Value) (an : Option Addr) (cdv ct : Value) (u : Value), bindArgs (PySem.W.fnOf x qual (defArgs st) (defBody st) (defScope st) .none kV doc pm an cdv ct) ⟨[u], []⟩ = pure [(p, u)])
    (h2 : ∀ (kV doc pm : Value) (an : Option Addr) (cdv ct : Value) (u : Value), bindArgs (PySem.W.fnOf x qual (defArgs st) (defBody st) (defScope st) .none kV doc pm an cdv ct) ⟨[], [(p, u)]⟩ = pure [(p, u)]) :
    KBinds K fd [p] [p] (fun us ws => us ++ ws) (fun vs zs => vs ++ zs) := by
  obtain ⟨oc, od, kV, doc, pm, an, cdv, ct, osl, rfl, lk, hcd⟩ := F.ex
  refine ⟨fun s us ws _ hl => ?_, fun r1 r2 => ?_⟩
  · match us, ws, hl with
    | [u], [], _ => exact .of_eq (h1 kV doc pm an cdv ct u)
    | [], [u], _ => exact .of_eq (h2 kV doc pm an cdv ct u)
  · induction r1 with
    | nil => exact r2
    | cons r _ ih => exact .cons r ih
end My

namespace My
open PySem PySem.Spec PyProof.Rows L2
/-! ### two rows, item by item -/
def All2 {α β : Type} (R : α → β → Prop) (xs : List α) (ys : List β) : Prop := xs.length = ys.length ∧ ∀ (i : Nat) (x : α) (y : β), xs[i]? = some x → ys[i]? = some y → R x y
section
variable {α β : Type} {R : α → β → Prop} {xs xs' : List α} {ys ys' : List β}
theorem All2.nil : All2 R ([] : List α) ([] : List β) := ⟨rfl, fun i x y h => by simp at h⟩
theorem All2.mono {R' : α → β → Prop} (h : All2 R xs ys) (f : ∀ x y, R x y → R' x y) : All2 R' xs ys := ⟨h.1, fun i x y a b => f x y (h.2 i x y a b)⟩
theorem All2.cons {x : α} {y : β} (r : R x y) (h : All2 R xs ys) : All2 R (x :: xs) (y :: ys) := by
  refine ⟨by simp [h.1], fun i a b ha hb => ?_⟩
  cases i with
  | zero =>
    rw [List.getElem?_cons_zero] at ha hb
    cases ha
    cases hb
    exact r
  | succ i =>
    rw [List.getElem?_cons_succ] at ha hb
    exact h.2 i a b ha hb
theorem All2.app (h : All2 R xs ys) (g : All2 R xs' ys') : All2 R (xs ++ xs') (ys ++ ys') := by
  refine ⟨by simp [h.1, g.1], fun i a b ha hb => ?_⟩
  by_cases c : i < xs.length
  · rw [List.getElem?_append_left c] at ha
    rw [List.getElem?_append_left (by rw [← h.1]; exact c)] at hb
    exact h.2 i a b ha hb
  · rw [List.getElem?_append_right (by omega)] at ha
    rw [List.getElem?_append_right (by rw [← h.1]; omega), ← h.1] at hb
    exact g.2 _ a b ha hb
theorem All2.one {x : α} {y : β} (r : R x y) : All2 R [x] [y] := .cons r .nil
theorem All2.drop (h : All2 R xs ys) (n : Nat) : All2 R (xs.drop n) (ys.drop n) :=
  ⟨by simp [h.1], fun i a b ha hb => h.2 (n + i) a b (by rw [List.getElem?_drop] at ha; exact ha) (by rw [List.getElem?_drop] at hb; exact hb)⟩
theorem All2.take (h : All2 R xs ys) (n : Nat) : All2 R (xs.take n) (ys.take n) := by
  refine ⟨by simp [h.1], fun i a b ha hb => ?_⟩
  rw [List.getElem?_take] at ha hb
  split at ha
  · rename_i c
    rw [if_pos c] at hb
    exact h.2 i a b ha hb
  · cases ha
theorem All2.get (h : All2 R xs ys) {i : Nat} {y : β} (hy : ys[i]? = some y) : ∃ x, xs[i]? = some x ∧ R x y := by
  have hi : i < xs.length := by rw [h.1]; exact (List.getElem?_eq_some_iff.mp hy).1
  exact ⟨xs[i], List.getElem?_eq_getElem hi, h.2 i _ _ (List.getElem?_eq_getElem hi) hy⟩
theorem All2.map {γ : Type} {f : γ → β} {zs : List γ} : All2 R xs (zs.map f) ↔ All2 (fun x z => R x (f z)) xs zs := by
  constructor
  · intro h
    refine ⟨by simpa using h.1, fun i x z hx hz => h.2 i x (f z) hx (by rw [List.getElem?_map, hz]; rfl)⟩
  · intro h
    refine ⟨by simpa using h.1, fun i x y hx hy => ?_⟩
    rw [List.getElem?_map] at hy
    cases e : zs[i]? with
    | none => rw [e] at hy; cases hy
    | some z => rw [e] at hy; cases hy; exact h.2 i x z hx e
end
theorem dpAll_all2 {K : PySem.W.Frag} {H : Hp} : ∀ {vs : List V} {ds : List PyData}, DpAll K H vs ds → All2 (Dp K H) vs ds
  | _, _, .nil => .nil
  | _, _, .cons h r => .cons h (dpAll_all2 r)
theorem all2_dpAll {K : PySem.W.Frag} {H : Hp} : ∀ {vs : List V} {ds : List PyData}, All2 (Dp K H) vs ds → DpAll K H vs ds
  | [], [], _ => .nil
  | [], _ :: _, h => by have := h.1; simp at this
  | _ :: _, [], h => by have := h.1; simp at this
  | v :: vs, d :: ds, h => .cons (h.2 0 v d rfl rfl) (all2_dpAll ⟨by have := h.1; simpa using this, fun i x y hx hy => h.2 (i + 1) x y hx hy⟩)
theorem same_tup {K : PySem.W.Frag} {H H' : Hp} {a : Addr} {xs : List V} (s : Same H H') (h : SqT K H a xs) : SqT K H' a xs := by
  rcases h with (h | ⟨o, h⟩) | h
  · exact .inl (.inl (s _ _ h))
  · exact .inl (.inr ⟨o, s _ _ h⟩)
  · exact .inr h
mutual
theorem dp_same {K : PySem.W.Frag} {H H' : Hp} (s : Same H H') : ∀ {v : V} {d : PyData}, Dp K H v d → Dp K H' v d
  | _, _, .non => .non
  | _, _, .bl b => .bl b
  | _, _, .int i => .int i
  | _, _, .str x => .str x
  | _, _, .lst h r => .lst (s.seq h) (dpAll_same s r)
  | _, _, .tup h r => .tup (same_tup s h) (dpAll_same s r)
theorem dpAll_same {K : PySem.W.Frag} {H H' : Hp} (s : Same H H') : ∀ {vs : List V} {ds : List PyData}, DpAll K H vs ds → DpAll K H' vs ds
  | _, _, .nil => .nil
  | _, _, .cons h r => .cons (dp_same s h) (dpAll_same s r)
end
/-! ### the heap without some places -/
def Rest (H : Hp) (L : List Addr) : Hp := fun b => if b ∈ L then none else H b
theorem rest_in {H : Hp} {L : List Addr} {b : Addr} (h : b ∈ L) : Rest H L b = none := if_pos h
theorem rest_out {H : Hp} {L : List Addr} {b : Addr} (h : b ∉ L) : Rest H L b = H b := if_neg h
theorem rest_same {H : Hp} {L : List Addr} : Same (Rest H L) H := fun b o e => by
  unfold Rest at e
  split at e
  · cases e
  · exact e
theorem same_rest {G H : Hp} {L : List Addr} (s : Same G H) (n : ∀ b ∈ L, G b = none) : Same G (Rest H L) := fun b o e => by
  by_cases h : b ∈ L
  · rw [n b h] at e
    cases e
  · rw [rest_out h]
    exact s b o e
theorem rest_mono {H H' : Hp} {L : List Addr} (s : Same H H') : Same (Rest H L) (Rest H' L) := same_rest (fun b o e => s b o (rest_same b o e)) fun _ h => rest_in h
theorem rest_upd {H : Hp} {L : List Addr} {a : Addr} {o : HO} (h : a ∈ L) : Rest (upd H a o) L = Rest H L := by
  funext b
  by_cases hb : b ∈ L
  · rw [rest_in hb, rest_in hb]
  · rw [rest_out hb, rest_out hb, upd_ne fun e => hb (by rw [e]; exact h)]
theorem rest_less {H : Hp} {L L' : List Addr} (h : ∀ b ∈ L', b ∈ L) : Same (Rest H L) (Rest H L') := fun b o e => by
  have hb : b ∉ L := fun z => by rw [rest_in z] at e; cases e
  rw [rest_out hb] at e
  rw [rest_out fun z => hb (h b z)]
  exact e
end My

namespace My
open PySem PySem.Spec PyProof.Rows L2
/-- a well of draws, and how many parts may be made -/
def Well3 (H : Hp) (L : Addr) : Prop := ∃ x y z : Int, H L = some (.lst [.int x, .int y, .int z])
theorem Well3.lst {H : Hp} {L : Addr} (h : Well3 H L) : ∃ xs, H L = some (.lst xs) := by
  obtain ⟨x, y, z, e⟩ := h
  exact ⟨_, e⟩
theorem Well3.same {H H' : Hp} {L : Addr} (h : Well3 H L) (s : Same H H') : Well3 H' L := by
  obtain ⟨x, y, z, e⟩ := h
  exact ⟨x, y, z, s _ _ e⟩
theorem Well3.new {H : Hp} {L p : Addr} {o : HO} (h : Well3 H L) (n : H p = none) : Well3 (upd H p o) L := h.same (same_new n)
theorem Well3.ne {H : Hp} {L p : Addr} (h : Well3 H L) (n : H p = none) : p ≠ L := by
  obtain ⟨x, y, z, e⟩ := h
  exact (ne_of_none e n).symm
theorem Well3.upd {H : Hp} {L p : Addr} {o : HO} (h : Well3 H L) (n : p ≠ L) : Well3 (upd H p o) L := by
  obtain ⟨x, y, z, e⟩ := h
  exact ⟨x, y, z, by rw [upd_ne n.symm]; exact e⟩
/-! ### data without lists -/
mutual
def noList : PyData → Bool
  | .list _ => false
  | .tuple ds => noListAll ds
  | .dict _ => false
  | _ => true
def noListAll : List PyData → Bool
  | [] => true
  | d :: ds => noList d && noListAll ds
end
mutual
theorem dp_rest {K : PySem.W.Frag} {H : Hp} {L : List Addr} (hL : ∀ b ∈ L, ∃ xs, H b = some (.lst xs)) : ∀ {v : V} {d : PyData}, noList d = true → Dp K H v d → Dp K (Rest H L) v d
  | _, _, _, .non => .non
  | _, _, _, .bl b => .bl b
  | _, _, _, .int i => .int i
  | _, _, _, .str x => .str x
  | _, _, h, .lst _ _ => by unfold noList at h; cases h
  | _, _, h, .tup (a := a) q r => by
    refine .tup ?_ (dpAll_rest hL (by unfold noList at h; exact h) r)
    rcases q with (q | ⟨o, q⟩) | q
    · refine .inl (.inl ?_)
      rw [rest_out fun z => ?_]
      · exact q
      · obtain ⟨xs, e⟩ := hL _ z
        rw [e] at q
        cases q
    · refine .inl (.inr ⟨o, ?_⟩)
      rw [rest_out fun z => ?_]
      · exact q
      · obtain ⟨xs, e⟩ := hL _ z
        rw [e] at q
        cases q
    · exact .inr q
theorem dpAll_rest {K : PySem.W.Frag} {H : Hp} {L : List Addr} (hL : ∀ b ∈ L, ∃ xs, H b = some (.lst xs)) : ∀ {vs : List V} {ds : List PyData}, noListAll ds = true → DpAll K H vs ds → DpAll K (Rest H L) vs ds
  | _, _, _, .nil => .nil
  | _, _, h, .cons q r => by
    unfold noListAll at h
    rw [Bool.and_eq_true] at h
    exact .cons (dp_rest hL h.1 q) (dpAll_rest hL h.2 r)
end
theorem dp_keep {K : PySem.W.Frag} {H H' : Hp} {L : Addr} {v : V} {d : PyData} (k : Keeps L H H') (hL : ∃ xs, H L = some (.lst xs)) (n : noList d = true) (h : Dp K H v d) : Dp K H' v d := by
  have h1 := dp_rest (L := [L]) (fun b hb => by rw [List.mem_singleton.mp hb]; exact hL) n h
  refine dp_same (fun b o e => ?_) h1
  have hb : b ≠ L := fun z => by rw [z, rest_in (by simp)] at e; cases e
  rw [rest_out (by simpa using hb)] at e
  exact k b o hb e
end My

namespace My
open PySem PySem.Spec PyProof.Rows L2
/-! ### rows within one another, gone through from the outermost on -/
def tot {X : Type} (N : List X → Nat) : List (List X) → Nat
  | [] => 0
  | r :: rs => N r + tot N rs
theorem tot_app {X : Type} (N : List X → Nat) : ∀ a b : List (List X), tot N (a ++ b) = tot N a + tot N b
  | [], b => by simp [tot]
  | r :: a, b => by
    show N r + tot N (a ++ b) = N r + tot N a + tot N b
    rw [tot_app N a b]
    omega
theorem keeps_rest {R : Addr} {H H' : Hp} {L : List Addr} (k : Keeps R H H') (h : R ∈ L) : Same (Rest H L) (Rest H' L) := same_rest (fun b o e => by
    by_cases hb : b ∈ L
    · rw [rest_in hb] at e
      cases e
    · rw [rest_out hb] at e
      exact k b o (fun z => hb (by rw [z]; exact h)) e) fun _ h => rest_in h
theorem keeps_same {R : Addr} {G H H' : Hp} (k : Keeps R H H') (s : Same G H) (n : G R = none) : Same G H' := fun b o e => k b o (fun z => by rw [z, n] at e; cases e) (s b o e)
theorem cutV_nat (zs : List V) {b e : Nat} (hb : b ≤ e) (he : e ≤ zs.length) : cutV zs (some (b : Int)) (some (e : Int)) = (zs.drop b).take (e - b) := by
  unfold cutV
  rw [HT.sIx_nat, HT.sIx_nat, Nat.min_eq_left he, Nat.min_eq_left (Nat.le_trans hb he)]
theorem flat_one {α : Type} (x : α) : ∀ n, (List.replicate n [x]).flatten = List.replicate n x
  | 0 => rfl
  | n + 1 => by
    rw [List.replicate_succ, List.flatten_cons, flat_one x n, List.replicate_succ]
    rfl
structure Fold where
  X : Type
  toD : X → PyData
  sub : X → List (List X)
  N : List X → Nat
  hN : ∀ row, N row = 1 + row.length + tot N (row.flatMap sub)
  Ok : List X → Prop
  inh : ∀ row x r, Ok row → x ∈ row → r ∈ sub x → Ok r
  RR : Hp → V → List X → Prop
  mono : ∀ G G' v r, Same G G' → RR G v r → RR G' v r
section
variable {F : Fold}
theorem tot_len : ∀ rs : List (List F.X), rs.length ≤ tot F.N rs
  | [] => Nat.le_refl _
  | r :: rs => by
    have h1 := tot_len rs
    have h2 := F.hN r
    show rs.length + 1 ≤ F.N r + tot F.N rs
    omega
theorem tot_mem : ∀ {rs : List (List F.X)} {r : List F.X}, r ∈ rs → F.N r ≤ tot F.N rs
  | q :: rs, r, h => by
    show F.N r ≤ F.N q + tot F.N rs
    rcases List.mem_cons.mp h with rfl | h
    · omega
    · have := tot_mem h
      omega
theorem ixN_nat {n k : Nat} (h : k < n) : ixN n (k : Int) = some k := by
  unfold ixN
  rw [if_pos (Int.natCast_nonneg k), if_pos (by omega)]
  rfl
def RowIs (K : PySem.W.Frag) (F : Fold) (G : Hp) (v : V) (row : List F.X) : Prop := ∃ a vs, v = .ref a ∧ SqT K G a vs ∧ All2 (fun u x => Dp K G u (F.toD x)) vs row
theorem RowIs.same {K : PySem.W.Frag} {G G' : Hp} {v : V} {row : List F.X} (s : Same G G') (h : RowIs K F G v row) : RowIs K F G' v row := by
  obtain ⟨a, vs, e, q, r⟩ := h
  exact ⟨a, vs, e, same_tup s q, r.mono fun _ _ d => dp_same s d⟩
theorem dp_row {K : PySem.W.Frag} {G : Hp} {v : V} {row : List F.X} (h : Dp K G v (.tuple (row.map F.toD))) : RowIs K F G v row := by
  cases h with
  | tup q r => exact ⟨_, _, rfl, q, All2.map.mp (dpAll_all2 r)⟩
def InOk (K : PySem.W.Frag) (F : Fold) (sp : Sp) : Prop := ∀ (G H : Hp) (v : V) (x : F.X) (Q : VK), Same G H → Dp K G v (F.toD x) →
  (∀ p H' ws, Same H H' → H p = none → H' p = some (.lst ws) → All2 (RowIs K F G) ws (F.sub x) → Q (.ref p) H') → sp [v] H Q (fun _ _ _ => False)
/-- the results of the rows in each of a row -/
def InnerIs (F : Fold) (G H : Hp) (w : V) (x : F.X) : Prop := ∃ l vs, w = .ref l ∧ H l = some (.lst vs) ∧ All2 (F.RR G) vs (F.sub x)
/-- what is new in G' is new in H, too -/
def NewIn (G G' H : Hp) : Prop := ∀ b, G' b ≠ none → G b ≠ none ∨ H b = none
def MadeOk (K : PySem.W.Frag) (F : Fold) (sp : Sp) : Prop := ∀ (G H : Hp) (v : V) (L : Addr) (ws : List V) (row : List F.X) (Q : VK), Same G H → RowIs K F G v row → F.Ok row → row.length ≤ 100000 → H L = some (.lst ws) →
  All2 (InnerIs F G H) ws row → (∀ r H' G', Same H H' → Same G G' → Same G' H' → NewIn G G' H → F.RR G' r row → Q r H') → sp [v, .ref L] H Q (fun _ _ _ => False)
def PlaceOk (F : Fold) (rs : List (List F.X)) (j : Nat) (x : F.X) (be : Nat × Nat) : Prop := j < be.1 ∧ be.1 ≤ be.2 ∧ be.2 ≤ rs.length ∧ (rs.drop be.1).take (be.2 - be.1) = F.sub x
theorem PlaceOk.app {rs more : List (List F.X)} {j : Nat} {x : F.X} {be : Nat × Nat} (h : PlaceOk F rs j x be) : PlaceOk F (rs ++ more) j x be := by
  obtain ⟨h1, h2, h3, h4⟩ := h
  refine ⟨h1, h2, by simp; omega, ?_⟩
  rw [List.drop_append_of_le_length (by omega), List.take_append_of_le_length (by simp; omega)]
  exact h4
theorem PlaceOk.new {rs : List (List F.X)} {j : Nat} {x : F.X} (h : j < rs.length) : PlaceOk F (rs ++ F.sub x) j x (rs.length, rs.length + (F.sub x).length) := by
  refine ⟨h, by simp, by simp, ?_⟩
  show ((rs ++ F.sub x).drop rs.length).take (rs.length + (F.sub x).length - rs.length) = F.sub x
  rw [List.drop_left, Nat.add_sub_cancel_left, List.take_length]
def PairAt (H : Hp) (t : V) (be : Nat × Nat) : Prop := ∃ q, t = .ref q ∧ H q = some (.tup [.int (be.1 : Nat), .int (be.2 : Nat)])
def NumIs (H : Hp) (v : V) (ps : List (Nat × Nat)) : Prop := ∃ a ts, v = .ref a ∧ H a = some (.lst ts) ∧ All2 (PairAt H) ts ps
theorem PairAt.same {G G' : Hp} {v : V} {be : Nat × Nat} (s : Same G G') (h : PairAt G v be) : PairAt G' v be := by
  obtain ⟨q, e, h⟩ := h
  exact ⟨q, e, s _ _ h⟩
theorem NumIs.same {G G' : Hp} {v : V} {ps : List (Nat × Nat)} (s : Same G G') (h : NumIs G v ps) : NumIs G' v ps := by
  obtain ⟨a, ts, e, h, r⟩ := h
  exact ⟨a, ts, e, s _ _ h, r.mono fun _ _ p => p.same s⟩
/-- so far the rows were gone through -/
structure Gone (F : Fold) (rs : List (List F.X)) (ps : List (List (Nat × Nat))) : Prop where
  le : ps.length ≤ rs.length
  at_ : ∀ j row pj, rs[j]? = some row → ps[j]? = some pj → All2 (PlaceOk F rs j) row pj
theorem Gone.step {rs : List (List F.X)} {ps : List (List (Nat × Nat))} {row : List F.X} {nums : List (Nat × Nat)} (h : Gone F rs ps) (hr : rs[ps.length]? = some row)
    (hn : All2 (PlaceOk F (rs ++ row.flatMap F.sub) ps.length) row nums) : Gone F (rs ++ row.flatMap F.sub) (ps ++ [nums]) := by
  have hlt : ps.length < rs.length := (List.getElem?_eq_some_iff.mp hr).1
  refine ⟨by simp; omega, fun j r pj h1 h2 => ?_⟩
  by_cases c : j < ps.length
  · rw [List.getElem?_append_left (by omega)] at h1
    rw [List.getElem?_append_left c] at h2
    exact (h.at_ j r pj h1 h2).mono fun _ _ p => p.app
  · have hj : j = ps.length := by
      have := (List.getElem?_eq_some_iff.mp h2).1
      simp at this
      omega
    subst hj
    rw [List.getElem?_append_left hlt, hr] at h1
    rw [List.getElem?_append_right (Nat.le_refl _), Nat.sub_self] at h2
    cases h1
    cases h2
    exact hn
theorem Gone.left {rs : List (List F.X)} {k : Nat} {row : List F.X} (hr : rs[k]? = some row) : tot F.N ((rs ++ row.flatMap F.sub).drop (k + 1)) + 1 + row.length = tot F.N (rs.drop k) := by
  have hlt : k < rs.length := (List.getElem?_eq_some_iff.mp hr).1
  have e : rs.drop k = row :: rs.drop (k + 1) := by
    rw [List.drop_eq_getElem_cons hlt]
    have := List.getElem?_eq_getElem hlt
    rw [hr] at this
    cases this
    rfl
  rw [List.drop_append_of_le_length (by omega), tot_app, e]
  show tot F.N (rs.drop (k + 1)) + tot F.N (row.flatMap F.sub) + 1 + row.length = F.N row + tot F.N (rs.drop (k + 1))
  rw [F.hN row]
  omega
end
end My

namespace My
open PySem PySem.Spec PyProof.Rows L2
theorem ifT {b : Bool} {A B : Prop} (h : b = true) (a : A) : if b = true then A else B := by
  rw [if_pos h]
  exact a
theorem ifF {b : Bool} {A B : Prop} (h : b = false) (a : B) : if b = true then A else B := by
  rw [if_neg (by rw [h]; exact Bool.false_ne_true)]
  exact a
/-! ### a test that may lay objects -/
def AnsS (t : TT) (σ : L2.St) (H : Hp) (P : Bool → Prop) : Prop := ∀ Q : Bool → Hp → Prop, (∀ b H', Same H H' → P b → Q b H') → t σ H Q
theorem ifS {c : TT} {a b : TS} {D : Ends} {σ : L2.St} {H : Hp} (P : Bool → Prop) (hc : AnsS c σ H P) (ht : ∀ H', Same H H' → P true → a D σ H') (hf : ∀ H', Same H H' → P false → b D σ H') : tIfS c a b D σ H :=
  hc _ fun k H' s p => by
    cases k with
    | true => exact iteT (ht H' s p)
    | false => exact iteF (hf H' s p)
theorem ifS_g {c : TT} {a b u : TS} {D : Ends} {σ : L2.St} {H : Hp} {i : Nat} {x : V} (P : Bool → Prop) (hc : AnsS c (σ.set i (some x)) H P) (ht : ∀ H', Same H H' → P true → a { D with nx := u D } (σ.set i (some x)) H') (hf : ∀ H', Same H H' → P false → b { D with nx := u D } (σ.set i (some x)) H') :
    gName i x σ H { D with nx := tSeq (tIfS c a b) u D }.nx := ifS P hc ht hf
theorem ifS_1 {c : TT} {a b : TS} {D : Ends} {σ : L2.St} {H : Hp} {i : Nat} {x : V} (P : Bool → Prop) (hc : AnsS c (σ.set i (some x)) H P) (ht : ∀ H', Same H H' → P true → a D (σ.set i (some x)) H') (hf : ∀ H', Same H H' → P false → b D (σ.set i (some x)) H') :
    gName i x σ H { D with nx := tIfS c a b D }.nx := ifS P hc ht hf
theorem atLast {xs : List V} {x : V} : atI (xs ++ [x]) (-1) = some x := by
  have e : ixN (xs ++ [x]).length (-1) = some xs.length := by
    unfold ixN
    rw [if_neg (by decide), if_pos (by rw [List.length_append, List.length_singleton]; omega)]
    congr 1
    rw [List.length_append, List.length_singleton]
    omega
  unfold atI
  rw [e]
  show (xs ++ [x])[xs.length]? = some x
  rw [List.getElem?_append_right (Nat.le_refl _), Nat.sub_self]
  rfl
theorem dpAll_app {K : PySem.W.Frag} {H : Hp} : ∀ {vs us : List V} {ds es : List PyData}, DpAll K H vs ds → DpAll K H us es → DpAll K H (vs ++ us) (ds ++ es)
  | _, _, _, _, .nil, g => g
  | _, _, _, _, .cons h r, g => .cons h (dpAll_app r g)
theorem dpAll_keep {K : PySem.W.Frag} {H H' : Hp} {L : Addr} {vs : List V} {ds : List PyData} (k : Keeps L H H') (hL : ∃ xs, H L = some (.lst xs)) (n : noListAll ds = true) (h : DpAll K H vs ds) : DpAll K H' vs ds := by
  have h1 := dpAll_rest (L := [L]) (fun b hb => by rw [List.mem_singleton.mp hb]; exact hL) n h
  refine dpAll_same (fun b o e => ?_) h1
  have hb : b ≠ L := fun z => by rw [z, rest_in (by simp)] at e; cases e
  rw [rest_out (by simpa using hb)] at e
  exact k b o hb e
end My

/-! ### inlines as trees -/
namespace IM
open PySem PySem.Spec PyProof.Rows L2 My
inductive Inl where
  | text (t : List Nat)
  | code (t : List Nat)
  | html (t : List Nat)
  | soft
  | hard
  | emph (r : List Inl)
  | strong (r : List Inl)
  | link (d : List Nat) (t : Option (List Nat)) (r : List Inl)
  | image (d : List Nat) (t : Option (List Nat)) (r : List Inl)
def optD : Option (List Nat) → PyData
  | none => .none
  | some t => .str (S t)
mutual
def Inl.toD : Inl → PyData
  | .text t => .tuple [.str "text", .str (S t)]
  | .code t => .tuple [.str "code", .str (S t)]
  | .html t => .tuple [.str "html", .str (S t)]
  | .soft => .tuple [.str "soft"]
  | .hard => .tuple [.str "hard"]
  | .emph r => .tuple [.str "emph", .tuple (rowD r)]
  | .strong r => .tuple [.str "strong", .tuple (rowD r)]
  | .link d t r => .tuple [.str "link", .str (S d), optD t, .tuple (rowD r)]
  | .image d t r => .tuple [.str "image", .str (S d), optD t, .tuple (rowD r)]
def rowD : List Inl → List PyData
  | [] => []
  | x :: r => x.toD :: rowD r
end
theorem rowD_map : ∀ r : List Inl, rowD r = r.map Inl.toD
  | [] => rfl
  | x :: r => by
    show x.toD :: rowD r = x.toD :: r.map Inl.toD
    rw [rowD_map r]
mutual
def Inl.words : Inl → List Nat
  | .text t => t
  | .code t => t
  | .html _ => []
  | .soft => [32]
  | .hard => [32]
  | .emph r => rowW r
  | .strong r => rowW r
  | .link _ _ r => rowW r
  | .image _ _ r => rowW r
def rowW : List Inl → List Nat
  | [] => []
  | x :: r => x.words ++ rowW r
end
theorem rowW_app : ∀ a b : List Inl, rowW (a ++ b) = rowW a ++ rowW b
  | [], b => rfl
  | x :: a, b => by
    show x.words ++ rowW (a ++ b) = x.words ++ rowW a ++ rowW b
    rw [rowW_app a b, List.append_assoc]
theorem rowW_one (x : Inl) : rowW [x] = x.words := List.append_nil _
theorem rowW_mem : ∀ {r : List Inl} {x : Inl}, x ∈ r → x.words.length ≤ (rowW r).length
  | y :: r, x, h => by
    show x.words.length ≤ (y.words ++ rowW r).length
    rw [List.length_append]
    rcases List.mem_cons.mp h with rfl | h
    · omega
    · have := rowW_mem h
      omega
def Inl.sub : Inl → List (List Inl)
  | .emph r => [r]
  | .strong r => [r]
  | .link _ _ r => [r]
  | .image _ _ r => [r]
  | _ => []
mutual
def Inl.rows : Inl → Nat
  | .emph r => 1 + rowN r
  | .strong r => 1 + rowN r
  | .link _ _ r => 1 + rowN r
  | .image _ _ r => 1 + rowN r
  | _ => 0
def rowN : List Inl → Nat
  | [] => 0
  | x :: r => 1 + x.rows + rowN r
end
theorem rowN_tot : ∀ r : List Inl, rowN r = r.length + tot (fun r => 1 + rowN r) (r.flatMap Inl.sub)
  | [] => rfl
  | x :: r => by
    have ih := rowN_tot r
    rw [List.flatMap_cons, tot_app]
    have e : x.rows = tot (fun r => 1 + rowN r) x.sub := by cases x <;> rfl
    show 1 + x.rows + rowN r = r.length + 1 + _
    omega
def wordsF : Fold where
  X := Inl
  toD := Inl.toD
  sub := Inl.sub
  N := fun r => 1 + rowN r
  hN := fun r => by rw [rowN_tot r]; omega
  Ok := fun r => (rowW r).length ≤ 1000000
  inh := fun row x r ho hx hr => by
    have := rowW_mem hx
    have e : x.words = rowW r := by
      cases x <;> simp only [Inl.sub, List.mem_singleton, List.not_mem_nil] at hr <;> (subst hr; rfl)
    rw [← e]
    omega
  RR := fun _ v r => v = .str (S (rowW r))
  mono := fun _ _ _ _ _ h => h
mutual
theorem noList_toD : ∀ x : Inl, noList x.toD = true
  | .text t => rfl
  | .code t => rfl
  | .html t => rfl
  | .soft => rfl
  | .hard => rfl
  | .emph r => by
    show (noList (.str "emph") && (noListAll (rowD r) && true)) = true
    rw [noList_row r]
    rfl
  | .strong r => by
    show (noList (.str "strong") && (noListAll (rowD r) && true)) = true
    rw [noList_row r]
    rfl
  | .link d t r => by
    show (noList (.str "link") && (noList (.str (S d)) && (noList (optD t) && (noListAll (rowD r) && true)))) = true
    rw [noList_row r]
    cases t <;> rfl
  | .image d t r => by
    show (noList (.str "image") && (noList (.str (S d)) && (noList (optD t) && (noListAll (rowD r) && true)))) = true
    rw [noList_row r]
    cases t <;> rfl
theorem noList_row : ∀ r : List Inl, noListAll (rowD r) = true
  | [] => rfl
  | x :: r => by
    show (noList x.toD && noListAll (rowD r)) = true
    rw [noList_toD x, noList_row r]
    rfl
end
/-! bounds: at most w in a row, d rows within one another -/
def Leaf : Inl → Prop
  | .text t => t.length ≤ 20 ∧ Sm t
  | .code t => t.length ≤ 20 ∧ Sm t
  | .html t => Sm t
  | .soft => True
  | .hard => True
  | _ => False
def optSm : Option (List Nat) → Prop
  | none => True
  | some t => Sm t
def Bd (w : Nat) : Nat → Inl → Prop
  | 0, x => Leaf x
  | d + 1, x => match x with
    | .emph r => r.length ≤ w ∧ ∀ y ∈ r, Bd w d y
    | .strong r => r.length ≤ w ∧ ∀ y ∈ r, Bd w d y
    | .link g t r => Sm g ∧ optSm t ∧ r.length ≤ w ∧ ∀ y ∈ r, Bd w d y
    | .image g t r => Sm g ∧ optSm t ∧ r.length ≤ w ∧ ∀ y ∈ r, Bd w d y
    | x => Leaf x
theorem Bd.leaf {w d : Nat} {x : Inl} (h : Leaf x) : Bd w d x := by
  cases d with
  | zero => exact h
  | succ d => cases x <;> first | exact h | exact h.elim
theorem Bd.up {w : Nat} : ∀ {d : Nat} {x : Inl}, Bd w d x → Bd w (d + 1) x
  | 0, x, h => .leaf h
  | d + 1, x, h => by
    cases x with
    | emph r => exact ⟨h.1, fun y hy => Bd.up (h.2 y hy)⟩
    | strong r => exact ⟨h.1, fun y hy => Bd.up (h.2 y hy)⟩
    | link g t r => exact ⟨h.1, h.2.1, h.2.2.1, fun y hy => Bd.up (h.2.2.2 y hy)⟩
    | image g t r => exact ⟨h.1, h.2.1, h.2.2.1, fun y hy => Bd.up (h.2.2.2 y hy)⟩
    | _ => exact h
theorem Bd.le {w d e : Nat} {x : Inl} (h : Bd w d x) (l : d ≤ e) : Bd w e x := by
  induction l with
  | refl => exact h
  | step _ ih => exact ih.up
theorem rowW_le {k : Nat} : ∀ {r : List Inl}, (∀ y ∈ r, y.words.length ≤ k) → (rowW r).length ≤ r.length * k
  | [], _ => Nat.zero_le _
  | x :: r, h => by
    show (x.words ++ rowW r).length ≤ (r.length + 1) * k
    rw [List.length_append, Nat.succ_mul]
    have h1 := h x (List.mem_cons_self ..)
    have h2 := rowW_le (r := r) fun y hy => h y (List.mem_cons_of_mem _ hy)
    omega
theorem rowN_le {k : Nat} : ∀ {r : List Inl}, (∀ y ∈ r, y.rows ≤ k) → rowN r ≤ r.length * (1 + k)
  | [], _ => Nat.zero_le _
  | x :: r, h => by
    show 1 + x.rows + rowN r ≤ (r.length + 1) * (1 + k)
    rw [Nat.succ_mul]
    have h1 := h x (List.mem_cons_self ..)
    have h2 := rowN_le (r := r) fun y hy => h y (List.mem_cons_of_mem _ hy)
    omega
def capN (w : Nat) : Nat → Nat
  | 0 => 0
  | d + 1 => 1 + w * (1 + capN w d)
theorem Leaf.words {x : Inl} (h : Leaf x) : x.words.length ≤ 20 := by
  cases x <;> first | exact h.1 | exact h.elim | (show _ ≤ 20; decide) | exact Nat.zero_le _
theorem Leaf.rows {x : Inl} (h : Leaf x) : x.rows = 0 := by
  cases x <;> first | rfl | exact h.elim
theorem Bd.row {w d : Nat} {r : List Inl} {P : Nat} (hl : r.length ≤ w) (hp : (rowW r).length ≤ r.length * P) : (rowW r).length ≤ w * P := Nat.le_trans hp (Nat.mul_le_mul_right _ hl)
theorem Bd.words {w : Nat} (hw : 1 ≤ w) : ∀ {d : Nat} {x : Inl}, Bd w d x → x.words.length ≤ 20 * w ^ d
  | 0, x, h => by
    have := Leaf.words h
    simpa using this
  | d + 1, x, h => by
    have h20 : 20 ≤ 20 * w ^ (d + 1) := Nat.le_mul_of_pos_right _ (Nat.pow_pos (by omega))
    have step : ∀ r : List Inl, r.length ≤ w → (∀ y ∈ r, Bd w d y) → (rowW r).length ≤ 20 * w ^ (d + 1) := fun r hl hr => by
      have h1 := rowW_le (k := 20 * w ^ d) fun y hy => Bd.words hw (hr y hy)
      have h2 := Nat.mul_le_mul_right (20 * w ^ d) hl
      have e : w * (20 * w ^ d) = 20 * w ^ (d + 1) := by rw [Nat.pow_succ, Nat.mul_left_comm, Nat.mul_comm w]
      omega
    cases x with
    | emph r => exact step r h.1 h.2
    | strong r => exact step r h.1 h.2
    | link g t r => exact step r h.2.2.1 h.2.2.2
    | image g t r => exact step r h.2.2.1 h.2.2.2
    | text t => exact Nat.le_trans (Leaf.words h) h20
    | code t => exact Nat.le_trans (Leaf.words h) h20
    | html t => exact Nat.le_trans (Leaf.words h) h20
    | soft => exact Nat.le_trans (Leaf.words (x := .soft) trivial) h20
    | hard => exact Nat.le_trans (Leaf.words (x := .hard) trivial) h20
theorem Bd.rows {w : Nat} : ∀ {d : Nat} {x : Inl}, Bd w d x → x.rows ≤ capN w d
  | 0, x, h => by rw [Leaf.rows h]; exact Nat.zero_le _
  | d + 1, x, h => by
    have step : ∀ r : List Inl, r.length ≤ w → (∀ y ∈ r, Bd w d y) → 1 + rowN r ≤ capN w (d + 1) := fun r hl hr => by
      have h1 := rowN_le (k := capN w d) fun y hy => Bd.rows (hr y hy)
      have h2 := Nat.mul_le_mul_right (1 + capN w d) hl
      show 1 + rowN r ≤ 1 + w * (1 + capN w d)
      omega
    cases x with
    | emph r => exact step r h.1 h.2
    | strong r => exact step r h.1 h.2
    | link g t r => exact step r h.2.2.1 h.2.2.2
    | image g t r => exact step r h.2.2.1 h.2.2.2
    | _ => exact Nat.zero_le _
/-! the data are well shaped -/
theorem optD_lay {t : Option (List Nat)} (h : optSm t) : (optD t).canLay0 = true := by
  cases t with
  | none => rfl
  | some t => exact Sm.ok h
theorem optD_depth (t : Option (List Nat)) : (optD t).depth = 0 := by cases t <;> rfl
theorem layAll : ∀ {r : List Inl}, (∀ y ∈ r, y.toD.canLay0 = true) → PyData.canLayAll0 (rowD r) = true
  | [], _ => rfl
  | x :: r, h => by
    show (x.toD.canLay0 && PyData.canLayAll0 (rowD r)) = true
    rw [h x (List.mem_cons_self ..), layAll fun y hy => h y (List.mem_cons_of_mem _ hy)]
    rfl
theorem depthAll_le {k : Nat} : ∀ {r : List Inl}, (∀ y ∈ r, y.toD.depth ≤ k) → PyData.depthAll (rowD r) ≤ k
  | [], _ => Nat.zero_le _
  | x :: r, h => by
    show max x.toD.depth (PyData.depthAll (rowD r)) ≤ k
    have h1 := h x (List.mem_cons_self ..)
    have h2 := depthAll_le (r := r) fun y hy => h y (List.mem_cons_of_mem _ hy)
    omega
theorem Leaf.lay {x : Inl} (h : Leaf x) : x.toD.canLay0 = true ∧ x.toD.depth ≤ 1 := by
  cases x with
  | text t => exact ⟨by show (PyData.strOk "text" && (PyData.strOk (S t) && true)) = true; rw [h.2.ok]; decide +kernel, Nat.le_refl _⟩
  | code t => exact ⟨by show (PyData.strOk "code" && (PyData.strOk (S t) && true)) = true; rw [h.2.ok]; decide +kernel, Nat.le_refl _⟩
  | html t => exact ⟨by show (PyData.strOk "html" && (PyData.strOk (S t) && true)) = true; rw [Sm.ok h]; decide +kernel, Nat.le_refl _⟩
  | soft => exact ⟨by show (PyData.strOk "soft" && true) = true; decide +kernel, Nat.le_refl _⟩
  | hard => exact ⟨by show (PyData.strOk "hard" && true) = true; decide +kernel, Nat.le_refl _⟩
  | _ => exact h.elim
theorem Bd.lay {w : Nat} : ∀ {d : Nat} {x : Inl}, Bd w d x → x.toD.canLay0 = true ∧ x.toD.depth ≤ 2 * d + 1
  | 0, x, h => Leaf.lay h
  | d + 1, x, h => by
    have step : ∀ r : List Inl, (∀ y ∈ r, Bd w d y) → PyData.canLayAll0 (rowD r) = true ∧ PyData.depthAll (rowD r) ≤ 2 * d + 1 := fun r hr =>
      ⟨layAll fun y hy => (Bd.lay (hr y hy)).1, depthAll_le fun y hy => (Bd.lay (hr y hy)).2⟩
    have two : ∀ (z : Str) (r : List Inl), PyData.strOk z = true → (∀ y ∈ r, Bd w d y) → (PyData.tuple [.str z, .tuple (rowD r)]).canLay0 = true ∧ (PyData.tuple [.str z, .tuple (rowD r)]).depth ≤ 2 * (d + 1) + 1 := fun z r hz hr => by
      obtain ⟨h1, h2⟩ := step r hr
      constructor
      · show (PyData.strOk z && (PyData.canLayAll0 (rowD r) && true)) = true
        rw [hz, h1]
        rfl
      · show max 0 (max (PyData.depthAll (rowD r) + 1) 0) + 1 ≤ 2 * (d + 1) + 1
        omega
    have four : ∀ (z : Str) (g : List Nat) (t : Option (List Nat)) (r : List Inl), PyData.strOk z = true → Sm g → optSm t → (∀ y ∈ r, Bd w d y) → (PyData.tuple [.str z, .str (S g), optD t, .tuple (rowD r)]).canLay0 = true ∧ (PyData.tuple [.str z, .str (S g), optD t, .tuple (rowD r)]).depth ≤ 2 * (d + 1) + 1 := fun z g t r hz hg ht hr => by
      obtain ⟨h1, h2⟩ := step r hr
      constructor
      · show (PyData.strOk z && (PyData.strOk (S g) && ((optD t).canLay0 && (PyData.canLayAll0 (rowD r) && true)))) = true
        rw [hz, hg.ok, optD_lay ht, h1]
        rfl
      · show max 0 (max 0 (max (optD t).depth (max (PyData.depthAll (rowD r) + 1) 0))) + 1 ≤ 2 * (d + 1) + 1
        rw [optD_depth]
        omega
    have lf : Leaf x → x.toD.canLay0 = true ∧ x.toD.depth ≤ 2 * (d + 1) + 1 := fun h => ⟨(Leaf.lay h).1, Nat.le_trans (Leaf.lay h).2 (by omega)⟩
    cases x with
    | emph r => exact two "emph" r (by decide +kernel) h.2
    | strong r => exact two "strong" r (by decide +kernel) h.2
    | link g t r => exact four "link" g t r (by decide +kernel) h.1 h.2.1 h.2.2.2
    | image g t r => exact four "image" g t r (by decide +kernel) h.1 h.2.1 h.2.2.2
    | text t => exact lf h
    | code t => exact lf h
    | html t => exact lf h
    | soft => exact lf trivial
    | hard => exact lf trivial
end IM

namespace RM
open My PySem PySem.Spec PyProof.Rows L2
/-! ### references: what is asked, over signs -/
open PyProof.Rows (lo1 up1)
def PunL : List Nat := [33, 34, 35, 36, 38, 39, 40, 41, 42, 43, 44, 45, 46, 47, 58, 59, 60, 61, 62, 63, 64, 91, 92, 93, 94, 95, 123, 124, 125, 126, 96]
def HexL : List Nat := [48, 49, 50, 51, 52, 53, 54, 55, 56, 57, 97, 98, 99, 100, 101, 102]
def DecL : List Nat := [48, 49, 50, 51, 52, 53, 54, 55, 56, 57]
def NamesL : List (List Nat × Nat) := [([97, 109, 112], 38), ([108, 116], 60), ([103, 116], 62), ([113, 117, 111, 116], 34), ([97, 112, 111, 115], 39), ([110, 117, 109], 35), ([97, 115, 116], 42), ([108, 111, 119, 98, 97, 114], 95), ([103, 114, 97, 118, 101], 96), ([108, 115, 113, 98], 91), ([114, 115, 113, 98], 93), ([108, 112, 97, 114], 40), ([114, 112, 97, 114], 41), ([108, 99, 117, 98], 123), ([114, 99, 117, 98], 125), ([98, 115, 111, 108], 92), ([101, 120, 99, 108], 33), ([84, 97, 98], 9), ([78, 101, 119, 76, 105, 110, 101], 10)]
def escR : List Nat → Bool
  | a :: c :: _ => a == 92 && PunL.contains c
  | _ => false
def numR (B : Nat) (ds w : List Nat) : Option Nat := if w = [] then none else if (w.map lo1).all ds.contains = true then some (numB B w) else none
def sgnR (n : Nat) : Option Nat := if n = 9 ∨ n = 10 ∨ (32 ≤ n ∧ n ≤ 36) ∨ (38 ≤ n ∧ n ≤ 126) then some n else none
def meantR (w : List Nat) : Option Nat :=
  if [35, 120].isPrefixOf w || [35, 88].isPrefixOf w then (numR 16 HexL (w.drop 2)).bind sgnR
  else if [35].isPrefixOf w then (numR 10 DecL (w.drop 1)).bind sgnR
  else NamesL.lookup w
def refR (l : List Nat) : Option (Nat × Nat) :=
  if [38].isPrefixOf l then match findL [59] (l.take 10) with
    | none => none
    | some k => (meantR ((l.drop 1).take (k - 1))).map fun c => (k + 1, c)
  else none
def stepR : List Nat → Nat × Nat
  | [] => (1, 0)
  | a :: r => if escR (a :: r) = true then (2, r.headD 0) else match refR (a :: r) with
    | some x => x
    | none => (1, a)
def decF : Nat → List Nat → List Nat
  | 0, _ => []
  | n + 1, l => match l with
    | [] => []
    | a :: r => (stepR (a :: r)).2 :: decF n ((a :: r).drop (stepR (a :: r)).1)
def decR (l : List Nat) : List Nat := decF l.length l
theorem refR_pos {l : List Nat} {k c : Nat} (h : refR l = some (k, c)) : 1 ≤ k ∧ k ≤ l.length := by
  unfold refR at h
  split at h
  · cases hf : findL [59] (l.take 10) with
    | none => rw [hf] at h; cases h
    | some j =>
      rw [hf] at h
      dsimp only at h
      cases hm : meantR ((l.drop 1).take (j - 1)) with
      | none => rw [hm] at h; cases h
      | some c' =>
        rw [hm] at h
        have e := Option.some.inj h
        have e1 : j + 1 = k := congrArg Prod.fst e
        have h1 := pre_len _ _ (findL_some (by simp) hf).1
        rw [List.length_drop, List.length_take] at h1
        simp at h1
        omega
  · cases h
theorem stepR_pos (a : Nat) (r : List Nat) : 1 ≤ (stepR (a :: r)).1 ∧ (stepR (a :: r)).1 ≤ (a :: r).length := by
  show 1 ≤ (if escR (a :: r) = true then (2, r.headD 0) else match refR (a :: r) with | some x => x | none => (1, a)).1 ∧ (if escR (a :: r) = true then (2, r.headD 0) else match refR (a :: r) with | some x => x | none => (1, a)).1 ≤ _
  split
  · rename_i h
    cases r with
    | nil => cases h
    | cons b r => simp
  · cases hr : refR (a :: r) with
    | none => simp
    | some x => exact refR_pos hr
theorem decF_enough : ∀ (n : Nat) (l : List Nat), l.length ≤ n → decF n l = decF l.length l := by
  intro n
  induction n using Nat.strongRecOn with
  | _ n ih =>
    intro l h
    cases l with
    | nil => cases n <;> rfl
    | cons a r =>
      cases n with
      | zero => simp at h
      | succ n =>
        have hp := (stepR_pos a r).1
        have hd : ((a :: r).drop (stepR (a :: r)).1).length ≤ r.length := by
          rw [List.length_drop, List.length_cons]
          omega
        have hr : r.length ≤ n := by simp at h; omega
        show (stepR (a :: r)).2 :: decF n ((a :: r).drop (stepR (a :: r)).1) = (stepR (a :: r)).2 :: decF r.length ((a :: r).drop (stepR (a :: r)).1)
        congr 1
        rw [ih n (Nat.lt_succ_self n) _ (Nat.le_trans hd hr)]
        by_cases e : r.length = n
        · rw [e]
          exact (ih n (Nat.lt_succ_self n) _ (by omega)).symm
        · exact (ih r.length (by omega) _ hd).symm
theorem decR_cons (a : Nat) (r : List Nat) : decR (a :: r) = (stepR (a :: r)).2 :: decR ((a :: r).drop (stepR (a :: r)).1) := by
  show (stepR (a :: r)).2 :: decF r.length ((a :: r).drop (stepR (a :: r)).1) = _
  congr 1
  have hp := (stepR_pos a r).1
  exact decF_enough _ _ (by rw [List.length_drop, List.length_cons]; omega)
theorem decR_nil : decR [] = [] := rfl
/-! a reference with all its signs -/
theorem find_pre {a : List Nat} (h : 59 ∉ a) (r : List Nat) : findL [59] (a ++ r) = (findL [59] r).map (· + a.length) := by
  induction a with
  | nil => cases h : findL [59] r <;> simp [h]
  | cons x a ih =>
    have hx : x ≠ 59 := fun e => h (by simp [e])
    have h2 : 59 ∉ a := fun e => h (by simp [e])
    show (if ([59] : List Nat).isPrefixOf (x :: (a ++ r)) = true then some 0 else (findL [59] (a ++ r)).map (· + 1)) = _
    rw [if_neg (by simp [List.isPrefixOf]; exact fun e => hx e.symm), ih h2, List.length_cons]
    cases findL [59] r <;> simp
    omega
theorem find_not {a : List Nat} (h : 59 ∉ a) : findL [59] a = none := by
  have := find_pre h []
  rw [List.append_nil] at this
  rw [this]
  rfl
theorem ref_at {a : List Nat} (h : 59 ∉ a) (r : List Nat) : refR (38 :: (a ++ 59 :: r)) = if a.length ≤ 8 then (meantR a).map (fun c => (a.length + 2, c)) else none := by
  unfold refR
  rw [if_pos (by rfl)]
  by_cases hl : a.length ≤ 8
  · rw [if_pos hl]
    have e1 : (38 :: (a ++ 59 :: r)).take 10 = (38 :: a) ++ (59 :: r.take (8 - a.length)) := by
      rw [List.take_succ_cons, List.take_append, List.take_of_length_le (by omega)]
      rw [show 9 - a.length = (8 - a.length) + 1 by omega, List.take_succ_cons]
      rfl
    have h38 : 59 ∉ 38 :: a := by simp [h]
    rw [e1, find_pre h38]
    have e2 : findL [59] (59 :: r.take (8 - a.length)) = some 0 := rfl
    rw [e2]
    show (meantR ((a ++ 59 :: r).take (0 + (38 :: a).length - 1))).map (fun c => (0 + (38 :: a).length + 1, c)) = _
    rw [List.length_cons, Nat.zero_add, Nat.add_sub_cancel, List.take_left]
  · rw [if_neg hl]
    have e1 : (38 :: (a ++ 59 :: r)).take 10 = 38 :: (a.take 9) := by
      rw [List.take_succ_cons, List.take_append, show 9 - a.length = 0 by omega, List.take_zero, List.append_nil]
    have : 59 ∉ 38 :: a.take 9 := by
      intro z
      rcases List.mem_cons.mp z with z | z
      · cases z
      · exact h (List.mem_of_mem_take z)
    rw [e1, find_not this]
theorem lo1_blank {w ds : List Nat} (h : 32 ∈ w) (hd : 32 ∉ ds) (B : Nat) : numR B ds w = none := by
  unfold numR
  split
  · rfl
  · split
    · rename_i h2
      rw [List.all_eq_true] at h2
      have := h2 32 (List.mem_map.mpr ⟨32, h, rfl⟩)
      exact absurd (by simpa using this) hd
    · rfl
theorem names_blank : ∀ p ∈ NamesL, 32 ∉ p.1 := by decide
theorem lookup_blank {w : List Nat} (h : 32 ∈ w) : ∀ {ps : List (List Nat × Nat)}, (∀ p ∈ ps, 32 ∉ p.1) → ps.lookup w = none
  | [], _ => rfl
  | p :: ps, hp => by
    rw [List.lookup_cons]
    have h1 := hp p (List.mem_cons_self ..)
    have e : (w == p.1) = false := beq_eq_false_iff_ne.mpr fun e => h1 (e ▸ h)
    rw [e]
    exact lookup_blank h fun q hq => hp q (List.mem_cons_of_mem _ hq)
theorem meant_blank {w : List Nat} (h : 32 ∈ w) : meantR w = none := by
  unfold meantR
  have h1 : ∀ {x : List Nat}, x.isPrefixOf w = true → 32 ∉ x → 32 ∈ w.drop x.length := by
    intro x hx hn
    obtain ⟨s, rfl⟩ := List.isPrefixOf_iff_prefix.mp hx
    rw [List.drop_left]
    rcases List.mem_append.mp h with z | z
    · exact absurd z hn
    · exact z
  split
  · rename_i h2
    have h3 : 32 ∈ w.drop 2 := by
      rcases Bool.or_eq_true_iff.mp h2 with z | z
      · exact h1 z (by decide)
      · exact h1 z (by decide)
    rw [lo1_blank h3 (by decide)]
    rfl
  · split
    · rename_i h2
      have h3 : 32 ∈ w.drop 1 := h1 h2 (by decide)
      rw [lo1_blank h3 (by decide)]
      rfl
    · exact lookup_blank h names_blank
theorem ref_blank {a : List Nat} (h : 59 ∉ a) (r : List Nat) : refR (38 :: (a ++ 32 :: r)) = none := by
  unfold refR
  rw [if_pos (by rfl)]
  cases hf : findL [59] ((38 :: (a ++ 32 :: r)).take 10) with
  | none => rfl
  | some k =>
    dsimp only
    have h1 := (findL_some (by simp) hf).1
    have hk : a.length + 1 < k := by
      by_cases hk : k ≤ a.length + 1
      · exfalso
        rw [List.isPrefixOf_iff_prefix] at h1
        obtain ⟨s, hs⟩ := h1
        rw [List.drop_take] at hs
        have : 59 ∈ ((38 :: (a ++ 32 :: r)).drop k).take (10 - k) := by rw [← hs]; simp
        have e : (38 :: (a ++ 32 :: r))[k]? = some 59 := by
          have e2 : (((38 :: (a ++ 32 :: r)).drop k).take (10 - k))[0]? = some 59 := by rw [← hs]; rfl
          rw [List.getElem?_take] at e2
          split at e2
          · rw [List.getElem?_drop] at e2
            simpa using e2
          · cases e2
        cases k with
        | zero => cases e
        | succ k =>
          rw [List.getElem?_cons_succ] at e
          by_cases h2 : k < a.length
          · rw [List.getElem?_append_left h2] at e
            exact h (List.mem_of_getElem? e)
          · rw [List.getElem?_append_right (by omega), show k - a.length = 0 by omega] at e
            cases e
      · omega
    rw [meant_blank]
    · rfl
    · show 32 ∈ (a ++ 32 :: r).take (k - 1)
      rw [List.take_append, show k - 1 - a.length = (k - 2 - a.length) + 1 by omega, List.take_succ_cons]
      simp
theorem ref_end {a : List Nat} (h : 59 ∉ a) : refR (38 :: a) = none := by
  unfold refR
  rw [if_pos (by rfl)]
  have : 59 ∉ (38 :: a).take 10 := fun z => by
    rcases List.mem_cons.mp (List.mem_of_mem_take z) with z | z
    · cases z
    · exact h z
  rw [find_not this]
/-! signs that stay -/
theorem dec_plain {c : Nat} (h1 : c ≠ 38) (h2 : c ≠ 92) (r : List Nat) : decR (c :: r) = c :: decR r := by
  rw [decR_cons]
  have e1 : escR (c :: r) = false := by
    cases r with
    | nil => rfl
    | cons b r =>
      show (c == 92 && PunL.contains b) = false
      rw [beq_eq_false_iff_ne.mpr h2]
      rfl
  have e2 : refR (c :: r) = none := by
    unfold refR
    rw [if_neg]
    simp [List.isPrefixOf]
    exact fun e => h1 e.symm
  have e : stepR (c :: r) = (1, c) := by
    show (if escR (c :: r) = true then (2, r.headD 0) else match refR (c :: r) with | some x => x | none => (1, c)) = _
    rw [e1, e2]
    rfl
  rw [e]
  rfl
theorem dec_plains : ∀ {a : List Nat}, 38 ∉ a → 92 ∉ a → ∀ r, decR (a ++ r) = a ++ decR r
  | [], _, _, _ => rfl
  | c :: a, h1, h2, r => by
    show decR (c :: (a ++ r)) = c :: (a ++ decR r)
    rw [dec_plain (fun e => h1 (by simp [e])) (fun e => h2 (by simp [e])), dec_plains (fun e => h1 (by simp [e])) (fun e => h2 (by simp [e]))]
theorem dec_amp {r : List Nat} (h : refR (38 :: r) = none) : decR (38 :: r) = 38 :: decR r := by
  rw [decR_cons]
  have e1 : escR (38 :: r) = false := by cases r <;> rfl
  have e : stepR (38 :: r) = (1, 38) := by
    show (if escR (38 :: r) = true then (2, r.headD 0) else match refR (38 :: r) with | some x => x | none => (1, 38)) = _
    rw [e1, h]
    rfl
  rw [e]
  rfl
theorem dec_ref {r : List Nat} {k c : Nat} (h : refR (38 :: r) = some (k, c)) : decR (38 :: r) = c :: decR ((38 :: r).drop k) := by
  rw [decR_cons]
  have e1 : escR (38 :: r) = false := by cases r <;> rfl
  have e : stepR (38 :: r) = (k, c) := by
    show (if escR (38 :: r) = true then (2, r.headD 0) else match refR (38 :: r) with | some x => x | none => (1, 38)) = _
    rw [e1, h]
    rfl
  rw [e]
theorem dec_esc {c : Nat} (h : PunL.contains c = true) (r : List Nat) : decR (92 :: c :: r) = c :: decR r := by
  rw [decR_cons]
  have e1 : escR (92 :: c :: r) = true := by
    show ((92 : Nat) == 92 && PunL.contains c) = true
    rw [h]
    rfl
  have e : stepR (92 :: c :: r) = (2, c) := by
    show (if escR (92 :: c :: r) = true then (2, (c :: r).headD 0) else match refR (92 :: c :: r) with | some x => x | none => (1, 92)) = _
    rw [e1]
    rfl
  rw [e]
  rfl
theorem dec_back {r : List Nat} (h : escR (92 :: r) = false) : decR (92 :: r) = 92 :: decR r := by
  rw [decR_cons]
  have e2 : refR (92 :: r) = none := rfl
  have e : stepR (92 :: r) = (1, 92) := by
    show (if escR (92 :: r) = true then (2, r.headD 0) else match refR (92 :: r) with | some x => x | none => (1, 92)) = _
    rw [h, e2]
    rfl
  rw [e]
  rfl
/-! drawn references -/
def RefOk (a : List Nat) (sg : Option Nat) : Prop := 59 ∉ a ∧ 38 ∉ a ∧ 92 ∉ a ∧ (∀ c ∈ a, c < 128) ∧ a.length ≤ 20 ∧ (if a.length ≤ 8 then meantR a else none) = sg
def refOkB (a : List Nat) (sg : Option Nat) : Bool := a.all (fun c => c != 59 && c != 38 && c != 92 && decide (c < 128)) && decide (a.length ≤ 20) && decide ((if a.length ≤ 8 then meantR a else none) = sg)
theorem refOk_of {a : List Nat} {sg : Option Nat} (h : refOkB a sg = true) : RefOk a sg := by
  unfold refOkB at h
  rw [Bool.and_eq_true, Bool.and_eq_true, List.all_eq_true] at h
  obtain ⟨⟨h1, h2⟩, h3⟩ := h
  have h4 : ∀ c ∈ a, c ≠ 59 ∧ c ≠ 38 ∧ c ≠ 92 ∧ c < 128 := fun c hc => by
    have := h1 c hc
    simp at this
    exact ⟨this.1.1.1, this.1.1.2, this.1.2, this.2⟩
  exact ⟨fun z => (h4 _ z).1 rfl, fun z => (h4 _ z).2.1 rfl, fun z => (h4 _ z).2.2.1 rfl, fun c hc => (h4 c hc).2.2.2, of_decide_eq_true h2, of_decide_eq_true h3⟩
/-- a reference, whatever stands behind -/
theorem ok_ref {a : List Nat} {sg : Option Nat} (h : RefOk a sg) (r : List Nat) : refR (38 :: (a ++ 59 :: r)) = sg.map fun c => (a.length + 2, c) := by
  obtain ⟨h1, _, _, _, _, h2⟩ := h
  rw [ref_at h1, ← h2]
  split <;> rfl
/-- what it means in a text -/
def meaning (a : List Nat) (sg : Option Nat) : List Nat := match sg with
  | some c => [c]
  | none => 38 :: (a ++ [59])
/-- a piece of a text: a blank, or nothing, behind it -/
def Piece (x m : List Nat) : Prop := (∀ r, decR (x ++ 32 :: r) = m ++ decR (32 :: r)) ∧ decR x = m
theorem ok_piece {a : List Nat} {sg : Option Nat} (h : RefOk a sg) : Piece (38 :: (a ++ [59])) (meaning a sg) := by
  have key : ∀ r, decR (38 :: (a ++ 59 :: r)) = meaning a sg ++ decR r := by
    intro r
    have e := ok_ref h r
    cases sg with
    | none =>
      rw [dec_amp e, dec_plains h.2.1 h.2.2.1, dec_plain (by decide) (by decide)]
      simp [meaning]
    | some c =>
      rw [dec_ref e]
      have : (38 :: (a ++ 59 :: r)).drop (a.length + 2) = r := by
        rw [List.drop_succ_cons, List.drop_append, List.drop_of_length_le (by omega), show a.length + 1 - a.length = 1 by omega]
        rfl
      rw [this]
      rfl
  refine ⟨fun r => ?_, ?_⟩
  · have := key (32 :: r)
    simpa using this
  · have := key []
    rw [decR_nil, List.append_nil] at this
    exact this
theorem piece_joined : ∀ {xs : List (List Nat × List Nat)}, (∀ p ∈ xs, Piece p.1 p.2) → decR (TL.joinL [32] (xs.map Prod.fst)) = TL.joinL [32] (xs.map Prod.snd)
  | [], _ => rfl
  | [p], h => (h p (List.mem_cons_self ..)).2
  | p :: q :: r, h => by
    have ih := piece_joined (xs := q :: r) fun z hz => h z (List.mem_cons_of_mem _ hz)
    show decR (p.1 ++ ([32] ++ TL.joinL [32] ((q :: r).map Prod.fst))) = p.2 ++ ([32] ++ TL.joinL [32] ((q :: r).map Prod.snd))
    rw [show [32] ++ TL.joinL [32] ((q :: r).map Prod.fst) = 32 :: TL.joinL [32] ((q :: r).map Prod.fst) from rfl, (h p (List.mem_cons_self ..)).1, dec_plain (by decide) (by decide), ih]
    rfl
/-- the other pieces -/
def PieceMenu : List (List Nat × List Nat) := [([97], [97]), ([32], [32]), ([10], [10]), ([92, 42], [42]), ([92, 92], [92]), ([92, 38], [38]), ([92, 97], [92, 97]), ([92, 59], [59]), ([42], [42]), ([38, 32], [38, 32]), ([38, 35, 59], [38, 35, 59]), ([38, 120, 59], [38, 120, 59]), ([38, 97, 109, 112], [38, 97, 109, 112]), ([38, 65, 77, 80, 59], [38, 65, 77, 80, 59]), ([92, 32], [92, 32]), ([38, 35, 120, 59], [38, 35, 120, 59]), ([38, 59], [38, 59]), ([98], [98]), ([92, 10], [92, 10])]
theorem p_plain {x : List Nat} (h1 : 38 ∉ x) (h2 : 92 ∉ x) : Piece x x := ⟨fun r => dec_plains h1 h2 _, by have := dec_plains h1 h2 []; simpa [decR_nil] using this⟩
theorem p_esc {c : Nat} (h : PunL.contains c = true) : Piece [92, c] [c] := ⟨fun r => dec_esc h _, dec_esc h []⟩
theorem p_back {c : Nat} (h : PunL.contains c = false) (h1 : c ≠ 38) (h2 : c ≠ 92) : Piece [92, c] [92, c] := by
  have e : ∀ r, decR (92 :: c :: r) = 92 :: c :: decR r := fun r => by
    rw [dec_back (by show ((92 : Nat) == 92 && PunL.contains c) = false; rw [h]; rfl), dec_plain h1 h2]
  exact ⟨fun r => e _, e []⟩
theorem p_ref {a : List Nat} (h : RefOk a none) : Piece (38 :: (a ++ [59])) (38 :: (a ++ [59])) := ok_piece h
theorem p_open {a : List Nat} (h : 59 ∉ a) (h1 : 38 ∉ a) (h2 : 92 ∉ a) : Piece (38 :: a) (38 :: a) :=
  ⟨fun r => by
    show decR (38 :: (a ++ 32 :: r)) = 38 :: (a ++ decR (32 :: r))
    rw [dec_amp (ref_blank h r), dec_plains h1 h2], by
    rw [dec_amp (ref_end h)]
    have := dec_plains h1 h2 []
    rw [List.append_nil, decR_nil, List.append_nil] at this
    rw [this]⟩
theorem piece_menu : ∀ p ∈ PieceMenu, Piece p.1 p.2 := by
  intro p hp
  unfold PieceMenu at hp
  simp only [List.mem_cons, List.not_mem_nil, or_false] at hp
  rcases hp with rfl | rfl | rfl | rfl | rfl | rfl | rfl | rfl | rfl | rfl | rfl | rfl | rfl | rfl | rfl | rfl | rfl | rfl | rfl
  · exact p_plain (by decide) (by decide)
  · exact p_plain (by decide) (by decide)
  · exact p_plain (by decide) (by decide)
  · exact p_esc (by decide)
  · exact p_esc (by decide)
  · exact p_esc (by decide)
  · exact p_back (by decide) (by decide) (by decide)
  · exact p_esc (by decide)
  · exact p_plain (by decide) (by decide)
  · exact p_open (a := [32]) (by decide) (by decide) (by decide)
  · exact p_ref (a := [35]) (refOk_of (by decide +kernel))
  · exact p_ref (a := [120]) (refOk_of (by decide +kernel))
  · exact p_open (a := [97, 109, 112]) (by decide) (by decide) (by decide)
  · exact p_ref (a := [65, 77, 80]) (refOk_of (by decide +kernel))
  · exact p_back (by decide) (by decide) (by decide)
  · exact p_ref (a := [35, 120]) (refOk_of (by decide +kernel))
  · exact p_ref (a := []) (refOk_of (by decide +kernel))
  · exact p_plain (by decide) (by decide)
  · exact p_back (by decide) (by decide) (by decide)

end RM
namespace PM
open My PySem PySem.Spec PyProof.Rows L2
/-! ### places, by what is left of a text -/
def GapL : List Nat := [32, 9, 10]
def isG (c : Nat) : Bool := GapL.contains c
def pos (t r : List Nat) : Nat := t.length - r.length
theorem pos_le (t r : List Nat) : pos t r ≤ t.length := Nat.sub_le _ _
theorem pos_drop {t r : List Nat} (h : r <:+ t) : t.drop (pos t r) = r := (List.suffix_iff_eq_drop.mp h).symm
theorem drop_pos {t : List Nat} {p : Nat} (h : p ≤ t.length) : pos t (t.drop p) = p := by
  unfold pos
  rw [List.length_drop]
  omega
theorem suf_drop (t : List Nat) (p : Nat) : t.drop p <:+ t := List.drop_suffix p t
theorem suf_dw (g : Nat → Bool) (r : List Nat) : r.dropWhile g <:+ r := List.dropWhile_suffix g
def ov (t : List Nat) : Option (List Nat) → L2.V
  | none => .non
  | some r => .int (pos t r : Nat)
def ba (ws r : List Nat) : List Nat := r.dropWhile fun c => ws.contains c
def gapR (r : List Nat) : List Nat := if (r.takeWhile isG).count 10 > 1 then r else r.dropWhile isG
theorem suf_gap (r : List Nat) : gapR r <:+ r := by
  unfold gapR
  split
  · exact List.suffix_refl _
  · exact suf_dw _ _
def signR (c : Nat) (r : List Nat) : Option (List Nat) := if ([c] : List Nat).isPrefixOf r = true then some (r.drop 1) else none
theorem dw_len (g : Nat → Bool) (r : List Nat) : (r.dropWhile g).length ≤ r.length := (suf_dw g r).length_le

end PM
namespace DM
open My RM PM PySem PySem.Spec PyProof.Rows L2
/-! ### labels, destinations, titles, definitions: what is asked, by what is left of a text -/
def plainR (sg : List Nat) : List Nat → List Nat
  | [] => []
  | [c] => if sg.contains c then [c] else []
  | c :: d :: r => if sg.contains c then c :: d :: r else if c == 92 && PunL.contains d then plainR sg r else plainR sg (d :: r)
def upToL (l e : List Nat) : List Nat := l.take (l.length - e.length)
theorem suf_plain (sg : List Nat) : ∀ l : List Nat, plainR sg l <:+ l
  | [] => List.suffix_refl _
  | [c] => by
    unfold plainR
    split
    · exact List.suffix_refl _
    · exact List.nil_suffix
  | c :: d :: r => by
    unfold plainR
    split
    · exact List.suffix_refl _
    · split
      · exact (suf_plain sg r).trans ⟨[c, d], rfl⟩
      · exact (suf_plain sg (d :: r)).trans ⟨[c], rfl⟩
theorem plain_head (sg : List Nat) : ∀ l : List Nat, ∀ {c : Nat} {r : List Nat}, plainR sg l = c :: r → sg.contains c = true
  | [], _, _, h => by cases h
  | [a], c, r, h => by
    unfold plainR at h
    split at h
    · rename_i h1
      cases h
      exact h1
    · cases h
  | a :: d :: l, c, r, h => by
    unfold plainR at h
    split at h
    · rename_i h1
      cases h
      exact h1
    · split at h
      · exact plain_head sg l h
      · exact plain_head sg (d :: l) h
/-- words up to a sign, whatever stands behind it -/
theorem plain_words {sg : List Nat} {c : Nat} (hc : sg.contains c = true) : ∀ (w : List Nat) {r : List Nat}, plainR sg (w ++ c :: r) = c :: r → ∀ r', plainR sg (w ++ c :: r') = c :: r'
  | [], r, _, r' => by
    show plainR sg (c :: r') = c :: r'
    cases r' with
    | nil => unfold plainR; rw [if_pos hc]
    | cons d r' => unfold plainR; rw [if_pos hc]
  | [a], r, h, r' => by
    have h' : (if sg.contains a then a :: c :: r else if a == 92 && PunL.contains c then plainR sg r else plainR sg (c :: r)) = c :: r := h
    show (if sg.contains a then a :: c :: r' else if a == 92 && PunL.contains c then plainR sg r' else plainR sg (c :: r')) = c :: r'
    by_cases h1 : sg.contains a = true
    · rw [if_pos h1] at h'
      have := congrArg List.length h'
      simp at this
    · rw [if_neg h1] at h' ⊢
      by_cases h2 : (a == 92 && PunL.contains c) = true
      · rw [if_pos h2] at h'
        have h3 := (suf_plain sg r).length_le
        rw [h', List.length_cons] at h3
        omega
      · rw [if_neg h2] at h' ⊢
        exact plain_words hc [] h' r'
  | a :: b :: w, r, h, r' => by
    have h' : (if sg.contains a then a :: b :: (w ++ c :: r) else if a == 92 && PunL.contains b then plainR sg (w ++ c :: r) else plainR sg (b :: (w ++ c :: r))) = c :: r := h
    show (if sg.contains a then a :: b :: (w ++ c :: r') else if a == 92 && PunL.contains b then plainR sg (w ++ c :: r') else plainR sg (b :: (w ++ c :: r'))) = c :: r'
    by_cases h1 : sg.contains a = true
    · rw [if_pos h1] at h'
      have := congrArg List.length h'
      simp at this
      omega
    · rw [if_neg h1] at h' ⊢
      by_cases h2 : (a == 92 && PunL.contains b) = true
      · rw [if_pos h2] at h' ⊢
        exact plain_words hc w h' r'
      · rw [if_neg h2] at h' ⊢
        exact plain_words hc (b :: w) h' r'
def whiteB (w : List Nat) : Bool := w.all fun c => GapL.contains c
/-- a label: its words, what is left behind -/
def labelR (l : List Nat) : Option (List Nat × List Nat) :=
  if ([91] : List Nat).isPrefixOf l = true then
    if ([93] : List Nat).isPrefixOf (plainR [91, 93] (l.drop 1)) = true ∧ (upToL (l.drop 1) (plainR [91, 93] (l.drop 1))).length ≤ 999 then
      if whiteB (upToL (l.drop 1) (plainR [91, 93] (l.drop 1))) = true then none
      else some (upToL (l.drop 1) (plainR [91, 93] (l.drop 1)), (plainR [91, 93] (l.drop 1)).drop 1)
    else none
  else none
def encR (barred : List Nat) (closing : Nat) (l : List Nat) : Option (List Nat × List Nat) :=
  if ([closing] : List Nat).isPrefixOf (plainR barred (l.drop 1)) = true then some (decR (upToL (l.drop 1) (plainR barred (l.drop 1))), (plainR barred (l.drop 1)).drop 1) else none
def EndsL : List Nat := [32, 9, 10, 40, 41]
def bareF : Nat → Nat → List Nat → Option (List Nat)
  | 0, _, _ => none
  | n + 1, wi, e => if ([40] : List Nat).isPrefixOf e = true then (if wi + 1 > 32 then none else bareF n (wi + 1) (plainR EndsL (e.drop 1)))
    else if wi > 0 ∧ ([41] : List Nat).isPrefixOf e = true then bareF n (wi - 1) (plainR EndsL (e.drop 1))
    else if wi > 0 then none else some e
def bareR (l : List Nat) : Option (List Nat) := bareF (l.length + 1) 0 (plainR EndsL l)
def destR (l : List Nat) : Option (List Nat × List Nat) :=
  if ([60] : List Nat).isPrefixOf l = true then encR [60, 62, 10] 62 l
  else match bareR l with
    | none => none
    | some e => if e.length = l.length then none else some (decR (upToL l e), e)
def titleR (l : List Nat) : Option (List Nat × List Nat) :=
  match l with
  | 34 :: _ => encR [34] 34 l
  | 39 :: _ => encR [39] 39 l
  | 40 :: _ => encR [40, 41] 41 l
  | _ => none
def lineR (l : List Nat) : Option (List Nat) := if ba [32, 9] l = [] then some [] else signR 10 (ba [32, 9] l)
def tailR (l : List Nat) : Option (List Nat × List Nat) :=
  if (gapR l).length = l.length then none else match titleR (gapR l) with
    | none => none
    | some (ti, r) => (lineR r).map fun r' => (ti, r')
/-- what is behind a destination: a title or none, and what is left -/
def endR (l : List Nat) : Option (Option (List Nat) × List Nat) := match tailR l with
  | some (ti, r) => some (some ti, r)
  | none => (lineR l).map fun r => (none, r)
structure Def where
  rest : List Nat
  words : List Nat
  dest : List Nat
  title : Option (List Nat)
  deriving DecidableEq
def defR (l : List Nat) : Option Def := match labelR l with
  | none => none
  | some (w, r) => if ([58] : List Nat).isPrefixOf r = true then match destR (gapR (r.drop 1)) with
      | none => none
      | some (d, r2) => match endR r2 with
        | none => none
        | some (ti, r3) => some ⟨r3, w, d, ti⟩
    else none
theorem suf_enc {b : List Nat} {c : Nat} {l d r : List Nat} (h : encR b c l = some (d, r)) : r <:+ l := by
  unfold encR at h
  split at h
  · have e : (plainR b (l.drop 1)).drop 1 = r := congrArg Prod.snd (Option.some.inj h)
    rw [← e]
    exact (List.drop_suffix _ _).trans ((suf_plain _ _).trans (List.drop_suffix _ _))
  · cases h
theorem suf_label {l w r : List Nat} (h : labelR l = some (w, r)) : r <:+ l := by
  unfold labelR at h
  split at h
  · split at h
    · split at h
      · cases h
      · have e := congrArg Prod.snd (Option.some.inj h)
        have e' : (plainR [91, 93] (l.drop 1)).drop 1 = r := e
        rw [← e']
        exact (List.drop_suffix _ _).trans ((suf_plain _ _).trans (List.drop_suffix _ _))
    · cases h
  · cases h
theorem suf_bareF : ∀ (n wi : Nat) (e : List Nat) {r : List Nat}, bareF n wi e = some r → r <:+ e
  | 0, _, _, _, h => by cases h
  | n + 1, wi, e, r, h => by
    unfold bareF at h
    have s1 : plainR EndsL (e.drop 1) <:+ e := (suf_plain _ _).trans (List.drop_suffix _ _)
    split at h
    · split at h
      · cases h
      · exact (suf_bareF n _ _ h).trans s1
    · split at h
      · exact (suf_bareF n _ _ h).trans s1
      · split at h
        · cases h
        · cases h
          exact List.suffix_refl _
theorem suf_bare {l r : List Nat} (h : bareR l = some r) : r <:+ l := (suf_bareF _ _ _ h).trans (suf_plain _ _)
theorem suf_dest {l d r : List Nat} (h : destR l = some (d, r)) : r <:+ l := by
  unfold destR at h
  split at h
  · exact suf_enc h
  · cases hb : bareR l with
    | none => rw [hb] at h; cases h
    | some e =>
      rw [hb] at h
      dsimp only at h
      split at h
      · cases h
      · have e2 : e = r := congrArg Prod.snd (Option.some.inj h)
        rw [← e2]
        exact suf_bare hb
theorem suf_title {l d r : List Nat} (h : titleR l = some (d, r)) : r <:+ l := by
  unfold titleR at h
  split at h
  · exact suf_enc h
  · exact suf_enc h
  · exact suf_enc h
  · cases h
theorem suf_line {l r : List Nat} (h : lineR l = some r) : r <:+ l := by
  unfold lineR at h
  split at h
  · cases h
    exact List.nil_suffix
  · unfold signR at h
    split at h
    · cases h
      exact (List.drop_suffix _ _).trans (suf_dw _ _)
    · cases h
theorem bareF_more : ∀ (n m wi : Nat) (e : List Nat), e.length < n → e.length < m → bareF n wi e = bareF m wi e
  | 0, _, _, _, h, _ => by omega
  | _, 0, _, _, _, h => by omega
  | n + 1, m + 1, wi, e, h1, h2 => by
    unfold bareF
    have s1 : ∀ c : Nat, ([c] : List Nat).isPrefixOf e = true → (plainR EndsL (e.drop 1)).length < e.length := fun c hc => by
      have h3 := (suf_plain EndsL (e.drop 1)).length_le
      have h4 := pre_len _ _ hc
      rw [List.length_drop] at h3
      simp at h4
      omega
    by_cases h3 : ([40] : List Nat).isPrefixOf e = true
    · rw [if_pos h3, if_pos h3]
      have := s1 _ h3
      rw [bareF_more n m (wi + 1) (plainR EndsL (e.drop 1)) (by omega) (by omega)]
    · rw [if_neg h3, if_neg h3]
      by_cases h4 : wi > 0 ∧ ([41] : List Nat).isPrefixOf e = true
      · rw [if_pos h4, if_pos h4]
        have := s1 _ h4.2
        rw [bareF_more n m (wi - 1) (plainR EndsL (e.drop 1)) (by omega) (by omega)]
      · rw [if_neg h4, if_neg h4]
theorem upTo_app (w e : List Nat) : upToL (w ++ e) e = w := by
  unfold upToL
  rw [List.length_append, Nat.add_sub_cancel, List.take_left]
theorem upTo_split {l e : List Nat} (h : e <:+ l) : l = upToL l e ++ e := by
  obtain ⟨w, rfl⟩ := h
  rw [upTo_app]
theorem label_parts {l w r : List Nat} (h : labelR l = some (w, r)) : l = 91 :: (w ++ 93 :: r) ∧ w.length ≤ 999 ∧ whiteB w = false ∧ plainR [91, 93] (w ++ 93 :: r) = 93 :: r := by
  unfold labelR at h
  split at h
  · rename_i h1
    split at h
    · rename_i h2
      split at h
      · cases h
      · rename_i h3
        have h4 := Option.some.inj h
        have e1 : upToL (l.drop 1) (plainR [91, 93] (l.drop 1)) = w := congrArg Prod.fst h4
        have e2 : (plainR [91, 93] (l.drop 1)).drop 1 = r := congrArg Prod.snd h4
        have hs : plainR [91, 93] (l.drop 1) <:+ l.drop 1 := suf_plain _ _
        have e3 := upTo_split hs
        have e4 : plainR [91, 93] (l.drop 1) = 93 :: r := by
          cases he : plainR [91, 93] (l.drop 1) with
          | nil => rw [he] at h2; cases h2.1
          | cons a b =>
            rw [he] at h2 e2
            have h5 : ((93 : Nat) == a && ([] : List Nat).isPrefixOf b) = true := h2.1
            have h6 := eq_of_beq (Bool.and_eq_true_iff.mp h5).1
            rw [← h6, ← e2]
            rfl
        rw [e1] at h2 h3
        rw [e1, e4] at e3
        have e5 : l = 91 :: l.drop 1 := by
          cases l with
          | nil => cases h1
          | cons a b =>
            have h5 : ((91 : Nat) == a && ([] : List Nat).isPrefixOf b) = true := h1
            have h6 := eq_of_beq (Bool.and_eq_true_iff.mp h5).1
            rw [← h6]
            rfl
        refine ⟨by rw [← e3]; exact e5, h2.2, by simpa using h3, by rw [← e3]; exact e4⟩
    · cases h
  · cases h
theorem label_made {w r : List Nat} (h1 : w.length ≤ 999) (h2 : whiteB w = false) (h3 : plainR [91, 93] (w ++ 93 :: r) = 93 :: r) (r' : List Nat) : labelR (91 :: (w ++ 93 :: r')) = some (w, r') := by
  have h4 := plain_words (sg := [91, 93]) (c := 93) (by decide) w h3 r'
  unfold labelR
  rw [if_pos (by rfl)]
  show (if ([93] : List Nat).isPrefixOf (plainR [91, 93] (w ++ 93 :: r')) = true ∧ (upToL (w ++ 93 :: r') (plainR [91, 93] (w ++ 93 :: r'))).length ≤ 999 then
      if whiteB (upToL (w ++ 93 :: r') (plainR [91, 93] (w ++ 93 :: r'))) = true then none
      else some (upToL (w ++ 93 :: r') (plainR [91, 93] (w ++ 93 :: r')), (plainR [91, 93] (w ++ 93 :: r')).drop 1)
    else none) = _
  rw [h4, upTo_app, if_pos ⟨by rfl, h1⟩, if_neg (by rw [h2]; exact Bool.false_ne_true)]
  rfl
theorem label_again {l w r : List Nat} (h : labelR l = some (w, r)) : labelR (91 :: (w ++ [93])) = some (w, []) := by
  obtain ⟨_, h1, h2, h3⟩ := label_parts h
  exact label_made h1 h2 h3 []

/-! ### what the law draws -/
def normR (w : List Nat) : List Nat := (Txt.join (S [32]) (Txt.words (S (w.map lo1)))).cps.toList
def LabelL : List (List Nat × List Nat) := [([97], [97]), ([66, 32, 99], [98, 32, 99]), ([32, 120, 32, 32, 121, 32], [120, 32, 121]), ([113, 10, 82], [113, 32, 114]), ([97, 92, 93], [97, 92, 93]), ([42], [42]), ([38, 97, 109, 112, 59], [38, 97, 109, 112, 59])]
def GapT : List (List Nat) := [[], [32], [10], [32, 32, 10, 32], [9], [32, 10], [10, 32, 32]]
def GapF : List (List Nat) := [[10, 10], [32, 10, 32, 10], [10, 10, 32]]
def DestL : List (List Nat × List Nat × Bool) := [([47, 117], [47, 117], true), ([60, 62], [], true), ([60, 97, 32, 98, 62], [97, 32, 98], true), ([120, 40, 121, 41], [120, 40, 121, 41], true), ([97, 92, 42, 98], [97, 42, 98], true), ([38, 97, 109, 112, 59], [38], true), ([60, 97, 92, 62, 98, 62], [97, 62, 98], true), ([60, 97], [], false), ([120, 40, 121], [], false), ([39, 116, 39], [39, 116, 39], true), ([97, 41, 98], [], false), ([92, 40], [40], true)]
def TitleL : List (List Nat × List Nat × Bool) := [([34, 116, 34], [116], true), ([39, 97, 32, 98, 39], [97, 32, 98], true), ([40, 120, 41], [120], true), ([34, 34], [], true), ([39, 97, 10, 98, 39], [97, 10, 98], true), ([34, 97, 92, 34, 98, 34], [97, 34, 98], true), ([40, 97, 92, 41, 98, 41], [97, 41, 98], true), ([39, 38, 108, 116, 59, 39], [60], true), ([34, 116], [], false), ([40, 97, 40, 98, 41], [], false), ([116], [], false)]
def TailL : List (List Nat) := [[], [10], [32, 10], [10, 109, 111, 114, 101], [32, 120], [32, 9, 10, 98], [32, 32]]
def AheadL : List (List Nat) := [[], [120, 32], [97, 98, 10]]

theorem label_ok : ∀ p ∈ LabelL, labelR (91 :: (p.1 ++ [93])) = some (p.1, []) ∧ normR p.1 = p.2 ∧ p.1.length ≤ 10 ∧ p.2.length ≤ 10 ∧ (∀ c ∈ p.1, c < 128) ∧ ∀ c ∈ p.2, c < 128 := by decide +kernel
def restB (l : List Nat) : Bool := match findL [10] l with
  | some k => (l.take k).all [32, 9].contains
  | none => l.all [32, 9].contains
def nextL (l : List Nat) : List Nat := match findL [10] l with
  | some k => l.drop (k + 1)
  | none => []
/-- what the law expects behind a destination -/
def dueEnd (s : List Nat) (sb : Bool) (tw tt : List Nat) (tok : Bool) (tl : List Nat) : Option (Option (List Nat) × List Nat) :=
  if sb = true ∧ s ≠ [] ∧ tok = true ∧ restB tl = true then some (some tt, nextL tl)
  else if restB (s ++ tw ++ tl) = true then some (none, nextL (s ++ tw ++ tl))
  else none
def wbB (R : List Nat) : Bool := (match R with | [] => true | a :: _ => isG a) && !R.contains 62
def SpaceL : List (List Nat × Bool) := (GapT.drop 1).map (fun g => (g, true)) ++ GapF.map fun g => (g, false)
theorem tails_ok : ∀ s ∈ SpaceL, ∀ t ∈ TitleL, ∀ tl ∈ TailL, endR (s.1 ++ t.1 ++ tl) = dueEnd s.1 s.2 t.1 t.2.1 t.2.2 tl ∧ wbB (s.1 ++ t.1 ++ tl) = true ∧ s.1 ≠ [] := by decide +kernel
theorem tails0_ok : ∀ tl ∈ TailL, endR ([] ++ [] ++ tl) = dueEnd [] true [] [] false tl ∧ wbB ([] ++ [] ++ tl) = true := by decide +kernel
theorem tail_x : ∀ tl ∈ TailL, ([32, 120] : List Nat).isPrefixOf tl = true → endR ([] ++ [] ++ tl) = none := by decide +kernel
theorem space_small : ∀ s ∈ SpaceL, s.1.length ≤ 5 ∧ ∀ c ∈ s.1, c < 128 := by decide
theorem title_small : ∀ t ∈ TitleL, t.1 ≠ [] ∧ t.1.length ≤ 10 ∧ t.2.1.length ≤ 10 ∧ (∀ c ∈ t.1, c < 128) ∧ ∀ c ∈ t.2.1, c < 128 := by decide
theorem dest_small : ∀ t ∈ DestL, t.1.length ≤ 10 ∧ t.2.1.length ≤ 10 ∧ (∀ c ∈ t.1, c < 128) ∧ ∀ c ∈ t.2.1, c < 128 := by decide
theorem tail_small : ∀ t ∈ TailL, t.length ≤ 5 ∧ ∀ c ∈ t, c < 128 := by decide
theorem ahead_small : ∀ t ∈ AheadL, t.length ≤ 3 ∧ ∀ c ∈ t, c < 128 := by decide
theorem gap_small : (∀ g ∈ GapT, g.length ≤ 5 ∧ ∀ c ∈ g, c < 128) ∧ ∀ g ∈ GapF, g.length ≤ 5 ∧ ∀ c ∈ g, c < 128 := by decide
/-! gaps -/
theorem tw_app {g : Nat → Bool} {c : Nat} (hc : g c = false) : ∀ (w X : List Nat), w.all g = true → (w ++ c :: X).takeWhile g = w ∧ (w ++ c :: X).dropWhile g = c :: X
  | [], X, _ => by
    show (c :: X).takeWhile g = [] ∧ (c :: X).dropWhile g = c :: X
    rw [List.takeWhile_cons, List.dropWhile_cons, hc]
    exact ⟨rfl, rfl⟩
  | a :: w, X, h => by
    have h2 := Bool.and_eq_true_iff.mp (show (g a && w.all g) = true from h)
    obtain ⟨h3, h4⟩ := tw_app hc w X h2.2
    show (a :: (w ++ c :: X)).takeWhile g = a :: w ∧ (a :: (w ++ c :: X)).dropWhile g = c :: X
    rw [List.takeWhile_cons, List.dropWhile_cons, h2.1, if_pos rfl, if_pos rfl, h3, h4]
    exact ⟨rfl, rfl⟩
theorem gapT_ok {c : Nat} (hc : isG c = false) (X : List Nat) : ∀ g ∈ GapT, gapR (g ++ c :: X) = c :: X := by
  intro g hg
  have h1 : ∀ g ∈ GapT, g.all isG = true ∧ ¬ g.count 10 > 1 := by decide
  obtain ⟨h2, h3⟩ := h1 g hg
  obtain ⟨h4, h5⟩ := tw_app hc g X h2
  unfold gapR
  rw [h4, h5, if_neg h3]
theorem dest_white {a : Nat} (ha : isG a = true) (Y : List Nat) : destR (a :: Y) = none := by
  have h1 : a = 32 ∨ a = 9 ∨ a = 10 := by
    have : GapL.contains a = true := ha
    simpa [GapL] using this
  have h2 : bareR (a :: Y) = some (a :: Y) := by
    rcases h1 with rfl | rfl | rfl <;> cases Y <;> rfl
  unfold destR
  rw [h2, if_neg (by rcases h1 with rfl | rfl | rfl <;> exact Bool.false_ne_true)]
  show (if (a :: Y).length = (a :: Y).length then none else some (decR (upToL (a :: Y) (a :: Y)), a :: Y)) = none
  rw [if_pos rfl]
theorem gapF_ok {c : Nat} (hc : isG c = false) (X : List Nat) : ∀ g ∈ GapF, destR (gapR (g ++ c :: X)) = none := by
  intro g hg
  have h1 : ∀ g ∈ GapF, g.all isG = true ∧ g.count 10 > 1 ∧ g ≠ [] := by decide
  obtain ⟨h2, h3, h6⟩ := h1 g hg
  obtain ⟨h4, h5⟩ := tw_app hc g X h2
  unfold gapR
  rw [h4, if_pos h3]
  cases g with
  | nil => exact absurd rfl h6
  | cons a g =>
    have := Bool.and_eq_true_iff.mp (show (isG a && g.all isG) = true from h2)
    exact dest_white this.1 _
/-! destinations -/
theorem wb_cases {R : List Nat} (h : wbB R = true) : (R = [] ∨ ∃ a r, R = a :: r ∧ (a = 32 ∨ a = 9 ∨ a = 10)) ∧ 62 ∉ R := by
  unfold wbB at h
  obtain ⟨h1, h2⟩ := Bool.and_eq_true_iff.mp h
  refine ⟨?_, ?_⟩
  · cases R with
    | nil => exact .inl rfl
    | cons a r =>
      have : GapL.contains a = true := h1
      exact .inr ⟨a, r, rfl, by simpa [GapL] using this⟩
  · intro z
    have : R.contains 62 = true := by simpa using z
    rw [this] at h2
    cases h2
theorem bares {R : List Nat} (h : R = [] ∨ ∃ a r, R = a :: r ∧ (a = 32 ∨ a = 9 ∨ a = 10)) :
    bareR ([47, 117] ++ R) = some R ∧ bareR ([120, 40, 121, 41] ++ R) = some R ∧ bareR ([97, 92, 42, 98] ++ R) = some R ∧ bareR ([38, 97, 109, 112, 59] ++ R) = some R ∧
    bareR ([39, 116, 39] ++ R) = some R ∧ bareR ([92, 40] ++ R) = some R ∧ bareR ([120, 40, 121] ++ R) = none ∧ bareR ([97, 41, 98] ++ R) = some (41 :: 98 :: R) := by
  rcases h with rfl | ⟨a, r, rfl, ha⟩
  · decide +kernel
  · rcases ha with rfl | rfl | rfl <;> cases r <;> exact ⟨rfl, rfl, rfl, rfl, rfl, rfl, rfl, rfl⟩
theorem dest_of_bare {dw R : List Nat} (h0 : dw ≠ []) (h1 : ([60] : List Nat).isPrefixOf (dw ++ R) = false) (h : bareR (dw ++ R) = some R) : destR (dw ++ R) = some (decR dw, R) := by
  unfold destR
  rw [h1, if_neg Bool.false_ne_true, h]
  show (if R.length = (dw ++ R).length then none else some (decR (upToL (dw ++ R) R), R)) = _
  have : 0 < dw.length := List.length_pos_iff.mpr h0
  rw [if_neg (by rw [List.length_append]; omega), upTo_app]
theorem enc_ok {b : List Nat} {o c : Nat} {w : List Nat} (hc : b.contains c = true) (h : plainR b (w ++ [c]) = [c]) (R : List Nat) : encR b c (o :: (w ++ c :: R)) = some (decR w, R) := by
  have h2 := plain_words hc w h R
  unfold encR
  show (if ([c] : List Nat).isPrefixOf (plainR b (w ++ c :: R)) = true then some (decR (upToL (w ++ c :: R) (plainR b (w ++ c :: R))), (plainR b (w ++ c :: R)).drop 1) else none) = _
  rw [h2, upTo_app, if_pos (by simp [List.isPrefixOf])]
  rfl
theorem dest_ok {R : List Nat} (hR : wbB R = true) : ∀ d ∈ DestL, (d.2.2 = true → destR (d.1 ++ R) = some (d.2.1, R)) ∧ (d.2.2 = false → destR (d.1 ++ R) = none ∨ ∃ x r2, destR (d.1 ++ R) = some (x, r2) ∧ endR r2 = none) := by
  obtain ⟨h1, h2⟩ := wb_cases hR
  obtain ⟨b1, b2, b3, b4, b5, b6, b7, b8⟩ := bares h1
  have f : ∀ {dw dd : List Nat}, dw ≠ [] → ([60] : List Nat).isPrefixOf (dw ++ R) = false → bareR (dw ++ R) = some R → decR dw = dd → destR (dw ++ R) = some (dd, R) := fun a b c e => by rw [dest_of_bare a b c, e]
  have g : ∀ {w dd : List Nat}, plainR [60, 62, 10] (w ++ [62]) = [62] → decR w = dd → destR (60 :: (w ++ 62 :: R)) = some (dd, R) := fun {w dd} a e => by
    unfold destR
    rw [if_pos (by rfl), enc_ok (by decide) a, e]
  intro d hd
  unfold DestL at hd
  simp only [List.mem_cons, List.not_mem_nil, or_false] at hd
  rcases hd with rfl | rfl | rfl | rfl | rfl | rfl | rfl | rfl | rfl | rfl | rfl | rfl
  · exact ⟨fun _ => f (by decide) rfl b1 (by decide +kernel), fun h => by cases h⟩
  · exact ⟨fun _ => g (w := []) (by decide +kernel) (by decide +kernel), fun h => by cases h⟩
  · exact ⟨fun _ => g (w := [97, 32, 98]) (by decide +kernel) (by decide +kernel), fun h => by cases h⟩
  · exact ⟨fun _ => f (by decide) rfl b2 (by decide +kernel), fun h => by cases h⟩
  · exact ⟨fun _ => f (by decide) rfl b3 (by decide +kernel), fun h => by cases h⟩
  · exact ⟨fun _ => f (by decide) rfl b4 (by decide +kernel), fun h => by cases h⟩
  · exact ⟨fun _ => g (w := [97, 92, 62, 98]) (by decide +kernel) (by decide +kernel), fun h => by cases h⟩
  · refine ⟨fun h => (by cases h), fun _ => .inl ?_⟩
    unfold destR
    rw [if_pos (by rfl)]
    unfold encR
    rw [if_neg]
    intro z
    have hs : plainR [60, 62, 10] (([60, 97] ++ R).drop 1) <:+ ([60, 97] ++ R).drop 1 := suf_plain _ _
    have : 62 ∈ ([60, 97] ++ R).drop 1 := by
      refine hs.subset ?_
      cases he : plainR [60, 62, 10] (([60, 97] ++ R).drop 1) with
      | nil => rw [he] at z; cases z
      | cons a r =>
        rw [he] at z
        have h5 : ((62 : Nat) == a && ([] : List Nat).isPrefixOf r) = true := z
        have h6 := eq_of_beq (Bool.and_eq_true_iff.mp h5).1
        rw [h6]
        exact List.mem_cons_self ..
    have h3 : 62 ∈ 97 :: R := this
    rcases List.mem_cons.mp h3 with h4 | h4
    · cases h4
    · exact h2 h4
  · refine ⟨fun h => (by cases h), fun _ => .inl ?_⟩
    unfold destR
    rw [if_neg (by exact Bool.false_ne_true)]
    rw [show bareR ([120, 40, 121] ++ R) = none from b7]
  · exact ⟨fun _ => f (by decide) rfl b5 (by decide +kernel), fun h => by cases h⟩
  · refine ⟨fun h => (by cases h), fun _ => .inr ⟨[97], 41 :: 98 :: R, ?_, ?_⟩⟩
    · unfold destR
      rw [if_neg (by exact Bool.false_ne_true), show bareR ([97, 41, 98] ++ R) = some (41 :: 98 :: R) from b8]
      show (if (41 :: 98 :: R).length = (97 :: 41 :: 98 :: R).length then none else some (decR (upToL ([97] ++ 41 :: 98 :: R) (41 :: 98 :: R)), 41 :: 98 :: R)) = _
      rw [if_neg (by simp), upTo_app]
      rfl
    · have e1 : tailR (41 :: 98 :: R) = none := by
        have e2 : gapR (41 :: 98 :: R) = 41 :: 98 :: R := rfl
        unfold tailR
        rw [e2, if_pos rfl]
      unfold endR
      rw [e1]
      rfl
  · exact ⟨fun _ => f (by decide) rfl b6 (by decide +kernel), fun h => by cases h⟩
/-! definitions -/
theorem def_made {w : List Nat} (hw : labelR (91 :: (w ++ [93])) = some (w, [])) (X : List Nat) : defR (91 :: (w ++ 93 :: 58 :: X)) = match destR (gapR X) with
      | none => none
      | some (d, r2) => match endR r2 with
        | none => none
        | some (ti, r3) => some ⟨r3, w, d, ti⟩ := by
  obtain ⟨_, h1, h2, h3⟩ := label_parts hw
  unfold defR
  rw [label_made h1 h2 h3 (58 :: X)]
  rfl
theorem dest_head : ∀ d ∈ DestL, ∃ c r, d.1 = c :: r ∧ isG c = false := by
  intro d hd
  have : ∀ d ∈ DestL, (match d.1 with | [] => false | c :: _ => !isG c) = true := by decide
  have h := this d hd
  cases h2 : d.1 with
  | nil => rw [h2] at h; cases h
  | cons c r =>
    rw [h2] at h
    exact ⟨c, r, rfl, by simpa using h⟩
/-- a drawn definition -/
theorem def_drawn {w g R : List Nat} {d : List Nat × List Nat × Bool} {gb : Bool} (hw : labelR (91 :: (w ++ [93])) = some (w, [])) (hd : d ∈ DestL) (hR : wbB R = true) (hg : (gb = true ∧ g ∈ GapT) ∨ (gb = false ∧ g ∈ GapF)) :
    defR (91 :: (w ++ 93 :: 58 :: (g ++ (d.1 ++ R)))) = if gb = true ∧ d.2.2 = true then (endR R).map fun x => ⟨x.2, w, d.2.1, x.1⟩ else none := by
  rw [def_made hw]
  obtain ⟨c, r, hc, hcg⟩ := dest_head d hd
  obtain ⟨k1, k2⟩ := dest_ok hR d hd
  have e0 : d.1 ++ R = c :: (r ++ R) := by rw [hc]; rfl
  rcases hg with ⟨rfl, hg⟩ | ⟨rfl, hg⟩
  · have e1 : gapR (g ++ (d.1 ++ R)) = d.1 ++ R := by rw [e0]; exact gapT_ok hcg _ g hg
    rw [e1]
    cases hok : d.2.2 with
    | true =>
      rw [k1 hok, if_pos ⟨rfl, rfl⟩]
      dsimp only
      cases endR R <;> rfl
    | false =>
      rw [if_neg fun z => Bool.false_ne_true z.2]
      rcases k2 hok with k3 | ⟨x, r2, k3, k4⟩
      · rw [k3]
      · rw [k3]
        dsimp only
        rw [k4]
  · rw [e0, gapF_ok hcg _ g hg, if_neg fun z => Bool.false_ne_true z.1]

end DM
/-! ### what is a tree: by the data alone -/
namespace TR
open PySem PySem.Spec PyProof.Rows L2 My RM PM DM
def AllowL : List Nat := [9, 10] ++ ((List.range 95).map (· + 32)).filter (· != 37)
inductive So where
  | B
  | I
  | K
def So.nm : So → Str
  | .B => "blocks"
  | .I => "inlines"
  | .K => "linked"
def isK : So → Bool
  | .K => true
  | _ => false
def isStr : PyData → Bool
  | .str _ => true
  | _ => false
def isTup : PyData → Bool
  | .tuple _ => true
  | _ => false
def isBool : PyData → Bool
  | .bool _ => true
  | _ => false
def isInt : PyData → Bool
  | .int _ => true
  | .bool _ => true
  | _ => false
def isEmp : PyData → Bool
  | .str y => decide (y = S [])
  | _ => false
def isNon : PyData → Bool
  | .none => true
  | _ => false
def txt (z : Str) : Bool := z.cps.toList.all fun c => AllowL.contains c
def isTxt : PyData → Bool
  | .str z => txt z
  | _ => false
def isLns : PyData → Bool
  | .str z => txt z && Txt.endswith z (S [10])
  | _ => false
def isFil : PyData → Bool
  | .tuple ds => !ds.isEmpty
  | _ => false
def intTo (a b : Int) : PyData → Bool
  | .int i => decide (a ≤ i) && decide (i ≤ b)
  | _ => false
def labT (w : List Nat) : Bool := labelR (91 :: (w ++ [93])) == some (w, [])
def lab (z : Str) : Bool := decide (Txt.join (S [32]) (Txt.words (S (z.cps.toList.map lo1))) = z) && (labT z.cps.toList || labT (z.cps.toList ++ [32]))
def isLab : PyData → Bool
  | .str z => lab z
  | _ => false
def fitStart (g : Str) (st : PyData) : Bool := if inV (.str g) [.str "-", .str "+", .str "*"] = true then isNon st else inV (.str g) [.str ".", .str ")"] && intTo 0 999999999 st
def fitTgt (d t : PyData) : Bool := isTxt d && (isNon t || isTxt t)
def ok (b : Bool) : Option (List (So × PyData)) := if b = true then some [] else none
def linkR (s : So) (z : Str) : List PyData → Option (List (So × PyData))
  | [d, t, r] => if (!fitTgt d t || (decide (z = "link") && isK s)) = true then none else if z = "link" then some [(.K, r)] else some [(.I, r)]
  | _ => none
def txtR : List PyData → Option (List (So × PyData))
  | [x] => ok (isTxt x && !isEmp x)
  | _ => none
def filR (s : So) : List PyData → Option (List (So × PyData))
  | [x] => if isFil x = true then some [(s, x)] else none
  | _ => none
def inlR (s : So) (z : Str) (rest : List PyData) : Option (List (So × PyData)) :=
  if inV (.str z) [.str "soft", .str "hard"] = true then ok rest.isEmpty
  else if inV (.str z) [.str "text", .str "code", .str "html"] = true then
    txtR rest
  else if inV (.str z) [.str "emph", .str "strong"] = true then
    filR s rest
  else if inV (.str z) [.str "link", .str "image"] = true then linkR s z rest
  else none
def blkR (z : Str) (rest : List PyData) : Option (List (So × PyData)) :=
  if z = "quote" then match rest with
    | [x] => some [(.B, x)]
    | _ => none
  else if z = "list" then match rest with
    | [.str g, st, ti, .tuple its] => if (fitStart g st && isBool ti && !its.isEmpty) = true then some (its.map fun i => (.B, i)) else none
    | _ => none
  else if z = "heading" then match rest with
    | [l, r] => if intTo 1 6 l = true then some [(.I, r)] else none
    | _ => none
  else if z = "break" then ok rest.isEmpty
  else if z = "code" then match rest with
    | [t, i] => ok (if isNon i = true then isLns t else isTxt i && (isLns t || isEmp t))
    | _ => none
  else if z = "html" then match rest with
    | [t] => ok (isLns t)
    | _ => none
  else if z = "definition" then match rest with
    | [l, d, t] => ok (isTxt l && isLab l && fitTgt d t)
    | _ => none
  else if z = "paragraph" then match rest with
    | [r] => if isFil r = true then some [(.I, r)] else none
    | _ => none
  else none
def oneR (s : So) : PyData → Option (Str × List (So × PyData))
  | .tuple (.str z :: rest) => match s with
    | .B => (blkR z rest).map fun r => (z, r)
    | s => (inlR s z rest).map fun r => (z, r)
  | _ => none
/-- the rows in a row; p: a text stands right ahead -/
def rowR (s : So) : Bool → List PyData → Option (List (So × PyData))
  | _, [] => some []
  | p, x :: r => match oneR s x with
    | none => none
    | some (z, f) => if (p && decide (z = "text")) = true then none else (rowR s (decide (z = "text")) r).map fun g => f ++ g
def thingR : So × PyData → Option (List (So × PyData))
  | (s, .tuple ds) => rowR s false ds
  | _ => none
def allR : List (So × PyData) → Option (List (So × PyData))
  | [] => some []
  | p :: r => match thingR p with
    | none => none
    | some f => (allR r).map fun g => f ++ g
def treeR : Nat → List (So × PyData) → Bool
  | 0, rows => rows.isEmpty
  | n + 1, rows => match allR rows with
    | none => false
    | some inner => treeR n inner
def isTree (d : PyData) : Bool := treeR 100 [(.B, d)]
theorem allR_c (p : So × PyData) (r : List (So × PyData)) : allR (p :: r) = match thingR p with
    | none => none
    | some f => (allR r).map fun g => f ++ g := rfl
theorem allR_none {p : So × PyData} {r : List (So × PyData)} (h : thingR p = none) : allR (p :: r) = none := by rw [allR_c, h]
theorem allR_some {p : So × PyData} {r f : List (So × PyData)} (h : thingR p = some f) : allR (p :: r) = (allR r).map fun g => f ++ g := by rw [allR_c, h]
end TR

/-! ### documents as trees, and that they are trees -/
namespace BM
open PySem PySem.Spec PyProof.Rows L2 My RM PM DM IM TR
inductive Blk where
  | quote (bs : List Blk)
  | list (g : Str) (st : Option Nat) (t : Bool) (its : List (List Blk))
  | heading (l : Nat) (r : List Inl)
  | brk
  | code (t : List Nat) (i : Option (List Nat))
  | html (t : List Nat)
  | defn (l d : List Nat) (t : Option (List Nat))
  | par (r : List Inl)
def optI : Option Nat → PyData
  | none => .none
  | some n => .int (n : Int)
mutual
def Blk.toD : Blk → PyData
  | .quote bs => .tuple [.str "quote", .tuple (blksD bs)]
  | .list g st t its => .tuple [.str "list", .str g, optI st, .bool t, .tuple (itsD its)]
  | .heading l r => .tuple [.str "heading", .int (l : Int), .tuple (rowD r)]
  | .brk => .tuple [.str "break"]
  | .code t i => .tuple [.str "code", .str (S t), optD i]
  | .html t => .tuple [.str "html", .str (S t)]
  | .defn l d t => .tuple [.str "definition", .str (S l), .str (S d), optD t]
  | .par r => .tuple [.str "paragraph", .tuple (rowD r)]
def blksD : List Blk → List PyData
  | [] => []
  | b :: bs => b.toD :: blksD bs
def itsD : List (List Blk) → List PyData
  | [] => []
  | bs :: its => .tuple (blksD bs) :: itsD its
end
/-! what a good row of inlines is; k: within a link -/
def gTxt (t : List Nat) : Bool := t.all fun c => AllowL.contains c
def gOpt : Option (List Nat) → Bool
  | none => true
  | some t => gTxt t
def isT : Inl → Bool
  | .text _ => true
  | _ => false
mutual
def gI (k : Bool) : Inl → Bool
  | .text t => gTxt t && !t.isEmpty
  | .code t => gTxt t && !t.isEmpty
  | .html t => gTxt t && !t.isEmpty
  | .soft => true
  | .hard => true
  | .emph r => !r.isEmpty && gR k false r
  | .strong r => !r.isEmpty && gR k false r
  | .link d t r => !k && gTxt d && gOpt t && gR true false r
  | .image d t r => gTxt d && gOpt t && gR false false r
def gR (k : Bool) : Bool → List Inl → Bool
  | _, [] => true
  | p, x :: r => gI k x && !(p && isT x) && gR k (isT x) r
end
mutual
def hI : Inl → Nat
  | .emph r => 1 + hR r
  | .strong r => 1 + hR r
  | .link _ _ r => 1 + hR r
  | .image _ _ r => 1 + hR r
  | _ => 0
def hR : List Inl → Nat
  | [] => 0
  | x :: r => max (hI x) (hR r)
end
theorem treeR_app : ∀ (n : Nat) (a b : List (So × PyData)), treeR n (a ++ b) = (treeR n a && treeR n b)
  | 0, a, b => by
    cases a <;> cases b <;> rfl
  | n + 1, a, b => by
    have e : ∀ a : List (So × PyData), allR (a ++ b) = (allR a).bind fun f => (allR b).map fun g => f ++ g := fun a => by
      induction a with
      | nil =>
        show allR b = (some []).bind _
        cases allR b <;> rfl
      | cons p a ih =>
        show allR (p :: (a ++ b)) = _
        rw [allR_c, allR_c, ih]
        cases thingR p with
        | none => rfl
        | some f =>
          cases allR a with
          | none => rfl
          | some g =>
            cases allR b with
            | none => rfl
            | some k => simp
    show (match allR (a ++ b) with | none => false | some i => treeR n i) = ((match allR a with | none => false | some i => treeR n i) && (match allR b with | none => false | some i => treeR n i))
    rw [e]
    cases allR a with
    | none => rfl
    | some f =>
      cases allR b with
      | none => simp
      | some g => exact treeR_app n f g
theorem treeR_one (n : Nat) (p : So × PyData) : treeR (n + 1) [p] = match thingR p with | none => false | some f => treeR n f := by
  show (match allR [p] with | none => false | some i => treeR n i) = _
  rw [allR_c]
  cases thingR p with
  | none => rfl
  | some f =>
    show treeR n (f ++ []) = _
    rw [List.append_nil]
theorem treeR_nil (n : Nat) : treeR n [] = true := by
  induction n with
  | zero => rfl
  | succ n ih => exact ih
theorem treeR_up : ∀ (n : Nat) (a : List (So × PyData)), treeR n a = true → treeR (n + 1) a = true
  | 0, a, h => by
    cases a with
    | nil => rfl
    | cons p a => cases h
  | n + 1, a, h => by
    have h' : (match allR a with | none => false | some i => treeR n i) = true := h
    show (match allR a with | none => false | some i => treeR (n + 1) i) = true
    cases e : allR a with
    | none => rw [e] at h'; cases h'
    | some f =>
      rw [e] at h'
      exact treeR_up n f h'
theorem treeR_le {n m : Nat} {a : List (So × PyData)} (h : treeR n a = true) (l : n ≤ m) : treeR m a = true := by
  induction l with
  | refl => exact h
  | step _ ih => exact treeR_up _ _ ih
theorem treeR_row {n : Nat} {s : So} {ds : List PyData} {f : List (So × PyData)} (h : rowR s false ds = some f) : treeR (n + 1) [(s, .tuple ds)] = treeR n f := by
  rw [treeR_one]
  have : thingR (s, .tuple ds) = some f := h
  rw [this]
/-! good rows are rows -/
theorem txt_g {t : List Nat} : txt (S t) = gTxt t := by
  unfold txt gTxt
  rw [S_tl]
theorem emp_g (t : List Nat) : isEmp (.str (S t)) = t.isEmpty := by
  show decide (S t = S []) = _
  cases t with
  | nil => exact decide_eq_true rfl
  | cons c t => exact decide_eq_false fun h => nomatch S_inj h
theorem opt_g (t : Option (List Nat)) : (isNon (optD t) || isTxt (optD t)) = gOpt t := by
  cases t with
  | none => rfl
  | some t => exact txt_g
theorem fil_g (r : List Inl) : isFil (.tuple (rowD r)) = !r.isEmpty := by cases r <;> rfl
def soI (k : Bool) : So := if k = true then .K else .I
def subI (k : Bool) : Inl → List (So × PyData)
  | .emph r => [(soI k, .tuple (rowD r))]
  | .strong r => [(soI k, .tuple (rowD r))]
  | .link _ _ r => [(.K, .tuple (rowD r))]
  | .image _ _ r => [(.I, .tuple (rowD r))]
  | _ => []
def nameI : Inl → Str
  | .text _ => "text"
  | .code _ => "code"
  | .html _ => "html"
  | .soft => "soft"
  | .hard => "hard"
  | .emph _ => "emph"
  | .strong _ => "strong"
  | .link _ _ _ => "link"
  | .image _ _ _ => "image"
theorem name_text (x : Inl) : decide (nameI x = ("text" : Str)) = isT x := by
  cases x with
  | text t => exact decide_eq_true rfl
  | code t => exact (by decide +kernel : decide (("code" : Str) = "text") = false)
  | html t => exact (by decide +kernel : decide (("html" : Str) = "text") = false)
  | soft => exact (by decide +kernel : decide (("soft" : Str) = "text") = false)
  | hard => exact (by decide +kernel : decide (("hard" : Str) = "text") = false)
  | emph r => exact (by decide +kernel : decide (("emph" : Str) = "text") = false)
  | strong r => exact (by decide +kernel : decide (("strong" : Str) = "text") = false)
  | link d t r => exact (by decide +kernel : decide (("link" : Str) = "text") = false)
  | image d t r => exact (by decide +kernel : decide (("image" : Str) = "text") = false)
theorem oneI_of (k : Bool) (z : Str) (rest : List PyData) : oneR (soI k) (.tuple (.str z :: rest)) = (inlR (soI k) z rest).map fun r => (z, r) := by cases k <;> rfl
theorem ok_true {b : Bool} (h : b = true) : ok b = some [] := by unfold ok; rw [if_pos h]
theorem one_I (k : Bool) : ∀ x : Inl, gI k x = true → oneR (soI k) x.toD = some (nameI x, subI k x) := by
  have i1 : ∀ z : Str, (z = "text" ∨ z = "code" ∨ z = "html") → ∀ t, (gTxt t && !t.isEmpty) = true → inlR (soI k) z [.str (S t)] = some [] := fun z hz t h => by
    have a1 : inV (.str z) [.str "soft", .str "hard"] = false := by rcases hz with rfl | rfl | rfl <;> decide +kernel
    have a2 : inV (.str z) [.str "text", .str "code", .str "html"] = true := by rcases hz with rfl | rfl | rfl <;> decide +kernel
    unfold inlR
    rw [a1, if_neg Bool.false_ne_true, a2, if_pos rfl]
    show ok (isTxt (.str (S t)) && !isEmp (.str (S t))) = some []
    rw [emp_g]
    exact ok_true (by show (txt (S t) && _) = true; rw [txt_g]; exact h)
  have i2 : ∀ z : Str, (z = "soft" ∨ z = "hard") → inlR (soI k) z [] = some [] := fun z hz => by
    have a1 : inV (.str z) [.str "soft", .str "hard"] = true := by rcases hz with rfl | rfl <;> decide +kernel
    unfold inlR
    rw [a1, if_pos rfl]
    rfl
  have i3 : ∀ z : Str, (z = "emph" ∨ z = "strong") → ∀ r : List Inl, r.isEmpty = false → inlR (soI k) z [.tuple (rowD r)] = some [(soI k, .tuple (rowD r))] := fun z hz r h => by
    have a1 : inV (.str z) [.str "soft", .str "hard"] = false := by rcases hz with rfl | rfl <;> decide +kernel
    have a2 : inV (.str z) [.str "text", .str "code", .str "html"] = false := by rcases hz with rfl | rfl <;> decide +kernel
    have a3 : inV (.str z) [.str "emph", .str "strong"] = true := by rcases hz with rfl | rfl <;> decide +kernel
    unfold inlR
    rw [a1, if_neg Bool.false_ne_true, a2, if_neg Bool.false_ne_true, a3, if_pos rfl]
    show (if isFil (.tuple (rowD r)) = true then _ else _) = _
    rw [fil_g, h]
    rfl
  have i4 : ∀ z : Str, (z = "link" ∨ z = "image") → ∀ d t (r : List Inl), (gTxt d && gOpt t) = true → (z = "link" → k = false) → inlR (soI k) z [.str (S d), optD t, .tuple (rowD r)] = some [(if z = "link" then So.K else So.I, .tuple (rowD r))] := fun z hz d t r h hk => by
    have a1 : inV (.str z) [.str "soft", .str "hard"] = false := by rcases hz with rfl | rfl <;> decide +kernel
    have a2 : inV (.str z) [.str "text", .str "code", .str "html"] = false := by rcases hz with rfl | rfl <;> decide +kernel
    have a3 : inV (.str z) [.str "emph", .str "strong"] = false := by rcases hz with rfl | rfl <;> decide +kernel
    have a4 : inV (.str z) [.str "link", .str "image"] = true := by rcases hz with rfl | rfl <;> decide +kernel
    unfold inlR
    rw [a1, if_neg Bool.false_ne_true, a2, if_neg Bool.false_ne_true, a3, if_neg Bool.false_ne_true, a4, if_pos rfl]
    have f : fitTgt (.str (S d)) (optD t) = true := by
      unfold fitTgt
      rw [opt_g]
      show (txt (S d) && _) = true
      rw [txt_g]
      exact h
    show (if (!fitTgt (.str (S d)) (optD t) || (decide (z = "link") && isK (soI k))) = true then none else if z = "link" then some [(So.K, _)] else some [(So.I, _)]) = _
    rw [f]
    rcases hz with rfl | rfl
    · rw [hk rfl]
      rw [if_neg (by rw [show isK (soI false) = false from rfl, Bool.and_false]; exact Bool.false_ne_true), if_pos rfl, if_pos rfl]
    · rw [if_neg (by rw [decide_eq_false (by decide +kernel)]; exact Bool.false_ne_true), if_neg (by decide +kernel), if_neg (by decide +kernel)]
  intro x h
  cases x with
  | text t => show oneR (soI k) (.tuple (.str "text" :: [_])) = _; rw [oneI_of, i1 _ (.inl rfl) t h]; rfl
  | code t => show oneR (soI k) (.tuple (.str "code" :: [_])) = _; rw [oneI_of, i1 _ (.inr (.inl rfl)) t h]; rfl
  | html t => show oneR (soI k) (.tuple (.str "html" :: [_])) = _; rw [oneI_of, i1 _ (.inr (.inr rfl)) t h]; rfl
  | soft => show oneR (soI k) (.tuple (.str "soft" :: [])) = _; rw [oneI_of, i2 _ (.inl rfl)]; rfl
  | hard => show oneR (soI k) (.tuple (.str "hard" :: [])) = _; rw [oneI_of, i2 _ (.inr rfl)]; rfl
  | emph r =>
    have h' : (!r.isEmpty && gR k false r) = true := h
    rw [Bool.and_eq_true] at h'
    show oneR (soI k) (.tuple (.str "emph" :: [_])) = _
    rw [oneI_of, i3 _ (.inl rfl) r (by simpa using h'.1)]
    rfl
  | strong r =>
    have h' : (!r.isEmpty && gR k false r) = true := h
    rw [Bool.and_eq_true] at h'
    show oneR (soI k) (.tuple (.str "strong" :: [_])) = _
    rw [oneI_of, i3 _ (.inr rfl) r (by simpa using h'.1)]
    rfl
  | link d t r =>
    have h' : (!k && gTxt d && gOpt t && gR true false r) = true := h
    simp only [Bool.and_eq_true] at h'
    show oneR (soI k) (.tuple (.str "link" :: [_, _, _])) = _
    rw [oneI_of, i4 _ (.inl rfl) d t r (by rw [h'.1.1.2, h'.1.2]; rfl) (fun _ => by simpa using h'.1.1.1), if_pos rfl]
    rfl
  | image d t r =>
    have h' : (gTxt d && gOpt t && gR false false r) = true := h
    simp only [Bool.and_eq_true] at h'
    show oneR (soI k) (.tuple (.str "image" :: [_, _, _])) = _
    rw [oneI_of, i4 _ (.inr rfl) d t r (by rw [h'.1.1, h'.1.2]; rfl) (fun e => absurd e (by decide +kernel)), if_neg (by decide +kernel)]
    rfl
theorem row_I (k : Bool) : ∀ (r : List Inl) (p : Bool), gR k p r = true → rowR (soI k) p (rowD r) = some (r.flatMap (subI k))
  | [], _, _ => rfl
  | x :: r, p, h => by
    have h' : (gI k x && !(p && isT x) && gR k (isT x) r) = true := h
    simp only [Bool.and_eq_true] at h'
    show rowR (soI k) p (x.toD :: rowD r) = _
    have e1 : ∀ (ds : List PyData), rowR (soI k) p (x.toD :: ds) = if (p && decide (nameI x = "text")) = true then none else (rowR (soI k) (decide (nameI x = "text")) ds).map fun g => subI k x ++ g := fun ds => by
      show (match oneR (soI k) x.toD with | none => none | some (z, f) => _) = _
      rw [one_I k x h'.1.1]
    rw [e1, name_text, row_I k r _ h'.2]
    have h2 : (p && isT x) = false := (Bool.not_eq_true' _).mp h'.1.2
    rw [h2, if_neg Bool.false_ne_true]
    rfl
mutual
theorem tree_sub (k : Bool) : ∀ (x : Inl) (n : Nat), gI k x = true → hI x ≤ n → treeR n (subI k x) = true
  | .text _, n, _, _ => treeR_nil n
  | .code _, n, _, _ => treeR_nil n
  | .html _, n, _, _ => treeR_nil n
  | .soft, n, _, _ => treeR_nil n
  | .hard, n, _, _ => treeR_nil n
  | .emph r, n, h, hn => by
    have h' : (!r.isEmpty && gR k false r) = true := h
    rw [Bool.and_eq_true] at h'
    have hn' : 1 + hR r ≤ n := hn
    obtain ⟨m, rfl⟩ : ∃ m, n = m + 1 := ⟨n - 1, by omega⟩
    show treeR (m + 1) [(soI k, .tuple (rowD r))] = true
    rw [treeR_row (row_I k r false h'.2)]
    exact tree_row k r false m h'.2 (by omega)
  | .strong r, n, h, hn => by
    have h' : (!r.isEmpty && gR k false r) = true := h
    rw [Bool.and_eq_true] at h'
    have hn' : 1 + hR r ≤ n := hn
    obtain ⟨m, rfl⟩ : ∃ m, n = m + 1 := ⟨n - 1, by omega⟩
    show treeR (m + 1) [(soI k, .tuple (rowD r))] = true
    rw [treeR_row (row_I k r false h'.2)]
    exact tree_row k r false m h'.2 (by omega)
  | .link d t r, n, h, hn => by
    have h' : (!k && gTxt d && gOpt t && gR true false r) = true := h
    simp only [Bool.and_eq_true] at h'
    have hn' : 1 + hR r ≤ n := hn
    obtain ⟨m, rfl⟩ : ∃ m, n = m + 1 := ⟨n - 1, by omega⟩
    show treeR (m + 1) [(soI true, .tuple (rowD r))] = true
    rw [treeR_row (row_I true r false h'.2)]
    exact tree_row true r false m h'.2 (by omega)
  | .image d t r, n, h, hn => by
    have h' : (gTxt d && gOpt t && gR false false r) = true := h
    simp only [Bool.and_eq_true] at h'
    have hn' : 1 + hR r ≤ n := hn
    obtain ⟨m, rfl⟩ : ∃ m, n = m + 1 := ⟨n - 1, by omega⟩
    show treeR (m + 1) [(soI false, .tuple (rowD r))] = true
    rw [treeR_row (row_I false r false h'.2)]
    exact tree_row false r false m h'.2 (by omega)
theorem tree_row (k : Bool) : ∀ (r : List Inl) (p : Bool) (n : Nat), gR k p r = true → hR r ≤ n → treeR n (r.flatMap (subI k)) = true
  | [], _, n, _, _ => treeR_nil n
  | x :: r, p, n, h, hn => by
    have h' : (gI k x && !(p && isT x) && gR k (isT x) r) = true := h
    simp only [Bool.and_eq_true] at h'
    have hn' : max (hI x) (hR r) ≤ n := hn
    rw [List.flatMap_cons, treeR_app, tree_sub k x n h'.1.1 (by omega), tree_row k r (isT x) n h'.2 (by omega)]
    rfl
end
/-! blocks -/
mutual
def gB : Blk → Bool
  | .quote bs => gBs bs
  | .list g st _ its => fitStart g (optI st) && !its.isEmpty && gIts its
  | .heading l r => decide (1 ≤ l) && decide (l ≤ 6) && gR false false r
  | .brk => true
  | .code t i => match i with
    | none => isLns (.str (S t))
    | some i => gTxt i && (isLns (.str (S t)) || t.isEmpty)
  | .html t => isLns (.str (S t))
  | .defn l d t => gTxt l && lab (S l) && gTxt d && gOpt t
  | .par r => !r.isEmpty && gR false false r
def gBs : List Blk → Bool
  | [] => true
  | b :: bs => gB b && gBs bs
def gIts : List (List Blk) → Bool
  | [] => true
  | bs :: its => gBs bs && gIts its
end
mutual
def hB : Blk → Nat
  | .quote bs => 1 + hBs bs
  | .list _ _ _ its => hIts its
  | .heading _ r => 1 + hR r
  | .par r => 1 + hR r
  | _ => 0
def hBs : List Blk → Nat
  | [] => 0
  | b :: bs => max (hB b) (hBs bs)
def hIts : List (List Blk) → Nat
  | [] => 0
  | bs :: its => max (1 + hBs bs) (hIts its)
end
theorem itsD_map : ∀ its : List (List Blk), itsD its = its.map fun bs => .tuple (blksD bs)
  | [] => rfl
  | bs :: its => by
    show PyData.tuple (blksD bs) :: itsD its = _
    rw [itsD_map its]
    rfl
def subB : Blk → List (So × PyData)
  | .quote bs => [(.B, .tuple (blksD bs))]
  | .list _ _ _ its => (itsD its).map fun i => (.B, i)
  | .heading _ r => [(.I, .tuple (rowD r))]
  | .par r => [(.I, .tuple (rowD r))]
  | _ => []
def nameB : Blk → Str
  | .quote _ => "quote"
  | .list _ _ _ _ => "list"
  | .heading _ _ => "heading"
  | .brk => "break"
  | .code _ _ => "code"
  | .html _ => "html"
  | .defn _ _ _ => "definition"
  | .par _ => "paragraph"
theorem nameB_text (b : Blk) : decide (nameB b = ("text" : Str)) = false := by
  cases b with
  | quote _ => exact (by decide +kernel : decide (("quote" : Str) = "text") = false)
  | list _ _ _ _ => exact (by decide +kernel : decide (("list" : Str) = "text") = false)
  | heading _ _ => exact (by decide +kernel : decide (("heading" : Str) = "text") = false)
  | brk => exact (by decide +kernel : decide (("break" : Str) = "text") = false)
  | code _ _ => exact (by decide +kernel : decide (("code" : Str) = "text") = false)
  | html _ => exact (by decide +kernel : decide (("html" : Str) = "text") = false)
  | defn _ _ _ => exact (by decide +kernel : decide (("definition" : Str) = "text") = false)
  | par _ => exact (by decide +kernel : decide (("paragraph" : Str) = "text") = false)
theorem bl_quote (x : PyData) : blkR "quote" [x] = some [(.B, x)] := by unfold blkR; rw [if_pos rfl]
theorem bl_list (g : Str) (st ti : PyData) (its : List PyData) : blkR "list" [.str g, st, ti, .tuple its] = if (fitStart g st && isBool ti && !its.isEmpty) = true then some (its.map fun i => (.B, i)) else none := by
  unfold blkR
  rw [if_neg (by decide +kernel), if_pos rfl]
theorem bl_head (l r : PyData) : blkR "heading" [l, r] = if intTo 1 6 l = true then some [(.I, r)] else none := by
  unfold blkR
  rw [if_neg (by decide +kernel), if_neg (by decide +kernel), if_pos rfl]
theorem bl_brk : blkR "break" [] = some [] := by
  unfold blkR
  rw [if_neg (by decide +kernel), if_neg (by decide +kernel), if_neg (by decide +kernel), if_pos rfl]
  rfl
theorem bl_code (t i : PyData) : blkR "code" [t, i] = ok (if isNon i = true then isLns t else isTxt i && (isLns t || isEmp t)) := by
  unfold blkR
  rw [if_neg (by decide +kernel), if_neg (by decide +kernel), if_neg (by decide +kernel), if_neg (by decide +kernel), if_pos rfl]
theorem bl_html (t : PyData) : blkR "html" [t] = ok (isLns t) := by
  unfold blkR
  rw [if_neg (by decide +kernel), if_neg (by decide +kernel), if_neg (by decide +kernel), if_neg (by decide +kernel), if_neg (by decide +kernel), if_pos rfl]
theorem bl_def (l d t : PyData) : blkR "definition" [l, d, t] = ok (isTxt l && isLab l && fitTgt d t) := by
  unfold blkR
  rw [if_neg (by decide +kernel), if_neg (by decide +kernel), if_neg (by decide +kernel), if_neg (by decide +kernel), if_neg (by decide +kernel), if_neg (by decide +kernel), if_pos rfl]
theorem bl_par (r : PyData) : blkR "paragraph" [r] = if isFil r = true then some [(.I, r)] else none := by
  unfold blkR
  rw [if_neg (by decide +kernel), if_neg (by decide +kernel), if_neg (by decide +kernel), if_neg (by decide +kernel), if_neg (by decide +kernel), if_neg (by decide +kernel), if_neg (by decide +kernel), if_pos rfl]
theorem oneB_of (z : Str) (rest : List PyData) : oneR .B (.tuple (.str z :: rest)) = (blkR z rest).map fun r => (z, r) := rfl
theorem one_B : ∀ b : Blk, gB b = true → oneR .B b.toD = some (nameB b, subB b)
  | .quote bs, _ => by
    show oneR .B (.tuple (.str "quote" :: [_])) = _
    rw [oneB_of, bl_quote]
    rfl
  | .list g st t its, h => by
    have h' : (fitStart g (optI st) && !its.isEmpty && gIts its) = true := h
    simp only [Bool.and_eq_true] at h'
    show oneR .B (.tuple (.str "list" :: [_, _, _, _])) = _
    rw [oneB_of, bl_list]
    have e : (fitStart g (optI st) && isBool (.bool t) && !(itsD its).isEmpty) = true := by
      rw [h'.1.1]
      have : (itsD its).isEmpty = its.isEmpty := by cases its <;> rfl
      rw [this, h'.1.2]
      rfl
    rw [e]
    rfl
  | .heading l r, h => by
    have h' : (decide (1 ≤ l) && decide (l ≤ 6) && gR false false r) = true := h
    simp only [Bool.and_eq_true, decide_eq_true_eq] at h'
    show oneR .B (.tuple (.str "heading" :: [_, _])) = _
    rw [oneB_of, bl_head]
    have e : intTo 1 6 (.int (l : Int)) = true := by
      show (decide ((1 : Int) ≤ (l : Int)) && decide ((l : Int) ≤ 6)) = true
      rw [decide_eq_true (by omega), decide_eq_true (by omega)]
      rfl
    rw [e]
    rfl
  | .brk, _ => by
    show oneR .B (.tuple (.str "break" :: [])) = _
    rw [oneB_of, bl_brk]
    rfl
  | .code t i, h => by
    show oneR .B (.tuple (.str "code" :: [_, _])) = _
    rw [oneB_of, bl_code]
    cases i with
    | none =>
      have h' : isLns (.str (S t)) = true := h
      rw [show (if isNon (optD none) = true then isLns (.str (S t)) else isTxt (optD none) && (isLns (.str (S t)) || isEmp (.str (S t)))) = isLns (.str (S t)) from rfl, ok_true h']
      rfl
    | some i =>
      have h' : (gTxt i && (isLns (.str (S t)) || t.isEmpty)) = true := h
      have e : (if isNon (optD (some i)) = true then isLns (.str (S t)) else isTxt (optD (some i)) && (isLns (.str (S t)) || isEmp (.str (S t)))) = true := by
        show (txt (S i) && (isLns (.str (S t)) || isEmp (.str (S t)))) = true
        rw [txt_g, emp_g]
        exact h'
      rw [ok_true e]
      rfl
  | .html t, h => by
    have h' : isLns (.str (S t)) = true := h
    show oneR .B (.tuple (.str "html" :: [_])) = _
    rw [oneB_of, bl_html, ok_true h']
    rfl
  | .defn l d t, h => by
    have h' : (gTxt l && lab (S l) && gTxt d && gOpt t) = true := h
    simp only [Bool.and_eq_true] at h'
    show oneR .B (.tuple (.str "definition" :: [_, _, _])) = _
    rw [oneB_of, bl_def]
    have e : (isTxt (.str (S l)) && isLab (.str (S l)) && fitTgt (.str (S d)) (optD t)) = true := by
      show (txt (S l) && lab (S l) && (txt (S d) && (isNon (optD t) || isTxt (optD t)))) = true
      rw [txt_g, txt_g, opt_g, h'.1.1.1, h'.1.1.2, h'.1.2, h'.2]
      rfl
    rw [ok_true e]
    rfl
  | .par r, h => by
    have h' : (!r.isEmpty && gR false false r) = true := h
    simp only [Bool.and_eq_true] at h'
    show oneR .B (.tuple (.str "paragraph" :: [_])) = _
    rw [oneB_of, bl_par, fil_g, h'.1]
    rfl
theorem row_B : ∀ (bs : List Blk) (p : Bool), gBs bs = true → rowR .B p (blksD bs) = some (bs.flatMap subB)
  | [], _, _ => rfl
  | b :: bs, p, h => by
    have h' : (gB b && gBs bs) = true := h
    rw [Bool.and_eq_true] at h'
    show rowR .B p (b.toD :: blksD bs) = _
    have e1 : ∀ (ds : List PyData), rowR .B p (b.toD :: ds) = if (p && decide (nameB b = "text")) = true then none else (rowR .B (decide (nameB b = "text")) ds).map fun g => subB b ++ g := fun ds => by
      show (match oneR .B b.toD with | none => none | some (z, f) => _) = _
      rw [one_B b h'.1]
    rw [e1, nameB_text, row_B bs _ h'.2, Bool.and_false, if_neg Bool.false_ne_true]
    rfl
mutual
theorem tree_subB : ∀ (b : Blk) (n : Nat), gB b = true → hB b ≤ n → treeR n (subB b) = true
  | .brk, n, _, _ => treeR_nil n
  | .code _ _, n, _, _ => treeR_nil n
  | .html _, n, _, _ => treeR_nil n
  | .defn _ _ _, n, _, _ => treeR_nil n
  | .quote bs, n, h, hn => by
    have h' : gBs bs = true := h
    have hn' : 1 + hBs bs ≤ n := hn
    obtain ⟨m, rfl⟩ : ∃ m, n = m + 1 := ⟨n - 1, by omega⟩
    show treeR (m + 1) [(.B, .tuple (blksD bs))] = true
    rw [treeR_row (row_B bs false h')]
    exact tree_rowB bs m h' (by omega)
  | .list g st t its, n, h, hn => by
    have h' : (fitStart g (optI st) && !its.isEmpty && gIts its) = true := h
    simp only [Bool.and_eq_true] at h'
    exact tree_its its n h'.2 hn
  | .heading l r, n, h, hn => by
    have h' : (decide (1 ≤ l) && decide (l ≤ 6) && gR false false r) = true := h
    simp only [Bool.and_eq_true] at h'
    have hn' : 1 + hR r ≤ n := hn
    obtain ⟨m, rfl⟩ : ∃ m, n = m + 1 := ⟨n - 1, by omega⟩
    show treeR (m + 1) [(soI false, .tuple (rowD r))] = true
    rw [treeR_row (row_I false r false h'.2)]
    exact tree_row false r false m h'.2 (by omega)
  | .par r, n, h, hn => by
    have h' : (!r.isEmpty && gR false false r) = true := h
    simp only [Bool.and_eq_true] at h'
    have hn' : 1 + hR r ≤ n := hn
    obtain ⟨m, rfl⟩ : ∃ m, n = m + 1 := ⟨n - 1, by omega⟩
    show treeR (m + 1) [(soI false, .tuple (rowD r))] = true
    rw [treeR_row (row_I false r false h'.2)]
    exact tree_row false r false m h'.2 (by omega)
theorem tree_rowB : ∀ (bs : List Blk) (n : Nat), gBs bs = true → hBs bs ≤ n → treeR n (bs.flatMap subB) = true
  | [], n, _, _ => treeR_nil n
  | b :: bs, n, h, hn => by
    have h' : (gB b && gBs bs) = true := h
    rw [Bool.and_eq_true] at h'
    have hn' : max (hB b) (hBs bs) ≤ n := hn
    rw [List.flatMap_cons, treeR_app, tree_subB b n h'.1 (by omega), tree_rowB bs n h'.2 (by omega)]
    rfl
theorem tree_its : ∀ (its : List (List Blk)) (n : Nat), gIts its = true → hIts its ≤ n → treeR n ((itsD its).map fun i => (.B, i)) = true
  | [], n, _, _ => treeR_nil n
  | bs :: its, n, h, hn => by
    have h' : (gBs bs && gIts its) = true := h
    rw [Bool.and_eq_true] at h'
    have hn' : max (1 + hBs bs) (hIts its) ≤ n := hn
    obtain ⟨m, hm⟩ : ∃ m, n = m + 1 := ⟨n - 1, by omega⟩
    show treeR n ((.B, .tuple (blksD bs)) :: (itsD its).map fun i => (.B, i)) = true
    have e : ∀ (p : So × PyData) r, treeR n (p :: r) = (treeR n [p] && treeR n r) := fun p r => treeR_app n [p] r
    rw [e, tree_its its n h'.2 (by omega), hm, treeR_row (row_B bs false h'.1), tree_rowB bs m h'.1 (by omega)]
    rfl
end
theorem is_doc {bs : List Blk} (h : gBs bs = true) (hh : hBs bs ≤ 99) : isTree (.tuple (blksD bs)) = true := by
  show treeR (99 + 1) [(.B, .tuple (blksD bs))] = true
  rw [treeR_row (row_B bs false h)]
  exact tree_rowB bs 99 h hh
/-! what is spoilt -/
def badB (d : PyData) : Bool := match oneR .B d with
  | none => true
  | some (_, f) => !treeR 100 f
theorem bad_row {n : Nat} (hn : n ≤ 100) {w : PyData} (hw : badB w = true) : ∀ (ds es : List PyData) (p : Bool) {f : List (So × PyData)}, rowR .B p (ds ++ w :: es) = some f → treeR n f = false
  | [], es, p, f, h => by
    have h' : rowR .B p (w :: es) = some f := h
    rw [show rowR .B p (w :: es) = match oneR .B w with | none => none | some (z, g) => if (p && decide (z = "text")) = true then none else (rowR .B (decide (z = "text")) es).map fun k => g ++ k from rfl] at h'
    unfold badB at hw
    cases e : oneR .B w with
    | none => rw [e] at h'; cases h'
    | some zg =>
      obtain ⟨z, g⟩ := zg
      rw [e] at h' hw
      have hw' : treeR 100 g = false := by simpa using hw
      have h'' : (if (p && decide (z = "text")) = true then none else (rowR .B (decide (z = "text")) es).map fun k => g ++ k) = some f := h'
      split at h''
      · cases h''
      · cases e2 : rowR .B (decide (z = "text")) es with
        | none => rw [e2] at h''; cases h''
        | some k =>
          rw [e2] at h''
          cases h''
          rw [treeR_app]
          have : treeR n g = false := by
            cases q : treeR n g with
            | false => rfl
            | true => rw [treeR_le q hn] at hw'; cases hw'
          rw [this]
          rfl
  | d :: ds, es, p, f, h => by
    have h' : rowR .B p (d :: (ds ++ w :: es)) = some f := h
    rw [show rowR .B p (d :: (ds ++ w :: es)) = match oneR .B d with | none => none | some (z, g) => if (p && decide (z = "text")) = true then none else (rowR .B (decide (z = "text")) (ds ++ w :: es)).map fun k => g ++ k from rfl] at h'
    cases e : oneR .B d with
    | none => rw [e] at h'; cases h'
    | some zg =>
      obtain ⟨z, g⟩ := zg
      rw [e] at h'
      have h'' : (if (p && decide (z = "text")) = true then none else (rowR .B (decide (z = "text")) (ds ++ w :: es)).map fun k => g ++ k) = some f := h'
      split at h''
      · cases h''
      · cases e2 : rowR .B (decide (z = "text")) (ds ++ w :: es) with
        | none => rw [e2] at h''; cases h''
        | some k =>
          rw [e2] at h''
          cases h''
          rw [treeR_app, bad_row hn hw ds es _ e2, Bool.and_false]
theorem bad_tree {n : Nat} (hn : n ≤ 100) {w : PyData} (hw : badB w = true) (ds es : List PyData) : treeR (n + 1) [(.B, .tuple (ds ++ w :: es))] = false := by
  rw [treeR_one]
  show (match rowR .B false (ds ++ w :: es) with | none => false | some f => treeR n f) = false
  cases e : rowR .B false (ds ++ w :: es) with
  | none => rfl
  | some f => exact bad_row hn hw ds es _ e
end BM

namespace PG
open PySem PySem.Spec PyProof.Rows L2 My RM PM DM IM TR BM
/-- a sign as it stands in a page -/
def escC (c : Nat) : List Nat := if c = 38 then [38, 97, 109, 112, 59] else if c = 60 then [38, 108, 116, 59] else if c = 62 then [38, 103, 116, 59] else if c = 34 then [38, 113, 117, 111, 116, 59] else [c]
def escL (l : List Nat) : List Nat := l.flatMap escC
theorem escL_app (a b : List Nat) : escL (a ++ b) = escL a ++ escL b := List.flatMap_append
theorem escC_len (c : Nat) : (escC c).length ≤ 6 := by
  unfold escC
  repeat' split
  all_goals simp
theorem escL_len : ∀ l : List Nat, (escL l).length ≤ 6 * l.length
  | [] => Nat.zero_le _
  | c :: r => by
    show (escC c ++ escL r).length ≤ 6 * (r.length + 1)
    rw [List.length_append]
    have := escC_len c
    have := escL_len r
    omega
open PySem.StrLaws in
/-- one sign is exchanged -/
theorem repl_one (y : Nat) (z : List Nat) : ∀ l : List Nat, replL [y] z l = l.flatMap fun c => if c = y then z else [c]
  | [] => replL_nil
  | c :: r => by
    rw [List.flatMap_cons]
    by_cases h : c = y
    · subst h
      rw [replL_hit (by simp) (by simp), if_pos rfl, ← repl_one c z r]
      rfl
    · rw [replL_miss (by simpa using h), if_neg h, repl_one y z r]
      rfl
theorem flat_flat (f g : Nat → List Nat) (l : List Nat) : (l.flatMap f).flatMap g = l.flatMap fun c => (f c).flatMap g := List.flatMap_assoc
theorem esc_chain (l : List Nat) : (((l.flatMap fun c => if c = 38 then [38, 97, 109, 112, 59] else [c]).flatMap fun c => if c = 60 then [38, 108, 116, 59] else [c]).flatMap fun c => if c = 62 then [38, 103, 116, 59] else [c]).flatMap (fun c => if c = 34 then [38, 113, 117, 111, 116, 59] else [c]) = escL l := by
  rw [flat_flat, flat_flat, flat_flat]
  unfold escL
  refine congrArg (fun f => List.flatMap f l) (funext fun c => ?_)
  unfold escC
  by_cases h1 : c = 38
  · subst h1
    rfl
  · rw [if_neg h1, if_neg h1]
    by_cases h2 : c = 60
    · subst h2
      rfl
    · rw [if_neg h2]
      by_cases h3 : c = 62
      · subst h3
        rfl
      · rw [if_neg h3]
        by_cases h4 : c = 34
        · subst h4
          rfl
        · rw [if_neg h4]
          simp [h2, h3, h4]
theorem repl_S (l y z : List Nat) (hy : 1 ≤ y.length) : Txt.replace (S l) (S y) (S z) = S (PySem.StrLaws.replL y z l) := by
  rw [S_of (Txt.replace (S l) (S y) (S z))]
  have := PySem.StrLaws.replace_list (x := S l) (y := S y) (z := S z) (by rw [S_len]; exact hy)
  rw [S_tl, S_tl, S_tl] at this
  rw [this]
end PG

/-! ### pages -/
namespace PG
open PySem PySem.Spec PyProof.Rows L2 My RM PM DM IM TR BM
def cs (s : String) : List Nat := s.toList.map Char.toNat
theorem lit (s : String) : Str.ofString s = S (cs s) := Str.ofString_eq_toList s
def decN (n : Nat) : List Nat := cs (toString (n : Int))
def attrP (name : String) (t : List Nat) : List Nat := cs " " ++ cs name ++ cs "=\"" ++ escL t ++ cs "\""
def titleP : Option (List Nat) → List Nat
  | none => []
  | some t => if t = [] then [] else attrP "title" t
mutual
def ip : Inl → List Nat
  | .text t => escL t
  | .code t => cs "<code>" ++ escL t ++ cs "</code>"
  | .html t => t
  | .soft => cs "\n"
  | .hard => cs "<br />\n"
  | .emph r => cs "<em>" ++ rp r ++ cs "</em>"
  | .strong r => cs "<strong>" ++ rp r ++ cs "</strong>"
  | .link d t r => cs "<a" ++ attrP "href" d ++ titleP t ++ cs ">" ++ rp r ++ cs "</a>"
  | .image d t r => cs "<img" ++ attrP "src" d ++ attrP "alt" (rowW r) ++ titleP t ++ cs " />"
def rp : List Inl → List Nat
  | [] => []
  | x :: r => ip x ++ rp r
end
theorem rp_app : ∀ a b : List Inl, rp (a ++ b) = rp a ++ rp b
  | [], b => rfl
  | x :: a, b => by
    show ip x ++ rp (a ++ b) = ip x ++ rp a ++ rp b
    rw [rp_app a b, List.append_assoc]
def whiB (c : Nat) : Bool := c == 32 || c == 9 || c == 10
def firstW (l : List Nat) : List Nat := l.takeWhile fun c => !whiB c
def langP : Option (List Nat) → List Nat
  | none => []
  | some i => if firstW i = [] then [] else attrP "class" (cs "language-" ++ firstW i)
def isDefn : Blk → Bool
  | .defn _ _ _ => true
  | _ => false
def isPar : Blk → Bool
  | .par _ => true
  | _ => false
def bareP : Blk → List Nat
  | .par r => rp r
  | _ => []
def openP : Option Nat → List Nat
  | none => cs "<ul>\n"
  | some n => if n = 1 then cs "<ol>\n" else cs "<ol" ++ attrP "start" (decN n) ++ cs ">\n"
def closeP : Option Nat → List Nat
  | none => cs "</ul>\n"
  | some _ => cs "</ol>\n"
def nlP (acc : List Nat) (b : Bool) : List Nat := if acc.getLast? = some 10 ∨ b = true then [] else [10]
mutual
def bp : Blk → List Nat
  | .quote bs => cs "<blockquote>\n" ++ bsP bs ++ cs "</blockquote>\n"
  | .list _ st t its => openP st ++ itsP t its ++ closeP st
  | .heading l r => cs "<h" ++ decN l ++ cs ">" ++ rp r ++ cs "</h" ++ decN l ++ cs ">\n"
  | .brk => cs "<hr />\n"
  | .code t i => cs "<pre><code" ++ langP i ++ cs ">" ++ escL t ++ cs "</code></pre>\n"
  | .html t => t
  | .defn _ _ _ => []
  | .par r => cs "<p>" ++ rp r ++ cs "</p>\n"
def bsP : List Blk → List Nat
  | [] => []
  | b :: bs => bp b ++ bsP bs
def itsP (t : Bool) : List (List Blk) → List Nat
  | [] => []
  | bs :: its => itemP t (cs "<li>") true bs ++ cs "</li>\n" ++ itsP t its
def itemP (t : Bool) (acc : List Nat) (first : Bool) : List Blk → List Nat
  | [] => acc
  | b :: bs => if isDefn b = true then itemP t acc first bs
    else itemP t (acc ++ nlP acc (t && isPar b && first) ++ (if (t && isPar b) = true then bareP b else bp b)) false bs
end
/-! parts -/
mutual
def pc : Inl → Nat
  | .emph r => 1 + pcR r
  | .strong r => 1 + pcR r
  | .link _ _ r => 1 + pcR r
  | .image _ _ r => 1 + pcR r
  | _ => 1
def pcR : List Inl → Nat
  | [] => 0
  | x :: r => pc x + pcR r
end
theorem pcR_app : ∀ a b : List Inl, pcR (a ++ b) = pcR a + pcR b
  | [], b => (Nat.zero_add _).symm
  | x :: a, b => by
    show pc x + pcR (a ++ b) = pc x + pcR a + pcR b
    rw [pcR_app a b, Nat.add_assoc]
mutual
def pB : Blk → Nat
  | .quote bs => 1 + pBs bs
  | .list _ _ _ its => 1 + pIts its
  | .heading _ r => 1 + pcR r
  | .par r => 1 + pcR r
  | _ => 1
def pBs : List Blk → Nat
  | [] => 0
  | b :: bs => pB b + pBs bs
def pIts : List (List Blk) → Nat
  | [] => 0
  | bs :: its => pBs bs + pIts its
end
def shortO (n : Nat) : Option (List Nat) → Bool
  | none => true
  | some t => decide (t.length ≤ n)
mutual
def sI : Inl → Bool
  | .text t => decide (t.length ≤ 20)
  | .code t => decide (t.length ≤ 20)
  | .html t => decide (t.length ≤ 20)
  | .soft => true
  | .hard => true
  | .emph r => sR r
  | .strong r => sR r
  | .link d t r => decide (d.length ≤ 200) && shortO 200 t && sR r
  | .image d t r => decide (d.length ≤ 200) && shortO 200 t && sR r
def sR : List Inl → Bool
  | [] => true
  | x :: r => sI x && sR r
end
def Infos7 : List (Option (List Nat)) := [none, some [], some (cs "x"), some (cs "x y"), some (cs " z"), some (cs "<\tq"), some (cs "a\nb")]
def tailsI : List (List Nat) := [cs " ", cs "\tq", cs "\n", cs " <r> s"]
def InfosL : List (Option (List Nat)) := Infos7 ++ ([[], cs "x", cs "<", cs "a"] : List (List Nat)).flatMap fun a => tailsI.map fun b => some (a ++ b)
def StartsL : List (Option Nat) := [none, some 0, some 1, some 2, some 7, some 999999999]
mutual
def sB : Blk → Bool
  | .quote bs => sBs bs
  | .list _ st _ its => decide (its.length ≤ 3) && StartsL.contains st && sIts its
  | .heading l r => decide (l < 7) && sR r
  | .brk => true
  | .code t i => decide (t.length ≤ 50) && InfosL.contains i
  | .html t => decide (t.length ≤ 50) && !t.isEmpty
  | .defn l d t => decide (l.length ≤ 50) && decide (d.length ≤ 200) && shortO 200 t
  | .par r => sR r
def sBs : List Blk → Bool
  | [] => true
  | b :: bs => sB b && sBs bs
def sIts : List (List Blk) → Bool
  | [] => true
  | bs :: its => sBs bs && sIts its
end
/-! how long a page is -/
theorem attr_len (name : String) (t : List Nat) : (attrP name t).length ≤ 4 + (cs name).length + 6 * t.length := by
  have h := escL_len t
  have e1 : (cs " ").length = 1 := by decide +kernel
  have e2 : (cs "=\"").length = 2 := by decide +kernel
  have e3 : (cs "\"").length = 1 := by decide +kernel
  unfold attrP
  simp only [List.length_append, e1, e2, e3]
  omega
theorem title_len {t : Option (List Nat)} (h : shortO 200 t = true) : (titleP t).length ≤ 1300 := by
  cases t with
  | none => exact Nat.zero_le _
  | some u =>
    have h' : u.length ≤ 200 := of_decide_eq_true h
    have := attr_len "title" u
    have e1 : (cs "title").length = 5 := by decide +kernel
    show (if u = [] then [] else attrP "title" u).length ≤ 1300
    split
    · exact Nat.zero_le _
    · omega
mutual
theorem words_len : ∀ x : Inl, sI x = true → x.words.length ≤ 20 * pc x
  | .text t, h => of_decide_eq_true h
  | .code t, h => of_decide_eq_true h
  | .html t, _ => Nat.zero_le _
  | .soft, _ => by decide
  | .hard, _ => by decide
  | .emph r, h => by
    have := rowW_len r h
    show (rowW r).length ≤ 20 * (1 + pcR r)
    omega
  | .strong r, h => by
    have := rowW_len r h
    show (rowW r).length ≤ 20 * (1 + pcR r)
    omega
  | .link d t r, h => by
    have h' : (decide (d.length ≤ 200) && shortO 200 t && sR r) = true := h
    rw [Bool.and_eq_true] at h'
    have := rowW_len r h'.2
    show (rowW r).length ≤ 20 * (1 + pcR r)
    omega
  | .image d t r, h => by
    have h' : (decide (d.length ≤ 200) && shortO 200 t && sR r) = true := h
    rw [Bool.and_eq_true] at h'
    have := rowW_len r h'.2
    show (rowW r).length ≤ 20 * (1 + pcR r)
    omega
theorem rowW_len : ∀ r : List Inl, sR r = true → (rowW r).length ≤ 20 * pcR r
  | [], _ => Nat.zero_le _
  | x :: r, h => by
    have h' : (sI x && sR r) = true := h
    rw [Bool.and_eq_true] at h'
    have h1 := words_len x h'.1
    have h2 := rowW_len r h'.2
    show (x.words ++ rowW r).length ≤ 20 * (pc x + pcR r)
    rw [List.length_append]
    omega
end
theorem cs_len : (cs "<code>").length = 6 ∧ (cs "</code>").length = 7 ∧ (cs "\n").length = 1 ∧ (cs "<br />\n").length = 7 ∧ (cs "<em>").length = 4 ∧ (cs "</em>").length = 5 ∧ (cs "<strong>").length = 8 ∧ (cs "</strong>").length = 9 ∧ (cs "<a").length = 2 ∧ (cs "href").length = 4 ∧ (cs ">").length = 1 ∧
    (cs "</a>").length = 4 ∧ (cs "<img").length = 4 ∧ (cs "src").length = 3 ∧ (cs "alt").length = 3 ∧ (cs " />").length = 3 := by decide +kernel
mutual
theorem ip_len : ∀ x : Inl, sI x = true → (ip x).length ≤ 3000 * pc x
  | .text t, h => by
    have h' : t.length ≤ 20 := of_decide_eq_true h
    have := escL_len t
    show (escL t).length ≤ 3000 * 1
    omega
  | .code t, h => by
    have h' : t.length ≤ 20 := of_decide_eq_true h
    have := escL_len t
    obtain ⟨c1, c2, _⟩ := cs_len
    show (cs "<code>" ++ escL t ++ cs "</code>").length ≤ 3000 * 1
    rw [List.length_append, List.length_append]
    omega
  | .html t, h => by
    have h' : t.length ≤ 20 := of_decide_eq_true h
    show t.length ≤ 3000 * 1
    omega
  | .soft, _ => by decide +kernel
  | .hard, _ => by decide +kernel
  | .emph r, h => by
    have := rp_len r h
    obtain ⟨_, _, _, _, c5, c6, _⟩ := cs_len
    show (cs "<em>" ++ rp r ++ cs "</em>").length ≤ 3000 * (1 + pcR r)
    rw [List.length_append, List.length_append]
    omega
  | .strong r, h => by
    have := rp_len r h
    obtain ⟨_, _, _, _, _, _, c7, c8, _⟩ := cs_len
    show (cs "<strong>" ++ rp r ++ cs "</strong>").length ≤ 3000 * (1 + pcR r)
    rw [List.length_append, List.length_append]
    omega
  | .link d t r, h => by
    have h' : (decide (d.length ≤ 200) && shortO 200 t && sR r) = true := h
    rw [Bool.and_eq_true, Bool.and_eq_true] at h'
    have h1 := rp_len r h'.2
    have h2 := title_len h'.1.2
    have h3 := attr_len "href" d
    have h4 : d.length ≤ 200 := of_decide_eq_true h'.1.1
    obtain ⟨_, _, _, _, _, _, _, _, c9, c10, c11, c12, _⟩ := cs_len
    show (cs "<a" ++ attrP "href" d ++ titleP t ++ cs ">" ++ rp r ++ cs "</a>").length ≤ 3000 * (1 + pcR r)
    simp only [List.length_append]
    omega
  | .image d t r, h => by
    have h' : (decide (d.length ≤ 200) && shortO 200 t && sR r) = true := h
    rw [Bool.and_eq_true, Bool.and_eq_true] at h'
    have h1 := rowW_len r h'.2
    have h2 := title_len h'.1.2
    have h3 := attr_len "src" d
    have h5 := attr_len "alt" (rowW r)
    have h4 : d.length ≤ 200 := of_decide_eq_true h'.1.1
    obtain ⟨_, _, _, _, _, _, _, _, _, _, _, _, c13, c14, c15, c16⟩ := cs_len
    show (cs "<img" ++ attrP "src" d ++ attrP "alt" (rowW r) ++ titleP t ++ cs " />").length ≤ 3000 * (1 + pcR r)
    simp only [List.length_append]
    omega
theorem rp_len : ∀ r : List Inl, sR r = true → (rp r).length ≤ 3000 * pcR r
  | [], _ => Nat.zero_le _
  | x :: r, h => by
    have h' : (sI x && sR r) = true := h
    rw [Bool.and_eq_true] at h'
    have h1 := ip_len x h'.1
    have h2 := rp_len r h'.2
    show (ip x ++ rp r).length ≤ 3000 * (pc x + pcR r)
    rw [List.length_append]
    omega
end
mutual
theorem rows_pc : ∀ x : Inl, x.rows + 1 ≤ 2 * pc x
  | .emph r => by have := rowN_pc r; show 1 + rowN r + 1 ≤ 2 * (1 + pcR r); omega
  | .strong r => by have := rowN_pc r; show 1 + rowN r + 1 ≤ 2 * (1 + pcR r); omega
  | .link _ _ r => by have := rowN_pc r; show 1 + rowN r + 1 ≤ 2 * (1 + pcR r); omega
  | .image _ _ r => by have := rowN_pc r; show 1 + rowN r + 1 ≤ 2 * (1 + pcR r); omega
  | .text _ => by show 0 + 1 ≤ 2 * 1; omega
  | .code _ => by show 0 + 1 ≤ 2 * 1; omega
  | .html _ => by show 0 + 1 ≤ 2 * 1; omega
  | .soft => by decide
  | .hard => by decide
theorem rowN_pc : ∀ r : List Inl, rowN r ≤ 2 * pcR r
  | [] => Nat.le_refl _
  | x :: r => by
    have h1 := rows_pc x
    have h2 := rowN_pc r
    show 1 + x.rows + rowN r ≤ 2 * (pc x + pcR r)
    omega
end
theorem start_len : ∀ st ∈ StartsL, (openP st).length + (closeP st).length ≤ 200 := by decide +kernel
theorem level_len : ∀ l < 7, (decN l).length ≤ 2 := by decide +kernel
theorem info_len : ∀ i ∈ InfosL, (langP i).length ≤ 100 := by decide +kernel
theorem cs_len2 : (cs "<blockquote>\n").length = 13 ∧ (cs "</blockquote>\n").length = 14 ∧ (cs "<h").length = 2 ∧ (cs "</h").length = 3 ∧ (cs ">\n").length = 2 ∧ (cs ">").length = 1 ∧ (cs "<pre><code").length = 10 ∧ (cs "</code></pre>\n").length = 14 ∧ (cs "<p>").length = 3 ∧ (cs "</p>\n").length = 5 ∧ (cs "<li>").length = 4 ∧ (cs "</li>\n").length = 6 := by decide +kernel
theorem bare_len (b : Blk) (h : sB b = true) : (bareP b).length ≤ (bp b).length := by
  cases b with
  | par r =>
    show (rp r).length ≤ (cs "<p>" ++ rp r ++ cs "</p>\n").length
    rw [List.length_append, List.length_append]
    omega
  | _ => exact Nat.zero_le _
theorem pB_pos (b : Blk) : 1 ≤ pB b := by cases b <;> (unfold pB; omega)
theorem nl_len (acc : List Nat) (b : Bool) : (nlP acc b).length ≤ 1 := by
  unfold nlP
  split
  · exact Nat.zero_le _
  · exact Nat.le_refl _
mutual
theorem bp_len : ∀ b : Blk, sB b = true → (bp b).length + 1 ≤ 3000 * pB b
  | .quote bs, h => by
    have := bsP_len bs h
    obtain ⟨c1, c2, _⟩ := cs_len2
    show (cs "<blockquote>\n" ++ bsP bs ++ cs "</blockquote>\n").length + 1 ≤ 3000 * (1 + pBs bs)
    rw [List.length_append, List.length_append]
    omega
  | .list g st t its, h => by
    have h' : (decide (its.length ≤ 3) && StartsL.contains st && sIts its) = true := h
    rw [Bool.and_eq_true, Bool.and_eq_true] at h'
    have h1 := itsP_len t its h'.2
    have h2 := start_len st (by simpa using h'.1.2)
    have h3 : its.length ≤ 3 := of_decide_eq_true h'.1.1
    show (openP st ++ itsP t its ++ closeP st).length + 1 ≤ 3000 * (1 + pIts its)
    rw [List.length_append, List.length_append]
    omega
  | .heading l r, h => by
    have h' : (decide (l < 7) && sR r) = true := h
    rw [Bool.and_eq_true] at h'
    have h1 := rp_len r h'.2
    have h2 := level_len l (of_decide_eq_true h'.1)
    obtain ⟨_, _, c3, c4, c5, c6, _⟩ := cs_len2
    show (cs "<h" ++ decN l ++ cs ">" ++ rp r ++ cs "</h" ++ decN l ++ cs ">\n").length + 1 ≤ 3000 * (1 + pcR r)
    simp only [List.length_append]
    omega
  | .brk, _ => by decide +kernel
  | .code t i, h => by
    have h' : (decide (t.length ≤ 50) && InfosL.contains i) = true := h
    rw [Bool.and_eq_true] at h'
    have h1 := info_len i (by simpa using h'.2)
    have h2 : t.length ≤ 50 := of_decide_eq_true h'.1
    have h3 := escL_len t
    obtain ⟨_, _, _, _, _, c6, c7, c8, _⟩ := cs_len2
    show (cs "<pre><code" ++ langP i ++ cs ">" ++ escL t ++ cs "</code></pre>\n").length + 1 ≤ 3000 * 1
    simp only [List.length_append]
    omega
  | .html t, h => by
    have h' : (decide (t.length ≤ 50) && !t.isEmpty) = true := h
    rw [Bool.and_eq_true] at h'
    have h2 : t.length ≤ 50 := of_decide_eq_true h'.1
    show t.length + 1 ≤ 3000 * 1
    omega
  | .defn _ _ _, _ => by show 0 + 1 ≤ 3000 * 1; omega
  | .par r, h => by
    have h1 := rp_len r h
    obtain ⟨_, _, _, _, _, _, _, _, c9, c10, _⟩ := cs_len2
    show (cs "<p>" ++ rp r ++ cs "</p>\n").length + 1 ≤ 3000 * (1 + pcR r)
    simp only [List.length_append]
    omega
theorem bsP_len : ∀ bs : List Blk, sBs bs = true → (bsP bs).length ≤ 3000 * pBs bs
  | [], _ => Nat.zero_le _
  | b :: bs, h => by
    have h' : (sB b && sBs bs) = true := h
    rw [Bool.and_eq_true] at h'
    have h1 := bp_len b h'.1
    have h2 := bsP_len bs h'.2
    show (bp b ++ bsP bs).length ≤ 3000 * (pB b + pBs bs)
    rw [List.length_append]
    omega
theorem itsP_len (t : Bool) : ∀ its : List (List Blk), sIts its = true → (itsP t its).length ≤ 10 * its.length + 3000 * pIts its
  | [], _ => Nat.zero_le _
  | bs :: its, h => by
    have h' : (sBs bs && sIts its) = true := h
    rw [Bool.and_eq_true] at h'
    have h1 := itemP_len t bs (cs "<li>") true h'.1
    have h2 := itsP_len t its h'.2
    obtain ⟨_, _, _, _, _, _, _, _, _, _, c11, c12⟩ := cs_len2
    show (itemP t (cs "<li>") true bs ++ cs "</li>\n" ++ itsP t its).length ≤ 10 * (its.length + 1) + 3000 * (pBs bs + pIts its)
    simp only [List.length_append]
    omega
theorem itemP_len (t : Bool) : ∀ (bs : List Blk) (acc : List Nat) (first : Bool), sBs bs = true → (itemP t acc first bs).length ≤ acc.length + 3000 * pBs bs
  | [], acc, first, _ => by show acc.length ≤ acc.length + 3000 * 0; omega
  | b :: bs, acc, first, h => by
    have h' : (sB b && sBs bs) = true := h
    rw [Bool.and_eq_true] at h'
    have h1 := bp_len b h'.1
    have h0 := bare_len b h'.1
    show (if isDefn b = true then itemP t acc first bs else itemP t (acc ++ nlP acc (t && isPar b && first) ++ (if (t && isPar b) = true then bareP b else bp b)) false bs).length ≤ acc.length + 3000 * (pB b + pBs bs)
    split
    · have := itemP_len t bs acc first h'.2
      omega
    · have h2 := itemP_len t bs (acc ++ nlP acc (t && isPar b && first) ++ (if (t && isPar b) = true then bareP b else bp b)) false h'.2
      have h3 := nl_len acc (t && isPar b && first)
      have h4 : (if (t && isPar b) = true then bareP b else bp b).length ≤ (bp b).length := by
        split
        · exact h0
        · exact Nat.le_refl _
      rw [List.length_append, List.length_append] at h2
      omega
end
/-! pages, row by row -/
theorem sR_mem : ∀ {r : List Inl} {x : Inl}, sR r = true → x ∈ r → sI x = true ∧ pc x ≤ pcR r
  | y :: r, x, h, hx => by
    have h' : (sI y && sR r) = true := h
    rw [Bool.and_eq_true] at h'
    show sI x = true ∧ pc x ≤ pc y + pcR r
    rcases List.mem_cons.mp hx with rfl | hx
    · exact ⟨h'.1, by omega⟩
    · have := sR_mem h'.2 hx
      exact ⟨this.1, by omega⟩
theorem sub_sR {x : Inl} {r : List Inl} (h : sI x = true) (hr : r ∈ x.sub) : sR r = true ∧ 1 + pcR r ≤ pc x := by
  cases x with
  | emph r1 => rw [List.mem_singleton.mp hr]; exact ⟨h, Nat.le_refl _⟩
  | strong r1 => rw [List.mem_singleton.mp hr]; exact ⟨h, Nat.le_refl _⟩
  | link d t r1 =>
    rw [List.mem_singleton.mp hr]
    have h' : (decide (d.length ≤ 200) && shortO 200 t && sR r1) = true := h
    rw [Bool.and_eq_true] at h'
    exact ⟨h'.2, Nat.le_refl _⟩
  | image d t r1 =>
    rw [List.mem_singleton.mp hr]
    have h' : (decide (d.length ≤ 200) && shortO 200 t && sR r1) = true := h
    rw [Bool.and_eq_true] at h'
    exact ⟨h'.2, Nat.le_refl _⟩
  | _ => cases hr
def pagesF : Fold where
  X := Inl
  toD := Inl.toD
  sub := Inl.sub
  N := fun r => 1 + rowN r
  hN := fun r => by rw [rowN_tot r]; omega
  Ok := fun r => sR r = true ∧ pcR r ≤ 900
  inh := fun row x r ho hx hr => by
    have h1 := sR_mem ho.1 hx
    have h2 := sub_sR h1.1 hr
    exact ⟨h2.1, by have := ho.2; omega⟩
  RR := fun _ v r => v = .str (S (rp r))
  mono := fun _ _ _ _ _ h => h
/-! blocks, row by row -/
def _root_.BM.Blk.sub : Blk → List (List Blk)
  | .quote bs => [bs]
  | .list _ _ _ its => its
  | _ => []
mutual
def nB : Blk → Nat
  | .quote bs => 1 + nBs bs
  | .list _ _ _ its => nIts its
  | _ => 0
def nBs : List Blk → Nat
  | [] => 0
  | b :: bs => 1 + nB b + nBs bs
def nIts : List (List Blk) → Nat
  | [] => 0
  | bs :: its => 1 + nBs bs + nIts its
end
theorem nIts_tot : ∀ its : List (List Blk), nIts its = tot (fun r => 1 + nBs r) its
  | [] => rfl
  | bs :: its => by
    show 1 + nBs bs + nIts its = 1 + nBs bs + tot (fun r => 1 + nBs r) its
    rw [nIts_tot its]
theorem nBs_tot : ∀ bs : List Blk, nBs bs = bs.length + tot (fun r => 1 + nBs r) (bs.flatMap Blk.sub)
  | [] => rfl
  | b :: bs => by
    have ih := nBs_tot bs
    rw [List.flatMap_cons, tot_app]
    have e : nB b = tot (fun r => 1 + nBs r) b.sub := by
      cases b with
      | list g st t its => exact nIts_tot its
      | _ => rfl
    show 1 + nB b + nBs bs = bs.length + 1 + _
    omega
mutual
theorem nB_le : ∀ b : Blk, sB b = true → nB b + 1 ≤ 5 * pB b
  | .quote bs, h => by have := nBs_le bs h; show 1 + nBs bs + 1 ≤ 5 * (1 + pBs bs); omega
  | .list g st t its, h => by
    have h' : (decide (its.length ≤ 3) && StartsL.contains st && sIts its) = true := h
    rw [Bool.and_eq_true, Bool.and_eq_true] at h'
    have h1 := nIts_le its h'.2
    have h2 : its.length ≤ 3 := of_decide_eq_true h'.1.1
    show nIts its + 1 ≤ 5 * (1 + pIts its)
    omega
  | .heading _ _, _ => by show 0 + 1 ≤ 5 * (1 + _); omega
  | .brk, _ => by decide
  | .code _ _, _ => by show 0 + 1 ≤ 5 * 1; omega
  | .html _, _ => by show 0 + 1 ≤ 5 * 1; omega
  | .defn _ _ _, _ => by show 0 + 1 ≤ 5 * 1; omega
  | .par _, _ => by show 0 + 1 ≤ 5 * (1 + _); omega
theorem nBs_le : ∀ bs : List Blk, sBs bs = true → nBs bs ≤ 5 * pBs bs
  | [], _ => Nat.le_refl _
  | b :: bs, h => by
    have h' : (sB b && sBs bs) = true := h
    rw [Bool.and_eq_true] at h'
    have h1 := nB_le b h'.1
    have h2 := nBs_le bs h'.2
    show 1 + nB b + nBs bs ≤ 5 * (pB b + pBs bs)
    omega
theorem nIts_le : ∀ its : List (List Blk), sIts its = true → nIts its ≤ its.length + 5 * pIts its
  | [], _ => Nat.le_refl _
  | bs :: its, h => by
    have h' : (sBs bs && sIts its) = true := h
    rw [Bool.and_eq_true] at h'
    have h1 := nBs_le bs h'.1
    have h2 := nIts_le its h'.2
    show 1 + nBs bs + nIts its ≤ its.length + 1 + 5 * (pBs bs + pIts its)
    omega
end
theorem sBs_mem : ∀ {bs : List Blk} {b : Blk}, sBs bs = true → b ∈ bs → sB b = true ∧ pB b ≤ pBs bs
  | c :: bs, b, h, hb => by
    have h' : (sB c && sBs bs) = true := h
    rw [Bool.and_eq_true] at h'
    show sB b = true ∧ pB b ≤ pB c + pBs bs
    rcases List.mem_cons.mp hb with rfl | hb
    · exact ⟨h'.1, by omega⟩
    · have := sBs_mem h'.2 hb
      exact ⟨this.1, by omega⟩
theorem sIts_mem : ∀ {its : List (List Blk)} {bs : List Blk}, sIts its = true → bs ∈ its → sBs bs = true ∧ pBs bs ≤ pIts its
  | cs :: its, bs, h, hb => by
    have h' : (sBs cs && sIts its) = true := h
    rw [Bool.and_eq_true] at h'
    show sBs bs = true ∧ pBs bs ≤ pBs cs + pIts its
    rcases List.mem_cons.mp hb with rfl | hb
    · exact ⟨h'.1, by omega⟩
    · have := sIts_mem h'.2 hb
      exact ⟨this.1, by omega⟩
theorem sub_sB {b : Blk} {r : List Blk} (h : sB b = true) (hr : r ∈ b.sub) : sBs r = true ∧ 1 + pBs r ≤ pB b := by
  cases b with
  | quote bs => rw [List.mem_singleton.mp hr]; exact ⟨h, Nat.le_refl _⟩
  | list g st t its =>
    have h' : (decide (its.length ≤ 3) && StartsL.contains st && sIts its) = true := h
    rw [Bool.and_eq_true] at h'
    have := sIts_mem h'.2 (show r ∈ its from hr)
    exact ⟨this.1, by show 1 + pBs r ≤ 1 + pIts its; omega⟩
  | _ => cases hr
def bareV : Blk → V
  | .par r => .str (S (rp r))
  | _ => .non
def PgIs (G : Hp) (w : V) (b : Blk) : Prop := ∃ q, w = .ref q ∧ G q = some (.tup [.str (S (bp b)), bareV b])
def blocksF : Fold where
  X := Blk
  toD := Blk.toD
  sub := Blk.sub
  N := fun r => 1 + nBs r
  hN := fun r => by rw [nBs_tot r]; omega
  Ok := fun r => sBs r = true ∧ pBs r ≤ 900
  inh := fun row x r ho hx hr => by
    have h1 := sBs_mem ho.1 hx
    have h2 := sub_sB h1.1 hr
    exact ⟨h2.1, by have := ho.2; omega⟩
  RR := fun G v row => ∃ p ws, v = .ref p ∧ G p = some (.lst ws) ∧ All2 (PgIs G) ws row
  mono := fun G G' v r s h => by
    obtain ⟨p, ws, e, h1, h2⟩ := h
    exact ⟨p, ws, e, s _ _ h1, h2.mono fun _ _ ⟨q, e, hq⟩ => ⟨q, e, s _ _ hq⟩⟩
/-- what is no definition has a page -/
theorem bp_ne {b : Blk} (h : sB b = true) : bp b = [] ↔ isDefn b = true := by
  have c1 : cs "<blockquote>\n" ≠ [] ∧ cs "<h" ≠ [] ∧ cs "<pre><code" ≠ [] ∧ cs "<p>" ≠ [] := by decide +kernel
  have c2 : ∀ st ∈ StartsL, openP st ≠ [] := by decide +kernel
  have ne : ∀ {x y : List Nat}, x ≠ [] → x ++ y = [] → False := fun h e => h (List.append_eq_nil_iff.mp e).1
  cases b with
  | quote bs =>
    refine ⟨fun e => (ne c1.1 (show cs "<blockquote>\n" ++ (bsP bs ++ cs "</blockquote>\n") = [] by rw [← List.append_assoc]; exact e)).elim, fun e => nomatch e⟩
  | list g st t its =>
    have h' : (decide (its.length ≤ 3) && StartsL.contains st && sIts its) = true := h
    rw [Bool.and_eq_true, Bool.and_eq_true] at h'
    refine ⟨fun e => (ne (c2 st (by simpa using h'.1.2)) (show openP st ++ (itsP t its ++ closeP st) = [] by rw [← List.append_assoc]; exact e)).elim, fun e => nomatch e⟩
  | heading l r =>
    refine ⟨fun e => (ne c1.2.1 (show cs "<h" ++ (decN l ++ cs ">" ++ rp r ++ cs "</h" ++ decN l ++ cs ">\n") = [] by simp only [← List.append_assoc]; exact e)).elim, fun e => nomatch e⟩
  | brk => exact ⟨fun e => absurd e (by decide +kernel), fun e => nomatch e⟩
  | code t i =>
    refine ⟨fun e => (ne c1.2.2.1 (show cs "<pre><code" ++ (langP i ++ cs ">" ++ escL t ++ cs "</code></pre>\n") = [] by simp only [← List.append_assoc]; exact e)).elim, fun e => nomatch e⟩
  | html t =>
    have h' : (decide (t.length ≤ 50) && !t.isEmpty) = true := h
    rw [Bool.and_eq_true] at h'
    refine ⟨fun e => ?_, fun e => nomatch e⟩
    have e' : t = [] := e
    rw [e'] at h'
    exact absurd h'.2 (by decide)
  | defn l d t => exact ⟨fun _ => rfl, fun _ => rfl⟩
  | par r =>
    refine ⟨fun e => (ne c1.2.2.2 (show cs "<p>" ++ (rp r ++ cs "</p>\n") = [] by simp only [← List.append_assoc]; exact e)).elim, fun e => nomatch e⟩
end PG

namespace My
open PySem PySem.Spec PyProof.Rows L2
/-- a well of draws that counts its parts -/
def WellC (c : Int) (H : Hp) (L : Addr) : Prop := ∃ x y : Int, H L = some (.lst [.int x, .int y, .int c])
theorem WellC.lst {c : Int} {H : Hp} {L : Addr} (h : WellC c H L) : ∃ xs, H L = some (.lst xs) := by
  obtain ⟨x, y, e⟩ := h
  exact ⟨_, e⟩
theorem WellC.same {c : Int} {H H' : Hp} {L : Addr} (h : WellC c H L) (s : Same H H') : WellC c H' L := by
  obtain ⟨x, y, e⟩ := h
  exact ⟨x, y, s _ _ e⟩
theorem WellC.new {c : Int} {H : Hp} {L p : Addr} {o : HO} (h : WellC c H L) (n : H p = none) : WellC c (upd H p o) L := h.same (same_new n)
theorem WellC.ne {c : Int} {H : Hp} {L p : Addr} (h : WellC c H L) (n : H p = none) : p ≠ L := by
  obtain ⟨x, y, e⟩ := h
  exact (ne_of_none e n).symm
theorem WellC.upd {c : Int} {H : Hp} {L p : Addr} {o : HO} (h : WellC c H L) (n : p ≠ L) : WellC c (upd H p o) L := by
  obtain ⟨x, y, e⟩ := h
  exact ⟨x, y, by rw [upd_ne n.symm]; exact e⟩
theorem asg_ifS {t : TT} {ta tb : TE} {g : TG} {u : TS} {D : Ends} {σ : L2.St} {H : Hp} (P : V → Hp → Prop) (R : Bool → Prop) (ht : AnsS t σ H R) (ha : ∀ H', Same H H' → R true → ValB ta σ H' P) (hb : ∀ H', Same H H' → R false → ValB tb σ H' P)
    (hq : ∀ v H', P v H' → g v σ H' (u D)) : tSeq (tAsg (tIf t ta tb) g) u D σ H := ht _ fun b H' s r => by
  cases b with
  | true => exact iteT (ha H' s r _ hq)
  | false => exact iteF (hb H' s r _ hq)
theorem asg_ifS_g {t : TT} {ta tb : TE} {g : TG} {u : TS} {D : Ends} {σ : L2.St} {H : Hp} {i : Nat} {x : V} (P : V → Hp → Prop) (R : Bool → Prop) (ht : AnsS t (σ.set i (some x)) H R) (ha : ∀ H', Same H H' → R true → ValB ta (σ.set i (some x)) H' P) (hb : ∀ H', Same H H' → R false → ValB tb (σ.set i (some x)) H' P)
    (hq : ∀ v H', P v H' → g v (σ.set i (some x)) H' (u D)) : gName i x σ H { D with nx := tSeq (tAsg (tIf t ta tb) g) u D }.nx := asg_ifS P R ht ha hb hq
end My
namespace PG
open PySem PySem.Spec PyProof.Rows L2 My RM PM DM IM TR BM
/-! no html within -/
mutual
def noI : Inl → Bool
  | .html _ => false
  | .emph r => noR r
  | .strong r => noR r
  | .link _ _ r => noR r
  | .image _ _ r => noR r
  | _ => true
def noR : List Inl → Bool
  | [] => true
  | x :: r => noI x && noR r
end
mutual
def noB : Blk → Bool
  | .quote bs => noBs bs
  | .list _ _ _ its => noIts its
  | .heading _ r => noR r
  | .html _ => false
  | .par r => noR r
  | _ => true
def noBs : List Blk → Bool
  | [] => true
  | b :: bs => noB b && noBs bs
def noIts : List (List Blk) → Bool
  | [] => true
  | bs :: its => noBs bs && noIts its
end
theorem noR_app : ∀ a b : List Inl, noR (a ++ b) = (noR a && noR b)
  | [], b => rfl
  | x :: a, b => by
    show (noI x && noR (a ++ b)) = (noI x && noR a && noR b)
    rw [noR_app a b, Bool.and_assoc]
theorem noBs_app : ∀ a b : List Blk, noBs (a ++ b) = (noBs a && noBs b)
  | [], b => rfl
  | x :: a, b => by
    show (noB x && noBs (a ++ b)) = (noB x && noBs a && noBs b)
    rw [noBs_app a b, Bool.and_assoc]
theorem noIts_app : ∀ a b : List (List Blk), noIts (a ++ b) = (noIts a && noIts b)
  | [], b => rfl
  | x :: a, b => by
    show (noBs x && noIts (a ++ b)) = (noBs x && noIts a && noIts b)
    rw [noIts_app a b, Bool.and_assoc]
theorem sR_app : ∀ a b : List Inl, sR (a ++ b) = (sR a && sR b)
  | [], b => rfl
  | x :: a, b => by
    show (sI x && sR (a ++ b)) = (sI x && sR a && sR b)
    rw [sR_app a b, Bool.and_assoc]
theorem sBs_app : ∀ a b : List Blk, sBs (a ++ b) = (sBs a && sBs b)
  | [], b => rfl
  | x :: a, b => by
    show (sB x && sBs (a ++ b)) = (sB x && sBs a && sBs b)
    rw [sBs_app a b, Bool.and_assoc]
theorem sIts_app : ∀ a b : List (List Blk), sIts (a ++ b) = (sIts a && sIts b)
  | [], b => rfl
  | x :: a, b => by
    show (sBs x && sIts (a ++ b)) = (sBs x && sIts a && sIts b)
    rw [sIts_app a b, Bool.and_assoc]
theorem pBs_app : ∀ a b : List Blk, pBs (a ++ b) = pBs a + pBs b
  | [], b => (Nat.zero_add _).symm
  | x :: a, b => by
    show pB x + pBs (a ++ b) = pB x + pBs a + pBs b
    rw [pBs_app a b, Nat.add_assoc]
theorem pIts_app : ∀ a b : List (List Blk), pIts (a ++ b) = pIts a + pIts b
  | [], b => (Nat.zero_add _).symm
  | x :: a, b => by
    show pBs x + pIts (a ++ b) = pBs x + pIts a + pIts b
    rw [pIts_app a b, Nat.add_assoc]
theorem bsP_app : ∀ a b : List Blk, bsP (a ++ b) = bsP a ++ bsP b
  | [], b => rfl
  | x :: a, b => by
    show bp x ++ bsP (a ++ b) = bp x ++ bsP a ++ bsP b
    rw [bsP_app a b, List.append_assoc]
theorem hR_app : ∀ a b : List Inl, hR (a ++ b) = max (hR a) (hR b)
  | [], b => by show hR b = max 0 _; omega
  | x :: a, b => by
    show max (hI x) (hR (a ++ b)) = max (max (hI x) (hR a)) (hR b)
    rw [hR_app a b]
    omega
/-- whether a text is last -/
def lastT : Bool → List Inl → Bool
  | p, [] => p
  | _, x :: r => lastT (isT x) r
theorem lastT_snoc (x : Inl) : ∀ (r : List Inl) (p : Bool), lastT p (r ++ [x]) = isT x
  | [], _ => rfl
  | y :: r, p => lastT_snoc x r (isT y)
theorem gR_more (k : Bool) (x : Inl) : ∀ (r : List Inl) (p : Bool), gR k p (r ++ [x]) = (gR k p r && (gI k x && !(lastT p r && isT x)))
  | [], p => by
    show (gI k x && !(p && isT x) && true) = (true && (gI k x && !(p && isT x)))
    rw [Bool.and_true, Bool.true_and]
  | y :: r, p => by
    show (gI k y && !(p && isT y) && gR k (isT y) (r ++ [x])) = (gI k y && !(p && isT y) && gR k (isT y) r && (gI k x && !(lastT (isT y) r && isT x)))
    rw [gR_more k x r (isT y)]
    simp only [Bool.and_assoc]
theorem pcR_one (x : Inl) : pcR [x] = pc x := Nat.add_zero _
theorem pc_pos (x : Inl) : 1 ≤ pc x := by cases x <;> (unfold pc; omega)
theorem len_pcR : ∀ r : List Inl, r.length ≤ pcR r
  | [] => Nat.le_refl _
  | x :: r => by
    have h1 := pc_pos x
    have h2 := len_pcR r
    show r.length + 1 ≤ pc x + pcR r
    omega
theorem len_pBs : ∀ bs : List Blk, bs.length ≤ pBs bs
  | [] => Nat.le_refl _
  | x :: r => by
    have h1 := pB_pos x
    have h2 := len_pBs r
    show r.length + 1 ≤ pB x + pBs r
    omega
theorem inV_mem {g : Str} {l : List V} (h : inV (.str g) l = true) : V.str g ∈ l := by
  obtain ⟨y, hy, e⟩ := List.any_eq_true.mp h
  cases y with
  | str z =>
    have e' : (z == g) = true := e
    rw [← eq_of_beq e']
    exact hy
  | _ => cases e
end PG

namespace My
open PySem PySem.Spec PyProof.Rows L2
section
variable {X : Cx} {o e : Expr} {to te : TE}
/-- a text's method of one argument, where the text wants a token -/
theorem pet_m1 {id : String} {name : Str} {apos pos : Pos} {r : V → List V → Hp → VK → Prop} (slot : Slot "str" name id) (ty : typeOf (.builtin id) = pure (.type "method_descriptor")) (rule : MtR X id r) (ho : PET X o to) (he : PE X e te)
    (hs : starEach [e] X.env = [(false, eval e X.env)] := by rfl) (hbase : attributeBase o name X.env (eval o X.env) = eval o X.env := by rfl) (hline : (apos.endLine == pos.line) = true := by rfl) :
    PET X (.Call (.Attribute o name apos) [e] [] pos) (tM1 r to te) := fun pins s σ H Q h0 I h => by
  refine PySem.Call_method1 hbase hs hline (thn (ho pins s σ H _ h0 I h) fun v s1 ⟨x, H1, I1, r1, q1⟩ => ?_)
  obtain ⟨⟨a, rfl⟩, q1⟩ := q1
  obtain ⟨t, rfl⟩ := _root_.id r1
  refine ⟨"str", _, F.plainAttrs_str, slot, ty, typeIs_str _ _ _, (fun _ e => nomatch e), Calls.callWith_builtin rfl (Calls.evalArgs_plain (Calls.spliced_cons ?_))⟩
  exact thn (he.run pins s1 σ H1 _ I1 q1) fun u s2 ⟨y, H2, I2, r2, q2⟩ => Calls.spliced_nil (rule pins s2 σ H2 _ [y] _ [u] Q I2 r1 (.cons r2 .nil) q2)
/-- a part of what wants a token -/
theorem pet_slice {lo hi : Option Expr} {p2 pos : Pos} {r : V → Option Int → Option Int → Hp → VK → Prop} {tl th : TO} (hr : SlR X r) (he : PET X e te) (hl : PO X lo tl) (hu : PO X hi th) : PET X (.Subscript e (.Slice lo hi none p2) pos) (tSl r te tl th) := fun pins s σ H Q h0 I h => by
  refine Subscript_ (thn (he pins s σ H _ h0 I h) fun v s1 ⟨x, H1, I1, r1, q1⟩ => ?_)
  refine wpAny_Slice (thn (hl.run pins s1 σ H1 _ I1 q1) fun vl s2 ⟨l, H2, I2, pl, q2⟩ => thn (hu.run pins s2 σ H2 _ I2 q2) fun vu s3 ⟨u, H3, I3, pu, q3⟩ => ?_)
  rw [evalPart_none]
  refine wpAny_pure ?_
  have I4 : Inv X pins σ H3 { s3 with heap := s3.heap.push { cls := .type "slice", data := .fields #[vl, vu, .none] } } := I3.kept (t' := s3.toks) fun b ob q => Heap.get?_push_of_some _ q
  obtain ⟨T, id, hT, ht, hg⟩ := hr pins { s3 with heap := s3.heap.push { cls := .type "slice", data := .fields #[vl, vu, .none] } } σ H3 x v vl vu l u s3.heap.objs.size Q I4 r1 (Heap.IsSliceOf.new ..) pl pu q3
  exact tail_any (ops := [.ref s3.heap.objs.size, v]) ht hT hg (by with_unfolding_all rfl)
/-- a written text's method, whose argument wants a token -/
theorem pe_m1C {id : String} {name c : Str} {j : Nat} {cp apos pos : Pos} {r : V → List V → Hp → VK → Prop} (slot : Slot "str" name id) (ty : typeOf (.builtin id) = pure (.type "method_descriptor")) (rule : MtR X id r) (he : PET X e te)
    (hs : starEach [e] X.env = [(false, eval e X.env)] := by rfl) (hbase : attributeBase (.Constant (.str c) j cp) name X.env (eval (.Constant (.str c) j cp) X.env) = eval (.Constant (.str c) j cp) X.env := by rfl) (hline : (apos.endLine == pos.line) = true := by rfl) :
    PE X (.Call (.Attribute (.Constant (.str c) j cp) name apos) [e] [] pos) (tM1 r (tC (.str c)) te) := by
  refine ⟨fun pins s σ H Q I h => ?_⟩
  refine PySem.Call_method1 hbase hs hline (Calls.Constant_str ?_)
  obtain ⟨_, q1⟩ := h
  refine ⟨"str", _, F.plainAttrs_str, slot, ty, typeIs_str _ _ _, (fun _ e => nomatch e), Calls.callWith_builtin rfl (Calls.evalArgs_plain (Calls.spliced_cons ?_))⟩
  exact thn (he pins { s with toks := s.toks + 1 } σ H _ (by show 1 ≤ s.toks + 1; omega) (I.tok _) q1) fun u s2 ⟨y, H2, I2, r2, q2⟩ => Calls.spliced_nil (rule pins s2 σ H2 (.str c) [y] _ [u] Q I2 ⟨_, rfl⟩ (.cons r2 .nil) q2)
theorem pe_joinC {c : Str} {j : Nat} {cp apos pos : Pos} (he : PET X e te) (hs : starEach [e] X.env = [(false, eval e X.env)] := by rfl) (hbase : attributeBase (.Constant (.str c) j cp) "join" X.env (eval (.Constant (.str c) j cp) X.env) = eval (.Constant (.str c) j cp) X.env := by rfl) (hline : (apos.endLine == pos.line) = true := by rfl) :
    PE X (.Call (.Attribute (.Constant (.str c) j cp) "join" apos) [e] [] pos) (tM1 (fun x xs H Q => ∃ a p, ∃ ys : List Str, x = .str a ∧ xs = [.ref p] ∧ (SqL X.K H p (ys.map V.str) ∨ SqT X.K H p (ys.map V.str)) ∧
      (ys.map (·.length)).sum + ys.length * a.length ≤ 16777216 ∧ Q (.str (Txt.join a ys)) H) (tC (.str c)) te) := pe_m1C F.slot_str_join F.type_str_join mt_join he hs hbase hline
end
end My

/-! ### texts cut at a sign; tags that close in their order -/
namespace CL
open PySem PySem.Spec PyProof.Rows L2 My RM PM DM IM TR BM PG
def pcs (c : Nat) : List Nat → List (List Nat)
  | [] => [[]]
  | x :: r => if x = c then [] :: pcs c r else match pcs c r with
    | [] => [[x]]
    | p :: ps => (x :: p) :: ps
theorem pcs_hit (c : Nat) (r : List Nat) : pcs c (c :: r) = [] :: pcs c r := by
  show (if c = c then _ else _) = _
  rw [if_pos rfl]
theorem pcs_ne (c : Nat) : ∀ t, pcs c t ≠ []
  | [] => by simp [pcs]
  | x :: r => by
    unfold pcs
    split
    · simp
    · split <;> simp
theorem pcs_miss {c x : Nat} {r p : List Nat} {ps : List (List Nat)} (h : x ≠ c) (e : pcs c r = p :: ps) : pcs c (x :: r) = (x :: p) :: ps := by
  show (if x = c then _ else _) = _
  rw [if_neg h, e]
theorem pcs_no (c : Nat) : ∀ t, ∀ p ∈ pcs c t, c ∉ p
  | [], p, h => by
    rw [List.mem_singleton.mp h]
    exact List.not_mem_nil
  | x :: r, p, h => by
    by_cases hx : x = c
    · subst hx
      rw [pcs_hit] at h
      rcases List.mem_cons.mp h with rfl | h
      · exact List.not_mem_nil
      · exact pcs_no x r p h
    · cases e : pcs c r with
      | nil => exact absurd e (pcs_ne c r)
      | cons q ps =>
        rw [pcs_miss hx e] at h
        have ih := pcs_no c r
        rw [e] at ih
        rcases List.mem_cons.mp h with rfl | h
        · intro hm
          rcases List.mem_cons.mp hm with hm | hm
          · exact hx hm.symm
          · exact ih q (List.mem_cons_self ..) hm
        · exact ih p (List.mem_cons_of_mem _ h)
theorem join_two (c : Nat) (a : List Nat) {ps : List (List Nat)} (h : ps ≠ []) : TL.joinL [c] (a :: ps) = a ++ c :: TL.joinL [c] ps := by
  cases ps with
  | nil => exact absurd rfl h
  | cons b r =>
    simp [TL.joinL]
theorem pcs_join (c : Nat) : ∀ t, TL.joinL [c] (pcs c t) = t
  | [] => rfl
  | x :: r => by
    have ih := pcs_join c r
    by_cases hx : x = c
    · subst hx
      rw [pcs_hit, join_two _ _ (pcs_ne x r), ih]
      rfl
    · cases e : pcs c r with
      | nil => exact absurd e (pcs_ne c r)
      | cons q ps =>
        rw [pcs_miss hx e]
        rw [e] at ih
        cases ps with
        | nil => exact congrArg (x :: ·) ih
        | cons q2 qs =>
          rw [join_two _ _ (by simp)] at ih ⊢
          rw [← ih]
          rfl
theorem join_Sc (c : Nat) (parts : List (List Nat)) : Txt.join (S [c]) (parts.map S) = S (TL.joinL [c] parts) := by
  rw [TL.join_eq]
  have e := TL.tl_join (S [c]) (parts.map S)
  have e2 : (parts.map S).map TL.tl = parts := by
    rw [List.map_map]
    conv => rhs; rw [← List.map_id parts]
    exact List.map_congr_left fun l _ => S_tl l
  rw [e2] at e
  have e3 : TL.tl (S [c]) = [c] := S_tl _
  rw [e3] at e
  rw [S_of (Str.join (S [c]) (parts.map S))]
  exact congrArg S e
theorem split_c {c : Nat} (hc : c < 256) (t : List Nat) : Txt.split (S t) (S [c]) = (pcs c t).map S := by
  have e : S t = Txt.join (S [c]) ((pcs c t).map S) := by rw [join_Sc, pcs_join]
  rw [e]
  refine TL.split_join (s := c) (S := []) (S_tl _) (by simpa [S] using hc) (fun e => pcs_ne c t (List.map_eq_nil_iff.mp e)) fun p h => ?_
  obtain ⟨q, hq, rfl⟩ := List.mem_map.mp h
  show c ∉ (S q).cps.toList
  rw [S_tl]
  exact pcs_no c t q hq
theorem pcs_len (c : Nat) : ∀ t, ∀ p ∈ pcs c t, p.length ≤ t.length
  | [], p, h => by
    rw [List.mem_singleton.mp h]
    exact Nat.le_refl _
  | x :: r, p, h => by
    by_cases hx : x = c
    · subst hx
      rw [pcs_hit] at h
      rcases List.mem_cons.mp h with rfl | h
      · exact Nat.zero_le _
      · exact Nat.le_succ_of_le (pcs_len x r p h)
    · cases e : pcs c r with
      | nil => exact absurd e (pcs_ne c r)
      | cons q ps =>
        rw [pcs_miss hx e] at h
        have ih := pcs_len c r
        rw [e] at ih
        rcases List.mem_cons.mp h with rfl | h
        · exact Nat.succ_le_succ (ih q (List.mem_cons_self ..))
        · exact Nat.le_succ_of_le (ih p (List.mem_cons_of_mem _ h))
theorem pcs_none {c : Nat} : ∀ {t : List Nat}, c ∉ t → pcs c t = [t]
  | [], _ => rfl
  | x :: r, h => pcs_miss (fun e => h (by rw [e]; exact List.mem_cons_self ..)) (pcs_none fun hm => h (List.mem_cons_of_mem _ hm))
theorem pcs_cut {c : Nat} {b : List Nat} : ∀ {a : List Nat}, c ∉ a → pcs c (a ++ c :: b) = a :: pcs c b
  | [], _ => pcs_hit c b
  | x :: r, h => pcs_miss (fun e => h (by rw [e]; exact List.mem_cons_self ..)) (pcs_cut fun hm => h (List.mem_cons_of_mem _ hm))
theorem pcs_more {c : Nat} {b p : List Nat} {ps : List (List Nat)} (e : pcs c b = p :: ps) : ∀ {a : List Nat}, c ∉ a → pcs c (a ++ b) = (a ++ p) :: ps
  | [], _ => e
  | x :: r, h => pcs_miss (fun e => h (by rw [e]; exact List.mem_cons_self ..)) (pcs_more e fun hm => h (List.mem_cons_of_mem _ hm))
/-- a tag's name -/
def nameL (g : List Nat) : List Nat := g.takeWhile (· != 32)
theorem name_len : ∀ g : List Nat, (nameL g).length ≤ g.length
  | [] => Nat.le_refl _
  | x :: r => by
    have ih := name_len r
    show ((x :: r).takeWhile (· != 32)).length ≤ r.length + 1
    rw [List.takeWhile_cons]
    split
    · exact Nat.succ_le_succ ih
    · exact Nat.zero_le _
theorem name_head (g : List Nat) : ∃ ps, pcs 32 g = nameL g :: ps := by
  induction g with
  | nil => exact ⟨[], rfl⟩
  | cons x r ih =>
    obtain ⟨ps, e⟩ := ih
    unfold nameL at e ⊢
    by_cases hx : x = 32
    · subst hx
      exact ⟨_, pcs_hit 32 r⟩
    · rw [List.takeWhile_cons, show (x != 32) = true by simpa using hx]
      exact ⟨_, pcs_miss hx e⟩
/-! tags and what stands between them -/
inductive Tk where
  | txt (x : List Nat)
  | tag (g : List Nat)
def plain (x : List Nat) : Bool := x.all fun c => c != 60 && c != 62
def okT : List Tk → Bool
  | [] => true
  | .txt x :: r => plain x && okT r
  | .tag g :: r => plain g && okT r
def ren : List Tk → List Nat
  | [] => []
  | .txt x :: r => x ++ ren r
  | .tag g :: r => 60 :: (g ++ 62 :: ren r)
def voidL : List (List Nat) := [cs "br", cs "hr", cs "img"]
def pairL : List (List Nat) := [cs "h1", cs "h2", cs "h3", cs "h4", cs "h5", cs "h6", cs "p", cs "blockquote", cs "ul", cs "ol", cs "li", cs "pre", cs "code", cs "em", cs "strong", cs "a"]
def stepG (st : List (List Nat)) (g : List Nat) : Option (List (List Nat)) :=
  if nameL g ∈ voidL then (if g.drop (g.length - 2) = [32, 47] then some st else none)
  else if (nameL g).take 1 = [47] then (if st.getLast? = some ((nameL g).drop 1) ∧ g = nameL g then some st.dropLast else none)
  else if nameL g ∈ pairL then some (st ++ [nameL g]) else none
def runT : List (List Nat) → List Tk → Option (List (List Nat))
  | st, [] => some st
  | st, .txt _ :: r => runT st r
  | st, .tag g :: r => match stepG st g with
    | none => none
    | some s => runT s r
def lead : List Tk → List Nat
  | [] => []
  | .txt x :: r => x ++ lead r
  | .tag _ :: _ => []
def prs : List Tk → List (List Nat × List Nat)
  | [] => []
  | .txt _ :: r => prs r
  | .tag g :: r => (g, lead r) :: prs r
def runG : List (List Nat) → List (List Nat × List Nat) → Option (List (List Nat))
  | st, [] => some st
  | st, p :: r => match stepG st p.1 with
    | none => none
    | some s => runG s r
theorem run_prs : ∀ (ts : List Tk) (st : List (List Nat)), runG st (prs ts) = runT st ts
  | [], _ => rfl
  | .txt _ :: r, st => run_prs r st
  | .tag g :: r, st => by
    show (match stepG st g with | none => none | some s => runG s (prs r)) = (match stepG st g with | none => none | some s => runT s r)
    cases stepG st g with
    | none => rfl
    | some s => exact run_prs r s
theorem plain_no {x : List Nat} (h : plain x = true) : 60 ∉ x ∧ 62 ∉ x := by
  unfold plain at h
  constructor
  · intro hm
    have := List.all_eq_true.mp h _ hm
    exact absurd this (by decide)
  · intro hm
    have := List.all_eq_true.mp h _ hm
    exact absurd this (by decide)
theorem plain_app (a b : List Nat) : plain (a ++ b) = (plain a && plain b) := List.all_append
theorem lead_plain : ∀ {ts : List Tk}, okT ts = true → plain (lead ts) = true
  | [], _ => rfl
  | .txt x :: r, h => by
    have h' : (plain x && okT r) = true := h
    rw [Bool.and_eq_true] at h'
    show plain (x ++ lead r) = true
    rw [plain_app, h'.1, lead_plain h'.2]
    rfl
  | .tag _ :: _, _ => rfl
theorem prs_plain : ∀ {ts : List Tk}, okT ts = true → ∀ p ∈ prs ts, plain p.1 = true ∧ plain p.2 = true
  | [], _, p, hp => by cases hp
  | .txt x :: r, h, p, hp => by
    have h' : (plain x && okT r) = true := h
    rw [Bool.and_eq_true] at h'
    exact prs_plain h'.2 p hp
  | .tag g :: r, h, p, hp => by
    have h' : (plain g && okT r) = true := h
    rw [Bool.and_eq_true] at h'
    rcases List.mem_cons.mp hp with rfl | hp
    · exact ⟨h'.1, lead_plain h'.2⟩
    · exact prs_plain h'.2 p hp
theorem pcs_ren : ∀ {ts : List Tk}, okT ts = true → pcs 60 (ren ts) = lead ts :: (prs ts).map fun p => p.1 ++ 62 :: p.2
  | [], _ => rfl
  | .txt x :: r, h => by
    have h' : (plain x && okT r) = true := h
    rw [Bool.and_eq_true] at h'
    exact pcs_more (pcs_ren h'.2) (plain_no h'.1).1
  | .tag g :: r, h => by
    have h' : (plain g && okT r) = true := h
    rw [Bool.and_eq_true] at h'
    show pcs 60 (60 :: (g ++ 62 :: ren r)) = [] :: ((g ++ 62 :: lead r) :: (prs r).map _)
    rw [pcs_hit]
    have e : g ++ 62 :: ren r = (g ++ [62]) ++ ren r := by simp
    have e2 : g ++ 62 :: lead r = (g ++ [62]) ++ lead r := by simp
    rw [e, e2]
    refine congrArg _ (pcs_more (pcs_ren h'.2) ?_)
    intro hm
    rcases List.mem_append.mp hm with hm | hm
    · exact (plain_no h'.1).1 hm
    · exact absurd (List.mem_singleton.mp hm) (by decide)
theorem prs_len {ts : List Tk} (o : okT ts = true) {p : List Nat × List Nat} (h : p ∈ prs ts) : p.1.length + p.2.length + 1 ≤ (ren ts).length := by
  have e := pcs_ren o
  have := pcs_len 60 (ren ts) (p.1 ++ 62 :: p.2) (by rw [e]; exact List.mem_cons_of_mem _ (List.mem_map.mpr ⟨p, h, rfl⟩))
  rw [List.length_append, List.length_cons] at this
  omega
theorem okT_app : ∀ a b : List Tk, okT (a ++ b) = (okT a && okT b)
  | [], b => rfl
  | .txt x :: a, b => by
    show (plain x && okT (a ++ b)) = (plain x && okT a && okT b)
    rw [okT_app a b, Bool.and_assoc]
  | .tag g :: a, b => by
    show (plain g && okT (a ++ b)) = (plain g && okT a && okT b)
    rw [okT_app a b, Bool.and_assoc]
theorem ren_app : ∀ a b : List Tk, ren (a ++ b) = ren a ++ ren b
  | [], b => rfl
  | .txt x :: a, b => by
    show x ++ ren (a ++ b) = x ++ ren a ++ ren b
    rw [ren_app a b, List.append_assoc]
  | .tag g :: a, b => by
    show 60 :: (g ++ 62 :: ren (a ++ b)) = 60 :: (g ++ 62 :: ren a) ++ ren b
    rw [ren_app a b]
    simp
theorem runT_app : ∀ (a b : List Tk) (st s : List (List Nat)), runT st a = some s → runT st (a ++ b) = runT s b
  | [], b, st, s, h => by cases h; rfl
  | .txt x :: a, b, st, s, h => runT_app a b st s h
  | .tag g :: a, b, st, s, h => by
    have h' : (match stepG st g with | none => none | some s => runT s a) = some s := h
    show (match stepG st g with | none => none | some s => runT s (a ++ b)) = runT s b
    cases e : stepG st g with
    | none => rw [e] at h'; cases h'
    | some s1 =>
      rw [e] at h'
      exact runT_app a b s1 s h'
/-- each tag that opens closes, in its order -/
def Bal (t : List Nat) : Prop := ∃ ts, ren ts = t ∧ okT ts = true ∧ ∀ st, runT st ts = some st
theorem Bal.nil : Bal [] := ⟨[], rfl, rfl, fun _ => rfl⟩
theorem Bal.txt {x : List Nat} (h : plain x = true) : Bal x := ⟨[.txt x], List.append_nil _, by show (plain x && true) = true; rw [h]; rfl, fun _ => rfl⟩
theorem Bal.app {a b : List Nat} (h : Bal a) (g : Bal b) : Bal (a ++ b) := by
  obtain ⟨ts, e1, o1, r1⟩ := h
  obtain ⟨us, e2, o2, r2⟩ := g
  refine ⟨ts ++ us, by rw [ren_app, e1, e2], by rw [okT_app, o1, o2]; rfl, fun st => ?_⟩
  rw [runT_app _ _ st st (r1 st)]
  exact r2 st
theorem Bal.void {g : List Nat} (h : plain g = true) (n : nameL g ∈ voidL) (e : g.drop (g.length - 2) = [32, 47]) : Bal (60 :: (g ++ [62])) := by
  refine ⟨[.tag g], rfl, by show (plain g && true) = true; rw [h]; rfl, fun st => ?_⟩
  show (match stepG st g with | none => none | some s => some s) = some st
  unfold stepG
  rw [if_pos n, if_pos e]
theorem closeN {n : List Nat} (h : n ∈ pairL) : plain (47 :: n) = true ∧ nameL (47 :: n) = 47 :: n := (by decide +kernel : ∀ n ∈ pairL, plain (47 :: n) = true ∧ nameL (47 :: n) = 47 :: n) n h
theorem openN {n : List Nat} (h : n ∈ pairL) : n ∉ voidL ∧ n.take 1 ≠ [47] ∧ (47 :: n) ∉ voidL := (by decide +kernel : ∀ n ∈ pairL, n ∉ voidL ∧ n.take 1 ≠ [47] ∧ (47 :: n) ∉ voidL) n h
theorem Bal.wrap {g t n : List Nat} (ht : Bal t) (h : plain g = true) (en : nameL g = n) (hn : n ∈ pairL) : Bal (60 :: (g ++ [62]) ++ t ++ 60 :: (47 :: n ++ [62])) := by
  obtain ⟨ts, e1, o1, r1⟩ := ht
  obtain ⟨c1, c2⟩ := closeN hn
  obtain ⟨n1, n2, n3⟩ := openN hn
  refine ⟨.tag g :: (ts ++ [.tag (47 :: n)]), ?_, ?_, fun st => ?_⟩
  · show 60 :: (g ++ 62 :: ren (ts ++ [.tag (47 :: n)])) = _
    rw [ren_app, e1]
    show 60 :: (g ++ 62 :: (t ++ 60 :: (47 :: n ++ 62 :: []))) = _
    simp
  · show (plain g && okT (ts ++ [.tag (47 :: n)])) = true
    rw [h, okT_app, o1]
    show (true && (true && (plain (47 :: n) && true))) = true
    rw [c1]
    rfl
  · have s1 : stepG st g = some (st ++ [n]) := by
      unfold stepG
      rw [en, if_neg n1, if_neg n2, if_pos hn]
    show (match stepG st g with | none => none | some s => runT s (ts ++ [.tag (47 :: n)])) = some st
    rw [s1]
    show runT (st ++ [n]) (ts ++ [.tag (47 :: n)]) = some st
    rw [runT_app _ _ _ _ (r1 (st ++ [n]))]
    show (match stepG (st ++ [n]) (47 :: n) with | none => none | some s => some s) = some st
    have s2 : stepG (st ++ [n]) (47 :: n) = some st := by
      unfold stepG
      rw [c2, if_neg n3, if_pos (show List.take 1 (47 :: n) = [47] from rfl), if_pos ⟨by simp, rfl⟩]
      simp
    rw [s2]
/-! pages are so -/
theorem esc_plain (t : List Nat) : plain (escL t) = true := by
  unfold escL
  induction t with
  | nil => rfl
  | cons c r ih =>
    rw [List.flatMap_cons, plain_app, ih, Bool.and_true]
    unfold escC
    split
    · rfl
    split
    · rfl
    split
    · rfl
    split
    · rfl
    · rename_i h1 h2 h3 h4
      show ((c != 60 && c != 62) && true) = true
      simp [h2, h3]
theorem attr_plain {nm : String} (h : plain (cs nm) = true) (t : List Nat) : plain (attrP nm t) = true := by
  unfold attrP
  simp only [plain_app]
  rw [h, esc_plain]
  decide +kernel
theorem title_plain (t : Option (List Nat)) : plain (titleP t) = true := by
  cases t with
  | none => rfl
  | some t =>
    show plain (if t = [] then [] else attrP "title" t) = true
    split
    · rfl
    · exact attr_plain (by decide +kernel) t
theorem name_attr {n : List Nat} (h : 32 ∉ n) (nm : String) (t r : List Nat) : nameL (n ++ (attrP nm t ++ r)) = n := by
  unfold nameL attrP
  have e : cs " " = [32] := by decide +kernel
  rw [e]
  simp only [List.append_assoc]
  rw [List.takeWhile_append_of_pos fun c hc => by
    have : c ≠ 32 := fun e => h (by rw [← e]; exact hc)
    simpa using this]
  simp
theorem bal_em {t : List Nat} (h : Bal t) {n : List Nat} (hn : n ∈ pairL) : Bal (60 :: (n ++ [62]) ++ t ++ 60 :: (47 :: n ++ [62])) := h.wrap ((by decide +kernel : ∀ n ∈ pairL, plain n = true) n hn) ((by decide +kernel : ∀ n ∈ pairL, nameL n = n) n hn) hn
theorem bal_of {a b t n : List Nat} (h : Bal t) (hn : n ∈ pairL) (ea : a = 60 :: (n ++ [62])) (eb : b = 60 :: (47 :: n ++ [62])) : Bal (a ++ t ++ b) := by
  rw [ea, eb]
  exact bal_em h hn
theorem bal_nl : Bal [10] := .txt rfl
mutual
theorem bal_I : ∀ x : Inl, noI x = true → Bal (ip x)
  | .text t, _ => .txt (esc_plain t)
  | .code t, _ => bal_of (n := cs "code") (.txt (esc_plain t)) (by decide +kernel) (by decide +kernel) (by decide +kernel)
  | .html _, h => nomatch h
  | .soft, _ => .txt (by decide +kernel)
  | .hard, _ => by
    show Bal (cs "<br />\n")
    rw [show cs "<br />\n" = (60 :: (cs "br /" ++ [62])) ++ [10] by decide +kernel]
    exact (Bal.void (by decide +kernel) (by decide +kernel) (by decide +kernel)).app bal_nl
  | .emph r, h => bal_of (n := cs "em") (bal_R r h) (by decide +kernel) (by decide +kernel) (by decide +kernel)
  | .strong r, h => bal_of (n := cs "strong") (bal_R r h) (by decide +kernel) (by decide +kernel) (by decide +kernel)
  | .link d t r, h => by
    show Bal (cs "<a" ++ attrP "href" d ++ titleP t ++ cs ">" ++ rp r ++ cs "</a>")
    have e : cs "<a" ++ attrP "href" d ++ titleP t ++ cs ">" ++ rp r ++ cs "</a>" = 60 :: ((cs "a" ++ (attrP "href" d ++ titleP t)) ++ [62]) ++ rp r ++ 60 :: (47 :: cs "a" ++ [62]) := by
      rw [show cs "<a" = 60 :: cs "a" by decide +kernel, show cs ">" = [62] by decide +kernel, show cs "</a>" = 60 :: (47 :: cs "a" ++ [62]) by decide +kernel]
      simp only [List.append_assoc, List.cons_append]
    rw [e]
    exact (bal_R r h).wrap (by rw [plain_app, plain_app, attr_plain (by decide +kernel), title_plain]; decide +kernel) (name_attr (by decide +kernel) "href" d _) (by decide +kernel)
  | .image d t r, h => by
    show Bal (cs "<img" ++ attrP "src" d ++ attrP "alt" (rowW r) ++ titleP t ++ cs " />")
    have e : cs "<img" ++ attrP "src" d ++ attrP "alt" (rowW r) ++ titleP t ++ cs " />" = 60 :: ((cs "img" ++ (attrP "src" d ++ (attrP "alt" (rowW r) ++ titleP t ++ [32, 47]))) ++ [62]) := by
      rw [show cs "<img" = 60 :: cs "img" by decide +kernel, show cs " />" = [32, 47] ++ [62] by decide +kernel]
      simp only [List.append_assoc, List.cons_append]
    rw [e]
    refine Bal.void ?_ (by rw [name_attr (by decide +kernel)]; decide +kernel) ?_
    · rw [plain_app, plain_app, plain_app, plain_app, attr_plain (by decide +kernel), attr_plain (by decide +kernel), title_plain]
      decide +kernel
    · have e2 : cs "img" ++ (attrP "src" d ++ (attrP "alt" (rowW r) ++ titleP t ++ [32, 47])) = (cs "img" ++ attrP "src" d ++ attrP "alt" (rowW r) ++ titleP t) ++ [32, 47] := by simp only [List.append_assoc]
      rw [e2, List.length_append]
      show List.drop (_ + 2 - 2) _ = _
      rw [Nat.add_sub_cancel, List.drop_left]
theorem bal_R : ∀ r : List Inl, noR r = true → Bal (rp r)
  | [], _ => .nil
  | x :: r, h => by
    have h' : (noI x && noR r) = true := h
    rw [Bool.and_eq_true] at h'
    exact (bal_I x h'.1).app (bal_R r h'.2)
end
theorem head_of : ∀ l : Nat, 1 ≤ l → l ≤ 6 → cs "<h" ++ decN l ++ cs ">" = 60 :: ((cs "h" ++ decN l) ++ [62]) ∧ cs "</h" ++ decN l ++ cs ">\n" = 60 :: (47 :: (cs "h" ++ decN l) ++ [62]) ++ [10] ∧ (cs "h" ++ decN l) ∈ pairL := by
  intro l h1 h2
  have : ∀ l ∈ [1, 2, 3, 4, 5, 6], cs "<h" ++ decN l ++ cs ">" = 60 :: ((cs "h" ++ decN l) ++ [62]) ∧ cs "</h" ++ decN l ++ cs ">\n" = 60 :: (47 :: (cs "h" ++ decN l) ++ [62]) ++ [10] ∧ (cs "h" ++ decN l) ∈ pairL := by decide +kernel
  exact this l (by simp; omega)
theorem lang_of : ∀ i ∈ InfosL, plain (langP i) = true ∧ nameL (cs "code" ++ langP i) = cs "code" := by decide +kernel
theorem open_of2 : ∀ st ∈ StartsL, ∃ g n, openP st = 60 :: (g ++ [62]) ++ [10] ∧ closeP st = 60 :: (47 :: n ++ [62]) ++ [10] ∧ plain g = true ∧ nameL g = n ∧ n ∈ pairL := by
  intro st hst
  unfold StartsL at hst
  simp only [List.mem_cons, List.not_mem_nil, or_false] at hst
  rcases hst with rfl | rfl | rfl | rfl | rfl | rfl
  · exact ⟨cs "ul", cs "ul", by decide +kernel⟩
  · exact ⟨cs "ol" ++ attrP "start" (decN 0), cs "ol", by decide +kernel⟩
  · exact ⟨cs "ol", cs "ol", by decide +kernel⟩
  · exact ⟨cs "ol" ++ attrP "start" (decN 2), cs "ol", by decide +kernel⟩
  · exact ⟨cs "ol" ++ attrP "start" (decN 7), cs "ol", by decide +kernel⟩
  · exact ⟨cs "ol" ++ attrP "start" (decN 999999999), cs "ol", by decide +kernel⟩
theorem bal_bare (b : Blk) (h : noB b = true) : Bal (bareP b) := by
  cases b with
  | par r => exact bal_R r h
  | _ => exact .nil
theorem bal_nlP (acc : List Nat) (b : Bool) : Bal (nlP acc b) := by
  unfold nlP
  split
  · exact .nil
  · exact bal_nl
theorem tail_nl {a : List Nat} (h : Bal a) : Bal (a ++ [10]) := h.app bal_nl
mutual
theorem bal_B : ∀ b : Blk, noB b = true → gB b = true → sB b = true → Bal (bp b)
  | .quote bs, h, g, s => by
    show Bal (cs "<blockquote>\n" ++ bsP bs ++ cs "</blockquote>\n")
    have e : cs "<blockquote>\n" ++ bsP bs ++ cs "</blockquote>\n" = (60 :: (cs "blockquote" ++ [62]) ++ ([10] ++ bsP bs) ++ 60 :: (47 :: cs "blockquote" ++ [62])) ++ [10] := by
      rw [show cs "<blockquote>\n" = 60 :: (cs "blockquote" ++ [62]) ++ [10] by decide +kernel, show cs "</blockquote>\n" = 60 :: (47 :: cs "blockquote" ++ [62]) ++ [10] by decide +kernel]
      simp only [List.append_assoc, List.cons_append]
    rw [e]
    exact tail_nl (bal_em (bal_nl.app (bal_Bs bs h g s)) (by decide +kernel))
  | .list gg st t its, h, g, s => by
    have g' : (fitStart gg (optI st) && !its.isEmpty && gIts its) = true := g
    have s' : (decide (its.length ≤ 3) && StartsL.contains st && sIts its) = true := s
    simp only [Bool.and_eq_true] at g' s'
    obtain ⟨gt, n, e1, e2, e3, e4, e5⟩ := open_of2 st (by simpa using s'.1.2)
    show Bal (openP st ++ itsP t its ++ closeP st)
    have e : openP st ++ itsP t its ++ closeP st = (60 :: (gt ++ [62]) ++ ([10] ++ itsP t its) ++ 60 :: (47 :: n ++ [62])) ++ [10] := by
      rw [e1, e2]
      simp only [List.append_assoc, List.cons_append]
    rw [e]
    exact tail_nl ((bal_nl.app (bal_Its t its h g'.2 s'.2)).wrap e3 e4 e5)
  | .heading l r, h, g, s => by
    have g' : (decide (1 ≤ l) && decide (l ≤ 6) && gR false false r) = true := g
    simp only [Bool.and_eq_true, decide_eq_true_eq] at g'
    obtain ⟨e1, e2, e3⟩ := head_of l g'.1.1 g'.1.2
    show Bal (cs "<h" ++ decN l ++ cs ">" ++ rp r ++ cs "</h" ++ decN l ++ cs ">\n")
    have e : cs "<h" ++ decN l ++ cs ">" ++ rp r ++ cs "</h" ++ decN l ++ cs ">\n" = (60 :: ((cs "h" ++ decN l) ++ [62]) ++ rp r ++ 60 :: (47 :: (cs "h" ++ decN l) ++ [62])) ++ [10] := by
      have : cs "<h" ++ decN l ++ cs ">" ++ rp r ++ cs "</h" ++ decN l ++ cs ">\n" = (cs "<h" ++ decN l ++ cs ">") ++ rp r ++ (cs "</h" ++ decN l ++ cs ">\n") := by simp only [List.append_assoc]
      rw [this, e1, e2]
      simp only [List.append_assoc, List.cons_append]
    rw [e]
    exact tail_nl (bal_em (bal_R r h) e3)
  | .brk, _, _, _ => by
    show Bal (cs "<hr />\n")
    rw [show cs "<hr />\n" = (60 :: (cs "hr /" ++ [62])) ++ [10] by decide +kernel]
    exact (Bal.void (by decide +kernel) (by decide +kernel) (by decide +kernel)).app bal_nl
  | .code t i, _, _, s => by
    have s' : (decide (t.length ≤ 50) && InfosL.contains i) = true := s
    rw [Bool.and_eq_true] at s'
    obtain ⟨l1, l2⟩ := lang_of i (by simpa using s'.2)
    show Bal (cs "<pre><code" ++ langP i ++ cs ">" ++ escL t ++ cs "</code></pre>\n")
    have e : cs "<pre><code" ++ langP i ++ cs ">" ++ escL t ++ cs "</code></pre>\n" = (60 :: (cs "pre" ++ [62]) ++ (60 :: ((cs "code" ++ langP i) ++ [62]) ++ escL t ++ 60 :: (47 :: cs "code" ++ [62])) ++ 60 :: (47 :: cs "pre" ++ [62])) ++ [10] := by
      rw [show cs "<pre><code" = 60 :: (cs "pre" ++ [62]) ++ 60 :: cs "code" by decide +kernel, show cs ">" = [62] by decide +kernel, show cs "</code></pre>\n" = 60 :: (47 :: cs "code" ++ [62]) ++ (60 :: (47 :: cs "pre" ++ [62])) ++ [10] by decide +kernel]
      simp only [List.append_assoc, List.cons_append]
    rw [e]
    exact tail_nl (bal_em ((Bal.txt (esc_plain t)).wrap (by rw [plain_app, l1]; decide +kernel) l2 (by decide +kernel)) (by decide +kernel))
  | .html _, h, _, _ => nomatch h
  | .defn _ _ _, _, _, _ => .nil
  | .par r, h, _, _ => by
    show Bal (cs "<p>" ++ rp r ++ cs "</p>\n")
    have e : cs "<p>" ++ rp r ++ cs "</p>\n" = (60 :: (cs "p" ++ [62]) ++ rp r ++ 60 :: (47 :: cs "p" ++ [62])) ++ [10] := by
      rw [show cs "<p>" = 60 :: (cs "p" ++ [62]) by decide +kernel, show cs "</p>\n" = 60 :: (47 :: cs "p" ++ [62]) ++ [10] by decide +kernel]
      simp only [List.append_assoc, List.cons_append]
    rw [e]
    exact tail_nl (bal_em (bal_R r h) (by decide +kernel))
theorem bal_Bs : ∀ bs : List Blk, noBs bs = true → gBs bs = true → sBs bs = true → Bal (bsP bs)
  | [], _, _, _ => .nil
  | b :: bs, h, g, s => by
    have h' : (noB b && noBs bs) = true := h
    have g' : (gB b && gBs bs) = true := g
    have s' : (sB b && sBs bs) = true := s
    rw [Bool.and_eq_true] at h' g' s'
    exact (bal_B b h'.1 g'.1 s'.1).app (bal_Bs bs h'.2 g'.2 s'.2)
theorem bal_Its (t : Bool) : ∀ its : List (List Blk), noIts its = true → gIts its = true → sIts its = true → Bal (itsP t its)
  | [], _, _, _ => .nil
  | bs :: its, h, g, s => by
    have h' : (noBs bs && noIts its) = true := h
    have g' : (gBs bs && gIts its) = true := g
    have s' : (sBs bs && sIts its) = true := s
    rw [Bool.and_eq_true] at h' g' s'
    show Bal (itemP t (cs "<li>") true bs ++ cs "</li>\n" ++ itsP t its)
    refine Bal.app ?_ (bal_Its t its h'.2 g'.2 s'.2)
    obtain ⟨x, e, bx⟩ := bal_item t bs (cs "<li>") true h'.1 g'.1 s'.1
    rw [e]
    have e2 : cs "<li>" ++ x ++ cs "</li>\n" = (60 :: (cs "li" ++ [62]) ++ x ++ 60 :: (47 :: cs "li" ++ [62])) ++ [10] := by
      rw [show cs "<li>" = 60 :: (cs "li" ++ [62]) by decide +kernel, show cs "</li>\n" = 60 :: (47 :: cs "li" ++ [62]) ++ [10] by decide +kernel]
      simp only [List.append_assoc, List.cons_append]
    rw [e2]
    exact tail_nl (bal_em bx (by decide +kernel))
theorem bal_item (t : Bool) : ∀ (bs : List Blk) (acc : List Nat) (first : Bool), noBs bs = true → gBs bs = true → sBs bs = true → ∃ x, itemP t acc first bs = acc ++ x ∧ Bal x
  | [], acc, _, _, _, _ => ⟨[], (List.append_nil _).symm, .nil⟩
  | b :: bs, acc, first, h, g, s => by
    have h' : (noB b && noBs bs) = true := h
    have g' : (gB b && gBs bs) = true := g
    have s' : (sB b && sBs bs) = true := s
    rw [Bool.and_eq_true] at h' g' s'
    show ∃ x, (if isDefn b = true then itemP t acc first bs else itemP t (acc ++ nlP acc (t && isPar b && first) ++ (if (t && isPar b) = true then bareP b else bp b)) false bs) = acc ++ x ∧ Bal x
    split
    · exact bal_item t bs acc first h'.2 g'.2 s'.2
    · obtain ⟨x, e, bx⟩ := bal_item t bs (acc ++ nlP acc (t && isPar b && first) ++ (if (t && isPar b) = true then bareP b else bp b)) false h'.2 g'.2 s'.2
      refine ⟨nlP acc (t && isPar b && first) ++ (if (t && isPar b) = true then bareP b else bp b) ++ x, by rw [e]; simp only [List.append_assoc], ?_⟩
      refine ((bal_nlP _ _).app ?_).app bx
      split
      · exact bal_bare b h'.1
      · exact bal_B b h'.1 g'.1 s'.1
end
theorem runG_cut : ∀ (a b : List (List Nat × List Nat)) (st z : List (List Nat)), runG st (a ++ b) = some z → ∃ s, runG st a = some s ∧ runG s b = some z
  | [], b, st, z, h => ⟨st, rfl, h⟩
  | p :: a, b, st, z, h => by
    have h' : (match stepG st p.1 with | none => none | some s => runG s (a ++ b)) = some z := h
    cases e : stepG st p.1 with
    | none => rw [e] at h'; cases h'
    | some s1 =>
      rw [e] at h'
      obtain ⟨s, h1, h2⟩ := runG_cut a b s1 z h'
      refine ⟨s, ?_, h2⟩
      show (match stepG st p.1 with | none => none | some s => runG s a) = some s
      rw [e]
      exact h1
theorem runG_step {ps : List (List Nat × List Nat)} {i : Nat} {p : List Nat × List Nat} {st z : List (List Nat)} (h : runG [] ps = some z) (hp : ps[i]? = some p) (hs : runG [] (ps.take i) = some st) : ∃ s, stepG st p.1 = some s ∧ runG [] (ps.take (i + 1)) = some s := by
  have e : ps = ps.take (i + 1) ++ ps.drop (i + 1) := (List.take_append_drop _ _).symm
  rw [e] at h
  obtain ⟨s, h1, _⟩ := runG_cut _ _ _ _ h
  have e2 : ps.take (i + 1) = ps.take i ++ [p] := by rw [List.take_add_one, hp]; rfl
  refine ⟨s, ?_, h1⟩
  rw [e2] at h1
  obtain ⟨s1, h3, h4⟩ := runG_cut _ _ _ _ h1
  rw [hs] at h3
  cases h3
  have h5 : (match stepG st p.1 with | none => none | some s => some s) = some s := h4
  cases e3 : stepG st p.1 with
  | none => rw [e3] at h5; cases h5
  | some s1 => rw [e3] at h5; exact h5
theorem cutV_last {r : List V} {x : V} : cutV (r ++ [x]) (some (-1)) none = [x] := by
  unfold cutV
  rw [HT.sIx_none]
  have e : HT.sIx (r ++ [x]).length 0 (some (-1)) = r.length := by
    show (if (-1 : Int) < 0 then ((-1 : Int) + ((r ++ [x]).length : Int)).toNat else min (-1 : Int).toNat (r ++ [x]).length) = r.length
    rw [if_pos (by decide), List.length_append, List.length_singleton]
    omega
  rw [e, List.drop_left]
  simp
theorem cutV_tail {x : V} {r : List V} : cutV (x :: r) (some 1) none = r := by
  show cutV (x :: r) (some ((1 : Nat) : Int)) none = r
  unfold cutV
  rw [HT.sIx_none, HT.sIx_nat]
  have : min 1 (x :: r).length = 1 := Nat.min_eq_left (by simp)
  rw [this]
  simp
theorem S_take (l : List Nat) (k : Nat) : cutS (S l) none (some (k : Int)) = S (l.take k) := by
  unfold cutS
  rw [HT.sIx_none, HT.sIx_nat, S_len, S_tl]
  show S _ = S _
  congr 1
  rw [List.drop_zero, Nat.sub_zero]
  by_cases h : k ≤ l.length
  · rw [Nat.min_eq_left h]
  · rw [Nat.min_eq_right (by omega), List.take_length, List.take_of_length_le (by omega)]
theorem inV_S (n : List Nat) (ls : List (List Nat)) : inV (.str (S n)) (ls.map fun l => V.str (S l)) = decide (n ∈ ls) := by
  unfold inV
  rw [List.any_map]
  by_cases h : n ∈ ls
  · rw [decide_eq_true h, List.any_eq_true]
    exact ⟨n, h, by show (S n == S n) = true; simp⟩
  · rw [decide_eq_false h, List.any_eq_false]
    intro x hx e
    have e' : (S x == S n) = true := e
    exact h (by rw [← S_inj (eq_of_beq e')]; exact hx)
theorem flat_S (ls : List (List Nat)) : (ls.map fun l => V.str (S l)).all flatV = true := by
  rw [List.all_map, List.all_eq_true]
  intro x _
  rfl
theorem stepG_in {st s : List (List Nat)} {g : List Nat} (h : stepG st g = some s) (hs : ∀ n ∈ st, n ∈ pairL) : (∀ n ∈ s, n ∈ pairL) ∧ s.length ≤ st.length + 1 := by
  unfold stepG at h
  split at h
  · split at h
    · cases h
      exact ⟨hs, Nat.le_succ _⟩
    · cases h
  split at h
  · split at h
    · cases h
      exact ⟨fun n hn => hs n ((List.dropLast_sublist _).subset hn), by rw [List.length_dropLast]; omega⟩
    · cases h
  split at h
  · rename_i hp
    cases h
    refine ⟨fun n hn => ?_, by rw [List.length_append, List.length_singleton]; exact Nat.le_refl _⟩
    rcases List.mem_append.mp hn with hn | hn
    · exact hs n hn
    · rw [List.mem_singleton.mp hn]
      exact hp
  · cases h
theorem prs_many : ∀ ts : List Tk, (prs ts).length ≤ (ren ts).length
  | [] => Nat.le_refl _
  | .txt x :: r => by
    have := prs_many r
    show (prs r).length ≤ (x ++ ren r).length
    rw [List.length_append]
    omega
  | .tag g :: r => by
    have := prs_many r
    show (prs r).length + 1 ≤ (60 :: (g ++ 62 :: ren r)).length
    rw [List.length_cons, List.length_append, List.length_cons]
    omega
theorem pair_ok : ∀ n ∈ pairL, PyData.strOk (S n) = true := by decide +kernel
open PySem.Builtin.Str PySem.StrLaws in
theorem splitMax_one {g x : List Nat} (hg : 62 ∉ g) : Txt.splitMax (S (g ++ 62 :: x)) (S [62]) 1 = [S g, S x] := by
  have hl : (S (g ++ 62 :: x)).length = g.length + 1 + x.length := by
    rw [S_len, List.length_append, List.length_cons]
    omega
  have h1 : (S [62]).length = 1 := S_len _
  have k1 : Builtin.Str.strKind (S [62]) = 1 := by decide +kernel
  have k2 : ¬ Builtin.Str.strKind (S (g ++ 62 :: x)) < Builtin.Str.strKind (S [62]) := by
    rw [k1]
    unfold Builtin.Str.strKind
    split
    · decide
    split <;> decide
  have hs : ∀ k, subAt (S (g ++ 62 :: x)) (S [62]) k = decide ((g ++ 62 :: x)[k]? = some 62) := fun k => by
    rw [sub_S]
    cases e : (g ++ 62 :: x)[k]? with
    | none =>
      rw [List.drop_eq_nil_iff.mpr (List.getElem?_eq_none_iff.mp e)]
      decide
    | some c =>
      have hk := (List.getElem?_eq_some_iff.mp e).1
      have e2 := (List.getElem?_eq_some_iff.mp e).2
      rw [List.drop_eq_getElem_cons hk, e2]
      show ([c] == [62]) = decide (some c = some 62)
      by_cases hc : c = 62
      · subst hc
        decide
      · rw [decide_eq_false fun h => hc (Option.some.inj h)]
        simpa using hc
  have hat : At (S (g ++ 62 :: x)) (S [62]) (S (g ++ 62 :: x)).length g.length := ⟨by rw [hl, h1]; omega, by
    rw [hs, decide_eq_true]
    rw [List.getElem?_append_right (Nat.le_refl _), Nat.sub_self]
    rfl⟩
  have hno : ∀ k, k < g.length → ¬ At (S (g ++ 62 :: x)) (S [62]) (S (g ++ 62 :: x)).length k := fun k hk ⟨_, h⟩ => by
    rw [hs] at h
    have h := of_decide_eq_true h
    rw [List.getElem?_append_left hk] at h
    exact hg (List.mem_of_getElem? h)
  have ho : occurrences (S (g ++ 62 :: x)) (S [62]) 0 (S (g ++ 62 :: x)).length 1 = [g.length] := by
    rcases occ_head (S (g ++ 62 :: x)) (S [62]) 1 (Nat.le_refl _) with ⟨_, h⟩ | ⟨i, r, e, hi, hb⟩
    · exact absurd hat (h g.length)
    · have hl1 := occ_length_le (S (g ++ 62 :: x)) (S [62]) 0 (S (g ++ 62 :: x)).length 1
      rw [e, List.length_cons] at hl1
      have hr : r = [] := List.length_eq_zero_iff.mp (by omega)
      have h2 : i = g.length := by
        rcases Nat.lt_trichotomy i g.length with h | h | h
        · exact absurd hi (hno i h)
        · exact h
        · exact absurd hat (hb g.length h)
      rw [e, hr, h2]
  unfold Txt.splitMax
  have hlim : limitOf (S (g ++ 62 :: x)) 1 = 1 := by
    unfold limitOf
    rw [if_neg (by decide)]
    rfl
  rw [hlim, ho, decide_eq_false (by rw [hl, h1]; omega), decide_eq_false k2]
  rw [if_neg (by decide), if_neg (by simp)]
  unfold partsBetween strSub
  rw [hl, h1]
  show [(⟨(S (g ++ 62 :: x)).cps.extract 0 g.length⟩ : Str), ⟨(S (g ++ 62 :: x)).cps.extract (g.length + 1) (g.length + 1 + x.length)⟩] = _
  have e1 : (S (g ++ 62 :: x)).cps.extract 0 g.length = (S g).cps := by
    refine Array.toList_inj.mp ?_
    simp [S]
  have e2 : (S (g ++ 62 :: x)).cps.extract (g.length + 1) (g.length + 1 + x.length) = (S x).cps := by
    refine Array.toList_inj.mp ?_
    simp [S]
  rw [e1, e2]
end CL

/-! ### blocks put in or told otherwise: the same page -/
namespace FM
open PySem PySem.Spec PyProof.Rows L2 My RM PM DM IM TR BM PG
structure Sam (k : Nat) (a b : List Blk) : Prop where
  P : bsP b = bsP a
  I : ∀ t acc f, itemP t acc f b = itemP t acc f a
  g : gBs a = true → gBs b = true
  s : sBs a = true → sBs b = true
  h : hBs b ≤ hBs a
  p : pBs b ≤ pBs a + k
structure SamB (k : Nat) (a b : Blk) : Prop where
  P : bp b = bp a
  D : isDefn b = isDefn a
  R : isPar b = isPar a
  B : bareP b = bareP a
  g : gB a = true → gB b = true
  s : sB a = true → sB b = true
  h : hB b ≤ hB a
  p : pB b ≤ pB a + k
structure SamI (k : Nat) (a b : List (List Blk)) : Prop where
  P : ∀ t, itsP t b = itsP t a
  L : b.length = a.length
  g : gIts a = true → gIts b = true
  s : sIts a = true → sIts b = true
  h : hIts b ≤ hIts a
  p : pIts b ≤ pIts a + k
theorem Sam.refl (a : List Blk) : Sam 0 a a := ⟨rfl, fun _ _ _ => rfl, id, id, Nat.le_refl _, Nat.le_refl _⟩
theorem SamB.refl (a : Blk) : SamB 0 a a := ⟨rfl, rfl, rfl, rfl, id, id, Nat.le_refl _, Nat.le_refl _⟩
theorem SamI.refl (a : List (List Blk)) : SamI 0 a a := ⟨fun _ => rfl, rfl, id, id, Nat.le_refl _, Nat.le_refl _⟩
theorem Sam.cons {k j : Nat} {x y : Blk} {a b : List Blk} (h : SamB k x y) (r : Sam j a b) : Sam (k + j) (x :: a) (y :: b) where
  P := by
    show bp y ++ bsP b = bp x ++ bsP a
    rw [h.P, r.P]
  I := fun t acc f => by
    show (if isDefn y = true then itemP t acc f b else itemP t (acc ++ nlP acc (t && isPar y && f) ++ (if (t && isPar y) = true then bareP y else bp y)) false b) = if isDefn x = true then itemP t acc f a else itemP t (acc ++ nlP acc (t && isPar x && f) ++ (if (t && isPar x) = true then bareP x else bp x)) false a
    rw [h.D, h.R, h.B, h.P, r.I, r.I]
  g := fun e => by
    have e' : (gB x && gBs a) = true := e
    rw [Bool.and_eq_true] at e'
    show (gB y && gBs b) = true
    rw [h.g e'.1, r.g e'.2]
    rfl
  s := fun e => by
    have e' : (sB x && sBs a) = true := e
    rw [Bool.and_eq_true] at e'
    show (sB y && sBs b) = true
    rw [h.s e'.1, r.s e'.2]
    rfl
  h := by
    have := h.h
    have := r.h
    show max (hB y) (hBs b) ≤ max (hB x) (hBs a)
    omega
  p := by
    have := h.p
    have := r.p
    show pB y + pBs b ≤ pB x + pBs a + (k + j)
    omega
theorem Sam.ahead {k : Nat} {a b : List Blk} (r : Sam k a b) : ∀ c : List Blk, Sam k (c ++ a) (c ++ b)
  | [] => r
  | x :: c => by
    have := Sam.cons (.refl x) (Sam.ahead r c)
    rw [Nat.zero_add] at this
    exact this
theorem Sam.mid {k : Nat} {x y : Blk} (h : SamB k x y) (a c : List Blk) : Sam k (a ++ x :: c) (a ++ y :: c) := Sam.ahead (Sam.cons h (.refl c)) a
theorem Sam.ins {l d : List Nat} {t : Option (List Nat)} (hg : gB (.defn l d t) = true) (hs : sB (.defn l d t) = true) (a c : List Blk) : Sam 1 (a ++ c) (a ++ .defn l d t :: c) := Sam.ahead (⟨by
    show [] ++ bsP c = bsP c
    rfl, fun t acc f => by
    show (if true = true then itemP t acc f c else _) = _
    rw [if_pos rfl], fun e => by
    show (gB (.defn l d t) && gBs c) = true
    rw [hg, e]
    rfl, fun e => by
    show (sB (.defn l d t) && sBs c) = true
    rw [hs, e]
    rfl, by
    show max 0 (hBs c) ≤ hBs c
    omega, by
    show 1 + pBs c ≤ pBs c + 1
    omega⟩) a
inductive Pw : List Blk → List Blk → Prop
  | nil : Pw [] []
  | cons {x y : Blk} {a b : List Blk} : SamB 0 x y → Pw a b → Pw (x :: a) (y :: b)
theorem Pw.snoc {x y : Blk} : ∀ {a b : List Blk}, Pw a b → SamB 0 x y → Pw (a ++ [x]) (b ++ [y])
  | _, _, .nil, h => .cons h .nil
  | _, _, .cons g r, h => .cons g (r.snoc h)
theorem Pw.len : ∀ {a b : List Blk}, Pw a b → b.length = a.length
  | _, _, .nil => rfl
  | _, _, .cons _ r => by rw [List.length_cons, List.length_cons, r.len]
theorem Pw.sam : ∀ {a b : List Blk}, Pw a b → Sam 0 a b
  | _, _, .nil => .refl []
  | _, _, .cons h r => Sam.cons h r.sam
theorem SamI.cons {k j : Nat} {x y : List Blk} {a b : List (List Blk)} (h : Sam k x y) (r : SamI j a b) : SamI (k + j) (x :: a) (y :: b) where
  P := fun t => by
    show itemP t (cs "<li>") true y ++ cs "</li>\n" ++ itsP t b = itemP t (cs "<li>") true x ++ cs "</li>\n" ++ itsP t a
    rw [h.I, r.P]
  L := by rw [List.length_cons, List.length_cons, r.L]
  g := fun e => by
    have e' : (gBs x && gIts a) = true := e
    rw [Bool.and_eq_true] at e'
    show (gBs y && gIts b) = true
    rw [h.g e'.1, r.g e'.2]
    rfl
  s := fun e => by
    have e' : (sBs x && sIts a) = true := e
    rw [Bool.and_eq_true] at e'
    show (sBs y && sIts b) = true
    rw [h.s e'.1, r.s e'.2]
    rfl
  h := by
    have := h.h
    have := r.h
    show max (1 + hBs y) (hIts b) ≤ max (1 + hBs x) (hIts a)
    omega
  p := by
    have := h.p
    have := r.p
    show pBs y + pIts b ≤ pBs x + pIts a + (k + j)
    omega
theorem SamI.ahead {k : Nat} {a b : List (List Blk)} (r : SamI k a b) : ∀ c : List (List Blk), SamI k (c ++ a) (c ++ b)
  | [] => r
  | x :: c => by
    have := SamI.cons (.refl x) (SamI.ahead r c)
    rw [Nat.zero_add] at this
    exact this
theorem SamI.mid {k : Nat} {x y : List Blk} (h : Sam k x y) (a c : List (List Blk)) : SamI k (a ++ x :: c) (a ++ y :: c) := SamI.ahead (SamI.cons h (.refl c)) a
inductive PwI : List (List Blk) → List (List Blk) → Prop
  | nil : PwI [] []
  | cons {x y : List Blk} {a b : List (List Blk)} : Sam 0 x y → PwI a b → PwI (x :: a) (y :: b)
theorem PwI.snoc {x y : List Blk} : ∀ {a b : List (List Blk)}, PwI a b → Sam 0 x y → PwI (a ++ [x]) (b ++ [y])
  | _, _, .nil, h => .cons h .nil
  | _, _, .cons g r, h => .cons g (r.snoc h)
theorem PwI.len : ∀ {a b : List (List Blk)}, PwI a b → b.length = a.length
  | _, _, .nil => rfl
  | _, _, .cons _ r => by rw [List.length_cons, List.length_cons, r.len]
theorem PwI.sam : ∀ {a b : List (List Blk)}, PwI a b → SamI 0 a b
  | _, _, .nil => .refl []
  | _, _, .cons h r => SamI.cons h r.sam
theorem SamB.quote {k : Nat} {a b : List Blk} (h : Sam k a b) : SamB k (.quote a) (.quote b) where
  P := by
    show cs "<blockquote>\n" ++ bsP b ++ cs "</blockquote>\n" = cs "<blockquote>\n" ++ bsP a ++ cs "</blockquote>\n"
    rw [h.P]
  D := rfl
  R := rfl
  B := rfl
  g := h.g
  s := h.s
  h := by
    have := h.h
    show 1 + hBs b ≤ 1 + hBs a
    omega
  p := by
    have := h.p
    show 1 + pBs b ≤ 1 + pBs a + k
    omega
theorem SamB.list {k : Nat} {a b : List (List Blk)} (h : SamI k a b) (z : Str) (st : Option Nat) (t : Bool) : SamB k (.list z st t a) (.list z st t b) where
  P := by
    show openP st ++ itsP t b ++ closeP st = openP st ++ itsP t a ++ closeP st
    rw [h.P]
  D := rfl
  R := rfl
  B := rfl
  g := fun e => by
    have e' : (fitStart z (optI st) && !a.isEmpty && gIts a) = true := e
    rw [Bool.and_eq_true, Bool.and_eq_true] at e'
    show (fitStart z (optI st) && !b.isEmpty && gIts b) = true
    have hb : b.isEmpty = a.isEmpty := by
      have := h.L
      cases a with
      | nil => cases b with
        | nil => rfl
        | cons y b => cases this
      | cons x a => cases b with
        | nil => cases this
        | cons y b => rfl
    rw [hb, e'.1.1, e'.1.2, h.g e'.2]
    rfl
  s := fun e => by
    have e' : (decide (a.length ≤ 3) && StartsL.contains st && sIts a) = true := e
    rw [Bool.and_eq_true] at e'
    show (decide (b.length ≤ 3) && StartsL.contains st && sIts b) = true
    rw [h.L, e'.1, h.s e'.2]
    rfl
  h := h.h
  p := by
    have := h.p
    show 1 + pIts b ≤ 1 + pIts a + k
    omega
/-! an info whose first word stays -/
theorem info_tail : ∀ i ∈ InfosL, ∀ l, i = some l → ∀ u ∈ tailsI, langP (some (firstW l ++ u)) = langP i ∧ InfosL.contains (some (firstW l ++ u)) = true ∧ gTxt (firstW l ++ u) = true := by
  have h : ∀ i ∈ InfosL, ∀ u ∈ tailsI, langP (some (firstW (i.getD []) ++ u)) = langP (some (i.getD [])) ∧ InfosL.contains (some (firstW (i.getD []) ++ u)) = true ∧ gTxt (firstW (i.getD []) ++ u) = true := by decide +kernel
  intro i hi l e u hu
  subst e
  exact h _ hi u hu
theorem SamB.code {t l u : List Nat} (hi : InfosL.contains (some l) = true) (hu : u ∈ tailsI) : SamB 0 (.code t (some l)) (.code t (some (firstW l ++ u))) := by
  obtain ⟨h1, h2, h3⟩ := info_tail (some l) (by simpa using hi) l rfl u hu
  refine ⟨?_, rfl, rfl, rfl, fun e => ?_, fun e => ?_, Nat.le_refl _, Nat.le_refl _⟩
  · show cs "<pre><code" ++ langP (some (firstW l ++ u)) ++ cs ">" ++ escL t ++ cs "</code></pre>\n" = cs "<pre><code" ++ langP (some l) ++ cs ">" ++ escL t ++ cs "</code></pre>\n"
    rw [h1]
  · have e' : (gTxt l && (isLns (.str (S t)) || t.isEmpty)) = true := e
    rw [Bool.and_eq_true] at e'
    show (gTxt (firstW l ++ u) && (isLns (.str (S t)) || t.isEmpty)) = true
    rw [h3, e'.2]
    rfl
  · have e' : (decide (t.length ≤ 50) && InfosL.contains (some l)) = true := e
    rw [Bool.and_eq_true] at e'
    show (decide (t.length ≤ 50) && InfosL.contains (some (firstW l ++ u))) = true
    rw [h2, e'.1]
    rfl
/-- a soft break's page is a line feed's -/
theorem soft_page (a b : List Nat) : bsP [.par [.text a, .soft, .text b]] = bsP [.par [.text (a ++ [10] ++ b)]] := by
  have e : escL (a ++ [10] ++ b) = escL a ++ cs "\n" ++ escL b := by
    unfold escL
    rw [List.flatMap_append, List.flatMap_append]
    rfl
  show (cs "<p>" ++ (escL a ++ (cs "\n" ++ (escL b ++ []))) ++ cs "</p>\n") ++ [] = (cs "<p>" ++ (escL (a ++ [10] ++ b) ++ []) ++ cs "</p>\n") ++ []
  rw [e]
  simp only [List.append_assoc, List.append_nil]
end FM

/-! k03: super().__init__(..) in an own exception's __init__, over the heap -/
namespace XI
open PySem PySem.W PySem.Calls PyProof.Rows PySem.HandSPX PySem.Spec
abbrev excX (C t : Addr) (dv : Option Addr) : Obj := { cls := .ref C, dict := dv, data := .fields #[.ref t, .none, .none, .none, .bool false, .none] }
/-- what the written part says of the class C, whose __init__ is f -/
structure ECls (P : Program) (K : Frag) (C f cc cda : Addr) (ar : Arg) (qual : Str) (scope : Scope) (body : List Stmt) (fd : FuncData) : Prop where
  oex : L2.OexC K C
  fn : ∃ oc od osl, K.lookup f = some ⟨oc, od, .func fd, osl⟩
  head : (fd.params.posonlyargs ++ fd.params.args).head? = some ar
  code : ∃ ccl cdd vs ccs file tf, K.lookup cda = some ⟨ccl, cdd, .fields vs, ccs⟩ ∧ vs[2]? = some (.str file tf) ∧ ((P.main.file : Str) == file) = true
  cell : ∃ cl cld csl, K.lookup cc = some ⟨cl, cld, .cell (some (.ref C)), csl⟩
  mro : mroIn K C (.ref C) = some true
  top : (P.main.scope.names.lookup ("super" : Str)).isSome = false
  opq : nsIn K cStatics "thirdparty.any" = some none
  sup : ks_superIn K C C "__init__" = some (some (.builtin "ValueError.__init__"))
  isVE : subIn K (.ref C) (.type "ValueError") = some true
section
variable {prog : Program} {w : World} {A : Around} {E : Value → Shared → Prop} {K : Frag} {C f cc cda L e t0 : Addr} {ar : Arg} {qual : Str} {scope : Scope} {body : List Stmt} {fd : FuncData}
theorem mw_call {h : Heap} {g : Array GenState} {d : Drawn} {t : Nat} {os : OsState} {u : Addr} {vs : List Value} {Q : Value → Shared → Prop} (T : L2.OexC K C) (X : K.In h) (hu : h.get? u = some (kxs_mw "ValueError.__init__" e)) (he : h.get? e = some (excX C t0 none)) (hz : vs.length ≤ sizeLine)
    (q : ∀ h' t1, (∀ b o, b ≠ e → h.get? b = some o → h'.get? b = some o) → h'.get? e = some (excX C t1 none) → Q .none ⟨h', g, d, t, os⟩) : wpAny (model prog w) A (call (.ref u) vs) Q E ⟨h, g, d, t, os⟩ := by
  obtain ⟨nm, qn, N, bs, bm, sn, sub, ab, col, dd, k0, k1, k2, k3, k5, hC, hbm⟩ := T.cls
  have FB := F.excBase_ValueError
  have cls1 : (Value.type "method-wrapper" == Value.type "method" || Value.type "method-wrapper" == Value.type "builtin_function_or_method" || Value.type "method-wrapper" == Value.type "method-wrapper") = true := by decide
  refine wpAny_call (codeAny_of_tree (show wpAny _ A.in1 (callAny (.ref u) ⟨vs, []⟩) _ _ _ from ?_))
  simp only [callAny]
  refine wpAny_bind (wpAny_load hu ?_)
  simp only [kxs_mw, cls1, if_true]
  refine KFB.if_so (by decide) (wpAny_bind (check_bound_init FB.toExcCallFacts (X _ _ hC) he rfl (wpAny_bind (wpAny_pure (wpAny_pure ⟨plainId_quiet FB.init.plain _, codeAny_builtin FB.initEntry ?_⟩)))))
  exact exc_init_tree (cls := .ref C) (t0 := t0) (dv := none) (c2 := .none) (c3 := .none) (b4 := .bool false) he hz fun h' k e' _ => q h' _ k e'
theorem super_init {s : Shared} {mg mb m : Str → Option Value} {p0 p1 p2 p3 : Pos} {args : List Expr} {Q : Value → Shared → Prop} (T : ECls prog K C f cc cda ar qual scope body fd) (X : K.In s.heap)
    (hglob : s.heap.Ns mainGlobals mg) (hsup : mg "super" = none) (hblt : s.heap.Ns builtinsNs mb) (hb : mb "super" = some (.type "super")) (hns : s.heap.Ns L m) (hv : m ar.arg = some (.ref e)) (he : s.heap.get? e = some (excX C t0 none))
    (hks : scope.names.lookup ("super" : Str) = some .globalImplicit) (hkc : scope.names.lookup ("__class__" : Str) = some .free) (hka : scope.names.lookup ar.arg = some .local) (hk : scope.kind = .function) (heC : e ≠ C)
    {pl : Sem Bool}
    (heq : eval (.Call (.Attribute (.Call (.Name "super" p0) [] [] p1) "__init__" p2) args [] p3) (ksEnv qual scope L f (.ref cda) cc) = (do
      let ov ← attributeBase (.Call (.Name "super" p0) [] [] p1) "__init__" (ksEnv qual scope L f (.ref cda) cc) (eval (.Call (.Name "super" p0) [] [] p1) (ksEnv qual scope L f (.ref cda) cc))
      standAt p2.atName
      let (f', first) ← holding [ov] (getMethod ov "__init__" pl)
      callWith p3 f' first (backTo p3 (starEach args (ksEnv qual scope L f (.ref cda) cc))) []))
    (hpl : (backTo p3 (starEach args (ksEnv qual scope L f (.ref cda) cc))).any (·.1) = false)
    (hev : ∀ (u : Addr) (s' : Shared) (P : Args → Shared → Prop), (∀ vs tk, vs.length ≤ 1 → P ⟨vs, []⟩ { s' with toks := tk }) → wpAny (model prog w) A (evalArgs (.ref u) true (backTo p3 (starEach args (ksEnv qual scope L f (.ref cda) cc))) []) P E s')
    (q : ∀ h' t1 tk, (∀ b o, b ≠ e → s.heap.get? b = some o → h'.get? b = some o) → h'.get? e = some (excX C t1 none) → Q .none { s with heap := h', toks := tk }) :
    _root_.PySem.wpAt (model prog w) A (.func body (ksEnv qual scope L f (.ref cda) cc)) (eval (.Call (.Attribute (.Call (.Name "super" p0) [] [] p1) "__init__" p2) args [] p3) (ksEnv qual scope L f (.ref cda) cc)) Q E s := by
  obtain ⟨nm, qn, N, bs, bm, sn, sub, ab, col, dd, k0, k1, k2, k3, k5, hC, hbm⟩ := T.oex.cls
  obtain ⟨oc, od, osl, hf⟩ := T.fn
  obtain ⟨ccl, cdd, vs, ccs, file, tf, hcode, hvs, hfile⟩ := T.code
  obtain ⟨cl, cld, csl, hcell⟩ := T.cell
  refine ks_wpAt_MethodCall (pl := pl) ?_ heq
  refine ks_wpAt_super_base (env := ksEnv qual scope L f (.ref cda) cc) hks hkc rfl rfl (X _ _ hf) rfl T.head rfl (X _ _ hcode) rfl hvs hfile T.top ?_
  refine ks_loadName_global hk hks (loadGlobal_builtin (env := ksEnv qual scope L f (.ref cda) cc) hglob hsup hblt hb ⟨rfl, ?_⟩)
  refine wpAny_loadName_free hk hkc rfl ⟨_, X _ _ hcell, rfl⟩ ?_
  refine wpAny_loadName_local hk hka hns hv ?_
  obtain ⟨hh, g, d, t, os⟩ := s
  refine ks_wpAny_isType_cls (X _ _ hC) rfl ⟨rfl, ?_⟩
  refine ks_wpAny_call_super (X _ _ hC) rfl he rfl (fun c z => by cases z) (looks_mroIn X T.mro) fun h1 hso k1' => ?_
  have X1 : K.In h1 := X.keeps k1'
  have I1 : InstAt h1 e (excX C t0 none) C none := ⟨k1' _ _ he, rfl, rfl, trivial⟩
  have hI : Looks (model prog w) h1 (isInstance (.ref e) (.type "ValueError")) true := I1.type.andThen (looks_subIn X1 T.isVE)
  have hcl : clsIn K C = some { name := nm, bases := bs, mro := .ref C :: bm, ns := N, qualname := qn, hasDict := true, slotNames := sn, subclasses := sub, abstract := ab, collection := col, hasDel := false } := by unfold clsIn; rw [hC] <;> rfl
  have hm := T.sup
  unfold ks_superIn at hm
  rw [hcl] at hm
  refine kxs_getMethod kxs_ValueError hso (looks_opaque X1 T.opq) (l₀ := .ref C :: bm) (fun A Q E s k q => wpAny_bind ((looks_clsIn X1 hcl) A _ E s k (wpAny_pure q))) rfl X1 hm hI heC rfl ?_
  refine kxs_callWith (i := "ValueError.__init__") (x := e) hpl (hev _ _ _ fun us tk hus => ⟨Heap.get?_push_size _ rfl, ?_⟩)
  have k2 : ∀ b o, h1.get? b = some o → (h1.push (kxs_mw "ValueError.__init__" e)).get? b = some o := fun b o z => Heap.get?_push_of_some _ z
  refine mw_call T.oex (X1.keeps k2) (Heap.get?_push_size _ rfl) (k2 _ _ (k1' _ _ he)) (Nat.le_trans hus (by decide)) fun h' t1 k3' e3 => ?_
  exact q h' t1 _ (fun b o n z => k3' b o n (k2 _ _ (k1' _ _ z))) e3
/-- a class of one field: super().__init__('..'); self.x = x -/
theorem init_two {s : Shared} {mg mb : Str → Option Value} {p0 p1 p2 p3 p4 p5 p6 p7 p8 p9 : Pos} {kk : Nat} {msg self fld name : Str} {params : Arguments} {dV kV doc pm ct : Value} {an : Option Addr} {args : Args} {v : Value} {R : Result → Shared → Prop}
    (T : ECls prog K C f cc cda ar qual scope body (ksFn name qual params body scope dV kV doc pm an (.ref cda) ct cc))
    (hb0 : body = [.Expr (.Call (.Attribute (.Call (.Name "super" p0) [] [] p1) "__init__" p2) [.Constant (.str msg) kk p4] [] p3) p5, .Assign [.Attribute (.Name self p6) fld p7] (.Name fld p8) p9]) (X : K.In s.heap) (hlim : s.heap.NoLimit)
    (hglob : s.heap.Ns mainGlobals mg) (hsup : mg "super" = none) (hblt : s.heap.Ns builtinsNs mb) (hb : mb "super" = some (.type "super")) (he : s.heap.get? e = some (excX C t0 none)) (heC : e ≠ C)
    (har : ar.arg = self) (hsf : self ≠ fld) (hd1 : (self == ("__debug__" : Str)) = false) (hd2 : (fld == ("__debug__" : Str)) = false)
    (hks : scope.names.lookup ("super" : Str) = some .globalImplicit) (hkc : scope.names.lookup ("__class__" : Str) = some .free) (hk1 : scope.names.lookup self = some .local) (hk2 : scope.names.lookup fld = some .local)
    (hcell : ∀ x ∈ scope.names, x.2 ≠ .cell) (hco : scope.isCoroutine = false) (hgen : scope.isGenerator = false) (hk : scope.kind = .function) (hcd : codeIn K (.ref cda) qual = true) (hroom : A.depth < recursionLimit)
    (hno : findIn K (.ref C) fld = some none)
    (hKe : K.lookup e = none) (hi : ∀ L : Addr, interactive (ksEnv qual scope L f (.ref cda) cc) = false)
    (hs1 : ∀ L : Addr, swapsWith (.Call (.Attribute (.Call (.Name "super" p0) [] [] p1) "__init__" p2) [.Constant (.str msg) kk p4] [] p3) none p5.line (ksEnv qual scope L f (.ref cda) cc) = pure false)
    (hs2 : ∀ L : Addr, swapsWith (.Name fld p8) (some (.Attribute (.Name self p6) fld p7)) p9.line (ksEnv qual scope L f (.ref cda) cc) = pure false)
    (heq : ∀ L : Addr, ∃ pl : Sem Bool, eval (.Call (.Attribute (.Call (.Name "super" p0) [] [] p1) "__init__" p2) [.Constant (.str msg) kk p4] [] p3) (ksEnv qual scope L f (.ref cda) cc) = (do
      let ov ← attributeBase (.Call (.Name "super" p0) [] [] p1) "__init__" (ksEnv qual scope L f (.ref cda) cc) (eval (.Call (.Name "super" p0) [] [] p1) (ksEnv qual scope L f (.ref cda) cc))
      standAt p2.atName
      let (f', first) ← holding [ov] (getMethod ov "__init__" pl)
      callWith p3 f' first (backTo p3 (starEach [.Constant (.str msg) kk p4] (ksEnv qual scope L f (.ref cda) cc))) []))
    (hbind : BindsTo s (ksFn name qual params body scope dV kV doc pm an (.ref cda) ct cc) args [(self, .ref e), (fld, v)])
    (q : ∀ h' t1 dx tk, (∀ b o, b ≠ e → s.heap.get? b = some o → h'.get? b = some o) → s.heap.get? dx = none → dx ≠ e → h'.get? e = some (excX C t1 (some dx)) → h'.Ns1 dx (fun y => if y = fld then some v else none) → R (.ok (.ret .none)) ⟨h', s.gens, s.drawn, tk, s.os⟩) :
    codeAny (model prog w) A (.call (.ref f) args) R s := by
  obtain ⟨oc, od, osl, hf⟩ := T.fn
  refine ks_codeAny_call_defAt (fd := ksFn name qual params body scope dV kV doc pm an (.ref cda) ct cc) (body := body) (binds := [(self, .ref e), (fld, v)]) hroom (X _ _ hf) rfl hlim (codeRec_of X hcd) rfl hbind hcell (fun x hx => ?_) (fun h1 hns k1 => ?_) hco hgen hk
  · simp only [List.mem_cons, List.not_mem_nil, or_false] at hx
    rcases hx with rfl | rfl
    · exact hk1
    · exact hk2
  subst hb0
  subst har
  have m1 : ([(ar.arg, Value.ref e), (fld, v)].reverse.lookup ar.arg) = some (.ref e) := by
    show List.lookup ar.arg [(fld, v), (ar.arg, Value.ref e)] = _
    rw [List.lookup_cons, beq_eq_false_iff_ne.mpr hsf]
    show List.lookup ar.arg [(ar.arg, Value.ref e)] = _
    rw [List.lookup_cons, beq_self_eq_true]
  have m2 : ([(ar.arg, Value.ref e), (fld, v)].reverse.lookup fld) = some v := by
    show List.lookup fld [(fld, v), (ar.arg, Value.ref e)] = _
    rw [List.lookup_cons, beq_self_eq_true]
  obtain ⟨pl, heq'⟩ := heq s.heap.objs.size
  refine ks_wpAt_execs_cons (ks_wpAt_Expr_any ?_ ?_ ?_)
  · refine super_init (s := { s with heap := h1, toks := s.toks + _ }) T (X.keeps k1) (hglob.keeps k1) hsup (hblt.keeps k1) hb hns m1 (k1 _ _ he) hks hkc hk1 hk heC heq' (by rfl) ?_ ?_
    · intro u s' P hP
      exact evalArgs_plain (spliced_cons (Constant_str (k := kk) (pos := p4) (spliced_nil (hP _ _ (by simp)))))
    · intro h2 t1 tk k2 e2
      have keep : ∀ b o, b ≠ e → s.heap.get? b = some o → h2.get? b = some o := fun b o n z => k2 b o n (k1 _ _ z)
      have X2 : K.In h2 := fun b o z => keep b o (fun y => by
        rw [y, hKe] at z
        cases z) (X b o z)
      have hL : s.heap.objs.size ≠ e := fun y => absurd (Heap.lt_size he) (by rw [y]; exact Nat.lt_irrefl _)
      have ns2 : h2.Ns s.heap.objs.size (fun x => List.lookup x [(ar.arg, Value.ref e), (fld, v)].reverse) := hns.at' fun o z => k2 _ o hL z
      obtain ⟨nm, qn, N, bs, bm, sn, sub, ab, col, dd, k0, k1', k2', k3', k5', hC, hbm⟩ := T.oex.cls
      have hcl : clsIn K C = some { name := nm, bases := bs, mro := .ref C :: bm, ns := N, qualname := qn, hasDict := true, slotNames := sn, subclasses := sub, abstract := ab, collection := col, hasDel := false } := by unfold clsIn; rw [hC] <;> rfl
      refine ks_wpAt_execs_cons (ks_wpAt_Assign_Attr ?_ (hs2 _))
      refine wpAt_of_wpAny (wpAny_Name (wpAny_loadName_local hk hk2 ns2 m2 ?_) hd2)
      refine wpAny_Name (wpAny_loadName_local hk hk1 ns2 m1 ?_) hd1
      refine set_plain X2 (ox := excX C t1 none) (od := none) ⟨e2, rfl, rfl, trivial⟩ T.oex.sa ?_
      refine exc_osa X2 e2 hcl (show refsVE (.ref C :: bm) = true from hbm) rfl hno fun h' tk' dx k dn dne hx hn => ?_
      refine wpAt_of_wpAny (wpAny_execs_nil ?_)
      refine q h' t1 dx tk' (fun b o n z => k b o n (keep b o n z)) ?_ dne hx hn
      cases z : s.heap.get? dx with
      | none => rfl
      | some o => exact absurd (Heap.lt_size (keep dx o dne z)) (Nat.not_lt.mpr dn)
  · exact hi _
  · exact hs1 _
/-- a class without fields: super().__init__() -/
theorem init_one {s : Shared} {mg mb : Str → Option Value} {p0 p1 p2 p3 p5 : Pos} {self name : Str} {params : Arguments} {dV kV doc pm ct : Value} {an : Option Addr} {args : Args} {R : Result → Shared → Prop}
    (T : ECls prog K C f cc cda ar qual scope body (ksFn name qual params body scope dV kV doc pm an (.ref cda) ct cc))
    (hb0 : body = [.Expr (.Call (.Attribute (.Call (.Name "super" p0) [] [] p1) "__init__" p2) [] [] p3) p5]) (X : K.In s.heap) (hlim : s.heap.NoLimit)
    (hglob : s.heap.Ns mainGlobals mg) (hsup : mg "super" = none) (hblt : s.heap.Ns builtinsNs mb) (hb : mb "super" = some (.type "super")) (he : s.heap.get? e = some (excX C t0 none)) (heC : e ≠ C) (har : ar.arg = self)
    (hks : scope.names.lookup ("super" : Str) = some .globalImplicit) (hkc : scope.names.lookup ("__class__" : Str) = some .free) (hk1 : scope.names.lookup self = some .local)
    (hcell : ∀ x ∈ scope.names, x.2 ≠ .cell) (hco : scope.isCoroutine = false) (hgen : scope.isGenerator = false) (hk : scope.kind = .function) (hcd : codeIn K (.ref cda) qual = true) (hroom : A.depth < recursionLimit)
    (hi : ∀ L : Addr, interactive (ksEnv qual scope L f (.ref cda) cc) = false)
    (hs1 : ∀ L : Addr, swapsWith (.Call (.Attribute (.Call (.Name "super" p0) [] [] p1) "__init__" p2) [] [] p3) none p5.line (ksEnv qual scope L f (.ref cda) cc) = pure false)
    (heq : ∀ L : Addr, ∃ pl : Sem Bool, eval (.Call (.Attribute (.Call (.Name "super" p0) [] [] p1) "__init__" p2) [] [] p3) (ksEnv qual scope L f (.ref cda) cc) = (do
      let ov ← attributeBase (.Call (.Name "super" p0) [] [] p1) "__init__" (ksEnv qual scope L f (.ref cda) cc) (eval (.Call (.Name "super" p0) [] [] p1) (ksEnv qual scope L f (.ref cda) cc))
      standAt p2.atName
      let (f', first) ← holding [ov] (getMethod ov "__init__" pl)
      callWith p3 f' first (backTo p3 (starEach [] (ksEnv qual scope L f (.ref cda) cc))) []))
    (hbind : BindsTo s (ksFn name qual params body scope dV kV doc pm an (.ref cda) ct cc) args [(self, .ref e)])
    (q : ∀ h' t1 tk, (∀ b o, b ≠ e → s.heap.get? b = some o → h'.get? b = some o) → h'.get? e = some (excX C t1 none) → R (.ok (.ret .none)) ⟨h', s.gens, s.drawn, tk, s.os⟩) :
    codeAny (model prog w) A (.call (.ref f) args) R s := by
  obtain ⟨oc, od, osl, hf⟩ := T.fn
  refine ks_codeAny_call_defAt (fd := ksFn name qual params body scope dV kV doc pm an (.ref cda) ct cc) (body := body) (binds := [(self, .ref e)]) hroom (X _ _ hf) rfl hlim (codeRec_of X hcd) rfl hbind hcell (fun x hx => ?_) (fun h1 hns k1 => ?_) hco hgen hk
  · rw [List.mem_singleton.mp hx]
    exact hk1
  subst hb0
  subst har
  have m1 : ([(ar.arg, Value.ref e)].reverse.lookup ar.arg) = some (.ref e) := by
    show List.lookup ar.arg [(ar.arg, Value.ref e)] = _
    rw [List.lookup_cons, beq_self_eq_true]
  obtain ⟨pl, heq'⟩ := heq s.heap.objs.size
  refine ks_wpAt_execs_cons (ks_wpAt_Expr_any ?_ ?_ ?_)
  · refine super_init (s := { s with heap := h1, toks := s.toks + _ }) T (X.keeps k1) (hglob.keeps k1) hsup (hblt.keeps k1) hb hns m1 (k1 _ _ he) hks hkc hk1 hk heC heq' (by rfl) ?_ ?_
    · intro u s' P hP
      exact evalArgs_empty (hP _ s'.toks (by simp))
    · intro h2 t1 tk k2 e2
      refine wpAt_of_wpAny (wpAny_execs_nil ?_)
      exact q h2 t1 tk (fun b o n z => k2 b o n (k1 _ _ z)) e2
  · exact hi _
  · exact hs1 _
end
end XI

namespace L2
open PySem PySem.Spec PyProof.Rows
section
variable {X : Cx} {pins : List (Addr × Obj)} {σ : St} {H : Hp} {s : Shared} {h' : Heap} {e dx : Addr} {o1 o2 : HO} {t' : Nat}
/-- two objects laid at once -/
theorem x_lay2 (I : Inv X pins σ H s) (k : ∀ b u, s.heap.get? b = some u → h'.get? b = some u) (he : s.heap.get? e = none) (hd : s.heap.get? dx = none) (hne : dx ≠ e)
    (n1 : ObjOk X.prog X.w (upd (upd H dx o2) e o1) h' e o1) (n2 : ObjOk X.prog X.w (upd (upd H dx o2) e o1) h' dx o2) : Inv X pins σ (upd (upd H dx o2) e o1) { s with heap := h', toks := t' } := by
  have ge := I.hok.gone he
  have gd := I.hok.gone hd
  have old : ∀ {b : Addr} {u : Obj}, s.heap.get? b = some u → b ≠ e ∧ b ≠ dx := fun {b u} q => ⟨(fun z => by rw [z, he] at q; cases q), (fun z => by rw [z, hd] at q; cases q)⟩
  have same : ∀ {b : Addr} {u : HO}, H b = some u → (upd (upd H dx o2) e o1) b = some u := fun {b u} q => by
    rw [upd_ne (ne_of_none q ge), upd_ne (ne_of_none q gd)]
    exact q
  refine I.un { keep := fun b u q _ _ _ => k b u q, slot := fun b u q _ _ _ => ⟨u.slots, k b u q⟩, free := fun b u q n _ => ?_, there := fun b u q _ => ⟨u, k b u q⟩, tups := fun b xs q => same q, frzs := fun b u v q => same q, tbls := fun b ps q => ⟨#[], by rw [same q]; simp⟩ } fun b u q => ?_
  · rw [upd_ne (old q).1, upd_ne (old q).2]
    exact n
  · by_cases hb : b = e
    · subst hb
      rw [upd_same] at q
      cases q
      exact n1
    · by_cases hb2 : b = dx
      · subst hb2
        rw [upd_ne hb, upd_same] at q
        cases q
        exact n2
      · rw [upd_ne hb, upd_ne hb2] at q
        exact (I.hok b u q).stay (fun c v _ q => k c v q) (fun c q => same q) fun c xs q => same q
end
/-- __init__ of a class of one field keeps its promise -/
def InitTwo (P : Program) (K : PySem.W.Frag) (C f : Addr) (fd : FuncData) (self fld : Str) : Prop := ∀ (w : World) (A : Around) (s : Shared) (mg mb : Str → Option Value) (e t0 : Addr) (args : Args) (v : Value) (R : Result → Shared → Prop),
  K.In s.heap → s.heap.NoLimit → s.heap.Ns mainGlobals mg → mg "super" = none → s.heap.Ns builtinsNs mb → mb "super" = some (.type "super") → s.heap.get? e = some (XI.excX C t0 none) → e ≠ C → K.lookup e = none → A.depth < recursionLimit →
  BindsTo s fd args [(self, .ref e), (fld, v)] →
  (∀ h' t1 dx tk, (∀ b o, b ≠ e → s.heap.get? b = some o → h'.get? b = some o) → s.heap.get? dx = none → dx ≠ e → h'.get? e = some (XI.excX C t1 (some dx)) → h'.Ns1 dx (fun y => if y = fld then some v else none) → R (.ok (.ret .none)) ⟨h', s.gens, s.drawn, tk, s.os⟩) →
  codeAny (model P w) A (.call (.ref f) args) R s
def InitOne (P : Program) (K : PySem.W.Frag) (C f : Addr) (fd : FuncData) (self : Str) : Prop := ∀ (w : World) (A : Around) (s : Shared) (mg mb : Str → Option Value) (e t0 : Addr) (args : Args) (R : Result → Shared → Prop),
  K.In s.heap → s.heap.NoLimit → s.heap.Ns mainGlobals mg → mg "super" = none → s.heap.Ns builtinsNs mb → mb "super" = some (.type "super") → s.heap.get? e = some (XI.excX C t0 none) → e ≠ C → K.lookup e = none → A.depth < recursionLimit →
  BindsTo s fd args [(self, .ref e)] →
  (∀ h' t1 tk, (∀ b o, b ≠ e → s.heap.get? b = some o → h'.get? b = some o) → h'.get? e = some (XI.excX C t1 none) → R (.ok (.ret .none)) ⟨h', s.gens, s.drawn, tk, s.os⟩) →
  codeAny (model P w) A (.call (.ref f) args) R s
/-- what is known of a class and its __init__ -/
structure ClsI (K : PySem.W.Frag) (C f : Addr) : Prop where
  oex : OexC K C
  iC : PySem.W.findIn K (.ref C) "__init__" = some (some (.ref f))
  tI : PySem.W.typeIn K (.ref f) = some (.type "function")
section
variable {X : Cx} {pins : List (Addr × Obj)} {σ : St} {H : Hp} {s : Shared} {C f : Addr} {fd : FuncData} {self fld : Str}
theorem run_mk2 {u : Value} {y : V} {Q : VK} (hr : Room 1 X.A) (T : ClsI X.K C f) (N : InitTwo X.prog X.K C f fd self fld) (hsup : X.mg "super" = none)
    (hb : ∀ s' e, BindsTo s' fd ⟨[.ref e, u], []⟩ [(self, .ref e), (fld, u)]) (I : Inv X pins σ H s) (ry : RelV y u)
    (q : ∀ e dx, H e = none → H dx = none → dx ≠ e → Q (.ref e) (upd (upd H dx (exd dx [(fld, y)])) e (exo e C (some dx)))) :
    wpAny (model X.prog X.w) X.A (call (.ref C) [u]) (EP X pins σ Q) X.xe s := by
  obtain ⟨nm, qn, Nn, bs, bm, sn, sub, ab, col, dd, k0, k1, k2, k3, k5, hC, hbm⟩ := T.oex.cls
  obtain ⟨hp, g, dr, tk, os⟩ := s
  have kk : ∀ b o, hp.get? b = some o → ((hp.push (PySem.W.kdv_tup [u])).push (PySem.HandSPX.excO C hp.objs.size)).get? b = some o := fun b o e => Heap.get?_push_of_some _ (Heap.get?_push_of_some _ e)
  have hget : ((hp.push (PySem.W.kdv_tup [u])).push (PySem.HandSPX.excO C hp.objs.size)).get? (hp.objs.size + 1) = some (PySem.HandSPX.excO C hp.objs.size) := by heap_get
  have hpe : hp.get? (hp.objs.size + 1) = none := by
    cases z : hp.get? (hp.objs.size + 1) with
    | none => rfl
    | some o => exact absurd (Heap.lt_size z) (Nat.not_lt.mpr (Nat.le_succ _))
  have heC : hp.objs.size + 1 ≠ C := fun z => by
    have := I.kIn _ _ hC
    rw [← z, hpe] at this
    cases this
  have hKe : X.K.lookup (hp.objs.size + 1) = none := by
    cases z : X.K.lookup (hp.objs.size + 1) with
    | none => rfl
    | some o =>
      have := I.kIn _ _ z
      rw [hpe] at this
      cases this
  obtain ⟨mb, h1, h2⟩ := I.mod.blt
  refine wpAny_call (PySem.HandSPX.call_own F.excBase_ValueError (fun Y => PySem.HandSPX.refsVE_contains Y bm hbm) (I.kIn _ _ hC) (PySem.W.looks_findIn I.kIn T.iC) (fun self => PySem.W.bind_fn I.kIn self T.tI) (by show 1 ≤ sizeLine; decide) ?_)
  refine N X.w _ _ X.mg mb (hp.objs.size + 1) hp.objs.size _ u _ (fun b o z => kk b o (I.kIn b o z)) ((I.mod.nolimit.keeps I.bk).keeps kk) ((I.mod.glob.keeps I.bk).keeps kk) hsup ((h1.keeps I.bk).keeps kk) ((h2 "super" (by decide)).trans (by decide +kernel)) hget heC hKe ?_ (hb _ _) fun h' t1 dx tk' k hd hne he hn => ?_
  · exact (hr.make C [u] []).depth
  · have kh : ∀ b o, hp.get? b = some o → h'.get? b = some o := fun b o z => k b o (fun y => by rw [y, hpe] at z; cases z) (kk b o z)
    have hd0 : hp.get? dx = none := by
      cases z : hp.get? dx with
      | none => rfl
      | some o => rw [kk _ _ z] at hd; cases hd
    refine ⟨rfl, .ref (hp.objs.size + 1), _, x_lay2 (s := ⟨hp, g, dr, tk, os⟩) (t' := tk') I kh hpe hd0 hne (exo_ok he) (exd_ok hn (relO_put (fs := []) ry fun g => True.intro)), rfl, q _ _ (I.hok.gone hpe) (I.hok.gone hd0) hne⟩
theorem run_mk1 {Q : VK} (hr : Room 1 X.A) (T : ClsI X.K C f) (N : InitOne X.prog X.K C f fd self) (hsup : X.mg "super" = none)
    (hb : ∀ s' e, BindsTo s' fd ⟨[.ref e], []⟩ [(self, .ref e)]) (I : Inv X pins σ H s) (q : ∀ e, H e = none → Q (.ref e) (upd H e (exo e C none))) :
    wpAny (model X.prog X.w) X.A (call (.ref C) []) (EP X pins σ Q) X.xe s := by
  obtain ⟨nm, qn, Nn, bs, bm, sn, sub, ab, col, dd, k0, k1, k2, k3, k5, hC, hbm⟩ := T.oex.cls
  obtain ⟨hp, g, dr, tk, os⟩ := s
  have kk : ∀ b o, hp.get? b = some o → ((hp.push (PySem.W.kdv_tup [])).push (PySem.HandSPX.excO C hp.objs.size)).get? b = some o := fun b o e => Heap.get?_push_of_some _ (Heap.get?_push_of_some _ e)
  have hget : ((hp.push (PySem.W.kdv_tup [])).push (PySem.HandSPX.excO C hp.objs.size)).get? (hp.objs.size + 1) = some (PySem.HandSPX.excO C hp.objs.size) := by heap_get
  have hpe : hp.get? (hp.objs.size + 1) = none := by
    cases z : hp.get? (hp.objs.size + 1) with
    | none => rfl
    | some o => exact absurd (Heap.lt_size z) (Nat.not_lt.mpr (Nat.le_succ _))
  have heC : hp.objs.size + 1 ≠ C := fun z => by
    have := I.kIn _ _ hC
    rw [← z, hpe] at this
    cases this
  have hKe : X.K.lookup (hp.objs.size + 1) = none := by
    cases z : X.K.lookup (hp.objs.size + 1) with
    | none => rfl
    | some o =>
      have := I.kIn _ _ z
      rw [hpe] at this
      cases this
  obtain ⟨mb, h1, h2⟩ := I.mod.blt
  refine wpAny_call (PySem.HandSPX.call_own F.excBase_ValueError (fun Y => PySem.HandSPX.refsVE_contains Y bm hbm) (I.kIn _ _ hC) (PySem.W.looks_findIn I.kIn T.iC) (fun self => PySem.W.bind_fn I.kIn self T.tI) (by show 0 ≤ sizeLine; decide) ?_)
  refine N X.w _ _ X.mg mb (hp.objs.size + 1) hp.objs.size _ _ (fun b o z => kk b o (I.kIn b o z)) ((I.mod.nolimit.keeps I.bk).keeps kk) ((I.mod.glob.keeps I.bk).keeps kk) hsup ((h1.keeps I.bk).keeps kk) ((h2 "super" (by decide)).trans (by decide +kernel)) hget heC hKe ?_ (hb _ _) fun h' t1 tk' k he => ?_
  · exact (hr.make C [] []).depth
  · have kh : ∀ b o, hp.get? b = some o → h'.get? b = some o := fun b o z => k b o (fun y => by rw [y, hpe] at z; cases z) (kk b o z)
    exact ⟨rfl, .ref (hp.objs.size + 1), _, Inv.laidN (s := ⟨hp, g, dr, tk, os⟩) (t' := tk') I kh hpe (I.hok.gone hpe) (exo_ok he), rfl, q _ (I.hok.gone hpe)⟩
end
end L2

/-! ### an own error is raised -/
namespace L2
open PySem PySem.Spec PyProof.Rows
section
variable {X : Cx} {pins : List (Addr × Obj)} {σ : St} {H : Hp} {s : Shared} {C f : Addr} {fd : FuncData} {self fld x : Str} {p pos : Pos}
theorem run_pmk1 {Q : XK} (hr : Room 1 X.A) (T : ClsI X.K C f) (N : InitOne X.prog X.K C f fd self) (hsup : X.mg "super" = none)
    (hb : ∀ s' e, BindsTo s' fd ⟨[.ref e], []⟩ [(self, .ref e)]) (I : Inv X pins σ H s) (q : Q (.ref C) none H) :
    wpAny (model X.prog X.w) X.A (call (.ref C) []) (MkP X pins σ Q) X.xe s := by
  obtain ⟨nm, qn, Nn, bs, bm, sn, sub, ab, col, dd, k0, k1, k2, k3, k5, hC, hbm⟩ := T.oex.cls
  have I0 := I
  obtain ⟨hp, g, dr, tk, os⟩ := s
  have kk : ∀ b o, hp.get? b = some o → ((hp.push (PySem.W.kdv_tup [])).push (PySem.HandSPX.excO C hp.objs.size)).get? b = some o := fun b o e => Heap.get?_push_of_some _ (Heap.get?_push_of_some _ e)
  have hget : ((hp.push (PySem.W.kdv_tup [])).push (PySem.HandSPX.excO C hp.objs.size)).get? (hp.objs.size + 1) = some (PySem.HandSPX.excO C hp.objs.size) := by heap_get
  have hpe : hp.get? (hp.objs.size + 1) = none := by
    cases z : hp.get? (hp.objs.size + 1) with
    | none => rfl
    | some o => exact absurd (Heap.lt_size z) (Nat.not_lt.mpr (Nat.le_succ _))
  have heC : hp.objs.size + 1 ≠ C := fun z => by
    have := I.kIn _ _ hC
    rw [← z, hpe] at this
    cases this
  have hKe : X.K.lookup (hp.objs.size + 1) = none := by
    cases z : X.K.lookup (hp.objs.size + 1) with
    | none => rfl
    | some o =>
      have := I.kIn _ _ z
      rw [hpe] at this
      cases this
  obtain ⟨mb, h1, h2⟩ := I.mod.blt
  refine wpAny_call (PySem.HandSPX.call_own F.excBase_ValueError (fun Y => PySem.HandSPX.refsVE_contains Y bm hbm) (I.kIn _ _ hC) (PySem.W.looks_findIn I.kIn T.iC) (fun self => PySem.W.bind_fn I.kIn self T.tI) (by show 0 ≤ sizeLine; decide) ?_)
  refine N X.w _ _ X.mg mb (hp.objs.size + 1) hp.objs.size _ _ (fun b o z => kk b o (I.kIn b o z)) ((I.mod.nolimit.keeps I.bk).keeps kk) ((I.mod.glob.keeps I.bk).keeps kk) hsup ((h1.keeps I.bk).keeps kk) ((h2 "super" (by decide)).trans (by decide +kernel)) hget heC hKe ?_ (hb _ _) fun h' t1 tk' k he => ?_
  · exact (hr.make C [] []).depth
  · have kh : ∀ b o, hp.get? b = some o → h'.get? b = some o := fun b o z => k b o (fun y => by rw [y, hpe] at z; cases z) (kk b o z)
    exact ⟨rfl, hp.objs.size + 1, _, _, ⟨hp, g, dr, tk, os⟩, H, .ref C, none, rfl, I0, kh, hpe, he, ⟨rfl, rfl⟩, rfl, rfl, I.hok.gone hpe, rfl, I.bare, raises_own T.oex.exC T.oex.tyC, q⟩
theorem pmk1 (hr : Room 1 X.A) (T : ClsI X.K C f) (N : InitOne X.prog X.K C f fd self) (hsup : X.mg "super" = none) (hb : ∀ s' a, BindsTo s' fd ⟨[.ref a], []⟩ [(self, .ref a)]) (hg : Gl X x) (hm : X.mg x = some (.ref C))
    (hdb : (x == ("__debug__" : Str)) = false := by decide) : PMk X (.Call (.Name x p) [] [] pos) (fun _ H Q => Q (.ref C) none H) := fun pins s σ H Q I h =>
  wpAny_Call_Name_kw (ld_glob I hg hm (PySem.W.callWith_K0 I.kIn T.oex.kC (run_pmk1 hr T N hsup hb I h)) hdb)
end
end L2

namespace K16
open PySem PySem.Spec PyProof.Rows L2 My RM PM DM IM TR BM PG
def topS (i : Nat) : Stmt := PySem.Challenge.pw_plainmark_k16_whole_facts_of_pages.main.body.getD i (.Pass ⟨0, 0, 0, 0⟩)
abbrev s_is_escape : Stmt := topS 7
abbrev s_first_plain : Stmt := topS 8
abbrev s_rows_in_block : Stmt := topS 10
abbrev s_rows_in_inline : Stmt := topS 11
abbrev s_folded : Stmt := topS 12
abbrev s_is_label_text : Stmt := topS 15
abbrev s_is_label : Stmt := topS 16
abbrev s_label_at : Stmt := topS 17
abbrev s_is_integer_to : Stmt := topS 19
abbrev s_is_tree : Stmt := topS 27
abbrev s_rows_of_row : Stmt := topS 28
abbrev s_rows_of_one : Stmt := topS 29
abbrev s_block_rows : Stmt := topS 30
abbrev s_quote_rows : Stmt := topS 31
abbrev s_list_rows : Stmt := topS 32
abbrev s_heading_rows : Stmt := topS 33
abbrev s_break_rows : Stmt := topS 34
abbrev s_code_rows : Stmt := topS 35
abbrev s_html_rows : Stmt := topS 36
abbrev s_definition_rows : Stmt := topS 37
abbrev s_paragraph_rows : Stmt := topS 38
abbrev s_inline_rows : Stmt := topS 39
abbrev s_link_rows : Stmt := topS 40
abbrev s_none_if_not : Stmt := topS 41
abbrev s_is_text : Stmt := topS 42
abbrev s_is_lines : Stmt := topS 43
abbrev s_is_filled : Stmt := topS 44
abbrev s_fits_start : Stmt := topS 45
abbrev s_fits_target : Stmt := topS 46
abbrev s_page : Stmt := topS 50
abbrev s_escaped : Stmt := topS 51
abbrev s_words : Stmt := topS 52
abbrev s_block_pages : Stmt := topS 53
abbrev s_joined_pages : Stmt := topS 54
abbrev s_pages_of_block : Stmt := topS 55
abbrev s_leaf_page : Stmt := topS 56
abbrev s_language : Stmt := topS 57
abbrev s_list_page : Stmt := topS 58
abbrev s_item_page : Stmt := topS 59
abbrev s_inline_page : Stmt := topS 60
abbrev s_row_page : Stmt := topS 61
abbrev s_page_of_inline : Stmt := topS 62
abbrev s_page_of_link : Stmt := topS 63
abbrev s_row_words : Stmt := topS 64
abbrev s_words_of_inline : Stmt := topS 65
abbrev s__law_well : Stmt := topS 67
abbrev s__law_draw : Stmt := topS 68
abbrev s__law_one : Stmt := topS 69
abbrev s__law_string : Stmt := topS 70
abbrev s__law_target : Stmt := topS 71
abbrev s__law_inline : Stmt := topS 72
abbrev s__law_row : Stmt := topS 73
abbrev s__law_block : Stmt := topS 74
abbrev s__law_blocks : Stmt := topS 75
abbrev s__law_closed : Stmt := topS 76
abbrev s__law_defined : Stmt := topS 77
abbrev s__law_informed : Stmt := topS 78
abbrev s_law : Stmt := topS 79
theorem sc_is_escape : FnScope ["text", "place"] ["text", "place"] (defScope s_is_escape) := ⟨rfl, rfl, rfl, by decide +kernel, rfl, by decide +kernel, by decide +kernel⟩
theorem sc_first_plain : FnScope ["signs", "text", "place"] ["signs", "text", "place"] (defScope s_first_plain) := ⟨rfl, rfl, rfl, by decide +kernel, rfl, by decide +kernel, by decide +kernel⟩
theorem sc_rows_in_block : FnScope ["block"] ["block"] (defScope s_rows_in_block) := ⟨rfl, rfl, rfl, by decide +kernel, rfl, by decide +kernel, by decide +kernel⟩
theorem sc_rows_in_inline : FnScope ["inline"] ["inline"] (defScope s_rows_in_inline) := ⟨rfl, rfl, rfl, by decide +kernel, rfl, by decide +kernel, by decide +kernel⟩
theorem sc_folded : FnScope ["row", "rows_in", "made", "rows", "places", "numbers", "current", "one", "begin", "results", "number", "inner", "end"] ["row", "rows_in", "made"] (defScope s_folded) := ⟨rfl, rfl, rfl, by decide +kernel, rfl, by decide +kernel, by decide +kernel⟩
theorem sc_is_label_text : FnScope ["thing"] ["thing"] (defScope s_is_label_text) := ⟨rfl, rfl, rfl, by decide +kernel, rfl, by decide +kernel, by decide +kernel⟩
theorem sc_is_label : FnScope ["thing"] ["thing"] (defScope s_is_label) := ⟨rfl, rfl, rfl, by decide +kernel, rfl, by decide +kernel, by decide +kernel⟩
theorem sc_label_at : FnScope ["text", "place", "end", "words"] ["text", "place"] (defScope s_label_at) := ⟨rfl, rfl, rfl, by decide +kernel, rfl, by decide +kernel, by decide +kernel⟩
theorem sc_is_integer_to : FnScope ["least", "most", "thing"] ["least", "most", "thing"] (defScope s_is_integer_to) := ⟨rfl, rfl, rfl, by decide +kernel, rfl, by decide +kernel, by decide +kernel⟩
theorem sc_is_tree : FnScope ["thing", "rows", "_", "inner", "sort", "row", "found"] ["thing"] (defScope s_is_tree) := ⟨rfl, rfl, rfl, by decide +kernel, rfl, by decide +kernel, by decide +kernel⟩
theorem sc_rows_of_row : FnScope ["sort", "row", "found", "word_ahead", "one", "rows"] ["sort", "row"] (defScope s_rows_of_row) := ⟨rfl, rfl, rfl, by decide +kernel, rfl, by decide +kernel, by decide +kernel⟩
theorem sc_rows_of_one : FnScope ["sort", "one"] ["sort", "one"] (defScope s_rows_of_one) := ⟨rfl, rfl, rfl, by decide +kernel, rfl, by decide +kernel, by decide +kernel⟩
theorem sc_block_rows : FnScope ["block", "word", "check"] ["block"] (defScope s_block_rows) := ⟨rfl, rfl, rfl, by decide +kernel, rfl, by decide +kernel, by decide +kernel⟩
theorem sc_quote_rows : FnScope ["block"] ["block"] (defScope s_quote_rows) := ⟨rfl, rfl, rfl, by decide +kernel, rfl, by decide +kernel, by decide +kernel⟩
theorem sc_list_rows : FnScope ["block", "_", "sign", "start", "is_tight", "items", "item"] ["block"] (defScope s_list_rows) := ⟨rfl, rfl, rfl, by decide +kernel, rfl, by decide +kernel, by decide +kernel⟩
theorem sc_heading_rows : FnScope ["block"] ["block"] (defScope s_heading_rows) := ⟨rfl, rfl, rfl, by decide +kernel, rfl, by decide +kernel, by decide +kernel⟩
theorem sc_break_rows : FnScope ["block"] ["block"] (defScope s_break_rows) := ⟨rfl, rfl, rfl, by decide +kernel, rfl, by decide +kernel, by decide +kernel⟩
theorem sc_code_rows : FnScope ["block", "_", "text", "info", "fits"] ["block"] (defScope s_code_rows) := ⟨rfl, rfl, rfl, by decide +kernel, rfl, by decide +kernel, by decide +kernel⟩
theorem sc_html_rows : FnScope ["block"] ["block"] (defScope s_html_rows) := ⟨rfl, rfl, rfl, by decide +kernel, rfl, by decide +kernel, by decide +kernel⟩
theorem sc_definition_rows : FnScope ["block", "_", "label", "destination", "title"] ["block"] (defScope s_definition_rows) := ⟨rfl, rfl, rfl, by decide +kernel, rfl, by decide +kernel, by decide +kernel⟩
theorem sc_paragraph_rows : FnScope ["block"] ["block"] (defScope s_paragraph_rows) := ⟨rfl, rfl, rfl, by decide +kernel, rfl, by decide +kernel, by decide +kernel⟩
theorem sc_inline_rows : FnScope ["sort", "inline", "word"] ["sort", "inline"] (defScope s_inline_rows) := ⟨rfl, rfl, rfl, by decide +kernel, rfl, by decide +kernel, by decide +kernel⟩
theorem sc_link_rows : FnScope ["sort", "inline", "word"] ["sort", "inline"] (defScope s_link_rows) := ⟨rfl, rfl, rfl, by decide +kernel, rfl, by decide +kernel, by decide +kernel⟩
theorem sc_none_if_not : FnScope ["fits"] ["fits"] (defScope s_none_if_not) := ⟨rfl, rfl, rfl, by decide +kernel, rfl, by decide +kernel, by decide +kernel⟩
theorem sc_is_text : FnScope ["thing"] ["thing"] (defScope s_is_text) := ⟨rfl, rfl, rfl, by decide +kernel, rfl, by decide +kernel, by decide +kernel⟩
theorem sc_is_lines : FnScope ["thing"] ["thing"] (defScope s_is_lines) := ⟨rfl, rfl, rfl, by decide +kernel, rfl, by decide +kernel, by decide +kernel⟩
theorem sc_is_filled : FnScope ["thing"] ["thing"] (defScope s_is_filled) := ⟨rfl, rfl, rfl, by decide +kernel, rfl, by decide +kernel, by decide +kernel⟩
theorem sc_fits_start : FnScope ["sign", "start"] ["sign", "start"] (defScope s_fits_start) := ⟨rfl, rfl, rfl, by decide +kernel, rfl, by decide +kernel, by decide +kernel⟩
theorem sc_fits_target : FnScope ["destination", "title"] ["destination", "title"] (defScope s_fits_target) := ⟨rfl, rfl, rfl, by decide +kernel, rfl, by decide +kernel, by decide +kernel⟩
theorem sc_page : FnScope ["tree"] ["tree"] (defScope s_page) := ⟨rfl, rfl, rfl, by decide +kernel, rfl, by decide +kernel, by decide +kernel⟩
theorem sc_escaped : FnScope ["text"] ["text"] (defScope s_escaped) := ⟨rfl, rfl, rfl, by decide +kernel, rfl, by decide +kernel, by decide +kernel⟩
theorem sc_words : FnScope ["row"] ["row"] (defScope s_words) := ⟨rfl, rfl, rfl, by decide +kernel, rfl, by decide +kernel, by decide +kernel⟩
theorem sc_block_pages : FnScope ["row", "inner", "block", "rows"] ["row", "inner"] (defScope s_block_pages) := ⟨rfl, rfl, rfl, by decide +kernel, rfl, by decide +kernel, by decide +kernel⟩
theorem sc_joined_pages : FnScope ["pages", "whole", "_"] ["pages"] (defScope s_joined_pages) := ⟨rfl, rfl, rfl, by decide +kernel, rfl, by decide +kernel, by decide +kernel⟩
theorem sc_pages_of_block : FnScope ["block", "rows", "word", "bare"] ["block", "rows"] (defScope s_pages_of_block) := ⟨rfl, rfl, rfl, by decide +kernel, rfl, by decide +kernel, by decide +kernel⟩
theorem sc_leaf_page : FnScope ["block", "word"] ["block"] (defScope s_leaf_page) := ⟨rfl, rfl, rfl, by decide +kernel, rfl, by decide +kernel, by decide +kernel⟩
theorem sc_language : FnScope ["info"] ["info"] (defScope s_language) := ⟨rfl, rfl, rfl, by decide +kernel, rfl, by decide +kernel, by decide +kernel⟩
theorem sc_list_page : FnScope ["block", "rows", "start", "is_tight", "items", "pages"] ["block", "rows"] (defScope s_list_page) := ⟨rfl, rfl, rfl, by decide +kernel, rfl, by decide +kernel, by decide +kernel⟩
theorem sc_item_page : FnScope ["pages", "is_tight", "told", "is_first", "whole", "bare", "is_bare"] ["pages", "is_tight"] (defScope s_item_page) := ⟨rfl, rfl, rfl, by decide +kernel, rfl, by decide +kernel, by decide +kernel⟩
theorem sc_inline_page : FnScope ["row"] ["row"] (defScope s_inline_page) := ⟨rfl, rfl, rfl, by decide +kernel, rfl, by decide +kernel, by decide +kernel⟩
theorem sc_row_page : FnScope ["row", "inner", "inline", "rows"] ["row", "inner"] (defScope s_row_page) := ⟨rfl, rfl, rfl, by decide +kernel, rfl, by decide +kernel, by decide +kernel⟩
theorem sc_page_of_inline : FnScope ["inline", "rows", "word"] ["inline", "rows"] (defScope s_page_of_inline) := ⟨rfl, rfl, rfl, by decide +kernel, rfl, by decide +kernel, by decide +kernel⟩
theorem sc_page_of_link : FnScope ["inline", "inner", "word", "destination", "title", "row", "told"] ["inline", "inner"] (defScope s_page_of_link) := ⟨rfl, rfl, rfl, by decide +kernel, rfl, by decide +kernel, by decide +kernel⟩
theorem sc_row_words : FnScope ["row", "inner", "inline", "rows"] ["row", "inner"] (defScope s_row_words) := ⟨rfl, rfl, rfl, by decide +kernel, rfl, by decide +kernel, by decide +kernel⟩
theorem sc_words_of_inline : FnScope ["inline", "rows", "word"] ["inline", "rows"] (defScope s_words_of_inline) := ⟨rfl, rfl, rfl, by decide +kernel, rfl, by decide +kernel, by decide +kernel⟩
theorem sc__law_well : FnScope ["_law_cell"] ["_law_cell"] (defScope s__law_well) := ⟨rfl, rfl, rfl, by decide +kernel, rfl, by decide +kernel, by decide +kernel⟩
theorem sc__law_draw : FnScope ["_law_well_here", "_law_many", "_law_digit", "_law_number", "_law_more"] ["_law_well_here", "_law_many"] (defScope s__law_draw) := ⟨rfl, rfl, rfl, by decide +kernel, rfl, by decide +kernel, by decide +kernel⟩
theorem sc__law_one : FnScope ["_law_well_here", "_law_some"] ["_law_well_here", "_law_some"] (defScope s__law_one) := ⟨rfl, rfl, rfl, by decide +kernel, rfl, by decide +kernel, by decide +kernel⟩
theorem sc__law_string : FnScope ["_law_well_here", "_law_most", "_law_signs", "_law_k"] ["_law_well_here", "_law_most"] (defScope s__law_string) := ⟨rfl, rfl, rfl, by decide +kernel, rfl, by decide +kernel, by decide +kernel⟩
theorem sc__law_target : FnScope ["_law_well_here", "_law_goal"] ["_law_well_here"] (defScope s__law_target) := ⟨rfl, rfl, rfl, by decide +kernel, rfl, by decide +kernel, by decide +kernel⟩
theorem sc__law_inline : FnScope ["_law_well_here", "_law_deep", "_law_is_linked", "_law_has_html", "_law_way", "_law_goal", "_law_title"] ["_law_well_here", "_law_deep", "_law_is_linked", "_law_has_html"] (defScope s__law_inline) := ⟨rfl, rfl, rfl, by decide +kernel, rfl, by decide +kernel, by decide +kernel⟩
theorem sc__law_row : FnScope ["_law_well_here", "_law_deep", "_law_is_linked", "_law_has_html", "_law_found", "_law_k", "_law_one_here"] ["_law_well_here", "_law_deep", "_law_is_linked", "_law_has_html"] (defScope s__law_row) := ⟨rfl, rfl, rfl, by decide +kernel, rfl, by decide +kernel, by decide +kernel⟩
theorem sc__law_block : FnScope ["_law_well_here", "_law_deep", "_law_has_html", "_law_way", "_law_lines", "_law_info", "_law_sign", "_law_start", "_law_items", "_law_k"] ["_law_well_here", "_law_deep", "_law_has_html"] (defScope s__law_block) := ⟨rfl, rfl, rfl, by decide +kernel, rfl, by decide +kernel, by decide +kernel⟩
theorem sc__law_blocks : FnScope ["_law_well_here", "_law_deep", "_law_has_html", "_law_many", "_law_k"] ["_law_well_here", "_law_deep", "_law_has_html"] (defScope s__law_blocks) := ⟨rfl, rfl, rfl, by decide +kernel, rfl, by decide +kernel, by decide +kernel⟩
theorem sc__law_closed : FnScope ["_law_text", "_law_pairs", "_law_around", "_law_piece", "_law_tag", "_law_name"] ["_law_text"] (defScope s__law_closed) := ⟨rfl, rfl, rfl, by decide +kernel, rfl, by decide +kernel, by decide +kernel⟩
theorem sc__law_defined : FnScope ["_law_well_here", "_law_blocks_here", "_law_at", "_law_held", "_law_items", "_law_k"] ["_law_well_here", "_law_blocks_here"] (defScope s__law_defined) := ⟨rfl, rfl, rfl, by decide +kernel, rfl, by decide +kernel, by decide +kernel⟩
theorem sc__law_informed : FnScope ["_law_well_here", "_law_blocks_here", "_law_found", "_law_block_here", "_law_first", "_law_item"] ["_law_well_here", "_law_blocks_here"] (defScope s__law_informed) := ⟨rfl, rfl, rfl, by decide +kernel, rfl, by decide +kernel, by decide +kernel⟩
theorem sc_law : FnScope ["_law_script", "_law_cell", "_law_well_here", "_law_turn", "_law_tree", "_law_other", "_law_due", "_law_text", "_law_more", "_law_soft"] ["_law_script"] (defScope s_law) := ⟨rfl, rfl, rfl, by decide +kernel, rfl, by decide +kernel, by decide +kernel⟩
set_option maxHeartbeats 4000000 in
structure Txt (w : World) (K : PySem.W.Frag) (mg : Str → Option Value) where
  a_is_escape : Addr
  d_is_escape : FuncData
  f_is_escape : Fun K "is_escape" "is_escape" s_is_escape a_is_escape d_is_escape
  g_is_escape : mg "is_escape" = some (.ref a_is_escape)
  b_is_escape : Binds K d_is_escape ["text", "place"] []
  a_first_plain : Addr
  d_first_plain : FuncData
  f_first_plain : Fun K "first_plain" "first_plain" s_first_plain a_first_plain d_first_plain
  g_first_plain : mg "first_plain" = some (.ref a_first_plain)
  b_first_plain : Binds K d_first_plain ["signs", "text", "place"] []
  a_rows_in_block : Addr
  d_rows_in_block : FuncData
  f_rows_in_block : Fun K "rows_in_block" "rows_in_block" s_rows_in_block a_rows_in_block d_rows_in_block
  g_rows_in_block : mg "rows_in_block" = some (.ref a_rows_in_block)
  b_rows_in_block : Binds K d_rows_in_block ["block"] []
  a_rows_in_inline : Addr
  d_rows_in_inline : FuncData
  f_rows_in_inline : Fun K "rows_in_inline" "rows_in_inline" s_rows_in_inline a_rows_in_inline d_rows_in_inline
  g_rows_in_inline : mg "rows_in_inline" = some (.ref a_rows_in_inline)
  b_rows_in_inline : Binds K d_rows_in_inline ["inline"] []
  a_folded : Addr
  d_folded : FuncData
  f_folded : Fun K "folded" "folded" s_folded a_folded d_folded
  g_folded : mg "folded" = some (.ref a_folded)
  b_folded : Binds K d_folded ["row", "rows_in", "made"] []
  a_is_label_text : Addr
  d_is_label_text : FuncData
  f_is_label_text : Fun K "is_label_text" "is_label_text" s_is_label_text a_is_label_text d_is_label_text
  g_is_label_text : mg "is_label_text" = some (.ref a_is_label_text)
  b_is_label_text : Binds K d_is_label_text ["thing"] []
  a_is_label : Addr
  d_is_label : FuncData
  f_is_label : Fun K "is_label" "is_label" s_is_label a_is_label d_is_label
  g_is_label : mg "is_label" = some (.ref a_is_label)
  b_is_label : Binds K d_is_label ["thing"] []
  a_label_at : Addr
  d_label_at : FuncData
  f_label_at : Fun K "label_at" "label_at" s_label_at a_label_at d_label_at
  g_label_at : mg "label_at" = some (.ref a_label_at)
  b_label_at : Binds K d_label_at ["text", "place"] []
  a_is_integer_to : Addr
  d_is_integer_to : FuncData
  f_is_integer_to : Fun K "is_integer_to" "is_integer_to" s_is_integer_to a_is_integer_to d_is_integer_to
  g_is_integer_to : mg "is_integer_to" = some (.ref a_is_integer_to)
  b_is_integer_to : Binds K d_is_integer_to ["least", "most", "thing"] []
  a_is_tree : Addr
  d_is_tree : FuncData
  f_is_tree : Fun K "is_tree" "is_tree" s_is_tree a_is_tree d_is_tree
  g_is_tree : mg "is_tree" = some (.ref a_is_tree)
  b_is_tree : Binds K d_is_tree ["thing"] []
  a_rows_of_row : Addr
  d_rows_of_row : FuncData
  f_rows_of_row : Fun K "rows_of_row" "rows_of_row" s_rows_of_row a_rows_of_row d_rows_of_row
  g_rows_of_row : mg "rows_of_row" = some (.ref a_rows_of_row)
  b_rows_of_row : Binds K d_rows_of_row ["sort", "row"] []
  a_rows_of_one : Addr
  d_rows_of_one : FuncData
  f_rows_of_one : Fun K "rows_of_one" "rows_of_one" s_rows_of_one a_rows_of_one d_rows_of_one
  g_rows_of_one : mg "rows_of_one" = some (.ref a_rows_of_one)
  b_rows_of_one : Binds K d_rows_of_one ["sort", "one"] []
  a_block_rows : Addr
  d_block_rows : FuncData
  f_block_rows : Fun K "block_rows" "block_rows" s_block_rows a_block_rows d_block_rows
  g_block_rows : mg "block_rows" = some (.ref a_block_rows)
  b_block_rows : Binds K d_block_rows ["block"] []
  a_quote_rows : Addr
  d_quote_rows : FuncData
  f_quote_rows : Fun K "quote_rows" "quote_rows" s_quote_rows a_quote_rows d_quote_rows
  g_quote_rows : mg "quote_rows" = some (.ref a_quote_rows)
  b_quote_rows : Binds K d_quote_rows ["block"] []
  a_list_rows : Addr
  d_list_rows : FuncData
  f_list_rows : Fun K "list_rows" "list_rows" s_list_rows a_list_rows d_list_rows
  g_list_rows : mg "list_rows" = some (.ref a_list_rows)
  b_list_rows : Binds K d_list_rows ["block"] []
  a_heading_rows : Addr
  d_heading_rows : FuncData
  f_heading_rows : Fun K "heading_rows" "heading_rows" s_heading_rows a_heading_rows d_heading_rows
  g_heading_rows : mg "heading_rows" = some (.ref a_heading_rows)
  b_heading_rows : Binds K d_heading_rows ["block"] []
  a_break_rows : Addr
  d_break_rows : FuncData
  f_break_rows : Fun K "break_rows" "break_rows" s_break_rows a_break_rows d_break_rows
  g_break_rows : mg "break_rows" = some (.ref a_break_rows)
  b_break_rows : Binds K d_break_rows ["block"] []
  a_code_rows : Addr
  d_code_rows : FuncData
  f_code_rows : Fun K "code_rows" "code_rows" s_code_rows a_code_rows d_code_rows
  g_code_rows : mg "code_rows" = some (.ref a_code_rows)
  b_code_rows : Binds K d_code_rows ["block"] []
  a_html_rows : Addr
  d_html_rows : FuncData
  f_html_rows : Fun K "html_rows" "html_rows" s_html_rows a_html_rows d_html_rows
  g_html_rows : mg "html_rows" = some (.ref a_html_rows)
  b_html_rows : Binds K d_html_rows ["block"] []
  a_definition_rows : Addr
  d_definition_rows : FuncData
  f_definition_rows : Fun K "definition_rows" "definition_rows" s_definition_rows a_definition_rows d_definition_rows
  g_definition_rows : mg "definition_rows" = some (.ref a_definition_rows)
  b_definition_rows : Binds K d_definition_rows ["block"] []
  a_paragraph_rows : Addr
  d_paragraph_rows : FuncData
  f_paragraph_rows : Fun K "paragraph_rows" "paragraph_rows" s_paragraph_rows a_paragraph_rows d_paragraph_rows
  g_paragraph_rows : mg "paragraph_rows" = some (.ref a_paragraph_rows)
  b_paragraph_rows : Binds K d_paragraph_rows ["block"] []
  a_inline_rows : Addr
  d_inline_rows : FuncData
  f_inline_rows : Fun K "inline_rows" "inline_rows" s_inline_rows a_inline_rows d_inline_rows
  g_inline_rows : mg "inline_rows" = some (.ref a_inline_rows)
  b_inline_rows : Binds K d_inline_rows ["sort", "inline"] []
  a_link_rows : Addr
  d_link_rows : FuncData
  f_link_rows : Fun K "link_rows" "link_rows" s_link_rows a_link_rows d_link_rows
  g_link_rows : mg "link_rows" = some (.ref a_link_rows)
  b_link_rows : Binds K d_link_rows ["sort", "inline"] []
  a_none_if_not : Addr
  d_none_if_not : FuncData
  f_none_if_not : Fun K "none_if_not" "none_if_not" s_none_if_not a_none_if_not d_none_if_not
  g_none_if_not : mg "none_if_not" = some (.ref a_none_if_not)
  b_none_if_not : Binds K d_none_if_not ["fits"] []
  a_is_text : Addr
  d_is_text : FuncData
  f_is_text : Fun K "is_text" "is_text" s_is_text a_is_text d_is_text
  g_is_text : mg "is_text" = some (.ref a_is_text)
  b_is_text : Binds K d_is_text ["thing"] []
  a_is_lines : Addr
  d_is_lines : FuncData
  f_is_lines : Fun K "is_lines" "is_lines" s_is_lines a_is_lines d_is_lines
  g_is_lines : mg "is_lines" = some (.ref a_is_lines)
  b_is_lines : Binds K d_is_lines ["thing"] []
  a_is_filled : Addr
  d_is_filled : FuncData
  f_is_filled : Fun K "is_filled" "is_filled" s_is_filled a_is_filled d_is_filled
  g_is_filled : mg "is_filled" = some (.ref a_is_filled)
  b_is_filled : Binds K d_is_filled ["thing"] []
  a_fits_start : Addr
  d_fits_start : FuncData
  f_fits_start : Fun K "fits_start" "fits_start" s_fits_start a_fits_start d_fits_start
  g_fits_start : mg "fits_start" = some (.ref a_fits_start)
  b_fits_start : Binds K d_fits_start ["sign", "start"] []
  a_fits_target : Addr
  d_fits_target : FuncData
  f_fits_target : Fun K "fits_target" "fits_target" s_fits_target a_fits_target d_fits_target
  g_fits_target : mg "fits_target" = some (.ref a_fits_target)
  b_fits_target : Binds K d_fits_target ["destination", "title"] []
  a_page : Addr
  d_page : FuncData
  f_page : Fun K "page" "page" s_page a_page d_page
  g_page : mg "page" = some (.ref a_page)
  b_page : Binds K d_page ["tree"] []
  a_escaped : Addr
  d_escaped : FuncData
  f_escaped : Fun K "escaped" "escaped" s_escaped a_escaped d_escaped
  g_escaped : mg "escaped" = some (.ref a_escaped)
  b_escaped : Binds K d_escaped ["text"] []
  a_words : Addr
  d_words : FuncData
  f_words : Fun K "words" "words" s_words a_words d_words
  g_words : mg "words" = some (.ref a_words)
  b_words : Binds K d_words ["row"] []
  a_block_pages : Addr
  d_block_pages : FuncData
  f_block_pages : Fun K "block_pages" "block_pages" s_block_pages a_block_pages d_block_pages
  g_block_pages : mg "block_pages" = some (.ref a_block_pages)
  b_block_pages : Binds K d_block_pages ["row", "inner"] []
  a_joined_pages : Addr
  d_joined_pages : FuncData
  f_joined_pages : Fun K "joined_pages" "joined_pages" s_joined_pages a_joined_pages d_joined_pages
  g_joined_pages : mg "joined_pages" = some (.ref a_joined_pages)
  b_joined_pages : Binds K d_joined_pages ["pages"] []
  a_pages_of_block : Addr
  d_pages_of_block : FuncData
  f_pages_of_block : Fun K "pages_of_block" "pages_of_block" s_pages_of_block a_pages_of_block d_pages_of_block
  g_pages_of_block : mg "pages_of_block" = some (.ref a_pages_of_block)
  b_pages_of_block : Binds K d_pages_of_block ["block", "rows"] []
  a_leaf_page : Addr
  d_leaf_page : FuncData
  f_leaf_page : Fun K "leaf_page" "leaf_page" s_leaf_page a_leaf_page d_leaf_page
  g_leaf_page : mg "leaf_page" = some (.ref a_leaf_page)
  b_leaf_page : Binds K d_leaf_page ["block"] []
  a_language : Addr
  d_language : FuncData
  f_language : Fun K "language" "language" s_language a_language d_language
  g_language : mg "language" = some (.ref a_language)
  b_language : Binds K d_language ["info"] []
  a_list_page : Addr
  d_list_page : FuncData
  f_list_page : Fun K "list_page" "list_page" s_list_page a_list_page d_list_page
  g_list_page : mg "list_page" = some (.ref a_list_page)
  b_list_page : Binds K d_list_page ["block", "rows"] []
  a_item_page : Addr
  d_item_page : FuncData
  f_item_page : Fun K "item_page" "item_page" s_item_page a_item_page d_item_page
  g_item_page : mg "item_page" = some (.ref a_item_page)
  b_item_page : Binds K d_item_page ["pages", "is_tight"] []
  a_inline_page : Addr
  d_inline_page : FuncData
  f_inline_page : Fun K "inline_page" "inline_page" s_inline_page a_inline_page d_inline_page
  g_inline_page : mg "inline_page" = some (.ref a_inline_page)
  b_inline_page : Binds K d_inline_page ["row"] []
  a_row_page : Addr
  d_row_page : FuncData
  f_row_page : Fun K "row_page" "row_page" s_row_page a_row_page d_row_page
  g_row_page : mg "row_page" = some (.ref a_row_page)
  b_row_page : Binds K d_row_page ["row", "inner"] []
  a_page_of_inline : Addr
  d_page_of_inline : FuncData
  f_page_of_inline : Fun K "page_of_inline" "page_of_inline" s_page_of_inline a_page_of_inline d_page_of_inline
  g_page_of_inline : mg "page_of_inline" = some (.ref a_page_of_inline)
  b_page_of_inline : Binds K d_page_of_inline ["inline", "rows"] []
  a_page_of_link : Addr
  d_page_of_link : FuncData
  f_page_of_link : Fun K "page_of_link" "page_of_link" s_page_of_link a_page_of_link d_page_of_link
  g_page_of_link : mg "page_of_link" = some (.ref a_page_of_link)
  b_page_of_link : Binds K d_page_of_link ["inline", "inner"] []
  a_row_words : Addr
  d_row_words : FuncData
  f_row_words : Fun K "row_words" "row_words" s_row_words a_row_words d_row_words
  g_row_words : mg "row_words" = some (.ref a_row_words)
  b_row_words : Binds K d_row_words ["row", "inner"] []
  a_words_of_inline : Addr
  d_words_of_inline : FuncData
  f_words_of_inline : Fun K "words_of_inline" "words_of_inline" s_words_of_inline a_words_of_inline d_words_of_inline
  g_words_of_inline : mg "words_of_inline" = some (.ref a_words_of_inline)
  b_words_of_inline : Binds K d_words_of_inline ["inline", "rows"] []
  a__law_well : Addr
  d__law_well : FuncData
  f__law_well : Fun K "_law_well" "_law_well" s__law_well a__law_well d__law_well
  g__law_well : mg "_law_well" = some (.ref a__law_well)
  b__law_well : Binds K d__law_well ["_law_cell"] []
  a__law_draw : Addr
  d__law_draw : FuncData
  f__law_draw : Fun K "_law_draw" "_law_draw" s__law_draw a__law_draw d__law_draw
  g__law_draw : mg "_law_draw" = some (.ref a__law_draw)
  b__law_draw : Binds K d__law_draw ["_law_well_here", "_law_many"] []
  a__law_one : Addr
  d__law_one : FuncData
  f__law_one : Fun K "_law_one" "_law_one" s__law_one a__law_one d__law_one
  g__law_one : mg "_law_one" = some (.ref a__law_one)
  b__law_one : Binds K d__law_one ["_law_well_here", "_law_some"] []
  a__law_string : Addr
  d__law_string : FuncData
  f__law_string : Fun K "_law_string" "_law_string" s__law_string a__law_string d__law_string
  g__law_string : mg "_law_string" = some (.ref a__law_string)
  b__law_string : Binds K d__law_string ["_law_well_here", "_law_most"] []
  a__law_target : Addr
  d__law_target : FuncData
  f__law_target : Fun K "_law_target" "_law_target" s__law_target a__law_target d__law_target
  g__law_target : mg "_law_target" = some (.ref a__law_target)
  b__law_target : Binds K d__law_target ["_law_well_here"] []
  a__law_inline : Addr
  d__law_inline : FuncData
  f__law_inline : Fun K "_law_inline" "_law_inline" s__law_inline a__law_inline d__law_inline
  g__law_inline : mg "_law_inline" = some (.ref a__law_inline)
  b__law_inline : Binds K d__law_inline ["_law_well_here", "_law_deep", "_law_is_linked", "_law_has_html"] []
  a__law_row : Addr
  d__law_row : FuncData
  f__law_row : Fun K "_law_row" "_law_row" s__law_row a__law_row d__law_row
  g__law_row : mg "_law_row" = some (.ref a__law_row)
  b__law_row : Binds K d__law_row ["_law_well_here", "_law_deep", "_law_is_linked", "_law_has_html"] []
  a__law_block : Addr
  d__law_block : FuncData
  f__law_block : Fun K "_law_block" "_law_block" s__law_block a__law_block d__law_block
  g__law_block : mg "_law_block" = some (.ref a__law_block)
  b__law_block : Binds K d__law_block ["_law_well_here", "_law_deep", "_law_has_html"] []
  a__law_blocks : Addr
  d__law_blocks : FuncData
  f__law_blocks : Fun K "_law_blocks" "_law_blocks" s__law_blocks a__law_blocks d__law_blocks
  g__law_blocks : mg "_law_blocks" = some (.ref a__law_blocks)
  b__law_blocks : Binds K d__law_blocks ["_law_well_here", "_law_deep", "_law_has_html"] []
  a__law_closed : Addr
  d__law_closed : FuncData
  f__law_closed : Fun K "_law_closed" "_law_closed" s__law_closed a__law_closed d__law_closed
  g__law_closed : mg "_law_closed" = some (.ref a__law_closed)
  b__law_closed : Binds K d__law_closed ["_law_text"] []
  a__law_defined : Addr
  d__law_defined : FuncData
  f__law_defined : Fun K "_law_defined" "_law_defined" s__law_defined a__law_defined d__law_defined
  g__law_defined : mg "_law_defined" = some (.ref a__law_defined)
  b__law_defined : Binds K d__law_defined ["_law_well_here", "_law_blocks_here"] []
  a__law_informed : Addr
  d__law_informed : FuncData
  f__law_informed : Fun K "_law_informed" "_law_informed" s__law_informed a__law_informed d__law_informed
  g__law_informed : mg "_law_informed" = some (.ref a__law_informed)
  b__law_informed : Binds K d__law_informed ["_law_well_here", "_law_blocks_here"] []
  z_ValueError : mg "ValueError" = none
  z_bool : mg "bool" = none
  z_int : mg "int" = none
  z_isinstance : mg "isinstance" = none
  z_len : mg "len" = none
  z_list : mg "list" = none
  z_range : mg "range" = none
  z_reversed : mg "reversed" = none
  z_str : mg "str" = none
  z_super : mg "super" = none
  z_tuple : mg "tuple" = none
  z_zip : mg "zip" = none
  t_INLINE_WHITE : Tok
  g_INLINE_WHITE : mg "INLINE_WHITE" = some (.str " \t\n" t_INLINE_WHITE)
  t_ALLOWED : Tok
  g_ALLOWED : mg "ALLOWED" = some (.str "\t\n !\"#$&'()*+,-./0123456789:;<=>?@ABCDEFGHIJKLMNOPQRSTUVWXYZ[\\]^_`abcdefghijklmnopqrstuvwxyz{|}~" t_ALLOWED)
  t_PUNCTUATION : Tok
  g_PUNCTUATION : mg "PUNCTUATION" = some (.str "!\"#$&'()*+,-./:;<=>?\x40[\\]^_{|}~`" t_PUNCTUATION)
  t_LONGEST_LABEL : Tok
  g_LONGEST_LABEL : mg "LONGEST_LABEL" = some (.int 999 t_LONGEST_LABEL)
  t_BLOCKS : Tok
  g_BLOCKS : mg "BLOCKS" = some (.str "blocks" t_BLOCKS)
  t_INLINES : Tok
  g_INLINES : mg "INLINES" = some (.str "inlines" t_INLINES)
  t_LINKED : Tok
  g_LINKED : mg "LINKED" = some (.str "linked" t_LINKED)
  t_MOST_ROWS : Tok
  g_MOST_ROWS : mg "MOST_ROWS" = some (.int 100 t_MOST_ROWS)
  t_HIGHEST_LEVEL : Tok
  g_HIGHEST_LEVEL : mg "HIGHEST_LEVEL" = some (.int 6 t_HIGHEST_LEVEL)
  t_HIGHEST_START : Tok
  g_HIGHEST_START : mg "HIGHEST_START" = some (.int 999999999 t_HIGHEST_START)
  a_BLOCK_LENGTHS : Addr
  g_BLOCK_LENGTHS : mg "BLOCK_LENGTHS" = some (.ref a_BLOCK_LENGTHS)
  k_BLOCK_LENGTHS : KDictS K w a_BLOCK_LENGTHS [("quote", .int 2), ("list", .int 5), ("heading", .int 3), ("break", .int 1), ("code", .int 3), ("html", .int 2), ("definition", .int 4), ("paragraph", .int 2)]
  a_BLOCK_CHECKS : Addr
  g_BLOCK_CHECKS : mg "BLOCK_CHECKS" = some (.ref a_BLOCK_CHECKS)
  k_BLOCK_CHECKS : KDictS K w a_BLOCK_CHECKS [("quote", .ref a_quote_rows), ("list", .ref a_list_rows), ("heading", .ref a_heading_rows), ("break", .ref a_break_rows), ("code", .ref a_code_rows), ("html", .ref a_html_rows), ("definition", .ref a_definition_rows), ("paragraph", .ref a_paragraph_rows)]
/-! ### a text and a place -/
theorem mem_S (c : Nat) (l : List Nat) : decide (c ∈ (S l).cps.toList) = l.contains c := by
  rw [S_tl]
  by_cases h : c ∈ l
  · rw [decide_eq_true h]
    simp [h]
  · rw [decide_eq_false h]
    simp [h]
structure TP (t : List Nat) (p : Nat) : Prop where
  le : p ≤ t.length
  sz : t.length ≤ 100000
theorem TP.line {t : List Nat} {p : Nat} (h : TP t p) : (S t).length ≤ sizeLine := by
  have := h.sz
  rw [S_len, sizeLine_eq]
  omega
theorem pre1 {t : List Nat} {p c : Nat} (h : ([c] : List Nat).isPrefixOf (t.drop p) = true) : p < t.length := by
  have := pre_len _ _ h
  rw [List.length_drop] at this
  simp at this
  omega
def Asc (t : List Nat) : Prop := ∀ c ∈ t, c < 128
theorem Asc.drop {t : List Nat} (h : Asc t) (n : Nat) : Asc (t.drop n) := fun c hc => h c (List.mem_of_mem_drop hc)
theorem Asc.take {t : List Nat} (h : Asc t) (n : Nat) : Asc (t.take n) := fun c hc => h c (List.mem_of_mem_take hc)
def iv : Option Nat → V
  | none => .non
  | some n => .int (n : Nat)
def sv : Option Nat → V
  | none => .non
  | some c => .str (S [c])

/-! ### the defs of the references -/
theorem lit_P : ("!\"#$&'()*+,-./:;<=>?\x40[\\]^_{|}~`" : Str) = S PunL := by decide +kernel
theorem lit_bs : ("\\" : Str) = S [92] := by decide +kernel
theorem lit_amp : ("&" : Str) = S [38] := by decide +kernel
theorem lit_semi : (";" : Str) = S [59] := by decide +kernel
theorem lit_hx : ("#x" : Str) = S [35, 120] := by decide +kernel
theorem lit_hX : ("#X" : Str) = S [35, 88] := by decide +kernel
theorem lit_h : ("#" : Str) = S [35] := by decide +kernel
theorem lit_0f : ("0123456789abcdef" : Str) = S HexL := by decide +kernel
theorem lit_09 : ("0123456789" : Str) = S DecL := by decide +kernel
theorem lit_G : (" \t\n" : Str) = S GapL := by decide +kernel
theorem lit_e : ("" : Str) = S [] := by decide +kernel
def sp_is_escape (K : PySem.W.Frag) : Sp := fun vs H Q _ => ∃ (t : List Nat) (p : Nat), vs = [.str (S t), .int (p : Int)] ∧ TP t p ∧ Q (.bl (escR (t.drop p))) H
theorem ok_is_escape {P : Program} {w : World} {K : PySem.W.Frag} {mg : Str → Option Value} {base : Heap} (T : Txt w K mg) : FnOk P w K mg base CX0 1 T.a_is_escape T.d_is_escape ["text", "place"] (sp_is_escape K) := by
  refine T.f_is_escape.ok sc_is_escape (fun vs H Q E h => ?_) (fun cdv A outer s H vs Q E hr h => ?_)
  · obtain ⟨t, p, rfl, _⟩ := h
    rfl
  · obtain ⟨t, p, rfl, tp, q⟩ := h
    refine ⟨_, (pss_one (ps_ret (pe_and (pe_bm PySem.F.plainAttrs_str PySem.F.slot_str_startswith PySem.F.type_str_startswith mt_startswith3 (pv 0) (pa_cons pe_str (pa_cons (pv 1) pa_nil))) (pe_and (pe_cmpR op_lt (pe_op op_add (pv 1) pe_int) (pe_callB call_len_str (by rfl) T.z_len PySem.boot_len (pa_cons (pv 0) pa_nil)) (nomark _)) (pe_one (pe_cmpR op_in_sign (pe_ix ix_str (pv 0) (pe_op op_add (pv 1) pe_int) (fun _ _ => rfl)) (pe_glob (v := .str "!\"#$&'()*+,-./:;<=>?\x40[\\]^_{|}~`") rfl T.g_PUNCTUATION ⟨_, rfl⟩) (by rfl))))))), ?_⟩
    refine ⟨_, rfl, rfl, _, rfl, _, _, _, rfl, rfl, _, rfl, ?_⟩
    rw [lit_bs, starts3 t [92] (by simp) p]
    have en : ∀ {b : Bool}, escR (t.drop p) = b → Q (.bl b) H := fun e => by rw [← e]; exact q
    refine ite2 (fun h1 => ?_) (fun h1 => ?_)
    · have h2 := pre1 h1
      have hd : t.drop p = t[p] :: t.drop (p + 1) := List.drop_eq_getElem_cons h2
      have h0 : t[p] = 92 := by
        rw [hd] at h1
        simp [List.isPrefixOf] at h1
        exact h1.symm
      rw [h0] at hd
      refine ⟨_, rfl, _, _, rfl, rfl, _, rfl, _, rfl, tp.line, _, _, rfl, rfl, _, rfl, ite2 (fun h3 => ?_) (fun h3 => ?_)⟩
      · have h4 : p + 1 < t.length := by
          have := of_decide_eq_true h3
          rw [S_len] at this
          omega
        have hd2 : t.drop (p + 1) = t[p + 1] :: t.drop (p + 2) := List.drop_eq_getElem_cons h4
        refine ⟨_, rfl, _, rfl, _, _, rfl, rfl, _, _, t[p + 1], rfl, rfl, tp.line, atI_nat (j := p + 1) (by rw [S_tl]; exact List.getElem?_eq_getElem h4), t[p + 1], _, rfl, rfl, ?_⟩
        rw [lit_P, mem_S]
        exact en (by rw [hd, hd2]; rfl)
      · have h4 : t.length ≤ p + 1 := by
          have : ¬ ((p : Int) + 1 < ((S t).length : Int)) := fun z => h3 (decide_eq_true z)
          rw [S_len] at this
          omega
        exact en (by rw [hd, List.drop_of_length_le h4]; rfl)
    · refine en ?_
      cases hd : t.drop p with
      | nil => rfl
      | cons a r =>
        cases r with
        | nil => rfl
        | cons b r =>
          rw [hd] at h1
          have : (a == 92) = false := by
            rw [beq_eq_false_iff_ne]
            intro e
            exact h1 (by simp [List.isPrefixOf, e])
          show (a == 92 && PunL.contains b) = false
          rw [this]
          rfl
/-! ### the defs of the labels, destinations and titles -/
theorem TP.of {t r : List Nat} (hl : t.length ≤ 100000) : TP t (pos t r) := ⟨pos_le _ _, hl⟩
theorem TP.next {t : List Nat} {p : Nat} (h : TP t p) (hp : p < t.length) : TP t (p + 1) := ⟨hp, h.sz⟩
theorem TP.drop {t : List Nat} {p : Nat} (h : TP t p) : pos t (t.drop p) = p := drop_pos h.le
/-- words from a place up to what is left -/
theorem up_cut {t e : List Nat} {k : Nat} (he : e <:+ t.drop k) (hk : k ≤ t.length) : cutS (S t) (some (k : Int)) (some ((pos t e : Nat) : Int)) = S (upToL (t.drop k) e) := by
  have h1 := he.length_le
  rw [List.length_drop] at h1
  have h2 : k ≤ pos t e := by unfold pos; omega
  rw [S_cut2 t k (pos t e) h2]
  unfold upToL pos
  rw [List.length_drop]
  congr 2
  omega
theorem upTo_len (l e : List Nat) : (upToL l e).length ≤ l.length := by
  unfold upToL
  rw [List.length_take]
  omega
theorem Asc.upTo {l e : List Nat} (h : Asc l) : Asc (upToL l e) := fun c hc => h c (List.mem_of_mem_take hc)
/-- a place and a text -/
def PV (H : Hp) (v : V) (t : List Nat) : Option (List Nat × List Nat) → Prop
  | none => v = .non
  | some (d, r) => ∃ a, v = .ref a ∧ H a = some (.tup [.int ((pos t r : Nat) : Int), .str (S d)])
def sp_first_plain (K : PySem.W.Frag) : Sp := fun vs H Q _ => ∃ (w t : List Nat) (p : Nat), vs = [.str (S w), .str (S t), .int (p : Int)] ∧ TP t p ∧ Q (.int ((pos t (plainR w (t.drop p)) : Nat) : Int)) H
theorem ok_first_plain {P : Program} {w : World} {K : PySem.W.Frag} {mg : Str → Option Value} {base : Heap} (T : Txt w K mg) : FnOk P w K mg base CX0 2 T.a_first_plain T.d_first_plain ["signs", "text", "place"] (sp_first_plain K) := by
  refine T.f_first_plain.ok sc_first_plain (fun vs H Q E h => ?_) (fun cdv A outer s H vs Q E hr h => ?_)
  · obtain ⟨w, t, p, rfl, _⟩ := h
    rfl
  · obtain ⟨w, t, p, rfl, tp, q⟩ := h
    refine ⟨_, (pss_cons (ps_while PassesOwn.never (PW.pt (pw_and (pt_cmpR op_lt (pv 2) (pe_callB call_len_str (by rfl) T.z_len PySem.boot_len (pa_cons (pv 1) pa_nil)) (nomark _)) (pw_and1 (pt_cmpR op_notIn_sign (pe_ix ix_str (pv 1) (pv 2) (fun _ _ => rfl)) (pv 0) (by rfl))))) (pss_cons (ps_if (pt_val (pe_call (ok_is_escape T) (hr.mono (by decide)) (by rfl) T.g_is_escape T.f_is_escape.kp T.b_is_escape .nil pass0 (pa_cons (pv 1) (pa_cons (pv 2) pa_nil)))) (pss_one (ps_aug (i := 2) sc_first_plain.nd rfl (.inl rfl) pe_int ip_add)) pss_nil)
        (pss_one (ps_aug (i := 2) sc_first_plain.nd rfl (.inl rfl) pe_int ip_add))))
        (pss_one (ps_ret (pv 2)))), ?_⟩
    refine ⟨fun m σ H' => ∃ k : Nat, σ = [some (.str (S w)), some (.str (S t)), some (.int (k : Int))] ∧ H = H' ∧ m = t.length - k ∧ k ≤ t.length ∧ plainR w (t.drop k) = plainR w (t.drop p), ⟨t.length - p, p, rfl, rfl, rfl, tp.le, rfl⟩, ?_⟩
    rintro m σ H' ⟨k, rfl, rfl, rfl, hk, e⟩
    have fin : plainR w (t.drop k) = t.drop k → Q (.int (k : Nat)) H := by
      intro h
      rw [h] at e
      rw [← e, drop_pos hk] at q
      exact q
    refine ⟨_, rfl, _, rfl, _, rfl, tp.line, _, _, rfl, rfl, _, rfl, ite2 (fun h1 => ?_) (fun h1 => ?_)⟩
    · have h2 : k < t.length := by
        have := of_decide_eq_true h1
        rw [S_len] at this
        omega
      have hd : t.drop k = t[k] :: t.drop (k + 1) := List.drop_eq_getElem_cons h2
      refine ⟨_, rfl, _, rfl, _, _, t[k], rfl, rfl, tp.line, atI_nat (by rw [S_tl]; exact List.getElem?_eq_getElem h2), _, rfl, t[k], _, rfl, rfl, ?_⟩
      rw [mem_S]
      refine ⟨_, rfl, ?_⟩
      cases hm : w.contains t[k] with
      | true =>
        refine iteF ⟨_, rfl, fin ?_⟩
        rw [hd]
        cases hr2 : t.drop (k + 1) with
        | nil =>
          unfold plainR
          rw [if_pos hm]
        | cons d r =>
          unfold plainR
          rw [if_pos hm]
      | false =>
        refine iteT ?_
        refine ⟨fun σ' H' => ∃ k', σ' = [some (.str (S w)), some (.str (S t)), some (.int (k' : Nat))] ∧ H = H' ∧ k < k' ∧ k' ≤ t.length ∧ plainR w (t.drop k') = plainR w (t.drop p), ?_, ?_⟩
        · rintro σ' H' ⟨k', rfl, rfl, h3, h4, e'⟩
          exact ⟨t.length - k', by omega, k', rfl, rfl, rfl, h4, e'⟩
        · refine ⟨_, rfl, _, rfl, t, k, rfl, ⟨hk, tp.sz⟩, ?_⟩
          refine ⟨_, rfl, ?_⟩
          have hno : ∀ {d : Nat} {r : List Nat}, t.drop (k + 1) = d :: r → plainR w (t.drop k) = if t[k] == 92 && PunL.contains d then plainR w r else plainR w (d :: r) := fun {d r} e2 => by
            rw [hd, e2]
            conv => lhs; unfold plainR
            rw [hm, if_neg Bool.false_ne_true]
          cases he : escR (t.drop k) with
          | true =>
            refine iteT ?_
            cases hr2 : t.drop (k + 1) with
            | nil =>
              rw [hd, hr2] at he
              cases he
            | cons d r =>
              have h3 : k + 2 ≤ t.length := by
                have := congrArg List.length hr2
                rw [List.length_drop, List.length_cons] at this
                omega
              have h4 : t.drop (k + 2) = r := by
                rw [show k + 2 = (k + 1) + 1 by omega, ← List.drop_drop, hr2]
                rfl
              have he2 : (t[k] == 92 && PunL.contains d) = true := by
                rw [hd, hr2] at he
                exact he
              refine ⟨_, rfl, _, _, rfl, rfl, _, rfl, _, _, rfl, rfl, k + 2, ?_, rfl, by omega, h3, ?_⟩
              · have : ((k : Nat) : Int) + 1 + 1 = ((k + 2 : Nat) : Int) := by omega
                rw [← this]
                rfl
              · rw [h4, ← e, hno hr2, if_pos he2]
          | false =>
            refine iteF ?_
            refine ⟨_, rfl, _, _, rfl, rfl, k + 1, ?_, rfl, by omega, h2, ?_⟩
            · rw [Int.natCast_add]
              rfl
            · rw [← e]
              cases hr2 : t.drop (k + 1) with
              | nil =>
                rw [hd, hr2]
                unfold plainR
                rw [hm, if_neg Bool.false_ne_true]
              | cons d r =>
                have he2 : (t[k] == 92 && PunL.contains d) = false := by
                  rw [hd, hr2] at he
                  exact he
                rw [hno hr2, he2, if_neg Bool.false_ne_true]
    · refine iteF ⟨_, rfl, fin ?_⟩
      have h2 : t.length ≤ k := by
        have : ¬ ((k : Int) < ((S t).length : Int)) := fun z => h1 (decide_eq_true z)
        rw [S_len] at this
        omega
      rw [List.drop_of_length_le h2]
      rfl
theorem pos_step {t e : List Nat} (he : e <:+ t) (h : 1 ≤ e.length) : pos t (e.drop 1) = pos t e + 1 := by
  have := he.length_le
  unfold pos
  rw [List.length_drop]
  omega
theorem suf_of {t : List Nat} {p : Nat} {e : List Nat} (h : e <:+ t.drop p) : e <:+ t := h.trans (suf_drop t p)
theorem pre_one {c : Nat} {e : List Nat} (h : ([c] : List Nat).isPrefixOf e = true) : 1 ≤ e.length := pre_len _ _ h
theorem starts_pos {t e : List Nat} (c : Nat) (he : e <:+ t) : Txt.startswith3 (S t) (S [c]) ((pos t e : Nat) : Int) = ([c] : List Nat).isPrefixOf e := by
  rw [starts3 t [c] (by simp) (pos t e), pos_drop he]
theorem lit_LB : ("[" : Str) = S [91] := by decide +kernel
theorem lit_RB : ("]" : Str) = S [93] := by decide +kernel
theorem lit_LRB : ("[]" : Str) = S [91, 93] := by decide +kernel
def sp_label_at (K : PySem.W.Frag) : Sp := fun vs H Q _ => ∃ (t : List Nat) (p : Nat), vs = [.str (S t), .int (p : Int)] ∧ TP t p ∧ ∀ H' v, Same H H' → PV H' v t (labelR (t.drop p)) → Q v H'
theorem ok_label_at {P : Program} {w : World} {K : PySem.W.Frag} {mg : Str → Option Value} {base : Heap} (T : Txt w K mg) : FnOk P w K mg base CX0 3 T.a_label_at T.d_label_at ["text", "place"] (sp_label_at K) := by
  refine T.f_label_at.ok sc_label_at (fun vs H Q E h => ?_) (fun cdv A outer s H vs Q E hr h => ?_)
  · obtain ⟨t, p, rfl, _⟩ := h
    rfl
  · obtain ⟨t, p, rfl, tp, q⟩ := h
    refine ⟨_, (pss_cons (ps_if (pt_not (pt_val (pe_bm PySem.F.plainAttrs_str PySem.F.slot_str_startswith PySem.F.type_str_startswith mt_startswith3 (pv 0) (pa_cons pe_str (pa_cons (pv 1) pa_nil))))) (pss_one (ps_ret pe_non)) pss_nil)
        (pss_cons (ps_set (i := 2) sc_label_at.nd rfl (.inl rfl) (pe_call (ok_first_plain T) (hr.mono (by decide)) (by rfl) T.g_first_plain T.f_first_plain.kp T.b_first_plain .nil pass0 (pa_cons pe_str (pa_cons (pv 0) (pa_cons (pe_op op_add (pv 1) pe_int) pa_nil)))))
        (pss_cons (ps_set (i := 3) sc_label_at.nd rfl (.inl rfl) (pe_slice sl_str (pv 0) (po_some (pe_op op_add (pv 1) pe_int)) (po_some (pv 2))))
        (pss_cons (ps_if (PW.pt (pw_or (pt_not (pt_val (pe_bm PySem.F.plainAttrs_str PySem.F.slot_str_startswith PySem.F.type_str_startswith mt_startswith3 (pv 0) (pa_cons pe_str (pa_cons (pv 2) pa_nil))))) (pw_or1 (pt_cmpR op_gt (pe_callB call_len_str (by rfl) T.z_len PySem.boot_len (pa_cons (pv 3) pa_nil)) (pe_glob (v := .int 999) rfl T.g_LONGEST_LABEL ⟨_, rfl⟩) (nomark _))))) (pss_one (ps_ret pe_non)) pss_nil)
        (pss_cons (ps_if (pt_cmpR op_eq (pe_bm PySem.F.plainAttrs_str PySem.F.slot_str_strip PySem.F.type_str_strip mt_stripChars (pv 3) (pa_cons (pe_glob (v := .str " \t\n") rfl T.g_INLINE_WHITE ⟨_, rfl⟩) pa_nil)) pe_str (nomark _)) (pss_one (ps_ret pe_non)) pss_nil)
        (pss_one (ps_ret (pe_tup (pa_cons (pe_op op_add (pv 2) pe_int) (pa_cons (pv 3) pa_nil)))))))))), ?_⟩
    refine ⟨_, rfl, rfl, _, rfl, _, _, _, rfl, rfl, _, rfl, ?_⟩
    rw [lit_LB, starts3 t [91] (by simp) p]
    cases h1 : ([91] : List Nat).isPrefixOf (t.drop p) with
    | false =>
      refine iteT (q H .non (Same.refl _) ?_)
      unfold labelR
      rw [h1, if_neg Bool.false_ne_true]
      rfl
    | true =>
      refine iteF ?_
      have hp := pre1 h1
      have en : (p : Int) + 1 = ((p + 1 : Nat) : Int) := by omega
      rw [lit_LRB, lit_RB]
      refine ⟨_, rfl, _, rfl, _, _, rfl, rfl, ?_⟩
      refine ⟨[91, 93], t, p + 1, congrArg (fun z => [V.str (S [91, 93]), V.str (S t), V.int z]) en, tp.next hp, ?_⟩
      have hsd : plainR [91, 93] (t.drop (p + 1)) <:+ t.drop (p + 1) := suf_plain _ _
      have hs := suf_of hsd
      have er : labelR (t.drop p) = if ([93] : List Nat).isPrefixOf (plainR [91, 93] (t.drop (p + 1))) = true ∧ (upToL (t.drop (p + 1)) (plainR [91, 93] (t.drop (p + 1)))).length ≤ 999 then
          if whiteB (upToL (t.drop (p + 1)) (plainR [91, 93] (t.drop (p + 1)))) = true then none
          else some (upToL (t.drop (p + 1)) (plainR [91, 93] (t.drop (p + 1))), (plainR [91, 93] (t.drop (p + 1))).drop 1)
        else none := by
        unfold labelR
        rw [h1, if_pos rfl, List.drop_drop]
      rw [er] at q
      generalize plainR [91, 93] (t.drop (p + 1)) = e at hsd hs q ⊢
      refine ⟨_, rfl, _, rfl, _, _, rfl, rfl, _, rfl, _, rfl, _, rfl, _, rfl, tp.line, ?_⟩
      rw [en, up_cut hsd hp]
      have hlen : (upToL (t.drop (p + 1)) e).length ≤ 100000 := by
        have h1 := upTo_len (t.drop (p + 1)) e
        rw [List.length_drop] at h1
        have := tp.sz
        omega
      generalize upToL (t.drop (p + 1)) e = w at hlen q ⊢
      have hln : (S w).length ≤ sizeLine := by rw [S_len, sizeLine_eq]; omega
      refine ⟨_, rfl, rfl, _, rfl, _, _, _, rfl, rfl, _, rfl, ?_⟩
      rw [starts_pos 93 hs]
      cases hc : ([93] : List Nat).isPrefixOf e with
      | false =>
        rw [hc, if_neg fun z => Bool.false_ne_true z.1] at q
        exact iteT (iteT (q H .non (Same.refl _) rfl))
      | true =>
        refine iteF ?_
        refine ⟨_, rfl, _, rfl, hln, _, _, rfl, rfl, _, rfl, ite2 (fun h2 => ?_) (fun h2 => ?_)⟩
        · have h3 : ¬ w.length ≤ 999 := by
            have := of_decide_eq_true h2
            rw [S_len] at this
            omega
          rw [if_neg fun z => h3 z.2] at q
          exact q H .non (Same.refl _) rfl
        · have h3 : w.length ≤ 999 := by
            have : ¬ ((999 : Int) < ((S w).length : Int)) := fun z => h2 (decide_eq_true z)
            rw [S_len] at this
            omega
          rw [if_pos ⟨hc, h3⟩] at q
          refine ⟨_, rfl, rfl, _, _, rfl, rfl, hln, rfl, _, rfl, ?_⟩
          rw [lit_G, lit_e, strip_blank]
          unfold whiteB at q
          cases hw : w.all (fun c => GapL.contains c) with
          | true =>
            rw [hw, if_pos rfl] at q
            exact iteT (q H .non (Same.refl _) rfl)
          | false =>
            rw [hw, if_neg Bool.false_ne_true] at q
            refine iteF ⟨_, rfl, _, _, rfl, rfl, _, rfl, by show 2 ≤ sizeLine; decide, fun r nr => ?_⟩
            refine q _ _ (same_new nr) ⟨r, rfl, ?_⟩
            rw [upd_same, pos_step hs (pre_one hc)]
            congr 3
theorem addL {a b : List Nat} (h : a.length + b.length ≤ 1000000) : (S a).length + (S b).length ≤ sizeLine := by
  rw [S_len, S_len, sizeLine_eq]
  omega
def pvd (t : List Nat) : Option (List Nat × List Nat) → PyData
  | none => .none
  | some (d, r) => .tuple [.int ((pos t r : Nat) : Int), .str (S d)]
theorem pv_dp {K : PySem.W.Frag} {H : Hp} {v : V} {t : List Nat} : ∀ {o : Option (List Nat × List Nat)}, PV H v t o → Dp K H v (pvd t o)
  | none, h => by
    have h' : v = .non := h
    subst h'
    exact .non
  | some (d, r), h => by
    obtain ⟨a, rfl, ha⟩ := h
    exact .tup (SqT.of ha) (.cons (.int _) (.cons (.str _) .nil))
theorem PV.same {H H' : Hp} {v : V} {t : List Nat} : ∀ {o : Option (List Nat × List Nat)}, PV H v t o → Same H H' → PV H' v t o
  | none, h, _ => h
  | some (d, r), h, s => by
    obtain ⟨a, e, ha⟩ := h
    exact ⟨a, e, s _ _ ha⟩
theorem Asc.sm {l : List Nat} (h : Asc l) : Sm l := fun c hc => by have := h c hc; omega
theorem pvd_lay {t d r : List Nat} (h : Sm d) : (pvd t (some (d, r))).canLay0 = true := by
  show (true && (PyData.strOk (S d) && true)) = true
  rw [h.ok]
  rfl
theorem pvd_shaped {t d r : List Nat} (h : Sm d) : SeqAt.shaped (pvd t (some (d, r))) = true := by
  show ((pvd t (some (d, r))).canLay0 && decide ((pvd t (some (d, r))).depth ≤ 64)) = true
  rw [pvd_lay h]
  rfl

/-! ### what is a tree: the small defs -/
mutual
def fit : PyData → Bool
  | .str z => decide (z.length ≤ 10000) && PyData.strOk z
  | .list ds => decide (ds.length ≤ 10000) && fitAll ds
  | .tuple ds => decide (ds.length ≤ 10000) && fitAll ds
  | .dict _ => false
  | _ => true
def fitAll : List PyData → Bool
  | [] => true
  | d :: ds => fit d && fitAll ds
end
theorem fit_str {z : Str} (h : fit (.str z) = true) : z.length ≤ 10000 := by
  unfold fit at h
  rw [Bool.and_eq_true] at h
  exact of_decide_eq_true h.1
theorem fitAll_c {d : PyData} {ds : List PyData} (h : fitAll (d :: ds) = true) : fit d = true ∧ fitAll ds = true := by
  unfold fitAll at h
  rwa [Bool.and_eq_true] at h
theorem fit_tup {ds : List PyData} (h : fit (.tuple ds) = true) : ds.length ≤ 10000 ∧ fitAll ds = true := by
  unfold fit at h
  rw [Bool.and_eq_true] at h
  exact ⟨of_decide_eq_true h.1, h.2⟩
def tyName : PyData → String
  | .none => "NoneType"
  | .bool _ => "bool"
  | .int _ => "int"
  | .str _ => "str"
  | .list _ => "list"
  | .tuple _ => "tuple"
  | .dict _ => "dict"
theorem tyx_dp {K : PySem.W.Frag} {H : Hp} {v : V} {d : PyData} (h : Dp K H v d) : TyX K H v (.type (tyName d)) := by
  cases h with
  | non => exact .base .non
  | bl b => exact .base (.bl b)
  | int i => exact .base (.int i)
  | str x => exact .base (.str x)
  | lst q r =>
    rcases q with (q | ⟨o, q⟩) | ⟨o, its, n, e, c, _⟩
    · exact .base (.lst q)
    · exact .base (.frz q)
    · exact .kList e c
  | tup q r =>
    rcases q with (q | ⟨o, q⟩) | ⟨o, its, n, e, c, _⟩
    · exact .base (.tup q)
    · exact .fTuple q
    · exact .kTuple e c
theorem isi {K : PySem.W.Frag} {H : Hp} {v : V} {d : PyData} {T : String} {b : Bool} {Q : VK} (h : Dp K H v d) (hb : kitB (tyName d) T = some b) (q : Q (.bl b) H) : rIsi K [v, .ty T] H Q :=
  ⟨v, .ty T, _, _, b, rfl, .ty T, tyx_dp h, kit_ty hb, q⟩
theorem kit_str (d : PyData) : kitB (tyName d) "str" = some (isStr d) := by
  cases d
  · exact (by decide +kernel : kitB "NoneType" "str" = some false)
  · exact (by decide +kernel : kitB "bool" "str" = some false)
  · exact (by decide +kernel : kitB "int" "str" = some false)
  · exact (by decide +kernel : kitB "str" "str" = some true)
  · exact (by decide +kernel : kitB "list" "str" = some false)
  · exact (by decide +kernel : kitB "tuple" "str" = some false)
  · exact (by decide +kernel : kitB "dict" "str" = some false)
theorem kit_int (d : PyData) : kitB (tyName d) "int" = some (isInt d) := by
  cases d
  · exact (by decide +kernel : kitB "NoneType" "int" = some false)
  · exact (by decide +kernel : kitB "bool" "int" = some true)
  · exact (by decide +kernel : kitB "int" "int" = some true)
  · exact (by decide +kernel : kitB "str" "int" = some false)
  · exact (by decide +kernel : kitB "list" "int" = some false)
  · exact (by decide +kernel : kitB "tuple" "int" = some false)
  · exact (by decide +kernel : kitB "dict" "int" = some false)
theorem kit_bool (d : PyData) : kitB (tyName d) "bool" = some (isBool d) := by
  cases d
  · exact (by decide +kernel : kitB "NoneType" "bool" = some false)
  · exact (by decide +kernel : kitB "bool" "bool" = some true)
  · exact (by decide +kernel : kitB "int" "bool" = some false)
  · exact (by decide +kernel : kitB "str" "bool" = some false)
  · exact (by decide +kernel : kitB "list" "bool" = some false)
  · exact (by decide +kernel : kitB "tuple" "bool" = some false)
  · exact (by decide +kernel : kitB "dict" "bool" = some false)
theorem kit_tup (d : PyData) : kitB (tyName d) "tuple" = some (isTup d) := by
  cases d
  · exact (by decide +kernel : kitB "NoneType" "tuple" = some false)
  · exact (by decide +kernel : kitB "bool" "tuple" = some false)
  · exact (by decide +kernel : kitB "int" "tuple" = some false)
  · exact (by decide +kernel : kitB "str" "tuple" = some false)
  · exact (by decide +kernel : kitB "list" "tuple" = some false)
  · exact (by decide +kernel : kitB "tuple" "tuple" = some true)
  · exact (by decide +kernel : kitB "dict" "tuple" = some false)
theorem is_non {K : PySem.W.Frag} {H : Hp} {v : V} {d : PyData} (h : Dp K H v d) : decide (v = .non) = isNon d := by
  cases h <;> first | rfl | (rw [decide_eq_false (by intro e; cases e)]; rfl)
theorem dp_tup2 {K : PySem.W.Frag} {G : Hp} {v : V} {ds : List PyData} (h : Dp K G v (.tuple ds)) : ∃ a us, v = .ref a ∧ SqT K G a us ∧ DpAll K G us ds := by
  cases h with
  | tup q r => exact ⟨_, _, rfl, q, r⟩
theorem lit_allow : ("\t\n !\"#$&'()*+,-./0123456789:;<=>?@ABCDEFGHIJKLMNOPQRSTUVWXYZ[\\]^_`abcdefghijklmnopqrstuvwxyz{|}~" : Str) = S AllowL := by decide +kernel
theorem allow_low : ∀ c ∈ AllowL, c < 128 := by decide +kernel
def sp_is_text (K : PySem.W.Frag) : Sp := fun vs H Q _ => ∃ (v : V) (d : PyData), vs = [v] ∧ Dp K H v d ∧ fit d = true ∧ Q (.bl (isTxt d)) H
theorem ok_is_text {P : Program} {w : World} {K : PySem.W.Frag} {mg : Str → Option Value} {base : Heap} (T : Txt w K mg) : FnOk P w K mg base CX0 1 T.a_is_text T.d_is_text ["thing"] (sp_is_text K) := by
  refine T.f_is_text.ok sc_is_text (fun vs H Q E h => ?_) (fun cdv A outer s H vs Q E hr h => ?_)
  · obtain ⟨v, d, rfl, _⟩ := h
    rfl
  · obtain ⟨v, d, rfl, hv, hf, q⟩ := h
    refine ⟨_, (pss_one (ps_ret (pe_and (pe_callB call_isi (by rfl) T.z_isinstance (by decide +kernel) (pa_cons (pv 0) (pa_cons (pe_bltn (v := .ty "str") (by rfl) T.z_str (by decide +kernel) rfl) pa_nil))) (pe_one (pe_cmpR op_eq (pe_bm PySem.F.plainAttrs_str PySem.F.slot_str_strip PySem.F.type_str_strip mt_stripChars (pv 0) (pa_cons (pe_glob (v := .str "\t\n !\"#$&'()*+,-./0123456789:;<=>?@ABCDEFGHIJKLMNOPQRSTUVWXYZ[\\]^_`abcdefghijklmnopqrstuvwxyz{|}~") rfl T.g_ALLOWED ⟨_, rfl⟩) pa_nil)) pe_str (nomark _)))))), ?_⟩
    refine ⟨_, rfl, _, .ty "str", _, _, _, rfl, .ty "str", tyx_dp hv, kit_ty (kit_str d), ⟨_, rfl, ?_⟩⟩
    cases hv with
    | str z =>
      have hz := fit_str hf
      refine iteT ?_
      rw [lit_allow]
      refine ⟨_, rfl, rfl, _, _, rfl, rfl, by rw [sizeLine_eq]; omega, rfl, ?_⟩
      rw [lit_e]
      have e1 := strip_blank z.cps.toList AllowL
      rw [← S_of z] at e1
      rw [e1]
      exact q
    | _ => exact iteF q
def sp_is_lines (K : PySem.W.Frag) : Sp := fun vs H Q _ => ∃ (v : V) (d : PyData), vs = [v] ∧ Dp K H v d ∧ fit d = true ∧ Q (.bl (isLns d)) H
theorem lit_nl0 : ("\n" : Str) = S [10] := by decide +kernel
theorem ok_is_lines {P : Program} {w : World} {K : PySem.W.Frag} {mg : Str → Option Value} {base : Heap} (T : Txt w K mg) : FnOk P w K mg base CX0 2 T.a_is_lines T.d_is_lines ["thing"] (sp_is_lines K) := by
  refine T.f_is_lines.ok sc_is_lines (fun vs H Q E h => ?_) (fun cdv A outer s H vs Q E hr h => ?_)
  · obtain ⟨v, d, rfl, _⟩ := h
    rfl
  · obtain ⟨v, d, rfl, hv, hf, q⟩ := h
    refine ⟨_, (pss_one (ps_ret (pe_and (pe_call (ok_is_text T) (hr.mono (by decide)) (by rfl) T.g_is_text T.f_is_text.kp T.b_is_text .nil pass0 (pa_cons (pv 0) pa_nil)) (pe_one (pe_bm PySem.F.plainAttrs_str PySem.F.slot_str_endswith PySem.F.type_str_endswith mt_endswith (pv 0) (pa_cons pe_str pa_nil)))))), ?_⟩
    refine ⟨_, rfl, v, d, rfl, hv, hf, _, rfl, ?_⟩
    cases hv with
    | str z =>
      show if txt z = true then _ else _
      cases ht : txt z with
      | true =>
        refine iteT ⟨_, rfl, rfl, _, _, rfl, rfl, ?_⟩
        rw [lit_nl0]
        have : isLns (.str z) = Txt.endswith z (S [10]) := by show (txt z && _) = _; rw [ht]; rfl
        rw [← this]
        exact q
      | false =>
        have : isLns (.str z) = false := by show (txt z && _) = _; rw [ht]; rfl
        rw [this] at q
        exact iteF q
    | _ => exact iteF q
def sp_is_filled (K : PySem.W.Frag) : Sp := fun vs H Q _ => ∃ (v : V) (d : PyData), vs = [v] ∧ Dp K H v d ∧ Q (.bl (isFil d)) H
theorem ok_is_filled {P : Program} {w : World} {K : PySem.W.Frag} {mg : Str → Option Value} {base : Heap} (T : Txt w K mg) : FnOk P w K mg base CX0 1 T.a_is_filled T.d_is_filled ["thing"] (sp_is_filled K) := by
  refine T.f_is_filled.ok sc_is_filled (fun vs H Q E h => ?_) (fun cdv A outer s H vs Q E hr h => ?_)
  · obtain ⟨v, d, rfl, _⟩ := h
    rfl
  · obtain ⟨v, d, rfl, hv, q⟩ := h
    refine ⟨_, (pss_one (ps_ret (pe_and (pe_callB call_isi (by rfl) T.z_isinstance (by decide +kernel) (pa_cons (pv 0) (pa_cons (pe_bltn (v := .ty "tuple") (by rfl) T.z_tuple (by decide +kernel) rfl) pa_nil))) (pe_one (pe_cmpR op_gt (pe_callB call_len_seq (by rfl) T.z_len PySem.boot_len (pa_cons (pv 0) pa_nil)) pe_int (nomark _)))))), ?_⟩
    refine ⟨_, rfl, _, .ty "tuple", _, _, _, rfl, .ty "tuple", tyx_dp hv, kit_ty (kit_tup d), ⟨_, rfl, ?_⟩⟩
    cases hv with
    | tup sq r =>
      rename_i a us ds
      refine iteT ⟨_, rfl, a, us, rfl, .inr sq, _, _, rfl, rfl, ?_⟩
      have hl := (dpAll_all2 r).1
      show Q (.bl (decide ((0 : Int) < ((us.length : Nat) : Int)))) H
      have : decide ((0 : Int) < ((us.length : Nat) : Int)) = isFil (.tuple ds) := by
        cases ds with
        | nil =>
          rw [hl]
          rfl
        | cons d ds =>
          rw [hl]
          show decide _ = true
          exact decide_eq_true (by rw [List.length_cons]; omega)
      rw [this]
      exact q
    | _ => exact iteF q
def sp_is_integer_to (K : PySem.W.Frag) : Sp := fun vs H Q _ => ∃ (a b : Int) (v : V) (d : PyData), vs = [.int a, .int b, v] ∧ Dp K H v d ∧ Q (.bl (intTo a b d)) H
theorem ok_is_integer_to {P : Program} {w : World} {K : PySem.W.Frag} {mg : Str → Option Value} {base : Heap} (T : Txt w K mg) : FnOk P w K mg base CX0 1 T.a_is_integer_to T.d_is_integer_to ["least", "most", "thing"] (sp_is_integer_to K) := by
  refine T.f_is_integer_to.ok sc_is_integer_to (fun vs H Q E h => ?_) (fun cdv A outer s H vs Q E hr h => ?_)
  · obtain ⟨a, b, v, d, rfl, _⟩ := h
    rfl
  · obtain ⟨a, b, v, d, rfl, hv, q⟩ := h
    refine ⟨_, (pss_one (ps_ret (pe_and (pe_callB call_isi (by rfl) T.z_isinstance (by decide +kernel) (pa_cons (pv 2) (pa_cons (pe_bltn (v := .ty "int") (by rfl) T.z_int (by decide +kernel) rfl) pa_nil))) (pe_and (pe_not (pe_callB call_isi (by rfl) T.z_isinstance (by decide +kernel) (pa_cons (pv 2) (pa_cons (pe_bltn (v := .ty "bool") (by rfl) T.z_bool (by decide +kernel) rfl) pa_nil)))) (pe_one (pe_chain op_le op_le (pv 0) (pv 2) (pv 1))))))), ?_⟩
    refine ⟨_, rfl, _, .ty "int", _, _, _, rfl, .ty "int", tyx_dp hv, kit_ty (kit_int d), ⟨_, rfl, ?_⟩⟩
    cases hv with
    | int i =>
      refine iteT ⟨_, rfl, _, .ty "bool", _, _, _, rfl, .ty "bool", tyx_dp (.int i), kit_ty (kit_bool (.int i)), ⟨_, rfl, _, rfl, iteT ?_⟩⟩
      refine ⟨_, rfl, _, rfl, _, _, rfl, rfl, _, rfl, ?_⟩
      have e : intTo a b (.int i) = (decide (a ≤ i) && decide (i ≤ b)) := rfl
      rw [e] at q
      cases h1 : decide (a ≤ i) with
      | true =>
        rw [h1, Bool.true_and] at q
        exact iteT ⟨_, rfl, _, _, rfl, rfl, q⟩
      | false =>
        rw [h1, Bool.false_and] at q
        exact iteF q
    | bl x =>
      refine iteT ⟨_, rfl, _, .ty "bool", _, _, _, rfl, .ty "bool", tyx_dp (.bl x), kit_ty (kit_bool (.bool x)), ⟨_, rfl, _, rfl, iteF q⟩⟩
    | _ => exact iteF q

/-! ### labels, targets, starts -/
theorem eqv_pair (p1 p2 : Int) (a b : List Nat) : PyData.eqv (.tuple [.int p1, .str (S a)]) (.tuple [.int p2, .str (S b)]) = (decide (p1 = p2) && decide (a = b)) := by
  show (decide (p1 = p2) && (decide (S a = S b) && true)) = _
  rw [Bool.and_true]
  congr 1
  exact decide_eq_decide.mpr ⟨fun h => S_inj h, fun h => by rw [h]⟩
def sp_is_label_text (K : PySem.W.Frag) : Sp := fun vs H Q _ => ∃ w : List Nat, vs = [.str (S w)] ∧ w.length ≤ 20000 ∧ Asc w ∧ ∀ H', Same H H' → Q (.bl (labT w)) H'
theorem ok_is_label_text {P : Program} {w : World} {K : PySem.W.Frag} {mg : Str → Option Value} {base : Heap} (T : Txt w K mg) : FnOk P w K mg base CX0 4 T.a_is_label_text T.d_is_label_text ["thing"] (sp_is_label_text K) := by
  refine T.f_is_label_text.ok sc_is_label_text (fun vs H Q E h => ?_) (fun cdv A outer s H vs Q E hr h => ?_)
  · obtain ⟨w, rfl, _⟩ := h
    rfl
  · obtain ⟨w, rfl, hl, ha, q⟩ := h
    refine ⟨_, (pss_one (ps_ret (pe_and (pe_callB call_isi (by rfl) T.z_isinstance (by decide +kernel) (pa_cons (pv 0) (pa_cons (pe_bltn (v := .ty "str") (by rfl) T.z_str (by decide +kernel) rfl) pa_nil))) (pe_one (pe_cmpR (op_eqD hr.units) (pe_call (ok_label_at T) (hr.mono (by decide)) (by rfl) T.g_label_at T.f_label_at.kp T.b_label_at .nil pass0 (pa_cons (pe_op op_add_str (pe_op op_add_str pe_str (pv 0)) pe_str) (pa_cons pe_int pa_nil))) (pe_tup (pa_cons (pe_op op_add (pe_callB call_len_str (by rfl) T.z_len PySem.boot_len (pa_cons (pv 0) pa_nil)) pe_int) (pa_cons (pv 0) pa_nil))) (nomark _)))))), ?_⟩
    refine ⟨_, rfl, _, .ty "str", _, _, _, rfl, .ty "str", tyx_dp (.str (S w)), kit_ty (kit_str (.str (S w))), _, rfl, iteT ?_⟩
    rw [lit_LB, lit_RB]
    refine ⟨_, rfl, _, _, rfl, rfl, addL (by simp; omega), ?_⟩
    rw [S_app]
    refine ⟨_, _, rfl, rfl, addL (by simp; omega), ?_⟩
    rw [S_app]
    have et : [91] ++ w ++ [93] = 91 :: (w ++ [93]) := by simp
    rw [et]
    refine ⟨_, 0, rfl, ⟨Nat.zero_le _, by simp; omega⟩, fun H1 v s1 hv => ?_⟩
    rw [List.drop_zero] at hv
    refine ⟨_, rfl, _, rfl, by rw [S_len, sizeLine_eq]; omega, _, _, rfl, rfl, _, rfl, by show 2 ≤ sizeLine; decide, fun p np => ?_⟩
    have hv2 := hv.same (same_new (o := .tup [.int (((S w).length : Int) + 2), .str (S w)]) np)
    have hp2 : Dp K (upd H1 p (.tup [.int (((S w).length : Int) + 2), .str (S w)])) (.ref p) (.tuple [.int (((S w).length : Int) + 2), .str (S w)]) := .tup (SqT.of upd_same) (.cons (.int _) (.cons (.str _) .nil))
    have sh2 : SeqAt.shaped (.tuple [.int (((S w).length : Int) + 2), .str (S w)]) = true := by
      show ((true && (PyData.strOk (S w) && true)) && decide ((PyData.tuple [.int (((S w).length : Int) + 2), .str (S w)]).depth ≤ 64)) = true
      rw [ha.sm.ok]
      rfl
    cases e : labelR (91 :: (w ++ [93])) with
    | none =>
      rw [e] at hv2
      refine ⟨_, _, pv_dp hv2, hp2, rfl, sh2, ?_⟩
      have : labT w = false := by
        unfold labT
        rw [e]
        rfl
      rw [this] at q
      exact q _ (s1.trans (same_new np))
    | some x =>
      obtain ⟨d, r⟩ := x
      rw [e] at hv2
      obtain ⟨e1, _⟩ := label_parts e
      have e2 : w ++ [93] = d ++ 93 :: r := (List.cons.inj e1).2
      have hd : Sm d := fun c hc => by
        have : c ∈ w ++ [93] := by rw [e2]; exact List.mem_append_left _ hc
        rcases List.mem_append.mp this with h | h
        · exact ha.sm c h
        · rw [List.mem_singleton.mp h]
          decide
      refine ⟨_, _, pv_dp hv2, hp2, pvd_shaped hd, sh2, ?_⟩
      have hr2 : r.length ≤ w.length + 2 := by
        have := congrArg List.length e2
        simp at this
        omega
      have : PyData.eqv (pvd (91 :: (w ++ [93])) (some (d, r))) (.tuple [.int (((S w).length : Int) + 2), .str (S w)]) = labT w := by
        show PyData.eqv (.tuple [.int ((pos (91 :: (w ++ [93])) r : Nat) : Int), .str (S d)]) _ = _
        rw [eqv_pair]
        unfold labT
        rw [e]
        show _ = (some (d, r) == some (w, []))
        have e3 : (some (d, r) == some (w, ([] : List Nat))) = decide ((d, r) = (w, ([] : List Nat))) := by
          rw [Bool.eq_iff_iff]
          simp
        rw [e3, S_len]
        unfold pos
        rw [show (91 :: (w ++ [93])).length = w.length + 2 by simp]
        by_cases hrn : r = []
        · subst hrn
          by_cases hdw : d = w
          · subst hdw
            simp
          · simp [hdw]
        · have h1 : 1 ≤ r.length := by
            cases r with
            | nil => exact absurd rfl hrn
            | cons c r => simp
          rw [decide_eq_false (p := ((d, r) = (w, []))) (by intro h; exact hrn (Prod.mk.inj h).2)]
          rw [decide_eq_false (by omega)]
          rfl
      rw [this]
      exact q _ (s1.trans (same_new np))
theorem lit_sp : (" " : Str) = S [32] := by decide +kernel
theorem txt_asc {z : Str} (h : txt z = true) : Asc z.cps.toList := fun c hc => allow_low c (by
  have := List.all_eq_true.mp h c hc
  simpa using this)
def sp_is_label (K : PySem.W.Frag) : Sp := fun vs H Q _ => ∃ z : Str, vs = [.str z] ∧ z.length ≤ 10000 ∧ txt z = true ∧ ∀ H', Same H H' → Q (.bl (lab z)) H'
theorem ok_is_label {P : Program} {w : World} {K : PySem.W.Frag} {mg : Str → Option Value} {base : Heap} (T : Txt w K mg) : FnOk P w K mg base CX0 5 T.a_is_label T.d_is_label ["thing"] (sp_is_label K) := by
  refine T.f_is_label.ok sc_is_label (fun vs H Q E h => ?_) (fun cdv A outer s H vs Q E hr h => ?_)
  · obtain ⟨w, rfl, _⟩ := h
    rfl
  · obtain ⟨z, rfl, hl, ht, q⟩ := h
    refine ⟨_, (pss_cons (ps_if (PW.pt (pw_or (pt_not (pt_val (pe_callB call_isi (by rfl) T.z_isinstance (by decide +kernel) (pa_cons (pv 0) (pa_cons (pe_bltn (v := .ty "str") (by rfl) T.z_str (by decide +kernel) rfl) pa_nil))))) (pw_or1 (pt_cmpR op_ne (pe_join pe_str (pe_words (pe_bm0 PySem.F.plainAttrs_str PySem.F.slot_str_lower PySem.F.type_str_lower mt_lower (pv 0)))) (pv 0) (nomark _))))) (pss_one (ps_ret pe_bl)) pss_nil)
        (pss_one (ps_ret (pe_or (pe_call (ok_is_label_text T) (hr.mono (by decide)) (by rfl) T.g_is_label_text T.f_is_label_text.kp T.b_is_label_text .nil pass0 (pa_cons (pv 0) pa_nil)) (pe_one (pe_call (ok_is_label_text T) (hr.mono (by decide)) (by rfl) T.g_is_label_text T.f_is_label_text.kp T.b_is_label_text .nil pass0 (pa_cons (pe_op op_add_str (pv 0) pe_str) pa_nil))))))), ?_⟩
    have ha := txt_asc ht
    generalize hw : z.cps.toList = w at ha
    obtain rfl : z = S w := by rw [← hw]; exact S_of z
    rw [S_len] at hl
    refine ⟨_, rfl, _, .ty "str", _, _, _, rfl, .ty "str", tyx_dp (.str (S w)), kit_ty (kit_str (.str (S w))), _, rfl, iteF ?_⟩
    rw [lit_sp]
    refine ⟨⟨_, rfl⟩, _, rfl, rfl, _, rfl, rfl, by rw [S_len]; omega, ?_⟩
    rw [lower_S w ha]
    refine ⟨⟨_, rfl⟩, _, rfl, rfl, by rw [S_len, List.length_map, sizeLine_eq]; omega, fun p np => ?_⟩
    refine ⟨_, p, _, rfl, rfl, .inl (SqL.of upd_same), ?_, ?_⟩
    · have h1 := StrLaws.words_weight (S (w.map lo1))
      rw [S_len, List.length_map] at h1
      rw [S_len]
      show _ + _ * 1 ≤ _
      omega
    · refine ⟨_, rfl, rfl, _, rfl, ?_⟩
      have el : lab (S w) = (decide (Txt.join (S [32]) (Txt.words (S (w.map lo1))) = S w) && (labT w || labT (w ++ [32]))) := by
        unfold lab
        rw [S_tl]
      rw [el] at q
      have ed : decide (V.str (Txt.join (S [32]) (Txt.words (S (w.map lo1)))) = V.str (S w)) = decide (Txt.join (S [32]) (Txt.words (S (w.map lo1))) = S w) := decide_eq_decide.mpr ⟨fun h => V.str.inj h, fun h => by rw [h]⟩
      rw [ed]
      cases h1 : decide (Txt.join (S [32]) (Txt.words (S (w.map lo1))) = S w) with
      | false =>
        rw [h1, Bool.false_and] at q
        exact iteT (q _ (same_new np))
      | true =>
        rw [h1, Bool.true_and] at q
        refine iteF ?_
        refine ⟨_, rfl, w, rfl, by omega, ha, fun H2 s2 => ⟨_, rfl, ?_⟩⟩
        cases h2 : labT w with
        | true =>
          rw [h2, Bool.true_or] at q
          exact iteT (q _ ((same_new np).trans s2))
        | false =>
          rw [h2, Bool.false_or] at q
          refine iteF ?_
          refine ⟨_, rfl, _, _, rfl, rfl, addL (by simp; omega), w ++ [32], by rw [S_app]; rfl, by simp; omega, fun c hc => ?_, fun H3 s3 => q _ (((same_new np).trans s2).trans s3)⟩
          rcases List.mem_append.mp hc with h | h
          · exact ha c h
          · rw [List.mem_singleton.mp h]
            decide
def sp_fits_target (K : PySem.W.Frag) : Sp := fun vs H Q _ => ∃ (v u : V) (d t : PyData), vs = [v, u] ∧ Dp K H v d ∧ Dp K H u t ∧ fit d = true ∧ fit t = true ∧ Q (.bl (fitTgt d t)) H
theorem ok_fits_target {P : Program} {w : World} {K : PySem.W.Frag} {mg : Str → Option Value} {base : Heap} (T : Txt w K mg) : FnOk P w K mg base CX0 2 T.a_fits_target T.d_fits_target ["destination", "title"] (sp_fits_target K) := by
  refine T.f_fits_target.ok sc_fits_target (fun vs H Q E h => ?_) (fun cdv A outer s H vs Q E hr h => ?_)
  · obtain ⟨v, u, d, t, rfl, _⟩ := h
    rfl
  · obtain ⟨v, u, d, t, rfl, hv, hu, fd, ft, q⟩ := h
    refine ⟨_, (pss_one (ps_ret (pe_and (pe_call (ok_is_text T) (hr.mono (by decide)) (by rfl) T.g_is_text T.f_is_text.kp T.b_is_text .nil pass0 (pa_cons (pv 0) pa_nil)) (pe_one (pe_or (pe_cmpR op_isN (pv 1) pe_non (nomark _)) (pe_one (pe_call (ok_is_text T) (hr.mono (by decide)) (by rfl) T.g_is_text T.f_is_text.kp T.b_is_text .nil pass0 (pa_cons (pv 1) pa_nil)))))))), ?_⟩
    refine ⟨_, rfl, v, d, rfl, hv, fd, _, rfl, ?_⟩
    unfold fitTgt at q
    cases h1 : isTxt d with
    | false =>
      rw [h1, Bool.false_and] at q
      exact iteF q
    | true =>
      rw [h1, Bool.true_and] at q
      refine iteT ⟨_, rfl, rfl, _, rfl, ?_⟩
      rw [is_non hu]
      cases h2 : isNon t with
      | true =>
        rw [h2, Bool.true_or] at q
        exact iteT q
      | false =>
        rw [h2, Bool.false_or] at q
        exact iteF ⟨_, rfl, u, t, rfl, hu, ft, q⟩
def sp_fits_start (K : PySem.W.Frag) : Sp := fun vs H Q _ => ∃ (g : Str) (v : V) (d : PyData), vs = [.str g, v] ∧ Dp K H v d ∧ ∀ H', Same H H' → Q (.bl (fitStart g d)) H'
theorem ok_fits_start {P : Program} {w : World} {K : PySem.W.Frag} {mg : Str → Option Value} {base : Heap} (T : Txt w K mg) : FnOk P w K mg base CX0 2 T.a_fits_start T.d_fits_start ["sign", "start"] (sp_fits_start K) := by
  refine T.f_fits_start.ok sc_fits_start (fun vs H Q E h => ?_) (fun cdv A outer s H vs Q E hr h => ?_)
  · obtain ⟨g, v, d, rfl, _⟩ := h
    rfl
  · obtain ⟨g, v, d, rfl, hv, q⟩ := h
    refine ⟨_, (pss_cons (ps_if (pt_cmpR op_in_seq (pv 0) (pe_tup (pa_cons pe_str (pa_cons pe_str (pa_cons pe_str pa_nil)))) (by rfl)) (pss_one (ps_ret (pe_cmpR op_isN (pv 1) pe_non (nomark _)))) pss_nil)
        (pss_one (ps_ret (pe_and (pe_cmpR op_in_seq (pv 0) (pe_tup (pa_cons pe_str (pa_cons pe_str pa_nil))) (by rfl)) (pe_one (pe_call (ok_is_integer_to T) (hr.mono (by decide)) (by rfl) T.g_is_integer_to T.f_is_integer_to.kp T.b_is_integer_to .nil pass0 (pa_cons pe_int (pa_cons (pe_glob (v := .int 999999999) rfl T.g_HIGHEST_START ⟨_, rfl⟩) (pa_cons (pv 1) pa_nil))))))))), ?_⟩
    refine ⟨_, rfl, (by show 3 ≤ sizeLine; decide), fun t nt => ⟨t, _, rfl, .inr (SqT.of upd_same), rfl, (by decide +kernel), _, rfl, ?_⟩⟩
    unfold fitStart at q
    rw [if_neg Bool.false_ne_true]
    cases h1 : inV (.str g) [.str "-", .str "+", .str "*"] with
    | true =>
      rw [h1, if_pos rfl] at q
      refine iteT ⟨_, rfl, rfl, ?_⟩
      rw [is_non hv]
      exact q _ (same_new nt)
    | false =>
      rw [h1, if_neg Bool.false_ne_true] at q
      refine iteF ⟨_, rfl, (by show 2 ≤ sizeLine; decide), fun t2 nt2 => ⟨t2, _, rfl, .inr (SqT.of upd_same), rfl, (by decide +kernel), _, rfl, ?_⟩⟩
      rw [if_neg Bool.false_ne_true]
      have sm := (same_new (o := .tup [.str "-", .str "+", .str "*"]) nt).trans (same_new (o := .tup [.str ".", .str ")"]) nt2)
      cases h2 : inV (.str g) [.str ".", .str ")"] with
      | false =>
        rw [h2, Bool.false_and] at q
        exact iteF (q _ sm)
      | true =>
        rw [h2, Bool.true_and] at q
        exact iteT ⟨_, rfl, 0, 999999999, v, d, rfl, dp_same sm hv, q _ sm⟩

theorem dp_str {K : PySem.W.Frag} {G : Hp} {v : V} {z : Str} (h : Dp K G v (.str z)) : v = .str z := by
  cases h
  rfl
/-! ### the rows in a block, in an inline -/
def PairI (K : PySem.W.Frag) (G H : Hp) (w : V) (p : So × PyData) : Prop := ∃ a u, w = .ref a ∧ H a = some (.tup [.str p.1.nm, u]) ∧ Dp K G u p.2
theorem PairI.mono {K : PySem.W.Frag} {G H H' : Hp} {w : V} {p : So × PyData} (h : PairI K G H w p) (s : Same H H') : PairI K G H' w p := by
  obtain ⟨a, u, e, h, d⟩ := h
  exact ⟨a, u, e, s _ _ h, d⟩
def RV (K : PySem.W.Frag) (G H : Hp) (v : V) : Option (List (So × PyData)) → Prop
  | none => v = .non
  | some rs => ∃ p ws, v = .ref p ∧ H p = some (.lst ws) ∧ All2 (PairI K G H) ws rs
def sp_none_if_not (K : PySem.W.Frag) : Sp := fun vs H Q _ => ∃ b : Bool, vs = [.bl b] ∧ ∀ H' r, Same H H' → (∀ G, RV K G H' r (ok b)) → Q r H'
theorem ok_none_if_not {P : Program} {w : World} {K : PySem.W.Frag} {mg : Str → Option Value} {base : Heap} (T : Txt w K mg) : FnOk P w K mg base CX0 1 T.a_none_if_not T.d_none_if_not ["fits"] (sp_none_if_not K) := by
  refine T.f_none_if_not.ok sc_none_if_not (fun vs H Q E h => ?_) (fun cdv A outer s H vs Q E hr h => ?_)
  · obtain ⟨b, rfl, _⟩ := h
    rfl
  · obtain ⟨b, rfl, q⟩ := h
    refine ⟨_, (pss_cons (ps_if (pt_val (pv 0)) (pss_one (ps_ret (pe_lst pa_nil))) pss_nil)
        (pss_one (ps_ret pe_non))), ?_⟩
    refine ⟨_, rfl, _, rfl, ?_⟩
    cases b with
    | true => exact iteT ⟨(by show 0 ≤ sizeLine; decide), fun p np => q _ _ (same_new np) fun G => ⟨p, [], rfl, upd_same, .nil⟩⟩
    | false => exact iteF (q _ _ (Same.refl _) fun G => rfl)
/-- a block function's promise: of a block with this word and so many parts behind it -/
def sp_blk (K : PySem.W.Frag) (z : Str) (n : Nat) : Sp := fun vs H Q _ => ∃ (G : Hp) (v : V) (rest : List PyData), vs = [v] ∧ Same G H ∧ Dp K G v (.tuple (.str z :: rest)) ∧ rest.length = n ∧ fitAll rest = true ∧ ∀ H' r, Same H H' → RV K G H' r (blkR z rest) → Q r H'
theorem dp_parts1 {K : PySem.W.Frag} {G : Hp} {v : V} {z : Str} {rest : List PyData} (h : Dp K G v (.tuple (.str z :: rest))) (e : rest.length = 1) : ∃ a u x, v = .ref a ∧ rest = [x] ∧ SqT K G a [.str z, u] ∧ Dp K G u x := by
  obtain ⟨a, us, rfl, sq, r⟩ := dp_tup2 h
  match rest, e with
  | [x], _ =>
    cases r with
    | cons r0 r =>
      cases r with
      | cons r1 r =>
        cases r
        cases r0
        exact ⟨a, _, x, rfl, rfl, sq, r1⟩
theorem dp_parts0 {K : PySem.W.Frag} {G : Hp} {v : V} {z : Str} {rest : List PyData} (h : Dp K G v (.tuple (.str z :: rest))) : ∃ a us, v = .ref a ∧ SqT K G a (.str z :: us) ∧ DpAll K G us rest := by
  obtain ⟨a, us, rfl, sq, r⟩ := dp_tup2 h
  cases r with
  | cons r0 r =>
    cases r0
    exact ⟨a, _, rfl, sq, r⟩
theorem dp_parts2 {K : PySem.W.Frag} {G : Hp} {v : V} {z : Str} {rest : List PyData} (h : Dp K G v (.tuple (.str z :: rest))) (e : rest.length = 2) : ∃ a u1 u2 x y, v = .ref a ∧ rest = [x, y] ∧ SqT K G a [.str z, u1, u2] ∧ Dp K G u1 x ∧ Dp K G u2 y := by
  obtain ⟨a, us, rfl, sq, r⟩ := dp_parts0 h
  match rest, e with
  | [x, y], _ =>
    cases r with
    | cons r1 r =>
      cases r with
      | cons r2 r =>
        cases r
        exact ⟨a, _, _, x, y, rfl, rfl, sq, r1, r2⟩
theorem dp_parts3 {K : PySem.W.Frag} {G : Hp} {v : V} {z : Str} {rest : List PyData} (h : Dp K G v (.tuple (.str z :: rest))) (e : rest.length = 3) : ∃ a u1 u2 u3 x y w, v = .ref a ∧ rest = [x, y, w] ∧ SqT K G a [.str z, u1, u2, u3] ∧ Dp K G u1 x ∧ Dp K G u2 y ∧ Dp K G u3 w := by
  obtain ⟨a, us, rfl, sq, r⟩ := dp_parts0 h
  match rest, e with
  | [x, y, w], _ =>
    cases r with
    | cons r1 r =>
      cases r with
      | cons r2 r =>
        cases r with
        | cons r3 r =>
          cases r
          exact ⟨a, _, _, _, x, y, w, rfl, rfl, sq, r1, r2, r3⟩
theorem dp_parts4 {K : PySem.W.Frag} {G : Hp} {v : V} {z : Str} {rest : List PyData} (h : Dp K G v (.tuple (.str z :: rest))) (e : rest.length = 4) : ∃ a u1 u2 u3 u4 x y w t, v = .ref a ∧ rest = [x, y, w, t] ∧ SqT K G a [.str z, u1, u2, u3, u4] ∧ Dp K G u1 x ∧ Dp K G u2 y ∧ Dp K G u3 w ∧ Dp K G u4 t := by
  obtain ⟨a, us, rfl, sq, r⟩ := dp_parts0 h
  match rest, e with
  | [x, y, w, t], _ =>
    cases r with
    | cons r1 r =>
      cases r with
      | cons r2 r =>
        cases r with
        | cons r3 r =>
          cases r with
          | cons r4 r =>
            cases r
            exact ⟨a, _, _, _, _, x, y, w, t, rfl, rfl, sq, r1, r2, r3, r4⟩
theorem ix1 {a b : V} {us : List V} : atI (a :: b :: us) 1 = some b := atI_nat (j := 1) rfl
theorem ix2 {a b c : V} {us : List V} : atI (a :: b :: c :: us) 2 = some c := atI_nat (j := 2) rfl
theorem ix3 {a b c d : V} {us : List V} : atI (a :: b :: c :: d :: us) 3 = some d := atI_nat (j := 3) rfl
/-- one pair in a new list -/
theorem rv_one {K : PySem.W.Frag} {G H : Hp} {u : V} {d : PyData} {s : So} {t p : Addr} (nt : H t = none) (np : (upd H t (.tup [.str s.nm, u])) p = none) (hu : Dp K G u d) : RV K G (upd (upd H t (.tup [.str s.nm, u])) p (.lst [.ref t])) (.ref p) (some [(s, d)]) :=
  ⟨p, _, rfl, upd_same, .one ⟨t, u, rfl, (same_new np) _ _ upd_same, hu⟩⟩
abbrev sp_quote_rows (K : PySem.W.Frag) : Sp := sp_blk K "quote" 1
abbrev sp_break_rows (K : PySem.W.Frag) : Sp := sp_blk K "break" 0
abbrev sp_list_rows (K : PySem.W.Frag) : Sp := sp_blk K "list" 4
abbrev sp_heading_rows (K : PySem.W.Frag) : Sp := sp_blk K "heading" 2
abbrev sp_code_rows (K : PySem.W.Frag) : Sp := sp_blk K "code" 2
abbrev sp_html_rows (K : PySem.W.Frag) : Sp := sp_blk K "html" 1
abbrev sp_definition_rows (K : PySem.W.Frag) : Sp := sp_blk K "definition" 3
abbrev sp_paragraph_rows (K : PySem.W.Frag) : Sp := sp_blk K "paragraph" 1
theorem ok_quote_rows {P : Program} {w : World} {K : PySem.W.Frag} {mg : Str → Option Value} {base : Heap} (T : Txt w K mg) : FnOk P w K mg base CX0 1 T.a_quote_rows T.d_quote_rows ["block"] (sp_quote_rows K) := by
  refine T.f_quote_rows.ok sc_quote_rows (fun vs H Q E h => ?_) (fun cdv A outer s H vs Q E hr h => ?_)
  · obtain ⟨G, v, rest, rfl, _⟩ := h
    rfl
  · obtain ⟨G, v, rest, rfl, sG, hv, hn, hf, q⟩ := h
    refine ⟨_, (pss_one (ps_ret (pe_lst (pa_cons (pe_tup (pa_cons (pe_glob (v := .str "blocks") rfl T.g_BLOCKS ⟨_, rfl⟩) (pa_cons (pe_ix ix_tup (pv 0) pe_int (fun _ _ => rfl)) pa_nil))) pa_nil)))), ?_⟩
    obtain ⟨a, u, x, rfl, rfl, sq, hx⟩ := dp_parts1 hv hn
    refine ⟨_, rfl, a, _, _, _, rfl, rfl, same_tup sG sq, ix1, (by show 2 ≤ sizeLine; decide), fun t nt => ⟨(by show 1 ≤ sizeLine; decide), fun p np => ?_⟩⟩
    refine q _ _ ((same_new nt).trans (same_new np)) ?_
    have e : blkR "quote" [x] = some [(.B, x)] := by unfold blkR; rw [if_pos rfl]
    rw [e]
    exact rv_one (s := .B) nt np hx
theorem ok_break_rows {P : Program} {w : World} {K : PySem.W.Frag} {mg : Str → Option Value} {base : Heap} (T : Txt w K mg) : FnOk P w K mg base CX0 1 T.a_break_rows T.d_break_rows ["block"] (sp_break_rows K) := by
  refine T.f_break_rows.ok sc_break_rows (fun vs H Q E h => ?_) (fun cdv A outer s H vs Q E hr h => ?_)
  · obtain ⟨G, v, rest, rfl, _⟩ := h
    rfl
  · obtain ⟨G, v, rest, rfl, sG, hv, hn, hf, q⟩ := h
    refine ⟨_, (pss_one (ps_ret (pe_lst pa_nil))), ?_⟩
    refine ⟨(by show 0 ≤ sizeLine; decide), fun p np => ?_⟩
    refine q _ _ (same_new np) ?_
    obtain rfl : rest = [] := List.length_eq_zero_iff.mp hn
    have e : blkR "break" [] = some [] := by unfold blkR; rw [if_neg (by decide +kernel), if_neg (by decide +kernel), if_neg (by decide +kernel), if_pos rfl]; rfl
    rw [e]
    exact ⟨p, [], rfl, upd_same, .nil⟩
theorem blk_list (g : Str) (st ti : PyData) (its : List PyData) : blkR "list" [.str g, st, ti, .tuple its] = if (fitStart g st && isBool ti && !its.isEmpty) = true then some (its.map fun i => (.B, i)) else none := by
  unfold blkR
  rw [if_neg (by decide +kernel), if_pos rfl]
theorem blk_list1 (g : PyData) (st ti its : PyData) (h : isStr g = false) : blkR "list" [g, st, ti, its] = none := by
  unfold blkR
  rw [if_neg (by decide +kernel), if_pos rfl]
  cases g <;> first | rfl | cases h
theorem blk_list2 (g : PyData) (st ti its : PyData) (h : isTup its = false) : blkR "list" [g, st, ti, its] = none := by
  unfold blkR
  rw [if_neg (by decide +kernel), if_pos rfl]
  cases g <;> cases its <;> first | rfl | cases h
theorem blk_head (l r : PyData) : blkR "heading" [l, r] = if intTo 1 6 l = true then some [(.I, r)] else none := by
  unfold blkR
  rw [if_neg (by decide +kernel), if_neg (by decide +kernel), if_pos rfl]
theorem blk_code (t i : PyData) : blkR "code" [t, i] = ok (if isNon i = true then isLns t else isTxt i && (isLns t || isEmp t)) := by
  unfold blkR
  rw [if_neg (by decide +kernel), if_neg (by decide +kernel), if_neg (by decide +kernel), if_neg (by decide +kernel), if_pos rfl]
theorem blk_html (t : PyData) : blkR "html" [t] = ok (isLns t) := by
  unfold blkR
  rw [if_neg (by decide +kernel), if_neg (by decide +kernel), if_neg (by decide +kernel), if_neg (by decide +kernel), if_neg (by decide +kernel), if_pos rfl]
theorem blk_def (l d t : PyData) : blkR "definition" [l, d, t] = ok (isTxt l && isLab l && fitTgt d t) := by
  unfold blkR
  rw [if_neg (by decide +kernel), if_neg (by decide +kernel), if_neg (by decide +kernel), if_neg (by decide +kernel), if_neg (by decide +kernel), if_neg (by decide +kernel), if_pos rfl]
theorem blk_par (r : PyData) : blkR "paragraph" [r] = if isFil r = true then some [(.I, r)] else none := by
  unfold blkR
  rw [if_neg (by decide +kernel), if_neg (by decide +kernel), if_neg (by decide +kernel), if_neg (by decide +kernel), if_neg (by decide +kernel), if_neg (by decide +kernel), if_neg (by decide +kernel), if_pos rfl]
theorem ok_heading_rows {P : Program} {w : World} {K : PySem.W.Frag} {mg : Str → Option Value} {base : Heap} (T : Txt w K mg) : FnOk P w K mg base CX0 2 T.a_heading_rows T.d_heading_rows ["block"] (sp_heading_rows K) := by
  refine T.f_heading_rows.ok sc_heading_rows (fun vs H Q E h => ?_) (fun cdv A outer s H vs Q E hr h => ?_)
  · obtain ⟨G, v, rest, rfl, _⟩ := h
    rfl
  · obtain ⟨G, v, rest, rfl, sG, hv, hn, hf, q⟩ := h
    refine ⟨_, (pss_cons (ps_if (pt_not (pt_val (pe_call (ok_is_integer_to T) (hr.mono (by decide)) (by rfl) T.g_is_integer_to T.f_is_integer_to.kp T.b_is_integer_to .nil pass0 (pa_cons pe_int (pa_cons (pe_glob (v := .int 6) rfl T.g_HIGHEST_LEVEL ⟨_, rfl⟩) (pa_cons (pe_ix ix_tup (pv 0) pe_int (fun _ _ => rfl)) pa_nil)))))) (pss_one (ps_ret pe_non)) pss_nil)
        (pss_one (ps_ret (pe_lst (pa_cons (pe_tup (pa_cons (pe_glob (v := .str "inlines") rfl T.g_INLINES ⟨_, rfl⟩) (pa_cons (pe_ix ix_tup (pv 0) pe_int (fun _ _ => rfl)) pa_nil))) pa_nil))))), ?_⟩
    obtain ⟨a, u1, u2, x, y, rfl, rfl, sq, hx, hy⟩ := dp_parts2 hv hn
    rw [blk_head] at q
    refine ⟨_, rfl, a, _, _, _, rfl, rfl, same_tup sG sq, ix1, 1, 6, u1, x, rfl, dp_same sG hx, _, rfl, ?_⟩
    cases h1 : intTo 1 6 x with
    | false =>
      rw [h1, if_neg Bool.false_ne_true] at q
      exact iteT (q _ _ (Same.refl _) rfl)
    | true =>
      rw [h1, if_pos rfl] at q
      refine iteF ⟨_, rfl, a, _, _, _, rfl, rfl, same_tup sG sq, ix2, (by show 2 ≤ sizeLine; decide), fun t nt => ⟨(by show 1 ≤ sizeLine; decide), fun p np => ?_⟩⟩
      exact q _ _ ((same_new nt).trans (same_new np)) (rv_one (s := .I) nt np hy)
theorem ok_paragraph_rows {P : Program} {w : World} {K : PySem.W.Frag} {mg : Str → Option Value} {base : Heap} (T : Txt w K mg) : FnOk P w K mg base CX0 2 T.a_paragraph_rows T.d_paragraph_rows ["block"] (sp_paragraph_rows K) := by
  refine T.f_paragraph_rows.ok sc_paragraph_rows (fun vs H Q E h => ?_) (fun cdv A outer s H vs Q E hr h => ?_)
  · obtain ⟨G, v, rest, rfl, _⟩ := h
    rfl
  · obtain ⟨G, v, rest, rfl, sG, hv, hn, hf, q⟩ := h
    refine ⟨_, (pss_cons (ps_if (pt_not (pt_val (pe_call (ok_is_filled T) (hr.mono (by decide)) (by rfl) T.g_is_filled T.f_is_filled.kp T.b_is_filled .nil pass0 (pa_cons (pe_ix ix_tup (pv 0) pe_int (fun _ _ => rfl)) pa_nil)))) (pss_one (ps_ret pe_non)) pss_nil)
        (pss_one (ps_ret (pe_lst (pa_cons (pe_tup (pa_cons (pe_glob (v := .str "inlines") rfl T.g_INLINES ⟨_, rfl⟩) (pa_cons (pe_ix ix_tup (pv 0) pe_int (fun _ _ => rfl)) pa_nil))) pa_nil))))), ?_⟩
    obtain ⟨a, u1, x, rfl, rfl, sq, hx⟩ := dp_parts1 hv hn
    rw [blk_par] at q
    refine ⟨_, rfl, a, _, _, _, rfl, rfl, same_tup sG sq, ix1, u1, x, rfl, dp_same sG hx, _, rfl, ?_⟩
    cases h1 : isFil x with
    | false =>
      rw [h1, if_neg Bool.false_ne_true] at q
      exact iteT (q _ _ (Same.refl _) rfl)
    | true =>
      rw [h1, if_pos rfl] at q
      refine iteF ⟨_, rfl, a, _, _, _, rfl, rfl, same_tup sG sq, ix1, (by show 2 ≤ sizeLine; decide), fun t nt => ⟨(by show 1 ≤ sizeLine; decide), fun p np => ?_⟩⟩
      exact q _ _ ((same_new nt).trans (same_new np)) (rv_one (s := .I) nt np hx)
theorem ok_html_rows {P : Program} {w : World} {K : PySem.W.Frag} {mg : Str → Option Value} {base : Heap} (T : Txt w K mg) : FnOk P w K mg base CX0 3 T.a_html_rows T.d_html_rows ["block"] (sp_html_rows K) := by
  refine T.f_html_rows.ok sc_html_rows (fun vs H Q E h => ?_) (fun cdv A outer s H vs Q E hr h => ?_)
  · obtain ⟨G, v, rest, rfl, _⟩ := h
    rfl
  · obtain ⟨G, v, rest, rfl, sG, hv, hn, hf, q⟩ := h
    refine ⟨_, (pss_one (ps_ret (pe_call (ok_none_if_not T) (hr.mono (by decide)) (by rfl) T.g_none_if_not T.f_none_if_not.kp T.b_none_if_not .nil pass0 (pa_cons (pe_call (ok_is_lines T) (hr.mono (by decide)) (by rfl) T.g_is_lines T.f_is_lines.kp T.b_is_lines .nil pass0 (pa_cons (pe_ix ix_tup (pv 0) pe_int (fun _ _ => rfl)) pa_nil)) pa_nil)))), ?_⟩
    obtain ⟨a, u1, x, rfl, rfl, sq, hx⟩ := dp_parts1 hv hn
    rw [blk_html] at q
    exact ⟨_, rfl, a, _, _, _, rfl, rfl, same_tup sG sq, ix1, u1, x, rfl, dp_same sG hx, (fitAll_c hf).1, _, rfl, fun H' r s1 h => q _ _ s1 (h G)⟩
theorem ok_definition_rows {P : Program} {w : World} {K : PySem.W.Frag} {mg : Str → Option Value} {base : Heap} (T : Txt w K mg) : FnOk P w K mg base CX0 6 T.a_definition_rows T.d_definition_rows ["block"] (sp_definition_rows K) := by
  refine T.f_definition_rows.ok sc_definition_rows (fun vs H Q E h => ?_) (fun cdv A outer s H vs Q E hr h => ?_)
  · obtain ⟨G, v, rest, rfl, _⟩ := h
    rfl
  · obtain ⟨G, v, rest, rfl, sG, hv, hn, hf, q⟩ := h
    refine ⟨_, (pss_cons (ps_asg (pv 0) (pg_tup (by rfl) (pgs_cons (pg_name (i := 1) sc_definition_rows.nd rfl (.inl rfl)) (pgs_cons (pg_name (i := 2) sc_definition_rows.nd rfl (.inl rfl)) (pgs_cons (pg_name (i := 3) sc_definition_rows.nd rfl (.inl rfl)) (pgs_cons (pg_name (i := 4) sc_definition_rows.nd rfl (.inl rfl)) pgs_nil))))))
        (pss_one (ps_ret (pe_call (ok_none_if_not T) (hr.mono (by decide)) (by rfl) T.g_none_if_not T.f_none_if_not.kp T.b_none_if_not .nil pass0 (pa_cons (pe_and (pe_call (ok_is_text T) (hr.mono (by decide)) (by rfl) T.g_is_text T.f_is_text.kp T.b_is_text .nil pass0 (pa_cons (pv 2) pa_nil)) (pe_and (pe_call (ok_is_label T) (hr.mono (by decide)) (by rfl) T.g_is_label T.f_is_label.kp T.b_is_label .nil pass0 (pa_cons (pv 2) pa_nil)) (pe_one (pe_call (ok_fits_target T) (hr.mono (by decide)) (by rfl) T.g_fits_target T.f_fits_target.kp T.b_fits_target .nil pass0 (pa_cons (pv 3) (pa_cons (pv 4) pa_nil)))))) pa_nil))))), ?_⟩
    obtain ⟨a, u1, u2, u3, x, y, w, rfl, rfl, sq, hx, hy, hw⟩ := dp_parts3 hv hn
    rw [blk_def] at q
    obtain ⟨f1, f⟩ := fitAll_c hf
    obtain ⟨f2, f⟩ := fitAll_c f
    obtain ⟨f3, f⟩ := fitAll_c f
    refine ⟨_, rfl, a, _, rfl, same_tup sG sq, rfl, _, _, rfl, _, _, rfl, _, _, rfl, _, _, rfl, rfl, ?_⟩
    refine ⟨_, rfl, u1, x, rfl, dp_same sG hx, f1, _, rfl, ?_⟩
    cases h1 : isTxt x with
    | false =>
      rw [h1, Bool.false_and, Bool.false_and] at q
      exact iteF ⟨_, rfl, fun H' r s1 h => q _ _ s1 (h G)⟩
    | true =>
      rw [h1, Bool.true_and] at q
      obtain ⟨z, rfl⟩ : ∃ z, x = .str z := by cases x <;> first | exact ⟨_, rfl⟩ | cases h1
      cases dp_str hx
      refine iteT ⟨_, rfl, z, rfl, fit_str f1, h1, fun H1 s1 => ⟨_, rfl, ?_⟩⟩
      have e1 : isLab (.str z) = lab z := rfl
      rw [e1] at q
      cases h2 : lab z with
      | false =>
        rw [h2, Bool.false_and] at q
        exact iteF ⟨_, rfl, fun H' r s2 h => q _ _ (s1.trans s2) (h G)⟩
      | true =>
        rw [h2, Bool.true_and] at q
        exact iteT ⟨_, rfl, _, rfl, u2, u3, y, w, rfl, dp_same (sG.trans s1) hy, dp_same (sG.trans s1) hw, f2, f3, _, rfl, fun H' r s2 h => q _ _ (s1.trans s2) (h G)⟩
theorem ok_code_rows {P : Program} {w : World} {K : PySem.W.Frag} {mg : Str → Option Value} {base : Heap} (T : Txt w K mg) : FnOk P w K mg base CX0 3 T.a_code_rows T.d_code_rows ["block"] (sp_code_rows K) := by
  refine T.f_code_rows.ok sc_code_rows (fun vs H Q E h => ?_) (fun cdv A outer s H vs Q E hr h => ?_)
  · obtain ⟨G, v, rest, rfl, _⟩ := h
    rfl
  · obtain ⟨G, v, rest, rfl, sG, hv, hn, hf, q⟩ := h
    refine ⟨_, (pss_cons (ps_asg (pv 0) (pg_tup (by rfl) (pgs_cons (pg_name (i := 1) sc_code_rows.nd rfl (.inl rfl)) (pgs_cons (pg_name (i := 2) sc_code_rows.nd rfl (.inl rfl)) (pgs_cons (pg_name (i := 3) sc_code_rows.nd rfl (.inl rfl)) pgs_nil)))))
        (pss_cons (ps_if (pt_cmpR op_isN (pv 3) pe_non (nomark _)) (pss_one (ps_set (i := 4) sc_code_rows.nd rfl (.inl rfl) (pe_call (ok_is_lines T) (hr.mono (by decide)) (by rfl) T.g_is_lines T.f_is_lines.kp T.b_is_lines .nil pass0 (pa_cons (pv 2) pa_nil)))) (pss_one (ps_set (i := 4) sc_code_rows.nd rfl (.inl rfl) (pe_and (pe_call (ok_is_text T) (hr.mono (by decide)) (by rfl) T.g_is_text T.f_is_text.kp T.b_is_text .nil pass0 (pa_cons (pv 3) pa_nil)) (pe_one (pe_or (pe_call (ok_is_lines T) (hr.mono (by decide)) (by rfl) T.g_is_lines T.f_is_lines.kp T.b_is_lines .nil pass0 (pa_cons (pv 2) pa_nil)) (pe_one (pe_and (pe_call (ok_is_text T) (hr.mono (by decide)) (by rfl) T.g_is_text T.f_is_text.kp T.b_is_text .nil pass0 (pa_cons (pv 2) pa_nil)) (pe_one (pe_cmpR op_eq (pv 2) pe_str (nomark _)))))))))))
        (pss_one (ps_ret (pe_call (ok_none_if_not T) (hr.mono (by decide)) (by rfl) T.g_none_if_not T.f_none_if_not.kp T.b_none_if_not .nil pass0 (pa_cons (pv 4) pa_nil)))))), ?_⟩
    obtain ⟨a, u1, u2, x, y, rfl, rfl, sq, hx, hy⟩ := dp_parts2 hv hn
    rw [blk_code] at q
    obtain ⟨f1, f⟩ := fitAll_c hf
    obtain ⟨f2, f⟩ := fitAll_c f
    have dx := dp_same sG hx
    have dy := dp_same sG hy
    refine ⟨_, rfl, a, _, rfl, same_tup sG sq, rfl, _, _, rfl, _, _, rfl, _, _, rfl, rfl, ?_⟩
    refine ⟨_, rfl, rfl, _, rfl, ?_⟩
    rw [is_non dy]
    cases h1 : isNon y with
    | true =>
      rw [h1, if_pos rfl] at q
      exact iteT ⟨_, rfl, u1, x, rfl, dx, f1, _, rfl, _, rfl, fun H' r s1 h => q _ _ s1 (h G)⟩
    | false =>
      rw [h1, if_neg Bool.false_ne_true] at q
      refine iteF ⟨_, rfl, u2, y, rfl, dy, f2, _, rfl, ?_⟩
      cases h2 : isTxt y with
      | false =>
        rw [h2, Bool.false_and] at q
        exact iteF ⟨_, rfl, _, rfl, fun H' r s1 h => q _ _ s1 (h G)⟩
      | true =>
        rw [h2, Bool.true_and] at q
        refine iteT ⟨_, rfl, u1, x, rfl, dx, f1, _, rfl, ?_⟩
        cases h3 : isLns x with
        | true =>
          rw [h3, Bool.true_or] at q
          exact iteT ⟨_, rfl, _, rfl, fun H' r s1 h => q _ _ s1 (h G)⟩
        | false =>
          rw [h3, Bool.false_or] at q
          refine iteF ⟨_, rfl, u1, x, rfl, dx, f1, _, rfl, ?_⟩
          cases h4 : isTxt x with
          | false =>
            have : isEmp x = false := by
              cases x with
              | str z =>
                refine decide_eq_false fun e => ?_
                subst e
                cases h4
              | _ => rfl
            rw [this] at q
            exact iteF ⟨_, rfl, _, rfl, fun H' r s1 h => q _ _ s1 (h G)⟩
          | true =>
            obtain ⟨z, rfl⟩ : ∃ z, x = .str z := by cases x <;> first | exact ⟨_, rfl⟩ | cases h4
            cases dp_str hx
            refine iteT ⟨_, rfl, rfl, ?_⟩
            rw [lit_e, show decide (V.str z = V.str (S [])) = decide (z = S []) from decide_eq_decide.mpr ⟨fun h => V.str.inj h, fun h => by rw [h]⟩]
            exact ⟨_, rfl, _, rfl, fun H' r s1 h => q _ _ s1 (h G)⟩
theorem ok_list_rows {P : Program} {w : World} {K : PySem.W.Frag} {mg : Str → Option Value} {base : Heap} (T : Txt w K mg) : FnOk P w K mg base CX0 3 T.a_list_rows T.d_list_rows ["block"] (sp_list_rows K) := by
  refine T.f_list_rows.ok sc_list_rows (fun vs H Q E h => ?_) (fun cdv A outer s H vs Q E hr h => ?_)
  · obtain ⟨G, v, rest, rfl, _⟩ := h
    rfl
  · obtain ⟨G, v, rest, rfl, sG, hv, hn, hf, q⟩ := h
    refine ⟨_, (pss_cons (ps_asg (pv 0) (pg_tup (by rfl) (pgs_cons (pg_name (i := 1) sc_list_rows.nd rfl (.inl rfl)) (pgs_cons (pg_name (i := 2) sc_list_rows.nd rfl (.inl rfl)) (pgs_cons (pg_name (i := 3) sc_list_rows.nd rfl (.inl rfl)) (pgs_cons (pg_name (i := 4) sc_list_rows.nd rfl (.inl rfl)) (pgs_cons (pg_name (i := 5) sc_list_rows.nd rfl (.inl rfl)) pgs_nil)))))))
        (pss_cons (ps_if (PW.pt (pw_or (pt_not (pt_val (pe_callB call_isi (by rfl) T.z_isinstance (by decide +kernel) (pa_cons (pv 2) (pa_cons (pe_bltn (v := .ty "str") (by rfl) T.z_str (by decide +kernel) rfl) pa_nil))))) (pw_or (pt_not (pt_val (pe_call (ok_fits_start T) (hr.mono (by decide)) (by rfl) T.g_fits_start T.f_fits_start.kp T.b_fits_start .nil pass0 (pa_cons (pv 2) (pa_cons (pv 3) pa_nil))))) (pw_or1 (pt_not (pt_val (pe_callB call_isi (by rfl) T.z_isinstance (by decide +kernel) (pa_cons (pv 4) (pa_cons (pe_bltn (v := .ty "bool") (by rfl) T.z_bool (by decide +kernel) rfl) pa_nil))))))))) (pss_one (ps_ret pe_non)) pss_nil)
        (pss_cons (ps_if (pt_not (pt_val (pe_call (ok_is_filled T) (hr.mono (by decide)) (by rfl) T.g_is_filled T.f_is_filled.kp T.b_is_filled .nil pass0 (pa_cons (pv 5) pa_nil)))) (pss_one (ps_ret pe_non)) pss_nil)
        (pss_one (ps_ret (pe_lc (own := [("item", 6)]) (g := (gName 6)) (tt := tYes) (by rfl) sc_list_rows.nd (pi_tup (pv 5)) (blkOk_by (own := [("item", 6)]) (N := ["block", "_", "sign", "start", "is_tight", "items", "item"]) (sc := defScope s_list_rows) (by decide +kernel)) (fun _ _ _ _ _ => (pg_name (i := 6) sc_list_rows.nd rfl (Or.inl rfl))) (fun _ _ _ _ _ => pts_nil) (fun _ _ _ _ _ => (pe_tup (pa_cons (pe_glob (v := .str "blocks") rfl T.g_BLOCKS ⟨_, rfl⟩) (pa_cons (pv 6) pa_nil)))))))))), ?_⟩
    obtain ⟨a, u1, u2, u3, u4, x, y, w, t, rfl, rfl, sq, hx, hy, hw, ht⟩ := dp_parts4 hv hn
    obtain ⟨f1, f⟩ := fitAll_c hf
    obtain ⟨f2, f⟩ := fitAll_c f
    obtain ⟨f3, f⟩ := fitAll_c f
    obtain ⟨f4, f⟩ := fitAll_c f
    refine ⟨_, rfl, a, _, rfl, same_tup sG sq, rfl, _, _, rfl, _, _, rfl, _, _, rfl, _, _, rfl, _, _, rfl, rfl, ?_⟩
    refine ⟨_, rfl, _, .ty "str", _, _, _, rfl, .ty "str", tyx_dp (dp_same sG hx), kit_ty (kit_str x), _, rfl, ?_⟩
    cases h1 : isStr x with
    | false =>
      rw [blk_list1 x y w t h1] at q
      exact iteT (iteT (q _ _ (Same.refl _) rfl))
    | true =>
      obtain ⟨g, rfl⟩ : ∃ z, x = .str z := by cases x <;> first | exact ⟨_, rfl⟩ | cases h1
      cases dp_str hx
      refine iteF ⟨_, rfl, _, rfl, g, u2, y, rfl, dp_same sG hy, fun H1 s1 => ⟨_, rfl, ?_⟩⟩
      have sG1 := sG.trans s1
      -- what is left of the answer
      have no : (fitStart g y && isBool w && isFil t) = false → ∀ H' r, Same H H' → r = .non → Q r H' := fun e H' r s' er => by
        subst er
        refine q _ _ s' ?_
        cases h4 : isTup t with
        | false => rw [blk_list2 _ _ _ _ h4]; rfl
        | true =>
          obtain ⟨its, rfl⟩ : ∃ its, t = .tuple its := by cases t <;> first | exact ⟨_, rfl⟩ | cases h4
          rw [blk_list]
          have e2 : (fitStart g y && isBool w && !its.isEmpty) = false := e
          rw [e2, if_neg Bool.false_ne_true]
          rfl
      cases h2 : fitStart g y with
      | false => exact iteT (iteT (no (by rw [h2]; rfl) _ _ s1 rfl))
      | true =>
        refine iteF ⟨_, rfl, _, .ty "bool", _, _, _, rfl, .ty "bool", tyx_dp (dp_same sG1 hw), kit_ty (kit_bool w), _, rfl, ?_⟩
        cases h3 : isBool w with
        | false => exact iteT (no (by rw [h2, h3]; rfl) _ _ s1 rfl)
        | true =>
          refine iteF ⟨_, rfl, u4, t, rfl, dp_same sG1 ht, _, rfl, ?_⟩
          cases h4 : isFil t with
          | false => exact iteT (no (by rw [h2, h3, h4]; rfl) _ _ s1 rfl)
          | true =>
            obtain ⟨its, rfl⟩ : ∃ its, t = .tuple its := by cases t <;> first | exact ⟨_, rfl⟩ | cases h4
            obtain ⟨ai, vs, rfl, sqi, di⟩ := dp_tup2 ht
            have hi := dpAll_all2 di
            rw [blk_list, h2, h3] at q
            have e3 : (true && true && !its.isEmpty) = true := h4
            rw [e3, if_pos rfl] at q
            refine iteF ⟨_, rfl, ai, rfl, ⟨vs, same_tup sG1 sqi⟩, fun D nD => ?_⟩
            have lits := (fit_tup f4).1
            refine lc_it (walk_tup (xs := vs)) (fun i H2 => Same H1 H2 ∧ ∃ ws, H2 D = some (.lst ws) ∧ All2 (PairI K G (Rest H2 [D])) ws ((its.take i).map fun x => (So.B, x))) ?_ ?_ ?_ ?_
            · exact ⟨same_new nD, [], upd_same, .nil⟩
            · rintro i H2 _ ⟨s2, _⟩
              exact same_tup (sG1.trans s2) sqi
            · rintro i x2 H2 H3 hi2 ⟨s2, ws, hD, aw⟩ ⟨rfl, hx2⟩
              obtain ⟨y2, hy2⟩ : ∃ y2, its[i]? = some y2 := ⟨_, List.getElem?_eq_getElem (by rw [← hi.1]; exact hi2)⟩
              have d2 := hi.2 i x2 y2 hx2 hy2
              refine ⟨rfl, _, rfl, (by show 2 ≤ sizeLine; decide), fun t2 nt2 => ?_⟩
              have ntD : t2 ≠ D := (ne_of_none hD nt2).symm
              refine ⟨ws, by rw [upd_ne ntD.symm]; exact hD, ?_, ?_, ws ++ [.ref t2], upd_same, ?_⟩
              · rw [aw.1, List.length_map, List.length_take, sizeLine_eq]
                omega
              · exact fun b o e => by
                  rw [upd_ne (ne_of_none e nD)]
                  exact same_new nt2 _ _ (s2 _ _ e)
              · rw [List.take_add_one, hy2, List.map_append, rest_upd (by simp)]
                refine (aw.mono fun _ _ p => p.mono (rest_mono (same_new nt2))).app (.one ⟨t2, x2, rfl, ?_, d2⟩)
                rw [rest_out (by simpa using ntD)]
                exact upd_same
            · rintro H2 ⟨s2, ws, hD, aw⟩
              rw [hi.1, List.take_length] at aw
              exact q _ _ (s1.trans s2) ⟨D, ws, rfl, hD, aw.mono fun _ _ p => p.mono rest_same⟩

/-! ### the table of the block functions -/
theorem nq_quote_list : (("quote" : Str) == "list") = false := by decide +kernel
theorem nq_quote_heading : (("quote" : Str) == "heading") = false := by decide +kernel
theorem nq_quote_break : (("quote" : Str) == "break") = false := by decide +kernel
theorem nq_quote_code : (("quote" : Str) == "code") = false := by decide +kernel
theorem nq_quote_html : (("quote" : Str) == "html") = false := by decide +kernel
theorem nq_quote_definition : (("quote" : Str) == "definition") = false := by decide +kernel
theorem nq_quote_paragraph : (("quote" : Str) == "paragraph") = false := by decide +kernel
theorem nq_list_quote : (("list" : Str) == "quote") = false := by decide +kernel
theorem nq_list_heading : (("list" : Str) == "heading") = false := by decide +kernel
theorem nq_list_break : (("list" : Str) == "break") = false := by decide +kernel
theorem nq_list_code : (("list" : Str) == "code") = false := by decide +kernel
theorem nq_list_html : (("list" : Str) == "html") = false := by decide +kernel
theorem nq_list_definition : (("list" : Str) == "definition") = false := by decide +kernel
theorem nq_list_paragraph : (("list" : Str) == "paragraph") = false := by decide +kernel
theorem nq_heading_quote : (("heading" : Str) == "quote") = false := by decide +kernel
theorem nq_heading_list : (("heading" : Str) == "list") = false := by decide +kernel
theorem nq_heading_break : (("heading" : Str) == "break") = false := by decide +kernel
theorem nq_heading_code : (("heading" : Str) == "code") = false := by decide +kernel
theorem nq_heading_html : (("heading" : Str) == "html") = false := by decide +kernel
theorem nq_heading_definition : (("heading" : Str) == "definition") = false := by decide +kernel
theorem nq_heading_paragraph : (("heading" : Str) == "paragraph") = false := by decide +kernel
theorem nq_break_quote : (("break" : Str) == "quote") = false := by decide +kernel
theorem nq_break_list : (("break" : Str) == "list") = false := by decide +kernel
theorem nq_break_heading : (("break" : Str) == "heading") = false := by decide +kernel
theorem nq_break_code : (("break" : Str) == "code") = false := by decide +kernel
theorem nq_break_html : (("break" : Str) == "html") = false := by decide +kernel
theorem nq_break_definition : (("break" : Str) == "definition") = false := by decide +kernel
theorem nq_break_paragraph : (("break" : Str) == "paragraph") = false := by decide +kernel
theorem nq_code_quote : (("code" : Str) == "quote") = false := by decide +kernel
theorem nq_code_list : (("code" : Str) == "list") = false := by decide +kernel
theorem nq_code_heading : (("code" : Str) == "heading") = false := by decide +kernel
theorem nq_code_break : (("code" : Str) == "break") = false := by decide +kernel
theorem nq_code_html : (("code" : Str) == "html") = false := by decide +kernel
theorem nq_code_definition : (("code" : Str) == "definition") = false := by decide +kernel
theorem nq_code_paragraph : (("code" : Str) == "paragraph") = false := by decide +kernel
theorem nq_html_quote : (("html" : Str) == "quote") = false := by decide +kernel
theorem nq_html_list : (("html" : Str) == "list") = false := by decide +kernel
theorem nq_html_heading : (("html" : Str) == "heading") = false := by decide +kernel
theorem nq_html_break : (("html" : Str) == "break") = false := by decide +kernel
theorem nq_html_code : (("html" : Str) == "code") = false := by decide +kernel
theorem nq_html_definition : (("html" : Str) == "definition") = false := by decide +kernel
theorem nq_html_paragraph : (("html" : Str) == "paragraph") = false := by decide +kernel
theorem nq_definition_quote : (("definition" : Str) == "quote") = false := by decide +kernel
theorem nq_definition_list : (("definition" : Str) == "list") = false := by decide +kernel
theorem nq_definition_heading : (("definition" : Str) == "heading") = false := by decide +kernel
theorem nq_definition_break : (("definition" : Str) == "break") = false := by decide +kernel
theorem nq_definition_code : (("definition" : Str) == "code") = false := by decide +kernel
theorem nq_definition_html : (("definition" : Str) == "html") = false := by decide +kernel
theorem nq_definition_paragraph : (("definition" : Str) == "paragraph") = false := by decide +kernel
theorem nq_paragraph_quote : (("paragraph" : Str) == "quote") = false := by decide +kernel
theorem nq_paragraph_list : (("paragraph" : Str) == "list") = false := by decide +kernel
theorem nq_paragraph_heading : (("paragraph" : Str) == "heading") = false := by decide +kernel
theorem nq_paragraph_break : (("paragraph" : Str) == "break") = false := by decide +kernel
theorem nq_paragraph_code : (("paragraph" : Str) == "code") = false := by decide +kernel
theorem nq_paragraph_html : (("paragraph" : Str) == "html") = false := by decide +kernel
theorem nq_paragraph_definition : (("paragraph" : Str) == "definition") = false := by decide +kernel
theorem blkL_quote (rest : List PyData) (h : rest.length ≠ 1) : blkR "quote" rest = none := by
  unfold blkR
  rw [if_pos rfl]
  match rest, h with
  | [], h => rfl
  | [_], h => exact absurd rfl h
  | _ :: _ :: _, h => rfl
theorem blkL_list (rest : List PyData) (h : rest.length ≠ 4) : blkR "list" rest = none := by
  unfold blkR
  rw [if_neg (by decide +kernel), if_pos rfl]
  split
  · exact absurd rfl h
  · rfl
theorem blkL_heading (rest : List PyData) (h : rest.length ≠ 2) : blkR "heading" rest = none := by
  unfold blkR
  rw [if_neg (by decide +kernel), if_neg (by decide +kernel), if_pos rfl]
  match rest, h with
  | [], h => rfl
  | [_], h => rfl
  | [_, _], h => exact absurd rfl h
  | _ :: _ :: _ :: _, h => rfl
theorem blkL_break (rest : List PyData) (h : rest.length ≠ 0) : blkR "break" rest = none := by
  unfold blkR
  rw [if_neg (by decide +kernel), if_neg (by decide +kernel), if_neg (by decide +kernel), if_pos rfl]
  match rest, h with
  | [], h => exact absurd rfl h
  | _ :: _, h => rfl
theorem blkL_code (rest : List PyData) (h : rest.length ≠ 2) : blkR "code" rest = none := by
  unfold blkR
  rw [if_neg (by decide +kernel), if_neg (by decide +kernel), if_neg (by decide +kernel), if_neg (by decide +kernel), if_pos rfl]
  match rest, h with
  | [], h => rfl
  | [_], h => rfl
  | [_, _], h => exact absurd rfl h
  | _ :: _ :: _ :: _, h => rfl
theorem blkL_html (rest : List PyData) (h : rest.length ≠ 1) : blkR "html" rest = none := by
  unfold blkR
  rw [if_neg (by decide +kernel), if_neg (by decide +kernel), if_neg (by decide +kernel), if_neg (by decide +kernel), if_neg (by decide +kernel), if_pos rfl]
  match rest, h with
  | [], h => rfl
  | [_], h => exact absurd rfl h
  | _ :: _ :: _, h => rfl
theorem blkL_definition (rest : List PyData) (h : rest.length ≠ 3) : blkR "definition" rest = none := by
  unfold blkR
  rw [if_neg (by decide +kernel), if_neg (by decide +kernel), if_neg (by decide +kernel), if_neg (by decide +kernel), if_neg (by decide +kernel), if_neg (by decide +kernel), if_pos rfl]
  match rest, h with
  | [], h => rfl
  | [_], h => rfl
  | [_, _], h => rfl
  | [_, _, _], h => exact absurd rfl h
  | _ :: _ :: _ :: _ :: _, h => rfl
theorem blkL_paragraph (rest : List PyData) (h : rest.length ≠ 1) : blkR "paragraph" rest = none := by
  unfold blkR
  rw [if_neg (by decide +kernel), if_neg (by decide +kernel), if_neg (by decide +kernel), if_neg (by decide +kernel), if_neg (by decide +kernel), if_neg (by decide +kernel), if_neg (by decide +kernel), if_pos rfl]
  match rest, h with
  | [], h => rfl
  | [_], h => exact absurd rfl h
  | _ :: _ :: _, h => rfl
def SB {w : World} {K : PySem.W.Frag} {mg : Str → Option Value} (T : Txt w K mg) : Addr → Sp → Prop := fun f sp => (f = T.a_quote_rows ∧ sp = sp_blk K "quote" 1) ∨ (f = T.a_list_rows ∧ sp = sp_blk K "list" 4) ∨ (f = T.a_heading_rows ∧ sp = sp_blk K "heading" 2) ∨ (f = T.a_break_rows ∧ sp = sp_blk K "break" 0) ∨ (f = T.a_code_rows ∧ sp = sp_blk K "code" 2) ∨ (f = T.a_html_rows ∧ sp = sp_blk K "html" 1) ∨ (f = T.a_definition_rows ∧ sp = sp_blk K "definition" 3) ∨ (f = T.a_paragraph_rows ∧ sp = sp_blk K "paragraph" 1)
theorem AB {P : Program} {w : World} {K : PySem.W.Frag} {mg : Str → Option Value} {base : Heap} (T : Txt w K mg) : ∀ f sp, SB T f sp → Held P w K mg base 6 f sp := by
  rintro f sp (⟨rfl, rfl⟩ | ⟨rfl, rfl⟩ | ⟨rfl, rfl⟩ | ⟨rfl, rfl⟩ | ⟨rfl, rfl⟩ | ⟨rfl, rfl⟩ | ⟨rfl, rfl⟩ | ⟨rfl, rfl⟩)
  · exact ⟨_, _, (ok_quote_rows T).mono (by decide), T.f_quote_rows.kp, T.b_quote_rows⟩
  · exact ⟨_, _, (ok_list_rows T).mono (by decide), T.f_list_rows.kp, T.b_list_rows⟩
  · exact ⟨_, _, (ok_heading_rows T).mono (by decide), T.f_heading_rows.kp, T.b_heading_rows⟩
  · exact ⟨_, _, (ok_break_rows T).mono (by decide), T.f_break_rows.kp, T.b_break_rows⟩
  · exact ⟨_, _, (ok_code_rows T).mono (by decide), T.f_code_rows.kp, T.b_code_rows⟩
  · exact ⟨_, _, (ok_html_rows T).mono (by decide), T.f_html_rows.kp, T.b_html_rows⟩
  · exact ⟨_, _, (ok_definition_rows T).mono (by decide), T.f_definition_rows.kp, T.b_definition_rows⟩
  · exact ⟨_, _, (ok_paragraph_rows T).mono (by decide), T.f_paragraph_rows.kp, T.b_paragraph_rows⟩
theorem word_cases {w : World} {K : PySem.W.Frag} {mg : Str → Option Value} (T : Txt w K mg) (z : Str) :
    (∃ (n : Nat) (f : Addr), ([("quote", V.ref T.a_quote_rows), ("list", V.ref T.a_list_rows), ("heading", V.ref T.a_heading_rows), ("break", V.ref T.a_break_rows), ("code", V.ref T.a_code_rows), ("html", V.ref T.a_html_rows), ("definition", V.ref T.a_definition_rows), ("paragraph", V.ref T.a_paragraph_rows)] : List (Str × V)).lookup z = some (.ref f) ∧ ([("quote", V.int 2), ("list", V.int 5), ("heading", V.int 3), ("break", V.int 1), ("code", V.int 3), ("html", V.int 2), ("definition", V.int 4), ("paragraph", V.int 2)] : List (Str × V)).lookup z = some (.int ((n + 1 : Nat) : Int)) ∧ SB T f (sp_blk K z n) ∧ ∀ rest, rest.length ≠ n → blkR z rest = none) ∨
    (([("quote", V.ref T.a_quote_rows), ("list", V.ref T.a_list_rows), ("heading", V.ref T.a_heading_rows), ("break", V.ref T.a_break_rows), ("code", V.ref T.a_code_rows), ("html", V.ref T.a_html_rows), ("definition", V.ref T.a_definition_rows), ("paragraph", V.ref T.a_paragraph_rows)] : List (Str × V)).lookup z = none ∧ ∀ rest, blkR z rest = none) := by
  by_cases h0 : z = "quote"
  · subst h0
    exact .inl ⟨1, T.a_quote_rows, by simp only [List.lookup_cons, beq_self_eq_true], by simp only [List.lookup_cons, beq_self_eq_true]; rfl, .inl ⟨rfl, rfl⟩, blkL_quote⟩
  by_cases h1 : z = "list"
  · subst h1
    exact .inl ⟨4, T.a_list_rows, by simp only [List.lookup_cons, nq_list_quote, beq_self_eq_true], by simp only [List.lookup_cons, nq_list_quote, beq_self_eq_true]; rfl, .inr (.inl ⟨rfl, rfl⟩), blkL_list⟩
  by_cases h2 : z = "heading"
  · subst h2
    exact .inl ⟨2, T.a_heading_rows, by simp only [List.lookup_cons, nq_heading_quote, nq_heading_list, beq_self_eq_true], by simp only [List.lookup_cons, nq_heading_quote, nq_heading_list, beq_self_eq_true]; rfl, .inr (.inr (.inl ⟨rfl, rfl⟩)), blkL_heading⟩
  by_cases h3 : z = "break"
  · subst h3
    exact .inl ⟨0, T.a_break_rows, by simp only [List.lookup_cons, nq_break_quote, nq_break_list, nq_break_heading, beq_self_eq_true], by simp only [List.lookup_cons, nq_break_quote, nq_break_list, nq_break_heading, beq_self_eq_true]; rfl, .inr (.inr (.inr (.inl ⟨rfl, rfl⟩))), blkL_break⟩
  by_cases h4 : z = "code"
  · subst h4
    exact .inl ⟨2, T.a_code_rows, by simp only [List.lookup_cons, nq_code_quote, nq_code_list, nq_code_heading, nq_code_break, beq_self_eq_true], by simp only [List.lookup_cons, nq_code_quote, nq_code_list, nq_code_heading, nq_code_break, beq_self_eq_true]; rfl, .inr (.inr (.inr (.inr (.inl ⟨rfl, rfl⟩)))), blkL_code⟩
  by_cases h5 : z = "html"
  · subst h5
    exact .inl ⟨1, T.a_html_rows, by simp only [List.lookup_cons, nq_html_quote, nq_html_list, nq_html_heading, nq_html_break, nq_html_code, beq_self_eq_true], by simp only [List.lookup_cons, nq_html_quote, nq_html_list, nq_html_heading, nq_html_break, nq_html_code, beq_self_eq_true]; rfl, .inr (.inr (.inr (.inr (.inr (.inl ⟨rfl, rfl⟩))))), blkL_html⟩
  by_cases h6 : z = "definition"
  · subst h6
    exact .inl ⟨3, T.a_definition_rows, by simp only [List.lookup_cons, nq_definition_quote, nq_definition_list, nq_definition_heading, nq_definition_break, nq_definition_code, nq_definition_html, beq_self_eq_true], by simp only [List.lookup_cons, nq_definition_quote, nq_definition_list, nq_definition_heading, nq_definition_break, nq_definition_code, nq_definition_html, beq_self_eq_true]; rfl, .inr (.inr (.inr (.inr (.inr (.inr (.inl ⟨rfl, rfl⟩)))))), blkL_definition⟩
  by_cases h7 : z = "paragraph"
  · subst h7
    exact .inl ⟨1, T.a_paragraph_rows, by simp only [List.lookup_cons, nq_paragraph_quote, nq_paragraph_list, nq_paragraph_heading, nq_paragraph_break, nq_paragraph_code, nq_paragraph_html, nq_paragraph_definition, beq_self_eq_true], by simp only [List.lookup_cons, nq_paragraph_quote, nq_paragraph_list, nq_paragraph_heading, nq_paragraph_break, nq_paragraph_code, nq_paragraph_html, nq_paragraph_definition, beq_self_eq_true]; rfl, .inr (.inr (.inr (.inr (.inr (.inr (.inr (⟨rfl, rfl⟩))))))), blkL_paragraph⟩
  refine .inr ⟨?_, fun rest => ?_⟩
  · simp only [List.lookup_cons, beq_eq_false_iff_ne.mpr h0, beq_eq_false_iff_ne.mpr h1, beq_eq_false_iff_ne.mpr h2, beq_eq_false_iff_ne.mpr h3, beq_eq_false_iff_ne.mpr h4, beq_eq_false_iff_ne.mpr h5, beq_eq_false_iff_ne.mpr h6, beq_eq_false_iff_ne.mpr h7, List.lookup_nil]
  · unfold blkR
    rw [if_neg h0, if_neg h1, if_neg h2, if_neg h3, if_neg h4, if_neg h5, if_neg h6, if_neg h7]

/-! ### inlines, one thing, a row -/
theorem dec_int (d j : Int) : decide (V.int d = V.int j) = decide (d = j) := decide_eq_decide.mpr ⟨fun h => V.int.inj h, fun h => by rw [h]⟩
theorem dec_str (a b : Str) : decide (V.str a = V.str b) = decide (a = b) := decide_eq_decide.mpr ⟨fun h => V.str.inj h, fun h => by rw [h]⟩
def sp_link_rows (K : PySem.W.Frag) : Sp := fun vs H Q _ => ∃ (G : Hp) (s : So) (v : V) (z : Str) (rest : List PyData), vs = [.str s.nm, v] ∧ Same G H ∧ Dp K G v (.tuple (.str z :: rest)) ∧ fitAll rest = true ∧ ∀ H' r, Same H H' → RV K G H' r (linkR s z rest) → Q r H'
theorem linkL (s : So) (z : Str) (rest : List PyData) (h : rest.length ≠ 3) : linkR s z rest = none := by
  unfold linkR
  split
  · exact absurd rfl h
  · rfl
theorem so_K (s : So) : decide (s.nm = ("linked" : Str)) = isK s := by cases s <;> decide +kernel
theorem so_B (s : So) : decide (s.nm = ("blocks" : Str)) = (match s with | .B => true | _ => false) := by cases s <;> decide +kernel
theorem len_cons {us : List V} {rest : List PyData} {z : V} (h : us.length = rest.length) (k : Nat) : decide (V.int (((z :: us).length : Nat) : Int) = V.int ((k + 1 : Nat) : Int)) = decide (rest.length = k) := by
  rw [dec_int]
  exact decide_eq_decide.mpr (by rw [List.length_cons, h]; omega)
theorem ok_link_rows {P : Program} {w : World} {K : PySem.W.Frag} {mg : Str → Option Value} {base : Heap} (T : Txt w K mg) : FnOk P w K mg base CX0 3 T.a_link_rows T.d_link_rows ["sort", "inline"] (sp_link_rows K) := by
  refine T.f_link_rows.ok sc_link_rows (fun vs H Q E h => ?_) (fun cdv A outer s H vs Q E hr h => ?_)
  · obtain ⟨G, so, v, z, rest, rfl, _⟩ := h
    rfl
  · obtain ⟨G, so, v, z, rest, rfl, sG, hv, hf, q⟩ := h
    refine ⟨_, (pss_cons (ps_set (i := 2) sc_link_rows.nd rfl (.inl rfl) (pe_ix ix_tup (pv 1) pe_int (fun _ _ => rfl)))
        (pss_cons (ps_if (PW.pt (pw_or (pt_cmpR op_ne (pe_callB call_len_seq (by rfl) T.z_len PySem.boot_len (pa_cons (pv 1) pa_nil)) pe_int (nomark _)) (pw_or (pt_not (pt_val (pe_call (ok_fits_target T) (hr.mono (by decide)) (by rfl) T.g_fits_target T.f_fits_target.kp T.b_fits_target .nil pass0 (pa_cons (pe_ix ix_tup (pv 1) pe_int (fun _ _ => rfl)) (pa_cons (pe_ix ix_tup (pv 1) pe_int (fun _ _ => rfl)) pa_nil))))) (pw_or1 (PW.pt (pw_and (pt_cmpR op_eq (pv 2) pe_str (nomark _)) (pw_and1 (pt_cmpR op_eq (pv 0) (pe_glob (v := .str "linked") rfl T.g_LINKED ⟨_, rfl⟩) (nomark _))))))))) (pss_one (ps_ret pe_non)) pss_nil)
        (pss_cons (ps_if (pt_cmpR op_eq (pv 2) pe_str (nomark _)) (pss_one (ps_ret (pe_lst (pa_cons (pe_tup (pa_cons (pe_glob (v := .str "linked") rfl T.g_LINKED ⟨_, rfl⟩) (pa_cons (pe_ix ix_tup (pv 1) pe_int (fun _ _ => rfl)) pa_nil))) pa_nil)))) pss_nil)
        (pss_one (ps_ret (pe_lst (pa_cons (pe_tup (pa_cons (pe_glob (v := .str "inlines") rfl T.g_INLINES ⟨_, rfl⟩) (pa_cons (pe_ix ix_tup (pv 1) pe_int (fun _ _ => rfl)) pa_nil))) pa_nil))))))), ?_⟩
    obtain ⟨a, us, rfl, sq, dps⟩ := dp_parts0 hv
    have hl := (dpAll_all2 dps).1
    refine ⟨_, rfl, a, _, _, _, rfl, rfl, same_tup sG sq, atI_nat (j := 0) rfl, ?_⟩
    refine ⟨_, rfl, a, _, rfl, .inr (same_tup sG sq), rfl, _, rfl, ?_⟩
    have e4 := len_cons (z := .str z) hl 3
    have e4' : decide (V.int (((V.str z :: us).length : Nat) : Int) = V.int 4) = decide (rest.length = 3) := e4
    rw [e4']
    by_cases h3 : rest.length = 3
    · rw [decide_eq_true h3]
      obtain ⟨a', u1, u2, u3, x, y, w, ea, rfl, sq3, hx, hy, hw⟩ := dp_parts3 hv h3
      cases ea
      obtain ⟨f1, f⟩ := fitAll_c hf
      obtain ⟨f2, f⟩ := fitAll_c f
      refine iteF ?_
      refine ⟨_, rfl, a, _, _, _, rfl, rfl, same_tup sG sq3, ix1, _, rfl, a, _, _, _, rfl, rfl, same_tup sG sq3, ix2, u1, u2, x, y, rfl, dp_same sG hx, dp_same sG hy, f1, f2, _, rfl, ?_⟩
      have el : linkR so z [x, y, w] = if (!fitTgt x y || (decide (z = "link") && isK so)) = true then none else if z = "link" then some [(.K, w)] else some [(.I, w)] := rfl
      rw [el] at q
      cases h1 : fitTgt x y with
      | false =>
        rw [h1] at q
        exact iteT (iteT (q _ _ (Same.refl _) rfl))
      | true =>
        rw [h1] at q
        refine iteF ?_
        refine ⟨_, rfl, rfl, _, rfl, ?_⟩
        rw [dec_str]
        have fin : ∀ (s2 : So), RV K G H .non none → True := fun _ _ => trivial
        cases h2 : decide (z = "link") with
        | true =>
          rw [h2] at q
          refine iteT ⟨_, rfl, rfl, _, rfl, ?_⟩
          rw [dec_str, so_K]
          cases so with
          | K => exact iteT (q _ _ (Same.refl _) rfl)
          | _ =>
            refine iteF ⟨_, rfl, rfl, _, rfl, ?_⟩
            rw [dec_str, h2]
            rw [if_pos (of_decide_eq_true h2)] at q
            exact iteT ⟨_, rfl, a, _, _, _, rfl, rfl, same_tup sG sq3, ix3, (by show 2 ≤ sizeLine; decide), fun t nt => ⟨(by show 1 ≤ sizeLine; decide), fun p np => q _ _ ((same_new nt).trans (same_new np)) (rv_one (s := .K) nt np hw)⟩⟩
        | false =>
          rw [h2] at q
          refine iteF (iteF ⟨_, rfl, rfl, _, rfl, ?_⟩)
          rw [dec_str, h2]
          rw [if_neg (of_decide_eq_false h2)] at q
          exact iteF ⟨_, rfl, a, _, _, _, rfl, rfl, same_tup sG sq3, ix3, (by show 2 ≤ sizeLine; decide), fun t nt => ⟨(by show 1 ≤ sizeLine; decide), fun p np => q _ _ ((same_new nt).trans (same_new np)) (rv_one (s := .I) nt np hw)⟩⟩
    · rw [decide_eq_false h3]
      rw [linkL so z rest h3] at q
      exact iteT (iteT (q _ _ (Same.refl _) rfl))
def sp_inline_rows (K : PySem.W.Frag) : Sp := fun vs H Q _ => ∃ (G : Hp) (s : So) (v : V) (z : Str) (rest : List PyData), vs = [.str s.nm, v] ∧ Same G H ∧ Dp K G v (.tuple (.str z :: rest)) ∧ fitAll rest = true ∧ ∀ H' r, Same H H' → RV K G H' r (inlR s z rest) → Q r H'
theorem ok_inline_rows {P : Program} {w : World} {K : PySem.W.Frag} {mg : Str → Option Value} {base : Heap} (T : Txt w K mg) : FnOk P w K mg base CX0 4 T.a_inline_rows T.d_inline_rows ["sort", "inline"] (sp_inline_rows K) := by
  refine T.f_inline_rows.ok sc_inline_rows (fun vs H Q E h => ?_) (fun cdv A outer s H vs Q E hr h => ?_)
  · obtain ⟨G, so, v, z, rest, rfl, _⟩ := h
    rfl
  · obtain ⟨G, so, v, z, rest, rfl, sG, hv, hf, q⟩ := h
    refine ⟨_, (pss_cons (ps_set (i := 2) sc_inline_rows.nd rfl (.inl rfl) (pe_ix ix_tup (pv 1) pe_int (fun _ _ => rfl)))
        (pss_cons (ps_if (pt_cmpR op_in_seq (pv 2) (pe_tup (pa_cons pe_str (pa_cons pe_str pa_nil))) (by rfl)) (pss_one (ps_ret (pe_call (ok_none_if_not T) (hr.mono (by decide)) (by rfl) T.g_none_if_not T.f_none_if_not.kp T.b_none_if_not .nil pass0 (pa_cons (pe_cmpR op_eq (pe_callB call_len_seq (by rfl) T.z_len PySem.boot_len (pa_cons (pv 1) pa_nil)) pe_int (nomark _)) pa_nil)))) pss_nil)
        (pss_cons (ps_if (pt_cmpR op_in_seq (pv 2) (pe_tup (pa_cons pe_str (pa_cons pe_str (pa_cons pe_str pa_nil)))) (by rfl)) (pss_one (ps_ret (pe_call (ok_none_if_not T) (hr.mono (by decide)) (by rfl) T.g_none_if_not T.f_none_if_not.kp T.b_none_if_not .nil pass0 (pa_cons (pe_and (pe_cmpR op_eq (pe_callB call_len_seq (by rfl) T.z_len PySem.boot_len (pa_cons (pv 1) pa_nil)) pe_int (nomark _)) (pe_and (pe_call (ok_is_text T) (hr.mono (by decide)) (by rfl) T.g_is_text T.f_is_text.kp T.b_is_text .nil pass0 (pa_cons (pe_ix ix_tup (pv 1) pe_int (fun _ _ => rfl)) pa_nil)) (pe_one (pe_cmpR op_ne (pe_ix ix_tup (pv 1) pe_int (fun _ _ => rfl)) pe_str (nomark _))))) pa_nil)))) pss_nil)
        (pss_cons (ps_if (pt_cmpR op_in_seq (pv 2) (pe_tup (pa_cons pe_str (pa_cons pe_str pa_nil))) (by rfl)) (pss_cons (ps_if (PW.pt (pw_or (pt_cmpR op_ne (pe_callB call_len_seq (by rfl) T.z_len PySem.boot_len (pa_cons (pv 1) pa_nil)) pe_int (nomark _)) (pw_or1 (pt_not (pt_val (pe_call (ok_is_filled T) (hr.mono (by decide)) (by rfl) T.g_is_filled T.f_is_filled.kp T.b_is_filled .nil pass0 (pa_cons (pe_ix ix_tup (pv 1) pe_int (fun _ _ => rfl)) pa_nil))))))) (pss_one (ps_ret pe_non)) pss_nil)
        (pss_one (ps_ret (pe_lst (pa_cons (pe_tup (pa_cons (pv 0) (pa_cons (pe_ix ix_tup (pv 1) pe_int (fun _ _ => rfl)) pa_nil))) pa_nil))))) pss_nil)
        (pss_cons (ps_if (pt_cmpR op_in_seq (pv 2) (pe_tup (pa_cons pe_str (pa_cons pe_str pa_nil))) (by rfl)) (pss_one (ps_ret (pe_call (ok_link_rows T) (hr.mono (by decide)) (by rfl) T.g_link_rows T.f_link_rows.kp T.b_link_rows .nil pass0 (pa_cons (pv 0) (pa_cons (pv 1) pa_nil))))) pss_nil)
        (pss_one (ps_ret pe_non))))))), ?_⟩
    obtain ⟨a, us, rfl, sq, dps⟩ := dp_parts0 hv
    have hl := (dpAll_all2 dps).1
    refine ⟨_, rfl, a, _, _, _, rfl, rfl, same_tup sG sq, atI_nat (j := 0) rfl, ?_⟩
    refine ⟨_, rfl, (by show 2 ≤ sizeLine; decide), fun t1 nt1 => ⟨t1, _, rfl, .inr (SqT.of upd_same), rfl, (by decide +kernel), _, rfl, ?_⟩⟩
    rw [if_neg Bool.false_ne_true]
    have s1 := same_new (o := .tup [.str "soft", .str "hard"]) nt1
    unfold inlR at q
    cases h1 : inV (.str z) [.str "soft", .str "hard"] with
    | true =>
      rw [h1, if_pos rfl] at q
      refine iteT ⟨_, rfl, a, _, rfl, .inr (same_tup (sG.trans s1) sq), rfl, ?_⟩
      have e1 : decide (V.int (((V.str z :: us).length : Nat) : Int) = V.int 1) = rest.isEmpty := by
        rw [show (V.int 1) = V.int ((0 + 1 : Nat) : Int) from rfl, len_cons hl 0]
        cases rest <;> rfl
      rw [e1]
      exact ⟨_, rfl, fun H' r s2 h => q _ _ (s1.trans s2) (h G)⟩
    | false =>
      rw [h1, if_neg Bool.false_ne_true] at q
      refine iteF ⟨_, rfl, (by show 3 ≤ sizeLine; decide), fun t2 nt2 => ⟨t2, _, rfl, .inr (SqT.of upd_same), rfl, (by decide +kernel), _, rfl, ?_⟩⟩
      rw [if_neg Bool.false_ne_true]
      have s2 := s1.trans (same_new (o := .tup [.str "text", .str "code", .str "html"]) nt2)
      cases h2 : inV (.str z) [.str "text", .str "code", .str "html"] with
      | true =>
        rw [h2, if_pos rfl] at q
        refine iteT ⟨_, rfl, a, _, rfl, .inr (same_tup (sG.trans s2) sq), rfl, _, rfl, ?_⟩
        have e2 : decide (V.int (((V.str z :: us).length : Nat) : Int) = V.int 2) = decide (rest.length = 1) := len_cons hl 1
        rw [e2]
        by_cases h3 : rest.length = 1
        · rw [decide_eq_true h3]
          obtain ⟨a', u, x, ea, rfl, sq1, hx⟩ := dp_parts1 hv h3
          cases ea
          refine iteT ⟨_, rfl, a, _, _, _, rfl, rfl, same_tup (sG.trans s2) sq1, ix1, u, x, rfl, dp_same (sG.trans s2) hx, (fitAll_c hf).1, _, rfl, ?_⟩
          have q' : ∀ H' r, Same H H' → RV K G H' r (ok (isTxt x && !isEmp x)) → Q r H' := q
          cases h4 : isTxt x with
          | false =>
            rw [h4, Bool.false_and] at q'
            exact iteF ⟨_, rfl, fun H' r s3 h => q' _ _ (s2.trans s3) (h G)⟩
          | true =>
            rw [h4, Bool.true_and] at q'
            obtain ⟨y, rfl⟩ : ∃ z, x = .str z := by cases x <;> first | exact ⟨_, rfl⟩ | cases h4
            cases dp_str hx
            refine iteT ⟨_, rfl, a, _, _, _, rfl, rfl, same_tup (sG.trans s2) sq1, ix1, rfl, ?_⟩
            rw [lit_e, dec_str]
            exact ⟨_, rfl, fun H' r s3 h => q' _ _ (s2.trans s3) (h G)⟩
        · rw [decide_eq_false h3]
          have e3 : txtR rest = none := by
            match rest, h3 with
            | [], _ => rfl
            | [x], h => exact absurd rfl h
            | _ :: _ :: _, _ => rfl
          rw [e3] at q
          exact iteF ⟨_, rfl, fun H' r s3 h => q _ _ (s2.trans s3) (h G)⟩
      | false =>
        rw [h2, if_neg Bool.false_ne_true] at q
        refine iteF ⟨_, rfl, (by show 2 ≤ sizeLine; decide), fun t3 nt3 => ⟨t3, _, rfl, .inr (SqT.of upd_same), rfl, (by decide +kernel), _, rfl, ?_⟩⟩
        rw [if_neg Bool.false_ne_true]
        have s3 := s2.trans (same_new (o := .tup [.str "emph", .str "strong"]) nt3)
        cases h3 : inV (.str z) [.str "emph", .str "strong"] with
        | true =>
          rw [h3, if_pos rfl] at q
          refine iteT ⟨_, rfl, a, _, rfl, .inr (same_tup (sG.trans s3) sq), rfl, _, rfl, ?_⟩
          have e2 : decide (V.int (((V.str z :: us).length : Nat) : Int) = V.int 2) = decide (rest.length = 1) := len_cons hl 1
          rw [e2]
          by_cases h4 : rest.length = 1
          · rw [decide_eq_true h4]
            obtain ⟨a', u, x, ea, rfl, sq1, hx⟩ := dp_parts1 hv h4
            cases ea
            refine iteF ⟨_, rfl, a, _, _, _, rfl, rfl, same_tup (sG.trans s3) sq1, ix1, u, x, rfl, dp_same (sG.trans s3) hx, _, rfl, ?_⟩
            have q' : ∀ H' r, Same H H' → RV K G H' r (if isFil x = true then some [(so, x)] else none) → Q r H' := q
            cases h5 : isFil x with
            | false =>
              rw [h5, if_neg Bool.false_ne_true] at q'
              exact iteT (q' _ _ s3 rfl)
            | true =>
              rw [h5, if_pos rfl] at q'
              exact iteF ⟨_, rfl, _, rfl, a, _, _, _, rfl, rfl, same_tup (sG.trans s3) sq1, ix1, (by show 2 ≤ sizeLine; decide), fun t nt => ⟨(by show 1 ≤ sizeLine; decide), fun p np => q' _ _ (s3.trans ((same_new nt).trans (same_new np))) (rv_one (s := so) nt np hx)⟩⟩
          · rw [decide_eq_false h4]
            have e3 : filR so rest = none := by
              match rest, h4 with
              | [], _ => rfl
              | [x], h => exact absurd rfl h
              | _ :: _ :: _, _ => rfl
            rw [e3] at q
            exact iteT (iteT (q _ _ s3 rfl))
        | false =>
          rw [h3, if_neg Bool.false_ne_true] at q
          refine iteF ⟨_, rfl, (by show 2 ≤ sizeLine; decide), fun t4 nt4 => ⟨t4, _, rfl, .inr (SqT.of upd_same), rfl, (by decide +kernel), _, rfl, ?_⟩⟩
          rw [if_neg Bool.false_ne_true]
          have s4 := s3.trans (same_new (o := .tup [.str "link", .str "image"]) nt4)
          cases h4 : inV (.str z) [.str "link", .str "image"] with
          | true =>
            rw [h4, if_pos rfl] at q
            exact iteT ⟨_, rfl, _, rfl, G, so, .ref a, z, rest, rfl, sG.trans s4, hv, hf, fun H' r s5 h => q _ _ (s4.trans s5) h⟩
          | false =>
            rw [h4, if_neg Bool.false_ne_true] at q
            exact iteF (q _ _ s4 rfl)
def sp_block_rows (K : PySem.W.Frag) : Sp := fun vs H Q _ => ∃ (G : Hp) (v : V) (z : Str) (rest : List PyData), vs = [v] ∧ Same G H ∧ Dp K G v (.tuple (.str z :: rest)) ∧ fitAll rest = true ∧ ∀ H' r, Same H H' → RV K G H' r (blkR z rest) → Q r H'
theorem ok_block_rows {P : Program} {w : World} {K : PySem.W.Frag} {mg : Str → Option Value} {base : Heap} (T : Txt w K mg) : FnOk P w K mg base CX0 9 T.a_block_rows T.d_block_rows ["block"] (sp_block_rows K) := by
  have AC := AB (P := P) (base := base) T
  refine T.f_block_rows.ok sc_block_rows (fun vs H Q E h => ?_) (fun cdv A outer s H vs Q E hr h => ?_)
  · obtain ⟨G, v, z, rest, rfl, _⟩ := h
    rfl
  · obtain ⟨G, v, z, rest, rfl, sG, hv, hf, q⟩ := h
    refine ⟨_, (pss_cons (ps_set (i := 1) sc_block_rows.nd rfl (.inl rfl) (pe_ix ix_tup (pv 0) pe_int (fun _ _ => rfl)))
        (pss_cons (ps_if (PW.pt (pw_or (pt_cmpR (op_notIn_ks T.k_BLOCK_CHECKS) (pv 1) (pe_glob (v := .ref T.a_BLOCK_CHECKS) rfl T.g_BLOCK_CHECKS rfl) (by rfl)) (pw_or1 (pt_cmpR op_ne (pe_callB call_len_seq (by rfl) T.z_len PySem.boot_len (pa_cons (pv 0) pa_nil)) (pe_ix (ix_ks T.k_BLOCK_LENGTHS) (pe_glob (v := .ref T.a_BLOCK_LENGTHS) rfl T.g_BLOCK_LENGTHS rfl) (pv 1) (fun _ _ => rfl)) (nomark _))))) (pss_one (ps_ret pe_non)) pss_nil)
        (pss_cons (ps_set (i := 2) sc_block_rows.nd rfl (.inl rfl) (pe_ix (ix_ks T.k_BLOCK_CHECKS) (pe_glob (v := .ref T.a_BLOCK_CHECKS) rfl T.g_BLOCK_CHECKS rfl) (pv 1) (fun _ _ => rfl)))
        (pss_one (ps_ret (pe_callR AC (hr.mono (by decide)) (i := 2) rfl (.inl rfl) (pa_cons (pv 0) pa_nil))))))), ?_⟩
    obtain ⟨a, us, rfl, sq, dps⟩ := dp_parts0 hv
    have hl := (dpAll_all2 dps).1
    refine ⟨_, rfl, a, _, _, _, rfl, rfl, same_tup sG sq, atI_nat (j := 0) rfl, ?_⟩
    refine ⟨_, rfl, z, rfl, rfl, _, rfl, ?_⟩
    rcases word_cases T z with ⟨n, f, l1, l2, hS, hL⟩ | ⟨l1, hno⟩
    · rw [l1]
      refine iteF ⟨_, rfl, a, _, rfl, .inr (same_tup sG sq), _, rfl, z, _, rfl, rfl, l2, rfl, _, rfl, ?_⟩
      rw [len_cons hl n]
      by_cases h1 : rest.length = n
      · rw [decide_eq_true h1]
        refine iteF ⟨_, rfl, z, _, rfl, rfl, l1, f, _, rfl, hS, _, rfl, G, .ref a, rest, rfl, sG, hv, h1, hf, q⟩
      · rw [decide_eq_false h1]
        rw [hL rest h1] at q
        exact iteT (q _ _ (Same.refl _) rfl)
    · rw [l1]
      rw [hno] at q
      exact iteT (iteT (q _ _ (Same.refl _) rfl))

/-! ### how many, how deep -/
mutual
def cnt : PyData → Nat
  | .list ds => 1 + cntAll ds
  | .tuple ds => 1 + cntAll ds
  | _ => 1
def cntAll : List PyData → Nat
  | [] => 0
  | d :: ds => cnt d + cntAll ds
end
theorem cnt_pos (d : PyData) : 1 ≤ cnt d := by
  cases d <;> (unfold cnt; omega)
def tcnt : List (So × PyData) → Nat
  | [] => 0
  | p :: r => cnt p.2 + tcnt r
theorem tcnt_app : ∀ a b : List (So × PyData), tcnt (a ++ b) = tcnt a + tcnt b
  | [], b => by simp [tcnt]
  | p :: a, b => by
    show cnt p.2 + tcnt (a ++ b) = cnt p.2 + tcnt a + tcnt b
    rw [tcnt_app a b]
    omega
theorem tcnt_len : ∀ a : List (So × PyData), a.length ≤ tcnt a
  | [] => Nat.le_refl _
  | p :: a => by
    have := tcnt_len a
    have := cnt_pos p.2
    show a.length + 1 ≤ cnt p.2 + tcnt a
    omega
theorem tcnt_map (s : So) : ∀ ds : List PyData, tcnt (ds.map fun i => (s, i)) = cntAll ds
  | [] => rfl
  | d :: ds => by
    show cnt d + tcnt (ds.map fun i => (s, i)) = cnt d + cntAll ds
    rw [tcnt_map s ds]
/-- what a row or a thing within a thing keeps -/
structure In (n m : Nat) (p : So × PyData) : Prop where
  deep : p.2.depth + m ≤ n
  fit : fit p.2 = true
/-- rows that come of parts -/
theorem parts_in {rest : List PyData} {z : Str} (hf : fitAll rest = true) {f : List (So × PyData)} : (∀ s, inlR s z rest = some f → tcnt f ≤ cntAll rest ∧ ∀ p ∈ f, In (PyData.depthAll rest) 0 p) ∧ (blkR z rest = some f → tcnt f ≤ cntAll rest ∧ ∀ p ∈ f, In (PyData.depthAll rest) 0 p) := by
  have none0 : ∀ b, ok b = some f → tcnt f ≤ cntAll rest ∧ ∀ p ∈ f, In (PyData.depthAll rest) 0 p := fun b h => by
    unfold ok at h
    split at h
    · cases h
      exact ⟨Nat.zero_le _, fun p hp => by cases hp⟩
    · cases h
  have one : ∀ (s : So) (x : PyData), rest = [x] → some [(s, x)] = some f → tcnt f ≤ cntAll rest ∧ ∀ p ∈ f, In (PyData.depthAll rest) 0 p := fun s x e h => by
    subst e
    cases h
    refine ⟨Nat.le_refl _, fun p hp => ?_⟩
    rw [List.mem_singleton.mp hp]
    exact ⟨by show x.depth + 0 ≤ max x.depth 0; omega, (fitAll_c hf).1⟩
  constructor
  · intro s h
    unfold inlR at h
    split at h
    · exact none0 _ h
    split at h
    · unfold txtR at h
      split at h
      · exact none0 _ h
      · cases h
    split at h
    · unfold filR at h
      split at h
      · split at h
        · exact one s _ rfl h
        · cases h
      · cases h
    split at h
    · unfold linkR at h
      split at h
      · rename_i d t r
        have e3 : ∀ s', some [(s', r)] = some f → tcnt f ≤ cntAll [d, t, r] ∧ ∀ p ∈ f, In (PyData.depthAll [d, t, r]) 0 p := fun s' h => by
          cases h
          obtain ⟨_, g⟩ := fitAll_c hf
          obtain ⟨_, g⟩ := fitAll_c g
          refine ⟨by show cnt r + 0 ≤ cnt d + (cnt t + (cnt r + 0)); omega, fun p hp => ?_⟩
          rw [List.mem_singleton.mp hp]
          exact ⟨by show r.depth + 0 ≤ max d.depth (max t.depth (max r.depth 0)); omega, (fitAll_c g).1⟩
        split at h
        · cases h
        · split at h
          · exact e3 _ h
          · exact e3 _ h
      · cases h
    · cases h
  · intro h
    unfold blkR at h
    split at h
    · split at h
      · exact one .B _ rfl h
      · cases h
    split at h
    · split at h
      · rename_i g st ti its
        split at h
        · cases h
          obtain ⟨_, g1⟩ := fitAll_c hf
          obtain ⟨_, g1⟩ := fitAll_c g1
          obtain ⟨_, g1⟩ := fitAll_c g1
          obtain ⟨g1, _⟩ := fitAll_c g1
          refine ⟨?_, fun p hp => ?_⟩
          · rw [tcnt_map]
            show cntAll its ≤ cnt _ + (cnt st + (cnt ti + (1 + cntAll its + 0)))
            omega
          · obtain ⟨i, hi, rfl⟩ := List.mem_map.mp hp
            have hd : ∀ {ds : List PyData} {x : PyData}, x ∈ ds → x.depth ≤ PyData.depthAll ds := fun {ds x} hx => by
              induction ds with
              | nil => cases hx
              | cons d ds ih =>
                show x.depth ≤ max d.depth (PyData.depthAll ds)
                rcases List.mem_cons.mp hx with rfl | hx
                · omega
                · have := ih hx
                  omega
            have hft : ∀ {ds : List PyData} {x : PyData}, fitAll ds = true → x ∈ ds → fit x = true := fun {ds x} hf hx => by
              induction ds with
              | nil => cases hx
              | cons d ds ih =>
                rcases List.mem_cons.mp hx with rfl | hx
                · exact (fitAll_c hf).1
                · exact ih (fitAll_c hf).2 hx
            have h1 := hd hi
            exact ⟨by show i.depth + 0 ≤ max 0 (max st.depth (max ti.depth (max (PyData.depthAll its + 1) 0))); omega, hft (fit_tup g1).2 hi⟩
        · cases h
      · cases h
    split at h
    · split at h
      · rename_i l r
        split at h
        · cases h
          obtain ⟨_, g⟩ := fitAll_c hf
          refine ⟨by show cnt r + 0 ≤ cnt l + (cnt r + 0); omega, fun p hp => ?_⟩
          rw [List.mem_singleton.mp hp]
          exact ⟨by show r.depth + 0 ≤ max l.depth (max r.depth 0); omega, (fitAll_c g).1⟩
        · cases h
      · cases h
    split at h
    · exact none0 _ h
    split at h
    · split at h
      · exact none0 _ h
      · cases h
    split at h
    · split at h
      · exact none0 _ h
      · cases h
    split at h
    · split at h
      · exact none0 _ h
      · cases h
    split at h
    · split at h
      · split at h
        · exact one .I _ rfl h
        · cases h
      · cases h
    · cases h
theorem one_in {s : So} {x : PyData} {z : Str} {f : List (So × PyData)} (hf : fit x = true) (h : oneR s x = some (z, f)) : tcnt f ≤ cnt x ∧ ∀ p ∈ f, In x.depth 1 p := by
  unfold oneR at h
  split at h
  · rename_i z' rest
    have hr := (fitAll_c (fit_tup hf).2).2
    have key : tcnt f ≤ cntAll rest ∧ ∀ p ∈ f, In (PyData.depthAll rest) 0 p := by
      split at h
      · cases e : blkR z' rest with
        | none => rw [e] at h; cases h
        | some g =>
          rw [e] at h
          cases h
          exact (parts_in hr).2 e
      · cases e : inlR s z' rest with
        | none => rw [e] at h; cases h
        | some g =>
          rw [e] at h
          cases h
          exact (parts_in hr).1 s e
    refine ⟨?_, fun p hp => ?_⟩
    · show tcnt f ≤ 1 + (cnt (.str z') + cntAll rest)
      omega
    · have h1 := (key.2 p hp).deep
      refine ⟨?_, (key.2 p hp).fit⟩
      show p.2.depth + 1 ≤ max 0 (PyData.depthAll rest) + 1
      omega
  · cases h
theorem row_in {s : So} : ∀ {ds : List PyData} {b : Bool} {f : List (So × PyData)}, fitAll ds = true → rowR s b ds = some f → tcnt f ≤ cntAll ds ∧ ∀ p ∈ f, In (PyData.depthAll ds) 1 p
  | [], b, f, _, h => by
    cases h
    exact ⟨Nat.zero_le _, fun p hp => by cases hp⟩
  | x :: ds, b, f, hf, h => by
    unfold rowR at h
    cases e : oneR s x with
    | none => rw [e] at h; cases h
    | some zf =>
      obtain ⟨z, g⟩ := zf
      rw [e] at h
      obtain ⟨k1, k2⟩ := one_in (fitAll_c hf).1 e
      have h' : (if (b && decide (z = "text")) = true then none else (rowR s (decide (z = "text")) ds).map fun k => g ++ k) = some f := h
      split at h'
      · cases h'
      · cases e2 : rowR s (decide (z = "text")) ds with
        | none => rw [e2] at h'; cases h'
        | some k =>
          rw [e2] at h'
          cases h'
          obtain ⟨k3, k4⟩ := row_in (fitAll_c hf).2 e2
          refine ⟨?_, fun p hp => ?_⟩
          · rw [tcnt_app]
            show _ ≤ cnt x + cntAll ds
            omega
          · rcases List.mem_append.mp hp with hp | hp
            · have := (k2 p hp).deep
              refine ⟨?_, (k2 p hp).fit⟩
              show p.2.depth + 1 ≤ max x.depth (PyData.depthAll ds)
              omega
            · have := (k4 p hp).deep
              refine ⟨?_, (k4 p hp).fit⟩
              show p.2.depth + 1 ≤ max x.depth (PyData.depthAll ds)
              omega
theorem thing_in {p : So × PyData} {f : List (So × PyData)} (hf : fit p.2 = true) (h : thingR p = some f) : tcnt f ≤ cnt p.2 ∧ ∀ q ∈ f, In p.2.depth 2 q := by
  obtain ⟨s, d⟩ := p
  unfold thingR at h
  split at h
  · rename_i s' ds e
    cases e
    obtain ⟨k1, k2⟩ := row_in (fit_tup hf).2 h
    refine ⟨?_, fun q hq => ?_⟩
    · show tcnt f ≤ 1 + cntAll ds
      omega
    · have := (k2 q hq).deep
      refine ⟨?_, (k2 q hq).fit⟩
      show q.2.depth + 2 ≤ PyData.depthAll ds + 1
      omega
  · cases h

def sp_rows_of_one (K : PySem.W.Frag) : Sp := fun vs H Q _ => ∃ (G : Hp) (s : So) (v : V) (d : PyData), vs = [.str s.nm, v] ∧ Same G H ∧ Dp K G v d ∧ fit d = true ∧ ∀ H' r, Same H H' → RV K G H' r ((oneR s d).map (·.2)) → Q r H'
theorem so_B' (s : So) : decide (V.str s.nm = V.str ("blocks" : Str)) = (match s with | .B => true | _ => false) := by rw [dec_str]; exact so_B s
theorem ok_rows_of_one {P : Program} {w : World} {K : PySem.W.Frag} {mg : Str → Option Value} {base : Heap} (T : Txt w K mg) : FnOk P w K mg base CX0 10 T.a_rows_of_one T.d_rows_of_one ["sort", "one"] (sp_rows_of_one K) := by
  refine T.f_rows_of_one.ok sc_rows_of_one (fun vs H Q E h => ?_) (fun cdv A outer s H vs Q E hr h => ?_)
  · obtain ⟨G, so, v, d, rfl, _⟩ := h
    rfl
  · obtain ⟨G, so, v, d, rfl, sG, hv, hf, q⟩ := h
    refine ⟨_, (pss_cons (ps_if (PW.pt (pw_or (pt_not (pt_val (pe_callB call_isi (by rfl) T.z_isinstance (by decide +kernel) (pa_cons (pv 1) (pa_cons (pe_bltn (v := .ty "tuple") (by rfl) T.z_tuple (by decide +kernel) rfl) pa_nil))))) (pw_or (pt_cmpR op_eq (pe_callB call_len_seq (by rfl) T.z_len PySem.boot_len (pa_cons (pv 1) pa_nil)) pe_int (nomark _)) (pw_or1 (pt_not (pt_val (pe_callB call_isi (by rfl) T.z_isinstance (by decide +kernel) (pa_cons (pe_ix ix_tup (pv 1) pe_int (fun _ _ => rfl)) (pa_cons (pe_bltn (v := .ty "str") (by rfl) T.z_str (by decide +kernel) rfl) pa_nil))))))))) (pss_one (ps_ret pe_non)) pss_nil)
        (pss_cons (ps_if (pt_cmpR op_eq (pv 0) (pe_glob (v := .str "blocks") rfl T.g_BLOCKS ⟨_, rfl⟩) (nomark _)) (pss_one (ps_ret (pe_call (ok_block_rows T) (hr.mono (by decide)) (by rfl) T.g_block_rows T.f_block_rows.kp T.b_block_rows .nil pass0 (pa_cons (pv 1) pa_nil)))) pss_nil)
        (pss_one (ps_ret (pe_call (ok_inline_rows T) (hr.mono (by decide)) (by rfl) T.g_inline_rows T.f_inline_rows.kp T.b_inline_rows .nil pass0 (pa_cons (pv 0) (pa_cons (pv 1) pa_nil))))))), ?_⟩
    refine ⟨_, rfl, _, .ty "tuple", _, _, _, rfl, .ty "tuple", tyx_dp (dp_same sG hv), kit_ty (kit_tup d), _, rfl, ?_⟩
    cases h1 : isTup d with
    | false =>
      have : oneR so d = none := by
        cases d <;> first | rfl | cases h1
      rw [this] at q
      exact iteT (iteT (q _ _ (Same.refl _) rfl))
    | true =>
      obtain ⟨ds, rfl⟩ : ∃ ds, d = .tuple ds := by cases d <;> first | exact ⟨_, rfl⟩ | cases h1
      obtain ⟨a, us, rfl, sq, dps⟩ := dp_tup2 hv
      have hl := (dpAll_all2 dps).1
      refine iteF ⟨_, rfl, a, us, rfl, .inr (same_tup sG sq), rfl, _, rfl, ?_⟩
      rw [dec_int]
      cases dps with
      | nil => exact iteT (iteT (q _ _ (Same.refl _) rfl))
      | cons d0 dr =>
        rename_i v0 us0 x0 ds0
        rw [decide_eq_false (by rw [List.length_cons]; omega)]
        refine iteF ⟨_, rfl, a, _, _, _, rfl, rfl, same_tup sG sq, atI_nat (j := 0) rfl, _, .ty "str", _, _, _, rfl, .ty "str", tyx_dp (dp_same sG d0), kit_ty (kit_str x0), _, rfl, ?_⟩
        cases h2 : isStr x0 with
        | false =>
          have : oneR so (.tuple (x0 :: ds0)) = none := by
            cases x0 <;> first | rfl | cases h2
          rw [this] at q
          exact iteT (q _ _ (Same.refl _) rfl)
        | true =>
          obtain ⟨z, rfl⟩ : ∃ z, x0 = .str z := by cases x0 <;> first | exact ⟨_, rfl⟩ | cases h2
          have hfr := (fitAll_c (fit_tup hf).2).2
          refine iteF ⟨_, rfl, rfl, _, rfl, ?_⟩
          rw [so_B']
          cases so with
          | B =>
            refine iteT ⟨_, rfl, G, .ref a, z, ds0, rfl, sG, hv, hfr, fun H' r s1 h => q _ _ s1 ?_⟩
            have e : oneR .B (.tuple (.str z :: ds0)) = (blkR z ds0).map fun r => (z, r) := rfl
            rw [e, Option.map_map]
            cases hb : blkR z ds0 with
            | none => rw [hb] at h; exact h
            | some g => rw [hb] at h; exact h
          | I =>
            refine iteF ⟨_, rfl, _, rfl, G, .I, .ref a, z, ds0, rfl, sG, hv, hfr, fun H' r s1 h => q _ _ s1 ?_⟩
            have e : oneR .I (.tuple (.str z :: ds0)) = (inlR .I z ds0).map fun r => (z, r) := rfl
            rw [e, Option.map_map]
            cases hb : inlR .I z ds0 with
            | none => rw [hb] at h; exact h
            | some g => rw [hb] at h; exact h
          | K =>
            refine iteF ⟨_, rfl, _, rfl, G, .K, .ref a, z, ds0, rfl, sG, hv, hfr, fun H' r s1 h => q _ _ s1 ?_⟩
            have e : oneR .K (.tuple (.str z :: ds0)) = (inlR .K z ds0).map fun r => (z, r) := rfl
            rw [e, Option.map_map]
            cases hb : inlR .K z ds0 with
            | none => rw [hb] at h; exact h
            | some g => rw [hb] at h; exact h
/-- a thing that may stand in a tree's place, a dict among them -/
def Th (K : PySem.W.Frag) (H : Hp) (v : V) (d : PyData) : Prop := Dp K H v d ∨ ∃ a kvs, v = .ref a ∧ H a = some (.dK kvs) ∧ d = .dict []
theorem th_tup {K : PySem.W.Frag} {H : Hp} {v : V} {d : PyData} (h : Th K H v d) : TyX K H v (.type (tyName d)) := by
  rcases h with h | ⟨a, kvs, rfl, h, rfl⟩
  · exact tyx_dp h
  · exact .base (.dK h)
theorem Th.same {K : PySem.W.Frag} {H H' : Hp} {v : V} {d : PyData} (s : Same H H') (h : Th K H v d) : Th K H' v d := by
  rcases h with h | ⟨a, kvs, rfl, h, rfl⟩
  · exact .inl (dp_same s h)
  · exact .inr ⟨a, kvs, rfl, s _ _ h, rfl⟩
def sp_rows_of_row (K : PySem.W.Frag) : Sp := fun vs H Q _ => ∃ (G : Hp) (s : So) (v : V) (d : PyData), vs = [.str s.nm, v] ∧ Same G H ∧ Th K G v d ∧ (isTup d = true → fit d = true) ∧ cnt d ≤ 5000000 ∧ ∀ H' r, Same H H' → RV K G H' r (thingR (s, d)) → Q r H'
theorem rowR_c (s : So) (b : Bool) (x : PyData) (r : List PyData) : rowR s b (x :: r) = match oneR s x with
    | none => none
    | some (z, f) => if (b && decide (z = "text")) = true then none else (rowR s (decide (z = "text")) r).map fun g => f ++ g := rfl
theorem rowR_some {s : So} {b : Bool} {x : PyData} {r : List PyData} {z : Str} {f : List (So × PyData)} (h : oneR s x = some (z, f)) : rowR s b (x :: r) = if (b && decide (z = "text")) = true then none else (rowR s (decide (z = "text")) r).map fun g => f ++ g := by
  rw [rowR_c, h]
theorem rowR_none {s : So} {b : Bool} {x : PyData} {r : List PyData} (h : oneR s x = none) : rowR s b (x :: r) = none := by
  rw [rowR_c, h]
theorem one_word {s : So} {x : PyData} {z : Str} {f : List (So × PyData)} (h : oneR s x = some (z, f)) : ∃ rest, x = .tuple (.str z :: rest) := by
  unfold oneR at h
  split at h
  · rename_i z' rest
    split at h
    · cases e : blkR z' rest with
      | none => rw [e] at h; cases h
      | some g => rw [e] at h; cases h; exact ⟨_, rfl⟩
    · cases e : inlR s z' rest with
      | none => rw [e] at h; cases h
      | some g => rw [e] at h; cases h; exact ⟨_, rfl⟩
  · cases h
theorem ok_rows_of_row {P : Program} {w : World} {K : PySem.W.Frag} {mg : Str → Option Value} {base : Heap} (T : Txt w K mg) : FnOk P w K mg base CX0 11 T.a_rows_of_row T.d_rows_of_row ["sort", "row"] (sp_rows_of_row K) := by
  refine T.f_rows_of_row.ok sc_rows_of_row (fun vs H Q E h => ?_) (fun cdv A outer s H vs Q E hr h => ?_)
  · obtain ⟨G, so, v, d, rfl, _⟩ := h
    rfl
  · obtain ⟨G, so, v, d, rfl, sG, hv, hf, hc, q⟩ := h
    refine ⟨_, (pss_cons (ps_if (pt_not (pt_val (pe_callB call_isi (by rfl) T.z_isinstance (by decide +kernel) (pa_cons (pv 1) (pa_cons (pe_bltn (v := .ty "tuple") (by rfl) T.z_tuple (by decide +kernel) rfl) pa_nil))))) (pss_one (ps_ret pe_non)) pss_nil)
        (pss_cons (ps_set (i := 2) sc_rows_of_row.nd rfl (.inl rfl) (pe_lst pa_nil))
        (pss_cons (ps_set (i := 3) sc_rows_of_row.nd rfl (.inl rfl) pe_str)
        (pss_cons (ps_for PassesOwn.never rfl (pi_tup (pv 1)) (pg_name (i := 4) sc_rows_of_row.nd rfl (.inl rfl)) (pss_cons (ps_set (i := 5) sc_rows_of_row.nd rfl (.inl rfl) (pe_call (ok_rows_of_one T) (hr.mono (by decide)) (by rfl) T.g_rows_of_one T.f_rows_of_one.kp T.b_rows_of_one .nil pass0 (pa_cons (pv 0) (pa_cons (pv 4) pa_nil))))
        (pss_cons (ps_if (PW.pt (pw_or (pt_cmpR op_isN (pv 5) pe_non (nomark _)) (pw_or1 (PW.pt (pw_and (pt_cmpR op_eq (pv 3) pe_str (nomark _)) (pw_and1 (pt_cmpR op_eq (pe_ix ix_tup (pv 4) pe_int (fun _ _ => rfl)) pe_str (nomark _)))))))) (pss_one (ps_ret pe_non)) pss_nil)
        (pss_cons (ps_expr (pe_bm PySem.F.plainAttrs_list PySem.F.slot_list_extend PySem.F.type_list_extend mt_extend (pv 2) (pa_cons (pv 5) pa_nil)))
        (pss_one (ps_set (i := 3) sc_rows_of_row.nd rfl (.inl rfl) (pe_ix ix_tup (pv 4) pe_int (fun _ _ => rfl))))))))
        (pss_one (ps_ret (pv 2))))))), ?_⟩
    refine ⟨_, rfl, _, .ty "tuple", _, _, _, rfl, .ty "tuple", th_tup (hv.same sG), kit_ty (kit_tup d), _, rfl, ?_⟩
    cases h1 : isTup d with
    | false =>
      have : thingR (so, d) = none := by
        cases d <;> first | rfl | cases h1
      rw [this] at q
      exact iteT (q _ _ (Same.refl _) rfl)
    | true =>
      obtain ⟨ds, rfl⟩ : ∃ ds, d = .tuple ds := by cases d <;> first | exact ⟨_, rfl⟩ | cases h1
      rcases hv with hv | ⟨_, _, _, _, e⟩
      case inr => cases e
      have hfd := fit_tup (hf rfl)
      have hc' : cntAll ds ≤ 5000000 := by
        have : 1 + cntAll ds ≤ 5000000 := hc
        omega
      obtain ⟨a, us, rfl, sq, dps⟩ := dp_tup2 hv
      have hi := dpAll_all2 dps
      refine iteF ⟨(by show 0 ≤ sizeLine; decide), fun F nF => ⟨_, rfl, a, rfl, ⟨us, same_tup (sG.trans (same_new nF)) sq⟩, ?_⟩⟩
      refine for_tup (xs := us) (fun i σ' H' => ∃ (wa : Str) (a4 a5 : Option V) (ws : List V) (fs : List (So × PyData)), σ' = [some (.str so.nm), some (.ref a), some (.ref F), some (.str wa), a4, a5] ∧ Keeps F H H' ∧ H' F = some (.lst ws) ∧ All2 (PairI K G (Rest H' [F])) ws fs ∧ tcnt fs + cntAll (ds.drop i) ≤ cntAll ds ∧
        thingR (so, .tuple ds) = (rowR so (decide (wa = "text")) (ds.drop i)).map fun g => fs ++ g) ?_ ?_ ?_ ?_
      · refine ⟨"", none, none, [], [], rfl, .of (same_new nF), upd_same, .nil, by show 0 + _ ≤ _; rw [List.drop_zero]; omega, ?_⟩
        rw [show decide (("" : Str) = "text") = false by decide +kernel, List.drop_zero]
        show rowR so false ds = _
        cases rowR so false ds <;> rfl
      · rintro i σ' H1 _ ⟨wa, a4, a5, ws, fs, rfl, kp, _⟩
        exact same_tup (keeps_same kp sG (sG.free nF)) sq
      · rintro i x σ' H1 hx ⟨wa, a4, a5, ws, fs, rfl, kp, hF, aw, hcn, ht⟩
        have hi' : i < ds.length := by rw [← hi.1]; exact (List.getElem?_eq_some_iff.mp hx).1
        obtain ⟨y, hy⟩ : ∃ y, ds[i]? = some y := ⟨_, List.getElem?_eq_getElem hi'⟩
        have dx := hi.2 i x y hx hy
        have sG1 : Same G H1 := keeps_same kp sG (sG.free nF)
        have hft : ∀ {ds : List PyData} {x : PyData}, fitAll ds = true → x ∈ ds → fit x = true := fun {ds x} hf hx => by
          induction ds with
          | nil => cases hx
          | cons d ds ih =>
            rcases List.mem_cons.mp hx with rfl | hx
            · exact (fitAll_c hf).1
            · exact ih (fitAll_c hf).2 hx
        have fy := hft hfd.2 (List.mem_of_getElem? hy)
        have ed : ds.drop i = y :: ds.drop (i + 1) := by
          rw [List.drop_eq_getElem_cons hi']
          have := List.getElem?_eq_getElem hi'
          rw [hy] at this
          cases this
          rfl
        have ec : cntAll (ds.drop i) = cnt y + cntAll (ds.drop (i + 1)) := by rw [ed]; rfl
        refine ⟨_, rfl, _, rfl, G, so, x, y, rfl, sG1, dx, fy, fun H2 r s2 hrv => ?_⟩
        have hF2 : H2 F = some (.lst ws) := s2 _ _ hF
        have sHn : ∀ {H'}, Keeps F H H' → H F = none → Same H H' := fun k n => keeps_same k (Same.refl _) n
        cases ho : oneR so y with
        | none =>
          rw [ho] at hrv
          have : r = .non := hrv
          subst this
          refine ⟨_, rfl, rfl, _, rfl, iteT (iteT (q _ _ (sHn (kp.trans (.of s2)) nF) ?_))⟩
          rw [ht, ed, rowR_none ho]
          rfl
        | some zf =>
          obtain ⟨z, f⟩ := zf
          rw [ho] at hrv
          obtain ⟨p, ws2, rfl, hp, aw2⟩ := hrv
          obtain ⟨k1, _⟩ := one_in fy ho
          obtain ⟨rest, rfl⟩ := one_word ho
          obtain ⟨ax, usx, rfl, sqx, dpx⟩ := dp_parts0 dx
          refine ⟨_, rfl, rfl, _, rfl, iteF ?_⟩
          refine ⟨_, rfl, rfl, _, rfl, ?_⟩
          rw [dec_str]
          have hrow := rowR_some (b := decide (wa = "text")) (r := ds.drop (i + 1)) ho
          rw [ed, hrow] at ht
          have lws : ws.length ≤ 5000000 := by
            have h1 := tcnt_len fs
            have h2 := aw.1
            omega
          have lws2 : ws2.length ≤ 5000000 := by
            have h1 := tcnt_len f
            have h2 : ws2.length = f.length := aw2.1
            have : cnt (PyData.tuple (.str z :: rest)) ≤ cntAll ds := by omega
            omega
          -- the rows that were found join the others
          have add : (decide (wa = "text") && decide (z = "text")) = false → ∀ H3, Same H2 H3 → ∃ (wa' : Str) (a4 a5 : Option V) (ws' : List V) (fs' : List (So × PyData)), [some (V.str so.nm), some (.ref a), some (.ref F), some (.str z), some (.ref ax), some (.ref p)] = [some (V.str so.nm), some (.ref a), some (.ref F), some (.str wa'), a4, a5] ∧ Keeps F H (upd H3 F (.lst (ws ++ ws2))) ∧ (upd H3 F (.lst (ws ++ ws2))) F = some (.lst ws') ∧ All2 (PairI K G (Rest (upd H3 F (.lst (ws ++ ws2))) [F])) ws' fs' ∧ tcnt fs' + cntAll (ds.drop (i + 1)) ≤ cntAll ds ∧
              thingR (so, .tuple ds) = (rowR so (decide (wa' = "text")) (ds.drop (i + 1))).map fun g => fs' ++ g := fun hb H3 s3 => by
            rw [hb, if_neg Bool.false_ne_true, Option.map_map] at ht
            refine ⟨z, _, _, ws ++ ws2, fs ++ f, rfl, (kp.trans (.of (s2.trans s3))).trans Keeps.at, upd_same, ?_, ?_, ?_⟩
            · rw [rest_upd (by simp)]
              refine (aw.mono fun _ _ p => p.mono (rest_mono (s2.trans s3))).app (aw2.mono fun x y pr => ?_)
              obtain ⟨b, u, e1, e2, e3⟩ := pr
              refine ⟨b, u, e1, ?_, e3⟩
              rw [rest_out]
              · exact s3 _ _ e2
              · intro hb2
                rw [List.mem_singleton.mp hb2, hF2] at e2
                cases e2
            · rw [tcnt_app]
              omega
            · rw [ht]
              congr 1
              funext g
              show fs ++ (f ++ g) = fs ++ f ++ g
              rw [List.append_assoc]
          cases hb : decide (wa = "text") with
          | false =>
            refine iteF ?_
            refine ⟨_, rfl, .inl ⟨rfl, _, SqL.of hF2⟩, _, rfl, F, p, ws, ws2, rfl, rfl, hF2, hp, by rw [sizeLine_eq]; omega, ?_⟩
            have nax : SqT K (upd H2 F (.lst (ws ++ ws2))) ax (.str z :: usx) := same_tup (keeps_same Keeps.at (sG1.trans s2) (sG.free nF)) sqx
            exact ⟨_, rfl, ax, _, _, _, rfl, rfl, nax, atI_nat (j := 0) rfl, add (by rw [hb]; rfl) H2 (Same.refl _)⟩
          | true =>
            refine iteT ⟨_, rfl, ax, _, _, _, rfl, rfl, same_tup (sG1.trans s2) sqx, atI_nat (j := 0) rfl, rfl, _, rfl, ?_⟩
            rw [dec_str]
            cases hb2 : decide (z = "text") with
            | true =>
              refine iteT (q _ _ (sHn (kp.trans (.of s2)) nF) ?_)
              rw [ht, hb, hb2]
              rfl
            | false =>
              refine iteF ?_
              refine ⟨_, rfl, .inl ⟨rfl, _, SqL.of hF2⟩, _, rfl, F, p, ws, ws2, rfl, rfl, hF2, hp, by rw [sizeLine_eq]; omega, ?_⟩
              have nax : SqT K (upd H2 F (.lst (ws ++ ws2))) ax (.str z :: usx) := same_tup (keeps_same Keeps.at (sG1.trans s2) (sG.free nF)) sqx
              exact ⟨_, rfl, ax, _, _, _, rfl, rfl, nax, atI_nat (j := 0) rfl, add (by rw [hb, hb2]; rfl) H2 (Same.refl _)⟩
      · rintro σ' H1 ⟨wa, a4, a5, ws, fs, rfl, kp, hF, aw, hcn, ht⟩
        have el : ds.drop us.length = [] := by rw [hi.1]; exact List.drop_length
        rw [el] at ht
        refine ⟨_, rfl, q _ _ (keeps_same kp (Same.refl _) nF) ?_⟩
        rw [ht]
        have e2 : (rowR so (decide (wa = "text")) []).map (fun g => fs ++ g) = some fs := by
          show some (fs ++ []) = some fs
          rw [List.append_nil]
        rw [e2]
        exact ⟨F, ws, rfl, hF, aw.mono fun _ _ p => p.mono rest_same⟩

/-! ### a tree -/
theorem so_B0 : So.B.nm = ("blocks" : Str) := rfl
mutual
theorem fit_lay : ∀ d : PyData, fit d = true → d.canLay0 = true
  | .none, _ => rfl
  | .bool _, _ => rfl
  | .int _, _ => rfl
  | .str z, h => by
    unfold fit at h
    rw [Bool.and_eq_true] at h
    exact h.2
  | .list ds, h => by
    unfold fit at h
    rw [Bool.and_eq_true] at h
    exact fitAll_lay ds h.2
  | .tuple ds, h => by
    unfold fit at h
    rw [Bool.and_eq_true] at h
    exact fitAll_lay ds h.2
  | .dict _, h => by unfold fit at h; cases h
theorem fitAll_lay : ∀ ds : List PyData, fitAll ds = true → PyData.canLayAll0 ds = true
  | [], _ => rfl
  | d :: ds, h => by
    obtain ⟨h1, h2⟩ := fitAll_c h
    show (d.canLay0 && PyData.canLayAll0 ds) = true
    rw [fit_lay d h1, fitAll_lay ds h2]
    rfl
end
def pairD (p : So × PyData) : PyData := .tuple [.str p.1.nm, p.2]
theorem pairs_dp {K : PySem.W.Frag} {G H : Hp} (s : Same G H) : ∀ {ws : List V} {rs : List (So × PyData)}, All2 (PairI K G H) ws rs → DpAll K H ws (rs.map pairD)
  | [], [], _ => .nil
  | [], _ :: _, h => by have := h.1; simp at this
  | _ :: _, [], h => by have := h.1; simp at this
  | w :: ws, p :: rs, h => by
    obtain ⟨a, u, rfl, ha, hu⟩ := h.2 0 w p rfl rfl
    exact .cons (.tup (SqT.of ha) (.cons (.str _) (.cons (dp_same s hu) .nil))) (pairs_dp s ⟨by have := h.1; simpa using this, fun i x y hx hy => h.2 (i + 1) x y hx hy⟩)
theorem nm_ok (s : So) : PyData.strOk s.nm = true := by cases s <;> decide +kernel
theorem pairs_lay {n : Nat} : ∀ {rs : List (So × PyData)}, (∀ p ∈ rs, fit p.2 = true ∧ p.2.depth ≤ n) → PyData.canLayAll0 (rs.map pairD) = true ∧ PyData.depthAll (rs.map pairD) ≤ n + 1
  | [], _ => ⟨rfl, Nat.zero_le _⟩
  | p :: rs, h => by
    obtain ⟨h1, h2⟩ := h p (List.mem_cons_self ..)
    obtain ⟨h3, h4⟩ := pairs_lay (rs := rs) fun q hq => h q (List.mem_cons_of_mem _ hq)
    constructor
    · show ((PyData.strOk p.1.nm && (p.2.canLay0 && true)) && PyData.canLayAll0 (rs.map pairD)) = true
      rw [nm_ok, fit_lay _ h1, h3]
      rfl
    · show max (max 0 (max p.2.depth 0) + 1) (PyData.depthAll (rs.map pairD)) ≤ n + 1
      omega
def restR : Nat → List (So × PyData) → List (So × PyData)
  | 0, rows => rows
  | n + 1, rows => match allR rows with
    | none => []
    | some f => restR n f
def lim (d : PyData) : Bool := (restR 100 [(.B, d)]).all fun p => decide (p.2.depth ≤ 50)
theorem all_in {m : Nat} : ∀ {rs : List (So × PyData)} {f : List (So × PyData)}, (∀ p ∈ rs, (isTup p.2 = true → fit p.2 = true) ∧ p.2.depth ≤ m + 2) → allR rs = some f → ∀ p ∈ f, (isTup p.2 = true → fit p.2 = true) ∧ p.2.depth ≤ m
  | [], f, _, e => by
    cases e
    intro p hp
    cases hp
  | p :: rs, f, h, e => by
    obtain ⟨h1, h2⟩ := h p (List.mem_cons_self ..)
    cases ho : thingR p with
    | none => rw [allR_none ho] at e; cases e
    | some g =>
      rw [allR_some ho] at e
      cases er : allR rs with
      | none => rw [er] at e; cases e
      | some g2 =>
        rw [er] at e
        cases e
        have ht : isTup p.2 = true := by
          obtain ⟨s', d'⟩ := p
          unfold thingR at ho
          split at ho
          · rename_i e
            cases e
            rfl
          · cases ho
        intro q hq
        rcases List.mem_append.mp hq with hq | hq
        · have := (thing_in (h1 ht) ho).2 q hq
          exact ⟨fun _ => this.fit, by have := this.deep; omega⟩
        · exact all_in (fun p hp => h p (List.mem_cons_of_mem _ hp)) er q hq
theorem lim_of : ∀ (n : Nat) {rs : List (So × PyData)}, (∀ p ∈ rs, (isTup p.2 = true → fit p.2 = true) ∧ p.2.depth ≤ 50 + 2 * n) → (restR n rs).all (fun p => decide (p.2.depth ≤ 50)) = true
  | 0, rs, h => by
    rw [List.all_eq_true]
    intro p hp
    exact decide_eq_true (h p hp).2
  | n + 1, rs, h => by
    show (match allR rs with | none => [] | some f => restR n f).all _ = true
    cases e : allR rs with
    | none => rfl
    | some f => exact lim_of n (all_in h e)
theorem lim_deep {d : PyData} (hf : isTup d = true → fit d = true) (h : d.depth ≤ 250) : lim d = true := lim_of 100 fun p hp => by
  rw [List.mem_singleton.mp hp]
  exact ⟨hf, h⟩
def sp_is_tree (K : PySem.W.Frag) : Sp := fun vs H Q _ => ∃ (v : V) (d : PyData), vs = [v] ∧ Th K H v d ∧ (isTup d = true → fit d = true) ∧ cnt d ≤ 5000000 ∧ lim d = true ∧ ∀ H', Same H H' → Q (.bl (isTree d)) H'
theorem ok_is_tree {P : Program} {w : World} {K : PySem.W.Frag} {mg : Str → Option Value} {base : Heap} (T : Txt w K mg) : FnOk P w K mg base CX0 12 T.a_is_tree T.d_is_tree ["thing"] (sp_is_tree K) := by
  refine T.f_is_tree.ok sc_is_tree (fun vs H Q E h => ?_) (fun cdv A outer s H vs Q E hr h => ?_)
  · obtain ⟨v, d, rfl, _⟩ := h
    rfl
  · obtain ⟨v, d, rfl, hv, hf, hc, hdp, q⟩ := h
    refine ⟨_, (pss_cons (ps_set (i := 1) sc_is_tree.nd rfl (.inl rfl) (pe_lst (pa_cons (pe_tup (pa_cons (pe_glob (v := .str "blocks") rfl T.g_BLOCKS ⟨_, rfl⟩) (pa_cons (pv 0) pa_nil))) pa_nil)))
        (pss_cons (ps_for PassesOwn.never rfl (pi_range1 (by rfl) T.z_range (pa_cons (pe_glob (v := .int 100) rfl T.g_MOST_ROWS ⟨_, rfl⟩) pa_nil)) (pg_name (i := 2) sc_is_tree.nd rfl (.inl rfl)) (pss_cons (ps_set (i := 3) sc_is_tree.nd rfl (.inl rfl) (pe_lst pa_nil))
        (pss_cons (ps_for PassesOwn.never rfl (pi_list (pv 1)) (pg_tup (by rfl) (pgs_cons (pg_name (i := 4) sc_is_tree.nd rfl (.inl rfl)) (pgs_cons (pg_name (i := 5) sc_is_tree.nd rfl (.inl rfl)) pgs_nil))) (pss_cons (ps_set (i := 6) sc_is_tree.nd rfl (.inl rfl) (pe_call (ok_rows_of_row T) (hr.mono (by decide)) (by rfl) T.g_rows_of_row T.f_rows_of_row.kp T.b_rows_of_row .nil pass0 (pa_cons (pv 4) (pa_cons (pv 5) pa_nil))))
        (pss_cons (ps_if (pt_cmpR op_isN (pv 6) pe_non (nomark _)) (pss_one (ps_ret pe_bl)) pss_nil)
        (pss_one (ps_expr (pe_bm PySem.F.plainAttrs_list PySem.F.slot_list_extend PySem.F.type_list_extend mt_extend (pv 3) (pa_cons (pv 6) pa_nil)))))))
        (pss_one (ps_set (i := 1) sc_is_tree.nd rfl (.inl rfl) (pv 3))))))
        (pss_one (ps_ret (pe_cmpR (op_eqD hr.units) (pv 1) (pe_lst pa_nil) (nomark _)))))), ?_⟩
    refine ⟨_, rfl, (by show 2 ≤ sizeLine; decide), fun t nt => ⟨(by show 1 ≤ sizeLine; decide), fun R nR => ?_⟩⟩
    have hR0 : (upd (upd H t (.tup [.str "blocks", v])) R (.lst [.ref t])) R = some (.lst [.ref t]) := upd_same
    have ht0 : (upd (upd H t (.tup [.str "blocks", v])) R (.lst [.ref t])) t = some (.tup [.str "blocks", v]) := same_new nR _ _ upd_same
    have s0 : Same H (upd (upd H t (.tup [.str "blocks", v])) R (.lst [.ref t])) := (same_new nt).trans (same_new nR)
    generalize (upd (upd H t (.tup [.str "blocks", v])) R (.lst [.ref t])) = H0 at hR0 ht0 s0 ⊢
    refine ⟨100, rfl, by decide, by decide, ?_⟩
    -- a pair whose thing may be a dict at first
    refine for_range (lo := 0) (n := 100) (fun i σ' H' => ∃ (R : Addr) (a2 a3 a4 a5 a6 : Option V) (ws : List V) (rs : List (So × PyData)), σ' = [some v, some (.ref R), a2, a3, a4, a5, a6] ∧ Same H H' ∧ H' R = some (.lst ws) ∧
      All2 (fun w p => ∃ a u, w = .ref a ∧ H' a = some (.tup [.str p.1.nm, u]) ∧ Th K H u p.2) ws rs ∧ treeR (100 - i) rs = isTree d ∧ tcnt rs ≤ 5000000 ∧ (restR (100 - i) rs = restR 100 [(.B, d)] ∧ ∀ p ∈ rs, isTup p.2 = true → fit p.2 = true) ∧ (1 ≤ i → All2 (PairI K H H') ws rs ∧ ∀ p ∈ rs, fit p.2 = true)) ?_ ?_ ?_
    · refine ⟨R, none, none, none, none, none, [.ref t], [(.B, d)], rfl, s0, hR0, .one ⟨t, v, rfl, ht0, hv⟩, rfl, by show cnt d + 0 ≤ _; omega, ⟨rfl, fun p hp => ?_⟩, fun h => by omega⟩
      rw [List.mem_singleton.mp hp]
      exact hf
    · rintro i σ' H1 hi ⟨R, a2, a3, a4, a5, a6, ws, rs, rfl, s1, hR, aw, htr, htc, ⟨hlim, hall⟩, _⟩
      obtain ⟨m, hm⟩ : ∃ m, 100 - i = m + 1 := ⟨99 - i, by omega⟩
      have hm2 : 100 - (i + 1) = m := by omega
      rw [hm] at htr hlim
      refine ⟨(by show 0 ≤ sizeLine; decide), fun F nF => ⟨_, rfl, R, rfl, ⟨ws, SqL.of (same_new nF _ _ hR)⟩, ?_⟩⟩
      have hRF : R ≠ F := ne_of_none hR nF
      have nF0 : H F = none := s1.free nF
      refine for_list (xs := ws) (fun j σ' H' => ∃ (a4 a5 a6 : Option V) (us : List V) (fs : List (So × PyData)), σ' = [some v, some (.ref R), some (.int (0 + (i : Nat))), some (.ref F), a4, a5, a6] ∧ Keeps F H1 H' ∧ H' F = some (.lst us) ∧ All2 (PairI K H (Rest H' [F])) us fs ∧ tcnt fs + tcnt (rs.drop j) ≤ tcnt rs ∧
        (allR rs = (allR (rs.drop j)).map fun g => fs ++ g) ∧ ∀ p ∈ fs, fit p.2 = true) ?_ ?_ ?_ ?_
      · refine ⟨a4, a5, a6, [], [], rfl, .of (same_new nF), upd_same, .nil, by show 0 + _ ≤ _; rw [List.drop_zero]; omega, ?_, fun p hp => by cases hp⟩
        rw [List.drop_zero]
        cases allR rs <;> rfl
      · rintro j σ' H2 _ ⟨b4, b5, b6, us, fs, rfl, kp, _⟩
        exact SqL.of (kp _ _ hRF hR)
      · rintro j x σ' H2 hx ⟨b4, b5, b6, us, fs, rfl, kp, hF, au, htc2, har, hfs⟩
        have hj : j < rs.length := by rw [← aw.1]; exact (List.getElem?_eq_some_iff.mp hx).1
        obtain ⟨p, hp⟩ : ∃ p, rs[j]? = some p := ⟨_, List.getElem?_eq_getElem hj⟩
        obtain ⟨a, u, rfl, ha, hu⟩ := aw.2 j x p hx hp
        have haF : a ≠ F := ne_of_none ha nF
        have ed : rs.drop j = p :: rs.drop (j + 1) := by
          rw [List.drop_eq_getElem_cons hj]
          have := List.getElem?_eq_getElem hj
          rw [hp] at this
          cases this
          rfl
        have ec : tcnt (rs.drop j) = cnt p.2 + tcnt (rs.drop (j + 1)) := by rw [ed]; rfl
        have hpf := hall p (List.mem_of_getElem? hp)
        have sH2 : Same H H2 := keeps_same kp s1 nF0
        refine ⟨a, _, rfl, SqT.of (kp _ _ haF ha), rfl, _, _, rfl, _, _, rfl, rfl, ?_⟩
        refine ⟨_, rfl, _, rfl, H, p.1, u, p.2, rfl, sH2, hu, hpf, by omega, fun H3 r s3 hrv => ?_⟩
        have hF3 : H3 F = some (.lst us) := s3 _ _ hF
        refine ⟨_, rfl, rfl, _, rfl, ?_⟩
        cases ho : thingR p with
        | none =>
          have ho' : thingR (p.1, p.2) = none := ho
          rw [ho'] at hrv
          have : r = .non := hrv
          subst this
          refine iteT ?_
          have e : isTree d = false := by
            rw [← htr]
            show (match allR rs with | none => false | some inner => treeR m inner) = false
            rw [har, ed, allR_none ho]
            rfl
          have := q _ (sH2.trans s3)
          rw [e] at this
          exact this
        | some f =>
          have ho' : thingR (p.1, p.2) = some f := ho
          rw [ho'] at hrv
          obtain ⟨pp, ws2, rfl, hpp, aw2⟩ := hrv
          have hpt : isTup p.2 = true := by
            obtain ⟨s', d'⟩ := p
            unfold thingR at ho
            split at ho
            · rename_i e
              cases e
              rfl
            · cases ho
          obtain ⟨k1, k2⟩ := thing_in (hpf hpt) ho
          have lws : us.length ≤ 5000000 := by
            have h1 := tcnt_len fs
            have h2 := au.1
            omega
          have lws2 : ws2.length ≤ 5000000 := by
            have h1 := tcnt_len f
            have h2 : ws2.length = f.length := aw2.1
            omega
          refine iteF ?_
          refine ⟨_, rfl, .inl ⟨rfl, _, SqL.of hF3⟩, _, rfl, F, pp, us, ws2, rfl, rfl, hF3, hpp, by rw [sizeLine_eq]; omega, ?_⟩
          refine ⟨_, _, _, us ++ ws2, fs ++ f, rfl, (kp.trans (.of s3)).trans Keeps.at, upd_same, ?_, ?_, ?_, ?_⟩
          · rw [rest_upd (by simp)]
            refine (au.mono fun _ _ pr => pr.mono (rest_mono s3)).app (aw2.mono fun x y pr => ?_)
            obtain ⟨b, u2, e1, e2, e3⟩ := pr
            refine ⟨b, u2, e1, ?_, e3⟩
            rw [rest_out]
            · exact e2
            · intro hb2
              rw [List.mem_singleton.mp hb2, hF3] at e2
              cases e2
          · rw [tcnt_app]
            omega
          · rw [har, ed, allR_some ho, Option.map_map]
            congr 1
            funext g
            show fs ++ (f ++ g) = fs ++ f ++ g
            rw [List.append_assoc]
          · intro p2 hp2
            rcases List.mem_append.mp hp2 with h | h
            · exact hfs p2 h
            · exact (k2 p2 h).fit
      · rintro σ' H2 ⟨b4, b5, b6, us, fs, rfl, kp, hF, au, htc2, har, hfs⟩
        have el : rs.drop ws.length = [] := by rw [aw.1]; exact List.drop_length
        rw [el] at har
        have har' : allR rs = some fs := by
          rw [har]
          show some (fs ++ []) = some fs
          rw [List.append_nil]
        have e : treeR m fs = isTree d := by
          rw [← htr]
          show _ = (match allR rs with | none => false | some inner => treeR m inner)
          rw [har']
        have el2 : restR m fs = restR 100 [(.B, d)] := by
          rw [← hlim]
          show _ = (match allR rs with | none => [] | some f => restR m f)
          rw [har']
        refine ⟨_, rfl, F, _, _, _, _, _, us, fs, rfl, keeps_same kp s1 nF0, hF, au.mono fun _ _ pr => ?_, by rw [hm2]; exact e, by omega, ⟨by rw [hm2]; exact el2, fun p hp _ => hfs p hp⟩, fun _ => ⟨au.mono fun _ _ pr => pr.mono rest_same, fun p hp => hfs p hp⟩⟩
        obtain ⟨a, u, e1, e2, e3⟩ := pr
        exact ⟨a, u, e1, rest_same _ _ e2, .inl e3⟩
    · rintro σ' H1 ⟨R, a2, a3, a4, a5, a6, ws, rs, rfl, s1, hR, aw, htr, htc, ⟨hlim, hall⟩, hlast⟩
      obtain ⟨ap, hfit⟩ := hlast (by decide)
      have hdeep : ∀ p ∈ rs, p.2.depth ≤ 50 := fun p hp => by
        have h1 : (restR 100 [(.B, d)]).all (fun p => decide (p.2.depth ≤ 50)) = true := hdp
        rw [← hlim] at h1
        exact of_decide_eq_true (List.all_eq_true.mp h1 p hp)
      refine ⟨_, rfl, (by show 0 ≤ sizeLine; decide), fun p np => ?_⟩
      have s2 := same_new (o := .lst []) np
      obtain ⟨l1, l2⟩ := pairs_lay (n := 50) (rs := rs) fun p hp => ⟨hfit p hp, hdeep p hp⟩
      have sh : SeqAt.shaped (.list (rs.map pairD)) = true := by
        show (PyData.canLayAll0 (rs.map pairD) && decide (PyData.depthAll (rs.map pairD) + 1 ≤ 64)) = true
        rw [l1, decide_eq_true (by omega)]
        rfl
      refine ⟨.list (rs.map pairD), .list [], .lst (SqL.of (s2 _ _ hR)) (pairs_dp (s1.trans s2) (ap.mono fun _ _ pr => pr.mono s2)), .lst (SqL.of upd_same) .nil, sh, rfl, ?_⟩
      have e : PyData.eqv (.list (rs.map pairD)) (.list []) = isTree d := by
        rw [← htr]
        cases rs <;> rfl
      rw [e]
      exact q _ (s1.trans s2)

theorem gTxt_app (a b : List Nat) : gTxt (a ++ b) = (gTxt a && gTxt b) := List.all_append
structure Sz (c dp : Nat) (d : PyData) : Prop where
  ft : fit d = true
  ct : cnt d ≤ c
  deep : d.depth ≤ dp
theorem Sz.le {c c' dp dp' : Nat} {d : PyData} (h : Sz c dp d) (h1 : c ≤ c') (h2 : dp ≤ dp') : Sz c' dp' d := ⟨h.ft, Nat.le_trans h.ct h1, Nat.le_trans h.deep h2⟩
theorem low_ok {l : List Nat} (h : gTxt l = true) : PyData.strOk (S l) = true := Sm.ok fun c hc => by
  have h1 := List.all_eq_true.mp h c hc
  have h2 := allow_low c (by simpa using h1)
  omega
theorem sz_str {l : List Nat} (h : gTxt l = true) (hl : l.length ≤ 10000) : Sz 1 0 (.str (S l)) := by
  refine ⟨?_, Nat.le_refl _, Nat.le_refl _⟩
  show (decide ((S l).length ≤ 10000) && PyData.strOk (S l)) = true
  rw [low_ok h, S_len, decide_eq_true hl]
  rfl
theorem sz_name {z : Str} (h : (decide (z.length ≤ 10000) && PyData.strOk z) = true) : Sz 1 0 (.str z) := ⟨h, Nat.le_refl _, Nat.le_refl _⟩
/-- the parts of a tuple -/
structure SzL (c dp n : Nat) (ds : List PyData) : Prop where
  ft : fitAll ds = true
  ct : cntAll ds ≤ c
  deep : PyData.depthAll ds ≤ dp
  len : ds.length ≤ n
theorem SzL.nil : SzL 0 0 0 [] := ⟨rfl, Nat.le_refl _, Nat.le_refl _, Nat.le_refl _⟩
theorem SzL.cons {c1 c2 d1 d2 dp n : Nat} {d : PyData} {ds : List PyData} (h : Sz c1 d1 d) (g : SzL c2 d2 n ds) (h1 : d1 ≤ dp) (h2 : d2 ≤ dp) : SzL (c1 + c2) dp (n + 1) (d :: ds) := by
  refine ⟨?_, ?_, ?_, ?_⟩
  · show (fit d && fitAll ds) = true
    rw [h.ft, g.ft]
    rfl
  · show cnt d + cntAll ds ≤ _
    have := h.ct
    have := g.ct
    omega
  · show max d.depth (PyData.depthAll ds) ≤ dp
    have := h.deep
    have := g.deep
    omega
  · rw [List.length_cons]
    have := g.len
    omega
theorem SzL.tup {c dp n : Nat} {ds : List PyData} (h : SzL c dp n ds) (hn : n ≤ 10000) : Sz (1 + c) (dp + 1) (.tuple ds) := by
  refine ⟨?_, ?_, ?_⟩
  · show (decide (ds.length ≤ 10000) && fitAll ds) = true
    rw [h.ft, decide_eq_true (Nat.le_trans h.len hn)]
    rfl
  · show 1 + cntAll ds ≤ _
    have := h.ct
    omega
  · show PyData.depthAll ds + 1 ≤ _
    have := h.deep
    omega
theorem SzL.many {c dp : Nat} : ∀ {ds : List PyData}, (∀ d ∈ ds, Sz c dp d) → SzL (ds.length * c) dp ds.length ds
  | [], _ => ⟨rfl, Nat.zero_le _, Nat.zero_le _, Nat.le_refl _⟩
  | d :: ds, h => by
    have := SzL.cons (h d (List.mem_cons_self ..)) (SzL.many (ds := ds) fun x hx => h x (List.mem_cons_of_mem _ hx)) (Nat.le_refl dp) (Nat.le_refl dp)
    refine ⟨this.ft, ?_, this.deep, this.len⟩
    have := this.ct
    rw [List.length_cons, Nat.succ_mul]
    omega

/-! ### folded -/
def sp_folded (K : PySem.W.Frag) (S : Addr → Sp → Prop) : Sp := fun vs H Q _ => ∃ (F : Fold) (v : V) (f g : Addr) (spf spg : Sp) (row : List F.X) (G : Hp), vs = [v, .ref f, .ref g] ∧ S f spf ∧ S g spg ∧ InOk K F spf ∧ MadeOk K F spg ∧
  Same G H ∧ RowIs K F G v row ∧ F.Ok row ∧ F.N row ≤ 100000 ∧ ∀ r H' G', Same H H' → Same G G' → Same G' H' → NewIn G G' H → F.RR G' r row → Q r H'
theorem small62 {n : Nat} (h : n ≤ 100000) : ((n : Nat) : Int) < 2 ^ 62 ∧ -(2 ^ 62) ≤ ((n : Nat) : Int) := by
  constructor <;> omega
theorem ok_folded {P : Program} {w : World} {K : PySem.W.Frag} {mg : Str → Option Value} {base : Heap} (T : Txt w K mg) (S : Addr → Sp → Prop) (n : Nat) (A1 : ∀ f sp, S f sp → Held P w K mg base n f sp) :
    FnOk P w K mg base CX0 (n + 1) T.a_folded T.d_folded ["row", "rows_in", "made"] (sp_folded K S) := by
  have A2 := A1
  refine T.f_folded.ok sc_folded (fun vs H Q E h => ?_) (fun cdv A outer s H vs Q E hr h => ?_)
  · obtain ⟨F, v, f, g, spf, spg, row, G, rfl, _⟩ := h
    rfl
  · obtain ⟨F, v, f, g, spf, spg, row0, G, rfl, hSf, hSg, hIn, hMade, hG, hrow, hok, hN, q⟩ := h
    refine ⟨_, (pss_cons (ps_set (i := 3) sc_folded.nd rfl (.inl rfl) (pe_lst (pa_cons (pv 0) pa_nil)))
        (pss_cons (ps_set (i := 4) sc_folded.nd rfl (.inl rfl) (pe_lst pa_nil))
        (pss_cons (ps_while PassesOwn.never (pt_cmpR op_lt (pe_callB call_len_seq (by rfl) T.z_len PySem.boot_len (pa_cons (pv 4) pa_nil)) (pe_callB call_len_seq (by rfl) T.z_len PySem.boot_len (pa_cons (pv 3) pa_nil)) (nomark _)) (pss_cons (ps_set (i := 5) sc_folded.nd rfl (.inl rfl) (pe_lst pa_nil))
        (pss_cons (ps_set (i := 6) sc_folded.nd rfl (.inl rfl) (pe_ix ix_list (pv 3) (pe_callB call_len_seq (by rfl) T.z_len PySem.boot_len (pa_cons (pv 4) pa_nil)) (fun _ _ => rfl)))
        (pss_cons (ps_for PassesOwn.never rfl (pi_tup (pv 6)) (pg_name (i := 7) sc_folded.nd rfl (.inl rfl)) (pss_cons (ps_set (i := 8) sc_folded.nd rfl (.inl rfl) (pe_callB call_len_seq (by rfl) T.z_len PySem.boot_len (pa_cons (pv 3) pa_nil)))
        (pss_cons (ps_expr (pe_bm PySem.F.plainAttrs_list PySem.F.slot_list_extend PySem.F.type_list_extend mt_extend (pv 3) (pa_cons (pe_callR A1 (hr.mono (by omega)) (i := 1) rfl (.inl rfl) (pa_cons (pv 7) pa_nil)) pa_nil)))
        (pss_one (ps_expr (pe_bm PySem.F.plainAttrs_list PySem.F.slot_list_append PySem.F.type_list_append mt_append (pv 5) (pa_cons (pe_tup (pa_cons (pv 8) (pa_cons (pe_callB call_len_seq (by rfl) T.z_len PySem.boot_len (pa_cons (pv 3) pa_nil)) pa_nil))) pa_nil)))))))
        (pss_one (ps_expr (pe_bm PySem.F.plainAttrs_list PySem.F.slot_list_append PySem.F.type_list_append mt_append (pv 4) (pa_cons (pv 5) pa_nil))))))))
        (pss_cons (ps_set (i := 9) sc_folded.nd rfl (.inr rfl) (pe_op op_rep (pe_lst (pa_cons pe_non pa_nil)) (pe_callB call_len_seq (by rfl) T.z_len PySem.boot_len (pa_cons (pv 3) pa_nil))))
        (pss_cons (ps_for PassesOwn.never rfl (pi_revR (by rfl) T.z_reversed (prg_1 (by rfl) T.z_range (pe_callB call_len_seq (by rfl) T.z_len PySem.boot_len (pa_cons (pv 3) pa_nil)))) (pg_name (i := 10) sc_folded.nd rfl (.inl rfl)) (pss_cons (ps_setLc (i := 11) (own := [("begin", 8), ("end", 12)]) (g := (gTup K 2 (gCons (gName 8) (gCons (gName 12) gNil)))) (tt := tYes) (by rfl) sc_folded.nd rfl rfl (sw_true rfl rfl rfl (by decide +kernel)) (pi_list (pe_ix ix_list (pv 4) (pv 10) (fun _ _ => rfl))) (blkOk_by (own := [("begin", 8), ("end", 12)]) (N := ["row", "rows_in", "made", "rows", "places", "numbers", "current", "one", "begin", "results", "number", "inner", "end"]) (sc := defScope s_folded) (by decide +kernel)) (fun _ _ _ _ _ => (pg_tup (by rfl) (pgs_cons (pg_name (i := 8) sc_folded.nd rfl (.inl rfl)) (pgs_cons (pg_name (i := 12) sc_folded.nd rfl (.inl rfl)) pgs_nil)))) (fun _ _ _ _ _ => pts_nil) (fun _ _ _ _ _ => (pe_slice (show SlR _ (rSlL K) from sl_list) (pv 9) (po_some (pv 8)) (po_some (pv 12)))))
        (pss_one (ps_asg (pe_callR A2 (hr.mono (by omega)) (i := 2) rfl (.inl rfl) (pa_cons (pe_ix ix_list (pv 3) (pv 10) (fun _ _ => rfl)) (pa_cons (pv 11) pa_nil))) (pg_sub (pv 9) (pv 10) set_list)))))
        (pss_one (ps_ret (pe_ix ix_list (pv 9) pe_int (fun _ _ => rfl))))))))), ?_⟩
    refine ⟨_, rfl, (by show 1 ≤ sizeLine; decide), fun R nR => ⟨(by show 0 ≤ sizeLine; decide), fun Pl nP => ?_⟩⟩
    have hRP : R ≠ Pl := ne_of_none upd_same nP
    have nP0 : H Pl = none := by
      rw [upd_ne hRP.symm] at nP
      exact nP
    have gR : G R = none := hG.free nR
    have gP : G Pl = none := hG.free nP0
    have hlen0 : ∀ rs : List (List F.X), ∀ k, k + tot F.N (rs.drop k) ≤ F.N row0 → k ≤ rs.length → rs.length ≤ 100000 := fun rs k e hk => by
      have := tot_len (F := F) (rs.drop k)
      rw [List.length_drop] at this
      omega
    refine ⟨fun m σ H' => ∃ rws rs pvs ps a5 a6 a7 a8, σ = [some v, some (.ref f), some (.ref g), some (.ref R), some (.ref Pl), a5, a6, a7, a8, none, none, none, none] ∧ Same H H' ∧ H' R = some (.lst rws) ∧ H' Pl = some (.lst pvs) ∧
      All2 (RowIs K F G) rws rs ∧ All2 (NumIs (Rest H' [R, Pl])) pvs ps ∧ Gone F rs ps ∧ (∀ r ∈ rs, F.Ok r ∧ r.length ≤ 100000) ∧ rs[0]? = some row0 ∧ ps.length + tot F.N (rs.drop ps.length) ≤ F.N row0 ∧ m = tot F.N (rs.drop ps.length), ⟨F.N row0, ?_⟩, ?_⟩
    · refine ⟨[v], [row0], [], [], none, none, none, none, rfl, (same_new nR).trans (same_new nP), by rw [upd_ne hRP]; exact upd_same, upd_same, .one hrow, .nil, ⟨Nat.zero_le _, fun j r pj _ h => by simp at h⟩, fun r hr => ?_, rfl, ?_, ?_⟩
      · rw [List.mem_singleton] at hr
        rw [hr]
        exact ⟨hok, by have := F.hN row0; omega⟩
      · show 0 + (F.N row0 + 0) ≤ F.N row0
        omega
      · show F.N row0 = F.N row0 + 0
        omega
    · rintro m σ H1 ⟨rws, rs, pvs, ps, a5, a6, a7, a8, rfl, s1, hR, hP, aR, aP, gone, oks, h0, hM, rfl⟩
      have hlen := hlen0 rs _ hM gone.le
      have l1 := aR.1
      have l2 := aP.1
      refine ⟨_, rfl, Pl, pvs, rfl, .inl (SqL.of hP), _, rfl, R, rws, rfl, .inl (SqL.of hR), _, _, rfl, rfl, _, rfl, ite2 (fun c => ?_) (fun c => ?_)⟩
      · -- one more row
        have hlt : ps.length < rs.length := by
          have := of_decide_eq_true c
          omega
        obtain ⟨row, hrow1⟩ : ∃ row, rs[ps.length]? = some row := ⟨_, List.getElem?_eq_getElem hlt⟩
        obtain ⟨wv, hwv, rowIs⟩ := aR.get hrow1
        have okr : F.Ok row := (oks row (List.mem_of_getElem? hrow1)).1
        obtain ⟨a, us, rfl, sqa, dps⟩ := rowIs
        have left := Gone.left hrow1
        let rs0 := rs
        refine ⟨fun σ' H' => ∃ rws rs pvs ps' a5 a6 a7 a8, σ' = [some v, some (.ref f), some (.ref g), some (.ref R), some (.ref Pl), a5, a6, a7, a8, none, none, none, none] ∧ Same H H' ∧ H' R = some (.lst rws) ∧ H' Pl = some (.lst pvs) ∧
          All2 (RowIs K F G) rws rs ∧ All2 (NumIs (Rest H' [R, Pl])) pvs ps' ∧ Gone F rs ps' ∧ (∀ r ∈ rs, F.Ok r ∧ r.length ≤ 100000) ∧ rs[0]? = some row0 ∧ ps'.length + tot F.N (rs.drop ps'.length) ≤ F.N row0 ∧ tot F.N (rs.drop ps'.length) < tot F.N (rs0.drop ps.length), ?_, ?_⟩
        · rintro σ' H' ⟨rws, rs', pvs, ps', a5, a6, a7, a8, e1, e2, e3, e4, e5, e6, e7, e8, e9, e10, e11⟩
          exact ⟨_, e11, rws, rs', pvs, ps', a5, a6, a7, a8, e1, e2, e3, e4, e5, e6, e7, e8, e9, e10, rfl⟩
        · refine ⟨(by show 0 ≤ sizeLine; decide), fun n nn => ?_⟩
          have hnR : n ≠ R := (ne_of_none hR nn).symm
          have hnP : n ≠ Pl := (ne_of_none hP nn).symm
          have gn : G n = none := (hG.trans s1).free nn
          refine ⟨_, rfl, _, rfl, Pl, pvs, rfl, .inl (SqL.of (by rw [upd_ne hnP.symm]; exact hP)), R, rws, _, _, rfl, rfl, SqL.of (by rw [upd_ne hnR.symm]; exact hR), atI_nat (by rw [l2]; exact hwv), ?_⟩
          refine ⟨_, rfl, a, rfl, ⟨us, same_tup (hG.trans (s1.trans (same_new nn))) sqa⟩, ?_⟩
          refine for_tup (xs := us) (fun i σ' H' => ∃ rws' ts nums b7 b8, σ' = [some v, some (.ref f), some (.ref g), some (.ref R), some (.ref Pl), some (.ref n), some (.ref a), b7, b8, none, none, none, none] ∧ Keeps R H1 H' ∧ H' R = some (.lst rws') ∧ H' n = some (.lst ts) ∧
            All2 (RowIs K F G) rws' (rs ++ (row.take i).flatMap F.sub) ∧ All2 (PairAt (Rest H' [R, Pl, n])) ts nums ∧ All2 (PlaceOk F (rs ++ (row.take i).flatMap F.sub) ps.length) (row.take i) nums) ?_ ?_ ?_ ?_
          · refine ⟨rws, [], [], a7, a8, rfl, .of (same_new nn), by rw [upd_ne hnR.symm]; exact hR, upd_same, ?_, .nil, .nil⟩
            rw [List.take_zero, List.flatMap_nil, List.append_nil]
            exact aR
          · rintro i σ' H2 _ ⟨rws', ts, nums, b7, b8, rfl, kp, _⟩
            exact same_tup (keeps_same kp (hG.trans s1) gR) sqa
          · rintro i x σ' H2 hx ⟨rws', ts, nums, b7, b8, rfl, kp, hR2, hn2, aR2, aN2, aP2⟩
            have hi : i < row.length := by rw [← dps.1]; exact (List.getElem?_eq_some_iff.mp hx).1
            obtain ⟨y, hy⟩ : ∃ y, row[i]? = some y := ⟨_, List.getElem?_eq_getElem hi⟩
            have dx : Dp K G x (F.toD y) := dps.2 i x y hx hy
            have sG2 : Same G H2 := keeps_same kp (hG.trans s1) gR
            have lR2 := aR2.1
            have small : (rs ++ (row.take (i + 1)).flatMap F.sub).length ≤ 100000 := by
              have h1 := tot_len (F := F) ((rs ++ row.flatMap F.sub).drop (ps.length + 1))
              have h2 : ((row.take (i + 1)).flatMap F.sub).length ≤ (row.flatMap F.sub).length := by
                conv => rhs; rw [← List.take_append_drop (i + 1) row, List.flatMap_append]
                simp
              rw [List.length_drop] at h1
              rw [List.length_append] at h1 ⊢
              omega
            have et : (row.take (i + 1)).flatMap F.sub = (row.take i).flatMap F.sub ++ F.sub y := by
              rw [List.take_add_one, hy, List.flatMap_append]
              simp
            rw [et, ← List.append_assoc] at small
            refine ⟨_, rfl, R, rws', rfl, .inl (SqL.of hR2), ?_⟩
            refine ⟨_, rfl, .inl ⟨rfl, _, SqL.of hR2⟩, f, spf, rfl, hSf, _, rfl, hIn G H2 x y _ sG2 dx fun p H3 zs s3 np hp az => ?_⟩
            have lz := az.1
            have ll : (rws' ++ zs).length ≤ 100000 := by
              rw [List.length_append, lR2, lz, ← List.length_append]
              exact small
            refine ⟨R, p, rws', zs, rfl, rfl, s3 _ _ hR2, hp, Nat.le_trans (by rw [← List.length_append]; exact ll) (by decide), ?_⟩
            have hnR2 : n ≠ R := hnR
            have hn3 : (upd H3 R (.lst (rws' ++ zs))) n = some (.lst ts) := by
              rw [upd_ne hnR]
              exact s3 _ _ hn2
            refine ⟨_, rfl, .inl ⟨rfl, _, SqL.of hn3⟩, _, rfl, _, rfl, R, _, rfl, .inl (SqL.of upd_same), (by show 2 ≤ sizeLine; decide), fun t nt => ?_⟩
            have tR : t ≠ R := (ne_of_none upd_same nt).symm
            have tn : t ≠ n := (ne_of_none hn3 nt).symm
            have kp3 : Keeps R H1 (upd (upd H3 R (.lst (rws' ++ zs))) t (.tup [.int (rws'.length : Nat), .int ((rws' ++ zs).length : Nat)])) := (kp.trans (.of s3)).trans (Keeps.at.trans (.of (same_new nt)))
            have hR4 : (upd (upd H3 R (.lst (rws' ++ zs))) t (.tup [.int (rws'.length : Nat), .int ((rws' ++ zs).length : Nat)])) R = some (.lst (rws' ++ zs)) := by
              rw [upd_ne tR.symm]
              exact upd_same
            have ht4 : (upd (upd H3 R (.lst (rws' ++ zs))) t (.tup [.int (rws'.length : Nat), .int ((rws' ++ zs).length : Nat)])) t = some (.tup [.int (rws'.length : Nat), .int ((rws' ++ zs).length : Nat)]) := upd_same
            have hn4 : (upd (upd H3 R (.lst (rws' ++ zs))) t (.tup [.int (rws'.length : Nat), .int ((rws' ++ zs).length : Nat)])) n = some (.lst ts) := by
              rw [upd_ne tn.symm]
              exact hn3
            have s4 : Same (upd H3 R (.lst (rws' ++ zs))) (upd (upd H3 R (.lst (rws' ++ zs))) t (.tup [.int (rws'.length : Nat), .int ((rws' ++ zs).length : Nat)])) := same_new nt
            have kp2 : Keeps R H1 (upd H3 R (.lst (rws' ++ zs))) := (kp.trans (.of s3)).trans Keeps.at
            have tP : t ≠ Pl := (ne_of_none (kp2 _ _ hRP.symm hP) nt).symm
            generalize (upd (upd H3 R (.lst (rws' ++ zs))) t (.tup [.int (rws'.length : Nat), .int ((rws' ++ zs).length : Nat)])) = H4 at kp3 hR4 ht4 hn4 s4 ⊢
            have tsl : ts.length ≤ 100000 := by
              rw [aN2.1, ← aP2.1, List.length_take]
              omega
            refine ⟨n, ts, _, rfl, rfl, hn4, Nat.lt_of_le_of_lt tsl (by decide), ?_⟩
            refine ⟨rws' ++ zs, ts ++ [.ref t], nums ++ [(rws'.length, (rws' ++ zs).length)], _, _, rfl, ?_, ?_, upd_same, ?_, ?_, ?_⟩
            · exact fun b o hb e => by
                rw [upd_ne (ne_of_none e nn)]
                exact kp3 b o hb e
            · rw [upd_ne hnR.symm]
              exact hR4
            · rw [et, ← List.append_assoc]
              exact aR2.app az
            · rw [rest_upd (by simp)]
              refine (aN2.mono fun _ _ p => p.same ?_).app (.one ⟨t, rfl, ?_⟩)
              · refine same_rest (fun b o e => ?_) fun _ h => rest_in h
                have hb : b ∉ [R, Pl, n] := fun z => by rw [rest_in z] at e; cases e
                rw [rest_out hb] at e
                have hbR : b ≠ R := fun z => hb (by rw [z]; simp)
                have e3 : (upd H3 R (.lst (rws' ++ zs))) b = some o := by
                  rw [upd_ne hbR]
                  exact s3 _ _ e
                exact s4 _ _ e3
              · rw [rest_out (by simp [tR, tP, tn])]
                exact ht4
            · rw [et, ← List.append_assoc, List.take_add_one, hy]
              refine (aP2.mono fun _ _ p => p.app).app (.one ?_)
              have hp : PlaceOk F ((rs ++ (row.take i).flatMap F.sub) ++ F.sub y) ps.length y ((rs ++ (row.take i).flatMap F.sub).length, (rs ++ (row.take i).flatMap F.sub).length + (F.sub y).length) := .new (by rw [List.length_append]; omega)
              rw [List.length_append, lz, lR2]
              exact hp
          · rintro σ' H2 ⟨rws', ts, nums, b7, b8, rfl, kp, hR2, hn2, aR2, aN2, aP2⟩
            have ful : row.take us.length = row := by rw [dps.1]; exact List.take_length
            rw [ful] at aR2 aP2
            have hP2 : H2 Pl = some (.lst pvs) := kp _ _ hRP.symm hP
            have pl : pvs.length ≤ 100000 := by omega
            refine ⟨_, rfl, .inl ⟨rfl, _, SqL.of hP2⟩, _, rfl, Pl, pvs, _, rfl, rfl, hP2, Nat.lt_of_le_of_lt pl (by decide), ?_⟩
            refine ⟨rws', rs ++ row.flatMap F.sub, pvs ++ [.ref n], ps ++ [nums], some (.ref n), some (.ref a), b7, b8, rfl, ?_, ?_, upd_same, aR2, ?_, gone.step hrow1 aP2, fun r hr => ?_, ?_, ?_, ?_⟩
            · exact fun b o e => by
                rw [upd_ne (ne_of_none e nP0)]
                exact keeps_same kp s1 nR _ _ e
            · rw [upd_ne hRP]
              exact hR2
            · rw [rest_upd (by simp)]
              refine (aP.mono fun _ _ p => p.same (keeps_rest kp (by simp))).app (.one ⟨n, ts, rfl, ?_, ?_⟩)
              · rw [rest_out (by simp [hnR, hnP])]
                exact hn2
              · exact aN2.mono fun _ _ p => p.same (rest_less (by simp))
            · rcases List.mem_append.mp hr with hr | hr
              · exact oks r hr
              · obtain ⟨x, hx, hr⟩ := List.mem_flatMap.mp hr
                refine ⟨F.inh row x r okr hx hr, ?_⟩
                have h1 := tot_mem (F := F) (List.mem_flatMap.mpr ⟨x, hx, hr⟩)
                have h2 := F.hN r
                have h3 := F.hN row
                have h4 := tot_mem (F := F) (rs := rs.drop ps.length) (r := row) (List.mem_of_getElem? (i := 0) (by rw [List.getElem?_drop]; exact hrow1))
                omega
            · rw [List.getElem?_append_left (by omega)]
              exact h0
            · rw [List.length_append]
              show ps.length + 1 + tot F.N ((rs ++ row.flatMap F.sub).drop (ps.length + 1)) ≤ F.N row0
              omega
            · rw [List.length_append]
              show tot F.N ((rs ++ row.flatMap F.sub).drop (ps.length + 1)) < tot F.N (rs.drop ps.length)
              omega
      · -- all rows are gone through
        have full : ps.length = rs.length := by
          have := gone.le
          have : ¬ (pvs.length < rws.length) := fun z => c (decide_eq_true (by omega))
          omega
        obtain ⟨hn1, hn2⟩ := small62 hlen
        refine ⟨(by show 1 ≤ sizeLine; decide), fun q0 nq0 => ⟨_, rfl, R, rws, rfl, .inl (SqL.of ((same_new nq0) _ _ hR)), q0, _, [.non], rfl, rfl, upd_same, by omega, by omega, ?_, fun Z nZ => ?_⟩⟩
        · rw [List.length_singleton, Nat.one_mul, sizeLine_eq]
          omega
        rw [flat_one, Int.toNat_natCast]
        have s2 : Same H1 (upd (upd H1 q0 (.lst [.non])) Z (.lst (List.replicate rws.length .non))) := (same_new nq0).trans (same_new nZ)
        have hZ0 : (upd (upd H1 q0 (.lst [.non])) Z (.lst (List.replicate rws.length V.non))) Z = some (.lst (List.replicate rws.length .non)) := upd_same
        have nZ1 : H1 Z = none := (same_new nq0).free nZ
        generalize (upd (upd H1 q0 (.lst [.non])) Z (.lst (List.replicate rws.length V.non))) = H2 at s2 hZ0 ⊢
        have hZR : Z ≠ R := (ne_of_none hR nZ1).symm
        have hZP : Z ≠ Pl := (ne_of_none hP nZ1).symm
        refine ⟨_, rfl, R, rws, rfl, .inl (SqL.of (s2 _ _ hR)), _, rfl, by omega, by omega, by omega, by omega, ?_⟩
        refine for_it walk_rangeC (fun i σ' H' => ∃ zs b10 b11, σ' = [some v, some (.ref f), some (.ref g), some (.ref R), some (.ref Pl), a5, a6, a7, a8, some (.ref Z), b10, b11, none] ∧ Keeps Z H2 H' ∧ H' Z = some (.lst zs) ∧ zs.length = rs.length ∧
          ∃ Gk, Same G Gk ∧ Same Gk H' ∧ Gk Z = none ∧ NewIn G Gk H ∧ ∀ j z r, rs.length - i ≤ j → zs[j]? = some z → rs[j]? = some r → F.RR Gk z r) ?_ (fun _ _ _ _ _ => trivial) ?_ ?_
        · refine ⟨_, none, none, rfl, .of (Same.refl _), hZ0, by rw [List.length_replicate, l1], G, Same.refl _, hG.trans (s1.trans s2), (hG.trans s1).free nZ1, fun b hb => .inl hb, fun j z r hj h1 h2 => ?_⟩
          have := (List.getElem?_eq_some_iff.mp h2).1
          omega
        · rintro i x σ' H9 H3 hi ⟨zs, b10, b11, rfl, kp, hZ, lz, Gk, g1, g2, g3, g4, rr⟩ ⟨rfl, ex⟩
          have hi' : i < rws.length := by
            have : ((rws.length : Int) - 0).toNat = rws.length := by omega
            omega
          obtain ⟨k, hk, ek⟩ : ∃ k : Nat, k = rws.length - 1 - i ∧ (0 + ((((rws.length : Int) - 0).toNat : Nat) : Int) - 1 + (i : Nat) * (-1) : Int) = (k : Int) := ⟨_, rfl, by omega⟩
          obtain rfl : x = .int (k : Int) := ex.trans (congrArg V.int ek)
          have hkl : k < rs.length := by omega
          obtain ⟨row, hrow1⟩ : ∃ row, rs[k]? = some row := ⟨_, List.getElem?_eq_getElem hkl⟩
          obtain ⟨pk, hpk⟩ : ∃ pk, ps[k]? = some pk := ⟨_, List.getElem?_eq_getElem (by omega)⟩
          obtain ⟨wv, hwv, rowIs⟩ := aR.get hrow1
          obtain ⟨nv, hnv, n, ts, rfl, hnts, prs⟩ := aP.get hpk
          have plc := gone.at_ k row pk hrow1 hpk
          have kR : ∀ {b o}, b ≠ Z → H1 b = some o → H3 b = some o := fun hb e => kp _ _ hb (s2 _ _ e)
          have hR3 : H3 R = some (.lst rws) := kR hZR.symm hR
          have hP3 : H3 Pl = some (.lst pvs) := kR hZP.symm hP
          have s3 : Same (Rest H1 [R, Pl]) H3 := fun b o e => by
            refine kR (fun z => ?_) (rest_same _ _ e)
            rw [z] at e
            rw [rest_same _ _ e] at nZ1
            cases nZ1
          have hn3 : H3 n = some (.lst ts) := s3 _ _ hnts
          refine ⟨_, rfl, _, rfl, Pl, pvs, _, _, rfl, rfl, SqL.of hP3, atI_nat hnv, n, rfl, ⟨ts, SqL.of hn3⟩, fun L nL => ?_⟩
          have hLZ : L ≠ Z := (ne_of_none hZ nL).symm
          refine lc_list (xs := ts) (fun t H4 => ∃ ws, Keeps L H3 H4 ∧ H4 L = some (.lst ws) ∧ All2 (InnerIs F Gk (Rest H4 [L])) ws (row.take t)) ⟨[], .of (same_new nL), upd_same, .nil⟩ ?_ ?_ ?_
          · rintro t H4 _ ⟨ws, k4, _⟩
            exact SqL.of (k4 n _ (ne_of_none hn3 nL) hn3)
          · rintro t x H4 hx ⟨ws, k4, hL4, aw⟩
            obtain ⟨be, hbe, q1, rfl, hq1⟩ : ∃ be, pk[t]? = some be ∧ PairAt (Rest H1 [R, Pl]) x be := by
              have ht : t < pk.length := by rw [← prs.1]; exact (List.getElem?_eq_some_iff.mp hx).1
              exact ⟨_, List.getElem?_eq_getElem ht, prs.2 t x _ hx (List.getElem?_eq_getElem ht)⟩
            obtain ⟨y, hy, p1, p2, p3, p4⟩ := plc.get hbe
            have hq4 : H4 q1 = some (.tup [.int (be.1 : Nat), .int (be.2 : Nat)]) := k4 _ _ (ne_of_none (s3 _ _ hq1) nL) (s3 _ _ hq1)
            have hZ4 : H4 Z = some (.lst zs) := k4 _ _ hLZ.symm hZ
            refine ⟨q1, _, rfl, SqT.of hq4, rfl, _, _, rfl, _, _, rfl, rfl, rfl, ?_⟩
            refine ⟨_, rfl, _, rfl, _, rfl, _, rfl, _, rfl, Z, zs, rfl, SqL.of hZ4, fun l nl => ?_⟩
            have hs := oks row (List.mem_of_getElem? hrow1)
            have hwl : ws.length ≤ 100000 := by
              rw [aw.1, List.length_take]
              have := hs.2
              omega
            have lL : l ≠ L := (ne_of_none hL4 nl).symm
            have ey : row.take (t + 1) = row.take t ++ [y] := by rw [List.take_add_one, hy]; rfl
            have allR : All2 (F.RR Gk) (zs.drop (k + 1)) (rs.drop (k + 1)) := by
              refine ⟨by simp [lz], fun j z r h1 h2 => ?_⟩
              rw [List.getElem?_drop] at h1 h2
              exact rr _ z r (by omega) h1 h2
            refine ⟨ws, by rw [upd_ne lL.symm]; exact hL4, Nat.lt_of_le_of_lt hwl (by decide), ws ++ [.ref l], ?_, upd_same, ?_⟩
            · exact (k4.trans (.of (same_new nl))).trans Keeps.at
            · rw [ey, rest_upd (by simp)]
              refine (aw.mono fun _ _ p => ?_).app (.one ⟨l, cutV zs (some (be.1 : Int)) (some (be.2 : Int)), rfl, ?_, ?_⟩)
              · obtain ⟨l', vs, e1, e2, e3⟩ := p
                exact ⟨l', vs, e1, rest_mono (same_new nl) _ _ e2, e3⟩
              · rw [rest_out (by simpa using lL)]
                exact upd_same
              · rw [cutV_nat zs p2 (by omega), ← p4]
                have := (allR.drop (be.1 - (k + 1))).take (be.2 - be.1)
                rw [List.drop_drop, List.drop_drop, show k + 1 + (be.1 - (k + 1)) = be.1 by omega] at this
                exact this
          · rintro H4 ⟨ws, k4, hL4, aw⟩
            have s34 : Same H3 H4 := keeps_same k4 (Same.refl _) nL
            have ful : row.take ts.length = row := by rw [prs.1, ← plc.1]; exact List.take_length
            rw [ful] at aw
            have hZ4 := s34 _ _ hZ
            refine ⟨g, spg, rfl, hSg, _, rfl, _, rfl, R, rws, _, _, rfl, rfl, SqL.of (s34 _ _ hR3), atI_nat hwv, _, rfl, hMade Gk H4 wv L ws row _ (g2.trans s34) (rowIs.same g1) (oks row (List.mem_of_getElem? hrow1)).1 (oks row (List.mem_of_getElem? hrow1)).2 hL4 (aw.mono fun _ _ p => ?_) fun r H5 G5 t1 t2 t3 t4 t5 => ?_⟩
            · obtain ⟨l', vs, e1, e2, e3⟩ := p
              exact ⟨l', vs, e1, rest_same _ _ e2, e3⟩
            · have hZ5 := t1 _ _ hZ4
              have gZ5 : G5 Z = none := by
                cases e : G5 Z with
                | none => rfl
                | some o =>
                  rcases t4 Z (by rw [e]; exact fun z => nomatch z) with z | z
                  · exact absurd g3 z
                  · rw [z] at hZ4
                    cases hZ4
              refine ⟨_, rfl, _, rfl, Z, zs, _, k, rfl, rfl, hZ5, ixN_nat (by omega), zs.set k r, _, _, rfl, ?_, upd_same, by rw [List.length_set, lz], G5, g1.trans t2, ?_, gZ5, ?_, ?_⟩
              · exact (kp.trans (.of (s34.trans t1))).trans Keeps.at
              · exact fun b o e => by
                  rw [upd_ne fun z => by rw [z, gZ5] at e; cases e]
                  exact t3 _ _ e
              · intro b hb
                rcases t4 b hb with z | z
                · exact g4 b z
                · refine .inr ?_
                  have sH : Same H H4 := (keeps_same kp (s1.trans s2) (s1.free nZ1)).trans s34
                  exact sH.free z
              · intro j z r' hj h1 h2
                by_cases c2 : j = k
                · subst c2
                  rw [List.getElem?_set_self (by omega)] at h1
                  cases h1
                  rw [hrow1] at h2
                  cases h2
                  exact t5
                · rw [List.getElem?_set_ne (fun z => c2 z.symm)] at h1
                  exact F.mono _ _ _ _ t2 (rr j z r' (by omega) h1 h2)
        · rintro σ' H3 ⟨zs, b10, b11, rfl, kp, hZ, lz, Gk, g1, g2, g3, g4, rr⟩
          have hz0 : 0 < zs.length := by
            have := (List.getElem?_eq_some_iff.mp h0).1
            omega
          refine ⟨_, rfl, Z, zs, _, zs[0], rfl, rfl, SqL.of hZ, atI_nat (List.getElem?_eq_getElem hz0), q _ H3 Gk (keeps_same kp (s1.trans s2) (s1.free nZ1)) g1 g2 g4 (rr 0 _ _ ?_ (List.getElem?_eq_getElem hz0) h0)⟩
          omega

/-! ### words of inlines -/
theorem ifT {b : Bool} {A B : Prop} (h : b = true) (a : A) : if b = true then A else B := by
  rw [if_pos h]
  exact a
theorem ifF {b : Bool} {A B : Prop} (h : b = false) (a : B) : if b = true then A else B := by
  rw [if_neg (by rw [h]; exact Bool.false_ne_true)]
  exact a
theorem dpAll_c {K : PySem.W.Frag} {G : Hp} {vs : List V} {d : PyData} {ds : List PyData} (h : DpAll K G vs (d :: ds)) : ∃ v us, vs = v :: us ∧ Dp K G v d ∧ DpAll K G us ds := by
  cases h with
  | cons h r => exact ⟨_, _, rfl, h, r⟩
theorem dpAll_0 {K : PySem.W.Frag} {G : Hp} {vs : List V} (h : DpAll K G vs []) : vs = [] := by
  cases h
  rfl
theorem dp_tup {K : PySem.W.Frag} {G : Hp} {v : V} {ds : List PyData} (h : Dp K G v (.tuple ds)) : ∃ a us, v = .ref a ∧ SqT K G a us ∧ DpAll K G us ds := by
  cases h with
  | tup q r => exact ⟨_, _, rfl, q, r⟩
def tagOf : Inl → Str
  | .text _ => "text"
  | .code _ => "code"
  | .html _ => "html"
  | .soft => "soft"
  | .hard => "hard"
  | .emph _ => "emph"
  | .strong _ => "strong"
  | .link _ _ _ => "link"
  | .image _ _ _ => "image"
/-- an inline by its items -/
inductive InlAt (K : PySem.W.Frag) (G : Hp) (a : Addr) : Inl → Prop
  | text {t : List Nat} : SqT K G a [.str "text", .str (S t)] → InlAt K G a (.text t)
  | code {t : List Nat} : SqT K G a [.str "code", .str (S t)] → InlAt K G a (.code t)
  | html {t : List Nat} : SqT K G a [.str "html", .str (S t)] → InlAt K G a (.html t)
  | soft : SqT K G a [.str "soft"] → InlAt K G a .soft
  | hard : SqT K G a [.str "hard"] → InlAt K G a .hard
  | emph {u : V} {r : List Inl} : SqT K G a [.str "emph", u] → Dp K G u (.tuple (rowD r)) → InlAt K G a (.emph r)
  | strong {u : V} {r : List Inl} : SqT K G a [.str "strong", u] → Dp K G u (.tuple (rowD r)) → InlAt K G a (.strong r)
  | link {u t : V} {d : List Nat} {tt : Option (List Nat)} {r : List Inl} : SqT K G a [.str "link", .str (S d), t, u] → Dp K G t (optD tt) → Dp K G u (.tuple (rowD r)) → InlAt K G a (.link d tt r)
  | image {u t : V} {d : List Nat} {tt : Option (List Nat)} {r : List Inl} : SqT K G a [.str "image", .str (S d), t, u] → Dp K G t (optD tt) → Dp K G u (.tuple (rowD r)) → InlAt K G a (.image d tt r)
theorem inl_at {K : PySem.W.Frag} {G : Hp} {v : V} : ∀ {x : Inl}, Dp K G v x.toD → ∃ a, v = .ref a ∧ InlAt K G a x := by
  intro x h
  have one : ∀ {n : Str} {v : V}, Dp K G v (.tuple [.str n]) → ∃ a, v = .ref a ∧ SqT K G a [.str n] := fun h => by
    obtain ⟨a, us, rfl, q, r⟩ := dp_tup h
    obtain ⟨u, us1, rfl, r1, w1⟩ := dpAll_c r
    cases dp_str r1
    cases dpAll_0 w1
    exact ⟨a, rfl, q⟩
  have two : ∀ {n : Str} {v : V} {d : PyData}, Dp K G v (.tuple [.str n, d]) → ∃ a u, v = .ref a ∧ SqT K G a [.str n, u] ∧ Dp K G u d := fun h => by
    obtain ⟨a, us, rfl, q, r⟩ := dp_tup h
    obtain ⟨u, us1, rfl, r1, w1⟩ := dpAll_c r
    obtain ⟨u2, us2, rfl, r2, w2⟩ := dpAll_c w1
    cases dp_str r1
    cases dpAll_0 w2
    exact ⟨a, u2, rfl, q, r2⟩
  have four : ∀ {n z : Str} {v : V} {d d2 : PyData}, Dp K G v (.tuple [.str n, .str z, d, d2]) → ∃ a u u2, v = .ref a ∧ SqT K G a [.str n, .str z, u, u2] ∧ Dp K G u d ∧ Dp K G u2 d2 := fun h => by
    obtain ⟨a, us, rfl, q, r⟩ := dp_tup h
    obtain ⟨u, us1, rfl, r1, w1⟩ := dpAll_c r
    obtain ⟨u2, us2, rfl, r2, w2⟩ := dpAll_c w1
    obtain ⟨u3, us3, rfl, r3, w3⟩ := dpAll_c w2
    obtain ⟨u4, us4, rfl, r4, w4⟩ := dpAll_c w3
    cases dp_str r1
    cases dp_str r2
    cases dpAll_0 w4
    exact ⟨a, u3, u4, rfl, q, r3, r4⟩
  cases x with
  | text t => obtain ⟨a, u, rfl, q, r⟩ := two h; cases dp_str r; exact ⟨a, rfl, .text q⟩
  | code t => obtain ⟨a, u, rfl, q, r⟩ := two h; cases dp_str r; exact ⟨a, rfl, .code q⟩
  | html t => obtain ⟨a, u, rfl, q, r⟩ := two h; cases dp_str r; exact ⟨a, rfl, .html q⟩
  | soft => obtain ⟨a, rfl, q⟩ := one h; exact ⟨a, rfl, .soft q⟩
  | hard => obtain ⟨a, rfl, q⟩ := one h; exact ⟨a, rfl, .hard q⟩
  | emph r => obtain ⟨a, u, rfl, q, r⟩ := two h; exact ⟨a, rfl, .emph q r⟩
  | strong r => obtain ⟨a, u, rfl, q, r⟩ := two h; exact ⟨a, rfl, .strong q r⟩
  | link d t r => obtain ⟨a, u, u2, rfl, q, r1, r2⟩ := four h; exact ⟨a, rfl, .link q r1 r2⟩
  | image d t r => obtain ⟨a, u, u2, rfl, q, r1, r2⟩ := four h; exact ⟨a, rfl, .image q r1 r2⟩
theorem row_is {K : PySem.W.Frag} {F : Fold} {G : Hp} {u : V} {row : List F.X} {ds : List PyData} (h : Dp K G u (.tuple ds)) (e : ds = row.map F.toD) : RowIs K F G u row := by
  subst e
  exact dp_row h
theorem at1 {z u : V} {us : List V} : atI (z :: u :: us) 1 = some u := atI_nat (j := 1) rfl
theorem at3 {z u1 u2 u : V} {us : List V} : atI (z :: u1 :: u2 :: u :: us) 3 = some u := atI_nat (j := 3) rfl
theorem at0 {z : Str} {us : List V} : atI (V.str z :: us) 0 = some (.str z) := atI_nat (j := 0) rfl
def sp_rows_in_inline (K : PySem.W.Frag) : Sp := fun vs H Q _ => ∃ (G : Hp) (v : V) (x : Inl), vs = [v] ∧ Same G H ∧ Dp K G v x.toD ∧
  ∀ p H' ws, Same H H' → H p = none → H' p = some (.lst ws) → All2 (RowIs K wordsF G) ws x.sub → Q (.ref p) H'
theorem ok_rows_in_inline {P : Program} {w : World} {K : PySem.W.Frag} {mg : Str → Option Value} {base : Heap} (T : Txt w K mg) : FnOk P w K mg base CX0 1 T.a_rows_in_inline T.d_rows_in_inline ["inline"] (sp_rows_in_inline K) := by
  refine T.f_rows_in_inline.ok sc_rows_in_inline (fun vs H Q E h => ?_) (fun cdv A outer s H vs Q E hr h => ?_)
  · obtain ⟨G, v, x, rfl, _⟩ := h
    rfl
  · obtain ⟨G, v, x, rfl, sG, hv, q⟩ := h
    refine ⟨_, (pss_cons (ps_if (pt_cmpR op_in_seq (pe_ix ix_tup (pv 0) pe_int (fun _ _ => rfl)) (pe_tup (pa_cons pe_str (pa_cons pe_str pa_nil))) (by rfl)) (pss_one (ps_ret (pe_lst (pa_cons (pe_ix ix_tup (pv 0) pe_int (fun _ _ => rfl)) pa_nil)))) pss_nil)
        (pss_cons (ps_if (pt_cmpR op_in_seq (pe_ix ix_tup (pv 0) pe_int (fun _ _ => rfl)) (pe_tup (pa_cons pe_str (pa_cons pe_str pa_nil))) (by rfl)) (pss_one (ps_ret (pe_lst (pa_cons (pe_ix ix_tup (pv 0) pe_int (fun _ _ => rfl)) pa_nil)))) pss_nil)
        (pss_one (ps_ret (pe_lst pa_nil))))), ?_⟩
    obtain ⟨a, rfl, ha⟩ := inl_at hv
    have fin0 : ∀ (H1 : Hp), Same H H1 → x.sub = [] → ∀ p, H1 p = none → Q (.ref p) (upd H1 p (.lst [])) := fun H1 s1 e p np => q p _ [] (s1.trans (same_new np)) (s1.free np) upd_same (by rw [e]; exact .nil)
    have fin1 : ∀ (H1 : Hp) (u : V) (r : List Inl), Same H H1 → x.sub = [r] → Dp K G u (.tuple (rowD r)) → ∀ p, H1 p = none → Q (.ref p) (upd H1 p (.lst [u])) := fun H1 u r s1 e hu p np =>
      q p _ [u] (s1.trans (same_new np)) (s1.free np) upd_same (by rw [e]; exact .one (row_is hu (rowD_map r)))
    cases ha <;> rename_i hq
    all_goals refine ⟨_, rfl, a, _, _, _, rfl, rfl, same_tup sG (by assumption), at0, (by show 2 ≤ sizeLine; decide), fun t nt => ⟨t, _, rfl, .inr (SqT.of upd_same), rfl, (by decide +kernel), _, rfl, ?_⟩⟩
    all_goals first | refine ifF (by decide +kernel) ?_ | refine ifT (by decide +kernel) ?_
    iterate 5
      · refine ⟨_, rfl, a, _, _, _, rfl, rfl, same_tup (sG.trans (same_new nt)) (by assumption), at0, (by show 2 ≤ sizeLine; decide), fun t2 nt2 => ⟨t2, _, rfl, .inr (SqT.of upd_same), rfl, (by decide +kernel), _, rfl, ifF (by decide +kernel) ?_⟩⟩
        exact ⟨(by show 0 ≤ sizeLine; decide), fun p np => fin0 _ ((same_new nt).trans (same_new nt2)) rfl p np⟩
    iterate 2
      · exact ⟨_, rfl, a, _, _, _, rfl, rfl, same_tup (sG.trans (same_new nt)) (by assumption), at1, (by show 1 ≤ sizeLine; decide), fun p np => fin1 _ _ _ (same_new nt) rfl (by assumption) p np⟩
    iterate 2
      · refine ⟨_, rfl, a, _, _, _, rfl, rfl, same_tup (sG.trans (same_new nt)) (by assumption), at0, (by show 2 ≤ sizeLine; decide), fun t2 nt2 => ⟨t2, _, rfl, .inr (SqT.of upd_same), rfl, (by decide +kernel), _, rfl, ifT (by decide +kernel) ?_⟩⟩
        exact ⟨_, rfl, a, _, _, _, rfl, rfl, same_tup ((sG.trans (same_new nt)).trans (same_new nt2)) (by assumption), at3, (by show 1 ≤ sizeLine; decide), fun p np => fin1 _ _ _ ((same_new nt).trans (same_new nt2)) rfl (by assumption) p np⟩
theorem in_rows_in_inline {K : PySem.W.Frag} : InOk K wordsF (sp_rows_in_inline K) := fun G H v x Q sG hv q => ⟨G, v, x, rfl, sG, hv, q⟩
theorem sum_S (ls : List (List Nat)) : ((ls.map S).map (·.length)).sum = ls.flatten.length := by
  rw [List.length_flatten, List.map_map]
  refine congrArg List.sum ?_
  exact List.map_congr_left fun l _ => S_len l
theorem lit_em : ("" : Str) = S [] := by decide +kernel
theorem lit_bl : (" " : Str) = S [32] := by decide +kernel
def sp_words_of_inline (K : PySem.W.Frag) : Sp := fun vs H Q _ => ∃ (G : Hp) (v : V) (x : Inl) (l : Addr), vs = [v, .ref l] ∧ Same G H ∧ Dp K G v x.toD ∧ H l = some (.lst (x.sub.map fun r => V.str (S (rowW r)))) ∧ x.words.length ≤ 1000000 ∧
  ∀ H', Same H H' → Q (.str (S x.words)) H'
theorem sub_flat (x : Inl) : x.sub.map (fun r => V.str (S (rowW r))) = ((x.sub.map rowW).map S).map V.str := by
  rw [List.map_map, List.map_map]
  rfl
theorem ok_words_of_inline {P : Program} {w : World} {K : PySem.W.Frag} {mg : Str → Option Value} {base : Heap} (T : Txt w K mg) : FnOk P w K mg base CX0 1 T.a_words_of_inline T.d_words_of_inline ["inline", "rows"] (sp_words_of_inline K) := by
  refine T.f_words_of_inline.ok sc_words_of_inline (fun vs H Q E h => ?_) (fun cdv A outer s H vs Q E hr h => ?_)
  · obtain ⟨G, v, x, l, rfl, _⟩ := h
    rfl
  · obtain ⟨G, v, x, l, rfl, sG, hv, hl, hb, q⟩ := h
    refine ⟨_, (pss_cons (ps_set (i := 2) sc_words_of_inline.nd rfl (.inl rfl) (pe_ix ix_tup (pv 0) pe_int (fun _ _ => rfl)))
        (pss_cons (ps_if (pt_cmpR op_in_seq (pv 2) (pe_tup (pa_cons pe_str (pa_cons pe_str pa_nil))) (by rfl)) (pss_one (ps_ret (pe_ix ix_tup (pv 0) pe_int (fun _ _ => rfl)))) pss_nil)
        (pss_cons (ps_if (pt_cmpR op_in_seq (pv 2) (pe_tup (pa_cons pe_str (pa_cons pe_str pa_nil))) (by rfl)) (pss_one (ps_ret pe_str)) pss_nil)
        (pss_one (ps_ret (pe_join pe_str (pv 1))))))), ?_⟩
    obtain ⟨a, rfl, ha⟩ := inl_at hv
    have jn : ∀ (H1 : Hp), Same H H1 → x.words = (x.sub.map rowW).flatten → ∃ a p, ∃ ys : List Str, V.str "" = .str a ∧ [V.ref l] = [.ref p] ∧ (SqL K H1 p (ys.map V.str) ∨ SqT K H1 p (ys.map V.str)) ∧ (ys.map (·.length)).sum + ys.length * a.length ≤ 16777216 ∧ Q (.str (Txt.join a ys)) H1 := fun H1 s1 e => by
      refine ⟨_, l, (x.sub.map rowW).map S, rfl, rfl, .inl (SqL.of (s1 _ _ (by rw [← sub_flat]; exact hl))), ?_, ?_⟩
      · rw [sum_S, ← e, lit_em, S_len]
        show x.words.length + _ * 0 ≤ _
        omega
      · rw [lit_em, My.join_nil, ← e]
        exact q H1 s1
    have q32 : ∀ H', Same H H' → x.words = [32] → Q (.str " ") H' := fun H' s1 e => by
      have := q H' s1
      rw [e, ← lit_bl] at this
      exact this
    cases ha <;> rename_i hq
    all_goals refine ⟨_, rfl, a, _, _, _, rfl, rfl, same_tup sG (by assumption), at0, ?_⟩
    all_goals refine ⟨_, rfl, (by show 2 ≤ sizeLine; decide), fun t nt => ⟨t, _, rfl, .inr (SqT.of upd_same), rfl, (by decide +kernel), _, rfl, ?_⟩⟩
    all_goals first | refine ifF (by decide +kernel) ?_ | refine ifT (by decide +kernel) ?_
    iterate 2
      · exact ⟨_, rfl, a, _, _, _, rfl, rfl, same_tup (sG.trans (same_new nt)) (by assumption), at1, q _ (same_new nt)⟩
    · refine ⟨_, rfl, (by show 2 ≤ sizeLine; decide), fun t2 nt2 => ⟨t2, _, rfl, .inr (SqT.of upd_same), rfl, (by decide +kernel), _, rfl, ifF (by decide +kernel) ?_⟩⟩
      refine ⟨⟨_, rfl⟩, _, rfl, ?_⟩
      exact jn _ ((same_new nt).trans (same_new nt2)) rfl
    iterate 2
      · refine ⟨_, rfl, (by show 2 ≤ sizeLine; decide), fun t2 nt2 => ⟨t2, _, rfl, .inr (SqT.of upd_same), rfl, (by decide +kernel), _, rfl, ifT (by decide +kernel) ?_⟩⟩
        exact q32 _ ((same_new nt).trans (same_new nt2)) rfl
    iterate 4
      · refine ⟨_, rfl, (by show 2 ≤ sizeLine; decide), fun t2 nt2 => ⟨t2, _, rfl, .inr (SqT.of upd_same), rfl, (by decide +kernel), _, rfl, ifF (by decide +kernel) ?_⟩⟩
        refine ⟨⟨_, rfl⟩, _, rfl, ?_⟩
        exact jn _ ((same_new nt).trans (same_new nt2)) (List.append_nil _).symm
def sp_row_words (K : PySem.W.Frag) : Sp := fun vs H Q _ => ∃ (G : Hp) (v : V) (L : Addr) (ws : List V) (row : List Inl), vs = [v, .ref L] ∧ Same G H ∧ RowIs K wordsF G v row ∧ wordsF.Ok row ∧ row.length ≤ 100000 ∧ H L = some (.lst ws) ∧ All2 (InnerIs wordsF G H) ws row ∧
  ∀ H', Same H H' → Q (.str (S (rowW row))) H'
theorem ok_row_words {P : Program} {w : World} {K : PySem.W.Frag} {mg : Str → Option Value} {base : Heap} (T : Txt w K mg) : FnOk P w K mg base CX0 2 T.a_row_words T.d_row_words ["row", "inner"] (sp_row_words K) := by
  refine T.f_row_words.ok sc_row_words (fun vs H Q E h => ?_) (fun cdv A outer s H vs Q E hr h => ?_)
  · obtain ⟨G, v, L, ws, row, rfl, _⟩ := h
    rfl
  · obtain ⟨G, v, L, ws, row, rfl, sG, hv, hok, hlen, hL, aw, q⟩ := h
    refine ⟨_, (pss_one (ps_ret (pe_join pe_str (pe_lc (own := [("inline", 2), ("rows", 3)]) (g := (gTup K 2 (gCons (gName 2) (gCons (gName 3) gNil)))) (tt := tYes) (by rfl) sc_row_words.nd (pi_zipM (by rfl) T.z_zip (pa_cons (pv 0) (pa_cons (pv 1) pa_nil))) (blkOk_by (own := [("inline", 2), ("rows", 3)]) (N := ["row", "inner", "inline", "rows"]) (sc := defScope s_row_words) (by decide +kernel)) (fun _ _ _ _ _ => (pg_tup (by rfl) (pgs_cons (pg_name (i := 2) sc_row_words.nd rfl (.inl rfl)) (pgs_cons (pg_name (i := 3) sc_row_words.nd rfl (.inl rfl)) pgs_nil)))) (fun _ _ _ _ _ => pts_nil) (fun _ _ _ _ _ => (pe_call (ok_words_of_inline T) (hr.mono (by decide)) (by rfl) T.g_words_of_inline T.f_words_of_inline.kp T.b_words_of_inline .nil pass0 (pa_cons (pv 2) (pa_cons (pv 3) pa_nil)))))))), ?_⟩
    obtain ⟨a, us, rfl, sqa, dps⟩ := hv
    refine ⟨⟨_, rfl⟩, _, rfl, _, rfl, a, L, us, ws, rfl, same_tup sG sqa, SqL.of hL, fun D nD => ?_⟩
    have e1 : us.length = ws.length := by rw [dps.1, aw.1]
    have sm : (row.map fun x : Inl => x.words).flatten = rowW row := by
      clear q hok hlen dps aw
      induction row with
      | nil => rfl
      | cons x r ih =>
        show x.words ++ (r.map fun x : Inl => x.words).flatten = x.words ++ rowW r
        rw [ih]
    refine lc_it (walk_zipM e1) (fun i H1 => Same H H1 ∧ H1 D = some (.lst ((row.take i).map fun x : Inl => V.str (S x.words)))) ?_ ?_ ?_ ?_
    · exact ⟨same_new nD, upd_same⟩
    · rintro i H1 _ ⟨s1, _⟩
      exact ⟨same_tup (sG.trans s1) sqa, SqL.of (s1 _ _ hL)⟩
    · rintro i x H1 H1' hi ⟨s1, hD⟩ ⟨Tp, x1, x2, rfl, nT, rfl, h1, h2⟩
      obtain ⟨y, hy⟩ : ∃ y, row[i]? = some y := ⟨_, List.getElem?_eq_getElem (by have : us.length = row.length := dps.1; omega)⟩
      have dx : Dp K G x1 (Inl.toD y) := dps.2 i x1 y h1 hy
      obtain ⟨l, vs, rfl, hl, av⟩ := aw.2 i x2 y h2 hy
      have evs : vs = y.sub.map fun r => V.str (S (rowW r)) := by
        refine List.ext_getElem? fun j => ?_
        cases e : (y.sub)[j]? with
        | none =>
          rw [List.getElem?_map, e]
          refine List.getElem?_eq_none ?_
          have : vs.length = y.sub.length := av.1
          rw [this]
          exact List.getElem?_eq_none_iff.mp e
        | some r =>
          obtain ⟨z, hz, rz⟩ := av.get e
          rw [List.getElem?_map, e, hz, rz]
          rfl
      rw [evs] at hl
      have nTD : Tp ≠ D := (ne_of_none hD nT).symm
      have s2 : Same H (upd H1 Tp (.tup [x1, .ref l])) := s1.trans (same_new nT)
      refine ⟨Tp, _, rfl, SqT.of upd_same, rfl, _, _, rfl, _, _, rfl, rfl, rfl, ?_⟩
      have hyw : y.words.length ≤ 1000000 := Nat.le_trans (rowW_mem (List.mem_of_getElem? hy)) hok
      refine ⟨_, rfl, _, rfl, G, x1, y, l, rfl, sG.trans s2, dx, s2 _ _ hl, hyw, fun H2 s3 => ?_⟩
      refine ⟨_, s3 _ _ (by rw [upd_ne nTD.symm]; exact hD), ?_, ?_, ?_⟩
      · rw [List.length_map, List.length_take]
        refine Nat.lt_of_le_of_lt (Nat.le_trans (Nat.min_le_right _ _) hlen) (by decide)
      · exact fun b o e => by
          rw [upd_ne (ne_of_none e nD)]
          exact s3 _ _ (s2 _ _ e)
      · rw [List.take_add_one, hy, List.map_append]
        exact upd_same
    · rintro H1 ⟨s1, hD⟩
      have ful : row.take us.length = row := by rw [dps.1]; exact List.take_length
      rw [ful] at hD
      have e2 : (row.map fun x : Inl => V.str (S x.words)) = ((row.map fun x : Inl => x.words).map S).map V.str := by
        rw [List.map_map, List.map_map]
        rfl
      rw [e2] at hD
      refine ⟨_, D, (row.map fun x : Inl => x.words).map S, rfl, rfl, .inl (SqL.of hD), ?_, ?_⟩
      · rw [sum_S, sm, lit_em, S_len]
        have : (rowW row).length ≤ 1000000 := hok
        show (rowW row).length + _ * 0 ≤ _
        omega
      · rw [lit_em, My.join_nil, sm]
        exact q H1 s1
theorem made_row_words {K : PySem.W.Frag} : MadeOk K wordsF (sp_row_words K) :=
  fun G H v L ws row Q sG hv ho hl hL aw q => ⟨G, v, L, ws, row, rfl, sG, hv, ho, hl, hL, aw, fun H' s1 => q _ H' G s1 (Same.refl _) (sG.trans s1) (fun b hb => .inl hb) rfl⟩
def SW {K : PySem.W.Frag} {mg : Str → Option Value} (T : Txt w K mg) : Addr → Sp → Prop := fun f sp => (f = T.a_rows_in_inline ∧ sp = sp_rows_in_inline K) ∨ (f = T.a_row_words ∧ sp = sp_row_words K)
theorem AW {P : Program} {w : World} {K : PySem.W.Frag} {mg : Str → Option Value} {base : Heap} (T : Txt w K mg) : ∀ f sp, SW T f sp → Held P w K mg base 3 f sp := by
  rintro f sp (⟨rfl, rfl⟩ | ⟨rfl, rfl⟩)
  · exact ⟨_, _, fnOk_up (ok_rows_in_inline T) (by decide), T.f_rows_in_inline.kp, T.b_rows_in_inline⟩
  · exact ⟨_, _, fnOk_up (ok_row_words T) (by decide), T.f_row_words.kp, T.b_row_words⟩
def sp_words (K : PySem.W.Frag) : Sp := fun vs H Q _ => ∃ (v : V) (row : List Inl), vs = [v] ∧ Dp K H v (.tuple (rowD row)) ∧ (rowW row).length ≤ 1000000 ∧ 1 + rowN row ≤ 100000 ∧ ∀ H', Same H H' → Q (.str (S (rowW row))) H'
theorem ok_words {P : Program} {w : World} {K : PySem.W.Frag} {mg : Str → Option Value} {base : Heap} (T : Txt w K mg) : FnOk P w K mg base CX0 5 T.a_words T.d_words ["row"] (sp_words K) := by
  refine T.f_words.ok sc_words (fun vs H Q E h => ?_) (fun cdv A outer s H vs Q E hr h => ?_)
  · obtain ⟨v, row, rfl, _⟩ := h
    rfl
  · obtain ⟨v, row, rfl, hv, ho, hn, q⟩ := h
    refine ⟨_, (pss_one (ps_ret (pe_call (ok_folded T (SW T) 3 (AW T)) (hr.mono (by decide)) (by rfl) T.g_folded T.f_folded.kp T.b_folded .nil pass0 (pa_cons (pv 0) (pa_cons (pe_glob (v := .ref T.a_rows_in_inline) rfl T.g_rows_in_inline rfl) (pa_cons (pe_glob (v := .ref T.a_row_words) rfl T.g_row_words rfl) pa_nil)))))), ?_⟩
    exact ⟨_, rfl, wordsF, v, _, _, _, _, row, H, rfl, .inl ⟨rfl, rfl⟩, .inr ⟨rfl, rfl⟩, in_rows_in_inline, made_row_words, Same.refl _, row_is hv (rowD_map row), ho, hn, fun r H' G' s1 _ _ _ e => by
      cases (show r = .str (S (rowW row)) from e)
      exact q H' s1⟩

/-! ### escaped -/
theorem fun_okT {P : Program} {w : World} {K : PySem.W.Frag} {mg : Str → Option Value} {base : Heap} {x qual : Str} {st : Stmt} {f : Addr} {fd : FuncData} {N ps : List Str} {k : Nat} {sp : Sp} (F : Fun K x qual st f fd) (S : FnScope N ps (defScope st)) (hnc : ∀ y ∈ (defScope st).names, y.2 ≠ .cell) (hps : 1 ≤ ps.length)
    (len : ∀ vs H Q E, sp vs H Q E → vs.length = ps.length)
    (hbody : ∀ (cdv : Value) (A : Around) (outer : List Env) (s : Shared) (H : Hp) (vs : List V) (Q : VK) (E : XK), Room k (A.deeper (envOfC qual (defScope st) s.heap.objs.size f cdv)) → sp vs H Q E →
      ∃ t, PSsT (cxOf CX0 P w K mg base N qual (defScope st) f cdv A outer s H E) (defBody st) t ∧ t { nx := fun _ H' => Q .non H', rt := Q } (start N vs) H) : FnOk P w K mg base CX0 (k + 1) f fd ps sp := by
  obtain ⟨oc, od, kV, doc, pm, an, cdv, ct, osl, rfl, lk, hcd⟩ := F.ex
  exact fn_ofT lk hcd S hnc hps len fun A outer s H vs Q E hr hsp => hbody cdv A outer s H vs Q E hr hsp
def sp_escaped (K : PySem.W.Frag) : Sp := fun vs H Q _ => ∃ l : List Nat, vs = [.str (S l)] ∧ l.length ≤ 20000 ∧ Q (.str (S (escL l))) H
theorem lit_e1 : ("&" : Str) = S [38] ∧ ("&amp;" : Str) = S [38, 97, 109, 112, 59] ∧ ("<" : Str) = S [60] ∧ ("&lt;" : Str) = S [38, 108, 116, 59] ∧ (">" : Str) = S [62] ∧ ("&gt;" : Str) = S [38, 103, 116, 59] ∧ ("\"" : Str) = S [34] ∧ ("&quot;" : Str) = S [38, 113, 117, 111, 116, 59] := by decide +kernel
theorem flat_len (y : Nat) (z : List Nat) (k : Nat) (hz : z.length ≤ k) (hk : 1 ≤ k) : ∀ l : List Nat, (l.flatMap fun c => if c = y then z else [c]).length ≤ k * l.length
  | [] => Nat.zero_le _
  | c :: r => by
    rw [List.flatMap_cons, List.length_append, List.length_cons, Nat.mul_succ]
    have := flat_len y z k hz hk r
    have h : (if c = y then z else [c]).length ≤ k := by
      split
      · exact hz
      · exact hk
    omega
theorem ok_escaped {P : Program} {w : World} {K : PySem.W.Frag} {mg : Str → Option Value} {base : Heap} (T : Txt w K mg) : FnOk P w K mg base CX0 1 T.a_escaped T.d_escaped ["text"] (sp_escaped K) := by
  refine fun_okT T.f_escaped sc_escaped (by decide +kernel) (by decide) (fun vs H Q E h => ?_) (fun cdv A outer s H vs Q E hr h => ?_)
  · obtain ⟨l, rfl, _⟩ := h
    rfl
  · obtain ⟨l, rfl, hl, q⟩ := h
    refine ⟨_, CwR.psst_one (CwR.pst_ret (CwR.pet_replT (CwR.pet_replT (CwR.pet_replT (CwR.pet_replC (pv 0)))))), ?_⟩
    obtain ⟨e1, e2, e3, e4, e5, e6, e7, e8⟩ := lit_e1
    have hr1 := repl_one 38 [38, 97, 109, 112, 59] l
    have l1 := flat_len 38 [38, 97, 109, 112, 59] 5 (by decide) (by decide) l
    have l2 := flat_len 60 [38, 108, 116, 59] 4 (by decide) (by decide) (l.flatMap fun c => if c = 38 then [38, 97, 109, 112, 59] else [c])
    have l3 := flat_len 62 [38, 103, 116, 59] 4 (by decide) (by decide) ((l.flatMap fun c => if c = 38 then [38, 97, 109, 112, 59] else [c]).flatMap fun c => if c = 60 then [38, 108, 116, 59] else [c])
    refine ⟨_, rfl, S l, rfl, ?_, S (l.flatMap fun c => if c = 38 then [38, 97, 109, 112, 59] else [c]), ?_, ?_, S ((l.flatMap fun c => if c = 38 then [38, 97, 109, 112, 59] else [c]).flatMap fun c => if c = 60 then [38, 108, 116, 59] else [c]), ?_, ?_, S (((l.flatMap fun c => if c = 38 then [38, 97, 109, 112, 59] else [c]).flatMap fun c => if c = 60 then [38, 108, 116, 59] else [c]).flatMap fun c => if c = 62 then [38, 103, 116, 59] else [c]), ?_, ?_, ?_⟩
    · rw [e2, S_len, S_len]
      show l.length + (l.length + 1) * 5 ≤ _
      omega
    · rw [e1, e2, repl_S _ _ _ (by decide), repl_one]
    · rw [e4, S_len, S_len]
      show _ + (_ + 1) * 4 ≤ _
      omega
    · rw [e3, e4, repl_S _ _ _ (by decide), repl_one]
    · rw [e6, S_len, S_len]
      show _ + (_ + 1) * 4 ≤ _
      omega
    · rw [e5, e6, repl_S _ _ _ (by decide), repl_one]
    · rw [e8, S_len, S_len]
      show _ + (_ + 1) * 6 ≤ _
      omega
    · rw [e7, e8, repl_S _ _ _ (by decide), repl_one, esc_chain]
      exact q
theorem kb_escaped {K : PySem.W.Frag} {mg : Str → Option Value} (T : Txt w K mg) : KBinds K T.d_escaped ["text"] ["text"] (fun us ws => us ++ ws) (fun vs zs => vs ++ zs) := kbinds_one T.f_escaped (fun _ _ _ _ _ _ _ => rfl) (fun _ _ _ _ _ _ _ => rfl)

/-! ### texts put together -/
/-- an expression gives a text -/
def SR (G : Hp) (σ : L2.St) (te : TE) (l : List Nat) : Prop := l.length ≤ 16000000 → ∀ H Q, Same G H → (∀ H', Same H H' → Q (.str (S l)) H') → te σ H Q
section
variable {K : PySem.W.Frag} {G H : Hp} {σ : L2.St} {te ta tb : TE} {a b l : List Nat}
theorem sr_lit {s : String} : SR G σ (tC (.str (Str.ofString s))) (cs s) := fun _ H Q _ q => by
  have := q H (Same.refl _)
  rw [← lit] at this
  exact this
theorem sr_var {i : Nat} (h : σ[i]? = some (some (.str (S l)))) : SR G σ (tVar i) l := fun _ H Q _ q => ⟨_, h, q H (Same.refl _)⟩
theorem sr_add (h : SR G σ ta a) (g : SR G σ tb b) : SR G σ (tOp (fun x y H Q => ∃ i j, x = .str i ∧ y = .str j ∧ i.length + j.length ≤ sizeLine ∧ Q (.str (i ++ j)) H) ta tb) (a ++ b) := fun n H Q s q => by
  rw [List.length_append] at n
  exact h (by omega) H _ s fun H1 s1 => g (by omega) H1 _ (s.trans s1) fun H2 s2 => ⟨S a, S b, rfl, rfl, by
    rw [S_len, S_len, sizeLine_eq]
    omega, by
    rw [S_app]
    exact q H2 (s1.trans s2)⟩
theorem sr_tup {i : Nat} {j : Nat} {p : Addr} {vs : List V} (h : σ[i]? = some (some (.ref p))) (ht : SqT K G p vs) (hj : vs[j]? = some (.str (S l))) : SR G σ (tOp (rIxT K) (tVar i) (tC (.int (j : Nat)))) l := fun _ H Q s q => ⟨_, h, p, vs, _, _, rfl, rfl, same_tup s ht, atI_nat hj, q H (Same.refl _)⟩
theorem sr_lst {i : Nat} {j : Nat} {p : Addr} {vs : List V} (h : σ[i]? = some (some (.ref p))) (ht : SqL K G p vs) (hj : vs[j]? = some (.str (S l))) : SR G σ (tOp (rIxL K) (tVar i) (tC (.int (j : Nat)))) l := fun _ H Q s q => ⟨_, h, p, vs, _, _, rfl, rfl, s.seq ht, atI_nat hj, q H (Same.refl _)⟩
theorem sr_esc (h : SR G σ te l) (n : l.length ≤ 20000) : SR G σ (tCall (sp_escaped K) [] E0 (tCons te tNil)) (escL l) := fun _ H Q s q => h (by omega) H _ s fun H1 s1 => ⟨l, rfl, n, q H1 s1⟩
theorem sr_words {i : Nat} {u : V} {r : List Inl} (hi : σ[i]? = some (some u)) (hu : Dp K G u (.tuple (rowD r))) (hs : sR r = true) (hp : pcR r ≤ 900) : SR G σ (tCall (sp_words K) [] E0 (tCons (tVar i) tNil)) (rowW r) := fun _ H Q s q => ⟨_, hi, u, r, rfl, dp_same s hu, by have := rowW_len r hs; omega, by have := rowN_pc r; omega, fun H1 s1 => q H1 s1⟩
/-- two writings of one text -/
theorem SR.eq (h : SR G σ te a) (e : a = b) : SR G σ te b := e ▸ h
theorem sr_ret {Q : VK} (h : SR H σ te l) (n : l.length ≤ 16000000) (q : ∀ H', Same H H' → Q (.str (S l)) H') : te σ H Q := h n H Q (Same.refl _) q
/-- an 'if' whose branches meet again -/
theorem if_gJ {c : TT} {ta u : TS} {D : Ends} {i : Nat} {x : V} {bb : Bool} (τ : L2.St) (M : L2.St → Hp → Prop) (e : σ.set i (some x) = τ) (hc : AnsB c τ H bb) (ht : bb = true → ∀ D' : Ends, (∀ σ' H', M σ' H' → D'.nx σ' H') → ta D' τ H) (hf : bb = false → M τ H) (hq : ∀ σ' H', M σ' H' → u D σ' H') :
    gName i x σ H (tSeq (tIfS c ta tNext) u D) := by
  subst e
  refine hc _ ?_
  cases bb with
  | true => exact iteT (ht rfl { D with nx := u D } hq)
  | false => exact iteF (hq _ _ (hf rfl))
theorem asg_c {g : TG} {u : TS} {D : Ends} {v : V} (h : g v σ H (u D)) : tSeq (tAsg (tC v) g) u D σ H := h
theorem asg_sr {g : TG} {u : TS} {D : Ends} (n : l.length ≤ 16000000) (h : SR H σ te l) (hq : ∀ H', Same H H' → g (.str (S l)) σ H' (u D)) : tSeq (tAsg te g) u D σ H := h n H _ (Same.refl _) hq
theorem asg_sr_g {g : TG} {u : TS} {D : Ends} {i : Nat} {x : V} (τ : L2.St) (e : σ.set i (some x) = τ) (n : l.length ≤ 16000000) (h : SR H τ te l) (hq : ∀ H', Same H H' → g (.str (S l)) τ H' (u D)) : gName i x σ H (tSeq (tAsg te g) u D) := by
  subst e
  exact h n H _ (Same.refl _) hq
end
def optV : Option (List Nat) → V
  | none => .non
  | some t => .str (S t)
theorem optV_dp {K : PySem.W.Frag} {H : Hp} (t : Option (List Nat)) : Dp K H (optV t) (optD t) := by
  cases t with
  | none => exact .non
  | some t => exact .str _
theorem dp_optS {K : PySem.W.Frag} {G : Hp} {t : V} {tt : Option (List Nat)} (h : Dp K G t (optD tt)) : t = optV tt := by
  cases tt <;> (cases h; rfl)
/-! ### texts joined -/
theorem join_done {K : PySem.W.Frag} {Q : VK} {H : Hp} {D : Addr} {fs : List (List Nat)} (hD : H D = some (.lst (fs.map fun l => V.str (S l)))) (n : fs.flatten.length ≤ 16000000) (q : Q (.str (S fs.flatten)) H) :
    ∃ a p, ∃ ys : List Str, V.str "" = .str a ∧ [V.ref D] = [V.ref p] ∧ (SqL K H p (ys.map V.str) ∨ SqT K H p (ys.map V.str)) ∧ (ys.map (·.length)).sum + ys.length * a.length ≤ 16777216 ∧ Q (.str (Txt.join a ys)) H := by
  have e2 : (fs.map fun l => V.str (S l)) = (fs.map S).map V.str := by
    rw [List.map_map]
    rfl
  rw [e2] at hD
  refine ⟨_, D, fs.map S, rfl, rfl, .inl (SqL.of hD), ?_, ?_⟩
  · rw [sum_S, lit_em, S_len]
    show fs.flatten.length + _ * 0 ≤ _
    omega
  · rw [lit_em, My.join_nil]
    exact q
theorem lc_texts {K : PySem.W.Frag} {a : Addr} {xs : List V} {g : TG} {te : TE} {vs : List Nat} {σ : L2.St} {H1 : Hp} {D : Addr} {Qd : Hp → Prop} (fs : List (List Nat)) (hl : xs.length = fs.length) (hs : SqL K H1 a xs) (hn : fs.length ≤ 1000000) (nD : H1 D = none)
    (step : ∀ (i : Nat) (x : V) (l : List Nat) (H : Hp) (Qv : VK), xs[i]? = some x → fs[i]? = some l → Same H1 H → (∀ H', Same H H' → Qv (.str (S l)) H') → g x (wipe σ vs) H fun σ2 H2 => wipe σ2 vs = wipe σ vs ∧ te σ2 H2 Qv)
    (done : ∀ H, Same H1 H → H D = some (.lst (fs.map fun l => V.str (S l))) → Qd H) :
    ∃ W : Nat → Nat → Hp → Prop, (∃ m, W 0 m (upd H1 D (.lst []))) ∧ ∀ i m H, W i m H →
      ((Itl K a).stop i H ∧ Qd H) ∨ ((Itl K a).go i H ∧ ∃ Nx : Hp → Prop, (∀ H', Nx H' → ∃ m', m' < m ∧ W (i + 1) m' H') ∧ ∀ x H', (Itl K a).yld i H x H' → g x (wipe σ vs) H' fun σ2 H2 => wipe σ2 vs = wipe σ vs ∧ tYes σ2 H2 fun b H3 =>
        if b = true then te σ2 H3 fun y H4 => ∃ acc, H4 D = some (.lst acc) ∧ acc.length < sizeLine ∧ Nx (upd H4 D (.lst (acc ++ [y]))) else Nx H3) := by
  refine lc_list (K := K) (a := a) (xs := xs) (fun i H => Same H1 H ∧ H D = some (.lst ((fs.take i).map fun l => V.str (S l)))) ⟨same_new nD, upd_same⟩ (fun i H _ h => h.1.seq hs) ?_ ?_
  · rintro i x H hi ⟨s1, hD⟩
    have hlt : i < fs.length := by rw [← hl]; exact (List.getElem?_eq_some_iff.mp hi).1
    have hf := List.getElem?_eq_getElem hlt
    have := step i x fs[i] H (fun y H4 => ∃ acc, H4 D = some (.lst acc) ∧ acc.length < sizeLine ∧ (Same H1 (upd H4 D (.lst (acc ++ [y]))) ∧ (upd H4 D (.lst (acc ++ [y]))) D = some (.lst ((fs.take (i + 1)).map fun l => V.str (S l))))) hi hf s1 fun H' s2 => by
      refine ⟨_, s2 _ _ hD, by rw [List.length_map, List.length_take, sizeLine_eq]; omega, fun b o e => ?_, ?_⟩
      · rw [upd_ne (ne_of_none e nD)]
        exact s2 _ _ (s1 _ _ e)
      · rw [upd_same, List.take_add_one, hf, List.map_append]
        rfl
    exact this
  · rintro H ⟨s1, hD⟩
    rw [hl, List.take_length] at hD
    exact done H s1 hD
theorem lt_texts {K : PySem.W.Frag} {a : Addr} {xs : List V} {g : TG} {te : TE} {vs : List Nat} {σ : L2.St} {H1 : Hp} {D : Addr} {Qd : Hp → Prop} (fs : List (List Nat)) (hl : xs.length = fs.length) (hs : SqT K H1 a xs) (hn : fs.length ≤ 1000000) (nD : H1 D = none)
    (step : ∀ (i : Nat) (x : V) (l : List Nat) (H : Hp) (Qv : VK), xs[i]? = some x → fs[i]? = some l → Same H1 H → (∀ H', Same H H' → Qv (.str (S l)) H') → g x (wipe σ vs) H fun σ2 H2 => wipe σ2 vs = wipe σ vs ∧ te σ2 H2 Qv)
    (done : ∀ H, Same H1 H → H D = some (.lst (fs.map fun l => V.str (S l))) → Qd H) :
    ∃ W : Nat → Nat → Hp → Prop, (∃ m, W 0 m (upd H1 D (.lst []))) ∧ ∀ i m H, W i m H →
      ((Itt K a).stop i H ∧ Qd H) ∨ ((Itt K a).go i H ∧ ∃ Nx : Hp → Prop, (∀ H', Nx H' → ∃ m', m' < m ∧ W (i + 1) m' H') ∧ ∀ x H', (Itt K a).yld i H x H' → g x (wipe σ vs) H' fun σ2 H2 => wipe σ2 vs = wipe σ vs ∧ tYes σ2 H2 fun b H3 =>
        if b = true then te σ2 H3 fun y H4 => ∃ acc, H4 D = some (.lst acc) ∧ acc.length < sizeLine ∧ Nx (upd H4 D (.lst (acc ++ [y]))) else Nx H3) := by
  refine lc_tup (K := K) (a := a) (xs := xs) (fun i H => Same H1 H ∧ H D = some (.lst ((fs.take i).map fun l => V.str (S l)))) ⟨same_new nD, upd_same⟩ (fun i H _ h => same_tup h.1 hs) ?_ ?_
  · rintro i x H hi ⟨s1, hD⟩
    have hlt : i < fs.length := by rw [← hl]; exact (List.getElem?_eq_some_iff.mp hi).1
    have hf := List.getElem?_eq_getElem hlt
    have := step i x fs[i] H (fun y H4 => ∃ acc, H4 D = some (.lst acc) ∧ acc.length < sizeLine ∧ (Same H1 (upd H4 D (.lst (acc ++ [y]))) ∧ (upd H4 D (.lst (acc ++ [y]))) D = some (.lst ((fs.take (i + 1)).map fun l => V.str (S l))))) hi hf s1 fun H' s2 => by
      refine ⟨_, s2 _ _ hD, by rw [List.length_map, List.length_take, sizeLine_eq]; omega, fun b o e => ?_, ?_⟩
      · rw [upd_ne (ne_of_none e nD)]
        exact s2 _ _ (s1 _ _ e)
      · rw [upd_same, List.take_add_one, hf, List.map_append]
        rfl
    exact this
  · rintro H ⟨s1, hD⟩
    rw [hl, List.take_length] at hD
    exact done H s1 hD
/-! ### values, texts of parts -/
def VR (G : Hp) (σ : L2.St) (te : TE) (v : V) : Prop := ∀ H Q, Same G H → Q v H → te σ H Q
section
variable {K : PySem.W.Frag} {G H : Hp} {σ : L2.St} {te ta tb : TE} {a b l : List Nat} {ts : List TE} {v : V}
theorem vr_var {i : Nat} (h : σ[i]? = some (some v)) : VR G σ (tVar i) v := fun _ _ _ q => ⟨_, h, q⟩
theorem vr_tup {i j : Nat} {p : Addr} {vs : List V} (h : σ[i]? = some (some (.ref p))) (ht : SqT K G p vs) (hj : vs[j]? = some v) : VR G σ (tOp (rIxT K) (tVar i) (tC (.int (j : Nat)))) v := fun _ _ s q => ⟨_, h, p, vs, _, _, rfl, rfl, same_tup s ht, atI_nat hj, q⟩
theorem sr_fmt {n : Nat} (h : VR G σ te (.int (n : Int))) (hn : n < 2 ^ 64) : SR G σ (tFmt te) (decN n) := fun _ H Q s q => h H _ s (.inr ⟨(n : Int), rfl, by
  have : (n : Int).natAbs = n := rfl
  rw [this]
  have := Nat.log2_lt (n := n) (k := 64)
  by_cases h0 : n = 0
  · subst h0
    decide
  · have := (Nat.log2_lt h0).mpr hn
    omega, by
  have := q H (Same.refl _)
  unfold decN at this
  rw [← lit] at this
  exact this⟩)
def JR (G : Hp) (σ : L2.St) (ts : List TE) (l : List Nat) : Prop := ∀ (acc : List Nat) H R, (acc ++ l).length ≤ 16000000 → Same G H → (∀ H', Same H H' → R (S (acc ++ l)) H') → tJs ts (S acc) σ H R
theorem jr_nil : JR G σ [] [] := fun acc H R _ _ q => by
  have := q H (Same.refl _)
  rw [List.append_nil] at this
  exact this
theorem jr_cons (h : SR G σ te a) (r : JR G σ ts b) : JR G σ (te :: ts) (a ++ b) := fun acc H R n s q => by
  rw [← List.append_assoc] at n q
  refine h (by rw [List.length_append, List.length_append] at n; omega) H _ s fun H1 s1 => ⟨S a, rfl, ?_, ?_⟩
  · rw [S_app, S_len, sizeLine_eq]
    rw [List.length_append] at n
    omega
  · rw [S_app]
    exact r (acc ++ a) H1 R n (s.trans s1) fun H2 s2 => q H2 (s1.trans s2)
theorem sr_js (h : JR G σ ts l) : SR G σ (fun σ H Q => tJs ts Str.empty σ H fun out H1 => Q (.str out) H1) l := fun n H Q s q => h [] H _ n s fun H1 s1 => q H1 s1
theorem sr_inl {r : List Inl} (h : VR G σ te v) (hv : Dp K G v (.tuple (rowD r))) (hs : sR r = true) (hn : pcR r ≤ 900) : SR G σ (tCall (fun vs H Q _ => ∃ (v : V) (row : List Inl), vs = [v] ∧ Dp K H v (.tuple (rowD row)) ∧ sR row = true ∧ pcR row ≤ 900 ∧ ∀ H', Same H H' → Q (.str (S (rp row))) H') [] E0 (tCons te tNil)) (rp r) := fun _ H Q s q => h H _ s ⟨v, r, rfl, dp_same s hv, hs, hn, q⟩
theorem sr_lang {i : Option (List Nat)} (h : VR G σ te (optV i)) (hi : i ∈ InfosL) : SR G σ (tCall (fun vs H Q _ => ∃ i, vs = [optV i] ∧ i ∈ InfosL ∧ ∀ H', Same H H' → Q (.str (S (langP i))) H') [] E0 (tCons te tNil)) (langP i) := fun _ H Q s q => h H _ s ⟨i, rfl, hi, q⟩
end
/-! ### text += text -/
def ipS : TIp := fun x y H Q => ∃ i j, x = .str i ∧ y = .str j ∧ i.length + j.length ≤ sizeLine ∧ Q (.str (i ++ j)) H
theorem ip_str {X : Cx} : PIp X .Add ipS := by
  intro pins s σ H x y v u Q I r1 r2 h
  obtain ⟨i, j, e1, e2, n, q⟩ := h
  subst e1; subst e2
  obtain ⟨t, rfl⟩ := r1
  obtain ⟨t', rfl⟩ := r2
  exact PySem.SB.iadd (fun t2 k => ⟨.str (i ++ j), H, I.tok _, ⟨_, rfl⟩, q⟩) n
theorem aug_sr {σ : L2.St} {H : Hp} {te : TE} {a b : List Nat} {i : Nat} {D : Ends} (hs : σ[i]? = some (some (.str (S a)))) (h : SR H σ te b) (n : (a ++ b).length ≤ 16000000) (q : ∀ H', Same H H' → D.nx (σ.set i (some (.str (S (a ++ b))))) H') : tAug i te ipS D σ H := by
  refine ⟨_, hs, h (by rw [List.length_append] at n; omega) H _ (Same.refl _) fun H1 s1 => ⟨S a, S b, rfl, rfl, ?_, ?_⟩⟩
  · rw [S_len, S_len, sizeLine_eq]
    rw [List.length_append] at n
    omega
  · rw [S_app]
    exact q H1 s1
section
variable {σ : L2.St} {H : Hp}
theorem if_J {c : TT} {ta tb u : TS} {D : Ends} (bb : Bool) (M : L2.St → Hp → Prop) (hc : AnsB c σ H bb) (ht : bb = true → ∀ D' : Ends, (∀ σ' H', M σ' H' → D'.nx σ' H') → ta D' σ H) (hf : bb = false → ∀ D' : Ends, (∀ σ' H', M σ' H' → D'.nx σ' H') → tb D' σ H) (hq : ∀ σ' H', M σ' H' → u D σ' H') :
    tSeq (tIfS c ta tb) u D σ H := by
  refine hc _ ?_
  cases bb with
  | true => exact iteT (ht rfl { D with nx := u D } hq)
  | false => exact iteF (hf rfl { D with nx := u D } hq)
theorem asg_b {g : TG} {u : TS} {D : Ends} {te : TE} (c : Bool) (h : ∀ Q : VK, Q (.bl c) H → te σ H Q) (hq : g (.bl c) σ H (u D)) : tSeq (tAsg te g) u D σ H := h _ hq
end
theorem join_done_g {K : PySem.W.Frag} {i : Nat} {σ : L2.St} {R : L2.St → Hp → Prop} {H : Hp} {D : Addr} {fs : List (List Nat)} (hD : H D = some (.lst (fs.map fun l => V.str (S l)))) (n : fs.flatten.length ≤ 16000000) (q : gName i (.str (S fs.flatten)) σ H R) :
    ∃ a p, ∃ ys : List Str, V.str "" = .str a ∧ [V.ref D] = [V.ref p] ∧ (SqL K H p (ys.map V.str) ∨ SqT K H p (ys.map V.str)) ∧ (ys.map (·.length)).sum + ys.length * a.length ≤ 16777216 ∧ gName i (.str (Txt.join a ys)) σ H R := join_done (Q := fun x H => gName i x σ H R) hD n q
section
variable {K : PySem.W.Frag} {H G : Hp} {σ : L2.St} {ta tb te : TE} {a : List Nat} {v : V} {D : Ends}
theorem vr_c : VR G σ (tC v) v := fun _ _ _ q => q
theorem vr_lst {i j : Nat} {p : Addr} {vs : List V} (h : σ[i]? = some (some (.ref p))) (ht : SqL K G p vs) (hj : vs[j]? = some v) : VR G σ (tOp (rIxL K) (tVar i) (tC (.int (j : Nat)))) v := fun _ _ s q => ⟨_, h, p, vs, _, _, rfl, rfl, s.seq ht, atI_nat hj, q⟩
theorem ret_pair (h : SR H σ ta a) (n : a.length ≤ 16000000) (g : VR H σ tb v) (q : ∀ H1 p, Same H H1 → H1 p = none → D.rt (.ref p) (upd H1 p (.tup [.str (S a), v]))) : tRet (tTup (tCons ta (tCons tb tNil))) D σ H :=
  h n H _ (Same.refl _) fun H1 s1 => g H1 _ s1 ⟨(by show 2 ≤ sizeLine; decide), fun p np => q H1 p s1 np⟩
theorem ret_pair_g {i : Nat} {x : V} (τ : L2.St) (e : σ.set i (some x) = τ) (h : SR H τ ta a) (n : a.length ≤ 16000000) (g : VR H τ tb v) (q : ∀ H1 p, Same H H1 → H1 p = none → D.rt (.ref p) (upd H1 p (.tup [.str (S a), v]))) : gName i x σ H (tRet (tTup (tCons ta (tCons tb tNil))) D) := by
  subst e
  exact ret_pair h n g q
end

/-! ### pages of inlines -/
theorem lit_p : cs "<a href=\"" = cs "<a" ++ (cs " " ++ (cs "href" ++ cs "=\"")) ∧ cs "<img src=\"" = cs "<img" ++ (cs " " ++ (cs "src" ++ cs "=\"")) ∧ cs "\" alt=\"" = cs "\"" ++ (cs " " ++ (cs "alt" ++ cs "=\"")) ∧ cs " title=\"" = cs " " ++ (cs "title" ++ cs "=\"") := by decide +kernel
def linkB : Inl → Bool
  | .link _ _ _ => true
  | .image _ _ _ => true
  | _ => false
def innerOf : Inl → List Inl
  | .link _ _ r => r
  | .image _ _ r => r
  | _ => []
def sp_page_of_link (K : PySem.W.Frag) : Sp := fun vs H Q _ => ∃ (G : Hp) (v : V) (x : Inl), vs = [v, .str (S (rp (innerOf x)))] ∧ Same G H ∧ Dp K G v x.toD ∧ linkB x = true ∧ sI x = true ∧ pc x ≤ 900 ∧ ∀ H', Same H H' → Q (.str (S (ip x))) H'
theorem ok_page_of_link {P : Program} {w : World} {K : PySem.W.Frag} {mg : Str → Option Value} {base : Heap} (T : Txt w K mg) : FnOk P w K mg base CX0 6 T.a_page_of_link T.d_page_of_link ["inline", "inner"] (sp_page_of_link K) := by
  refine T.f_page_of_link.ok sc_page_of_link (fun vs H Q E h => ?_) (fun cdv A outer s H vs Q E hr h => ?_)
  · obtain ⟨G, v, x, rfl, _⟩ := h
    rfl
  · obtain ⟨G, v, x, rfl, sG, hv, hx, hs, hp, q⟩ := h
    refine ⟨_, (pss_cons (ps_asg (pv 0) (pg_tup (by rfl) (pgs_cons (pg_name (i := 2) sc_page_of_link.nd rfl (.inl rfl)) (pgs_cons (pg_name (i := 3) sc_page_of_link.nd rfl (.inl rfl)) (pgs_cons (pg_name (i := 4) sc_page_of_link.nd rfl (.inl rfl)) (pgs_cons (pg_name (i := 5) sc_page_of_link.nd rfl (.inl rfl)) pgs_nil))))))
        (pss_cons (ps_set (i := 6) sc_page_of_link.nd rfl (.inl rfl) pe_str)
        (pss_cons (ps_if (PW.pt (pw_and (pt_cmpR op_notN (pv 4) pe_non (nomark _)) (pw_and1 (pt_cmpR op_ne (pv 4) pe_str (nomark _))))) (pss_one (ps_set (i := 6) sc_page_of_link.nd rfl (.inl rfl) (pe_op op_add_str (pe_op op_add_str pe_str (pe_call (ok_escaped T) (hr.mono (by decide)) (by rfl) T.g_escaped T.f_escaped.kp T.b_escaped .nil pass0 (pa_cons (pv 4) pa_nil))) pe_str))) pss_nil)
        (pss_cons (ps_if (pt_cmpR op_eq (pv 2) pe_str (nomark _)) (pss_one (ps_ret (pe_op op_add_str (pe_op op_add_str (pe_op op_add_str (pe_op op_add_str (pe_op op_add_str (pe_op op_add_str pe_str (pe_call (ok_escaped T) (hr.mono (by decide)) (by rfl) T.g_escaped T.f_escaped.kp T.b_escaped .nil pass0 (pa_cons (pv 3) pa_nil))) pe_str) (pv 6)) pe_str) (pv 1)) pe_str))) pss_nil)
        (pss_one (ps_ret (pe_op op_add_str (pe_op op_add_str (pe_op op_add_str (pe_op op_add_str (pe_op op_add_str (pe_op op_add_str pe_str (pe_call (ok_escaped T) (hr.mono (by decide)) (by rfl) T.g_escaped T.f_escaped.kp T.b_escaped .nil pass0 (pa_cons (pv 3) pa_nil))) pe_str) (pe_call (ok_escaped T) (hr.mono (by decide)) (by rfl) T.g_escaped T.f_escaped.kp T.b_escaped .nil pass0 (pa_cons (pe_call (ok_words T) (hr.mono (by decide)) (by rfl) T.g_words T.f_words.kp T.b_words .nil pass0 (pa_cons (pv 5) pa_nil)) pa_nil))) pe_str) (pv 6)) pe_str))))))), ?_⟩
    obtain ⟨a, rfl, ha⟩ := inl_at hv
    have hlen := ip_len x hs
    cases ha with
    | link hq ht hr =>
      rename_i u t d tt r
      have hs' : (decide (d.length ≤ 200) && shortO 200 tt && sR r) = true := hs
      rw [Bool.and_eq_true, Bool.and_eq_true] at hs'
      have hd : d.length ≤ 200 := of_decide_eq_true hs'.1.1
      have htt := dp_optS ht
      subst htt
      refine ⟨_, rfl, a, _, rfl, same_tup sG hq, rfl, _, _, rfl, _, _, rfl, _, _, rfl, _, _, rfl, rfl, ?_⟩
      dsimp only
      refine asg_c ?_
      refine if_gJ (bb := !(titleP tt).isEmpty) [some (.ref a), some (.str (S (rp r))), some (.str "link"), some (.str (S d)), some (optV tt), some u, some (.str "")] (fun σ' H' => σ' = [some (.ref a), some (.str (S (rp r))), some (.str "link"), some (.str (S d)), some (optV tt), some u, some (.str (S (titleP tt)))] ∧ Same H H') rfl ?_ ?_ ?_ ?_
      · cases tt with
        | none => exact fun Qb qb => ⟨_, rfl, rfl, _, rfl, iteF qb⟩
        | some t =>
          refine fun Qb qb => ⟨_, rfl, rfl, _, rfl, iteT ⟨_, rfl, rfl, _, rfl, ?_⟩⟩
          by_cases ht0 : t = []
          · subst ht0
            have e : (decide (V.str (S []) = V.str "")) = true := by decide +kernel
            show Qb (!decide (V.str (S []) = V.str "")) H
            rw [e]
            exact qb
          · have e : (decide (V.str (S t) = V.str "")) = false := decide_eq_false fun h => ht0 (S_inj (by rw [← lit_em]; exact V.str.inj h))
            show Qb (!decide (V.str (S t) = V.str "")) H
            rw [e]
            have e2 : (titleP (some t)).isEmpty = false := by
              show (if t = [] then [] else attrP "title" t).isEmpty = false
              rw [if_neg ht0]
              unfold attrP
              have : cs " " ≠ [] := by decide +kernel
              cases h : cs " " with
              | nil => exact absurd h this
              | cons c r => rfl
            rw [e2] at qb
            exact qb
      · intro hb D' hD
        cases tt with
        | none => cases hb
        | some t =>
          have ht0 : t ≠ [] := fun e => by
            subst e
            cases hb
          have hl : t.length ≤ 200 := of_decide_eq_true hs'.1.2
          have e : cs " title=\"" ++ escL t ++ cs "\"" = titleP (some t) := by
            show _ = (if t = [] then [] else attrP "title" t)
            rw [if_neg ht0, lit_p.2.2.2]
            unfold attrP
            simp only [List.append_assoc]
          have tl := title_len (t := some t) hs'.1.2
          exact sr_ret ((sr_add (sr_add sr_lit (sr_esc (sr_var rfl) (by omega))) sr_lit).eq e) (by omega) fun H' s1 => hD _ _ ⟨rfl, s1⟩
      · intro hb
        have e0 : titleP tt = [] := by
          cases h : titleP tt with
          | nil => rfl
          | cons c r => rw [h] at hb; cases hb
        rw [e0, ← lit_em]
        exact ⟨rfl, Same.refl _⟩
      · rintro σ' H1 ⟨rfl, s1⟩
        refine ⟨_, rfl, rfl, _, rfl, ifT (by decide +kernel) ?_⟩
        have e : cs "<a href=\"" ++ escL d ++ cs "\"" ++ titleP tt ++ cs ">" ++ rp r ++ cs "</a>" = ip (.link d tt r) := by
          show _ = cs "<a" ++ attrP "href" d ++ titleP tt ++ cs ">" ++ rp r ++ cs "</a>"
          rw [lit_p.1]
          unfold attrP
          simp only [List.append_assoc]
        exact sr_ret ((sr_add (sr_add (sr_add (sr_add (sr_add (sr_add sr_lit (sr_esc (sr_var rfl) (by omega))) sr_lit) (sr_var rfl)) sr_lit) (sr_var rfl)) sr_lit).eq e) (by omega) fun H' s2 => q H' (s1.trans s2)
    | image hq ht hr =>
      rename_i u t d tt r
      have hs' : (decide (d.length ≤ 200) && shortO 200 tt && sR r) = true := hs
      rw [Bool.and_eq_true, Bool.and_eq_true] at hs'
      have hd : d.length ≤ 200 := of_decide_eq_true hs'.1.1
      have htt := dp_optS ht
      subst htt
      refine ⟨_, rfl, a, _, rfl, same_tup sG hq, rfl, _, _, rfl, _, _, rfl, _, _, rfl, _, _, rfl, rfl, ?_⟩
      dsimp only
      refine asg_c ?_
      refine if_gJ (bb := !(titleP tt).isEmpty) [some (.ref a), some (.str (S (rp r))), some (.str "image"), some (.str (S d)), some (optV tt), some u, some (.str "")] (fun σ' H' => σ' = [some (.ref a), some (.str (S (rp r))), some (.str "image"), some (.str (S d)), some (optV tt), some u, some (.str (S (titleP tt)))] ∧ Same H H') rfl ?_ ?_ ?_ ?_
      · cases tt with
        | none => exact fun Qb qb => ⟨_, rfl, rfl, _, rfl, iteF qb⟩
        | some t =>
          refine fun Qb qb => ⟨_, rfl, rfl, _, rfl, iteT ⟨_, rfl, rfl, _, rfl, ?_⟩⟩
          by_cases ht0 : t = []
          · subst ht0
            have e : (decide (V.str (S []) = V.str "")) = true := by decide +kernel
            show Qb (!decide (V.str (S []) = V.str "")) H
            rw [e]
            exact qb
          · have e : (decide (V.str (S t) = V.str "")) = false := decide_eq_false fun h => ht0 (S_inj (by rw [← lit_em]; exact V.str.inj h))
            show Qb (!decide (V.str (S t) = V.str "")) H
            rw [e]
            have e2 : (titleP (some t)).isEmpty = false := by
              show (if t = [] then [] else attrP "title" t).isEmpty = false
              rw [if_neg ht0]
              unfold attrP
              have : cs " " ≠ [] := by decide +kernel
              cases h : cs " " with
              | nil => exact absurd h this
              | cons c r => rfl
            rw [e2] at qb
            exact qb
      · intro hb D' hD
        cases tt with
        | none => cases hb
        | some t =>
          have ht0 : t ≠ [] := fun e => by
            subst e
            cases hb
          have hl : t.length ≤ 200 := of_decide_eq_true hs'.1.2
          have e : cs " title=\"" ++ escL t ++ cs "\"" = titleP (some t) := by
            show _ = (if t = [] then [] else attrP "title" t)
            rw [if_neg ht0, lit_p.2.2.2]
            unfold attrP
            simp only [List.append_assoc]
          have tl := title_len (t := some t) hs'.1.2
          exact sr_ret ((sr_add (sr_add sr_lit (sr_esc (sr_var rfl) (by omega))) sr_lit).eq e) (by omega) fun H' s1 => hD _ _ ⟨rfl, s1⟩
      · intro hb
        have e0 : titleP tt = [] := by
          cases h : titleP tt with
          | nil => rfl
          | cons c r => rw [h] at hb; cases hb
        rw [e0, ← lit_em]
        exact ⟨rfl, Same.refl _⟩
      · rintro σ' H1 ⟨rfl, s1⟩
        refine ⟨_, rfl, rfl, _, rfl, ifF (by decide +kernel) ?_⟩
        have hpr : pcR r ≤ 900 := by
          have : 1 + pcR r ≤ 900 := hp
          omega
        have hw := rowW_len r hs'.2
        have e : cs "<img src=\"" ++ escL d ++ cs "\" alt=\"" ++ escL (rowW r) ++ cs "\"" ++ titleP tt ++ cs " />" = ip (.image d tt r) := by
          show _ = cs "<img" ++ attrP "src" d ++ attrP "alt" (rowW r) ++ titleP tt ++ cs " />"
          rw [lit_p.2.1, lit_p.2.2.1]
          unfold attrP
          simp only [List.append_assoc]
        exact sr_ret ((sr_add (sr_add (sr_add (sr_add (sr_add (sr_add sr_lit (sr_esc (sr_var rfl) (by omega))) sr_lit) (sr_esc (sr_words rfl (dp_same (sG.trans s1) hr) hs'.2 hpr) (by omega))) sr_lit) (sr_var rfl)) sr_lit).eq e) (by omega) fun H' s2 => q H' (s1.trans s2)
    | _ => cases hx
def sp_page_of_inline (K : PySem.W.Frag) : Sp := fun vs H Q _ => ∃ (G : Hp) (v : V) (x : Inl) (l : Addr), vs = [v, .ref l] ∧ Same G H ∧ Dp K G v x.toD ∧ H l = some (.lst (x.sub.map fun r => V.str (S (rp r)))) ∧ sI x = true ∧ pc x ≤ 900 ∧ ∀ H', Same H H' → Q (.str (S (ip x))) H'
theorem ok_page_of_inline {P : Program} {w : World} {K : PySem.W.Frag} {mg : Str → Option Value} {base : Heap} (T : Txt w K mg) : FnOk P w K mg base CX0 7 T.a_page_of_inline T.d_page_of_inline ["inline", "rows"] (sp_page_of_inline K) := by
  refine T.f_page_of_inline.ok sc_page_of_inline (fun vs H Q E h => ?_) (fun cdv A outer s H vs Q E hr h => ?_)
  · obtain ⟨G, v, x, l, rfl, _⟩ := h
    rfl
  · obtain ⟨G, v, x, l, rfl, sG, hv, hl, hs, hp, q⟩ := h
    refine ⟨_, (pss_cons (ps_set (i := 2) sc_page_of_inline.nd rfl (.inl rfl) (pe_ix ix_tup (pv 0) pe_int (fun _ _ => rfl)))
        (pss_cons (ps_if (pt_cmpR op_eq (pv 2) pe_str (nomark _)) (pss_one (ps_ret (pe_call (ok_escaped T) (hr.mono (by decide)) (by rfl) T.g_escaped T.f_escaped.kp T.b_escaped .nil pass0 (pa_cons (pe_ix ix_tup (pv 0) pe_int (fun _ _ => rfl)) pa_nil)))) pss_nil)
        (pss_cons (ps_if (pt_cmpR op_eq (pv 2) pe_str (nomark _)) (pss_one (ps_ret (pe_op op_add_str (pe_op op_add_str pe_str (pe_call (ok_escaped T) (hr.mono (by decide)) (by rfl) T.g_escaped T.f_escaped.kp T.b_escaped .nil pass0 (pa_cons (pe_ix ix_tup (pv 0) pe_int (fun _ _ => rfl)) pa_nil))) pe_str))) pss_nil)
        (pss_cons (ps_if (pt_cmpR op_eq (pv 2) pe_str (nomark _)) (pss_one (ps_ret pe_str)) pss_nil)
        (pss_cons (ps_if (pt_cmpR op_eq (pv 2) pe_str (nomark _)) (pss_one (ps_ret pe_str)) pss_nil)
        (pss_cons (ps_if (pt_cmpR op_eq (pv 2) pe_str (nomark _)) (pss_one (ps_ret (pe_ix ix_tup (pv 0) pe_int (fun _ _ => rfl)))) pss_nil)
        (pss_cons (ps_if (pt_cmpR op_eq (pv 2) pe_str (nomark _)) (pss_one (ps_ret (pe_op op_add_str (pe_op op_add_str pe_str (pe_ix ix_list (pv 1) pe_int (fun _ _ => rfl))) pe_str))) pss_nil)
        (pss_cons (ps_if (pt_cmpR op_eq (pv 2) pe_str (nomark _)) (pss_one (ps_ret (pe_op op_add_str (pe_op op_add_str pe_str (pe_ix ix_list (pv 1) pe_int (fun _ _ => rfl))) pe_str))) pss_nil)
        (pss_one (ps_ret (pe_call (ok_page_of_link T) (hr.mono (by decide)) (by rfl) T.g_page_of_link T.f_page_of_link.kp T.b_page_of_link .nil pass0 (pa_cons (pv 0) (pa_cons (pe_ix ix_list (pv 1) pe_int (fun _ _ => rfl)) pa_nil))))))))))))), ?_⟩
    have hv0 := hv
    have hlen := ip_len x hs
    obtain ⟨a, rfl, ha⟩ := inl_at hv
    cases ha
    all_goals refine ⟨_, rfl, a, _, _, _, rfl, rfl, same_tup sG (by assumption), at0, ?_⟩
    all_goals refine ⟨_, rfl, rfl, _, rfl, ?_⟩
    case text hq =>
      refine ifT (by decide +kernel) ?_
      have ht := of_decide_eq_true (show decide (_ ≤ 20) = true from hs)
      exact sr_ret (sr_esc (sr_tup (j := 1) rfl (same_tup sG hq) rfl) (by omega)) (Nat.le_trans hlen (by omega)) fun H' s1 => q H' s1
    case code hq =>
      refine ifF (by decide +kernel) ⟨_, rfl, rfl, _, rfl, ?_⟩
      refine ifT (by decide +kernel) ?_
      have ht := of_decide_eq_true (show decide (_ ≤ 20) = true from hs)
      exact sr_ret (sr_add (sr_add sr_lit (sr_esc (sr_tup (j := 1) rfl (same_tup sG hq) rfl) (by omega))) sr_lit) (Nat.le_trans hlen (by omega)) fun H' s1 => q H' s1
    case soft hq =>
      refine ifF (by decide +kernel) ⟨_, rfl, rfl, _, rfl, ?_⟩
      refine ifF (by decide +kernel) ⟨_, rfl, rfl, _, rfl, ?_⟩
      refine ifT (by decide +kernel) ?_
      exact sr_ret sr_lit (Nat.le_trans hlen (by omega)) fun H' s1 => q H' s1
    case hard hq =>
      refine ifF (by decide +kernel) ⟨_, rfl, rfl, _, rfl, ?_⟩
      refine ifF (by decide +kernel) ⟨_, rfl, rfl, _, rfl, ?_⟩
      refine ifF (by decide +kernel) ⟨_, rfl, rfl, _, rfl, ?_⟩
      refine ifT (by decide +kernel) ?_
      exact sr_ret sr_lit (Nat.le_trans hlen (by omega)) fun H' s1 => q H' s1
    case html hq =>
      refine ifF (by decide +kernel) ⟨_, rfl, rfl, _, rfl, ?_⟩
      refine ifF (by decide +kernel) ⟨_, rfl, rfl, _, rfl, ?_⟩
      refine ifF (by decide +kernel) ⟨_, rfl, rfl, _, rfl, ?_⟩
      refine ifF (by decide +kernel) ⟨_, rfl, rfl, _, rfl, ?_⟩
      refine ifT (by decide +kernel) ?_
      exact sr_ret (sr_tup (j := 1) rfl (same_tup sG hq) rfl) (Nat.le_trans hlen (by omega)) fun H' s1 => q H' s1
    case emph hq hr =>
      refine ifF (by decide +kernel) ⟨_, rfl, rfl, _, rfl, ?_⟩
      refine ifF (by decide +kernel) ⟨_, rfl, rfl, _, rfl, ?_⟩
      refine ifF (by decide +kernel) ⟨_, rfl, rfl, _, rfl, ?_⟩
      refine ifF (by decide +kernel) ⟨_, rfl, rfl, _, rfl, ?_⟩
      refine ifF (by decide +kernel) ⟨_, rfl, rfl, _, rfl, ?_⟩
      refine ifT (by decide +kernel) ?_
      exact sr_ret (sr_add (sr_add sr_lit (sr_lst (j := 0) rfl (SqL.of hl) rfl)) sr_lit) (Nat.le_trans hlen (by omega)) fun H' s1 => q H' s1
    case strong hq hr =>
      refine ifF (by decide +kernel) ⟨_, rfl, rfl, _, rfl, ?_⟩
      refine ifF (by decide +kernel) ⟨_, rfl, rfl, _, rfl, ?_⟩
      refine ifF (by decide +kernel) ⟨_, rfl, rfl, _, rfl, ?_⟩
      refine ifF (by decide +kernel) ⟨_, rfl, rfl, _, rfl, ?_⟩
      refine ifF (by decide +kernel) ⟨_, rfl, rfl, _, rfl, ?_⟩
      refine ifF (by decide +kernel) ⟨_, rfl, rfl, _, rfl, ?_⟩
      refine ifT (by decide +kernel) ?_
      exact sr_ret (sr_add (sr_add sr_lit (sr_lst (j := 0) rfl (SqL.of hl) rfl)) sr_lit) (Nat.le_trans hlen (by omega)) fun H' s1 => q H' s1
    case link hq ht hr =>
      refine ifF (by decide +kernel) ⟨_, rfl, rfl, _, rfl, ?_⟩
      refine ifF (by decide +kernel) ⟨_, rfl, rfl, _, rfl, ?_⟩
      refine ifF (by decide +kernel) ⟨_, rfl, rfl, _, rfl, ?_⟩
      refine ifF (by decide +kernel) ⟨_, rfl, rfl, _, rfl, ?_⟩
      refine ifF (by decide +kernel) ⟨_, rfl, rfl, _, rfl, ?_⟩
      refine ifF (by decide +kernel) ⟨_, rfl, rfl, _, rfl, ?_⟩
      refine ifF (by decide +kernel) ?_
      refine ⟨_, rfl, _, rfl, l, _, _, _, rfl, rfl, SqL.of hl, atI_nat (j := 0) rfl, ?_⟩
      exact ⟨G, _, _, rfl, sG, hv0, rfl, hs, hp, q⟩
    case image hq ht hr =>
      refine ifF (by decide +kernel) ⟨_, rfl, rfl, _, rfl, ?_⟩
      refine ifF (by decide +kernel) ⟨_, rfl, rfl, _, rfl, ?_⟩
      refine ifF (by decide +kernel) ⟨_, rfl, rfl, _, rfl, ?_⟩
      refine ifF (by decide +kernel) ⟨_, rfl, rfl, _, rfl, ?_⟩
      refine ifF (by decide +kernel) ⟨_, rfl, rfl, _, rfl, ?_⟩
      refine ifF (by decide +kernel) ⟨_, rfl, rfl, _, rfl, ?_⟩
      refine ifF (by decide +kernel) ?_
      refine ⟨_, rfl, _, rfl, l, _, _, _, rfl, rfl, SqL.of hl, atI_nat (j := 0) rfl, ?_⟩
      exact ⟨G, _, _, rfl, sG, hv0, rfl, hs, hp, q⟩

def sp_row_page (K : PySem.W.Frag) : Sp := fun vs H Q _ => ∃ (G : Hp) (v : V) (L : Addr) (ws : List V) (row : List Inl), vs = [v, .ref L] ∧ Same G H ∧ RowIs K pagesF G v row ∧ pagesF.Ok row ∧ row.length ≤ 100000 ∧ H L = some (.lst ws) ∧ All2 (InnerIs pagesF G H) ws row ∧
  ∀ H', Same H H' → Q (.str (S (rp row))) H'
theorem ok_row_page {P : Program} {w : World} {K : PySem.W.Frag} {mg : Str → Option Value} {base : Heap} (T : Txt w K mg) : FnOk P w K mg base CX0 8 T.a_row_page T.d_row_page ["row", "inner"] (sp_row_page K) := by
  refine T.f_row_page.ok sc_row_page (fun vs H Q E h => ?_) (fun cdv A outer s H vs Q E hr h => ?_)
  · obtain ⟨G, v, L, ws, row, rfl, _⟩ := h
    rfl
  · obtain ⟨G, v, L, ws, row, rfl, sG, hv, hok, hlen, hL, aw, q⟩ := h
    refine ⟨_, (pss_one (ps_ret (pe_join pe_str (pe_lc (own := [("inline", 2), ("rows", 3)]) (g := (gTup K 2 (gCons (gName 2) (gCons (gName 3) gNil)))) (tt := tYes) (by rfl) sc_row_page.nd (pi_zipM (by rfl) T.z_zip (pa_cons (pv 0) (pa_cons (pv 1) pa_nil))) (blkOk_by (own := [("inline", 2), ("rows", 3)]) (N := ["row", "inner", "inline", "rows"]) (sc := defScope s_row_page) (by decide +kernel)) (fun _ _ _ _ _ => (pg_tup (by rfl) (pgs_cons (pg_name (i := 2) sc_row_page.nd rfl (.inl rfl)) (pgs_cons (pg_name (i := 3) sc_row_page.nd rfl (.inl rfl)) pgs_nil)))) (fun _ _ _ _ _ => pts_nil) (fun _ _ _ _ _ => (pe_call (ok_page_of_inline T) (hr.mono (by decide)) (by rfl) T.g_page_of_inline T.f_page_of_inline.kp T.b_page_of_inline .nil pass0 (pa_cons (pv 2) (pa_cons (pv 3) pa_nil)))))))), ?_⟩
    obtain ⟨a, us, rfl, sqa, dps⟩ := hv
    refine ⟨⟨_, rfl⟩, _, rfl, _, rfl, a, L, us, ws, rfl, same_tup sG sqa, SqL.of hL, fun D nD => ?_⟩
    have e1 : us.length = ws.length := by rw [dps.1, aw.1]
    have sm : (row.map fun x : Inl => (ip x)).flatten = rp row := by
      clear q hok hlen dps aw
      induction row with
      | nil => rfl
      | cons x r ih =>
        show (ip x) ++ (r.map fun x : Inl => (ip x)).flatten = (ip x) ++ rp r
        rw [ih]
    refine lc_it (walk_zipM e1) (fun i H1 => Same H H1 ∧ H1 D = some (.lst ((row.take i).map fun x : Inl => V.str (S (ip x))))) ?_ ?_ ?_ ?_
    · exact ⟨same_new nD, upd_same⟩
    · rintro i H1 _ ⟨s1, _⟩
      exact ⟨same_tup (sG.trans s1) sqa, SqL.of (s1 _ _ hL)⟩
    · rintro i x H1 H1' hi ⟨s1, hD⟩ ⟨Tp, x1, x2, rfl, nT, rfl, h1, h2⟩
      obtain ⟨y, hy⟩ : ∃ y, row[i]? = some y := ⟨_, List.getElem?_eq_getElem (by have : us.length = row.length := dps.1; omega)⟩
      have dx : Dp K G x1 (Inl.toD y) := dps.2 i x1 y h1 hy
      obtain ⟨l, vs, rfl, hl, av⟩ := aw.2 i x2 y h2 hy
      have evs : vs = y.sub.map fun r => V.str (S (rp r)) := by
        refine List.ext_getElem? fun j => ?_
        cases e : (y.sub)[j]? with
        | none =>
          rw [List.getElem?_map, e]
          refine List.getElem?_eq_none ?_
          have : vs.length = y.sub.length := av.1
          rw [this]
          exact List.getElem?_eq_none_iff.mp e
        | some r =>
          obtain ⟨z, hz, rz⟩ := av.get e
          rw [List.getElem?_map, e, hz, rz]
          rfl
      rw [evs] at hl
      have nTD : Tp ≠ D := (ne_of_none hD nT).symm
      have s2 : Same H (upd H1 Tp (.tup [x1, .ref l])) := s1.trans (same_new nT)
      refine ⟨Tp, _, rfl, SqT.of upd_same, rfl, _, _, rfl, _, _, rfl, rfl, rfl, ?_⟩
      have hyo := sR_mem hok.1 (List.mem_of_getElem? hy)
      have hok2 := hok.2
      refine ⟨_, rfl, _, rfl, G, x1, y, l, rfl, sG.trans s2, dx, s2 _ _ hl, hyo.1, by omega, fun H2 s3 => ?_⟩
      refine ⟨_, s3 _ _ (by rw [upd_ne nTD.symm]; exact hD), ?_, ?_, ?_⟩
      · rw [List.length_map, List.length_take]
        refine Nat.lt_of_le_of_lt (Nat.le_trans (Nat.min_le_right _ _) hlen) (by decide)
      · exact fun b o e => by
          rw [upd_ne (ne_of_none e nD)]
          exact s3 _ _ (s2 _ _ e)
      · rw [List.take_add_one, hy, List.map_append]
        exact upd_same
    · rintro H1 ⟨s1, hD⟩
      have ful : row.take us.length = row := by rw [dps.1]; exact List.take_length
      rw [ful] at hD
      have e2 : (row.map fun x : Inl => V.str (S (ip x))) = ((row.map fun x : Inl => (ip x)).map S).map V.str := by
        rw [List.map_map, List.map_map]
        rfl
      rw [e2] at hD
      refine ⟨_, D, (row.map fun x : Inl => (ip x)).map S, rfl, rfl, .inl (SqL.of hD), ?_, ?_⟩
      · rw [sum_S, sm, lit_em, S_len]
        have h9 := rp_len row hok.1
        have h8 := hok.2
        show (rp row).length + _ * 0 ≤ _
        omega
      · rw [lit_em, My.join_nil, sm]
        exact q H1 s1
theorem made_row_page {K : PySem.W.Frag} : MadeOk K pagesF (sp_row_page K) :=
  fun G H v L ws row Q sG hv ho hl hL aw q => ⟨G, v, L, ws, row, rfl, sG, hv, ho, hl, hL, aw, fun H' s1 => q _ H' G s1 (Same.refl _) (sG.trans s1) (fun b hb => .inl hb) rfl⟩
theorem in_rows_pages {K : PySem.W.Frag} : InOk K pagesF (sp_rows_in_inline K) := fun G H v x Q sG hv q => ⟨G, v, x, rfl, sG, hv, q⟩
def SP {K : PySem.W.Frag} {mg : Str → Option Value} (T : Txt w K mg) : Addr → Sp → Prop := fun f sp => (f = T.a_rows_in_inline ∧ sp = sp_rows_in_inline K) ∨ (f = T.a_row_page ∧ sp = sp_row_page K)
theorem AP {P : Program} {w : World} {K : PySem.W.Frag} {mg : Str → Option Value} {base : Heap} (T : Txt w K mg) : ∀ f sp, SP T f sp → Held P w K mg base 9 f sp := by
  rintro f sp (⟨rfl, rfl⟩ | ⟨rfl, rfl⟩)
  · exact ⟨_, _, fnOk_up (ok_rows_in_inline T) (by decide), T.f_rows_in_inline.kp, T.b_rows_in_inline⟩
  · exact ⟨_, _, fnOk_up (ok_row_page T) (by decide), T.f_row_page.kp, T.b_row_page⟩
def sp_inline_page (K : PySem.W.Frag) : Sp := fun vs H Q _ => ∃ (v : V) (row : List Inl), vs = [v] ∧ Dp K H v (.tuple (rowD row)) ∧ sR row = true ∧ pcR row ≤ 900 ∧ ∀ H', Same H H' → Q (.str (S (rp row))) H'
theorem ok_inline_page {P : Program} {w : World} {K : PySem.W.Frag} {mg : Str → Option Value} {base : Heap} (T : Txt w K mg) : FnOk P w K mg base CX0 11 T.a_inline_page T.d_inline_page ["row"] (sp_inline_page K) := by
  refine T.f_inline_page.ok sc_inline_page (fun vs H Q E h => ?_) (fun cdv A outer s H vs Q E hr h => ?_)
  · obtain ⟨v, row, rfl, _⟩ := h
    rfl
  · obtain ⟨v, row, rfl, hv, ho, hn, q⟩ := h
    refine ⟨_, (pss_one (ps_ret (pe_call (ok_folded T (SP T) 9 (AP T)) (hr.mono (by decide)) (by rfl) T.g_folded T.f_folded.kp T.b_folded .nil pass0 (pa_cons (pv 0) (pa_cons (pe_glob (v := .ref T.a_rows_in_inline) rfl T.g_rows_in_inline rfl) (pa_cons (pe_glob (v := .ref T.a_row_page) rfl T.g_row_page rfl) pa_nil)))))), ?_⟩
    exact ⟨_, rfl, pagesF, v, _, _, _, _, row, H, rfl, .inl ⟨rfl, rfl⟩, .inr ⟨rfl, rfl⟩, in_rows_pages, made_row_page, Same.refl _, row_is hv (rowD_map row), ⟨ho, hn⟩, by show 1 + rowN row ≤ _; have := rowN_pc row; omega, fun r H' G' s1 _ _ _ e => by
      cases (show r = .str (S (rp row)) from e)
      exact q H' s1⟩

/-! ### blocks by their items -/
def optIv : Option Nat → V
  | none => .non
  | some n => .int (n : Int)
inductive BlkAt (K : PySem.W.Frag) (G : Hp) (a : Addr) : Blk → Prop
  | quote {u : V} {bs : List Blk} : SqT K G a [.str "quote", u] → Dp K G u (.tuple (blksD bs)) → BlkAt K G a (.quote bs)
  | list {u : V} {g : Str} {st : Option Nat} {t : Bool} {its : List (List Blk)} : SqT K G a [.str "list", .str g, optIv st, .bl t, u] → Dp K G u (.tuple (itsD its)) → BlkAt K G a (.list g st t its)
  | heading {u : V} {l : Nat} {r : List Inl} : SqT K G a [.str "heading", .int (l : Int), u] → Dp K G u (.tuple (rowD r)) → BlkAt K G a (.heading l r)
  | brk : SqT K G a [.str "break"] → BlkAt K G a .brk
  | code {t : List Nat} {i : Option (List Nat)} : SqT K G a [.str "code", .str (S t), optV i] → BlkAt K G a (.code t i)
  | html {t : List Nat} : SqT K G a [.str "html", .str (S t)] → BlkAt K G a (.html t)
  | defn {l d : List Nat} {t : Option (List Nat)} : SqT K G a [.str "definition", .str (S l), .str (S d), optV t] → BlkAt K G a (.defn l d t)
  | par {u : V} {r : List Inl} : SqT K G a [.str "paragraph", u] → Dp K G u (.tuple (rowD r)) → BlkAt K G a (.par r)
theorem dp_bool {K : PySem.W.Frag} {G : Hp} {v : V} {b : Bool} (h : Dp K G v (.bool b)) : v = .bl b := by
  cases h
  rfl
theorem dp_int {K : PySem.W.Frag} {G : Hp} {v : V} {i : Int} (h : Dp K G v (.int i)) : v = .int i := by
  cases h
  rfl
theorem dp_optI {K : PySem.W.Frag} {G : Hp} {v : V} {st : Option Nat} (h : Dp K G v (optI st)) : v = optIv st := by
  cases st <;> (cases h; rfl)
theorem blk_at {K : PySem.W.Frag} {G : Hp} {v : V} : ∀ {b : Blk}, Dp K G v b.toD → ∃ a, v = .ref a ∧ BlkAt K G a b := by
  intro b h
  cases b with
  | quote bs =>
    obtain ⟨a, us, rfl, q, r⟩ := dp_tup h
    obtain ⟨u, us1, rfl, r1, w1⟩ := dpAll_c r
    obtain ⟨u2, us2, rfl, r2, w2⟩ := dpAll_c w1
    cases dp_str r1
    cases dpAll_0 w2
    exact ⟨a, rfl, .quote q r2⟩
  | par r0 =>
    obtain ⟨a, us, rfl, q, r⟩ := dp_tup h
    obtain ⟨u, us1, rfl, r1, w1⟩ := dpAll_c r
    obtain ⟨u2, us2, rfl, r2, w2⟩ := dpAll_c w1
    cases dp_str r1
    cases dpAll_0 w2
    exact ⟨a, rfl, .par q r2⟩
  | html t =>
    obtain ⟨a, us, rfl, q, r⟩ := dp_tup h
    obtain ⟨u, us1, rfl, r1, w1⟩ := dpAll_c r
    obtain ⟨u2, us2, rfl, r2, w2⟩ := dpAll_c w1
    cases dp_str r1
    cases dp_str r2
    cases dpAll_0 w2
    exact ⟨a, rfl, .html q⟩
  | brk =>
    obtain ⟨a, us, rfl, q, r⟩ := dp_tup h
    obtain ⟨u, us1, rfl, r1, w1⟩ := dpAll_c r
    cases dp_str r1
    cases dpAll_0 w1
    exact ⟨a, rfl, .brk q⟩
  | heading l r0 =>
    obtain ⟨a, us, rfl, q, r⟩ := dp_tup h
    obtain ⟨u, us1, rfl, r1, w1⟩ := dpAll_c r
    obtain ⟨u2, us2, rfl, r2, w2⟩ := dpAll_c w1
    obtain ⟨u3, us3, rfl, r3, w3⟩ := dpAll_c w2
    cases dp_str r1
    cases dp_int r2
    cases dpAll_0 w3
    exact ⟨a, rfl, .heading q r3⟩
  | code t i =>
    obtain ⟨a, us, rfl, q, r⟩ := dp_tup h
    obtain ⟨u, us1, rfl, r1, w1⟩ := dpAll_c r
    obtain ⟨u2, us2, rfl, r2, w2⟩ := dpAll_c w1
    obtain ⟨u3, us3, rfl, r3, w3⟩ := dpAll_c w2
    cases dp_str r1
    cases dp_str r2
    have := dp_optS r3
    subst this
    cases dpAll_0 w3
    exact ⟨a, rfl, .code q⟩
  | defn l d t =>
    obtain ⟨a, us, rfl, q, r⟩ := dp_tup h
    obtain ⟨u, us1, rfl, r1, w1⟩ := dpAll_c r
    obtain ⟨u2, us2, rfl, r2, w2⟩ := dpAll_c w1
    obtain ⟨u3, us3, rfl, r3, w3⟩ := dpAll_c w2
    obtain ⟨u4, us4, rfl, r4, w4⟩ := dpAll_c w3
    cases dp_str r1
    cases dp_str r2
    cases dp_str r3
    have := dp_optS r4
    subst this
    cases dpAll_0 w4
    exact ⟨a, rfl, .defn q⟩
  | list g st t its =>
    obtain ⟨a, us, rfl, q, r⟩ := dp_tup h
    obtain ⟨u, us1, rfl, r1, w1⟩ := dpAll_c r
    obtain ⟨u2, us2, rfl, r2, w2⟩ := dpAll_c w1
    obtain ⟨u3, us3, rfl, r3, w3⟩ := dpAll_c w2
    obtain ⟨u4, us4, rfl, r4, w4⟩ := dpAll_c w3
    obtain ⟨u5, us5, rfl, r5, w5⟩ := dpAll_c w4
    cases dp_str r1
    cases dp_str r2
    have := dp_optI r3
    subst this
    cases dp_bool r4
    cases dpAll_0 w5
    exact ⟨a, rfl, .list q r5⟩
theorem blksD_map : ∀ bs : List Blk, blksD bs = bs.map Blk.toD
  | [] => rfl
  | b :: bs => by
    show b.toD :: blksD bs = b.toD :: bs.map Blk.toD
    rw [blksD_map bs]
def sp_rows_in_block (K : PySem.W.Frag) : Sp := fun vs H Q _ => ∃ (G : Hp) (v : V) (b : Blk), vs = [v] ∧ Same G H ∧ Dp K G v b.toD ∧
  ∀ p H' ws, Same H H' → H p = none → H' p = some (.lst ws) → All2 (RowIs K blocksF G) ws b.sub → Q (.ref p) H'
theorem ok_rows_in_block {P : Program} {w : World} {K : PySem.W.Frag} {mg : Str → Option Value} {base : Heap} (T : Txt w K mg) : FnOk P w K mg base CX0 1 T.a_rows_in_block T.d_rows_in_block ["block"] (sp_rows_in_block K) := by
  refine T.f_rows_in_block.ok sc_rows_in_block (fun vs H Q E h => ?_) (fun cdv A outer s H vs Q E hr h => ?_)
  · obtain ⟨G, v, b, rfl, _⟩ := h
    rfl
  · obtain ⟨G, v, b, rfl, sG, hv, q⟩ := h
    refine ⟨_, (pss_cons (ps_if (pt_cmpR op_eq (pe_ix ix_tup (pv 0) pe_int (fun _ _ => rfl)) pe_str (nomark _)) (pss_one (ps_ret (pe_lst (pa_cons (pe_ix ix_tup (pv 0) pe_int (fun _ _ => rfl)) pa_nil)))) pss_nil)
        (pss_cons (ps_if (pt_cmpR op_eq (pe_ix ix_tup (pv 0) pe_int (fun _ _ => rfl)) pe_str (nomark _)) (pss_one (ps_ret (pe_callTy call_list_of (by rfl) T.z_list (by decide +kernel) (pa_cons (pe_ix ix_tup (pv 0) pe_int (fun _ _ => rfl)) pa_nil)))) pss_nil)
        (pss_one (ps_ret (pe_lst pa_nil))))), ?_⟩
    obtain ⟨a, rfl, ha⟩ := blk_at hv
    have fin0 : ∀ (H1 : Hp), Same H H1 → b.sub = [] → ∀ p, H1 p = none → Q (.ref p) (upd H1 p (.lst [])) := fun H1 s1 e p np => q p _ [] (s1.trans (same_new np)) (s1.free np) upd_same (by rw [e]; exact .nil)
    cases ha
    case quote hq hu =>
      refine ⟨_, rfl, a, _, _, _, rfl, rfl, same_tup sG hq, at0, rfl, _, rfl, ifT (by decide +kernel) ?_⟩
      refine ⟨_, rfl, a, _, _, _, rfl, rfl, same_tup sG hq, at1, (by show 1 ≤ sizeLine; decide), fun p np => ?_⟩
      exact q p _ _ (same_new np) np upd_same (.one (row_is hu (blksD_map _)))
    case list hq hu =>
      refine ⟨_, rfl, a, _, _, _, rfl, rfl, same_tup sG hq, at0, rfl, _, rfl, ifF (by decide +kernel) ?_⟩
      refine ⟨_, rfl, a, _, _, _, rfl, rfl, same_tup sG hq, at0, rfl, _, rfl, ifT (by decide +kernel) ?_⟩
      obtain ⟨c, vs, rfl, hc, dvs⟩ := dp_tup hu
      refine ⟨_, rfl, a, _, _, _, rfl, rfl, same_tup sG hq, atI_nat (j := 4) rfl, c, vs, rfl, .inr (same_tup sG hc), fun p np => ?_⟩
      refine q p _ _ (same_new np) np upd_same ?_
      rw [itsD_map] at dvs
      exact (All2.map.mp (dpAll_all2 dvs)).mono fun _ _ h => row_is h (blksD_map _)
    all_goals
      rename_i hq
      refine ⟨_, rfl, a, _, _, _, rfl, rfl, same_tup sG (by assumption), at0, rfl, _, rfl, ifF (by decide +kernel) ?_⟩
      refine ⟨_, rfl, a, _, _, _, rfl, rfl, same_tup sG (by assumption), at0, rfl, _, rfl, ifF (by decide +kernel) ?_⟩
      exact ⟨(by show 0 ≤ sizeLine; decide), fun p np => fin0 _ (Same.refl _) rfl p np⟩
theorem in_rows_blocks {K : PySem.W.Frag} : InOk K blocksF (sp_rows_in_block K) := fun G H v x Q sG hv q => ⟨G, v, x, rfl, sG, hv, q⟩
def TxL : List (List Nat) := InfosL.filterMap _root_.id
def whB (t : List Nat) : Bool := !(Builtin.Str.occurrences (" \t\n" : Str) (cutS (S t) none (some 1)) 0 (" \t\n" : Str).length 1).isEmpty
theorem lang_ok : ∀ t ∈ TxL, t.length ≤ 100 ∧ ((whB t = true ∧ langP (some t) = []) ∨ (whB t = false ∧ (Txt.words (S t)).head? = some (S (firstW t)) ∧ (firstW t).length ≤ 100 ∧ (langP (some t)).length ≤ 1000 ∧ cs " class=\"language-" ++ escL (firstW t) ++ cs "\"" = langP (some t))) := by decide +kernel
def sp_language (K : PySem.W.Frag) : Sp := fun vs H Q _ => ∃ i, vs = [optV i] ∧ i ∈ InfosL ∧ ∀ H', Same H H' → Q (.str (S (langP i))) H'
theorem ok_language {P : Program} {w : World} {K : PySem.W.Frag} {mg : Str → Option Value} {base : Heap} (T : Txt w K mg) : FnOk P w K mg base CX0 2 T.a_language T.d_language ["info"] (sp_language K) := by
  refine T.f_language.ok sc_language (fun vs H Q E h => ?_) (fun cdv A outer s H vs Q E hr h => ?_)
  · obtain ⟨i, rfl, _⟩ := h
    rfl
  · obtain ⟨i, rfl, hi, q⟩ := h
    refine ⟨_, (pss_cons (ps_if (PW.pt (pw_or (pt_cmpR op_isN (pv 0) pe_non (nomark _)) (pw_or1 (pt_cmpR op_in_str (pe_slice sl_str (pv 0) po_none (po_some pe_int)) (pe_glob (v := .str " \t\n") rfl T.g_INLINE_WHITE ⟨_, rfl⟩) (by rfl))))) (pss_one (ps_ret pe_str)) pss_nil)
        (pss_one (ps_ret (pe_op op_add_str (pe_op op_add_str pe_str (pe_call (ok_escaped T) (hr.mono (by decide)) (by rfl) T.g_escaped T.f_escaped.kp T.b_escaped .nil pass0 (pa_cons (pe_ix ix_list (pe_words (pv 0)) pe_int (fun _ _ => rfl)) pa_nil))) pe_str)))), ?_⟩
    have hall : i = none ∨ ∃ t, i = some t ∧ t ∈ TxL := by
      cases i with
      | none => exact .inl rfl
      | some t => exact .inr ⟨t, rfl, List.mem_filterMap.mpr ⟨some t, hi, rfl⟩⟩
    rcases hall with rfl | ⟨t, rfl, ht⟩
    · exact ⟨_, rfl, rfl, _, rfl, iteT (iteT (sr_ret (sr_lit.eq (by decide +kernel)) (by decide) q))⟩
    · obtain ⟨h1, h2⟩ := lang_ok t ht
      refine ⟨_, rfl, rfl, _, rfl, iteF ⟨_, rfl, _, rfl, S t, rfl, by rw [S_len, sizeLine_eq]; omega, _, _, rfl, rfl, _, rfl, ?_⟩⟩
      show if whB t = true then _ else _
      rcases h2 with ⟨e, e2⟩ | ⟨e, e1, e2, e4, e3⟩
      · refine ifT e ?_
        exact sr_ret (sr_lit.eq (by rw [e2]; decide +kernel)) (by rw [e2]; exact Nat.zero_le _) q
      · refine ifF e (go_nx ?_)
        dsimp only
        refine sr_ret ((sr_add (sr_add sr_lit (sr_esc ?_ (Nat.le_trans e2 (by decide)))) sr_lit).eq e3) (Nat.le_trans e4 (by decide)) q
        refine fun _ H1 Q1 s1 q1 => ⟨_, rfl, ⟨_, rfl⟩, S t, rfl, rfl, by rw [S_len, sizeLine_eq]; omega, fun p np => ?_⟩
        cases ew : Txt.words (S t) with
        | nil => rw [ew] at e1; cases e1
        | cons z zs =>
          rw [ew] at e1
          cases e1
          exact ⟨p, _, _, _, rfl, rfl, SqL.of upd_same, atI_nat (j := 0) rfl, q1 _ (same_new np)⟩

/-! ### pages of blocks -/
theorem bsP_app : ∀ a b : List Blk, bsP (a ++ b) = bsP a ++ bsP b
  | [], b => rfl
  | x :: a, b => by
    show bp x ++ bsP (a ++ b) = bp x ++ bsP a ++ bsP b
    rw [bsP_app a b, List.append_assoc]
theorem bsP_flat : ∀ bs : List Blk, (bs.map bp).flatten = bsP bs
  | [] => rfl
  | b :: bs => by
    show bp b ++ (bs.map bp).flatten = bp b ++ bsP bs
    rw [bsP_flat bs]
theorem pBs_len : ∀ bs : List Blk, bs.length ≤ pBs bs
  | [] => Nat.le_refl _
  | b :: bs => by
    have h1 := pBs_len bs
    have h2 := pB_pos b
    show bs.length + 1 ≤ pB b + pBs bs
    omega
def sp_joined_pages (K : PySem.W.Frag) : Sp := fun vs H Q _ => ∃ (p : Addr) (ws : List V) (row : List Blk), vs = [.ref p] ∧ H p = some (.lst ws) ∧ All2 (PgIs H) ws row ∧ sBs row = true ∧ pBs row ≤ 900 ∧ ∀ H', Same H H' → Q (.str (S (bsP row))) H'
theorem ok_joined_pages {P : Program} {w : World} {K : PySem.W.Frag} {mg : Str → Option Value} {base : Heap} (T : Txt w K mg) : FnOk P w K mg base CX0 1 T.a_joined_pages T.d_joined_pages ["pages"] (sp_joined_pages K) := by
  refine T.f_joined_pages.ok sc_joined_pages (fun vs H Q E h => ?_) (fun cdv A outer s H vs Q E hr h => ?_)
  · obtain ⟨p, ws, row, rfl, _⟩ := h
    rfl
  · obtain ⟨p, ws, row, rfl, hp, aw, hs, hn, q⟩ := h
    refine ⟨_, (pss_one (ps_ret (pe_join pe_str (pe_lc (own := [("whole", 1), ("_", 2)]) (g := (gTup K 2 (gCons (gName 1) (gCons (gName 2) gNil)))) (tt := tYes) (by rfl) sc_joined_pages.nd (pi_list (pv 0)) (blkOk_by (own := [("whole", 1), ("_", 2)]) (N := ["pages", "whole", "_"]) (sc := defScope s_joined_pages) (by decide +kernel)) (fun _ _ _ _ _ => (pg_tup (by rfl) (pgs_cons (pg_name (i := 1) sc_joined_pages.nd rfl (.inl rfl)) (pgs_cons (pg_name (i := 2) sc_joined_pages.nd rfl (.inl rfl)) pgs_nil)))) (fun _ _ _ _ _ => pts_nil) (fun _ _ _ _ _ => (pv 1)))))), ?_⟩
    refine ⟨⟨_, rfl⟩, _, rfl, ?_⟩
    have hl := pBs_len row
    refine ⟨p, rfl, ⟨ws, SqL.of hp⟩, fun D nD => lc_texts (K := K) (xs := ws) (row.map bp) (by rw [aw.1, List.length_map]) (SqL.of hp) (by rw [List.length_map]; omega) nD ?_ ?_⟩
    · intro i x l H1 Qv hx hf s1 qv
      rw [List.getElem?_map] at hf
      cases e : row[i]? with
      | none => rw [e] at hf; cases hf
      | some b =>
        rw [e] at hf
        cases hf
        obtain ⟨r, rfl, hr⟩ := aw.2 i x b hx e
        exact ⟨r, _, rfl, SqT.of (s1 _ _ hr), rfl, _, _, rfl, _, _, rfl, rfl, rfl, _, rfl, qv H1 (Same.refl _)⟩
    · intro H1 s1 hD
      refine join_done hD (by rw [bsP_flat]; have := bsP_len row hs; omega) ?_
      rw [bsP_flat]
      exact q H1 s1
def sp_leaf_page (K : PySem.W.Frag) : Sp := fun vs H Q _ => ∃ (v : V) (b : Blk), vs = [v] ∧ Dp K H v b.toD ∧ b.sub = [] ∧ isPar b = false ∧ (match b with | .quote _ => False | .list _ _ _ _ => False | _ => True) ∧ sB b = true ∧ pB b ≤ 900 ∧ ∀ H', Same H H' → Q (.str (S (bp b))) H'
theorem ok_leaf_page {P : Program} {w : World} {K : PySem.W.Frag} {mg : Str → Option Value} {base : Heap} (T : Txt w K mg) : FnOk P w K mg base CX0 12 T.a_leaf_page T.d_leaf_page ["block"] (sp_leaf_page K) := by
  refine T.f_leaf_page.ok sc_leaf_page (fun vs H Q E h => ?_) (fun cdv A outer s H vs Q E hr h => ?_)
  · obtain ⟨v, b, rfl, _⟩ := h
    rfl
  · obtain ⟨v, b, rfl, hv, hsub, hpar, hk, hs, hn, q⟩ := h
    refine ⟨_, (pss_cons (ps_set (i := 1) sc_leaf_page.nd rfl (.inl rfl) (pe_ix ix_tup (pv 0) pe_int (fun _ _ => rfl)))
        (pss_cons (ps_if (pt_cmpR op_eq (pv 1) pe_str (nomark _)) (pss_one (ps_ret (pe_op op_add_str (pe_op op_add_str (pe_joined (.cons pe_str (.cons (pe_fmt (pe_ix ix_tup (pv 0) pe_int (fun _ _ => rfl))) (.cons pe_str .nil)))) (pe_call (ok_inline_page T) (hr.mono (by decide)) (by rfl) T.g_inline_page T.f_inline_page.kp T.b_inline_page .nil pass0 (pa_cons (pe_ix ix_tup (pv 0) pe_int (fun _ _ => rfl)) pa_nil))) (pe_joined (.cons pe_str (.cons (pe_fmt (pe_ix ix_tup (pv 0) pe_int (fun _ _ => rfl))) (.cons pe_str .nil))))))) pss_nil)
        (pss_cons (ps_if (pt_cmpR op_eq (pv 1) pe_str (nomark _)) (pss_one (ps_ret pe_str)) pss_nil)
        (pss_cons (ps_if (pt_cmpR op_eq (pv 1) pe_str (nomark _)) (pss_one (ps_ret (pe_op op_add_str (pe_op op_add_str (pe_op op_add_str (pe_op op_add_str pe_str (pe_call (ok_language T) (hr.mono (by decide)) (by rfl) T.g_language T.f_language.kp T.b_language .nil pass0 (pa_cons (pe_ix ix_tup (pv 0) pe_int (fun _ _ => rfl)) pa_nil))) pe_str) (pe_call (ok_escaped T) (hr.mono (by decide)) (by rfl) T.g_escaped T.f_escaped.kp T.b_escaped .nil pass0 (pa_cons (pe_ix ix_tup (pv 0) pe_int (fun _ _ => rfl)) pa_nil))) pe_str))) pss_nil)
        (pss_cons (ps_if (pt_cmpR op_eq (pv 1) pe_str (nomark _)) (pss_one (ps_ret (pe_ix ix_tup (pv 0) pe_int (fun _ _ => rfl)))) pss_nil)
        (pss_one (ps_ret pe_str))))))), ?_⟩
    have hlen := bp_len b hs
    obtain ⟨a, rfl, ha⟩ := blk_at hv
    cases ha
    case quote => exact hk.elim
    case list => exact hk.elim
    case par => cases hpar
    all_goals
      refine ⟨_, rfl, a, _, _, _, rfl, rfl, (by assumption), at0, ?_⟩
      refine ⟨_, rfl, rfl, _, rfl, ?_⟩
    case heading u l r hq hu =>
      have h' : (decide (l < 7) && sR r) = true := hs
      rw [Bool.and_eq_true] at h'
      have hl := of_decide_eq_true h'.1
      have hr : 1 + pcR r ≤ 900 := hn
      refine ifT (by decide +kernel) ?_
      refine sr_ret ((sr_add (sr_add (sr_js (jr_cons sr_lit (jr_cons (sr_fmt (vr_tup (j := 1) rfl hq rfl) (by omega)) (jr_cons sr_lit jr_nil)))) (sr_inl (vr_tup (j := 2) rfl hq rfl) hu h'.2 (by omega))) (sr_js (jr_cons sr_lit (jr_cons (sr_fmt (vr_tup (j := 1) rfl hq rfl) (by omega)) (jr_cons sr_lit jr_nil))))).eq ?_) (Nat.le_trans (Nat.le_of_succ_le hlen) (by omega)) q
      show _ = cs "<h" ++ decN l ++ cs ">" ++ rp r ++ cs "</h" ++ decN l ++ cs ">\n"
      simp only [List.append_assoc, List.append_nil]
    case brk hq =>
      refine ifF (by decide +kernel) ⟨_, rfl, rfl, _, rfl, ?_⟩
      refine ifT (by decide +kernel) ?_
      exact sr_ret sr_lit (Nat.le_trans (Nat.le_of_succ_le hlen) (by omega)) q
    case code t i hq =>
      refine ifF (by decide +kernel) ⟨_, rfl, rfl, _, rfl, ?_⟩
      refine ifF (by decide +kernel) ⟨_, rfl, rfl, _, rfl, ?_⟩
      refine ifT (by decide +kernel) ?_
      have h' : (decide (t.length ≤ 50) && InfosL.contains i) = true := hs
      rw [Bool.and_eq_true] at h'
      have hl := of_decide_eq_true h'.1
      exact sr_ret (sr_add (sr_add (sr_add (sr_add sr_lit (sr_lang (vr_tup (j := 2) rfl hq rfl) (by simpa using h'.2))) sr_lit) (sr_esc (sr_tup (j := 1) rfl hq rfl) (by omega))) sr_lit) (Nat.le_trans (Nat.le_of_succ_le hlen) (by omega)) q
    case html t hq =>
      refine ifF (by decide +kernel) ⟨_, rfl, rfl, _, rfl, ?_⟩
      refine ifF (by decide +kernel) ⟨_, rfl, rfl, _, rfl, ?_⟩
      refine ifF (by decide +kernel) ⟨_, rfl, rfl, _, rfl, ?_⟩
      refine ifT (by decide +kernel) ?_
      exact sr_ret (sr_tup (j := 1) rfl hq rfl) (Nat.le_trans (Nat.le_of_succ_le hlen) (by omega)) q
    case defn l d t hq =>
      refine ifF (by decide +kernel) ⟨_, rfl, rfl, _, rfl, ?_⟩
      refine ifF (by decide +kernel) ⟨_, rfl, rfl, _, rfl, ?_⟩
      refine ifF (by decide +kernel) ⟨_, rfl, rfl, _, rfl, ?_⟩
      refine ifF (by decide +kernel) (go_nx ?_)
      dsimp only
      exact sr_ret (sr_lit.eq (show cs "" = [] by decide +kernel)) (Nat.zero_le _) q
theorem ends_nl (l : List Nat) : Txt.endswith (S l) ("\n" : Str) = (l.getLast? == some 10) := by
  rw [show ("\n" : Str) = S [10] by decide +kernel]
  show (decide (0 + (S [10]).length ≤ (S l).length) && PySem.Builtin.Str.subAt (S l) (S [10]) ((S l).length - (S [10]).length)) = _
  rw [sub_S, S_len, S_len]
  cases e : l.getLast? with
  | none =>
    rw [List.getLast?_eq_none_iff.mp e]
    decide
  | some c =>
    obtain ⟨r, rfl⟩ := List.getLast?_eq_some_iff.mp e
    rw [List.length_append, List.length_singleton, List.length_singleton, Nat.add_sub_cancel, List.drop_left]
    have : decide (0 + 1 ≤ r.length + 1) = true := decide_eq_true (by omega)
    rw [this]
    show (true && ([c].take 1 == [10])) = (some c == some 10)
    show ([c] == [10]) = (some c == some 10)
    by_cases h : c = 10
    · subst h
      rfl
    · have h1 : ([c] == [10]) = false := by simpa using h
      have h2 : (some c == some 10) = false := by simpa using h
      rw [h1, h2]
def sp_item_page (K : PySem.W.Frag) : Sp := fun vs H Q _ => ∃ (p : Addr) (ws : List V) (row : List Blk) (t : Bool), vs = [.ref p, .bl t] ∧ H p = some (.lst ws) ∧ All2 (PgIs H) ws row ∧ sBs row = true ∧ pBs row ≤ 900 ∧ ∀ H', Same H H' → Q (.str (S (itemP t (cs "<li>") true row ++ cs "</li>\n"))) H'
theorem ok_item_page {P : Program} {w : World} {K : PySem.W.Frag} {mg : Str → Option Value} {base : Heap} (T : Txt w K mg) : FnOk P w K mg base CX0 1 T.a_item_page T.d_item_page ["pages", "is_tight"] (sp_item_page K) := by
  refine T.f_item_page.ok sc_item_page (fun vs H Q E h => ?_) (fun cdv A outer s H vs Q E hr h => ?_)
  · obtain ⟨p, ws, row, t, rfl, _⟩ := h
    rfl
  · obtain ⟨p, ws, row, t, rfl, hp, aw, hs, hn, q⟩ := h
    refine ⟨_, (pss_cons (ps_set (i := 2) sc_item_page.nd rfl (.inl rfl) pe_str)
        (pss_cons (ps_set (i := 3) sc_item_page.nd rfl (.inl rfl) pe_bl)
        (pss_cons (ps_for PassesOwn.never rfl (pi_list (pv 0)) (pg_tup (by rfl) (pgs_cons (pg_name (i := 4) sc_item_page.nd rfl (.inl rfl)) (pgs_cons (pg_name (i := 5) sc_item_page.nd rfl (.inl rfl)) pgs_nil))) (pss_cons (ps_set (i := 6) sc_item_page.nd rfl (.inl rfl) (pe_and (pv 1) (pe_one (pe_cmpR op_notN (pv 5) pe_non (nomark _)))))
        (pss_one (ps_if (pt_cmpR op_ne (pv 4) pe_str (nomark _)) (pss_cons (ps_if (PW.pt (pw_and (pt_not (pt_val (pe_bm PySem.F.plainAttrs_str PySem.F.slot_str_endswith PySem.F.type_str_endswith mt_endswith (pv 2) (pa_cons pe_str pa_nil)))) (pw_and1 (pt_not (PW.pt (pw_and (pt_val (pv 6)) (pw_and1 (pt_val (pv 3))))))))) (pss_one (ps_aug (i := 2) sc_item_page.nd rfl (.inl rfl) pe_str ip_str)) pss_nil)
        (pss_cons (ps_if (pt_val (pv 6)) (pss_one (ps_aug (i := 2) sc_item_page.nd rfl (.inl rfl) (pv 5) ip_str)) (pss_one (ps_aug (i := 2) sc_item_page.nd rfl (.inl rfl) (pv 4) ip_str)))
        (pss_one (ps_set (i := 3) sc_item_page.nd rfl (.inl rfl) pe_bl)))) pss_nil))))
        (pss_one (ps_ret (pe_op op_add_str (pv 2) pe_str)))))), ?_⟩
    have hl := pBs_len row
    obtain ⟨_, _, _, _, _, _, _, _, _, _, c11, c12⟩ := cs_len2
    refine ⟨_, rfl, p, rfl, ⟨ws, SqL.of hp⟩, ?_⟩
    refine for_list (K := K) (a := p) (xs := ws) (fun i σ' H' => ∃ (acc : List Nat) (first : Bool) (a4 a5 a6 : Option V), σ' = [some (.ref p), some (.bl t), some (.str (S acc)), some (.bl first), a4, a5, a6] ∧ Same H H' ∧ itemP t (cs "<li>") true row = itemP t acc first (row.drop i) ∧ acc.length + 3000 * pBs (row.drop i) ≤ 4 + 3000 * pBs row) ?_ (fun i σ' H' _ h => ?_) ?_ ?_
    · refine ⟨cs "<li>", true, none, none, none, by rw [← lit]; rfl, Same.refl _, rfl, by rw [List.drop_zero, c11]; omega⟩
    · obtain ⟨acc, first, a4, a5, a6, rfl, s1, _⟩ := h
      exact SqL.of (s1 _ _ hp)
    · rintro i x σ' H1 hx ⟨acc, first, a4, a5, a6, rfl, s1, he, hm⟩
      have hi : i < row.length := by rw [← aw.1]; exact (List.getElem?_eq_some_iff.mp hx).1
      obtain ⟨b, hb⟩ : ∃ b, row[i]? = some b := ⟨_, List.getElem?_eq_getElem hi⟩
      obtain ⟨r, rfl, hr⟩ := aw.2 i x b hx hb
      obtain ⟨sb, pb⟩ := sBs_mem hs (List.mem_of_getElem? hb)
      have ed : row.drop i = b :: row.drop (i + 1) := by
        rw [List.drop_eq_getElem_cons hi]
        have := List.getElem?_eq_getElem hi
        rw [hb] at this
        cases this
        rfl
      rw [ed] at he hm
      have hm' : acc.length + 3000 * (pB b + pBs (row.drop (i + 1))) ≤ 4 + 3000 * pBs row := hm
      have hbl := bp_len b sb
      refine ⟨r, _, rfl, SqT.of (s1 _ _ hr), rfl, _, _, rfl, _, _, rfl, rfl, ?_⟩
      refine asg_b (t && isPar b) (fun Qv qv => ⟨_, rfl, t, rfl, ?_⟩) ?_
      · cases t with
        | false => exact iteF qv
        | true =>
          refine iteT ⟨_, rfl, rfl, ?_⟩
          have e : (!decide (bareV b = V.non)) = (true && isPar b) := by cases b <;> rfl
          rw [e]
          exact qv
      · refine ⟨_, rfl, rfl, _, rfl, ?_⟩
        cases hd : isDefn b with
        | true =>
          have e1 : bp b = [] := (bp_ne sb).mpr hd
          have e2 : (!decide (V.str (S (bp b)) = V.str "")) = false := by rw [e1]; decide +kernel
          refine ifF e2 (go_nx ?_)
          refine ⟨acc, first, _, _, _, rfl, s1, ?_, by omega⟩
          rw [he]
          show (if isDefn b = true then itemP t acc first (row.drop (i + 1)) else _) = _
          rw [if_pos hd]
        | false =>
          have e1 : bp b ≠ [] := fun e => by
            have := (bp_ne sb).mp e
            rw [hd] at this
            cases this
          have e2 : (!decide (V.str (S (bp b)) = V.str "")) = true := by
            rw [decide_eq_false fun h => e1 (S_inj (by rw [← lit_em]; exact V.str.inj h))]
            rfl
          refine ifT e2 ?_
          have hbare := bare_len b sb
          have hnl := nl_len acc (t && isPar b && first)
          refine if_J (!(acc.getLast? == some 10) && !(t && isPar b && first)) (fun σ' H' => σ' = [some (.ref p), some (.bl t), some (.str (S (acc ++ nlP acc (t && isPar b && first)))), some (.bl first), some (.str (S (bp b))), some (bareV b), some (.bl (t && isPar b))] ∧ Same H1 H') ?_ ?_ ?_ ?_
          · have ee := ends_nl acc
            refine andB' (fun Qb qb => ?_) (fun Qb qb => ?_)
            · refine ⟨_, rfl, rfl, _, _, rfl, rfl, _, rfl, ?_⟩
              rw [ee]
              exact qb
            · cases hc : (t && isPar b) with
              | true =>
                rw [hc] at qb
                exact ⟨_, rfl, _, rfl, iteT ⟨_, rfl, _, rfl, qb⟩⟩
              | false =>
                rw [hc] at qb
                exact ⟨_, rfl, _, rfl, iteF qb⟩
          · intro hb1 D' hD
            have e3 : nlP acc (t && isPar b && first) = [10] := by
              rw [Bool.and_eq_true] at hb1
              unfold nlP
              rw [if_neg]
              rintro (h | h)
              · rw [h] at hb1
                exact absurd hb1.1 (by decide)
              · rw [h] at hb1
                exact absurd hb1.2 (by decide)
            have e4 : cs "\n" = [10] := by decide +kernel
            rw [e3] at hD
            exact aug_sr rfl (sr_lit.eq e4) (by rw [List.length_append]; show acc.length + 1 ≤ _; omega) fun H' s2 => hD _ _ ⟨rfl, s2⟩
          · intro hb1 D' hD
            have e3 : nlP acc (t && isPar b && first) = [] := by
              unfold nlP
              rw [if_pos]
              cases h : acc.getLast? == some 10 with
              | true => exact .inl (by simpa using h)
              | false =>
                rw [h] at hb1
                exact .inr (by simpa using hb1)
            rw [e3, List.append_nil] at hD
            exact hD _ _ ⟨rfl, Same.refl _⟩
          · rintro σ' H2 ⟨rfl, s2⟩
            refine if_J (t && isPar b) (fun σ' H' => σ' = [some (.ref p), some (.bl t), some (.str (S (acc ++ nlP acc (t && isPar b && first) ++ (if (t && isPar b) = true then bareP b else bp b)))), some (.bl first), some (.str (S (bp b))), some (bareV b), some (.bl (t && isPar b))] ∧ Same H2 H') (fun Qb qb => ⟨_, rfl, _, rfl, qb⟩) ?_ ?_ ?_
            · intro hb2 D' hD
              rw [if_pos hb2] at hD
              have e5 : bareV b = .str (S (bareP b)) := by
                rw [Bool.and_eq_true] at hb2
                cases b <;> first | rfl | cases hb2.2
              exact aug_sr rfl (sr_var (by rw [e5]; rfl)) (by rw [List.length_append, List.length_append]; omega) fun H' s3 => hD _ _ ⟨rfl, s3⟩
            · intro hb2 D' hD
              rw [if_neg (by rw [hb2]; exact Bool.false_ne_true)] at hD
              exact aug_sr rfl (sr_var rfl) (by rw [List.length_append, List.length_append]; omega) fun H' s3 => hD _ _ ⟨rfl, s3⟩
            · rintro σ' H3 ⟨rfl, s3⟩
              refine ⟨_, false, _, _, _, rfl, (s1.trans s2).trans s3, ?_, ?_⟩
              · rw [he]
                show (if isDefn b = true then _ else itemP t (acc ++ nlP acc (t && isPar b && first) ++ (if (t && isPar b) = true then bareP b else bp b)) false (row.drop (i + 1))) = _
                rw [if_neg (by rw [hd]; exact Bool.false_ne_true)]
              · rw [List.length_append, List.length_append]
                have : (if (t && isPar b) = true then bareP b else bp b).length ≤ (bp b).length := by
                  split
                  · exact hbare
                  · exact Nat.le_refl _
                omega
    · rintro σ' H1 ⟨acc, first, a4, a5, a6, rfl, s1, he, hm⟩
      have e0 : row.drop ws.length = [] := by rw [aw.1]; exact List.drop_length
      rw [e0] at he hm
      have he' : itemP t (cs "<li>") true row = acc := he
      have hm' : acc.length + 3000 * 0 ≤ 4 + 3000 * pBs row := hm
      rw [he'] at q
      exact sr_ret (sr_add (sr_var rfl) sr_lit) (by rw [List.length_append]; omega) fun H' s2 => q H' (s1.trans s2)

/-! ### pages of lists, of blocks -/
theorem itsP_flat (t : Bool) : ∀ its : List (List Blk), (its.map fun bs => itemP t (cs "<li>") true bs ++ cs "</li>\n").flatten = itsP t its
  | [] => rfl
  | bs :: its => by
    show (itemP t (cs "<li>") true bs ++ cs "</li>\n") ++ (its.map fun bs => itemP t (cs "<li>") true bs ++ cs "</li>\n").flatten = _
    rw [itsP_flat t its]
    rfl
theorem start_ok : ∀ n ∈ ([0, 1, 2, 7, 999999999] : List Nat), n < 2 ^ 64 ∧ (n ≠ 1 → cs "<ol start=\"" ++ (decN n ++ (cs "\">\n" ++ [])) = openP (some n)) := by decide +kernel
theorem starts_in {n : Nat} (h : some n ∈ StartsL) : n ∈ ([0, 1, 2, 7, 999999999] : List Nat) := by
  unfold StartsL at h
  simpa using h
def sp_list_page (K : PySem.W.Frag) : Sp := fun vs H Q _ => ∃ (G : Hp) (v : V) (g : Str) (st : Option Nat) (t : Bool) (its : List (List Blk)) (l : Addr) (ws : List V), vs = [v, .ref l] ∧ Same G H ∧ Dp K G v (Blk.list g st t its).toD ∧ H l = some (.lst ws) ∧ All2 (blocksF.RR H) ws its ∧
  sB (Blk.list g st t its) = true ∧ pB (Blk.list g st t its) ≤ 900 ∧ ∀ H', Same H H' → Q (.str (S (bp (Blk.list g st t its)))) H'
theorem ok_list_page {P : Program} {w : World} {K : PySem.W.Frag} {mg : Str → Option Value} {base : Heap} (T : Txt w K mg) : FnOk P w K mg base CX0 2 T.a_list_page T.d_list_page ["block", "rows"] (sp_list_page K) := by
  refine T.f_list_page.ok sc_list_page (fun vs H Q E h => ?_) (fun cdv A outer s H vs Q E hr h => ?_)
  · obtain ⟨G, v, g, st, t, its, l, ws, rfl, _⟩ := h
    rfl
  · obtain ⟨G, v, g, st, t, its, l, ws, rfl, sG, hv, hl, aw, hs, hn, q⟩ := h
    refine ⟨_, (pss_cons (ps_asg (pe_tup (pa_cons (pe_ix ix_tup (pv 0) pe_int (fun _ _ => rfl)) (pa_cons (pe_ix ix_tup (pv 0) pe_int (fun _ _ => rfl)) pa_nil))) (pg_tup (by rfl) (pgs_cons (pg_name (i := 2) sc_list_page.nd rfl (.inl rfl)) (pgs_cons (pg_name (i := 3) sc_list_page.nd rfl (.inr rfl)) pgs_nil))))
        (pss_cons (ps_set (i := 4) sc_list_page.nd rfl (.inl rfl) (pe_join pe_str (pe_lc (own := [("pages", 5)]) (g := (gName 5)) (tt := tYes) (by rfl) sc_list_page.nd (pi_list (pv 1)) (blkOk_by (own := [("pages", 5)]) (N := ["block", "rows", "start", "is_tight", "items", "pages"]) (sc := defScope s_list_page) (by decide +kernel)) (fun _ _ _ _ _ => (pg_name (i := 5) sc_list_page.nd rfl (Or.inl rfl))) (fun _ _ _ _ _ => pts_nil) (fun _ _ _ _ _ => (pe_call (ok_item_page T) (hr.mono (by decide)) (by rfl) T.g_item_page T.f_item_page.kp T.b_item_page .nil pass0 (pa_cons (pv 5) (pa_cons (pv 3) pa_nil)))))))
        (pss_cons (ps_if (pt_cmpR op_isN (pv 2) pe_non (nomark _)) (pss_one (ps_ret (pe_op op_add_str (pe_op op_add_str pe_str (pv 4)) pe_str))) pss_nil)
        (pss_cons (ps_if (pt_cmpR op_eq (pv 2) pe_int (nomark _)) (pss_one (ps_ret (pe_op op_add_str (pe_op op_add_str pe_str (pv 4)) pe_str))) pss_nil)
        (pss_one (ps_ret (pe_op op_add_str (pe_op op_add_str (pe_joined (.cons pe_str (.cons (pe_fmt (pv 2)) (.cons pe_str .nil)))) (pv 4)) pe_str))))))), ?_⟩
    have hlen := bp_len _ hs
    obtain ⟨a, rfl, ha⟩ := blk_at hv
    cases ha
    rename_i u hq hu
    have h' : (decide (its.length ≤ 3) && StartsL.contains st && sIts its) = true := hs
    rw [Bool.and_eq_true, Bool.and_eq_true] at h'
    have hi3 : its.length ≤ 3 := of_decide_eq_true h'.1.1
    have hst : st ∈ StartsL := by simpa using h'.1.2
    have hpi : 1 + pIts its ≤ 900 := hn
    have hil := itsP_len t its h'.2
    refine ⟨_, rfl, a, _, _, _, rfl, rfl, same_tup sG hq, atI_nat (j := 2) rfl, _, rfl, a, _, _, _, rfl, rfl, same_tup sG hq, atI_nat (j := 3) rfl, (by show 2 ≤ sizeLine; decide), fun t1 n1 => ⟨t1, _, rfl, SqT.of upd_same, rfl, _, _, rfl, _, _, rfl, rfl, ?_⟩⟩
    have s0 : Same H (upd H t1 (.tup [optIv st, .bl t])) := same_new n1
    refine ⟨⟨_, rfl⟩, _, rfl, l, rfl, ⟨ws, SqL.of (s0 _ _ hl)⟩, fun D nD => lc_texts (K := K) (xs := ws) (its.map fun bs => itemP t (cs "<li>") true bs ++ cs "</li>\n") (aw.1.trans (List.length_map _).symm) (SqL.of (s0 _ _ hl)) (by rw [List.length_map]; omega) nD ?_ ?_⟩
    · intro i x z H1 Qv hx hf s1 qv
      rw [List.getElem?_map] at hf
      cases e : its[i]? with
      | none => rw [e] at hf; cases hf
      | some bs =>
        rw [e] at hf
        cases hf
        obtain ⟨p, ws', rfl, hp, aw'⟩ := blocksF.mono _ _ _ _ (s0.trans s1) (aw.2 i x bs hx e)
        obtain ⟨b1, b2⟩ := sIts_mem h'.2 (List.mem_of_getElem? e)
        exact ⟨rfl, _, rfl, _, rfl, p, ws', bs, t, rfl, hp, aw', b1, by omega, qv⟩
    · intro H1 s1 hD
      have hfl : (its.map fun bs => itemP t (cs "<li>") true bs ++ cs "</li>\n").flatten.length ≤ 16000000 := by
        rw [itsP_flat]
        omega
      dsimp only
      refine join_done_g hD hfl ?_
      rw [itsP_flat]
      have q2 : ∀ H', Same H1 H' → Q (.str (S (bp (Blk.list g st t its)))) H' := fun H' s2 => q H' ((s0.trans s1).trans s2)
      have hL : (bp (Blk.list g st t its)).length ≤ 16000000 := Nat.le_trans (Nat.le_of_succ_le hlen) (by omega)
      cases st with
      | none => exact ⟨_, rfl, rfl, _, rfl, iteT (sr_ret (sr_add (sr_add sr_lit (sr_var rfl)) sr_lit) hL q2)⟩
      | some n =>
        obtain ⟨n64, nok⟩ := start_ok n (starts_in hst)
        refine ⟨_, rfl, rfl, _, rfl, iteF ⟨_, rfl, rfl, _, rfl, ?_⟩⟩
        by_cases h1 : n = 1
        · subst h1
          refine ifT (by decide) ?_
          exact sr_ret (sr_add (sr_add sr_lit (sr_var rfl)) sr_lit) hL q2
        · have e : decide (V.int (n : Int) = V.int 1) = false := decide_eq_false fun h => h1 (by have := V.int.inj h; omega)
          refine ifF e (go_nx ?_)
          dsimp only
          refine sr_ret ((sr_add (sr_add (sr_js (jr_cons sr_lit (jr_cons (sr_fmt (vr_var rfl) n64) (jr_cons sr_lit jr_nil)))) (sr_var rfl)) sr_lit).eq ?_) hL q2
          rw [nok h1]
          rfl
/-! what is new alone -/
def Fresh (G H H' : Hp) : Hp := fun b => if H b = none then H' b else G b
theorem fresh_same {G H H' : Hp} (s : Same G H) : Same G (Fresh G H H') := fun b o e => by
  unfold Fresh
  rw [if_neg (by rw [s b o e]; exact fun h => nomatch h)]
  exact e
theorem fresh_sub {G H H' : Hp} (s : Same G H) (s2 : Same H H') : Same (Fresh G H H') H' := fun b o e => by
  unfold Fresh at e
  split at e
  · exact e
  · exact s2 _ _ (s _ _ e)
theorem fresh_new {G H H' : Hp} : NewIn G (Fresh G H H') H := fun b e => by
  unfold Fresh at e
  split at e
  · rename_i h
    exact .inr h
  · exact .inl e
theorem fresh_at {G H H' : Hp} {b : Addr} {o : HO} (h : H b = none) (e : H' b = some o) : Fresh G H H' b = some o := by
  unfold Fresh
  rw [if_pos h]
  exact e
theorem sr_joined {K : PySem.W.Frag} {G : Hp} {σ : L2.St} {te : TE} {p : Addr} {ws : List V} {row : List Blk} (h : VR G σ te (.ref p)) (hp : G p = some (.lst ws)) (aw : All2 (PgIs G) ws row) (hs : sBs row = true) (hn : pBs row ≤ 900) : SR G σ (tCall (sp_joined_pages K) [] E0 (tCons te tNil)) (bsP row) := fun _ H Q s q => h H _ s ⟨p, ws, row, rfl, s _ _ hp, aw.mono (fun _ _ ⟨q, e, hq⟩ => ⟨q, e, s _ _ hq⟩), hs, hn, q⟩
def sp_pages_of_block (K : PySem.W.Frag) : Sp := fun vs H Q _ => ∃ (G : Hp) (v : V) (b : Blk) (l : Addr) (ws : List V), vs = [v, .ref l] ∧ Same G H ∧ Dp K G v b.toD ∧ H l = some (.lst ws) ∧ All2 (blocksF.RR H) ws b.sub ∧ sB b = true ∧ pB b ≤ 900 ∧
  ∀ H' q, Same H H' → H q = none → H' q = some (.tup [.str (S (bp b)), bareV b]) → Q (.ref q) H'
theorem ok_pages_of_block {P : Program} {w : World} {K : PySem.W.Frag} {mg : Str → Option Value} {base : Heap} (T : Txt w K mg) : FnOk P w K mg base CX0 13 T.a_pages_of_block T.d_pages_of_block ["block", "rows"] (sp_pages_of_block K) := by
  refine T.f_pages_of_block.ok sc_pages_of_block (fun vs H Q E h => ?_) (fun cdv A outer s H vs Q E hr h => ?_)
  · obtain ⟨G, v, b, l, ws, rfl, _⟩ := h
    rfl
  · obtain ⟨G, v, b, l, ws, rfl, sG, hv, hl, aw, hs, hn, q⟩ := h
    refine ⟨_, (pss_cons (ps_set (i := 2) sc_pages_of_block.nd rfl (.inl rfl) (pe_ix ix_tup (pv 0) pe_int (fun _ _ => rfl)))
        (pss_cons (ps_if (pt_cmpR op_eq (pv 2) pe_str (nomark _)) (pss_cons (ps_set (i := 3) sc_pages_of_block.nd rfl (.inl rfl) (pe_call (ok_inline_page T) (hr.mono (by decide)) (by rfl) T.g_inline_page T.f_inline_page.kp T.b_inline_page .nil pass0 (pa_cons (pe_ix ix_tup (pv 0) pe_int (fun _ _ => rfl)) pa_nil)))
        (pss_one (ps_ret (pe_tup (pa_cons (pe_op op_add_str (pe_op op_add_str pe_str (pv 3)) pe_str) (pa_cons (pv 3) pa_nil)))))) pss_nil)
        (pss_cons (ps_if (pt_cmpR op_eq (pv 2) pe_str (nomark _)) (pss_one (ps_ret (pe_tup (pa_cons (pe_op op_add_str (pe_op op_add_str pe_str (pe_call (ok_joined_pages T) (hr.mono (by decide)) (by rfl) T.g_joined_pages T.f_joined_pages.kp T.b_joined_pages .nil pass0 (pa_cons (pe_ix ix_list (pv 1) pe_int (fun _ _ => rfl)) pa_nil))) pe_str) (pa_cons pe_non pa_nil))))) pss_nil)
        (pss_cons (ps_if (pt_cmpR op_eq (pv 2) pe_str (nomark _)) (pss_one (ps_ret (pe_tup (pa_cons (pe_call (ok_list_page T) (hr.mono (by decide)) (by rfl) T.g_list_page T.f_list_page.kp T.b_list_page .nil pass0 (pa_cons (pv 0) (pa_cons (pv 1) pa_nil))) (pa_cons pe_non pa_nil))))) pss_nil)
        (pss_one (ps_ret (pe_tup (pa_cons (pe_call (ok_leaf_page T) (hr.mono (by decide)) (by rfl) T.g_leaf_page T.f_leaf_page.kp T.b_leaf_page .nil pass0 (pa_cons (pv 0) pa_nil)) (pa_cons pe_non pa_nil))))))))), ?_⟩
    have hlen := bp_len b hs
    have hv0 := hv
    obtain ⟨a, rfl, ha⟩ := blk_at hv
    have fin : ∀ (H1 : Hp), Same H H1 → ∀ p, H1 p = none → Q (.ref p) (upd H1 p (.tup [.str (S (bp b)), bareV b])) := fun H1 s1 p np => q _ p (s1.trans (same_new np)) (s1.free np) upd_same
    have hL : (bp b).length ≤ 16000000 := Nat.le_trans (Nat.le_of_succ_le hlen) (by omega)
    cases ha
    all_goals
      refine ⟨_, rfl, a, _, _, _, rfl, rfl, same_tup sG (by assumption), at0, ?_⟩
      refine ⟨_, rfl, rfl, _, rfl, ?_⟩
    case par u r hq hu =>
      have hr : 1 + pcR r ≤ 900 := hn
      have hrl := rp_len r hs
      refine ifT (by decide +kernel) ?_
      refine asg_sr (by omega) (sr_inl (vr_tup (j := 1) rfl (same_tup sG hq) rfl) (dp_same sG hu) hs (by omega)) fun H1 s1 => ?_
      exact ret_pair_g [some (.ref a), some (.ref l), some (.str "paragraph"), some (.str (S (rp r)))] rfl (sr_add (sr_add sr_lit (sr_var rfl)) sr_lit) hL (vr_var rfl) fun H2 p s2 np => fin H2 (s1.trans s2) p np
    case quote u bs hq hu =>
      have hpb : 1 + pBs bs ≤ 900 := hn
      refine ifF (by decide +kernel) ⟨_, rfl, rfl, _, rfl, ifT (by decide +kernel) ?_⟩
      obtain ⟨z, ez, hz⟩ := aw.get (i := 0) (y := bs) rfl
      obtain ⟨p0, ws0, rfl, hp0, aw0⟩ := hz
      exact ret_pair (sr_add (sr_add sr_lit (sr_joined (vr_lst rfl (SqL.of hl) ez) hp0 aw0 hs (by omega))) sr_lit) hL vr_c fun H2 p s2 np => fin H2 s2 p np
    case list u g st t its hq hu =>
      refine ifF (by decide +kernel) ⟨_, rfl, rfl, _, rfl, ifF (by decide +kernel) ⟨_, rfl, rfl, _, rfl, ifT (by decide +kernel) ?_⟩⟩
      exact ret_pair (a := bp (.list g st t its)) (fun _ H1 Q1 s1 q1 => ⟨_, rfl, _, rfl, G, _, g, st, t, its, l, ws, rfl, sG.trans s1, hv0, s1 _ _ hl, aw.mono (fun _ _ h => blocksF.mono _ _ _ _ s1 h), hs, hn, q1⟩) hL vr_c fun H2 p s2 np => fin H2 s2 p np
    all_goals
      refine ifF (by decide +kernel) ⟨_, rfl, rfl, _, rfl, ifF (by decide +kernel) ⟨_, rfl, rfl, _, rfl, ifF (by decide +kernel) (go_nx ?_)⟩⟩
      dsimp only
      refine ret_pair (a := bp _) (fun _ H1 Q1 s1 q1 => ⟨_, rfl, _, _, rfl, dp_same (sG.trans s1) hv0, rfl, rfl, trivial, hs, hn, q1⟩) hL vr_c fun H2 p s2 np => fin H2 s2 p np

/-! ### pages of rows of blocks -/
def NewPg (H H1 : Hp) (w : V) (b : Blk) : Prop := ∃ q, w = .ref q ∧ H q = none ∧ H1 q = some (.tup [.str (S (bp b)), bareV b])
def sp_block_pages (K : PySem.W.Frag) : Sp := fun vs H Q _ => ∃ (G : Hp) (v : V) (L : Addr) (ws : List V) (row : List Blk), vs = [v, .ref L] ∧ Same G H ∧ RowIs K blocksF G v row ∧ blocksF.Ok row ∧ row.length ≤ 100000 ∧ H L = some (.lst ws) ∧ All2 (InnerIs blocksF G H) ws row ∧
  ∀ H' p zs, Same H H' → H p = none → H' p = some (.lst zs) → All2 (NewPg H H') zs row → Q (.ref p) H'
theorem ok_block_pages {P : Program} {w : World} {K : PySem.W.Frag} {mg : Str → Option Value} {base : Heap} (T : Txt w K mg) : FnOk P w K mg base CX0 14 T.a_block_pages T.d_block_pages ["row", "inner"] (sp_block_pages K) := by
  refine T.f_block_pages.ok sc_block_pages (fun vs H Q E h => ?_) (fun cdv A outer s H vs Q E hr h => ?_)
  · obtain ⟨G, v, L, ws, row, rfl, _⟩ := h
    rfl
  · obtain ⟨G, v, L, ws, row, rfl, sG, hv, hok, hlen, hL, aw, q⟩ := h
    refine ⟨_, (pss_one (ps_ret (pe_lc (own := [("block", 2), ("rows", 3)]) (g := (gTup K 2 (gCons (gName 2) (gCons (gName 3) gNil)))) (tt := tYes) (by rfl) sc_block_pages.nd (pi_zipM (by rfl) T.z_zip (pa_cons (pv 0) (pa_cons (pv 1) pa_nil))) (blkOk_by (own := [("block", 2), ("rows", 3)]) (N := ["row", "inner", "block", "rows"]) (sc := defScope s_block_pages) (by decide +kernel)) (fun _ _ _ _ _ => (pg_tup (by rfl) (pgs_cons (pg_name (i := 2) sc_block_pages.nd rfl (.inl rfl)) (pgs_cons (pg_name (i := 3) sc_block_pages.nd rfl (.inl rfl)) pgs_nil)))) (fun _ _ _ _ _ => pts_nil) (fun _ _ _ _ _ => (pe_call (ok_pages_of_block T) (hr.mono (by decide)) (by rfl) T.g_pages_of_block T.f_pages_of_block.kp T.b_pages_of_block .nil pass0 (pa_cons (pv 2) (pa_cons (pv 3) pa_nil))))))), ?_⟩
    obtain ⟨a, us, rfl, sqa, dps⟩ := hv
    refine ⟨_, rfl, _, rfl, a, L, us, ws, rfl, same_tup sG sqa, SqL.of hL, fun D nD => ?_⟩
    have e1 : us.length = ws.length := by rw [dps.1, aw.1]
    refine lc_it (walk_zipM e1) (fun i H1 => Same H H1 ∧ ∃ zs, H1 D = some (.lst zs) ∧ All2 (NewPg H H1) zs (row.take i)) ?_ ?_ ?_ ?_
    · exact ⟨same_new nD, [], upd_same, .nil⟩
    · rintro i H1 _ ⟨s1, _⟩
      exact ⟨same_tup (sG.trans s1) sqa, SqL.of (s1 _ _ hL)⟩
    · rintro i x H1 H1' hi ⟨s1, zs, hD, az⟩ ⟨Tp, x1, x2, rfl, nT, rfl, h1, h2⟩
      obtain ⟨y, hy⟩ : ∃ y, row[i]? = some y := ⟨_, List.getElem?_eq_getElem (by have : us.length = row.length := dps.1; omega)⟩
      have dx : Dp K G x1 (Blk.toD y) := dps.2 i x1 y h1 hy
      obtain ⟨l, vs, rfl, hl, av⟩ := aw.2 i x2 y h2 hy
      have nTD : Tp ≠ D := (ne_of_none hD nT).symm
      have s2 : Same H (upd H1 Tp (.tup [x1, .ref l])) := s1.trans (same_new nT)
      obtain ⟨hy1, hy2⟩ := sBs_mem hok.1 (List.mem_of_getElem? hy)
      have hok2 := hok.2
      refine ⟨Tp, _, rfl, SqT.of upd_same, rfl, _, _, rfl, _, _, rfl, rfl, rfl, ?_⟩
      refine ⟨_, rfl, _, rfl, G, x1, y, l, vs, rfl, sG.trans s2, dx, s2 _ _ hl, av.mono (fun _ _ h => blocksF.mono _ _ _ _ (sG.trans s2) h), hy1, by omega, fun H2 q2 s3 nq hq => ?_⟩
      have hD2 : H2 D = some (.lst zs) := s3 _ _ (by rw [upd_ne nTD.symm]; exact hD)
      have nqH : H q2 = none := s2.free nq
      have qD : q2 ≠ D := fun e => by
        rw [e, upd_ne nTD.symm, hD] at nq
        cases nq
      refine ⟨zs, hD2, ?_, fun b o e => ?_, zs ++ [.ref q2], upd_same, ?_⟩
      · have : zs.length = (row.take i).length := az.1
        rw [this, List.length_take]
        refine Nat.lt_of_le_of_lt (Nat.le_trans (Nat.min_le_right _ _) hlen) (by decide)
      · rw [upd_ne (ne_of_none e nD)]
        exact s3 _ _ (s2 _ _ e)
      · rw [List.take_add_one, hy]
        refine (az.mono fun _ _ h => ?_).app (.one ⟨q2, rfl, nqH, by rw [upd_ne qD]; exact hq⟩)
        obtain ⟨q3, e3, n3, h3⟩ := h
        have q3D : q3 ≠ D := fun e => by
          rw [e, hD] at h3
          cases h3
        refine ⟨q3, e3, n3, ?_⟩
        rw [upd_ne q3D]
        exact s3 _ _ (same_new nT _ _ h3)
    · rintro H1 ⟨s1, zs, hD, az⟩
      have ful : row.take us.length = row := by rw [dps.1]; exact List.take_length
      rw [ful] at az
      exact q H1 D zs s1 nD hD az
theorem made_block_pages {K : PySem.W.Frag} : MadeOk K blocksF (sp_block_pages K) :=
  fun G H v L ws row Q sG hv ho hl hL aw q => ⟨G, v, L, ws, row, rfl, sG, hv, ho, hl, hL, aw, fun H' p zs s1 np hp az => q (.ref p) H' (Fresh G H H') s1 (fresh_same sG) (fresh_sub sG s1) fresh_new ⟨p, zs, rfl, fresh_at np hp, az.mono fun _ _ ⟨q, e, n, h⟩ => ⟨q, e, fresh_at n h⟩⟩⟩
def SB' {K : PySem.W.Frag} {mg : Str → Option Value} (T : Txt w K mg) : Addr → Sp → Prop := fun f sp => (f = T.a_rows_in_block ∧ sp = sp_rows_in_block K) ∨ (f = T.a_block_pages ∧ sp = sp_block_pages K)
theorem AB' {P : Program} {w : World} {K : PySem.W.Frag} {mg : Str → Option Value} {base : Heap} (T : Txt w K mg) : ∀ f sp, SB' T f sp → Held P w K mg base 18 f sp := by
  rintro f sp (⟨rfl, rfl⟩ | ⟨rfl, rfl⟩)
  · exact ⟨_, _, fnOk_up (ok_rows_in_block T) (by decide), T.f_rows_in_block.kp, T.b_rows_in_block⟩
  · exact ⟨_, _, fnOk_up (ok_block_pages T) (by decide), T.f_block_pages.kp, T.b_block_pages⟩

/-! ### the page of a tree -/
structure ZT (P : Program) (K : PySem.W.Frag) (mg : Str → Option Value) where
  z_super : mg "super" = none
  a_NoTree : Addr
  f_NoTree : Addr
  d_NoTree : FuncData
  g_NoTree : mg "NoTree" = some (.ref a_NoTree)
  t_NoTree : ClsI K a_NoTree f_NoTree ∧ InitOne P K a_NoTree f_NoTree d_NoTree "self"
  b_NoTree : ∀ s a, BindsTo s d_NoTree ⟨[.ref a], []⟩ [("self", .ref a)]
  m_NoTree : PySem.W.exmOne K (.ref a_NoTree) (.ref a_NoTree) = some true
def sp_page (K : PySem.W.Frag) (C : Addr) : Sp := fun vs H Q E => ∃ (v : V) (d : PyData), vs = [v] ∧ Th K H v d ∧ (isTup d = true → fit d = true) ∧ cnt d ≤ 5000000 ∧ lim d = true ∧
  ((isTree d = true ∧ ∃ bs, d = .tuple (blksD bs) ∧ sBs bs = true ∧ pBs bs ≤ 900 ∧ ∀ H', Same H H' → Q (.str (S (bsP bs))) H') ∨ (isTree d = false ∧ ∀ H', Same H H' → E (.ref C) none H'))
theorem ok_page {P : Program} {w : World} {K : PySem.W.Frag} {mg : Str → Option Value} {base : Heap} (T : Txt w K mg) (Z : ZT P K mg) : FnOk P w K mg base (L2.CX P w) 24 T.a_page T.d_page ["tree"] (sp_page K Z.a_NoTree) := by
  refine T.f_page.okX sc_page (fun vs H Q E h => ?_) (fun cdv A outer s H vs Q E hr h => ?_)
  · obtain ⟨v, d, rfl, _⟩ := h
    rfl
  · obtain ⟨v, d, rfl, hv, hf, hc, hl, hh⟩ := h
    refine ⟨_, (pss_cons (ps_if (pt_not (pt_val (pe_call (ok_is_tree T) (hr.mono (by decide)) (by rfl) T.g_is_tree T.f_is_tree.kp T.b_is_tree .nil pass0 (pa_cons (pv 0) pa_nil)))) (pss_one (ps_raise rfl (takes_of rfl rfl rfl rfl) (pmk1 (hr.mono (by decide)) Z.t_NoTree.1 Z.t_NoTree.2 Z.z_super Z.b_NoTree (by rfl) Z.g_NoTree))) pss_nil)
        (pss_one (ps_ret (pe_call (ok_joined_pages T) (hr.mono (by decide)) (by rfl) T.g_joined_pages T.f_joined_pages.kp T.b_joined_pages .nil pass0 (pa_cons (pe_call (ok_folded T (SB' T) 18 (AB' T)) (hr.mono (by decide)) (by rfl) T.g_folded T.f_folded.kp T.b_folded .nil pass0 (pa_cons (pv 0) (pa_cons (pe_glob (v := .ref T.a_rows_in_block) rfl T.g_rows_in_block rfl) (pa_cons (pe_glob (v := .ref T.a_block_pages) rfl T.g_block_pages rfl) pa_nil)))) pa_nil))))), ?_⟩
    refine ⟨_, rfl, v, d, rfl, hv, hf, hc, hl, fun H1 s1 => ⟨_, rfl, ?_⟩⟩
    rcases hh with ⟨ht, bs, rfl, hs, hn, q⟩ | ⟨ht, q⟩
    · refine ifF (by rw [ht]; rfl) (go_nx ?_)
      have hv' : Dp K H1 v (.tuple (blksD bs)) := by
        rcases hv with h | ⟨_, _, _, _, h⟩
        · exact dp_same s1 h
        · cases h
      have hnb := nBs_le bs hs
      refine ⟨_, rfl, blocksF, v, _, _, _, _, bs, H1, rfl, .inl ⟨rfl, rfl⟩, .inr ⟨rfl, rfl⟩, in_rows_blocks, made_block_pages, Same.refl _, row_is hv' (blksD_map bs), ⟨hs, hn⟩, by show 1 + nBs bs ≤ _; omega, fun r H' G' s2 _ s4 _ e => ?_⟩
      obtain ⟨p, ws, rfl, hp, aw⟩ := e
      exact ⟨p, ws, bs, rfl, s4 _ _ hp, aw.mono (fun _ _ ⟨q, e, hq⟩ => ⟨q, e, s4 _ _ hq⟩), hs, hn, fun H2 s5 => q H2 ((s1.trans s2).trans s5)⟩
    · exact ifT (by rw [ht]; rfl) (q H1 s1)

/-! ### sizes of drawn trees -/
theorem sz_txt {t : List Nat} {n : Nat} (h : gTxt t = true) (hl : t.length ≤ n) (hn : n ≤ 10000) : Sz 1 0 (.str (S t)) := sz_str h (Nat.le_trans hl hn)
theorem sz_op {t : Option (List Nat)} {n : Nat} (h : gOpt t = true) (hl : shortO n t = true) (hn : n ≤ 10000) : Sz 1 0 (optD t) := by
  cases t with
  | none => exact ⟨rfl, Nat.le_refl _, Nat.le_refl _⟩
  | some t => exact sz_txt h (of_decide_eq_true hl) hn
theorem nm_sz : (decide (("text" : Str).length ≤ 10000) && PyData.strOk "text") = true ∧ (decide (("soft" : Str).length ≤ 10000) && PyData.strOk "soft") = true ∧ (decide (("hard" : Str).length ≤ 10000) && PyData.strOk "hard") = true ∧ (decide (("code" : Str).length ≤ 10000) && PyData.strOk "code") = true ∧
    (decide (("html" : Str).length ≤ 10000) && PyData.strOk "html") = true ∧ (decide (("emph" : Str).length ≤ 10000) && PyData.strOk "emph") = true ∧ (decide (("strong" : Str).length ≤ 10000) && PyData.strOk "strong") = true ∧ (decide (("link" : Str).length ≤ 10000) && PyData.strOk "link") = true ∧ (decide (("image" : Str).length ≤ 10000) && PyData.strOk "image") = true := by decide +kernel
theorem sz1 {z : Str} (hz : (decide (z.length ≤ 10000) && PyData.strOk z) = true) : Sz 2 1 (.tuple [.str z]) := (SzL.tup (SzL.cons (sz_name hz) SzL.nil (Nat.le_refl 0) (Nat.le_refl 0)) (by decide)).le (by decide) (by decide)
theorem sz2 {z : Str} {d : PyData} (hz : (decide (z.length ≤ 10000) && PyData.strOk z) = true) (h : Sz 1 0 d) : Sz 3 1 (.tuple [.str z, d]) := (SzL.tup (SzL.cons (sz_name hz) (SzL.cons h SzL.nil (Nat.le_refl 0) (Nat.le_refl 0)) (Nat.le_refl 0) (Nat.le_refl 0)) (by decide)).le (by decide) (by decide)
theorem sz2r {z : Str} {ds : List PyData} {c dp n : Nat} (hz : (decide (z.length ≤ 10000) && PyData.strOk z) = true) (h : SzL c dp n ds) (hn : n ≤ 10000) : Sz (3 + c) (dp + 2) (.tuple [.str z, .tuple ds]) :=
  (SzL.tup (SzL.cons (dp := dp + 1) (sz_name hz) (SzL.cons (SzL.tup h hn) SzL.nil (Nat.le_refl _) (Nat.zero_le _)) (Nat.zero_le _) (Nat.le_refl _)) (by decide)).le (by omega) (by omega)
theorem sz4r {z : Str} {d1 d2 : PyData} {ds : List PyData} {c dp n : Nat} (hz : (decide (z.length ≤ 10000) && PyData.strOk z) = true) (h1 : Sz 1 0 d1) (h2 : Sz 1 0 d2) (h : SzL c dp n ds) (hn : n ≤ 10000) : Sz (5 + c) (dp + 2) (.tuple [.str z, d1, d2, .tuple ds]) :=
  (SzL.tup (SzL.cons (dp := dp + 1) (sz_name hz) (SzL.cons h1 (SzL.cons h2 (SzL.cons (SzL.tup h hn) SzL.nil (Nat.le_refl _) (Nat.zero_le _)) (Nat.zero_le _) (Nat.le_refl _)) (Nat.zero_le _) (Nat.le_refl _)) (Nat.zero_le _) (Nat.le_refl _)) (by decide)).le (by omega) (by omega)
mutual
theorem sz_I (k : Bool) : ∀ x : Inl, gI k x = true → sI x = true → pc x ≤ 10000 → Sz (7 * pc x) (2 * hI x + 1) x.toD
  | .text t, h, s, _ => by
    have h' : (gTxt t && !t.isEmpty) = true := h
    rw [Bool.and_eq_true] at h'
    exact (sz2 nm_sz.1 (sz_txt h'.1 (of_decide_eq_true s) (by decide))).le (by show 3 ≤ 7 * 1; decide) (by show 1 ≤ 2 * 0 + 1; decide)
  | .code t, h, s, _ => by
    have h' : (gTxt t && !t.isEmpty) = true := h
    rw [Bool.and_eq_true] at h'
    exact (sz2 nm_sz.2.2.2.1 (sz_txt h'.1 (of_decide_eq_true s) (by decide))).le (by show 3 ≤ 7 * 1; decide) (by show 1 ≤ 2 * 0 + 1; decide)
  | .html t, h, s, _ => by
    have h' : (gTxt t && !t.isEmpty) = true := h
    rw [Bool.and_eq_true] at h'
    exact (sz2 nm_sz.2.2.2.2.1 (sz_txt h'.1 (of_decide_eq_true s) (by decide))).le (by show 3 ≤ 7 * 1; decide) (by show 1 ≤ 2 * 0 + 1; decide)
  | .soft, _, _, _ => (sz1 nm_sz.2.1).le (by show 2 ≤ 7 * 1; decide) (by show 1 ≤ 2 * 0 + 1; decide)
  | .hard, _, _, _ => (sz1 nm_sz.2.2.1).le (by show 2 ≤ 7 * 1; decide) (by show 1 ≤ 2 * 0 + 1; decide)
  | .emph r, h, s, hp => by
    have h' : (!r.isEmpty && gR k false r) = true := h
    rw [Bool.and_eq_true] at h'
    have hp' : 1 + pcR r ≤ 10000 := hp
    exact (sz2r nm_sz.2.2.2.2.2.1 (sz_R k r false h'.2 s (by omega)) (by omega)).le (by show _ ≤ 7 * (1 + pcR r); omega) (by show _ ≤ 2 * (1 + hR r) + 1; omega)
  | .strong r, h, s, hp => by
    have h' : (!r.isEmpty && gR k false r) = true := h
    rw [Bool.and_eq_true] at h'
    have hp' : 1 + pcR r ≤ 10000 := hp
    exact (sz2r nm_sz.2.2.2.2.2.2.1 (sz_R k r false h'.2 s (by omega)) (by omega)).le (by show _ ≤ 7 * (1 + pcR r); omega) (by show _ ≤ 2 * (1 + hR r) + 1; omega)
  | .link d t r, h, s, hp => by
    have h' : (!k && gTxt d && gOpt t && gR true false r) = true := h
    have s' : (decide (d.length ≤ 200) && shortO 200 t && sR r) = true := s
    simp only [Bool.and_eq_true] at h' s'
    have hp' : 1 + pcR r ≤ 10000 := hp
    exact (sz4r nm_sz.2.2.2.2.2.2.2.1 (sz_txt h'.1.1.2 (of_decide_eq_true s'.1.1) (by decide)) (sz_op h'.1.2 s'.1.2 (by decide)) (sz_R true r false h'.2 s'.2 (by omega)) (by omega)).le (by show _ ≤ 7 * (1 + pcR r); omega) (by show _ ≤ 2 * (1 + hR r) + 1; omega)
  | .image d t r, h, s, hp => by
    have h' : (gTxt d && gOpt t && gR false false r) = true := h
    have s' : (decide (d.length ≤ 200) && shortO 200 t && sR r) = true := s
    simp only [Bool.and_eq_true] at h' s'
    have hp' : 1 + pcR r ≤ 10000 := hp
    exact (sz4r nm_sz.2.2.2.2.2.2.2.2 (sz_txt h'.1.1 (of_decide_eq_true s'.1.1) (by decide)) (sz_op h'.1.2 s'.1.2 (by decide)) (sz_R false r false h'.2 s'.2 (by omega)) (by omega)).le (by show _ ≤ 7 * (1 + pcR r); omega) (by show _ ≤ 2 * (1 + hR r) + 1; omega)
theorem sz_R (k : Bool) : ∀ (r : List Inl) (p : Bool), gR k p r = true → sR r = true → pcR r ≤ 10000 → SzL (7 * pcR r) (2 * hR r + 1) (pcR r) (rowD r)
  | [], _, _, _, _ => ⟨rfl, Nat.zero_le _, Nat.zero_le _, Nat.zero_le _⟩
  | x :: r, p, h, s, hp => by
    have h' : (gI k x && !(p && isT x) && gR k (isT x) r) = true := h
    have s' : (sI x && sR r) = true := s
    simp only [Bool.and_eq_true] at h' s'
    have hp' : pc x + pcR r ≤ 10000 := hp
    have h1 := sz_I k x h'.1.1 s'.1 (by omega)
    have h2 := sz_R k r (isT x) h'.2 s'.2 (by omega)
    have h3 : SzL _ _ _ (rowD (x :: r)) := SzL.cons (dp := max (2 * hI x + 1) (2 * hR r + 1)) h1 h2 (Nat.le_max_left ..) (Nat.le_max_right ..)
    have h4 := pc_pos x
    exact ⟨h3.ft, by show _ ≤ 7 * (pc x + pcR r); have := h3.ct; omega, by show _ ≤ 2 * max (hI x) (hR r) + 1; have := h3.deep; omega, by show _ ≤ pc x + pcR r; have := h3.len; omega⟩
end
theorem bl_sz : (decide (("quote" : Str).length ≤ 10000) && PyData.strOk ("quote" : Str)) = true ∧ (decide (("list" : Str).length ≤ 10000) && PyData.strOk ("list" : Str)) = true ∧ (decide (("heading" : Str).length ≤ 10000) && PyData.strOk ("heading" : Str)) = true ∧ (decide (("break" : Str).length ≤ 10000) && PyData.strOk ("break" : Str)) = true ∧ (decide (("code" : Str).length ≤ 10000) && PyData.strOk ("code" : Str)) = true ∧ (decide (("html" : Str).length ≤ 10000) && PyData.strOk ("html" : Str)) = true ∧ (decide (("definition" : Str).length ≤ 10000) && PyData.strOk ("definition" : Str)) = true ∧ (decide (("paragraph" : Str).length ≤ 10000) && PyData.strOk ("paragraph" : Str)) = true := by decide +kernel
theorem sz_int (i : Int) : Sz 1 0 (.int i) := ⟨rfl, Nat.le_refl _, Nat.le_refl _⟩
theorem sz_bool (b : Bool) : Sz 1 0 (.bool b) := ⟨rfl, Nat.le_refl _, Nat.le_refl _⟩
theorem lns_txt {t : List Nat} (h : isLns (.str (S t)) = true) : gTxt t = true := by
  have h' : (txt (S t) && Txt.endswith (S t) (S [10])) = true := h
  rw [Bool.and_eq_true, txt_g] at h'
  exact h'.1
theorem sign_sz {g : Str} {d : PyData} (h : fitStart g d = true) : (decide (g.length ≤ 10000) && PyData.strOk g) = true := by
  have hm : V.str g ∈ ([.str "-", .str "+", .str "*", .str ".", .str ")"] : List V) := by
    unfold fitStart at h
    split at h
    · rename_i e
      have := inV_mem e
      simp only [List.mem_cons, List.not_mem_nil, or_false] at this ⊢
      rcases this with h | h | h
      · exact .inl h
      · exact .inr (.inl h)
      · exact .inr (.inr (.inl h))
    · rw [Bool.and_eq_true] at h
      have := inV_mem h.1
      simp only [List.mem_cons, List.not_mem_nil, or_false] at this ⊢
      rcases this with h | h
      · exact .inr (.inr (.inr (.inl h)))
      · exact .inr (.inr (.inr (.inr h)))
  simp only [List.mem_cons, List.not_mem_nil, or_false] at hm
  rcases hm with e | e | e | e | e <;> (cases e; decide +kernel)
mutual
theorem sz_B : ∀ b : Blk, gB b = true → sB b = true → pB b ≤ 10000 → Sz (10 * pB b) (3 * hB b + 2) b.toD
  | .quote bs, h, s, hp => by
    have hp' : 1 + pBs bs ≤ 10000 := hp
    exact (sz2r bl_sz.1 (sz_Bs bs h s (by omega)) (by omega)).le (by show _ ≤ 10 * (1 + pBs bs); omega) (by show _ ≤ 3 * (1 + hBs bs) + 2; omega)
  | .list g st t its, h, s, hp => by
    have h' : (fitStart g (optI st) && !its.isEmpty && gIts its) = true := h
    have s' : (decide (its.length ≤ 3) && StartsL.contains st && sIts its) = true := s
    simp only [Bool.and_eq_true] at h' s'
    have hp' : 1 + pIts its ≤ 10000 := hp
    have l3 : its.length ≤ 3 := of_decide_eq_true s'.1.1
    have h1 := sz_Its its h'.2 s'.2 (by omega)
    have ss : Sz 1 0 (optI st) := by cases st <;> exact ⟨rfl, Nat.le_refl _, Nat.le_refl _⟩
    exact (SzL.tup (SzL.cons (dp := 3 * hIts its + 1) (sz_name bl_sz.2.1) (SzL.cons (sz_name (sign_sz h'.1.1)) (SzL.cons ss (SzL.cons (sz_bool t) (SzL.cons (SzL.tup h1 (by omega)) SzL.nil (Nat.le_refl _) (Nat.zero_le _)) (Nat.zero_le _) (Nat.le_refl _)) (Nat.zero_le _) (Nat.le_refl _)) (Nat.zero_le _) (Nat.le_refl _)) (Nat.zero_le _) (Nat.le_refl _)) (by decide)).le (by show _ ≤ 10 * (1 + pIts its); omega) (by show _ ≤ 3 * hIts its + 2; omega)
  | .heading l r, h, s, hp => by
    have h' : (decide (1 ≤ l) && decide (l ≤ 6) && gR false false r) = true := h
    have s' : (decide (l < 7) && sR r) = true := s
    rw [Bool.and_eq_true] at h' s'
    have hp' : 1 + pcR r ≤ 10000 := hp
    exact (SzL.tup (SzL.cons (dp := 2 * hR r + 1 + 1) (sz_name bl_sz.2.2.1) (SzL.cons (sz_int _) (SzL.cons (SzL.tup (sz_R false r false h'.2 s'.2 (by omega)) (by omega)) SzL.nil (Nat.le_refl _) (Nat.zero_le _)) (Nat.zero_le _) (Nat.le_refl _)) (Nat.zero_le _) (Nat.le_refl _)) (by decide)).le (by show _ ≤ 10 * (1 + pcR r); omega) (by show _ ≤ 3 * (1 + hR r) + 2; omega)
  | .brk, _, _, _ => (sz1 bl_sz.2.2.2.1).le (by show 2 ≤ 10 * 1; decide) (by show 1 ≤ 3 * 0 + 2; decide)
  | .code t i, h, s, _ => by
    have s' : (decide (t.length ≤ 50) && InfosL.contains i) = true := s
    rw [Bool.and_eq_true] at s'
    have li : i ∈ InfosL := by simpa using s'.2
    have gi : gOpt i = true ∧ shortO 50 i = true := (by decide +kernel : ∀ i ∈ InfosL, gOpt i = true ∧ shortO 50 i = true) i li
    have gt : gTxt t = true := by
      cases i with
      | none => exact lns_txt h
      | some i =>
        have h' : (gTxt i && (isLns (.str (S t)) || t.isEmpty)) = true := h
        rw [Bool.and_eq_true, Bool.or_eq_true] at h'
        rcases h'.2 with h | h
        · exact lns_txt h
        · rw [List.isEmpty_iff.mp h]
          rfl
    exact (SzL.tup (SzL.cons (sz_name bl_sz.2.2.2.2.1) (SzL.cons (sz_txt gt (of_decide_eq_true s'.1) (by decide)) (SzL.cons (sz_op gi.1 gi.2 (by decide)) SzL.nil (Nat.le_refl 0) (Nat.le_refl 0)) (Nat.le_refl 0) (Nat.le_refl 0)) (Nat.le_refl 0) (Nat.le_refl 0)) (by decide)).le (by show _ ≤ 10 * 1; decide) (by show _ ≤ 3 * 0 + 2; decide)
  | .html t, h, s, _ => by
    have s' : (decide (t.length ≤ 50) && !t.isEmpty) = true := s
    rw [Bool.and_eq_true] at s'
    exact (sz2 bl_sz.2.2.2.2.2.1 (sz_txt (lns_txt h) (of_decide_eq_true s'.1) (by decide))).le (by show 3 ≤ 10 * 1; decide) (by show 1 ≤ 3 * 0 + 2; decide)
  | .defn l d t, h, s, _ => by
    have h' : (gTxt l && lab (S l) && gTxt d && gOpt t) = true := h
    have s' : (decide (l.length ≤ 50) && decide (d.length ≤ 200) && shortO 200 t) = true := s
    simp only [Bool.and_eq_true] at h' s'
    exact (SzL.tup (SzL.cons (sz_name bl_sz.2.2.2.2.2.2.1) (SzL.cons (sz_txt h'.1.1.1 (of_decide_eq_true s'.1.1) (by decide)) (SzL.cons (sz_txt h'.1.2 (of_decide_eq_true s'.1.2) (by decide)) (SzL.cons (sz_op h'.2 s'.2 (by decide)) SzL.nil (Nat.le_refl 0) (Nat.le_refl 0)) (Nat.le_refl 0) (Nat.le_refl 0)) (Nat.le_refl 0) (Nat.le_refl 0)) (Nat.le_refl 0) (Nat.le_refl 0)) (by decide)).le (by show _ ≤ 10 * 1; decide) (by show _ ≤ 3 * 0 + 2; decide)
  | .par r, h, s, hp => by
    have h' : (!r.isEmpty && gR false false r) = true := h
    rw [Bool.and_eq_true] at h'
    have hp' : 1 + pcR r ≤ 10000 := hp
    exact (sz2r bl_sz.2.2.2.2.2.2.2 (sz_R false r false h'.2 s (by omega)) (by omega)).le (by show _ ≤ 10 * (1 + pcR r); omega) (by show _ ≤ 3 * (1 + hR r) + 2; omega)
theorem sz_Bs : ∀ bs : List Blk, gBs bs = true → sBs bs = true → pBs bs ≤ 10000 → SzL (10 * pBs bs) (3 * hBs bs + 2) (pBs bs) (blksD bs)
  | [], _, _, _ => ⟨rfl, Nat.zero_le _, Nat.zero_le _, Nat.zero_le _⟩
  | b :: bs, h, s, hp => by
    have h' : (gB b && gBs bs) = true := h
    have s' : (sB b && sBs bs) = true := s
    rw [Bool.and_eq_true] at h' s'
    have hp' : pB b + pBs bs ≤ 10000 := hp
    have h1 := sz_B b h'.1 s'.1 (by omega)
    have h2 := sz_Bs bs h'.2 s'.2 (by omega)
    have h3 : SzL _ _ _ (blksD (b :: bs)) := SzL.cons (dp := max (3 * hB b + 2) (3 * hBs bs + 2)) h1 h2 (Nat.le_max_left ..) (Nat.le_max_right ..)
    have h4 := pB_pos b
    exact ⟨h3.ft, by show _ ≤ 10 * (pB b + pBs bs); have := h3.ct; omega, by show _ ≤ 3 * max (hB b) (hBs bs) + 2; have := h3.deep; omega, by show _ ≤ pB b + pBs bs; have := h3.len; omega⟩
theorem sz_Its : ∀ its : List (List Blk), gIts its = true → sIts its = true → pIts its ≤ 10000 → SzL (its.length + 10 * pIts its) (3 * hIts its) its.length (itsD its)
  | [], _, _, _ => ⟨rfl, Nat.zero_le _, Nat.zero_le _, Nat.zero_le _⟩
  | bs :: its, h, s, hp => by
    have h' : (gBs bs && gIts its) = true := h
    have s' : (sBs bs && sIts its) = true := s
    rw [Bool.and_eq_true] at h' s'
    have hp' : pBs bs + pIts its ≤ 10000 := hp
    have h1 := SzL.tup (sz_Bs bs h'.1 s'.1 (by omega)) (by omega)
    have h2 := sz_Its its h'.2 s'.2 (by omega)
    have h3 : SzL _ _ _ (itsD (bs :: its)) := SzL.cons (dp := max (3 * hBs bs + 2 + 1) (3 * hIts its)) h1 h2 (Nat.le_max_left ..) (Nat.le_max_right ..)
    exact ⟨h3.ft, by show _ ≤ (its.length + 1) + 10 * (pBs bs + pIts its); have := h3.ct; omega, by show _ ≤ 3 * max (1 + hBs bs) (hIts its); have := h3.deep; omega, by show _ ≤ its.length + 1; have := h3.len; omega⟩
end
/-- a good tree: all that is asked of what is passed -/
theorem doc_ok {bs : List Blk} (h : gBs bs = true) (s : sBs bs = true) (hp : pBs bs ≤ 900) (hh : hBs bs ≤ 50) : fit (.tuple (blksD bs)) = true ∧ cnt (.tuple (blksD bs)) ≤ 5000000 ∧ lim (.tuple (blksD bs)) = true ∧ isTree (.tuple (blksD bs)) = true := by
  have h1 := SzL.tup (sz_Bs bs h s (by omega)) (by omega)
  have h2 := h1.ct
  have h3 := h1.deep
  exact ⟨h1.ft, by omega, lim_deep (fun _ => h1.ft) (by omega), is_doc h (by omega)⟩



/-! ### the draws -/
def sp__law_well (K : PySem.W.Frag) : Sp := fun vs H Q _ => ∃ n : Int, vs = [.int n] ∧ ∀ p, H p = none → Q (.ref p) (upd H p (.lst [.int n, .int 0, .int 200]))
theorem ok__law_well {P : Program} {w : World} {K : PySem.W.Frag} {mg : Str → Option Value} {base : Heap} (T : Txt w K mg) : FnOk P w K mg base CX0 1 T.a__law_well T.d__law_well ["_law_cell"] (sp__law_well K) := by
  refine T.f__law_well.ok sc__law_well (fun vs H Q E h => ?_) (fun cdv A outer s H vs Q E hr h => ?_)
  · obtain ⟨n, rfl, _⟩ := h
    rfl
  · obtain ⟨n, rfl, q⟩ := h
    refine ⟨_, (pss_one (ps_ret (pe_lst (pa_cons (pe_callTy call_int1 (by rfl) T.z_int (by decide +kernel) (pa_cons (pv 0) pa_nil)) (pa_cons pe_int (pa_cons pe_int pa_nil)))))), ?_⟩
    exact ⟨_, rfl, .inl ⟨_, rfl, (by show 3 ≤ sizeLine; decide), fun p hp => q p hp⟩⟩
def sp__law_draw (K : PySem.W.Frag) : Sp := fun vs H Q _ => ∃ (L : Addr) (m : Int) (c : Int), vs = [.ref L, .int m] ∧ 0 < m ∧ m < 1000000 ∧ WellC c H L ∧
  ∀ H' d, Keeps L H H' → WellC c H' L → 0 ≤ d → d < m → Q (.int d) H'
theorem ok__law_draw {P : Program} {w : World} {K : PySem.W.Frag} {mg : Str → Option Value} {base : Heap} (T : Txt w K mg) : FnOk P w K mg base CX0 1 T.a__law_draw T.d__law_draw ["_law_well_here", "_law_many"] (sp__law_draw K) := by
  refine T.f__law_draw.ok sc__law_draw (fun vs H Q E h => ?_) (fun cdv A outer s H vs Q E hr h => ?_)
  · obtain ⟨L, m, z3, rfl, _⟩ := h
    rfl
  · obtain ⟨L, m, z3, rfl, hm0, hm1, ⟨x, y, hL⟩, q⟩ := h
    refine ⟨_, (pss_cons (ps_if (pt_cmpR op_ge (pe_ix ix_list (pv 0) pe_int (fun _ _ => rfl)) (pe_op op_pow pe_int pe_int) (nomark _)) (pss_cons (ps_set (i := 2) sc__law_draw.nd rfl (.inl rfl) (pe_op op_mod (pe_callTy call_int1 (by rfl) T.z_int (by decide +kernel) (pa_cons (pe_ix ix_list (pv 0) pe_int (fun _ _ => rfl)) pa_nil)) (pv 1)))
        (pss_cons (ps_asg (pe_op op_fdivW (pe_ix ix_list (pv 0) pe_int (fun _ _ => rfl)) (pv 1)) (pg_sub (pv 0) pe_int set_list))
        (pss_one (ps_ret (pv 2))))) pss_nil)
        (pss_cons (ps_asg (pe_op op_add (pe_ix ix_list (pv 0) pe_int (fun _ _ => rfl)) pe_int) (pg_sub (pv 0) pe_int set_list))
        (pss_cons (ps_set (i := 3) sc__law_draw.nd rfl (.inl rfl) (pe_op op_mod (pe_callTy call_int1 (by rfl) T.z_int (by decide +kernel) (pa_cons (pe_op op_mul (pe_callTy call_int1 (by rfl) T.z_int (by decide +kernel) (pa_cons (pe_op op_add (pe_op op_add (pe_op op_mod (pe_callTy call_int1 (by rfl) T.z_int (by decide +kernel) (pa_cons (pe_ix ix_list (pv 0) pe_int (fun _ _ => rfl)) pa_nil)) pe_int) (pe_op op_mul pe_int (pe_ix ix_list (pv 0) pe_int (fun _ _ => rfl)))) pe_int) pa_nil)) pe_int) pa_nil)) pe_int))
        (pss_cons (ps_set (i := 4) sc__law_draw.nd rfl (.inl rfl) (pe_op op_mod (pe_callTy call_int1 (by rfl) T.z_int (by decide +kernel) (pa_cons (pe_op op_fdivW (pe_ix ix_list (pv 0) pe_int (fun _ _ => rfl)) pe_int) pa_nil)) pe_int))
        (pss_cons (ps_set (i := 3) sc__law_draw.nd rfl (.inl rfl) (pe_op op_mod (pe_callTy call_int1 (by rfl) T.z_int (by decide +kernel) (pa_cons (pe_op op_mul (pv 3) (pe_op op_add (pe_op op_add (pe_op op_fdivW (pv 3) pe_int) pe_int) (pv 4))) pa_nil)) pe_int))
        (pss_one (ps_ret (pe_op op_mod (pe_callTy call_int1 (by rfl) T.z_int (by decide +kernel) (pa_cons (pe_op op_fdivW (pe_op op_mod (pe_callTy call_int1 (by rfl) T.z_int (by decide +kernel) (pa_cons (pe_op op_mul (pv 3) (pe_op op_add (pe_op op_fdivW (pv 3) pe_int) pe_int)) pa_nil)) pe_int) pe_int) pa_nil)) (pv 1))))))))), ?_⟩
    have a0 : ∀ x y : Int, atI [V.int x, V.int y, V.int z3] 0 = some (.int x) := fun x y => atI_nat (j := 0) rfl
    have a1 : ∀ x y : Int, atI [V.int x, V.int y, V.int z3] 1 = some (.int y) := fun x y => atI_nat (j := 1) rfl
    have wd : ∀ i j : Int, 0 < j → j < 10000000000 → CDivW i j := fun i j h1 h2 => wide_div (b := 40) h1 (by omega) (by decide) (by decide)
    refine ⟨_, rfl, L, _, _, _, rfl, rfl, SqL.of hL, a0 x y, _, _, rfl, rfl, (by refine ⟨?_, ?_, ?_⟩ <;> decide), _, _, rfl, rfl, _, rfl, ite2 (fun _ => ?_) (fun _ => ?_)⟩
    · refine ⟨_, rfl, L, _, _, _, rfl, rfl, SqL.of hL, a0 x y, .inl ⟨_, rfl, _, rfl, _, _, rfl, rfl, hm0, ?_⟩⟩
      refine ⟨_, rfl, L, _, _, _, rfl, rfl, SqL.of hL, a0 x y, _, rfl, _, _, rfl, rfl, wd _ _ hm0 (by omega), _, rfl, L, _, _, 0, rfl, rfl, hL, rfl, ?_⟩
      exact ⟨_, rfl, q _ _ .at ⟨_, _, upd_same⟩ (Int.emod_nonneg _ (by omega)) (Int.emod_lt_of_pos _ hm0)⟩
    · -- well[1] = well[1] + 1
      refine ⟨_, rfl, L, _, _, _, rfl, rfl, SqL.of hL, a1 x y, _, _, rfl, rfl, _, rfl, L, _, _, 1, rfl, rfl, hL, rfl, ?_⟩
      have k2 : Keeps L H (upd H L (.lst ([V.int x, V.int y, V.int z3].set 1 (.int (y + 1))))) := .at
      have hL2 : (upd H L (.lst ([V.int x, V.int y, V.int z3].set 1 (.int (y + 1))))) L = some (.lst [V.int x, V.int (y + 1), V.int z3]) := upd_same
      generalize (upd H L (.lst ([V.int x, V.int y, V.int z3].set 1 (.int (y + 1))))) = H2 at hL2 k2 ⊢
      refine ⟨_, rfl, L, _, _, _, rfl, rfl, SqL.of hL2, a0 _ _, .inl ⟨_, rfl, _, _, rfl, rfl, (by show (0 : Int) < _; decide), _, rfl, L, _, _, _, rfl, rfl, SqL.of hL2, a1 _ _, _, _, rfl, rfl, .inl (by constructor <;> decide), _, _, rfl, rfl, _, _, rfl, rfl,
        .inl ⟨_, rfl, _, _, rfl, rfl, .inr (by constructor <;> decide), .inl ⟨_, rfl, _, _, rfl, rfl, (by show (0 : Int) < _; decide), ?_⟩⟩⟩⟩
      refine ⟨_, rfl, L, _, _, _, rfl, rfl, SqL.of hL2, a0 _ _, _, _, rfl, rfl, wd _ _ (by decide) (by decide), .inl ⟨_, rfl, _, _, rfl, rfl, (by show (0 : Int) < _; decide), ?_⟩⟩
      refine ⟨_, rfl, _, rfl, _, _, rfl, rfl, wd _ _ (by decide) (by decide), _, _, rfl, rfl, _, rfl, _, _, rfl, rfl, _, _, rfl, rfl, .inl (by constructor <;> omega), .inl ⟨_, rfl, _, _, rfl, rfl, (by show (0 : Int) < _; decide), ?_⟩⟩
      refine ⟨_, rfl, _, rfl, _, _, rfl, rfl, wd _ _ (by decide) (by decide), _, _, rfl, rfl, _, _, rfl, rfl, .inl (by constructor <;> omega), .inl ⟨_, rfl, _, _, rfl, rfl, (by show (0 : Int) < _; decide), _, _, rfl, rfl, wd _ _ (by decide) (by decide), .inl ⟨_, rfl, _, rfl, _, _, rfl, rfl, hm0, ?_⟩⟩⟩
      exact q _ _ k2 ⟨_, _, hL2⟩ (Int.emod_nonneg _ (by omega)) (Int.emod_lt_of_pos _ hm0)
def sp__law_one (K : PySem.W.Frag) : Sp := fun vs H Q _ => ∃ (L a : Addr) (xs : List V) (c : Int), vs = [.ref L, .ref a] ∧ SqL K H a xs ∧ a ≠ L ∧ xs ≠ [] ∧ xs.length < 1000000 ∧ WellC c H L ∧
  ∀ H' v, Keeps L H H' → WellC c H' L → v ∈ xs → Q v H'
theorem ok__law_one {P : Program} {w : World} {K : PySem.W.Frag} {mg : Str → Option Value} {base : Heap} (T : Txt w K mg) : FnOk P w K mg base CX0 2 T.a__law_one T.d__law_one ["_law_well_here", "_law_some"] (sp__law_one K) := by
  refine T.f__law_one.ok sc__law_one (fun vs H Q E h => ?_) (fun cdv A outer s H vs Q E hr h => ?_)
  · obtain ⟨L, a, xs, c, rfl, _⟩ := h
    rfl
  · obtain ⟨L, a, xs, c, rfl, hS, ha, hne, hlen, hW, q⟩ := h
    refine ⟨_, (pss_one (ps_ret (pe_ix ix_list (pv 1) (pe_call (ok__law_draw T) (hr.mono (by decide)) (by rfl) T.g__law_draw T.f__law_draw.kp T.b__law_draw .nil pass0 (pa_cons (pv 0) (pa_cons (pe_callB call_len_seq (by rfl) T.z_len PySem.boot_len (pa_cons (pv 1) pa_nil)) pa_nil))) (fun _ _ => rfl)))), ?_⟩
    have hpos : 0 < xs.length := List.length_pos_iff.mpr hne
    refine ⟨_, rfl, _, rfl, _, rfl, a, xs, rfl, .inl hS, L, _, c, rfl, by omega, by omega, hW, fun H' d k w h0 h1 => ?_⟩
    obtain ⟨j, rfl⟩ := Int.eq_ofNat_of_zero_le h0
    have hj : j < xs.length := by omega
    exact ⟨a, xs, _, xs[j], rfl, rfl, k.seq ha hS, atI_nat (List.getElem?_eq_getElem hj), q _ _ k w (List.getElem_mem hj)⟩

/-! ### what the law draws -/
def okSign : V → Bool
  | .str ⟨⟨[c]⟩⟩ => AllowL.contains c
  | _ => false
theorem okSign_of {v : V} (h : okSign v = true) : ∃ c, v = .str (S [c]) ∧ AllowL.contains c = true := by
  unfold okSign at h
  split at h
  · rename_i c
    exact ⟨c, rfl, h⟩
  · cases h
/-- a drawn text -/
def Good (n : Nat) (l : List Nat) : Prop := gTxt l = true ∧ l ≠ [] ∧ l.length ≤ n
def sp__law_string (K : PySem.W.Frag) : Sp := fun vs H Q _ => ∃ (L : Addr) (m : Nat) (c : Int), vs = [.ref L, .int (m : Nat)] ∧ 0 < m ∧ m ≤ 20 ∧ WellC c H L ∧ ∀ H' l, Keeps L H H' → WellC c H' L → Good m l → Q (.str (S l)) H'
theorem ok__law_string {P : Program} {w : World} {K : PySem.W.Frag} {mg : Str → Option Value} {base : Heap} (T : Txt w K mg) : FnOk P w K mg base CX0 3 T.a__law_string T.d__law_string ["_law_well_here", "_law_most"] (sp__law_string K) := by
  refine T.f__law_string.ok sc__law_string (fun vs H Q E h => ?_) (fun cdv A outer s H vs Q E hr h => ?_)
  · obtain ⟨L, m, cc, rfl, _⟩ := h
    rfl
  · obtain ⟨L, m, cc, rfl, hm0, hm1, hW, q⟩ := h
    refine ⟨_, (pss_cons (ps_set (i := 2) sc__law_string.nd rfl (.inr rfl) (pe_lst (pa_cons pe_str (pa_cons pe_str (pa_cons pe_str (pa_cons pe_str (pa_cons pe_str (pa_cons pe_str (pa_cons pe_str (pa_cons pe_str (pa_cons pe_str (pa_cons pe_str (pa_cons pe_str (pa_cons pe_str (pa_cons pe_str (pa_cons pe_str (pa_cons pe_str (pa_cons pe_str pa_nil))))))))))))))))))
        (pss_cons (ps_set (i := 2) sc__law_string.nd rfl (.inr rfl) (pe_op op_cat (pv 2) (pe_lst (pa_cons pe_str (pa_cons pe_str (pa_cons pe_str (pa_cons pe_str (pa_cons pe_str (pa_cons pe_str pa_nil)))))))))
        (pss_one (ps_ret (pe_join pe_str (pe_lc (own := [("_law_k", 3)]) (g := (gName 3)) (tt := tYes) (by rfl) sc__law_string.nd (pi_range1 (by rfl) T.z_range (pa_cons (pe_op op_add pe_int (pe_call (ok__law_draw T) (hr.mono (by decide)) (by rfl) T.g__law_draw T.f__law_draw.kp T.b__law_draw .nil pass0 (pa_cons (pv 0) (pa_cons (pv 1) pa_nil)))) pa_nil)) (blkOk_by (own := [("_law_k", 3)]) (N := ["_law_well_here", "_law_most", "_law_signs", "_law_k"]) (sc := defScope s__law_string) (by decide +kernel)) (fun _ _ _ _ _ => (pg_name (i := 3) sc__law_string.nd rfl (Or.inl rfl))) (fun _ _ _ _ _ => pts_nil) (fun _ _ _ _ _ => (pe_call (ok__law_one T) (hr.mono (by decide)) (by rfl) T.g__law_one T.f__law_one.kp T.b__law_one .nil pass0 (pa_cons (pv 0) (pa_cons (pv 2) pa_nil)))))))))), ?_⟩
    refine ⟨(by show 16 ≤ sizeLine; decide), fun p1 n1 => ?_⟩
    generalize hx1 : ([_, _, _, _, _, _, _, _, _, _, _, _, _, _, _, _] : List V) = xs1
    have l1 : xs1.length = 16 := by rw [← hx1]; rfl
    have g1 : xs1.all okSign = true := by rw [← hx1]; decide +kernel
    clear hx1
    refine ⟨_, rfl, (by show 6 ≤ sizeLine; decide), fun p2 n2 => ?_⟩
    generalize hx2 : ([_, _, _, _, _, _] : List V) = xs2
    have l2 : xs2.length = 6 := by rw [← hx2]; rfl
    have g2 : xs2.all okSign = true := by rw [← hx2]; decide +kernel
    clear hx2
    refine ⟨p1, p2, xs1, xs2, rfl, rfl, by rw [upd_ne (ne_of_none upd_same n2)]; exact upd_same, upd_same, (by rw [l1, l2]; decide), fun p n => ?_⟩
    have lms : (xs1 ++ xs2).length = 22 := by rw [List.length_append, l1, l2]
    have sms : (xs1 ++ xs2).all okSign = true := by rw [List.all_append, g1, g2]; rfl
    generalize xs1 ++ xs2 = ms at lms sms ⊢
    have npL : p ≠ L := ((hW.new n1).new n2).ne n
    have k1 : Keeps L H (upd (upd (upd H p1 (.lst xs1)) p2 (.lst xs2)) p (.lst ms)) := ((Keeps.new (L := L) n1).trans (Keeps.new n2)).trans (Keeps.new (o := .lst ms) n)
    have w1 : WellC cc (upd (upd (upd H p1 (.lst xs1)) p2 (.lst xs2)) p (.lst ms)) L := ((hW.new n1).new n2).new (o := .lst ms) n
    have hp : (upd (upd (upd H p1 (.lst xs1)) p2 (.lst xs2)) p (.lst ms)) p = some (.lst ms) := upd_same
    generalize upd (upd (upd H p1 (.lst xs1)) p2 (.lst xs2)) p (HO.lst ms) = H1 at w1 k1 hp ⊢
    refine ⟨⟨_, rfl⟩, _, rfl, _, rfl, L, m, cc, rfl, by omega, by omega, w1, fun H2 d k2 w2 h0 h1 => ?_⟩
    refine ⟨_, _, rfl, rfl, _, rfl, by omega, by omega, fun D nD => ?_⟩
    have nDL : D ≠ L := w2.ne nD
    have hp2 := k2 _ _ npL hp
    have nDp : D ≠ p := (ne_of_none hp2 nD).symm
    have nD0 : H D = none := (k1.trans k2).free nD nDL
    refine lc_range (lo := 0) (n := (1 + d).toNat) (fun i H' => Keeps L H H' ∧ WellC cc H' L ∧ H' p = some (.lst ms) ∧ ∃ l : List Nat, H' D = some (.lst (l.map fun c => V.str (S [c]))) ∧ l.length = i ∧ ∀ c ∈ l, AllowL.contains c = true) ?_ ?_ ?_
    · exact ⟨keeps_upd (k1.trans k2) nD0, w2.new nD, by rw [upd_ne nDp.symm]; exact hp2, [], upd_same, rfl, fun c hc => by cases hc⟩
    · rintro i H3 hi ⟨k3, w3, hp3, l, hD, hl, hc⟩
      refine ⟨rfl, _, rfl, _, rfl, L, p, ms, cc, rfl, SqL.of hp3, npL, (by intro e; rw [e] at lms; cases lms), by omega, w3, fun H4 v k4 w4 hv => ?_⟩
      obtain ⟨c, rfl, hc2⟩ := okSign_of (List.all_eq_true.mp sms v hv)
      refine ⟨_, k4 _ _ nDL hD, by rw [List.length_map, sizeLine_eq]; omega, keeps_upd (k3.trans k4) nD0, w4.upd nDL, by rw [upd_ne nDp.symm]; exact k4 _ _ npL hp3, l ++ [c], by rw [upd_same, List.map_append]; rfl, by rw [List.length_append, hl]; rfl, fun x hx => ?_⟩
      rcases List.mem_append.mp hx with hx | hx
      · exact hc x hx
      · rw [List.mem_singleton.mp hx]
        exact hc2
    · rintro H3 ⟨k3, w3, hp3, l, hD, hl, hc⟩
      have e1 : (l.map fun c => V.str (S [c])) = ((l.map fun c => [c]).map S).map V.str := by
        rw [List.map_map, List.map_map]
        rfl
      have e2 : (l.map fun c => [c]).flatten = l := by
        clear hD hl hc e1
        induction l with
        | nil => rfl
        | cons c r ih => rw [List.map_cons, List.flatten_cons, ih]; rfl
      rw [e1] at hD
      have hle : l.length ≤ m := by omega
      refine ⟨_, D, (l.map fun c => [c]).map S, rfl, rfl, .inl (SqL.of hD), ?_, ?_⟩
      · rw [sum_S, e2, lit_em, S_len]
        show l.length + _ * 0 ≤ _
        omega
      · rw [lit_em, My.join_nil, e2]
        exact q H3 l k3 w3 ⟨List.all_eq_true.mpr hc, (fun e => by rw [e] at hl; simp at hl; omega), hle⟩
def okText (n : Nat) : V → Bool
  | .str ⟨⟨l⟩⟩ => gTxt l && decide (l.length ≤ n)
  | _ => false
theorem okText_of {n : Nat} {v : V} (h : okText n v = true) : ∃ l, v = .str (S l) ∧ gTxt l = true ∧ l.length ≤ n := by
  unfold okText at h
  split at h
  · rename_i l
    rw [Bool.and_eq_true] at h
    exact ⟨l, rfl, h.1, of_decide_eq_true h.2⟩
  · cases h
def okOpt (n : Nat) : V → Bool
  | .non => true
  | v => okText n v
theorem okOpt_of {n : Nat} {v : V} (h : okOpt n v = true) : ∃ t, v = optV t ∧ gOpt t = true ∧ shortO n t = true := by
  cases v with
  | non => exact ⟨none, rfl, rfl, rfl⟩
  | str z =>
    obtain ⟨l, e, h1, h2⟩ := okText_of (v := .str z) h
    exact ⟨some l, e, h1, decide_eq_true h2⟩
  | _ => cases h
theorem text_ok {n : Nat} {l : List Nat} (h : gTxt l = true) (hn : l.length ≤ n) : okText n (.str (S l)) = true := by
  show (gTxt l && decide (l.length ≤ n)) = true
  rw [h, decide_eq_true hn]
  rfl
theorem gTxt_rep {l : List Nat} (h : gTxt l = true) (j : Nat) : gTxt (List.replicate j l).flatten = true := List.all_eq_true.mpr fun c hc => by
  obtain ⟨x, hx, hc⟩ := List.mem_flatten.mp hc
  rw [(List.mem_replicate.mp hx).2] at hc
  exact List.all_eq_true.mp h c hc
theorem len_rep (l : List Nat) (j : Nat) : (List.replicate j l).flatten.length = j * l.length := by
  rw [List.length_flatten, List.map_replicate, List.sum_replicate_nat]
def sp__law_target (K : PySem.W.Frag) : Sp := fun vs H Q _ => ∃ (L : Addr) (c : Int), vs = [.ref L] ∧ WellC c H L ∧ ∀ H' p g t, Keeps L H H' → WellC c H' L → H p = none → H' p = some (.tup [.str (S g), optV t]) → (gTxt g = true ∧ g.length ≤ 200) → (gOpt t = true ∧ shortO 200 t = true) → Q (.ref p) H'
theorem lit_long : ("/long" : Str) = S [47, 108, 111, 110, 103] ∧ ("a <b" : Str) = S [97, 32, 60, 98] := by decide +kernel
theorem ok__law_target {P : Program} {w : World} {K : PySem.W.Frag} {mg : Str → Option Value} {base : Heap} (T : Txt w K mg) : FnOk P w K mg base CX0 4 T.a__law_target T.d__law_target ["_law_well_here"] (sp__law_target K) := by
  refine T.f__law_target.ok sc__law_target (fun vs H Q E h => ?_) (fun cdv A outer s H vs Q E hr h => ?_)
  · obtain ⟨L, cc, rfl, _⟩ := h
    rfl
  · obtain ⟨L, cc, rfl, hW, q⟩ := h
    refine ⟨_, (pss_cons (ps_set (i := 1) sc__law_target.nd rfl (.inl rfl) (pe_call (ok__law_one T) (hr.mono (by decide)) (by rfl) T.g__law_one T.f__law_one.kp T.b__law_one .nil pass0 (pa_cons (pv 0) (pa_cons (pe_lst (pa_cons pe_str (pa_cons pe_str (pa_cons pe_str (pa_cons pe_str (pa_cons (pe_call (ok__law_string T) (hr.mono (by decide)) (by rfl) T.g__law_string T.f__law_string.kp T.b__law_string .nil pass0 (pa_cons (pv 0) (pa_cons pe_int pa_nil))) (pa_cons (pe_op op_mul_txt pe_str (pe_call (ok__law_draw T) (hr.mono (by decide)) (by rfl) T.g__law_draw T.f__law_draw.kp T.b__law_draw .nil pass0 (pa_cons (pv 0) (pa_cons pe_int pa_nil)))) pa_nil))))))) pa_nil))))
        (pss_one (ps_ret (pe_tup (pa_cons (pv 1) (pa_cons (pe_call (ok__law_one T) (hr.mono (by decide)) (by rfl) T.g__law_one T.f__law_one.kp T.b__law_one .nil pass0 (pa_cons (pv 0) (pa_cons (pe_lst (pa_cons pe_non (pa_cons pe_non (pa_cons pe_str (pa_cons pe_str (pa_cons (pe_call (ok__law_string T) (hr.mono (by decide)) (by rfl) T.g__law_string T.f__law_string.kp T.b__law_string .nil pass0 (pa_cons (pv 0) (pa_cons pe_int pa_nil))) (pa_cons (pe_op op_mul_txt pe_str (pe_call (ok__law_draw T) (hr.mono (by decide)) (by rfl) T.g__law_draw T.f__law_draw.kp T.b__law_draw .nil pass0 (pa_cons (pv 0) (pa_cons pe_int pa_nil)))) pa_nil))))))) pa_nil))) pa_nil)))))), ?_⟩
    obtain ⟨e1, e2⟩ := lit_long
    refine ⟨_, rfl, _, rfl, L, 5, cc, rfl, by decide, by decide, hW, fun H1 l1 k1 w1 d1 => ⟨_, rfl, L, 40, cc, rfl, by decide, by decide, w1, fun H2 d k2 w2 h0 h1 => ?_⟩⟩
    refine ⟨_, d.toNat, by rw [e1], by rw [Int.toNat_of_nonneg h0], by decide, by decide, by omega, (by show 6 ≤ sizeLine; decide), fun p np => ?_⟩
    have npL : p ≠ L := w2.ne np
    refine ⟨L, p, _, cc, rfl, SqL.of upd_same, npL, by simp, by show 6 < 1000000; decide, w2.new np, fun H3 v k3 w3 hv => ?_⟩
    have hg : ∃ g, v = .str (S g) ∧ gTxt g = true ∧ g.length ≤ 200 := by
      refine okText_of ?_
      have : ∀ v ∈ [V.str "", V.str "/u", V.str "a b", V.str "<&>\"", V.str (S l1), V.str (S (List.replicate d.toNat [47, 108, 111, 110, 103]).flatten)], okText 200 v = true := by
        intro v hv
        simp only [List.mem_cons, List.not_mem_nil, or_false] at hv
        rcases hv with rfl | rfl | rfl | rfl | rfl | rfl
        · decide +kernel
        · decide +kernel
        · decide +kernel
        · decide +kernel
        · exact text_ok d1.1 (Nat.le_trans d1.2.2 (by decide))
        · exact text_ok (gTxt_rep (by decide +kernel) _) (by rw [len_rep]; show _ * 5 ≤ 200; omega)
      exact this v hv
    obtain ⟨g, rfl, hg⟩ := hg
    refine ⟨_, rfl, _, rfl, _, rfl, L, 5, cc, rfl, by decide, by decide, w3, fun H4 l2 k4 w4 d2 => ⟨_, rfl, L, 50, cc, rfl, by decide, by decide, w4, fun H5 d' k5 w5 h0' h1' => ?_⟩⟩
    refine ⟨_, d'.toNat, by rw [e2], by rw [Int.toNat_of_nonneg h0'], by decide, by decide, by omega, (by show 6 ≤ sizeLine; decide), fun p2 np2 => ?_⟩
    have np2L : p2 ≠ L := w5.ne np2
    refine ⟨L, p2, _, cc, rfl, SqL.of upd_same, np2L, by simp, by show 6 < 1000000; decide, w5.new np2, fun H6 v k6 w6 hv => ?_⟩
    have ht : ∃ t, v = optV t ∧ gOpt t = true ∧ shortO 200 t = true := by
      refine okOpt_of ?_
      have : ∀ v ∈ [V.non, V.non, V.str "", V.str "t", V.str (S l2), V.str (S (List.replicate d'.toNat [97, 32, 60, 98]).flatten)], okOpt 200 v = true := by
        intro v hv
        simp only [List.mem_cons, List.not_mem_nil, or_false] at hv
        rcases hv with rfl | rfl | rfl | rfl | rfl | rfl
        · rfl
        · rfl
        · decide +kernel
        · decide +kernel
        · exact text_ok d2.1 (Nat.le_trans d2.2.2 (by decide))
        · exact text_ok (gTxt_rep (by decide +kernel) _) (by rw [len_rep]; show _ * 4 ≤ 200; omega)
      exact this v hv
    obtain ⟨t, rfl, ht⟩ := ht
    have kk : Keeps L H H6 := ((((k1.trans k2).trans (.new np)).trans k3).trans ((k4.trans k5).trans (.new np2))).trans k6
    exact ⟨(by show 2 ≤ sizeLine; decide), fun r nr => q _ r g t (kk.trans (.new nr)) (w6.new nr) (kk.free nr (w6.ne nr)) upd_same hg ht⟩

/-! ### drawn inlines -/
structure GI (k h : Bool) (deep : Nat) (x : Inl) : Prop where
  g : gI k x = true
  s : sI x = true
  d : hI x ≤ deep
  n : h = false → noI x = true
structure GW (k h : Bool) (deep : Nat) (r : List Inl) : Prop where
  g : gR k false r = true
  s : sR r = true
  d : hR r ≤ deep
  n : h = false → noR r = true
theorem gtext {n : Nat} {l : List Nat} (h : Good n l) : (gTxt l && !l.isEmpty) = true := by
  rw [h.1]
  cases l with
  | nil => exact absurd rfl h.2.1
  | cons c l => rfl
theorem GI.text {k h : Bool} {deep : Nat} {l : List Nat} (g : Good 5 l) : GI k h deep (.text l) := ⟨gtext g, decide_eq_true (Nat.le_trans g.2.2 (by decide)), Nat.zero_le _, fun _ => rfl⟩
theorem GI.code {k h : Bool} {deep : Nat} {l : List Nat} (g : Good 4 l) : GI k h deep (.code l) := ⟨gtext g, decide_eq_true (Nat.le_trans g.2.2 (by decide)), Nat.zero_le _, fun _ => rfl⟩
theorem GI.soft {k h : Bool} {deep : Nat} : GI k h deep .soft := ⟨rfl, rfl, Nat.zero_le _, fun _ => rfl⟩
theorem GI.hard {k h : Bool} {deep : Nat} : GI k h deep .hard := ⟨rfl, rfl, Nat.zero_le _, fun _ => rfl⟩
theorem notEmp {r : List Inl} (hne : r ≠ []) {b : Bool} (h : b = true) : (!r.isEmpty && b) = true := by
  rw [h]
  cases r with
  | nil => exact absurd rfl hne
  | cons _ _ => rfl
theorem GI.emph {k h : Bool} {deep : Nat} {r : List Inl} (g : GW k h deep r) (hne : r ≠ []) : GI k h (deep + 1) (.emph r) := ⟨notEmp hne g.g, g.s, by have := g.d; show 1 + hR r ≤ _; omega, g.n⟩
theorem GI.strong {k h : Bool} {deep : Nat} {r : List Inl} (g : GW k h deep r) (hne : r ≠ []) : GI k h (deep + 1) (.strong r) := ⟨notEmp hne g.g, g.s, by have := g.d; show 1 + hR r ≤ _; omega, g.n⟩
theorem GI.link {h : Bool} {deep : Nat} {r : List Inl} {d : List Nat} {t : Option (List Nat)} (g : GW true h deep r) (hd : gTxt d = true ∧ d.length ≤ 200) (ht : gOpt t = true ∧ shortO 200 t = true) : GI false h (deep + 1) (.link d t r) := ⟨by
  show (!false && gTxt d && gOpt t && gR true false r) = true
  rw [hd.1, ht.1, g.g]
  rfl, by
  show (decide (d.length ≤ 200) && shortO 200 t && sR r) = true
  rw [decide_eq_true hd.2, ht.2, g.s]
  rfl, by have := g.d; show 1 + hR r ≤ _; omega, g.n⟩
theorem GI.image {k h : Bool} {deep : Nat} {r : List Inl} {d : List Nat} {t : Option (List Nat)} (g : GW false h deep r) (hd : gTxt d = true ∧ d.length ≤ 200) (ht : gOpt t = true ∧ shortO 200 t = true) : GI k h (deep + 1) (.image d t r) := ⟨by
  show (gTxt d && gOpt t && gR false false r) = true
  rw [hd.1, ht.1, g.g]
  rfl, by
  show (decide (d.length ≤ 200) && shortO 200 t && sR r) = true
  rw [decide_eq_true hd.2, ht.2, g.s]
  rfl, by have := g.d; show 1 + hR r ≤ _; omega, g.n⟩
theorem GW.nil {k h : Bool} {deep : Nat} : GW k h deep [] := ⟨rfl, rfl, Nat.zero_le _, fun _ => rfl⟩
theorem GW.soft {k h : Bool} {deep : Nat} : GW k h deep [.soft] := ⟨rfl, rfl, Nat.zero_le _, fun _ => rfl⟩
theorem GW.more {k h : Bool} {deep : Nat} {r : List Inl} {x : Inl} (g : GW k h deep r) (i : GI k h deep x) (hl : (lastT false r && isT x) = false) : GW k h deep (r ++ [x]) := ⟨by
  rw [gR_more, g.g, i.g, hl]
  rfl, by
  rw [sR_app, g.s]
  show (true && (sI x && true)) = true
  rw [i.s]
  rfl, by
  rw [hR_app]
  have := g.d
  have := i.d
  show max (hR r) (max (hI x) 0) ≤ deep
  omega, fun e => by
  rw [noR_app, g.n e]
  show (true && (noI x && true)) = true
  rw [i.n e]
  rfl⟩
def sp__law_inline (K : PySem.W.Frag) (n : Nat) : Sp := fun vs H Q _ => ∃ (L : Addr) (z : Int) (deep : Nat) (b1 b2 : Bool) (c : Int), vs = [.ref L, .int z, .bl b1, .bl b2] ∧ z = (deep : Int) ∧ deep < n ∧ c ≤ 200 ∧ WellC c H L ∧
  ∀ H' v x c', Keeps L H H' → WellC c' H' L → Dp K H' v (Inl.toD x) → GI b1 b2 deep x → (pc x : Int) ≤ 2 * (c - c') → (c - 1 ≤ c' ∨ -(2 * (deep : Int)) ≤ c') → Q v H'
def sp__law_row (K : PySem.W.Frag) (n : Nat) : Sp := fun vs H Q _ => ∃ (L : Addr) (z : Int) (deep : Nat) (b1 b2 : Bool) (c : Int), vs = [.ref L, .int z, .bl b1, .bl b2] ∧ z = (deep : Int) ∧ deep < n ∧ n ≤ 10 ∧ c ≤ 200 ∧ WellC c H L ∧
  ∀ H' v r c', Keeps L H H' → WellC c' H' L → Dp K H' v (.tuple (rowD r)) → GW b1 b2 deep r → (pcR r : Int) ≤ 2 * (c - c') → (c ≤ c' ∨ -(2 * (deep : Int)) - 2 ≤ c') → Q v H'
theorem at2l {x y z : V} : atI [x, y, z] 2 = some z := atI_nat (j := 2) rfl
theorem at2a {x y : V} {d : Int} (h : d = 2) : atI [x, y] (d - 2) = some x := by
  subst h
  exact atI_nat (j := 0) rfl
theorem at2b {x y : V} {d : Int} (h : d = 3) : atI [x, y] (d - 2) = some y := by
  subst h
  exact atI_nat (j := 1) rfl
theorem at5 {x y : V} {d : Int} (h : d = 5 ∨ d = 6) : ∃ v, atI [x, y] (d - 5) = some v ∧ (v = x ∨ v = y) := by
  rcases h with rfl | rfl
  · exact ⟨x, atI_nat (j := 0) rfl, .inl rfl⟩
  · exact ⟨y, atI_nat (j := 1) rfl, .inr rfl⟩
theorem htmls_ok : ∀ v ∈ ([.str "<b>", .str "</b>", .str "<!-- c -->", .str "<a\nb>"] : List V), okText 20 v = true ∧ v ≠ .str (S []) := by
  have : ([.str "<b>", .str "</b>", .str "<!-- c -->", .str "<a\nb>"] : List V).all (fun v => okText 20 v && decide (v ≠ .str (S []))) = true := by decide +kernel
  intro v hv
  have h := List.all_eq_true.mp this v hv
  rw [Bool.and_eq_true] at h
  exact ⟨h.1, of_decide_eq_true h.2⟩
theorem dp_one {K : PySem.W.Frag} {H : Hp} {p : Addr} {z : Str} (h : H p = some (.tup [.str z])) : Dp K H (.ref p) (.tuple [.str z]) := .tup (SqT.of h) (.cons (.str _) .nil)
theorem dp_two {K : PySem.W.Frag} {H : Hp} {p : Addr} {z : Str} {u : V} {d : PyData} (h : H p = some (.tup [.str z, u])) (hu : Dp K H u d) : Dp K H (.ref p) (.tuple [.str z, d]) := .tup (SqT.of h) (.cons (.str _) (.cons hu .nil))
theorem dp_four {K : PySem.W.Frag} {H : Hp} {p : Addr} {z y : Str} {t u : V} {d d2 : PyData} (h : H p = some (.tup [.str z, .str y, t, u])) (ht : Dp K H t d) (hu : Dp K H u d2) : Dp K H (.ref p) (.tuple [.str z, .str y, d, d2]) :=
  .tup (SqT.of h) (.cons (.str _) (.cons (.str _) (.cons ht (.cons hu .nil))))
theorem ok__law_inline {P : Program} {w : World} {K : PySem.W.Frag} {mg : Str → Option Value} {base : Heap} (T : Txt w K mg) (n : Nat) (GR : FnOk P w K mg base CX0 (6 + 2 * n) T.a__law_row T.d__law_row ["_law_well_here", "_law_deep", "_law_is_linked", "_law_has_html"] (sp__law_row K n)) (hn : n ≤ 10) :
    FnOk P w K mg base CX0 (6 + 2 * n + 1) T.a__law_inline T.d__law_inline ["_law_well_here", "_law_deep", "_law_is_linked", "_law_has_html"] (sp__law_inline K (n + 1)) := by
  refine T.f__law_inline.ok sc__law_inline (fun vs H Q E h => ?_) (fun cdv A outer s H vs Q E hr h => ?_)
  · obtain ⟨L, z, deep, b1, b2, cc, rfl, _⟩ := h
    rfl
  · obtain ⟨L, z, deep, b1, b2, z0, rfl, rfl, hd, hc, ⟨x0, y0, hL⟩, q⟩ := h
    refine ⟨_, (pss_cons (ps_asg (pe_op op_sub (pe_ix ix_list (pv 0) pe_int (fun _ _ => rfl)) pe_int) (pg_sub (pv 0) pe_int set_list))
        (pss_cons (ps_set (i := 4) sc__law_inline.nd rfl (.inl rfl) (pe_call (ok__law_draw T) (hr.mono (by omega)) (by rfl) T.g__law_draw T.f__law_draw.kp T.b__law_draw .nil pass0 (pa_cons (pv 0) (pa_cons (pe_ifExp (pt_cmpR op_gt (pv 1) pe_int (nomark _)) pe_int pe_int) pa_nil))))
        (pss_cons (ps_if (PW.pt (pw_and (pt_cmpR op_eq (pv 4) pe_int (nomark _)) (pw_and1 (pt_val (pv 3))))) (pss_one (ps_ret (pe_tup (pa_cons pe_str (pa_cons (pe_call (ok__law_one T) (hr.mono (by omega)) (by rfl) T.g__law_one T.f__law_one.kp T.b__law_one .nil pass0 (pa_cons (pv 0) (pa_cons (pe_lst (pa_cons pe_str (pa_cons pe_str (pa_cons pe_str (pa_cons pe_str pa_nil))))) pa_nil))) pa_nil))))) pss_nil)
        (pss_cons (ps_if (pt_cmpR op_lt (pv 4) pe_int (nomark _)) (pss_one (ps_ret (pe_tup (pa_cons pe_str (pa_cons (pe_call (ok__law_string T) (hr.mono (by omega)) (by rfl) T.g__law_string T.f__law_string.kp T.b__law_string .nil pass0 (pa_cons (pv 0) (pa_cons pe_int pa_nil))) pa_nil))))) pss_nil)
        (pss_cons (ps_if (pt_cmpR op_lt (pv 4) pe_int (nomark _)) (pss_one (ps_ret (pe_ix ix_list (pe_lst (pa_cons (pe_tup (pa_cons pe_str pa_nil)) (pa_cons (pe_tup (pa_cons pe_str (pa_cons (pe_call (ok__law_string T) (hr.mono (by omega)) (by rfl) T.g__law_string T.f__law_string.kp T.b__law_string .nil pass0 (pa_cons (pv 0) (pa_cons pe_int pa_nil))) pa_nil))) pa_nil))) (pe_op op_sub (pv 4) pe_int) (fun _ _ => rfl)))) pss_nil)
        (pss_cons (ps_if (pt_cmpR op_eq (pv 4) pe_int (nomark _)) (pss_one (ps_ret (pe_tup (pa_cons pe_str pa_nil)))) pss_nil)
        (pss_cons (ps_if (pt_cmpR op_lt (pv 4) pe_int (nomark _)) (pss_one (ps_ret (pe_tup (pa_cons (pe_ix ix_list (pe_lst (pa_cons pe_str (pa_cons pe_str pa_nil))) (pe_op op_sub (pv 4) pe_int) (fun _ _ => rfl)) (pa_cons (pe_orT (pe_call GR (hr.mono (by omega)) (by rfl) T.g__law_row T.f__law_row.kp T.b__law_row .nil pass0 (pa_cons (pv 0) (pa_cons (pe_op op_sub (pv 1) pe_int) (pa_cons (pv 2) (pa_cons (pv 3) pa_nil))))) (pe_one (pe_tup (pa_cons (pe_tup (pa_cons pe_str pa_nil)) pa_nil)))) pa_nil))))) pss_nil)
        (pss_cons (ps_asg (pe_call (ok__law_target T) (hr.mono (by omega)) (by rfl) T.g__law_target T.f__law_target.kp T.b__law_target .nil pass0 (pa_cons (pv 0) pa_nil)) (pg_tup (by rfl) (pgs_cons (pg_name (i := 5) sc__law_inline.nd rfl (.inl rfl)) (pgs_cons (pg_name (i := 6) sc__law_inline.nd rfl (.inl rfl)) pgs_nil))))
        (pss_cons (ps_if (PW.pt (pw_and (pt_cmpR op_eq (pv 4) pe_int (nomark _)) (pw_and1 (pt_not (pt_val (pv 2)))))) (pss_one (ps_ret (pe_tup (pa_cons pe_str (pa_cons (pv 5) (pa_cons (pv 6) (pa_cons (pe_call GR (hr.mono (by omega)) (by rfl) T.g__law_row T.f__law_row.kp T.b__law_row .nil pass0 (pa_cons (pv 0) (pa_cons (pe_op op_sub (pv 1) pe_int) (pa_cons pe_bl (pa_cons (pv 3) pa_nil))))) pa_nil))))))) pss_nil)
        (pss_one (ps_ret (pe_tup (pa_cons pe_str (pa_cons (pv 5) (pa_cons (pv 6) (pa_cons (pe_call GR (hr.mono (by omega)) (by rfl) T.g__law_row T.f__law_row.kp T.b__law_row .nil pass0 (pa_cons (pv 0) (pa_cons (pe_op op_sub (pv 1) pe_int) (pa_cons pe_bl (pa_cons (pv 3) pa_nil))))) pa_nil)))))))))))))))), ?_⟩
    refine ⟨_, rfl, L, _, _, _, rfl, rfl, SqL.of hL, at2l, _, _, rfl, rfl, _, rfl, L, _, _, 2, rfl, rfl, hL, rfl, ?_⟩
    have k1 : Keeps L H (upd H L (.lst ([V.int x0, V.int y0, V.int z0].set 2 (.int (z0 - 1))))) := .at
    have w1 : WellC (z0 - 1) (upd H L (.lst ([V.int x0, V.int y0, V.int z0].set 2 (.int (z0 - 1))))) L := ⟨_, _, upd_same⟩
    generalize (upd H L (.lst ([V.int x0, V.int y0, V.int z0].set 2 (.int (z0 - 1))))) = H1 at k1 w1 ⊢
    refine ⟨_, rfl, tif_const (decide (0 < deep)) (fun Qb qb => ⟨_, rfl, _, _, rfl, rfl, _, rfl, ?_⟩) fun v hv => ?_⟩
    · have e : decide ((deep : Int) > 0) = decide (0 < deep) := decide_eq_decide.mpr (by omega)
      rw [e]
      exact qb
    obtain ⟨m, rfl, hm0, hm1, hm2⟩ : ∃ m : Int, v = .int m ∧ 0 < m ∧ m ≤ 9 ∧ (deep = 0 → m ≤ 4) := by
      by_cases c : 0 < deep
      · rw [if_pos (decide_eq_true c)] at hv
        exact ⟨9, hv, by decide, by decide, by omega⟩
      · rw [if_neg (by simpa using c)] at hv
        exact ⟨4, hv, by decide, by decide, fun _ => by decide⟩
    refine ⟨L, m, _, rfl, hm0, by omega, w1, fun H2 d k2 w2 d0 dm => ?_⟩
    have kk := k1.trans k2
    have nsub : ∀ {p : Addr}, H2 p = none → H p = none := fun {p} np => kk.free np (w2.ne np)
    refine if_g (bb := decide (d = 0) && b2) (andB' (fun Qb qb => ⟨_, rfl, rfl, _, rfl, by rw [decide_eq_decide.mpr (show V.int d = V.int 0 ↔ d = 0 from ⟨fun h => V.int.inj h, fun h => by rw [h]⟩)]; exact qb⟩) (fun Qb qb => ⟨_, rfl, _, rfl, qb⟩)) ?_
    cases c0 : decide (d = 0) && b2 with
    | true =>
      refine iteT ?_
      refine ⟨_, rfl, (by show 4 ≤ sizeLine; decide), fun p np => ?_⟩
      refine ⟨L, p, _, _, rfl, SqL.of upd_same, w2.ne np, by simp, by show 4 < 1000000; decide, w2.new np, fun H3 v k3 w3 hv => ?_⟩
      obtain ⟨hv1, hv2⟩ := htmls_ok v hv
      obtain ⟨t, rfl, ht1, ht2⟩ := okText_of hv1
      have hb2 : b2 = true := (Bool.and_eq_true _ _).mp c0 |>.2
      have gt : GI b1 b2 deep (.html t) := ⟨gtext (n := 20) ⟨ht1, (fun e => hv2 (by rw [e])), ht2⟩, decide_eq_true ht2, Nat.zero_le _, fun e => by rw [hb2] at e; cases e⟩
      exact ⟨(by show 2 ≤ sizeLine; decide), fun r nr => q _ _ (.html t) _ (((kk.trans (.new np)).trans k3).trans (.new nr)) (w3.new nr) (dp_two upd_same (.str _)) gt (by show (1 : Int) ≤ _; omega) (.inl (by omega))⟩
    | false =>
      refine iteF ?_
      refine if_n (bb := decide (d < 2)) (fun Qb qb => ⟨_, rfl, _, _, rfl, rfl, _, rfl, qb⟩) ?_
      cases c2 : decide (d < 2) with
      | true =>
        refine iteT ?_
        refine ⟨_, rfl, L, 5, _, rfl, by decide, by decide, w2, fun H3 t k3 w3 dt => ?_⟩
        exact ⟨(by show 2 ≤ sizeLine; decide), fun r nr => q _ _ (.text t) _ ((kk.trans k3).trans (.new nr)) (w3.new nr) (dp_two upd_same (.str _)) (.text dt) (by show (1 : Int) ≤ _; omega) (.inl (by omega))⟩
      | false =>
        have h2 : 2 ≤ d := by have := of_decide_eq_false c2; omega
        refine iteF ?_
        refine if_n (bb := decide (d < 4)) (fun Qb qb => ⟨_, rfl, _, _, rfl, rfl, _, rfl, qb⟩) ?_
        cases c4 : decide (d < 4) with
        | true =>
          have h4 := of_decide_eq_true c4
          refine iteT ?_
          refine ⟨(by show 1 ≤ sizeLine; decide), fun p1 np1 => ⟨_, rfl, L, 4, _, rfl, by decide, by decide, w2.new np1, fun H3 t k3 w3 dt => ⟨(by show 2 ≤ sizeLine; decide), fun p2 np2 => ⟨(by show 2 ≤ sizeLine; decide), fun p3 np3 => ?_⟩⟩⟩⟩
          have hp1 : H3 p1 = some (.tup [.str "soft"]) := k3 _ _ (w2.ne np1) upd_same
          have hp1' : (upd (upd H3 p2 (.tup [.str "code", .str (S t)])) p3 (.lst [.ref p1, .ref p2])) p1 = some (.tup [.str "soft"]) := (same_new np3) _ _ ((same_new np2) _ _ hp1)
          have hp2' : (upd (upd H3 p2 (.tup [.str "code", .str (S t)])) p3 (.lst [.ref p1, .ref p2])) p2 = some (.tup [.str "code", .str (S t)]) := (same_new np3) _ _ upd_same
          have hp3' : (upd (upd H3 p2 (.tup [.str "code", .str (S t)])) p3 (.lst [.ref p1, .ref p2])) p3 = some (.lst [.ref p1, .ref p2]) := upd_same
          have k5 : Keeps L H (upd (upd H3 p2 (.tup [.str "code", .str (S t)])) p3 (.lst [.ref p1, .ref p2])) := (((kk.trans (.new np1)).trans k3).trans (.new np2)).trans (.new np3)
          have w5 := (w3.new (o := .tup [.str "code", .str (S t)]) np2).new (o := .lst [.ref p1, .ref p2]) np3
          by_cases c3 : d = 2
          · exact ⟨_, rfl, _, _, rfl, rfl, p3, _, _, _, rfl, rfl, SqL.of hp3', at2a c3, q _ _ .soft _ k5 w5 (dp_one hp1') .soft (by show (1 : Int) ≤ _; omega) (.inl (by omega))⟩
          · exact ⟨_, rfl, _, _, rfl, rfl, p3, _, _, _, rfl, rfl, SqL.of hp3', at2b (by omega), q _ _ (.code t) _ k5 w5 (dp_two hp2' (.str _)) (.code dt) (by show (1 : Int) ≤ _; omega) (.inl (by omega))⟩
        | false =>
          have h4 : 4 ≤ d := by have := of_decide_eq_false c4; omega
          have hdeep : 0 < deep := by
            rcases Nat.eq_zero_or_pos deep with e | e
            · have := hm2 e
              omega
            · exact e
          obtain ⟨d1, rfl⟩ : ∃ d1, deep = d1 + 1 := ⟨deep - 1, by omega⟩
          refine iteF ?_
          refine if_n (bb := decide (d = 4)) (fun Qb qb => ⟨_, rfl, rfl, _, rfl, by rw [decide_eq_decide.mpr (show V.int d = V.int 4 ↔ d = 4 from ⟨fun h => V.int.inj h, fun h => by rw [h]⟩)]; exact qb⟩) ?_
          cases c5 : decide (d = 4) with
          | true =>
            refine iteT ?_
            exact ⟨(by show 1 ≤ sizeLine; decide), fun r nr => q _ _ .hard _ (kk.trans (.new nr)) (w2.new nr) (dp_one upd_same) .hard (by show (1 : Int) ≤ _; omega) (.inl (by omega))⟩
          | false =>
            have h5 : 5 ≤ d := by have := of_decide_eq_false c5; omega
            refine iteF ?_
            refine if_n (bb := decide (d < 7)) (fun Qb qb => ⟨_, rfl, _, _, rfl, rfl, _, rfl, qb⟩) ?_
            cases c7 : decide (d < 7) with
            | true =>
              have h7 := of_decide_eq_true c7
              refine iteT ?_
              obtain ⟨v, hv, hvv⟩ := at5 (x := V.str "emph") (y := V.str "strong") (d := d) (by omega)
              refine ⟨(by show 2 ≤ sizeLine; decide), fun p1 np1 => ⟨_, rfl, _, _, rfl, rfl, p1, _, _, v, rfl, rfl, SqL.of upd_same, hv, ?_⟩⟩
              refine ⟨_, rfl, _, rfl, _, _, rfl, rfl, _, rfl, _, rfl, L, _, d1, b1, b2, _, rfl, by omega, by omega, hn, by omega, w2.new np1, fun H3 u r c3 k3 w3 hu hg hl hb => ?_⟩
              obtain ⟨a, us, rfl, sqa, dps⟩ := dp_tup hu
              have hus : us.isEmpty = r.isEmpty := by
                cases r with
                | nil => cases dpAll_0 dps; rfl
                | cons y r => obtain ⟨_, _, rfl, _⟩ := dpAll_c dps; rfl
              refine ⟨!us.isEmpty, .inr (.inl ⟨us, sqa, rfl⟩), ?_⟩
              have fin : ∀ (H4 : Hp) (u : V) (r : List Inl) (c4 : Int), Keeps L H H4 → WellC c4 H4 L → Dp K H4 u (.tuple (rowD r)) → GW b1 b2 d1 r → r ≠ [] → (pcR r : Int) ≤ 2 * (z0 - 1 - c4) + 1 → (z0 - 1 ≤ c4 ∨ -(2 * (d1 : Int)) - 2 ≤ c4) → ∀ p, H4 p = none → Q (.ref p) (upd H4 p (.tup [v, u])) := fun H4 u r c4 k4 w4 hu hg hne hl hb p np => by
                have e1 : ((1 + pcR r : Nat) : Int) ≤ 2 * (z0 - c4) := by omega
                have e2 : z0 - 1 ≤ c4 ∨ -(2 * ((d1 + 1 : Nat) : Int)) ≤ c4 := by omega
                rcases hvv with rfl | rfl
                · exact q _ _ (.emph r) _ (k4.trans (.new np)) (w4.new np) (dp_two upd_same (dp_same (same_new np) hu)) (.emph hg hne) e1 e2
                · exact q _ _ (.strong r) _ (k4.trans (.new np)) (w4.new np) (dp_two upd_same (dp_same (same_new np) hu)) (.strong hg hne) e1 e2
              have k3' : Keeps L H H3 := (kk.trans (.new np1)).trans k3
              cases ce : us.isEmpty with
              | false => exact iteT ⟨(by show 2 ≤ sizeLine; decide), fun p np => fin H3 _ r _ k3' w3 hu hg (fun e => by rw [hus, e] at ce; cases ce) (by omega) hb p np⟩
              | true =>
                refine iteF ⟨(by show 1 ≤ sizeLine; decide), fun p2 np2 => ⟨(by show 1 ≤ sizeLine; decide), fun p3 np3 => ⟨(by show 2 ≤ sizeLine; decide), fun p np => ?_⟩⟩⟩
                refine fin _ _ [.soft] _ ((k3'.trans (.new np2)).trans (.new np3)) ((w3.new np2).new np3) (.tup (SqT.of upd_same) (.cons (dp_one ((same_new np3) _ _ upd_same)) .nil)) .soft (fun e => nomatch e) ?_ hb p np
                show (1 : Int) ≤ _
                omega
            | false =>
              refine iteF ?_
              refine ⟨_, rfl, L, _, rfl, w2, fun H3 p g t k3 w3 np hp hg ht => ?_⟩
              refine ⟨p, _, rfl, SqT.of hp, rfl, _, _, rfl, _, _, rfl, rfl, ?_⟩
              have kk3 := kk.trans k3
              have fin : ∀ (H4 : Hp) (u : V) (r : List Inl) (c4 : Int), Keeps L H3 H4 → WellC c4 H4 L → Dp K H4 u (.tuple (rowD r)) → (pcR r : Int) ≤ 2 * (z0 - 1 - c4) + 1 → (z0 - 1 ≤ c4 ∨ -(2 * (d1 : Int)) - 2 ≤ c4) → ∀ p, H4 p = none → (b1 = false → GW true b2 d1 r → Q (.ref p) (upd H4 p (.tup [.str "link", .str (S g), optV t, u]))) ∧ (GW false b2 d1 r → Q (.ref p) (upd H4 p (.tup [.str "image", .str (S g), optV t, u]))) := fun H4 u r c4 k4 w4 hu hl hb p np => by
                have e1 : ((1 + pcR r : Nat) : Int) ≤ 2 * (z0 - c4) := by omega
                have e2 : z0 - 1 ≤ c4 ∨ -(2 * ((d1 + 1 : Nat) : Int)) ≤ c4 := by omega
                refine ⟨fun eb gw => ?_, fun gw => ?_⟩
                · exact q _ _ (.link g t r) _ ((kk3.trans k4).trans (.new np)) (w4.new np) (dp_four upd_same (optV_dp t) (dp_same (same_new np) hu)) (by rw [eb]; exact .link gw hg ht) e1 e2
                · exact q _ _ (.image g t r) _ ((kk3.trans k4).trans (.new np)) (w4.new np) (dp_four upd_same (optV_dp t) (dp_same (same_new np) hu)) (.image gw hg ht) e1 e2
              refine if_g (bb := decide (d = 7) && !b1) (andB' (fun Qb qb => ⟨_, rfl, rfl, _, rfl, by rw [decide_eq_decide.mpr (show V.int d = V.int 7 ↔ d = 7 from ⟨fun h => V.int.inj h, fun h => by rw [h]⟩)]; exact qb⟩) (fun Qb qb => ⟨_, rfl, _, rfl, qb⟩)) ?_
              cases c8 : decide (d = 7) && !b1 with
              | true =>
                refine iteT ⟨_, rfl, _, rfl, _, rfl, _, rfl, _, _, rfl, rfl, _, rfl, L, _, d1, true, b2, _, rfl, by omega, by omega, hn, by omega, w3, fun H4 u r c4 k4 w4 hu hg hl hb => ?_⟩
                have hb1 : b1 = false := by
                  rw [Bool.and_eq_true] at c8
                  simpa using c8.2
                exact ⟨(by show 4 ≤ sizeLine; decide), fun p2 np2 => (fin H4 u r _ k4 w4 hu (by omega) hb p2 np2).1 hb1 hg⟩
              | false =>
                refine iteF ⟨_, rfl, _, rfl, _, rfl, _, rfl, _, _, rfl, rfl, _, rfl, L, _, d1, false, b2, _, rfl, by omega, by omega, hn, by omega, w3, fun H4 u r c4 k4 w4 hu hg hl hb => ?_⟩
                exact ⟨(by show 4 ≤ sizeLine; decide), fun p2 np2 => (fin H4 u r _ k4 w4 hu (by omega) hb p2 np2).2 hg⟩

theorem atLast {xs : List V} {x : V} : atI (xs ++ [x]) (-1) = some x := by
  have e : ixN (xs ++ [x]).length (-1) = some xs.length := by
    unfold ixN
    rw [if_neg (by decide), if_pos (by rw [List.length_append, List.length_singleton]; omega)]
    congr 1
    rw [List.length_append, List.length_singleton]
    omega
  unfold atI
  rw [e]
  show (xs ++ [x])[xs.length]? = some x
  rw [List.getElem?_append_right (Nat.le_refl _), Nat.sub_self]
  rfl
theorem rowD_app : ∀ a b : List Inl, rowD (a ++ b) = rowD a ++ rowD b
  | [], b => rfl
  | x :: a, b => by
    show x.toD :: rowD (a ++ b) = x.toD :: (rowD a ++ rowD b)
    rw [rowD_app a b]
theorem dpAll_app {K : PySem.W.Frag} {H : Hp} : ∀ {vs us : List V} {ds es : List PyData}, DpAll K H vs ds → DpAll K H us es → DpAll K H (vs ++ us) (ds ++ es)
  | _, _, _, _, .nil, g => g
  | _, _, _, _, .cons h r, g => .cons h (dpAll_app r g)
theorem dpAll_keep {K : PySem.W.Frag} {H H' : Hp} {L : Addr} {vs : List V} {ds : List PyData} (k : Keeps L H H') (hL : ∃ xs, H L = some (.lst xs)) (n : noListAll ds = true) (h : DpAll K H vs ds) : DpAll K H' vs ds := by
  have h1 := dpAll_rest (L := [L]) (fun b hb => by rw [List.mem_singleton.mp hb]; exact hL) n h
  refine dpAll_same (fun b o e => ?_) h1
  have hb : b ≠ L := fun z => by rw [z, rest_in (by simp)] at e; cases e
  rw [rest_out (by simpa using hb)] at e
  exact k b o hb e
theorem toD_name (x : Inl) : ∃ rest, x.toD = .tuple (.str (nameI x) :: rest) := by cases x <;> exact ⟨_, rfl⟩
theorem inl_name {K : PySem.W.Frag} {G : Hp} {v : V} {x : Inl} (h : Dp K G v x.toD) : ∃ a us, v = .ref a ∧ SqT K G a (.str (nameI x) :: us) := by
  obtain ⟨rest, e⟩ := toD_name x
  rw [e] at h
  obtain ⟨a, us, rfl, q, r⟩ := dp_tup h
  obtain ⟨u, us1, rfl, r1, _⟩ := dpAll_c r
  cases dp_str r1
  exact ⟨a, us1, rfl, q⟩
theorem isT_of {x : Inl} (h : (nameI x = ("text" : Str)) = False) : isT x = false := by
  rw [← name_text, decide_eq_false (by rw [h]; exact id)]
theorem dec_strB (a b : Str) : decide (V.str a = V.str b) = decide (a = b) := decide_eq_decide.mpr ⟨fun h => V.str.inj h, fun h => by rw [h]⟩
theorem shaped_rw {k : Bool} {r : List Inl} (g : gR k false r = true) (s : sR r = true) (hp : pcR r ≤ 10000) (hd : hR r ≤ 20) : SeqAt.shaped (.list (rowD r)) = true := by
  have h := sz_R k r false g s hp
  have h2 := h.deep
  show (PyData.canLayAll0 (rowD r) && decide (PyData.depthAll (rowD r) + 1 ≤ 64)) = true
  rw [fitAll_lay _ h.ft, decide_eq_true (by omega)]
  rfl
theorem ok__law_row {P : Program} {w : World} {K : PySem.W.Frag} {mg : Str → Option Value} {base : Heap} (T : Txt w K mg) (n : Nat) (FI : FnOk P w K mg base CX0 (6 + 2 * n + 1) T.a__law_inline T.d__law_inline ["_law_well_here", "_law_deep", "_law_is_linked", "_law_has_html"] (sp__law_inline K (n + 1))) :
    FnOk P w K mg base CX0 (6 + 2 * n + 1 + 1) T.a__law_row T.d__law_row ["_law_well_here", "_law_deep", "_law_is_linked", "_law_has_html"] (sp__law_row K (n + 1)) := by
  refine T.f__law_row.ok sc__law_row (fun vs H Q E h => ?_) (fun cdv A outer s H vs Q E hr h => ?_)
  · obtain ⟨L, z, deep, b1, b2, cc, rfl, _⟩ := h
    rfl
  · obtain ⟨L, z, deep, b1, b2, z0, rfl, rfl, hd, hn, hc, hW, q⟩ := h
    obtain ⟨x0, y0, hL⟩ := id hW
    refine ⟨_, (pss_cons (ps_set (i := 4) sc__law_row.nd rfl (.inl rfl) (pe_lst pa_nil))
        (pss_cons (ps_for PassesOwn.never rfl (pi_range1 (by rfl) T.z_range (pa_cons (pe_ifExp (pt_cmpR op_gt (pe_ix ix_list (pv 0) pe_int (fun _ _ => rfl)) pe_int (nomark _)) (pe_call (ok__law_draw T) (hr.mono (by omega)) (by rfl) T.g__law_draw T.f__law_draw.kp T.b__law_draw .nil pass0 (pa_cons (pv 0) (pa_cons pe_int pa_nil))) pe_int) pa_nil)) (pg_name (i := 5) sc__law_row.nd rfl (.inl rfl)) (pss_cons (ps_set (i := 6) sc__law_row.nd rfl (.inl rfl) (pe_call FI (hr.mono (by omega)) (by rfl) T.g__law_inline T.f__law_inline.kp T.b__law_inline .nil pass0 (pa_cons (pv 0) (pa_cons (pv 1) (pa_cons (pv 2) (pa_cons (pv 3) pa_nil))))))
        (pss_one (ps_if (PW.pt (pw_or (pt_cmpR (op_eqD hr.units) (pv 4) (pe_lst pa_nil) (nomark _)) (pw_or (pt_cmpR op_ne (pe_ix ix_tup (pv 6) pe_int (fun _ _ => rfl)) pe_str (nomark _)) (pw_or1 (pt_cmpR op_ne (pe_ix ix_tup (pe_ix ix_list (pv 4) (pe_un un_neg pe_int) (fun _ _ => rfl)) pe_int (fun _ _ => rfl)) pe_str (nomark _)))))) (pss_one (ps_expr (pe_bm PySem.F.plainAttrs_list PySem.F.slot_list_append PySem.F.type_list_append mt_append (pv 4) (pa_cons (pv 6) pa_nil)))) pss_nil))))
        (pss_one (ps_ret (pe_callTy call_tuple_of (by rfl) T.z_tuple (by decide +kernel) (pa_cons (pv 4) pa_nil)))))), ?_⟩
    refine ⟨(by show 0 ≤ sizeLine; decide), fun D nD => ?_⟩
    have nDL : D ≠ L := hW.ne nD
    refine for_tif_g (fun v H' => ∃ k : Nat, v = .int (k : Int) ∧ k ≤ 3 ∧ (0 < z0 ∨ k = 0) ∧ Keeps L (upd H D (.lst [])) H' ∧ WellC z0 H' L) (decide (0 < z0)) (fun Qb qb => ⟨_, rfl, L, _, _, _, rfl, rfl, SqL.of (by rw [upd_ne nDL.symm]; exact hL), at2l, _, _, rfl, rfl, _, rfl, qb⟩) (fun hz => ?_) (fun _ => ?_) ?_
    · intro Qv qv
      exact ⟨_, rfl, L, 4, _, rfl, by decide, by decide, hW.new nD, fun H2 d k2 w2 d0 d1 => qv _ _ ⟨d.toNat, by rw [Int.toNat_of_nonneg d0], by omega, .inl (of_decide_eq_true hz), k2, w2⟩⟩
    · intro Qv qv
      exact qv _ _ ⟨0, rfl, by decide, .inr rfl, .of (Same.refl _), hW.new nD⟩
    rintro v H2 ⟨k, rfl, hk, hz, k2, w2⟩
    refine ⟨_, rfl, by omega, by omega, ?_⟩
    refine for_range (lo := 0) (n := (k : Int).toNat) (fun i σ' H' => ∃ vs r c3 a5 a6, σ' = [some (.ref L), some (.int (deep : Int)), some (.bl b1), some (.bl b2), some (.ref D), a5, a6] ∧ Keeps L H H' ∧ WellC c3 H' L ∧ H' D = some (.lst vs) ∧ DpAll K H' vs (rowD r) ∧ r.length ≤ i ∧ GW b1 b2 deep r ∧ (pcR r : Int) ≤ 2 * (z0 - c3) ∧ (0 < z0 → 1 - (i : Int) - 2 * deep ≤ c3) ∧ (k = 0 → c3 = z0)) ?_ ?_ ?_
    · exact ⟨[], [], z0, none, none, rfl, (Keeps.new nD).trans k2, w2, k2 _ _ nDL upd_same, .nil, Nat.le_refl _, .nil, by show (0 : Int) ≤ _; omega, fun _ => by omega, fun _ => rfl⟩
    · rintro i σ' H3 hi ⟨vs, r, c3, a5, a6, rfl, k3, w3, hD, dps, hl, hg, hp, hlo, _⟩
      have hz0 : 0 < z0 := by omega
      have hlo' := hlo hz0
      refine ⟨_, rfl, _, rfl, _, rfl, _, rfl, L, _, deep, b1, b2, c3, rfl, rfl, hd, by omega, w3, fun H4 v x c4 k4 w4 hv hx hpx hcx => ?_⟩
      have hD4 : H4 D = some (.lst vs) := k4 _ _ nDL hD
      have dps4 : DpAll K H4 vs (rowD r) := dpAll_keep k4 w3.lst (noList_row r) dps
      have lvs : vs.length = r.length := by
        have := (dpAll_all2 dps4).1
        rw [rowD_map, List.length_map] at this
        exact this
      have kH4 := k3.trans k4
      have add : (lastT false r && isT x) = false → ∀ (H5 : Hp), Same H4 H5 → ∀ b5 b6, ∃ vs' r' c' a5 a6, [some (.ref L), some (.int (deep : Int)), some (.bl b1), some (.bl b2), some (.ref D), b5, b6] = [some (V.ref L), some (.int (deep : Int)), some (.bl b1), some (.bl b2), some (.ref D), a5, a6] ∧ Keeps L H (upd H5 D (.lst (vs ++ [v]))) ∧ WellC c' (upd H5 D (.lst (vs ++ [v]))) L ∧ (upd H5 D (.lst (vs ++ [v]))) D = some (.lst vs') ∧ DpAll K (upd H5 D (.lst (vs ++ [v]))) vs' (rowD r') ∧ r'.length ≤ i + 1 ∧ GW b1 b2 deep r' ∧ (pcR r' : Int) ≤ 2 * (z0 - c') ∧ (0 < z0 → 1 - ((i + 1 : Nat) : Int) - 2 * deep ≤ c') ∧ (k = 0 → c' = z0) := fun hlt H5 s5 b5 b6 => by
        refine ⟨vs ++ [v], r ++ [x], c4, b5, b6, rfl, keeps_upd (kH4.trans (.of s5)) nD, (w4.same s5).upd nDL, upd_same, ?_, by rw [List.length_append, List.length_singleton]; omega, hg.more hx hlt, ?_, fun _ => by omega, fun e => by omega⟩
        · rw [rowD_app]
          refine dpAll_keep (L := D) Keeps.at ⟨vs, s5 _ _ hD4⟩ ?_ (dpAll_same s5 (dpAll_app dps4 (.cons hv .nil)))
          rw [← rowD_app]
          exact noList_row _
        · rw [pcR_app, pcR_one]
          omega
      have small : vs.length < sizeLine := by rw [lvs, sizeLine_eq]; omega
      obtain ⟨a, us, rfl, hsq⟩ := inl_name hv
      refine ⟨_, rfl, (by show 0 ≤ sizeLine; decide), fun p np => ?_⟩
      have s5 := same_new (o := .lst []) np
      refine ⟨.list (rowD r), .list [], .lst (SqL.of (s5 _ _ hD4)) (dpAll_same s5 dps4), .lst (SqL.of upd_same) .nil, shaped_rw hg.g hg.s (by omega) (by have := hg.d; omega), rfl, _, rfl, ?_⟩
      cases r with
      | nil =>
        refine iteT ?_
        refine ⟨_, rfl, .inl ⟨rfl, _, SqL.of (s5 _ _ hD4)⟩, _, rfl, D, vs, _, rfl, rfl, s5 _ _ hD4, small, ?_⟩
        exact add rfl _ s5 _ _
      | cons y0 r0 =>
        refine ifF rfl ?_
        refine ⟨_, rfl, a, _, _, _, rfl, rfl, same_tup s5 hsq, at0, rfl, _, rfl, ite2 (fun cx => ?_) (fun cx => ?_)⟩
        · have ht : isT x = false := by
            rw [dec_strB] at cx
            rw [← name_text]
            simpa using cx
          refine ⟨_, rfl, .inl ⟨rfl, _, SqL.of (s5 _ _ hD4)⟩, _, rfl, D, vs, _, rfl, rfl, s5 _ _ hD4, small, ?_⟩
          exact add (by rw [ht, Bool.and_false]) _ s5 _ _
        · -- the last one of those that were found
          obtain ⟨r1, xl, er⟩ : ∃ r1 xl, y0 :: r0 = r1 ++ [xl] := ⟨_, _, (List.dropLast_concat_getLast (l := y0 :: r0) (by simp)).symm⟩
          obtain ⟨ys, yl, ey, hxl⟩ : ∃ ys yl, vs = ys ++ [yl] ∧ Dp K H4 yl xl.toD := by
            have h2 := dpAll_all2 dps4
            rw [er, rowD_app] at h2
            have hlen : vs.length = (rowD r1).length + 1 := by rw [h2.1, List.length_append]; rfl
            have hne : vs ≠ [] := fun e => by rw [e] at hlen; simp at hlen
            refine ⟨vs.dropLast, vs.getLast hne, (List.dropLast_concat_getLast hne).symm, ?_⟩
            have e1 : vs[(rowD r1).length]? = some (vs.getLast hne) := by
              rw [List.getLast_eq_getElem, List.getElem?_eq_getElem (by omega)]
              congr 2
              omega
            exact h2.2 _ _ _ e1 (by rw [List.getElem?_append_right (Nat.le_refl _), Nat.sub_self]; rfl)
          obtain ⟨al, usl, rfl, hsl⟩ := inl_name hxl
          refine ⟨_, rfl, _, rfl, D, vs, _, _, rfl, rfl, SqL.of (s5 _ _ hD4), by rw [ey]; exact atLast, al, _, _, _, rfl, rfl, same_tup s5 hsl, at0, rfl, _, rfl, ite2 (fun cx => ?_) (fun cx => ?_)⟩
          · have ht : lastT false (y0 :: r0) = false := by
              rw [dec_strB] at cx
              rw [er, lastT_snoc, ← name_text]
              simpa using cx
            refine ⟨_, rfl, .inl ⟨rfl, _, SqL.of (s5 _ _ hD4)⟩, _, rfl, D, vs, _, rfl, rfl, s5 _ _ hD4, small, ?_⟩
            exact add (by rw [ht, Bool.false_and]) _ s5 _ _
          · exact ⟨vs, y0 :: r0, c4, _, _, rfl, kH4.trans (.of s5), w4.same s5, s5 _ _ hD4, dpAll_same s5 dps4, Nat.le_succ_of_le hl, hg, by have := pc_pos x; omega, fun _ => by omega, fun e => by omega⟩
    · rintro σ' H3 ⟨vs, r, c3, a5, a6, rfl, k3, w3, hD, dps, hl, hg, hp, hlo, hk0⟩
      refine ⟨_, rfl, D, vs, rfl, .inl ⟨SqL.of hD, fun p np => ?_⟩⟩
      exact q _ _ r c3 (k3.trans (.new np)) (w3.new np) (.tup (SqT.of upd_same) (dpAll_same (same_new np) dps)) hg hp (by
        rcases hz with h | h
        · have := hlo h
          right
          omega
        · have := hk0 h
          left
          omega)

/-! ### rows at a level -/
theorem fnOk_none {P : Program} {w : World} {K : PySem.W.Frag} {mg : Str → Option Value} {base : Heap} {k : Nat} {f : Addr} {fd : FuncData} {ps : List Str} {sp : Sp} (no : ∀ vs H Q E, ¬ sp vs H Q E) : FnOk P w K mg base CX0 k f fd ps sp :=
  ⟨fun vs H Q E h => absurd h (no vs H Q E), fun A outer s H args us vs Q E _ _ _ _ h => absurd h (no vs H Q E)⟩
theorem rows_ok {P : Program} {w : World} {K : PySem.W.Frag} {mg : Str → Option Value} {base : Heap} (T : Txt w K mg) : ∀ n, n ≤ 10 → FnOk P w K mg base CX0 (6 + 2 * n) T.a__law_row T.d__law_row ["_law_well_here", "_law_deep", "_law_is_linked", "_law_has_html"] (sp__law_row K n)
  | 0, _ => fnOk_none fun vs H Q E h => by
    obtain ⟨_, _, deep, _, _, _, _, _, hd, _⟩ := h
    omega
  | n + 1, hn => by
    have e : 6 + 2 * (n + 1) = 6 + 2 * n + 1 + 1 := by omega
    rw [e]
    exact ok__law_row T n (ok__law_inline T n (rows_ok T n (by omega)) (by omega))
/-! ### drawn blocks -/
mutual
theorem noList_blk : ∀ b : Blk, noList b.toD = true
  | .quote bs => by
    show (noList (.str "quote") && (noListAll (blksD bs) && true)) = true
    rw [noList_blks bs]
    rfl
  | .list g st t its => by
    show (noList (.str "list") && (noList (.str g) && (noList (optI st) && (noList (.bool t) && (noListAll (itsD its) && true))))) = true
    rw [noList_its its]
    cases st <;> rfl
  | .heading l r => by
    show (noList (.str "heading") && (noList (.int l) && (noListAll (rowD r) && true))) = true
    rw [noList_row r]
    rfl
  | .brk => rfl
  | .code t i => by cases i <;> rfl
  | .html t => rfl
  | .defn l d t => by cases t <;> rfl
  | .par r => by
    show (noList (.str "paragraph") && (noListAll (rowD r) && true)) = true
    rw [noList_row r]
    rfl
theorem noList_blks : ∀ bs : List Blk, noListAll (blksD bs) = true
  | [] => rfl
  | b :: bs => by
    show (noList b.toD && noListAll (blksD bs)) = true
    rw [noList_blk b, noList_blks bs]
    rfl
theorem noList_its : ∀ its : List (List Blk), noListAll (itsD its) = true
  | [] => rfl
  | bs :: its => by
    show (noListAll (blksD bs) && noListAll (itsD its)) = true
    rw [noList_blks bs, noList_its its]
    rfl
end
theorem blksD_app : ∀ a b : List Blk, blksD (a ++ b) = blksD a ++ blksD b
  | [], b => rfl
  | x :: a, b => by
    show x.toD :: blksD (a ++ b) = x.toD :: (blksD a ++ blksD b)
    rw [blksD_app a b]
theorem itsD_app : ∀ a b : List (List Blk), itsD (a ++ b) = itsD a ++ itsD b
  | [], b => rfl
  | x :: a, b => by
    show _ :: itsD (a ++ b) = _ :: (itsD a ++ itsD b)
    rw [itsD_app a b]
theorem gBs_app : ∀ a b : List Blk, gBs (a ++ b) = (gBs a && gBs b)
  | [], b => rfl
  | x :: a, b => by
    show (gB x && gBs (a ++ b)) = (gB x && gBs a && gBs b)
    rw [gBs_app a b, Bool.and_assoc]
theorem gIts_app : ∀ a b : List (List Blk), gIts (a ++ b) = (gIts a && gIts b)
  | [], b => rfl
  | x :: a, b => by
    show (gBs x && gIts (a ++ b)) = (gBs x && gIts a && gIts b)
    rw [gIts_app a b, Bool.and_assoc]
theorem hBs_app : ∀ a b : List Blk, hBs (a ++ b) = max (hBs a) (hBs b)
  | [], b => by show hBs b = max 0 (hBs b); omega
  | x :: a, b => by
    show max (hB x) (hBs (a ++ b)) = max (max (hB x) (hBs a)) (hBs b)
    rw [hBs_app a b]
    omega
theorem hIts_app : ∀ a b : List (List Blk), hIts (a ++ b) = max (hIts a) (hIts b)
  | [], b => by show hIts b = max 0 (hIts b); omega
  | x :: a, b => by
    show max (1 + hBs x) (hIts (a ++ b)) = max (max (1 + hBs x) (hIts a)) (hIts b)
    rw [hIts_app a b]
    omega
structure GB (h : Bool) (deep : Nat) (b : Blk) : Prop where
  g : gB b = true
  s : sB b = true
  d : hB b ≤ 3 + deep
  n : h = false → noB b = true
structure GBs (h : Bool) (deep : Nat) (bs : List Blk) : Prop where
  g : gBs bs = true
  s : sBs bs = true
  d : hBs bs ≤ 3 + deep
  n : h = false → noBs bs = true
structure GIts (h : Bool) (deep : Nat) (its : List (List Blk)) : Prop where
  g : gIts its = true
  s : sIts its = true
  d : hIts its ≤ 4 + deep
  n : h = false → noIts its = true
theorem GBs.nil {h : Bool} {deep : Nat} : GBs h deep [] := ⟨rfl, rfl, Nat.zero_le _, fun _ => rfl⟩
theorem GBs.more {h : Bool} {deep : Nat} {bs : List Blk} {b : Blk} (g : GBs h deep bs) (i : GB h deep b) : GBs h deep (bs ++ [b]) := ⟨by
  rw [gBs_app, g.g]
  show (true && (gB b && true)) = true
  rw [i.g]
  rfl, by
  rw [sBs_app, g.s]
  show (true && (sB b && true)) = true
  rw [i.s]
  rfl, by
  rw [hBs_app]
  have := g.d
  have := i.d
  show max (hBs bs) (max (hB b) 0) ≤ _
  omega, fun e => by
  rw [noBs_app, g.n e]
  show (true && (noB b && true)) = true
  rw [i.n e]
  rfl⟩
theorem GIts.nil {h : Bool} {deep : Nat} : GIts h deep [] := ⟨rfl, rfl, Nat.zero_le _, fun _ => rfl⟩
theorem GIts.more {h : Bool} {deep : Nat} {its : List (List Blk)} {bs : List Blk} (g : GIts h deep its) (i : GBs h deep bs) : GIts h deep (its ++ [bs]) := ⟨by
  rw [gIts_app, g.g]
  show (true && (gBs bs && true)) = true
  rw [i.g]
  rfl, by
  rw [sIts_app, g.s]
  show (true && (sBs bs && true)) = true
  rw [i.s]
  rfl, by
  rw [hIts_app]
  have := g.d
  have := i.d
  show max (hIts its) (max (1 + hBs bs) 0) ≤ _
  omega, fun e => by
  rw [noIts_app, g.n e]
  show (true && (noBs bs && true)) = true
  rw [i.n e]
  rfl⟩
theorem blksD_len (bs : List Blk) : (blksD bs).length = bs.length := by
  induction bs with
  | nil => rfl
  | cons b bs ih => show (blksD bs).length + 1 = bs.length + 1; rw [ih]
def sp__law_block (K : PySem.W.Frag) (n : Nat) : Sp := fun vs H Q _ => ∃ (L : Addr) (z : Int) (deep : Nat) (b2 : Bool) (c : Int), vs = [.ref L, .int z, .bl b2] ∧ z = (deep : Int) ∧ deep < n ∧ c ≤ 200 ∧ WellC c H L ∧
  ∀ H' v b c', Keeps L H H' → WellC c' H' L → Dp K H' v (Blk.toD b) → GB b2 deep b → (pB b : Int) ≤ 2 * (c - c') → (c - 1 ≤ c' ∨ -(6 + 2 * (deep : Int)) ≤ c') → Q v H'
def sp__law_blocks (K : PySem.W.Frag) (n : Nat) : Sp := fun vs H Q _ => ∃ (L : Addr) (z : Int) (deep : Nat) (b2 : Bool) (c : Int), vs = [.ref L, .int z, .bl b2] ∧ z = (deep : Int) ∧ deep < n ∧ c ≤ 200 ∧ WellC c H L ∧
  ∀ H' v bs c', Keeps L H H' → WellC c' H' L → Dp K H' v (.tuple (blksD bs)) → GBs b2 deep bs → (pBs bs : Int) ≤ 2 * (c - c') → (c ≤ c' ∨ -(8 + 2 * (deep : Int)) ≤ c') → Q v H'
theorem ok__law_blocks {P : Program} {w : World} {K : PySem.W.Frag} {mg : Str → Option Value} {base : Heap} (T : Txt w K mg) (n : Nat) (FB : FnOk P w K mg base CX0 (14 + 2 * n) T.a__law_block T.d__law_block ["_law_well_here", "_law_deep", "_law_has_html"] (sp__law_block K (n + 1))) :
    FnOk P w K mg base CX0 (14 + 2 * n + 1) T.a__law_blocks T.d__law_blocks ["_law_well_here", "_law_deep", "_law_has_html"] (sp__law_blocks K (n + 1)) := by
  refine T.f__law_blocks.ok sc__law_blocks (fun vs H Q E h => ?_) (fun cdv A outer s H vs Q E hr h => ?_)
  · obtain ⟨L, z, deep, b2, c, rfl, _⟩ := h
    rfl
  · obtain ⟨L, z, deep, b2, z0, rfl, rfl, hd, hc, hW, q⟩ := h
    obtain ⟨x0, y0, hL⟩ := id hW
    refine ⟨_, (pss_cons (ps_set (i := 3) sc__law_blocks.nd rfl (.inl rfl) (pe_ifExp (pt_cmpR op_gt (pe_ix ix_list (pv 0) pe_int (fun _ _ => rfl)) pe_int (nomark _)) (pe_call (ok__law_draw T) (hr.mono (by omega)) (by rfl) T.g__law_draw T.f__law_draw.kp T.b__law_draw .nil pass0 (pa_cons (pv 0) (pa_cons pe_int pa_nil))) pe_int))
        (pss_one (ps_ret (pe_callTy call_tuple_of (by rfl) T.z_tuple (by decide +kernel) (pa_cons (pe_lc (own := [("_law_k", 4)]) (g := (gName 4)) (tt := tYes) (by rfl) sc__law_blocks.nd (pi_range1 (by rfl) T.z_range (pa_cons (pv 3) pa_nil)) (blkOk_by (own := [("_law_k", 4)]) (N := ["_law_well_here", "_law_deep", "_law_has_html", "_law_many", "_law_k"]) (sc := defScope s__law_blocks) (by decide +kernel)) (fun _ _ _ _ _ => (pg_name (i := 4) sc__law_blocks.nd rfl (Or.inl rfl))) (fun _ _ _ _ _ => pts_nil) (fun _ _ _ _ _ => (pe_call FB (hr.mono (by omega)) (by rfl) T.g__law_block T.f__law_block.kp T.b__law_block .nil pass0 (pa_cons (pv 0) (pa_cons (pv 1) (pa_cons (pv 2) pa_nil)))))) pa_nil))))), ?_⟩
    refine asg_if (fun v H' => ∃ k : Nat, v = .int (k : Int) ∧ k ≤ 3 ∧ (0 < z0 ∨ k = 0) ∧ Keeps L H H' ∧ WellC z0 H' L) (decide (0 < z0)) (fun Qb qb => ⟨_, rfl, L, _, _, _, rfl, rfl, SqL.of hL, at2l, _, _, rfl, rfl, _, rfl, qb⟩) (fun hz => ?_) (fun _ => ?_) ?_
    · intro Qv qv
      exact ⟨_, rfl, L, 4, _, rfl, by decide, by decide, hW, fun H2 d k2 w2 d0 d1 => qv _ _ ⟨d.toNat, by rw [Int.toNat_of_nonneg d0], by omega, .inl (of_decide_eq_true hz), k2, w2⟩⟩
    · intro Qv qv
      exact qv _ _ ⟨0, rfl, by decide, .inr rfl, .of (Same.refl _), hW⟩
    rintro v H1 ⟨k, rfl, hk, hz, k1, w1⟩
    refine ⟨_, rfl, _, rfl, by omega, by omega, fun D nD => ?_⟩
    have nDL : D ≠ L := w1.ne nD
    have nD0 : H D = none := k1.free nD nDL
    refine lc_range (lo := 0) (n := (k : Int).toNat) (fun i H' => Keeps L H H' ∧ ∃ c3, WellC c3 H' L ∧ ∃ vs bs, H' D = some (.lst vs) ∧ DpAll K H' vs (blksD bs) ∧ bs.length = i ∧ GBs b2 deep bs ∧ (pBs bs : Int) ≤ 2 * (z0 - c3) ∧ (0 < z0 → 1 - (i : Int) - (6 + 2 * deep) ≤ c3) ∧ (k = 0 → c3 = z0)) ?_ ?_ ?_
    · exact ⟨keeps_upd k1 nD0, z0, w1.new nD, [], [], upd_same, .nil, rfl, .nil, by show (0 : Int) ≤ _; omega, fun _ => by omega, fun _ => rfl⟩
    · rintro i H3 hi ⟨k3, c3, w3, vs, bs, hD, dps, hl, hg, hp, hlo, _⟩
      have hz0 : 0 < z0 := by omega
      have hlo' := hlo hz0
      refine ⟨rfl, _, rfl, _, rfl, _, rfl, L, _, deep, b2, c3, rfl, rfl, hd, by omega, w3, fun H4 v b c4 k4 w4 hv gb hpb hcb => ?_⟩
      have lvs : vs.length = bs.length := by
        have := (dpAll_all2 dps).1
        rw [blksD_len] at this
        exact this
      refine ⟨vs, k4 _ _ nDL hD, by rw [lvs, sizeLine_eq]; omega, keeps_upd (k3.trans k4) nD0, c4, w4.upd nDL, vs ++ [v], bs ++ [b], upd_same, ?_, by rw [List.length_append, hl]; rfl, hg.more gb, ?_, fun _ => by omega, fun e => by omega⟩
      · rw [blksD_app]
        refine dpAll_keep (L := D) Keeps.at ⟨vs, k4 _ _ nDL hD⟩ ?_ (dpAll_app (dpAll_keep k4 w3.lst (noList_blks bs) dps) (.cons hv .nil))
        have := noList_blks (bs ++ [b])
        rw [blksD_app] at this
        exact this
      · rw [pBs_app]
        show ((pBs bs + (pB b + 0) : Nat) : Int) ≤ _
        omega
    · rintro H3 ⟨k3, c3, w3, vs, bs, hD, dps, hl, hg, hp, hlo, hk0⟩
      refine ⟨D, vs, rfl, .inl ⟨SqL.of hD, fun p np => ?_⟩⟩
      refine q _ _ bs c3 (k3.trans (.new np)) (w3.new np) (.tup (SqT.of upd_same) (dpAll_same (same_new np) dps)) hg hp ?_
      rcases hz with h | h
      · have := hlo h
        right
        omega
      · have := hk0 h
        left
        omega

/-! ### one drawn block -/
theorem if_int {d j : Int} {Qb : Bool → Hp → Prop} {H : Hp} (qb : Qb (decide (d = j)) H) : Qb (decide (V.int d = V.int j)) H := by
  rw [dec_int]
  exact qb
def signL : List Nat := [45, 43, 42, 46, 41]
def Sg3 : List V := [.str "-", .str "+", .str "*"]
theorem starts_of : ∀ c ∈ signL, (inV (.str (S [c])) Sg3 = true → fitStart (S [c]) .none = true) ∧ (inV (.str (S [c])) Sg3 = false → ∀ n ∈ ([0, 1, 2, 7, 999999999] : List Nat), fitStart (S [c]) (.int (n : Int)) = true) := by decide +kernel
theorem labs_ok : ∀ v ∈ ([.str "a", .str "b c", .str "x!"] : List V), ∃ l, v = .str (S l) ∧ gTxt l = true ∧ lab (S l) = true ∧ l.length ≤ 10 := by
  intro v hv
  simp only [List.mem_cons, List.not_mem_nil, or_false] at hv
  rcases hv with rfl | rfl | rfl
  · exact ⟨[97], by rw [show ("a" : Str) = S [97] by decide +kernel], by decide +kernel, by decide +kernel, by decide⟩
  · exact ⟨[98, 32, 99], by rw [show ("b c" : Str) = S [98, 32, 99] by decide +kernel], by decide +kernel, by decide +kernel, by decide⟩
  · exact ⟨[120, 33], by rw [show ("x!" : Str) = S [120, 33] by decide +kernel], by decide +kernel, by decide +kernel, by decide⟩
theorem lit_nl1 : ("\n" : Str) = S [10] := by decide +kernel
def okLns : V → Bool
  | .str ⟨⟨l⟩⟩ => isLns (.str (S l)) && (decide (l.length ≤ 50) && !l.isEmpty)
  | _ => false
theorem okLns_of {v : V} (h : okLns v = true) : ∃ l, v = .str (S l) ∧ isLns (.str (S l)) = true ∧ (decide (l.length ≤ 50) && !l.isEmpty) = true := by
  unfold okLns at h
  split at h
  · rename_i l
    rw [Bool.and_eq_true] at h
    exact ⟨l, rfl, h.1, h.2⟩
  · cases h
theorem lns_ok {l : List Nat} (h : gTxt l = true) : isLns (.str (S (l ++ [10]))) = true := by
  have e : Txt.endswith (S (l ++ [10])) (S [10]) = true := by
    show (decide (0 + (S [10]).length ≤ (S (l ++ [10])).length) && PySem.Builtin.Str.subAt (S (l ++ [10])) (S [10]) ((S (l ++ [10])).length - (S [10]).length)) = true
    rw [sub_S, S_len, S_len, List.length_append, Nat.add_sub_cancel, List.drop_left, List.take_of_length_le (Nat.le_refl _), Nat.zero_add, decide_eq_true (Nat.le_add_left _ _)]
    simp
  show (txt (S (l ++ [10])) && Txt.endswith (S (l ++ [10])) (S [10])) = true
  rw [e, txt_g, gTxt_app, h]
  rfl
def InfosV : List V := [.non, .str "", .str "x", .str "x y", .str " z", .str "<\tq", .str "a\nb"]
theorem infos_ok : ∀ v ∈ InfosV, ∃ i : Option (List Nat), v = optV i ∧ InfosL.contains i = true ∧ gOpt i = true := by
  have e : InfosV = Infos7.map optV := by
    unfold InfosV Infos7
    simp only [List.map_cons, List.map_nil, optV]
    rw [← lit "x", ← lit "x y", ← lit " z", ← lit "<\tq", ← lit "a\nb", ← lit_em]
  intro v hv
  rw [e] at hv
  obtain ⟨i, hi, rfl⟩ := List.mem_map.mp hv
  have hi2 : i ∈ InfosL := List.mem_append_left _ hi
  exact ⟨i, rfl, by simpa using hi2, (by decide +kernel : ∀ i ∈ InfosL, gOpt i = true) i hi2⟩
theorem lines_nl : ∀ (y : List Nat) (r : List (List Nat)), ∃ u, ((y :: r).map fun l => l ++ [10]).flatten = u ++ [10]
  | y, [] => ⟨y, by simp⟩
  | y, z :: r => by
    obtain ⟨u, hu⟩ := lines_nl z r
    exact ⟨y ++ [10] ++ u, by rw [List.map_cons, List.flatten_cons, hu]; simp⟩
/-- lines, each with its line feed -/
theorem lines_ok : ∀ {ls : List (List Nat)}, (∀ l ∈ ls, gTxt l = true ∧ l.length ≤ 10) → gTxt (ls.map fun l => l ++ [10]).flatten = true ∧ (ls.map fun l => l ++ [10]).flatten.length ≤ 11 * ls.length ∧ (ls ≠ [] → isLns (.str (S (ls.map fun l => l ++ [10]).flatten)) = true)
  | [], _ => ⟨rfl, Nat.le_refl _, fun h => absurd rfl h⟩
  | l :: ls, h => by
    obtain ⟨h1, h2⟩ := h l (List.mem_cons_self ..)
    obtain ⟨g1, g2, g3⟩ := lines_ok (ls := ls) fun x hx => h x (List.mem_cons_of_mem _ hx)
    have e : ((l :: ls).map fun l => l ++ [10]).flatten = l ++ [10] ++ (ls.map fun l => l ++ [10]).flatten := rfl
    refine ⟨?_, ?_, fun _ => ?_⟩
    · rw [e, gTxt_app, g1, gTxt_app, h1]
      rfl
    · rw [e, List.length_append, List.length_append, List.length_singleton, List.length_cons]
      omega
    · cases ls with
      | nil =>
        rw [e]
        show isLns (.str (S (l ++ [10] ++ []))) = true
        rw [List.append_nil]
        exact lns_ok h1
      | cons y r =>
        have := g3 (by simp)
        have h' : (txt (S (((y :: r).map fun l => l ++ [10]).flatten)) && Txt.endswith (S (((y :: r).map fun l => l ++ [10]).flatten)) (S [10])) = true := this
        rw [Bool.and_eq_true] at h'
        obtain ⟨u, hu⟩ : ∃ u, ((y :: r).map fun l => l ++ [10]).flatten = u ++ [10] := by
          exact lines_nl y r
        rw [e, hu, ← List.append_assoc]
        refine lns_ok ?_
        rw [gTxt_app, gTxt_app, h1]
        rw [hu, gTxt_app, Bool.and_eq_true] at g1
        rw [g1.1]
        rfl
theorem ok__law_block {P : Program} {w : World} {K : PySem.W.Frag} {mg : Str → Option Value} {base : Heap} (T : Txt w K mg) (n : Nat) (hn : n ≤ 10) (FB : FnOk P w K mg base CX0 (13 + 2 * n) T.a__law_blocks T.d__law_blocks ["_law_well_here", "_law_deep", "_law_has_html"] (sp__law_blocks K n)) :
    FnOk P w K mg base CX0 (13 + 2 * n + 1) T.a__law_block T.d__law_block ["_law_well_here", "_law_deep", "_law_has_html"] (sp__law_block K (n + 1)) := by
  refine T.f__law_block.ok sc__law_block (fun vs H Q E h => ?_) (fun cdv A outer s H vs Q E hr h => ?_)
  · obtain ⟨L, z, deep, b2, c, rfl, _⟩ := h
    rfl
  · obtain ⟨L, z, deep, b2, z0, rfl, rfl, hd, hc, ⟨x0, y0, hL⟩, q⟩ := h
    refine ⟨_, (pss_cons (ps_asg (pe_op op_sub (pe_ix ix_list (pv 0) pe_int (fun _ _ => rfl)) pe_int) (pg_sub (pv 0) pe_int set_list))
        (pss_cons (ps_set (i := 3) sc__law_block.nd rfl (.inl rfl) (pe_call (ok__law_draw T) (hr.mono (by omega)) (by rfl) T.g__law_draw T.f__law_draw.kp T.b__law_draw .nil pass0 (pa_cons (pv 0) (pa_cons (pe_ifExp (pt_cmpR op_gt (pv 1) pe_int (nomark _)) pe_int pe_int) pa_nil))))
        (pss_cons (ps_if (pt_cmpR op_eq (pv 3) pe_int (nomark _)) (pss_cons (ps_setLc (i := 4) (own := [("_law_k", 9)]) (g := (gName 9)) (tt := tYes) (by rfl) sc__law_block.nd rfl rfl (sw_true rfl rfl rfl (by decide +kernel)) (pi_range1 (by rfl) T.z_range (pa_cons (pe_call (ok__law_draw T) (hr.mono (by omega)) (by rfl) T.g__law_draw T.f__law_draw.kp T.b__law_draw .nil pass0 (pa_cons (pv 0) (pa_cons pe_int pa_nil))) pa_nil)) (blkOk_by (own := [("_law_k", 9)]) (N := ["_law_well_here", "_law_deep", "_law_has_html", "_law_way", "_law_lines", "_law_info", "_law_sign", "_law_start", "_law_items", "_law_k"]) (sc := defScope s__law_block) (by decide +kernel)) (fun _ _ _ _ _ => (pg_name (i := 9) sc__law_block.nd rfl (Or.inl rfl))) (fun _ _ _ _ _ => pts_nil) (fun _ _ _ _ _ => (pe_op op_add_str (pe_call (ok__law_one T) (hr.mono (by omega)) (by rfl) T.g__law_one T.f__law_one.kp T.b__law_one .nil pass0 (pa_cons (pv 0) (pa_cons (pe_lst (pa_cons pe_str (pa_cons pe_str (pa_cons pe_str (pa_cons pe_str (pa_cons pe_str pa_nil)))))) pa_nil))) pe_str)))
        (pss_cons (ps_set (i := 5) sc__law_block.nd rfl (.inl rfl) (pe_call (ok__law_one T) (hr.mono (by omega)) (by rfl) T.g__law_one T.f__law_one.kp T.b__law_one .nil pass0 (pa_cons (pv 0) (pa_cons (pe_lst (pa_cons pe_non (pa_cons pe_str (pa_cons pe_str (pa_cons pe_str (pa_cons pe_str (pa_cons pe_str (pa_cons pe_str pa_nil)))))))) pa_nil))))
        (pss_one (ps_ret (pe_tup (pa_cons pe_str (pa_cons (pe_orT (pe_join pe_str (pv 4)) (pe_one (pe_ifExp (pt_cmpR op_notN (pv 5) pe_non (nomark _)) pe_str pe_str))) (pa_cons (pv 5) pa_nil)))))))) pss_nil)
        (pss_cons (ps_if (PW.pt (pw_and (pt_cmpR op_eq (pv 3) pe_int (nomark _)) (pw_and1 (pt_val (pv 2))))) (pss_one (ps_ret (pe_tup (pa_cons pe_str (pa_cons (pe_call (ok__law_one T) (hr.mono (by omega)) (by rfl) T.g__law_one T.f__law_one.kp T.b__law_one .nil pass0 (pa_cons (pv 0) (pa_cons (pe_lst (pa_cons pe_str (pa_cons pe_str (pa_cons pe_str pa_nil)))) pa_nil))) pa_nil))))) pss_nil)
        (pss_cons (ps_if (pt_cmpR op_eq (pv 3) pe_int (nomark _)) (pss_one (ps_ret (pe_op op_catA (pe_tup (pa_cons pe_str (pa_cons (pe_call (ok__law_one T) (hr.mono (by omega)) (by rfl) T.g__law_one T.f__law_one.kp T.b__law_one .nil pass0 (pa_cons (pv 0) (pa_cons (pe_lst (pa_cons pe_str (pa_cons pe_str (pa_cons pe_str pa_nil)))) pa_nil))) pa_nil))) (pe_call (ok__law_target T) (hr.mono (by omega)) (by rfl) T.g__law_target T.f__law_target.kp T.b__law_target .nil pass0 (pa_cons (pv 0) pa_nil))))) pss_nil)
        (pss_cons (ps_if (pt_cmpR op_eq (pv 3) pe_int (nomark _)) (pss_one (ps_ret (pe_tup (pa_cons pe_str (pa_cons (pe_op op_add pe_int (pe_call (ok__law_draw T) (hr.mono (by omega)) (by rfl) T.g__law_draw T.f__law_draw.kp T.b__law_draw .nil pass0 (pa_cons (pv 0) (pa_cons pe_int pa_nil)))) (pa_cons (pe_call (rows_ok T 3 (by decide)) (hr.mono (by omega)) (by rfl) T.g__law_row T.f__law_row.kp T.b__law_row .nil pass0 (pa_cons (pv 0) (pa_cons pe_int (pa_cons pe_bl (pa_cons (pv 2) pa_nil))))) pa_nil)))))) pss_nil)
        (pss_cons (ps_if (pt_cmpR op_eq (pv 3) pe_int (nomark _)) (pss_one (ps_ret (pe_tup (pa_cons pe_str pa_nil)))) pss_nil)
        (pss_cons (ps_if (pt_cmpR op_lt (pv 3) pe_int (nomark _)) (pss_one (ps_ret (pe_tup (pa_cons pe_str (pa_cons (pe_orT (pe_call (rows_ok T 3 (by decide)) (hr.mono (by omega)) (by rfl) T.g__law_row T.f__law_row.kp T.b__law_row .nil pass0 (pa_cons (pv 0) (pa_cons pe_int (pa_cons pe_bl (pa_cons (pv 2) pa_nil))))) (pe_one (pe_tup (pa_cons (pe_tup (pa_cons pe_str (pa_cons pe_str pa_nil))) pa_nil)))) pa_nil))))) pss_nil)
        (pss_cons (ps_if (pt_cmpR op_eq (pv 3) pe_int (nomark _)) (pss_one (ps_ret (pe_tup (pa_cons pe_str (pa_cons (pe_call FB (hr.mono (by omega)) (by rfl) T.g__law_blocks T.f__law_blocks.kp T.b__law_blocks .nil pass0 (pa_cons (pv 0) (pa_cons (pe_op op_sub (pv 1) pe_int) (pa_cons (pv 2) pa_nil)))) pa_nil))))) pss_nil)
        (pss_cons (ps_set (i := 6) sc__law_block.nd rfl (.inl rfl) (pe_call (ok__law_one T) (hr.mono (by omega)) (by rfl) T.g__law_one T.f__law_one.kp T.b__law_one .nil pass0 (pa_cons (pv 0) (pa_cons (pe_lst (pa_cons pe_str (pa_cons pe_str (pa_cons pe_str (pa_cons pe_str (pa_cons pe_str pa_nil)))))) pa_nil))))
        (pss_cons (ps_set (i := 7) sc__law_block.nd rfl (.inl rfl) (pe_ifExp (pt_cmpR op_in_seq (pv 6) (pe_tup (pa_cons pe_str (pa_cons pe_str (pa_cons pe_str pa_nil)))) (by rfl)) pe_non (pe_call (ok__law_one T) (hr.mono (by omega)) (by rfl) T.g__law_one T.f__law_one.kp T.b__law_one .nil pass0 (pa_cons (pv 0) (pa_cons (pe_lst (pa_cons pe_int (pa_cons pe_int (pa_cons pe_int (pa_cons pe_int (pa_cons pe_int pa_nil)))))) pa_nil)))))
        (pss_cons (ps_set (i := 8) sc__law_block.nd rfl (.inl rfl) (pe_callTy call_tuple_of (by rfl) T.z_tuple (by decide +kernel) (pa_cons (pe_lc (own := [("_law_k", 9)]) (g := (gName 9)) (tt := tYes) (by rfl) sc__law_block.nd (pi_range1 (by rfl) T.z_range (pa_cons (pe_op op_add pe_int (pe_call (ok__law_draw T) (hr.mono (by omega)) (by rfl) T.g__law_draw T.f__law_draw.kp T.b__law_draw .nil pass0 (pa_cons (pv 0) (pa_cons pe_int pa_nil)))) pa_nil)) (blkOk_by (own := [("_law_k", 9)]) (N := ["_law_well_here", "_law_deep", "_law_has_html", "_law_way", "_law_lines", "_law_info", "_law_sign", "_law_start", "_law_items", "_law_k"]) (sc := defScope s__law_block) (by decide +kernel)) (fun _ _ _ _ _ => (pg_name (i := 9) sc__law_block.nd rfl (Or.inl rfl))) (fun _ _ _ _ _ => pts_nil) (fun _ _ _ _ _ => (pe_call FB (hr.mono (by omega)) (by rfl) T.g__law_blocks T.f__law_blocks.kp T.b__law_blocks .nil pass0 (pa_cons (pv 0) (pa_cons (pe_op op_sub (pv 1) pe_int) (pa_cons (pv 2) pa_nil)))))) pa_nil)))
        (pss_one (ps_ret (pe_tup (pa_cons pe_str (pa_cons (pv 6) (pa_cons (pv 7) (pa_cons (pe_cmpR op_eq (pe_call (ok__law_draw T) (hr.mono (by omega)) (by rfl) T.g__law_draw T.f__law_draw.kp T.b__law_draw .nil pass0 (pa_cons (pv 0) (pa_cons pe_int pa_nil))) pe_int (nomark _)) (pa_cons (pv 8) pa_nil)))))))))))))))))))), ?_⟩
    refine ⟨_, rfl, L, _, _, _, rfl, rfl, SqL.of hL, at2l, _, _, rfl, rfl, _, rfl, L, _, _, 2, rfl, rfl, hL, rfl, ?_⟩
    have k1 : Keeps L H (upd H L (.lst ([V.int x0, V.int y0, V.int z0].set 2 (.int (z0 - 1))))) := .at
    have w1 : WellC (z0 - 1) (upd H L (.lst ([V.int x0, V.int y0, V.int z0].set 2 (.int (z0 - 1))))) L := ⟨_, _, upd_same⟩
    generalize (upd H L (.lst ([V.int x0, V.int y0, V.int z0].set 2 (.int (z0 - 1))))) = H1 at k1 w1 ⊢
    refine ⟨_, rfl, tif_const (decide (0 < deep)) (fun Qb qb => ⟨_, rfl, _, _, rfl, rfl, _, rfl, ?_⟩) fun v hv => ?_⟩
    · have e : decide ((deep : Int) > 0) = decide (0 < deep) := decide_eq_decide.mpr (by omega)
      rw [e]
      exact qb
    obtain ⟨m, rfl, hm0, hm1, hm2⟩ : ∃ m : Int, v = .int m ∧ 0 < m ∧ m ≤ 8 ∧ (deep = 0 → m ≤ 6) := by
      by_cases c : 0 < deep
      · rw [if_pos (decide_eq_true c)] at hv
        exact ⟨8, hv, by decide, by decide, by omega⟩
      · rw [if_neg (by simpa using c)] at hv
        exact ⟨6, hv, by decide, by decide, fun _ => by decide⟩
    refine ⟨L, m, _, rfl, hm0, by omega, w1, fun H2 d k2 w2 d0 dm => ?_⟩
    have kk := k1.trans k2
    refine if_g (bb := decide (d = 0)) (fun Qb qb => ⟨_, rfl, rfl, _, rfl, if_int qb⟩) ?_
    cases c0 : decide (d = 0) with
    | true =>
      refine iteT ?_
      refine ⟨_, rfl, L, 3, _, rfl, by decide, by decide, w2, fun H3 n3 k3 w3 n30 n31 => ⟨_, rfl, by omega, by omega, fun D nD => ?_⟩⟩
      have nDL : D ≠ L := w3.ne nD
      have k03 := kk.trans k3
      have nD0 : H D = none := k03.free nD nDL
      refine lc_range (lo := 0) (n := n3.toNat) (fun i H' => Keeps L H H' ∧ WellC (z0 - 1) H' L ∧ ∃ ls : List (List Nat), H' D = some (.lst ((ls.map fun l => l ++ [10]).map fun l => V.str (S l))) ∧ ls.length = i ∧ ∀ l ∈ ls, gTxt l = true ∧ l.length ≤ 10) ?_ ?_ ?_
      · exact ⟨keeps_upd k03 nD0, w3.new nD, [], upd_same, rfl, fun l hl => by cases hl⟩
      · rintro i H4 hi ⟨k4, w4, ls, hD, hl, hb⟩
        refine ⟨rfl, _, rfl, (by show 5 ≤ sizeLine; decide), fun p np => ?_⟩
        refine ⟨L, p, _, _, rfl, SqL.of upd_same, w4.ne np, by simp, by show 5 < 1000000; decide, w4.new np, fun H5 v k5 w5 hv => ?_⟩
        obtain ⟨l, rfl, hl1, hl2⟩ := okText_of (List.all_eq_true.mp (by decide +kernel : ([.str "a", .str "", .str "<b", .str "\tc", .str " \"d\" "] : List V).all (okText 10) = true) v hv)
        have hD5 := k5 _ _ nDL (same_new (o := .lst [.str "a", .str "", .str "<b", .str "\tc", .str " \"d\" "]) np _ _ hD)
        refine ⟨_, _, rfl, rfl, by rw [lit_nl1, S_len, S_len, sizeLine_eq]; simp; omega, ?_⟩
        rw [lit_nl1, S_app]
        refine ⟨_, hD5, by rw [List.length_map, List.length_map, sizeLine_eq]; omega, keeps_upd ((k4.trans (.new np)).trans k5) nD0, w5.upd nDL, ls ++ [l], by rw [upd_same, List.map_append, List.map_append]; rfl, by rw [List.length_append, hl]; rfl, fun x hx => ?_⟩
        rcases List.mem_append.mp hx with hx | hx
        · exact hb x hx
        · rw [List.mem_singleton.mp hx]
          exact ⟨hl1, hl2⟩
      · rintro H4 ⟨k4, w4, ls, hD, hl, hb⟩
        obtain ⟨f1, f2, f3⟩ := lines_ok hb
        refine ⟨_, rfl, (by show 7 ≤ sizeLine; decide), fun p np => ?_⟩
        refine ⟨L, p, _, _, rfl, SqL.of upd_same, w4.ne np, by simp, by show 7 < 1000000; decide, w4.new np, fun H5 v k5 w5 hv => ?_⟩
        obtain ⟨i, rfl, gi1, gi2⟩ := infos_ok v hv
        have hD5 := k5 _ _ nDL (same_new (o := .lst InfosV) np _ _ hD)
        rw [show ((ls.map fun l => l ++ [10]).map fun l => V.str (S l)) = ((ls.map fun l => l ++ [10]).map S).map V.str by rw [List.map_map, List.map_map, List.map_map]; rfl] at hD5
        refine ⟨⟨_, rfl⟩, _, rfl, _, D, (ls.map fun l => l ++ [10]).map S, rfl, rfl, .inl (SqL.of hD5), ?_, ?_⟩
        · rw [sum_S, lit_em, S_len]
          show (ls.map fun l => l ++ [10]).flatten.length + _ * 0 ≤ _
          omega
        rw [lit_em, My.join_nil]
        have kq := ((k4.trans (.new (o := .lst InfosV) np)).trans k5)
        have fin : ∀ (t : List Nat), gB (.code t i) = true → t.length ≤ 50 → ∀ r, H5 r = none → Q (.ref r) (upd H5 r (.tup [.str "code", .str (S t), optV i])) := fun t h1 h2 r nr => by
          refine q _ _ (.code t i) _ (kq.trans (.new nr)) (w5.new nr) (.tup (SqT.of upd_same) (.cons (.str _) (.cons (.str _) (.cons (optV_dp i) .nil)))) ⟨h1, ?_, Nat.zero_le _, fun _ => rfl⟩ (by show (1 : Int) ≤ _; omega) (.inl (by omega))
          show (decide (t.length ≤ 50) && InfosL.contains i) = true
          rw [decide_eq_true h2, gi1]
          rfl
        have hsz : (S (ls.map fun l => l ++ [10]).flatten).length ≤ sizeLine := by rw [S_len, sizeLine_eq]; omega
        by_cases hne : ls = []
        · subst hne
          refine ⟨false, ⟨hsz, by decide +kernel⟩, iteF ?_⟩
          cases i with
          | none => exact ⟨_, rfl, rfl, _, rfl, ifF rfl ⟨_, rfl, (by show 3 ≤ sizeLine; decide), fun r nr => by
              rw [show ("e\n" : Str) = S [101, 10] by decide +kernel]
              exact fin [101, 10] (by decide +kernel) (by decide) r nr⟩⟩
          | some i => exact ⟨_, rfl, rfl, _, rfl, ifT rfl ⟨_, rfl, (by show 3 ≤ sizeLine; decide), fun r nr => by
              have e : gB (.code [] (some i)) = true := by
                show (gTxt i && (_ || true)) = true
                rw [Bool.or_true, show gTxt i = true from gi2]
                rfl
              exact fin [] e (by decide) r nr⟩⟩
        · have hk : ((S (ls.map fun l => l ++ [10]).flatten).length : Int) ≠ 0 := by
            rw [S_len]
            obtain ⟨y, r, rfl⟩ : ∃ y r, ls = y :: r := by
              cases ls with
              | nil => exact absurd rfl hne
              | cons y r => exact ⟨y, r, rfl⟩
            obtain ⟨u, hu⟩ := lines_nl y r
            rw [hu, List.length_append, List.length_singleton]
            omega
          refine ⟨true, ⟨hsz, by simpa using hk⟩, iteT ⟨_, rfl, (by show 3 ≤ sizeLine; decide), fun r nr => fin _ ?_ (by omega) r nr⟩⟩
          cases i with
          | none => exact f3 hne
          | some i =>
            show (gTxt i && (isLns _ || _)) = true
            rw [f3 hne, show gTxt i = true from gi2]
            rfl
    | false =>
    refine iteF ?_
    refine if_n (bb := decide (d = 1) && b2) (andB' (fun Qb qb => ⟨_, rfl, rfl, _, rfl, if_int qb⟩) (fun Qb qb => ⟨_, rfl, _, rfl, qb⟩)) ?_
    cases c1 : decide (d = 1) && b2 with
    | true =>
      refine iteT ⟨_, rfl, (by show 3 ≤ sizeLine; decide), fun p np => ?_⟩
      refine ⟨L, p, _, _, rfl, SqL.of upd_same, w2.ne np, by simp, by show 3 < 1000000; decide, w2.new np, fun H3 v k3 w3 hv => ?_⟩
      have hb2 : b2 = true := (Bool.and_eq_true _ _).mp c1 |>.2
      obtain ⟨l, rfl, hl1, hl2⟩ := okLns_of (List.all_eq_true.mp (by decide +kernel : ([.str "<div>\n", .str "<!-- a -->\n", .str "<b>\nc\n"] : List V).all okLns = true) v hv)
      exact ⟨(by show 2 ≤ sizeLine; decide), fun r nr => q _ _ (.html l) _ (((kk.trans (.new np)).trans k3).trans (.new nr)) (w3.new nr) (dp_two upd_same (.str _)) ⟨hl1, hl2, Nat.zero_le _, fun e => by rw [hb2] at e; cases e⟩ (by show (1 : Int) ≤ _; omega) (.inl (by omega))⟩
    | false =>
    refine iteF ?_
    refine if_n (bb := decide (d = 2)) (fun Qb qb => ⟨_, rfl, rfl, _, rfl, if_int qb⟩) ?_
    cases c2 : decide (d = 2) with
    | true =>
      refine iteT ⟨_, rfl, (by show 3 ≤ sizeLine; decide), fun p1 np1 => ?_⟩
      refine ⟨L, p1, _, _, rfl, SqL.of upd_same, w2.ne np1, by simp, by show 3 < 1000000; decide, w2.new np1, fun H3 v k3 w3 hv => ⟨(by show 2 ≤ sizeLine; decide), fun p2 np2 => ?_⟩⟩
      obtain ⟨l, rfl, g1, g2, g3⟩ := labs_ok v hv
      refine ⟨_, rfl, L, _, rfl, w3.new np2, fun H4 p3 g t k4 w4 np3 hp3 hgo hti => ?_⟩
      have hp2 : H4 p2 = some (.tup [.str "definition", .str (S l)]) := k4 _ _ (w3.ne np2) upd_same
      refine ⟨p2, p3, _, _, rfl, rfl, SqT.of hp2, SqT.of hp3, (by show 4 ≤ sizeLine; decide), (fun e => nomatch e), (fun _ e => nomatch e), fun _ _ p np => ?_⟩
      refine q _ _ (.defn l g t) _ (((((kk.trans (.new np1)).trans k3).trans (.new np2)).trans k4).trans (.new np)) (w4.new np) (.tup (SqT.of upd_same) (.cons (.str _) (.cons (.str _) (.cons (.str _) (.cons (optV_dp t) .nil))))) ⟨?_, ?_, Nat.zero_le _, fun _ => rfl⟩ (by show (1 : Int) ≤ _; omega) (.inl (by omega))
      · show (gTxt l && lab (S l) && gTxt g && gOpt t) = true
        rw [g1, g2, hgo.1, hti.1]
        rfl
      · show (decide (l.length ≤ 50) && decide (g.length ≤ 200) && shortO 200 t) = true
        rw [decide_eq_true (by omega), decide_eq_true hgo.2, hti.2]
        rfl
    | false =>
    refine iteF ?_
    refine if_n (bb := decide (d = 3)) (fun Qb qb => ⟨_, rfl, rfl, _, rfl, if_int qb⟩) ?_
    cases c3 : decide (d = 3) with
    | true =>
      refine iteT ⟨_, rfl, L, 6, _, rfl, by decide, by decide, w2, fun H3 d3 k3 w3 d30 d31 => ⟨_, _, rfl, rfl, _, rfl, _, rfl, L, _, 2, false, b2, _, rfl, rfl, by decide, by decide, by omega, w3, fun H4 u r c4 k4 w4 hu hg hp hlo => ⟨(by show 3 ≤ sizeLine; decide), fun p np => ?_⟩⟩⟩
      obtain ⟨j3, rfl⟩ := Int.eq_ofNat_of_zero_le d30
      have el : ((1 + j3 : Nat) : Int) = 1 + (j3 : Int) := by omega
      refine q _ _ (.heading (1 + j3) r) c4 (((kk.trans k3).trans k4).trans (.new np)) (w4.new np) ?_ ⟨?_, ?_, by have := hg.d; show 1 + hR r ≤ _; omega, hg.n⟩ (by show ((1 + pcR r : Nat) : Int) ≤ _; omega) (by omega)
      · show Dp K _ _ (.tuple [.str "heading", .int ((1 + j3 : Nat) : Int), .tuple (rowD r)])
        rw [el]
        exact .tup (SqT.of upd_same) (.cons (.str _) (.cons (.int _) (.cons (dp_same (same_new np) hu) .nil)))
      · show (decide (1 ≤ 1 + j3) && decide (1 + j3 ≤ 6) && gR false false r) = true
        rw [decide_eq_true (by omega), decide_eq_true (by omega), hg.g]
        rfl
      · show (decide (1 + j3 < 7) && sR r) = true
        rw [decide_eq_true (by omega), hg.s]
        rfl
    | false =>
    refine iteF ?_
    refine if_n (bb := decide (d = 4)) (fun Qb qb => ⟨_, rfl, rfl, _, rfl, if_int qb⟩) ?_
    cases c4 : decide (d = 4) with
    | true =>
      exact iteT ⟨(by show 1 ≤ sizeLine; decide), fun p np => q _ _ .brk _ (kk.trans (.new np)) (w2.new np) (dp_one upd_same) ⟨rfl, rfl, Nat.zero_le _, fun _ => rfl⟩ (by show (1 : Int) ≤ _; omega) (.inl (by omega))⟩
    | false =>
    refine iteF ?_
    refine if_n (bb := decide (d < 6)) (fun Qb qb => ⟨_, rfl, _, _, rfl, rfl, _, rfl, qb⟩) ?_
    cases c6 : decide (d < 6) with
    | true =>
      refine iteT ⟨_, rfl, _, rfl, L, _, 2, false, b2, _, rfl, rfl, by decide, by decide, by omega, w2, fun H4 u r c4 k4 w4 hu hg hp hlo => ?_⟩
      obtain ⟨a, us, rfl, sqa, dps⟩ := dp_tup hu
      have hus : us.isEmpty = r.isEmpty := by
        cases r with
        | nil => cases dpAll_0 dps; rfl
        | cons y r => obtain ⟨_, _, rfl, _⟩ := dpAll_c dps; rfl
      refine ⟨!us.isEmpty, .inr (.inl ⟨us, sqa, rfl⟩), ?_⟩
      have fin : ∀ (H5 : Hp) (u : V) (r : List Inl), Keeps L H H5 → WellC c4 H5 L → Dp K H5 u (.tuple (rowD r)) → GW false b2 2 r → r ≠ [] → (pcR r : Int) ≤ 2 * (z0 - 1 - c4) + 1 → ∀ p, H5 p = none → Q (.ref p) (upd H5 p (.tup [.str "paragraph", u])) := fun H5 u r k5 w5 hu hg hne hp p np => by
        exact q _ _ (.par r) _ (k5.trans (.new np)) (w5.new np) (dp_two upd_same (dp_same (same_new np) hu)) ⟨notEmp hne hg.g, hg.s, by have := hg.d; show 1 + hR r ≤ _; omega, hg.n⟩ (by show ((1 + pcR r : Nat) : Int) ≤ _; omega) (by omega)
      cases ce : us.isEmpty with
      | false => exact iteT ⟨(by show 2 ≤ sizeLine; decide), fun p np => fin H4 _ r (kk.trans k4) w4 hu hg (fun e => by rw [hus, e] at ce; cases ce) (by omega) p np⟩
      | true =>
        refine iteF ⟨(by show 2 ≤ sizeLine; decide), fun p2 np2 => ⟨(by show 1 ≤ sizeLine; decide), fun p3 np3 => ⟨(by show 2 ≤ sizeLine; decide), fun p np => ?_⟩⟩⟩
        have ep : ("p" : Str) = S [112] := by decide +kernel
        refine fin _ _ [.text [112]] (((kk.trans k4).trans (.new np2)).trans (.new np3)) ((w4.new np2).new np3) (.tup (SqT.of upd_same) (.cons (dp_two ((same_new np3) _ _ upd_same) (by rw [ep]; exact .str _)) .nil)) ⟨by decide +kernel, rfl, Nat.zero_le _, fun _ => rfl⟩ (fun e => nomatch e) ?_ p np
        show (1 : Int) ≤ _
        omega
    | false =>
    have d6 : 6 ≤ d := by
      have := of_decide_eq_false c6
      omega
    have hdeep : 0 < deep := by
      rcases Nat.eq_zero_or_pos deep with e | e
      · have := hm2 e
        omega
      · exact e
    obtain ⟨d1, rfl⟩ : ∃ d1, deep = d1 + 1 := ⟨deep - 1, by omega⟩
    refine iteF ?_
    refine if_n (bb := decide (d = 6)) (fun Qb qb => ⟨_, rfl, rfl, _, rfl, if_int qb⟩) ?_
    cases c7 : decide (d = 6) with
    | true =>
      refine iteT ⟨_, rfl, _, rfl, _, _, rfl, rfl, _, rfl, L, _, d1, b2, _, rfl, by omega, by omega, by omega, w2, fun H3 u bs c3 k3 w3 hu hg hp hlo => ⟨(by show 2 ≤ sizeLine; decide), fun p np => ?_⟩⟩
      exact q _ _ (.quote bs) c3 ((kk.trans k3).trans (.new np)) (w3.new np) (dp_two upd_same (dp_same (same_new np) hu)) ⟨hg.g, hg.s, by have := hg.d; show 1 + hBs bs ≤ _; omega, hg.n⟩ (by show ((1 + pBs bs : Nat) : Int) ≤ _; omega) (by omega)
    | false =>
    refine iteF ?_
    refine ⟨_, rfl, (by show 5 ≤ sizeLine; decide), fun p1 np1 => ?_⟩
    refine ⟨L, p1, _, _, rfl, SqL.of upd_same, w2.ne np1, by simp, by show 5 < 1000000; decide, w2.new np1, fun H3 v k3 w3 hv => ?_⟩
    have hsg : ∃ c, v = .str (S [c]) ∧ c ∈ signL := by
      simp only [List.mem_cons, List.not_mem_nil, or_false] at hv
      rcases hv with rfl | rfl | rfl | rfl | rfl
      · exact ⟨45, by rw [show ("-" : Str) = S [45] by decide +kernel], by decide⟩
      · exact ⟨43, by rw [show ("+" : Str) = S [43] by decide +kernel], by decide⟩
      · exact ⟨42, by rw [show ("*" : Str) = S [42] by decide +kernel], by decide⟩
      · exact ⟨46, by rw [show ("." : Str) = S [46] by decide +kernel], by decide⟩
      · exact ⟨41, by rw [show (")" : Str) = S [41] by decide +kernel], by decide⟩
    obtain ⟨c, rfl, hcs⟩ := hsg
    have k13 := (kk.trans (.new (o := .lst [.str "-", .str "+", .str "*", .str ".", .str ")"]) np1)).trans k3
    refine asg_ifS_g (fun v H' => ∃ st : Option Nat, Dp K H' v (optI st) ∧ (v = .non ∨ ∃ j : Int, v = .int j) ∧ fitStart (S [c]) (optI st) = true ∧ StartsL.contains st = true ∧ Keeps L H H' ∧ WellC (z0 - 1) H' L) (fun b => b = inV (.str (S [c])) Sg3) (fun Qb qb => ?_) (fun H4 s4 hcc => ?_) (fun H4 s4 hcc => ?_) ?_
    · exact ⟨_, rfl, (by show 3 ≤ sizeLine; decide), fun t nt => ⟨t, _, rfl, .inr (SqT.of upd_same), rfl, (by decide +kernel), _, rfl, qb _ _ (same_new nt) rfl⟩⟩
    · intro Qv qv
      exact qv _ _ ⟨none, .non, .inl rfl, (starts_of c hcs).1 hcc.symm, rfl, k13.trans (.of s4), w3.same s4⟩
    · intro Qv qv
      refine ⟨_, rfl, (by show 5 ≤ sizeLine; decide), fun p2 np2 => ?_⟩
      have w4 := w3.same s4
      refine ⟨L, p2, _, _, rfl, SqL.of upd_same, w4.ne np2, by simp, by show 5 < 1000000; decide, w4.new np2, fun H5 v k5 w5 hv => ?_⟩
      have fin : ∀ n : Nat, n ∈ ([0, 1, 2, 7, 999999999] : List Nat) → StartsL.contains (some n) = true → Qv (.int (n : Int)) H5 := fun n hn hs => qv _ _ ⟨some n, .int _, .inr ⟨_, rfl⟩, (starts_of c hcs).2 hcc.symm n hn, hs, ((k13.trans (.of s4)).trans (.new np2)).trans k5, w5⟩
      simp only [List.mem_cons, List.not_mem_nil, or_false] at hv
      rcases hv with rfl | rfl | rfl | rfl | rfl
      · exact fin 0 (by decide) (by decide)
      · exact fin 1 (by decide) (by decide)
      · exact fin 2 (by decide) (by decide)
      · exact fin 7 (by decide) (by decide)
      · exact fin 999999999 (by decide) (by decide)
    rintro v H4 ⟨st, hst, hvs, hfs, hsl, k4, w4⟩
    refine ⟨_, rfl, L, 3, _, rfl, by decide, by decide, w4, fun H5 d5 k5 w5 d50 d51 => ⟨_, _, rfl, rfl, _, rfl, by omega, by omega, fun D nD => ?_⟩⟩
    have nDL : D ≠ L := w5.ne nD
    have k45 := k4.trans k5
    have nD0 : H D = none := k45.free nD nDL
    refine lc_range (lo := 0) (n := (1 + d5).toNat) (fun i H' => Keeps L H H' ∧ ∃ c6, WellC c6 H' L ∧ ∃ vs its, H' D = some (.lst vs) ∧ DpAll K H' vs (itsD its) ∧ its.length = i ∧ GIts b2 d1 its ∧ (pIts its : Int) ≤ 2 * (z0 - 1 - c6) ∧ (z0 - 1 ≤ c6 ∨ -(8 + 2 * (d1 : Int)) ≤ c6)) ?_ ?_ ?_
    · exact ⟨keeps_upd k45 nD0, z0 - 1, w5.new nD, [], [], upd_same, .nil, rfl, .nil, by show (0 : Int) ≤ _; omega, .inl (Int.le_refl _)⟩
    · rintro i H6 hi ⟨k6, c6, w6, vs, its, hD, dps, hl, hg, hp, hlo⟩
      refine ⟨rfl, _, rfl, _, rfl, _, _, rfl, rfl, _, rfl, L, _, d1, b2, c6, rfl, by omega, by omega, by omega, w6, fun H7 u bs c7 k7 w7 hu hgb hpb hlb => ?_⟩
      have lvs : vs.length = its.length := by
        have := (dpAll_all2 dps).1
        rw [itsD_map, List.length_map] at this
        exact this
      have eit : itsD (its ++ [bs]) = itsD its ++ [.tuple (blksD bs)] := itsD_app _ _
      refine ⟨vs, k7 _ _ nDL hD, by rw [lvs, sizeLine_eq]; omega, keeps_upd (k6.trans k7) nD0, c7, w7.upd nDL, vs ++ [u], its ++ [bs], upd_same, ?_, by rw [List.length_append, hl]; rfl, hg.more hgb, ?_, by omega⟩
      · rw [eit]
        refine dpAll_keep (L := D) Keeps.at ⟨vs, k7 _ _ nDL hD⟩ ?_ (dpAll_app (dpAll_keep k7 w6.lst (noList_its its) dps) (.cons hu .nil))
        have := noList_its (its ++ [bs])
        rw [eit] at this
        exact this
      · rw [pIts_app]
        show ((pIts its + (pBs bs + 0) : Nat) : Int) ≤ _
        omega
    · rintro H6 ⟨k6, c6, w6, vs, its, hD, dps, hl, hg, hp, hlo⟩
      refine ⟨D, vs, rfl, .inl ⟨SqL.of hD, fun pi npi => ?_⟩⟩
      refine ⟨_, rfl, _, rfl, _, rfl, L, 2, c6, rfl, by decide, by decide, w6.new npi, fun H7 d7 k7 w7 _ _ => ⟨rfl, _, rfl, (by show 5 ≤ sizeLine; decide), fun p np => ?_⟩⟩
      have hpi : H7 pi = some (.tup vs) := k7 _ _ (w6.ne npi) upd_same
      have kq := ((k6.trans (.new (o := .tup vs) npi)).trans k7)
      have dpi : DpAll K H7 vs (itsD its) := dpAll_keep k7 (w6.new npi).lst (noList_its its) (dpAll_same (same_new npi) dps)
      have hst' : Dp K H7 v (optI st) := by
        cases st with
        | none => cases hst; exact .non
        | some n => cases hst; exact .int _
      have lits : its.length ≤ 3 := by omega
      refine q _ _ (.list (S [c]) st (decide (d7 = 0)) its) c6 (kq.trans (.new np)) (w7.new np) ?_ ⟨?_, ?_, by have := hg.d; show hIts its ≤ _; omega, hg.n⟩ (by show ((1 + pIts its : Nat) : Int) ≤ _; omega) (by omega)
      · rw [dec_int]
        exact .tup (SqT.of upd_same) (.cons (.str _) (.cons (.str _) (.cons (dp_same (same_new np) hst') (.cons (.bl _) (.cons (.tup (SqT.of (same_new np _ _ hpi)) (dpAll_same (same_new np) dpi)) .nil)))))
      · show (fitStart (S [c]) (optI st) && !its.isEmpty && gIts its) = true
        rw [hfs, hg.g]
        cases its with
        | nil =>
          simp at hl
          omega
        | cons _ _ => rfl
      · show (decide (its.length ≤ 3) && StartsL.contains st && sIts its) = true
        rw [decide_eq_true lits, hsl, hg.s]
        rfl
theorem blocks_ok {P : Program} {w : World} {K : PySem.W.Frag} {mg : Str → Option Value} {base : Heap} (T : Txt w K mg) : ∀ n, n ≤ 10 → FnOk P w K mg base CX0 (13 + 2 * n) T.a__law_blocks T.d__law_blocks ["_law_well_here", "_law_deep", "_law_has_html"] (sp__law_blocks K n)
  | 0, _ => fnOk_none fun vs H Q E h => by
    obtain ⟨_, _, deep, _, _, _, _, hd, _⟩ := h
    omega
  | n + 1, hn => by
    have e : 13 + 2 * (n + 1) = 14 + 2 * n + 1 := by omega
    rw [e]
    have g := ok__law_block (P := P) (w := w) (K := K) (mg := mg) (base := base) T n (by omega) (blocks_ok T n (by omega))
    have e2 : 13 + 2 * n + 1 = 14 + 2 * n := by omega
    rw [e2] at g
    exact ok__law_blocks T n g

/-! ### what is closed in its order -/
theorem spl_at {c : Nat} {G : Hp} {σ : L2.St} {te : TE} {t : List Nat} {j : Nat} {l : List Nat} {K : PySem.W.Frag} {s1 : String} (hs : (s1 : Str) = S [c]) (h : SR G σ te t) (hn : t.length ≤ 16000000) (hc : c < 256) (hj : (CL.pcs c t)[j]? = some l) :
    SR G σ (tOp (rIxL K) (tM1 (fun x xs H Q => ∃ a b, x = .str a ∧ xs = [.str b] ∧ (b.length == 0) = false ∧ a.length + 2 ≤ sizeLine ∧ rNewStrs (Txt.split a b) H Q) te (tC (.str (Str.ofString s1)))) (tC (.int (j : Nat)))) l := fun _ H Q s q => h hn H _ s fun H1 s2 => by
  refine ⟨⟨_, rfl⟩, _, _, rfl, rfl, by rw [hs, S_len]; rfl, by rw [S_len, sizeLine_eq]; omega, fun p np => ⟨p, _, _, _, rfl, rfl, SqL.of upd_same, atI_nat ?_, q _ (s2.trans (same_new np))⟩⟩
  rw [hs, CL.split_c hc, List.getElem?_map, List.getElem?_map, hj]
  rfl
def sp__law_closed (K : PySem.W.Frag) : Sp := fun vs H Q _ => ∃ t : List Nat, vs = [.str (S t)] ∧ t.length ≤ 10000000 ∧ CL.Bal t ∧ ∀ H', Same H H' → Q (.bl true) H'
theorem ok__law_closed {P : Program} {w : World} {K : PySem.W.Frag} {mg : Str → Option Value} {base : Heap} (T : Txt w K mg) : FnOk P w K mg base CX0 1 T.a__law_closed T.d__law_closed ["_law_text"] (sp__law_closed K) := by
  refine T.f__law_closed.ok sc__law_closed (fun vs H Q E h => ?_) (fun cdv A outer s H vs Q E hr h => ?_)
  · obtain ⟨t, rfl, _⟩ := h
    rfl
  · obtain ⟨t, rfl, hl, ⟨ts, et, ot, rt⟩, q⟩ := h
    refine ⟨_, (pss_cons (ps_set (i := 1) sc__law_closed.nd rfl (.inl rfl) (pe_lst (pa_cons pe_str (pa_cons pe_str (pa_cons pe_str (pa_cons pe_str (pa_cons pe_str (pa_cons pe_str (pa_cons pe_str (pa_cons pe_str pa_nil))))))))))
        (pss_cons (ps_set (i := 1) sc__law_closed.nd rfl (.inl rfl) (pe_op op_cat (pv 1) (pe_lst (pa_cons pe_str (pa_cons pe_str (pa_cons pe_str (pa_cons pe_str (pa_cons pe_str (pa_cons pe_str (pa_cons pe_str (pa_cons pe_str pa_nil)))))))))))
        (pss_cons (ps_set (i := 2) sc__law_closed.nd rfl (.inl rfl) (pe_lst pa_nil))
        (pss_cons (ps_for PassesOwn.never rfl (pi_list (pe_slice sl_list (pe_split (pv 0) pe_str) (po_some pe_int) po_none)) (pg_name (i := 3) sc__law_closed.nd rfl (.inl rfl)) (pss_cons (ps_set (i := 4) sc__law_closed.nd rfl (.inl rfl) (pe_ix ix_list (pe_split (pv 3) pe_str) pe_int (fun _ _ => rfl)))
        (pss_cons (ps_set (i := 5) sc__law_closed.nd rfl (.inl rfl) (pe_ix ix_list (pe_split (pv 4) pe_str) pe_int (fun _ _ => rfl)))
        (pss_cons (ps_if (PW.pt (pw_or (pt_cmpR op_notIn_sign pe_str (pv 3) (by rfl)) (pw_or1 (pt_cmpR op_in_sign pe_str (pe_ix ix_list (pe_bm PySem.F.plainAttrs_str PySem.F.slot_str_split PySem.F.type_str_split mt_splitMax (pv 3) (pa_cons pe_str (pa_cons pe_int pa_nil))) pe_int (fun _ _ => rfl)) (by rfl))))) (pss_one (ps_ret pe_bl)) pss_nil)
        (pss_one (ps_if (pt_cmpR op_in_seq (pv 5) (pe_tup (pa_cons pe_str (pa_cons pe_str (pa_cons pe_str pa_nil)))) (by rfl)) (pss_one (ps_if (pt_cmpR op_ne (pe_slice sl_str (pv 4) (po_some (pe_op op_sub (pe_callB call_len_str (by rfl) T.z_len PySem.boot_len (pa_cons (pv 4) pa_nil)) pe_int)) po_none) pe_str (nomark _)) (pss_one (ps_ret pe_bl)) pss_nil)) (pss_one (ps_if (pt_cmpR op_eq (pe_slice sl_str (pv 5) po_none (po_some pe_int)) pe_str (nomark _)) (pss_cons (ps_if (PW.pt (pw_or (pt_cmpR (op_neD hr.units) (pe_slice sl_list (pv 2) (po_some (pe_un un_neg pe_int)) po_none) (pe_lst (pa_cons (pe_slice sl_str (pv 5) (po_some pe_int) po_none) pa_nil)) (nomark _)) (pw_or1 (pt_cmpR op_ne (pv 4) (pv 5) (nomark _))))) (pss_one (ps_ret pe_bl)) pss_nil)
        (pss_one (ps_expr (pe_bm0 PySem.F.plainAttrs_list PySem.F.slot_list_pop PySem.F.type_list_pop mt_pop (pv 2))))) (pss_one (ps_if (pt_cmpR op_in_seq (pv 5) (pv 1) (by rfl)) (pss_one (ps_expr (pe_bm PySem.F.plainAttrs_list PySem.F.slot_list_append PySem.F.type_list_append mt_append (pv 2) (pa_cons (pv 5) pa_nil)))) (pss_one (ps_ret pe_bl))))))))))))
        (pss_one (ps_ret (pe_and (pe_cmpR (op_eqD hr.units) (pv 2) (pe_lst pa_nil) (nomark _)) (pe_one (pe_cmpR op_notIn_sign pe_str (pe_ix ix_list (pe_split (pv 0) pe_str) pe_int (fun _ _ => rfl)) (by rfl)))))))))), ?_⟩
    refine ⟨(by show 8 ≤ sizeLine; decide), fun p1 n1 => ⟨_, rfl, (by show 8 ≤ sizeLine; decide), fun p2 n2 => ⟨p1, p2, _, _, rfl, rfl, by rw [upd_ne (ne_of_none upd_same n2)]; exact upd_same, upd_same, (by show 16 ≤ sizeLine; decide), fun P nP => ?_⟩⟩⟩
    generalize hx : ([_, _, _, _, _, _, _, _] ++ [_, _, _, _, _, _, _, _] : List V) = pv
    have epv : pv = CL.pairL.map fun l => V.str (S l) := by
      rw [← hx]
      unfold CL.pairL
      simp only [List.map_cons, List.map_nil, ← lit]
      rfl
    clear hx
    have hP : (upd (upd (upd H p1 (.lst [V.str "h1", V.str "h2", V.str "h3", V.str "h4", V.str "h5", V.str "h6", V.str "p", V.str "blockquote"])) p2 (.lst [V.str "ul", V.str "ol", V.str "li", V.str "pre", V.str "code", V.str "em", V.str "strong", V.str "a"])) P (.lst pv)) P = some (.lst pv) := upd_same
    have s0 : Same H (upd (upd (upd H p1 (.lst [V.str "h1", V.str "h2", V.str "h3", V.str "h4", V.str "h5", V.str "h6", V.str "p", V.str "blockquote"])) p2 (.lst [V.str "ul", V.str "ol", V.str "li", V.str "pre", V.str "code", V.str "em", V.str "strong", V.str "a"])) P (.lst pv)) := ((same_new n1).trans (same_new n2)).trans (same_new nP)
    generalize upd (upd (upd H p1 (.lst [V.str "h1", V.str "h2", V.str "h3", V.str "h4", V.str "h5", V.str "h6", V.str "p", V.str "blockquote"])) p2 (.lst [V.str "ul", V.str "ol", V.str "li", V.str "pre", V.str "code", V.str "em", V.str "strong", V.str "a"])) P (.lst pv) = H0 at hP s0 ⊢
    refine ⟨(by show 0 ≤ sizeLine; decide), fun R nR => ?_⟩
    have hPR : P ≠ R := ne_of_none hP nR
    have lt60 : ("<" : Str) = S [60] := by decide +kernel
    have gt62 : (">" : Str) = S [62] := by decide +kernel
    have sp32 : (" " : Str) = S [32] := by decide +kernel
    have sl47 : ("/" : Str) = S [47] := by decide +kernel
    have es : (Txt.split (S t) ("<" : Str)).map V.str = V.str (S (CL.lead ts)) :: (CL.prs ts).map fun p => V.str (S (p.1 ++ 62 :: p.2)) := by
      rw [lt60, CL.split_c (by decide), ← et, CL.pcs_ren ot, List.map_cons, List.map_cons, List.map_map, List.map_map]
      rfl
    refine ⟨_, rfl, ⟨_, rfl⟩, _, _, rfl, rfl, by rw [lt60, S_len]; rfl, by rw [S_len, sizeLine_eq]; omega, fun ps nps => ⟨_, rfl, ps, _, rfl, SqL.of upd_same, fun pl npl => ?_⟩⟩
    have hplR : pl ≠ R := (ne_of_none (same_new nps _ _ upd_same) npl).symm
    rw [es, CL.cutV_tail]
    rw [es] at npl
    have hpl0 : (upd (upd (upd H0 R (.lst [])) ps (.lst (V.str (S (CL.lead ts)) :: (CL.prs ts).map fun p => V.str (S (p.1 ++ 62 :: p.2))))) pl (.lst ((CL.prs ts).map fun p => V.str (S (p.1 ++ 62 :: p.2))))) pl = some (.lst ((CL.prs ts).map fun p => V.str (S (p.1 ++ 62 :: p.2)))) := upd_same
    have hR0 : (upd (upd (upd H0 R (.lst [])) ps (.lst (V.str (S (CL.lead ts)) :: (CL.prs ts).map fun p => V.str (S (p.1 ++ 62 :: p.2))))) pl (.lst ((CL.prs ts).map fun p => V.str (S (p.1 ++ 62 :: p.2))))) R = some (.lst []) := same_new npl _ _ (same_new nps _ _ upd_same)
    have s1 : Same H0 (upd (upd (upd H0 R (.lst [])) ps (.lst (V.str (S (CL.lead ts)) :: (CL.prs ts).map fun p => V.str (S (p.1 ++ 62 :: p.2))))) pl (.lst ((CL.prs ts).map fun p => V.str (S (p.1 ++ 62 :: p.2))))) := ((same_new nR).trans (same_new nps)).trans (same_new npl)
    generalize (upd (upd (upd H0 R (.lst [])) ps (.lst (V.str (S (CL.lead ts)) :: (CL.prs ts).map fun p => V.str (S (p.1 ++ 62 :: p.2))))) pl (.lst ((CL.prs ts).map fun p => V.str (S (p.1 ++ 62 :: p.2))))) = H1 at hpl0 hR0 s1 ⊢
    have nRH : H R = none := s0.free nR
    have run0 : CL.runG [] (CL.prs ts) = some [] := by rw [CL.run_prs]; exact rt []
    refine ⟨pl, rfl, ⟨_, SqL.of hpl0⟩, for_list (K := K) (a := pl) (xs := (CL.prs ts).map fun p => V.str (S (p.1 ++ 62 :: p.2))) (fun i σ' H' => ∃ st a3 a4 a5, σ' = [some (.str (S t)), some (.ref P), some (.ref R), a3, a4, a5] ∧ CL.runG [] ((CL.prs ts).take i) = some st ∧ H' R = some (.lst (st.map fun l => V.str (S l))) ∧ Keeps R H1 H' ∧ (∀ n ∈ st, n ∈ CL.pairL) ∧ st.length ≤ i) ⟨[], none, none, none, rfl, rfl, hR0, .refl _, (fun n h => nomatch h), Nat.le_refl _⟩ (fun i σ' H' _ h => ?_) ?_ ?_⟩
    · obtain ⟨st, a3, a4, a5, rfl, _, _, k, _⟩ := h
      exact SqL.of (k _ _ hplR hpl0)
    · rintro i x σ' H2 hx ⟨st, a3, a4, a5, rfl, hst, hR, k2, hin, hlen⟩
      rw [List.getElem?_map] at hx
      cases ep : (CL.prs ts)[i]? with
      | none => rw [ep] at hx; cases hx
      | some gy =>
        rw [ep] at hx
        cases hx
        obtain ⟨g, y⟩ := gy
        have hpl := CL.prs_plain ot _ (List.mem_of_getElem? ep)
        obtain ⟨g60, g62⟩ := CL.plain_no hpl.1
        obtain ⟨y60, y62⟩ := CL.plain_no hpl.2
        obtain ⟨st', hstep, hrun⟩ := CL.runG_step run0 ep hst
        have glen : g.length + y.length + 1 ≤ 10000000 := by have h := CL.prs_len ot (List.mem_of_getElem? ep); rw [et] at h; exact Nat.le_trans h hl
        refine asg_sr_g (l := g) _ rfl (by omega) (spl_at (c := 62) gt62 (sr_var rfl) (by simp; omega) (by decide) (by rw [CL.pcs_cut g62]; rfl)) fun H3 s3 => ?_
        obtain ⟨nps', en⟩ := CL.name_head g
        have nlen : (CL.nameL g).length ≤ g.length := CL.name_len g
        refine asg_sr_g (l := CL.nameL g) _ rfl (by omega) (spl_at (c := 32) sp32 (sr_var rfl) (by omega) (by decide) (by rw [en]; rfl)) fun H4 s4 => ?_
        have k4 : Keeps R H1 H4 := (k2.trans (.of s3)).trans (.of s4)
        have hR4 : H4 R = some (.lst (st.map fun l => V.str (S l))) := s4 _ _ (s3 _ _ hR)
        have hP4 : H4 P = some (.lst pv) := k4 _ _ hPR (s1 _ _ hP)
        have gin : (62 : Nat) ∈ g ++ 62 :: y := List.mem_append_right _ (List.mem_cons_self ..)
        refine ⟨_, rfl, 62, _, by rw [gt62]; rfl, rfl, _, rfl, ifF (by rw [S_tl, decide_eq_true gin]; rfl) ?_⟩
        refine ⟨_, rfl, rfl, _, _, 1, rfl, rfl, by rw [gt62, S_len]; rfl, by decide, by decide, by rw [S_len, sizeLine_eq]; simp; omega, fun pm npm => ?_⟩
        rw [gt62, CL.splitMax_one g62]
        refine ⟨pm, _, _, _, rfl, rfl, SqL.of upd_same, atI_nat (j := 1) rfl, 62, _, rfl, rfl, _, rfl, ifF (by rw [S_tl, decide_eq_false y62]) (go_nx ?_)⟩
        have s5 := same_new (o := .lst ([S g, S y].map V.str)) npm
        generalize upd H4 pm (.lst ([S g, S y].map V.str)) = H5 at s5 ⊢
        have hR5 := s5 _ _ hR4
        have hP5 := s5 _ _ hP4
        have k5 := k4.trans (.of s5)
        dsimp only
        refine ⟨_, rfl, (by show 3 ≤ sizeLine; decide), fun tt ntt => ⟨tt, _, rfl, .inr (SqT.of upd_same), rfl, (by decide +kernel), _, rfl, ?_⟩⟩
        have s6 := same_new (o := .tup [V.str "br", V.str "hr", V.str "img"]) ntt
        generalize upd H5 tt (.tup [V.str "br", V.str "hr", V.str "img"]) = H6 at s6 ⊢
        have hR6 := s6 _ _ hR5
        have hP6 := s6 _ _ hP5
        have k6 := k5.trans (.of s6)
        have ev : ([V.str "br", V.str "hr", V.str "img"] : List V) = CL.voidL.map fun l => V.str (S l) := by
          unfold CL.voidL
          simp only [List.map_cons, List.map_nil, ← lit]
        have fin : ∀ (H' : Hp) (b3 b4 b5 : Option V) (st2 : List (List Nat)), CL.stepG st g = some st2 → H' R = some (.lst (st2.map fun l => V.str (S l))) → Keeps R H1 H' → ∃ st a3 a4 a5, [some (V.str (S t)), some (.ref P), some (.ref R), b3, b4, b5] = [some (.str (S t)), some (.ref P), some (.ref R), a3, a4, a5] ∧ CL.runG [] ((CL.prs ts).take (i + 1)) = some st ∧ H' R = some (.lst (st.map fun l => V.str (S l))) ∧ Keeps R H1 H' ∧ (∀ n ∈ st, n ∈ CL.pairL) ∧ st.length ≤ i + 1 := fun H' b3 b4 b5 st2 e h k => by
          rw [hstep] at e
          cases e
          exact ⟨st', b3, b4, b5, rfl, hrun, h, k, (CL.stepG_in hstep hin).1, Nat.le_trans (CL.stepG_in hstep hin).2 (Nat.succ_le_succ hlen)⟩
        rw [ev, CL.inV_S]
        by_cases cv : CL.nameL g ∈ CL.voidL
        · have hv : g.drop (g.length - 2) = [32, 47] := by
            have h := hstep
            unfold CL.stepG at h
            rw [if_pos cv] at h
            split at h
            · assumption
            · cases h
          have hst2 : CL.stepG st g = some st := by
            unfold CL.stepG
            rw [if_pos cv, if_pos hv]
          have g2 : 2 ≤ g.length := by
            have := congrArg List.length hv
            rw [List.length_drop] at this
            simp at this
            omega
          refine ifT (decide_eq_true cv) ⟨_, rfl, _, rfl, _, rfl, by rw [S_len, sizeLine_eq]; omega, _, _, rfl, rfl, _, rfl, S g, rfl, by rw [S_len, sizeLine_eq]; omega, rfl, _, rfl, ifF ?_ (go_nx ?_)⟩
          · have e1 : ((S g).length : Int) - 2 = ((g.length - 2 : Nat) : Int) := by rw [S_len]; omega
            rw [e1, S_cut, hv]
            decide +kernel
          · exact fin _ _ _ _ st hst2 hR6 k6
        · refine ifF (decide_eq_false cv) ⟨_, rfl, _, rfl, S (CL.nameL g), rfl, by rw [S_len, sizeLine_eq]; omega, rfl, _, rfl, ?_⟩
          have e47 : decide (V.str (cutS (S (CL.nameL g)) none (some 1)) = V.str "/") = decide ((CL.nameL g).take 1 = [47]) := by
            have : cutS (S (CL.nameL g)) none (some 1) = S ((CL.nameL g).take 1) := CL.S_take (CL.nameL g) 1
            rw [this, sl47, S_dec]
          rw [e47]
          by_cases c47 : (CL.nameL g).take 1 = [47]
          · have hc : st.getLast? = some ((CL.nameL g).drop 1) ∧ g = CL.nameL g := by
              have h := hstep
              unfold CL.stepG at h
              rw [if_neg cv, if_pos c47] at h
              split at h
              · assumption
              · cases h
            have hst2 : CL.stepG st g = some st.dropLast := by
              unfold CL.stepG
              rw [if_neg cv, if_pos c47, if_pos hc]
            obtain ⟨st0, est⟩ : ∃ st0, st = st0 ++ [(CL.nameL g).drop 1] := by
              obtain ⟨ys, h⟩ := List.getLast?_eq_some_iff.mp hc.1
              exact ⟨ys, h⟩
            refine ifT (decide_eq_true c47) ?_
            refine ⟨_, rfl, 1, rfl, _, rfl, R, _, rfl, SqL.of hR6, fun pz npz => ⟨_, rfl, _, rfl, S (CL.nameL g), rfl, by rw [S_len, sizeLine_eq]; omega, (by show 1 ≤ sizeLine; decide), fun py npy => ?_⟩⟩
            have ecut : cutV (st.map fun l => V.str (S l)) (some (-1)) none = [V.str (S ((CL.nameL g).drop 1))] := by
              rw [est, List.map_append]
              exact CL.cutV_last
            have ecs : cutS (S (CL.nameL g)) (some 1) none = S ((CL.nameL g).drop 1) := S_cut (CL.nameL g) 1
            rw [ecut] at npy ⊢
            rw [ecs]
            have okn : PyData.strOk (S ((CL.nameL g).drop 1)) = true := CL.pair_ok _ (hin _ (by rw [est]; simp))
            have hz : (upd (upd H6 pz (.lst [V.str (S ((CL.nameL g).drop 1))])) py (.lst [V.str (S ((CL.nameL g).drop 1))])) pz = some (.lst [V.str (S ((CL.nameL g).drop 1))]) := same_new npy _ _ upd_same
            refine ⟨.list [.str (S ((CL.nameL g).drop 1))], .list [.str (S ((CL.nameL g).drop 1))], .lst (SqL.of hz) (.cons (.str _) .nil), .lst (SqL.of upd_same) (.cons (.str _) .nil), ?_, ?_, _, rfl, ifF ?_ ?_⟩
            · show ((PyData.strOk (S ((CL.nameL g).drop 1)) && true) && decide (max 0 0 + 1 ≤ 64)) = true
              rw [okn]
              rfl
            · show ((PyData.strOk (S ((CL.nameL g).drop 1)) && true) && decide (max 0 0 + 1 ≤ 64)) = true
              rw [okn]
              rfl
            · show (!(decide (S ((CL.nameL g).drop 1) = S ((CL.nameL g).drop 1)) && true)) = false
              simp
            · refine ⟨_, rfl, _, rfl, rfl, _, rfl, ifF ?_ (go_nx ?_)⟩
              · show (!decide (V.str (S g) = V.str (S (CL.nameL g)))) = false
                rw [← hc.2]
                simp
              · have s78 := (same_new (o := .lst [V.str (S ((CL.nameL g).drop 1))]) npz).trans (same_new (o := .lst [V.str (S ((CL.nameL g).drop 1))]) npy)
                have hR8 := s78 _ _ hR6
                have k8 := k6.trans (.of s78)
                refine ⟨_, rfl, .inl ⟨rfl, _, SqL.of hR8⟩, R, _, V.str (S ((CL.nameL g).drop 1)), rfl, rfl, hR8, ?_, ?_⟩
                · rw [est]
                  simp
                · refine fin _ _ _ _ st.dropLast hst2 ?_ (k8.trans .at)
                  rw [upd_same, List.map_dropLast]
          · have hp : CL.nameL g ∈ CL.pairL := by
              have h := hstep
              unfold CL.stepG at h
              rw [if_neg cv, if_neg c47] at h
              split at h
              · assumption
              · cases h
            have hst2 : CL.stepG st g = some (st ++ [CL.nameL g]) := by
              unfold CL.stepG
              rw [if_neg cv, if_neg c47, if_pos hp]
            refine ifF (decide_eq_false c47) ?_
            refine ⟨_, rfl, _, rfl, P, pv, rfl, .inl (SqL.of hP6), rfl, by rw [epv]; exact CL.flat_S _, _, rfl, ifT ?_ ?_⟩
            · rw [epv, CL.inV_S, decide_eq_true hp]
              rfl
            · refine ⟨_, rfl, .inl ⟨rfl, _, SqL.of hR6⟩, _, rfl, R, _, _, rfl, rfl, hR6, ?_, ?_⟩
              · have h1 := (List.getElem?_eq_some_iff.mp ep).1
                have h2 := CL.prs_many ts
                rw [et] at h2
                rw [List.length_map, sizeLine_eq]
                omega
              · refine fin _ _ _ _ (st ++ [CL.nameL g]) hst2 ?_ (k6.trans .at)
                rw [upd_same, List.map_append]
                rfl
    · rintro σ' H2 ⟨st, a3, a4, a5, rfl, hst, hR, k2, _⟩
      rw [List.length_map, List.take_length] at hst
      rw [run0] at hst
      cases hst
      have hl0 : (CL.lead ts).length ≤ t.length := by
        have e := CL.pcs_ren ot
        have := CL.pcs_len 60 (CL.ren ts) (CL.lead ts) (by rw [e]; exact List.mem_cons_self ..)
        rw [et] at this
        exact this
      refine ⟨_, rfl, (by show 0 ≤ sizeLine; decide), fun pz npz => ⟨.list [], .list [], .lst (SqL.of (same_new npz _ _ hR)) .nil, .lst (SqL.of upd_same) .nil, rfl, rfl, true, rfl, iteT ?_⟩⟩
      refine ⟨_, rfl, ⟨_, rfl⟩, _, _, rfl, rfl, by rw [lt60, S_len]; rfl, by rw [S_len, sizeLine_eq]; omega, fun ps' nps' => ⟨ps', _, _, _, rfl, rfl, SqL.of upd_same, (by rw [es]; exact atI_nat (j := 0) rfl), 62, _, by rw [gt62]; rfl, rfl, ?_⟩⟩
      have e62 : decide (62 ∈ (S (CL.lead ts)).cps.toList) = false := by rw [S_tl, decide_eq_false (CL.plain_no (CL.lead_plain ot)).2]
      rw [e62]
      have sq : Same H (upd (upd H2 pz (.lst [])) ps' (.lst ((Txt.split (S t) ("<" : Str)).map V.str))) := by
        have h1 : Same H H1 := s0.trans s1
        have h2 : Same H H2 := fun b o e => k2 b o (fun z => by rw [z, nRH] at e; cases e) (h1 b o e)
        exact (h2.trans (same_new npz)).trans (same_new nps')
      exact q _ sq

/-! ### data read off expressions -/
theorem same_refl {H : Hp} : Same H H := fun _ _ e => e
def DR (K : PySem.W.Frag) (G : Hp) (σ : L2.St) (te : TE) (d : PyData) : Prop := ∀ H Q, Same G H → (∀ v H', Same H H' → Dp K H' v d → Q v H') → te σ H Q
def DRs (K : PySem.W.Frag) (G : Hp) (σ : L2.St) (t : TA) (ds : List PyData) : Prop := ∀ H Q, Same G H → (∀ vs H', Same H H' → DpAll K H' vs ds → Q vs H') → t σ H Q
section
variable {K : PySem.W.Frag} {G : Hp} {σ : L2.St} {te ta tb : TE} {t : TA} {d : PyData} {ds es : List PyData}
theorem dr_str {x : Str} : DR K G σ (tC (.str x)) (.str x) := fun _ _ _ q => q _ _ same_refl (.str x)
theorem dr_int {i : Int} : DR K G σ (tC (.int i)) (.int i) := fun _ _ _ q => q _ _ same_refl (.int i)
theorem dr_bl {b : Bool} : DR K G σ (tC (.bl b)) (.bool b) := fun _ _ _ q => q _ _ same_refl (.bl b)
theorem dr_non : DR K G σ (tC .non) .none := fun _ _ _ q => q _ _ same_refl .non
theorem dr_var {i : Nat} {v : V} (hs : σ[i]? = some (some v)) (h : Dp K G v d) : DR K G σ (tVar i) d := fun _ _ s q => ⟨v, hs, q _ _ same_refl (dp_same s h)⟩
theorem drs_nil : DRs K G σ tNil [] := fun _ _ _ q => q _ _ same_refl .nil
theorem drs_cons (h : DR K G σ te d) (r : DRs K G σ t ds) : DRs K G σ (tCons te t) (d :: ds) := fun H Q s q => h H _ s fun v H1 s1 hv => r H1 _ (s.trans s1) fun vs H2 s2 hvs => q _ _ (s1.trans s2) (.cons (dp_same s2 hv) hvs)
theorem dr_tup (h : DRs K G σ t ds) (n : ds.length ≤ 1000) : DR K G σ (tTup t) (.tuple ds) := fun H Q s q => h H _ s fun vs H1 s1 hvs => ⟨by rw [(dpAll_all2 hvs).1, sizeLine_eq]; omega, fun p np => q _ _ (s1.trans (same_new np)) (.tup (SqT.of upd_same) (dpAll_same (same_new np) hvs))⟩
theorem dr_lst (h : DRs K G σ t ds) (n : ds.length ≤ 1000) : DR K G σ (tLst t) (.list ds) := fun H Q s q => h H _ s fun vs H1 s1 hvs => ⟨by rw [(dpAll_all2 hvs).1, sizeLine_eq]; omega, fun p np => q _ _ (s1.trans (same_new np)) (.lst (SqL.of upd_same) (dpAll_same (same_new np) hvs))⟩
theorem dr_list {i : Nat} {v : V} (h : Dp K G v (.tuple ds)) (hs : σ[i]? = some (some v)) : DR K G σ (tCB (fun xs H Q => ∃ p ys, xs = [.ref p] ∧ (SqL K H p ys ∨ SqT K H p ys) ∧ ∀ l, H l = none → Q (.ref l) (upd H l (.lst ys))) (tCons (tVar i) tNil)) (.list ds) := fun H Q s q => by
  obtain ⟨a, xs, rfl, sa, da⟩ := dp_tup2 (dp_same s h)
  exact ⟨_, hs, a, xs, rfl, .inr sa, fun l nl => q _ _ (same_new nl) (.lst (SqL.of upd_same) (dpAll_same (same_new nl) da))⟩
def ThOk (K : PySem.W.Frag) (H : Hp) (v : V) : Prop := ∃ d, Th K H v d ∧ (isTup d = true → fit d = true) ∧ cnt d ≤ 5000000 ∧ lim d = true ∧ isTree d = false
theorem ThOk.same {H H' : Hp} {v : V} (s : Same H H') (h : ThOk K H v) : ThOk K H' v := by
  obtain ⟨d, h1, h2⟩ := h
  exact ⟨d, h1.same s, h2⟩
def TRs (K : PySem.W.Frag) (G : Hp) (σ : L2.St) (t : TA) (n : Nat) : Prop := ∀ H Q, Same G H → (∀ vs H', Same H H' → (∀ v ∈ vs, ThOk K H' v) → vs.length = n → Q vs H') → t σ H Q
theorem tr_nil : TRs K G σ tNil 0 := fun _ _ _ q => q _ _ same_refl (fun _ h => by cases h) rfl
theorem tr_cons {n : Nat} (h : DR K G σ te d) (o : fit d = true ∧ cnt d ≤ 5000000 ∧ lim d = true ∧ isTree d = false) (r : TRs K G σ t n) : TRs K G σ (tCons te t) (n + 1) := fun H Q s q => h H _ s fun v H1 s1 hv => r H1 _ (s.trans s1) fun vs H2 s2 hvs hl => q _ _ (s1.trans s2) (fun x hx => by
  rcases List.mem_cons.mp hx with hx | hx
  · rw [hx]
    exact ⟨d, .inl (dp_same s2 hv), fun _ => o.1, o.2⟩
  · exact hvs x hx) (by rw [List.length_cons, hl])
theorem tr_dict {n : Nat} (r : TRs K G σ t n) : TRs K G σ (tCons tDNewK t) (n + 1) := fun H Q s q => fun p np => r _ _ (s.trans (same_new np)) fun vs H2 s2 hvs hl => q _ _ ((same_new np).trans s2) (fun x hx => by
  rcases List.mem_cons.mp hx with hx | hx
  · rw [hx]
    exact ⟨.dict [], .inr ⟨p, _, rfl, s2 _ _ upd_same, rfl⟩, (fun e => nomatch e), by decide, rfl, rfl⟩
  · exact hvs x hx) (by rw [List.length_cons, hl])
theorem dr_catA (h : DR K G σ ta (.tuple ds)) (g : DR K G σ tb (.tuple es)) (n : ds.length + es.length ≤ 1000) : DR K G σ (tOp (rCatA K) ta tb) (.tuple (ds ++ es)) := fun H Q s q => h H _ s fun v1 H1 s1 e1 => g H1 _ (s.trans s1) fun v2 H2 s2 e2 => by
  obtain ⟨a, xs, rfl, sa, da⟩ := dp_tup2 e1
  obtain ⟨b, ys, rfl, sb, db⟩ := dp_tup2 e2
  replace sa := same_tup s2 sa
  replace da := dpAll_same s2 da
  have la := (dpAll_all2 da).1
  have lb := (dpAll_all2 db).1
  refine ⟨a, b, xs, ys, rfl, rfl, sa, sb, by rw [la, lb, sizeLine_eq]; omega, fun e => ?_, fun _ e => ?_, fun _ _ p np => ?_⟩
  · subst e
    cases da
    exact q _ _ (s1.trans s2) (.tup sb db)
  · subst e
    cases db
    rw [List.append_nil] at q
    exact q _ _ (s1.trans s2) (.tup sa da)
  · exact q _ _ ((s1.trans s2).trans (same_new np)) (.tup (SqT.of upd_same) (dpAll_same (same_new np) (dpAll_app da db)))
end

/-! ### data read off expressions that draw -/
theorem dpAll_take {K : PySem.W.Frag} {H : Hp} : ∀ (n : Nat) {vs : List V} {ds : List PyData}, DpAll K H vs ds → DpAll K H (vs.take n) (ds.take n)
  | 0, _, _, _ => .nil
  | _ + 1, _, _, .nil => .nil
  | n + 1, _, _, .cons h r => .cons h (dpAll_take n r)
theorem dpAll_drop {K : PySem.W.Frag} {H : Hp} : ∀ (n : Nat) {vs : List V} {ds : List PyData}, DpAll K H vs ds → DpAll K H (vs.drop n) (ds.drop n)
  | 0, _, _, h => h
  | _ + 1, _, _, .nil => .nil
  | n + 1, _, _, .cons _ r => dpAll_drop n r
theorem noList_app : ∀ ds es : List PyData, noListAll (ds ++ es) = (noListAll ds && noListAll es)
  | [], es => rfl
  | d :: ds, es => by
    show (noList d && noListAll (ds ++ es)) = (noList d && noListAll ds && noListAll es)
    rw [noList_app ds es, Bool.and_assoc]
theorem noList_take (n : Nat) {ds : List PyData} (h : noListAll ds = true) : noListAll (ds.take n) = true := by
  rw [← List.take_append_drop n ds, noList_app, Bool.and_eq_true] at h
  exact h.1
theorem noList_drop (n : Nat) {ds : List PyData} (h : noListAll ds = true) : noListAll (ds.drop n) = true := by
  rw [← List.take_append_drop n ds, noList_app, Bool.and_eq_true] at h
  exact h.2
def DK (K : PySem.W.Frag) (L : Addr) (c : Int) (G : Hp) (σ : L2.St) (te : TE) (p : PyData → Prop) : Prop := ∀ H Q, Keeps L G H → WellC c H L → (∀ v H' d, Keeps L H H' → WellC c H' L → Dp K H' v d → noList d = true → p d → Q v H') → te σ H Q
def DKs (K : PySem.W.Frag) (L : Addr) (c : Int) (G : Hp) (σ : L2.St) (t : TA) (p : List PyData → Prop) : Prop := ∀ H Q, Keeps L G H → WellC c H L → (∀ vs H' ds, Keeps L H H' → WellC c H' L → DpAll K H' vs ds → noListAll ds = true → p ds → Q vs H') → t σ H Q
section
variable {K : PySem.W.Frag} {L : Addr} {c : Int} {G : Hp} {σ : L2.St} {te ta tb : TE} {t : TA} {d : PyData} {ds es : List PyData} {p : PyData → Prop} {r r2 : List PyData → Prop}
theorem dk_dr (n : noList d = true) (h : ∀ H, Keeps L G H → WellC c H L → DR K H σ te d) : DK K L c G σ te (fun e => e = d) := fun H Q k w q => h H k w H _ same_refl fun v H' s hv => q v H' d (.of s) (w.same s) hv n rfl
theorem dk_imp {p2 : PyData → Prop} (h : DK K L c G σ te p) (i : ∀ d, p d → p2 d) : DK K L c G σ te p2 := fun H Q k w q => h H Q k w fun v H' d k1 w1 hv n pd => q v H' d k1 w1 hv n (i d pd)
theorem dk_var {i : Nat} {v : V} (hs : σ[i]? = some (some v)) (h : Dp K G v d) (hL : ∃ xs, G L = some (.lst xs)) (n : noList d = true) : DK K L c G σ (tVar i) (fun e => e = d) := dk_dr n fun H k w => dr_var hs (dp_keep k hL n h)
theorem dks_nil : DKs K L c G σ tNil (fun l => l = []) := fun H Q k w q => q _ _ _ (.refl _) w .nil rfl rfl
theorem dks_cons (h : DK K L c G σ te p) (g : DKs K L c G σ t r) : DKs K L c G σ (tCons te t) (fun l => ∃ d ds, l = d :: ds ∧ p d ∧ r ds) := fun H Q k w q => h H _ k w fun v H1 d k1 w1 hv n1 pd => g H1 _ (k.trans k1) w1 fun vs H2 ds k2 w2 hvs n2 qd => q _ _ (d :: ds) (k1.trans k2) w2 (.cons (dp_keep k2 w1.lst n1 hv) hvs) (by
  show (noList d && noListAll ds) = true
  rw [n1, n2]
  rfl) ⟨d, ds, rfl, pd, qd⟩
theorem dk_tup (h : DKs K L c G σ t r) (n : ∀ ds, r ds → ds.length ≤ 1000) : DK K L c G σ (tTup t) (fun d => ∃ ds, d = .tuple ds ∧ r ds) := fun H Q k w q => h H _ k w fun vs H1 ds k1 w1 hvs n1 pd => ⟨by
  have := n ds pd
  rw [(dpAll_all2 hvs).1, sizeLine_eq]
  omega, fun a na => q _ _ (.tuple ds) (k1.trans (.new na)) (w1.new na) (.tup (SqT.of upd_same) (dpAll_same (same_new na) hvs)) n1 ⟨ds, rfl, pd⟩⟩
theorem dk_cat (h : DK K L c G σ ta (fun d => ∃ ds, d = .tuple ds ∧ r ds)) (g : DK K L c G σ tb (fun d => ∃ ds, d = .tuple ds ∧ r2 ds)) (n : ∀ ds es, r ds → r2 es → ds.length + es.length ≤ 1000) : DK K L c G σ (tOp (rCatA K) ta tb) (fun d => ∃ ds, d = .tuple ds ∧ ∃ x y, ds = x ++ y ∧ r x ∧ r2 y) := fun H Q k w q => h H _ k w fun v1 H1 d1 k1 w1 e1 n1 p1 => g H1 _ (k.trans k1) w1 fun v2 H2 d2 k2 w2 e2 n2 p2 => by
  obtain ⟨ds, rfl, p1⟩ := p1
  obtain ⟨es, rfl, p2⟩ := p2
  have e1' := dp_keep k2 w1.lst n1 e1
  obtain ⟨a, xs, rfl, sa, da⟩ := dp_tup2 e1'
  obtain ⟨b, ys, rfl, sb, db⟩ := dp_tup2 e2
  have la := (dpAll_all2 da).1
  have lb := (dpAll_all2 db).1
  have nn := n ds es p1 p2
  have n3 : noListAll (ds ++ es) = true := by
    rw [noList_app, show noListAll ds = true from n1, show noListAll es = true from n2]
    rfl
  have fin : ∀ v H', Keeps L H2 H' → WellC c H' L → Dp K H' v (.tuple (ds ++ es)) → Q v H' := fun v H' k3 w3 hv => q v H' _ ((k1.trans k2).trans k3) w3 hv n3 ⟨_, rfl, ds, es, rfl, p1, p2⟩
  refine ⟨a, b, xs, ys, rfl, rfl, sa, sb, by rw [la, lb, sizeLine_eq]; omega, fun e => ?_, fun _ e => ?_, fun _ _ a2 np => ?_⟩
  · subst e
    cases da
    exact fin _ _ (.refl _) w2 (.tup sb db)
  · subst e
    cases db
    refine fin _ _ (.refl _) w2 (.tup sa ?_)
    rw [List.append_nil]
    exact da
  · exact fin _ _ (.new np) (w2.new np) (.tup (SqT.of upd_same) (dpAll_same (same_new np) (dpAll_app da db)))
theorem dr_cutTo {n : Nat} {tn : TE} (h : DR K G σ te (.tuple ds)) (hj : ∀ H Q, Q (.int (n : Int)) H → tn σ H Q) (hn : n ≤ ds.length) : DR K G σ (tSl (rSlA K) te tNoPart (tPart tn)) (.tuple (ds.take n)) := fun H Q s q => h H _ s fun v H1 s1 hv => by
  obtain ⟨a, xs, rfl, sa, da⟩ := dp_tup2 hv
  have la := (dpAll_all2 da).1
  refine hj _ _ ⟨_, rfl, a, xs, rfl, sa, fun hw => ?_, fun _ p np => ?_⟩
  · have h2 := hw.2
    rw [HT.sIx_nat] at h2
    rw [List.take_of_length_le (by omega)] at q
    exact q _ _ s1 (.tup sa da)
  · refine q _ _ (s1.trans (same_new np)) (.tup (SqT.of upd_same) (dpAll_same (same_new np) ?_))
    have e : cutV xs none (some (n : Int)) = xs.take n := by
      unfold cutV
      rw [HT.sIx_none, HT.sIx_nat, List.drop_zero, Nat.sub_zero, Nat.min_eq_left (by omega)]
    rw [e]
    exact dpAll_take n da
theorem dr_cutFrom {n : Nat} {tn : TE} (h : DR K G σ te (.tuple ds)) (hj : ∀ H Q, Q (.int (n : Int)) H → tn σ H Q) (hn : n ≤ ds.length) : DR K G σ (tSl (rSlA K) te (tPart tn) tNoPart) (.tuple (ds.drop n)) := fun H Q s q => h H _ s fun v H1 s1 hv => by
  obtain ⟨a, xs, rfl, sa, da⟩ := dp_tup2 hv
  have la := (dpAll_all2 da).1
  refine hj _ _ ⟨_, rfl, a, xs, rfl, sa, fun hw => ?_, fun _ p np => ?_⟩
  · have h2 := hw.1
    rw [HT.sIx_nat] at h2
    have n0 : n = 0 := by omega
    subst n0
    exact q _ _ s1 (.tup sa da)
  · refine q _ _ (s1.trans (same_new np)) (.tup (SqT.of upd_same) (dpAll_same (same_new np) ?_))
    have e : cutV xs (some (n : Int)) none = xs.drop n := by
      unfold cutV
      rw [HT.sIx_none, HT.sIx_nat, Nat.min_eq_left (by omega), List.take_of_length_le (by rw [List.length_drop]; omega)]
    rw [e]
    exact dpAll_drop n da
theorem nat_var {i n : Nat} (hs : σ[i]? = some (some (.int (n : Int)))) (H : Hp) (Q : VK) (q : Q (.int (n : Int)) H) : (tVar i) σ H Q := ⟨_, hs, q⟩
theorem nat_is {n : Nat} {z : Int} (e : z = (n : Int)) (H : Hp) (Q : VK) (q : Q (.int (n : Int)) H) : (tC (.int z)) σ H Q := by
  subst e
  exact q
theorem nat_one {i n : Nat} (hs : σ[i]? = some (some (.int (n : Int)))) (H : Hp) (Q : VK) (q : Q (.int ((n + 1 : Nat) : Int)) H) : (tOp (rI0 fun i j => V.int (i + j)) (tVar i) (tC (.int 1))) σ H Q := ⟨_, hs, _, _, rfl, rfl, by
  have e : ((n + 1 : Nat) : Int) = (n : Int) + 1 := by omega
  rw [e] at q
  exact q⟩
theorem dr_ix {n : Nat} {tn : TE} (h : DR K G σ te (.tuple ds)) (hj : ∀ H Q, Q (.int (n : Int)) H → tn σ H Q) (hd : ds[n]? = some d) : DR K G σ (tOp (rIxT K) te tn) d := fun H Q s q => h H _ s fun v H1 s1 hv => by
  obtain ⟨a, xs, rfl, sa, da⟩ := dp_tup2 hv
  have al := dpAll_all2 da
  have hn : n < xs.length := by
    rw [al.1]
    exact (List.getElem?_eq_some_iff.mp hd).1
  obtain ⟨u, hu⟩ : ∃ u, xs[n]? = some u := ⟨_, List.getElem?_eq_getElem hn⟩
  exact hj _ _ ⟨a, xs, _, u, rfl, rfl, sa, atI_nat hu, q _ _ s1 (al.2 n u d hu hd)⟩
theorem dk_to {n : Nat} {tn : TE} (h : ∀ H, Keeps L G H → WellC c H L → DR K H σ te (.tuple ds)) (hj : ∀ H Q, Q (.int (n : Int)) H → tn σ H Q) (nl : noListAll ds = true) (hn : n ≤ ds.length) : DK K L c G σ (tSl (rSlA K) te tNoPart (tPart tn)) (fun d => ∃ es, d = .tuple es ∧ es = ds.take n) := dk_imp (dk_dr (show noList (.tuple (ds.take n)) = true from noList_take n nl) fun H k w => dr_cutTo (h H k w) hj hn) fun d e => ⟨_, e, rfl⟩
theorem dk_from {n : Nat} {tn : TE} (h : ∀ H, Keeps L G H → WellC c H L → DR K H σ te (.tuple ds)) (hj : ∀ H Q, Q (.int (n : Int)) H → tn σ H Q) (nl : noListAll ds = true) (hn : n ≤ ds.length) : DK K L c G σ (tSl (rSlA K) te (tPart tn) tNoPart) (fun d => ∃ es, d = .tuple es ∧ es = ds.drop n) := dk_imp (dk_dr (show noList (.tuple (ds.drop n)) = true from noList_drop n nl) fun H k w => dr_cutFrom (h H k w) hj hn) fun d e => ⟨_, e, rfl⟩
theorem kv {i : Nat} {v : V} (hs : σ[i]? = some (some v)) (h : Dp K G v d) (hL : ∃ xs, G L = some (.lst xs)) (n : noList d = true) (H : Hp) (k : Keeps L G H) (_ : WellC c H L) : DR K H σ (tVar i) d := dr_var hs (dp_keep k hL n h)
end

/-! ### a definition put in -/
/-- a test that draws -/
def AnsK (L : Addr) (c : Int) (t : TT) (σ : L2.St) (H : Hp) (P : Bool → Prop) : Prop := ∀ Q : Bool → Hp → Prop, (∀ b H', Keeps L H H' → WellC c H' L → P b → Q b H') → t σ H Q
theorem ifK {L : Addr} {c : Int} {t : TT} {a b u : TS} {D : Ends} {σ : L2.St} {H : Hp} (P : Bool → Prop) (hc : AnsK L c t σ H P) (ht : ∀ H', Keeps L H H' → WellC c H' L → P true → a { D with nx := u D } σ H') (hf : ∀ H', Keeps L H H' → WellC c H' L → P false → b { D with nx := u D } σ H') : tSeq (tIfS t a b) u D σ H :=
  hc _ fun k H' s w p => by
    cases k with
    | true => exact iteT (ht H' s w p)
    | false => exact iteF (hf H' s w p)
theorem ifK_g {L : Addr} {c : Int} {t : TT} {a b u : TS} {D : Ends} {σ : L2.St} {H : Hp} {i : Nat} {x : V} (P : Bool → Prop) (hc : AnsK L c t (σ.set i (some x)) H P) (ht : ∀ H', Keeps L H H' → WellC c H' L → P true → a { D with nx := u D } (σ.set i (some x)) H') (hf : ∀ H', Keeps L H H' → WellC c H' L → P false → b { D with nx := u D } (σ.set i (some x)) H') :
    gName i x σ H { D with nx := tSeq (tIfS t a b) u D }.nx := ifK P hc ht hf
theorem ifK_n {L : Addr} {c : Int} {t : TT} {a b u : TS} {D : Ends} {σ : L2.St} {H : Hp} (P : Bool → Prop) (hc : AnsK L c t σ H P) (ht : ∀ H', Keeps L H H' → WellC c H' L → P true → a { D with nx := u D } σ H') (hf : ∀ H', Keeps L H H' → WellC c H' L → P false → b { D with nx := u D } σ H') : tNext { D with nx := tSeq (tIfS t a b) u D } σ H := ifK P hc ht hf
theorem nameB_quote (b : Blk) : decide (nameB b = ("quote" : Str)) = true → ∃ bs, b = .quote bs := fun h => by
  cases b with
  | quote bs => exact ⟨bs, rfl⟩
  | list _ _ _ _ => exact absurd h (by decide +kernel : ¬ decide (("list" : Str) = "quote") = true)
  | heading _ _ => exact absurd h (by decide +kernel : ¬ decide (("heading" : Str) = "quote") = true)
  | brk => exact absurd h (by decide +kernel : ¬ decide (("break" : Str) = "quote") = true)
  | code _ _ => exact absurd h (by decide +kernel : ¬ decide (("code" : Str) = "quote") = true)
  | html _ => exact absurd h (by decide +kernel : ¬ decide (("html" : Str) = "quote") = true)
  | defn _ _ _ => exact absurd h (by decide +kernel : ¬ decide (("definition" : Str) = "quote") = true)
  | par _ => exact absurd h (by decide +kernel : ¬ decide (("paragraph" : Str) = "quote") = true)
theorem nameB_list (b : Blk) : decide (nameB b = ("list" : Str)) = true → ∃ g st t its, b = .list g st t its := fun h => by
  cases b with
  | quote bs => exact absurd h (by decide +kernel : ¬ decide (("quote" : Str) = "list") = true)
  | list g st t its => exact ⟨g, st, t, its, rfl⟩
  | heading _ _ => exact absurd h (by decide +kernel : ¬ decide (("heading" : Str) = "list") = true)
  | brk => exact absurd h (by decide +kernel : ¬ decide (("break" : Str) = "list") = true)
  | code _ _ => exact absurd h (by decide +kernel : ¬ decide (("code" : Str) = "list") = true)
  | html _ => exact absurd h (by decide +kernel : ¬ decide (("html" : Str) = "list") = true)
  | defn _ _ _ => exact absurd h (by decide +kernel : ¬ decide (("definition" : Str) = "list") = true)
  | par _ => exact absurd h (by decide +kernel : ¬ decide (("paragraph" : Str) = "list") = true)
theorem blk_name {K : PySem.W.Frag} {G : Hp} {v : V} {b : Blk} (h : Dp K G v b.toD) : ∃ a us, v = .ref a ∧ SqT K G a (.str (nameB b) :: us) := by
  obtain ⟨a, rfl, ha⟩ := blk_at h
  cases ha
  all_goals exact ⟨a, _, rfl, (by assumption)⟩
theorem blk_in {K : PySem.W.Frag} {G : Hp} {v : V} {bs : List Blk} {j : Nat} {x : Blk} (h : Dp K G v (.tuple (blksD bs))) (hx : bs[j]? = some x) : ∃ a us u, v = .ref a ∧ SqT K G a us ∧ us.length = bs.length ∧ us[j]? = some u ∧ Dp K G u x.toD := by
  obtain ⟨a, us, rfl, sq, da⟩ := dp_tup2 h
  have al := dpAll_all2 da
  have l1 : us.length = bs.length := by rw [al.1, blksD_len]
  have hj : j < us.length := by
    rw [l1]
    exact (List.getElem?_eq_some_iff.mp hx).1
  have hd : (blksD bs)[j]? = some x.toD := by rw [blksD_map, List.getElem?_map, hx]; rfl
  exact ⟨a, us, us[j], rfl, sq, l1, List.getElem?_eq_getElem hj, al.2 j _ _ (List.getElem?_eq_getElem hj) hd⟩
theorem cut_at {α : Type} {xs : List α} {j : Nat} {x : α} (h : xs[j]? = some x) : xs = xs.take j ++ x :: xs.drop (j + 1) := by
  obtain ⟨hj, e⟩ := List.getElem?_eq_some_iff.mp h
  rw [← e, List.getElem_cons_drop hj, List.take_append_drop]
theorem blksD_put (bs : List Blk) (j : Nat) (y : Blk) : (blksD bs).take j ++ [y.toD] ++ (blksD bs).drop (j + 1) = blksD (bs.take j ++ y :: bs.drop (j + 1)) := by
  rw [blksD_map, blksD_map, List.map_append, List.map_cons, List.map_take, List.map_drop, List.append_assoc]
  rfl
theorem blksD_ins (bs : List Blk) (j : Nat) (y : Blk) : (blksD bs).take j ++ [y.toD] ++ (blksD bs).drop j = blksD (bs.take j ++ y :: bs.drop j) := by
  rw [blksD_map, blksD_map, List.map_append, List.map_cons, List.map_take, List.map_drop, List.append_assoc]
  rfl
theorem itsD_put (its : List (List Blk)) (j : Nat) (y : List Blk) : (itsD its).take j ++ [.tuple (blksD y)] ++ (itsD its).drop (j + 1) = itsD (its.take j ++ y :: its.drop (j + 1)) := by
  rw [itsD_map, itsD_map, List.map_append, List.map_cons, List.map_take, List.map_drop, List.append_assoc]
  rfl
theorem gBs_mem : ∀ {bs : List Blk} {b : Blk}, gBs bs = true → b ∈ bs → gB b = true
  | c :: bs, b, h, hb => by
    have h' : (gB c && gBs bs) = true := h
    rw [Bool.and_eq_true] at h'
    rcases List.mem_cons.mp hb with rfl | hb
    · exact h'.1
    · exact gBs_mem h'.2 hb
theorem gIts_mem : ∀ {its : List (List Blk)} {bs : List Blk}, gIts its = true → bs ∈ its → gBs bs = true
  | c :: its, bs, h, hb => by
    have h' : (gBs c && gIts its) = true := h
    rw [Bool.and_eq_true] at h'
    rcases List.mem_cons.mp hb with rfl | hb
    · exact h'.1
    · exact gIts_mem h'.2 hb
theorem hBs_mem : ∀ {bs : List Blk} {b : Blk}, b ∈ bs → hB b ≤ hBs bs
  | c :: bs, b, h => by
    show hB b ≤ max (hB c) (hBs bs)
    rcases List.mem_cons.mp h with rfl | h
    · omega
    · have := hBs_mem h
      omega
theorem hIts_mem : ∀ {its : List (List Blk)} {bs : List Blk}, bs ∈ its → 1 + hBs bs ≤ hIts its
  | c :: its, bs, h => by
    show 1 + hBs bs ≤ max (1 + hBs c) (hIts its)
    rcases List.mem_cons.mp h with rfl | h
    · omega
    · have := hIts_mem h
      omega
theorem zz_ok : ("zz" : Str) = S [122, 122] ∧ gTxt [122, 122] = true ∧ lab (S [122, 122]) = true := by decide +kernel
theorem at4 {z u1 u2 u3 u : V} {us : List V} : atI (z :: u1 :: u2 :: u3 :: u :: us) 4 = some u := atI_nat (j := 4) rfl
def sp__law_defined (K : PySem.W.Frag) (n : Nat) : Sp := fun vs H Q _ => ∃ (L : Addr) (v : V) (bs : List Blk) (c : Int), vs = [.ref L, v] ∧ WellC c H L ∧ Dp K H v (.tuple (blksD bs)) ∧ gBs bs = true ∧ sBs bs = true ∧ pBs bs ≤ 900 ∧ hBs bs < n ∧
  ∀ H' v' bs', Keeps L H H' → WellC c H' L → Dp K H' v' (.tuple (blksD bs')) → FM.Sam 1 bs bs' → Q v' H'
theorem ok__law_defined {P : Program} {w : World} {K : PySem.W.Frag} {mg : Str → Option Value} {base : Heap} (T : Txt w K mg) (n : Nat) (FD : FnOk P w K mg base CX0 (6 + n) T.a__law_defined T.d__law_defined ["_law_well_here", "_law_blocks_here"] (sp__law_defined K n)) :
    FnOk P w K mg base CX0 (6 + n + 1) T.a__law_defined T.d__law_defined ["_law_well_here", "_law_blocks_here"] (sp__law_defined K (n + 1)) := by
  refine T.f__law_defined.ok sc__law_defined (fun vs H Q E h => ?_) (fun cdv A outer s H vs Q E hr h => ?_)
  · obtain ⟨L, v, bs, c, rfl, _⟩ := h
    rfl
  · obtain ⟨L, v, bs, c, rfl, hW, hv, hg, hs, hp, hh, q⟩ := h
    refine ⟨_, (pss_cons (ps_set (i := 2) sc__law_defined.nd rfl (.inl rfl) (pe_call (ok__law_draw T) (hr.mono (by omega)) (by rfl) T.g__law_draw T.f__law_draw.kp T.b__law_draw .nil pass0 (pa_cons (pv 0) (pa_cons (pe_op op_add (pe_callB call_len_seq (by rfl) T.z_len PySem.boot_len (pa_cons (pv 1) pa_nil)) pe_int) pa_nil))))
        (pss_cons (ps_if (PW.pt (pw_and (pt_cmpR op_lt (pv 2) (pe_callB call_len_seq (by rfl) T.z_len PySem.boot_len (pa_cons (pv 1) pa_nil)) (nomark _)) (pw_and (pt_cmpR op_eq (pe_ix ix_tup (pe_ix ix_tup (pv 1) (pv 2) (fun _ _ => rfl)) pe_int (fun _ _ => rfl)) pe_str (nomark _)) (pw_and1 (pt_cmpR op_eq (pe_call (ok__law_draw T) (hr.mono (by omega)) (by rfl) T.g__law_draw T.f__law_draw.kp T.b__law_draw .nil pass0 (pa_cons (pv 0) (pa_cons pe_int pa_nil))) pe_int (nomark _)))))) (pss_cons (ps_set (i := 3) sc__law_defined.nd rfl (.inl rfl) (pe_call FD (hr.mono (by omega)) (by rfl) T.g__law_defined T.f__law_defined.kp T.b__law_defined .nil pass0 (pa_cons (pv 0) (pa_cons (pe_ix ix_tup (pe_ix ix_tup (pv 1) (pv 2) (fun _ _ => rfl)) pe_int (fun _ _ => rfl)) pa_nil))))
        (pss_one (ps_ret (pe_op op_catA (pe_op op_catA (pe_slice sl_tupA (pv 1) po_none (po_some (pv 2))) (pe_tup (pa_cons (pe_tup (pa_cons pe_str (pa_cons (pv 3) pa_nil))) pa_nil))) (pe_slice sl_tupA (pv 1) (po_some (pe_op op_add (pv 2) pe_int)) po_none))))) pss_nil)
        (pss_cons (ps_if (PW.pt (pw_and (pt_cmpR op_lt (pv 2) (pe_callB call_len_seq (by rfl) T.z_len PySem.boot_len (pa_cons (pv 1) pa_nil)) (nomark _)) (pw_and (pt_cmpR op_eq (pe_ix ix_tup (pe_ix ix_tup (pv 1) (pv 2) (fun _ _ => rfl)) pe_int (fun _ _ => rfl)) pe_str (nomark _)) (pw_and1 (pt_cmpR op_gt (pe_call (ok__law_draw T) (hr.mono (by omega)) (by rfl) T.g__law_draw T.f__law_draw.kp T.b__law_draw .nil pass0 (pa_cons (pv 0) (pa_cons pe_int pa_nil))) pe_int (nomark _)))))) (pss_cons (ps_set (i := 4) sc__law_defined.nd rfl (.inl rfl) (pe_ix ix_tup (pe_ix ix_tup (pv 1) (pv 2) (fun _ _ => rfl)) pe_int (fun _ _ => rfl)))
        (pss_cons (ps_set (i := 5) sc__law_defined.nd rfl (.inl rfl) (pe_call (ok__law_draw T) (hr.mono (by omega)) (by rfl) T.g__law_draw T.f__law_draw.kp T.b__law_draw .nil pass0 (pa_cons (pv 0) (pa_cons (pe_callB call_len_seq (by rfl) T.z_len PySem.boot_len (pa_cons (pv 4) pa_nil)) pa_nil))))
        (pss_cons (ps_set (i := 4) sc__law_defined.nd rfl (.inl rfl) (pe_op op_catA (pe_op op_catA (pe_slice sl_tupA (pv 4) po_none (po_some (pv 5))) (pe_tup (pa_cons (pe_call FD (hr.mono (by omega)) (by rfl) T.g__law_defined T.f__law_defined.kp T.b__law_defined .nil pass0 (pa_cons (pv 0) (pa_cons (pe_ix ix_tup (pv 4) (pv 5) (fun _ _ => rfl)) pa_nil))) pa_nil))) (pe_slice sl_tupA (pv 4) (po_some (pe_op op_add (pv 5) pe_int)) po_none)))
        (pss_one (ps_ret (pe_op op_catA (pe_op op_catA (pe_slice sl_tupA (pv 1) po_none (po_some (pv 2))) (pe_tup (pa_cons (pe_op op_catA (pe_slice sl_tupA (pe_ix ix_tup (pv 1) (pv 2) (fun _ _ => rfl)) po_none (po_some pe_int)) (pe_tup (pa_cons (pv 4) pa_nil))) pa_nil))) (pe_slice sl_tupA (pv 1) (po_some (pe_op op_add (pv 2) pe_int)) po_none))))))) pss_nil)
        (pss_one (ps_ret (pe_op op_catA (pe_op op_catA (pe_slice sl_tupA (pv 1) po_none (po_some (pv 2))) (pe_tup (pa_cons (pe_tup (pa_cons pe_str (pa_cons pe_str (pa_cons (pe_call (ok__law_string T) (hr.mono (by omega)) (by rfl) T.g__law_string T.f__law_string.kp T.b__law_string .nil pass0 (pa_cons (pv 0) (pa_cons pe_int pa_nil))) (pa_cons pe_non pa_nil))))) pa_nil))) (pe_slice sl_tupA (pv 1) (po_some (pv 2)) po_none))))))), ?_⟩
    obtain ⟨a, us, rfl, sq, da⟩ := dp_tup2 hv
    have la := (dpAll_all2 da).1
    have ln : (blksD bs).length = bs.length := blksD_len bs
    have lp := len_pBs bs
    have nb := noList_blks bs
    refine ⟨_, rfl, _, rfl, a, us, rfl, .inr sq, _, _, rfl, rfl, L, _, c, rfl, by omega, by omega, hW, fun H1 d k1 w1 d0 d1 => ?_⟩
    obtain ⟨j, rfl⟩ := Int.eq_ofNat_of_zero_le d0
    have hj : j ≤ bs.length := by omega
    have at_ : ∀ {H2 : Hp}, Keeps L H H2 → Dp K H2 (.ref a) (.tuple (blksD bs)) := fun k => dp_keep (d := .tuple (blksD bs)) k hW.lst nb hv
    have len_ : ∀ {H2 : Hp}, Keeps L H H2 → ∃ us, SqT K H2 a us ∧ us.length = bs.length := fun k => by
      obtain ⟨a', us', e, s', d'⟩ := dp_tup2 (at_ k)
      cases e
      exact ⟨us', s', by rw [(dpAll_all2 d').1, ln]⟩
    refine ifK_g (L := L) (c := c) (fun b => b = true → ∃ x, bs[j]? = some (.quote x)) (fun Qb qb => ?_) (fun H2 k2 w2 e => ?_) (fun H2 k2 w2 _ => ?_)
    · obtain ⟨us1, sq1, l1⟩ := len_ k1
      refine ⟨_, rfl, _, rfl, a, us1, rfl, .inr sq1, _, _, rfl, rfl, _, rfl, ?_⟩
      by_cases hlt : j < bs.length
      · refine ifT (decide_eq_true (by omega)) ?_
        obtain ⟨x, hx⟩ : ∃ x, bs[j]? = some x := ⟨_, List.getElem?_eq_getElem hlt⟩
        obtain ⟨a', us', u, e, sqa, _, hu, du⟩ := blk_in (at_ k1) hx
        cases e
        obtain ⟨b, ub, rfl, sqb⟩ := blk_name du
        refine ⟨_, rfl, _, rfl, a, us', _, .ref b, rfl, rfl, sqa, atI_nat hu, b, _, _, _, rfl, rfl, sqb, at0, rfl, _, rfl, ?_⟩
        rw [dec_strB]
        cases hn : decide (nameB x = ("quote" : Str)) with
        | false => exact iteF (qb _ _ (.refl _) w1 (fun e => nomatch e))
        | true =>
          refine iteT ⟨_, rfl, L, 2, c, rfl, by decide, by decide, w1, fun H2 d2 k2 w2 _ _ => ⟨rfl, _, rfl, qb _ _ k2 w2 fun _ => ?_⟩⟩
          obtain ⟨y, rfl⟩ := nameB_quote x hn
          exact ⟨y, hx⟩
      · exact ifF (decide_eq_false (by omega)) (qb _ _ (.refl _) w1 (fun e => nomatch e))
    · obtain ⟨x, hx⟩ := e rfl
      have k02 := k1.trans k2
      obtain ⟨a', us', u, e', sqa, _, hu, du⟩ := blk_in (at_ k02) hx
      cases e'
      have hm := List.mem_of_getElem? hx
      have hxg : gBs x = true := gBs_mem hg hm
      have hxs : sBs x = true ∧ pB (.quote x) ≤ pBs bs := sBs_mem hs hm
      have hxh : 1 + hBs x ≤ hBs bs := hBs_mem hm
      have hpx : 1 + pBs x ≤ pBs bs := hxs.2
      obtain ⟨b, rfl, hb⟩ := blk_at du
      cases hb
      rename_i v0 hq hv0
      refine ⟨_, rfl, _, rfl, _, rfl, a, us', _, .ref b, rfl, rfl, sqa, atI_nat hu, b, _, _, _, rfl, rfl, hq, at1, L, v0, x, c, rfl, w2, hv0, hxg, hxs.1, by omega, by omega, fun H3 v3 bs3 k3 w3 hv3 sam => ?_⟩
      have k03 := k02.trans k3
      have hvv := at_ k03
      have nb3 := noList_blks bs3
      refine dk_cat (K := K) (L := L) (c := c) (G := H3) (σ := [some (.ref L), some (.ref a), some (.int (j : Int)), some v3, none, none]) (dk_cat (dk_to (kv rfl hvv w3.lst nb) (nat_var rfl) nb (by omega)) (dk_tup (dks_cons (dk_tup (dks_cons (dk_dr rfl fun _ _ _ => dr_str) (dks_cons (dk_dr (d := .tuple (blksD bs3)) nb3 (kv rfl hv3 w3.lst nb3)) dks_nil)) ?_) dks_nil) ?_) ?_) (dk_from (kv rfl hvv w3.lst nb) (nat_one rfl) nb (by have := (List.getElem?_eq_some_iff.mp hx).1; omega)) ?_ H3 _ (.refl _) w3 fun v4 H4 d4 k4 w4 hv4 n4 p4 => ?_
      · rintro _ ⟨_, _, rfl, _, _, _, rfl, _, rfl⟩; exact Nat.le_of_ble_eq_true rfl
      · rintro _ ⟨_, _, rfl, _, rfl⟩; exact Nat.le_of_ble_eq_true rfl
      · rintro _ _ rfl ⟨_, _, rfl, _, rfl⟩
        rw [List.length_take]
        show _ + 1 ≤ _
        omega
      · rintro _ _ ⟨_, _, rfl, rfl, _, _, rfl, _, rfl⟩ rfl
        rw [List.length_append, List.length_take, List.length_drop]
        show _ + 1 + _ ≤ _
        omega
      · obtain ⟨_, rfl, _, _, rfl, ⟨_, _, rfl, rfl, _, _, rfl, ⟨_, rfl, _, _, rfl, rfl, _, _, rfl, rfl, rfl⟩, rfl⟩, rfl⟩ := p4
        have e5 := blksD_put bs j (.quote bs3)
        refine q H4 v4 (bs.take j ++ .quote bs3 :: bs.drop (j + 1)) (k03.trans k4) w4 (by rw [← e5]; exact hv4) ?_
        conv => lhs; rw [cut_at hx]
        exact FM.Sam.mid (.quote sam) _ _
    have k02 := k1.trans k2
    refine ifK_n (L := L) (c := c) (fun b => b = true → ∃ g st t its, bs[j]? = some (.list g st t its)) (fun Qb qb => ?_) (fun H3 k3 w3 e => ?_) (fun H3 k3 w3 _ => ?_)
    · obtain ⟨us1, sq1, l1⟩ := len_ k02
      refine ⟨_, rfl, _, rfl, a, us1, rfl, .inr sq1, _, _, rfl, rfl, _, rfl, ?_⟩
      by_cases hlt : j < bs.length
      · refine ifT (decide_eq_true (by omega)) ?_
        obtain ⟨x, hx⟩ : ∃ x, bs[j]? = some x := ⟨_, List.getElem?_eq_getElem hlt⟩
        obtain ⟨a', us', u, e, sqa, _, hu, du⟩ := blk_in (at_ k02) hx
        cases e
        obtain ⟨b, ub, rfl, sqb⟩ := blk_name du
        refine ⟨_, rfl, _, rfl, a, us', _, .ref b, rfl, rfl, sqa, atI_nat hu, b, _, _, _, rfl, rfl, sqb, at0, rfl, _, rfl, ?_⟩
        rw [dec_strB]
        cases hn : decide (nameB x = ("list" : Str)) with
        | false => exact iteF (qb _ _ (.refl _) w2 (fun e => nomatch e))
        | true =>
          refine iteT ⟨_, rfl, L, 4, c, rfl, by decide, by decide, w2, fun H3 d3 k3 w3 _ _ => ⟨_, _, rfl, rfl, _, rfl, qb _ _ k3 w3 fun _ => ?_⟩⟩
          obtain ⟨g, st, t, its, rfl⟩ := nameB_list x hn
          exact ⟨g, st, t, its, hx⟩
      · exact ifF (decide_eq_false (by omega)) (qb _ _ (.refl _) w2 (fun e => nomatch e))
    · obtain ⟨g, st, t, its, hx⟩ := e rfl
      have k03 := k02.trans k3
      obtain ⟨a', us', u, e', sqa, _, hu, du⟩ := blk_in (at_ k03) hx
      cases e'
      have hm := List.mem_of_getElem? hx
      have hxg : (fitStart g (optI st) && !its.isEmpty && gIts its) = true := gBs_mem hg hm
      have hxs : sB (.list g st t its) = true ∧ pB (.list g st t its) ≤ pBs bs := sBs_mem hs hm
      have hxs1 : (decide (its.length ≤ 3) && StartsL.contains st && sIts its) = true := hxs.1
      have hxh : hIts its ≤ hBs bs := hBs_mem hm
      have hpx : 1 + pIts its ≤ pBs bs := hxs.2
      rw [Bool.and_eq_true, Bool.and_eq_true] at hxg hxs1
      obtain ⟨b, rfl, hb⟩ := blk_at du
      cases hb
      rename_i v0 hq hv0
      have hl3 : its.length ≤ 3 := of_decide_eq_true hxs1.1.1
      have li : (itsD its).length = its.length := by rw [itsD_map, List.length_map]
      have hl0 : 0 < its.length := by
        cases its with
        | nil => exact absurd hxg.1.2 (by decide)
        | cons _ _ => exact Nat.succ_pos _
      have ni := noList_its its
      obtain ⟨ai, ui, rfl, sqi, di⟩ := dp_tup2 hv0
      have lui : ui.length = its.length := by rw [(dpAll_all2 di).1, li]
      refine ⟨_, rfl, _, rfl, a, us', _, .ref b, rfl, rfl, sqa, atI_nat hu, b, _, _, _, rfl, rfl, hq, at4, ?_⟩
      refine ⟨_, rfl, _, rfl, ai, ui, rfl, .inr sqi, L, _, c, rfl, by omega, by omega, w3, fun H4 d k4 w4 d0 d1 => ?_⟩
      obtain ⟨i, rfl⟩ := Int.eq_ofNat_of_zero_le d0
      have hi : i < its.length := by omega
      obtain ⟨y, hy⟩ : ∃ y, its[i]? = some y := ⟨_, List.getElem?_eq_getElem hi⟩
      have hym := List.mem_of_getElem? hy
      have hv4 : Dp K H4 (.ref ai) (.tuple (itsD its)) := dp_keep (d := .tuple (itsD its)) k4 w3.lst ni hv0
      have k04 := k03.trans k4
      have dy : (itsD its)[i]? = some (.tuple (blksD y)) := by rw [itsD_map, List.getElem?_map, hy]; rfl
      have hys := sIts_mem hxs1.2 hym
      have hyh := hIts_mem hym
      have call : DK K L c H4 [some (.ref L), some (.ref a), some (.int (j : Int)), none, some (.ref ai), some (.int (i : Int))] (tCall (sp__law_defined K n) [] E0 (tCons (tVar 0) (tCons (tOp (rIxT K) (tVar 4) (tVar 5)) tNil))) (fun d => ∃ y', d = .tuple (blksD y') ∧ FM.Sam 1 y y') := fun H5 Q5 k5 w5 q5 => ⟨_, rfl, dr_ix (kv (G := H4) (L := L) (c := c) rfl hv4 w4.lst ni H5 k5 w5) (nat_var rfl) dy H5 _ same_refl fun v6 H6 s6 hv6 => ⟨L, v6, y, c, rfl, w5.same s6, hv6, gIts_mem hxg.2 hym, hys.1, by omega, by omega, fun H7 v7 y' k7 w7 hv7 sam => q5 v7 H7 _ ((Keeps.of s6).trans k7) w7 hv7 (noList_blks y') ⟨y', rfl, sam⟩⟩⟩
      refine dk_cat (K := K) (L := L) (c := c) (G := H4) (dk_cat (dk_to (kv rfl hv4 w4.lst ni) (nat_var rfl) ni (by omega)) (dk_tup (dks_cons call dks_nil) ?_) ?_) (dk_from (kv rfl hv4 w4.lst ni) (nat_one rfl) ni (by omega)) ?_ H4 _ (.refl _) w4 fun v5 H5 d5 k5 w5 hv5 n5 p5 => ?_
      · rintro _ ⟨_, _, rfl, _, rfl⟩; exact Nat.le_of_ble_eq_true rfl
      · rintro _ _ rfl ⟨_, _, rfl, _, rfl⟩
        rw [List.length_take]
        show _ + 1 ≤ _
        omega
      · rintro _ _ ⟨_, _, rfl, rfl, _, _, rfl, _, rfl⟩ rfl
        rw [List.length_append, List.length_take, List.length_drop]
        show _ + 1 + _ ≤ _
        omega
      obtain ⟨_, rfl, _, _, rfl, ⟨_, _, rfl, rfl, _, _, rfl, ⟨y', rfl, sam⟩, rfl⟩, rfl⟩ := p5
      rw [itsD_put] at hv5
      have ni5 := noList_its (its.take i ++ y' :: its.drop (i + 1))
      have k05 := k04.trans k5
      have hvv := at_ k05
      have db : (blksD bs)[j]? = some (.tuple [.str "list", .str g, optI st, .bool t, .tuple (itsD its)]) := by rw [blksD_map, List.getElem?_map, hx]; rfl
      have nb4 : noListAll [.str "list", .str g, optI st, .bool t, .tuple (itsD its)] = true := noList_blk (.list g st t its)
      refine dk_cat (K := K) (L := L) (c := c) (G := H5) (σ := [some (.ref L), some (.ref a), some (.int (j : Int)), none, some v5, some (.int (i : Int))]) (dk_cat (dk_to (kv rfl hvv w5.lst nb) (nat_var rfl) nb (by omega)) (dk_tup (dks_cons (dk_cat (dk_to (n := 4) (fun H' k' w' => dr_ix (kv rfl hvv w5.lst nb H' k' w') (nat_var rfl) db) (nat_is rfl) nb4 (Nat.le_of_ble_eq_true rfl)) (dk_tup (dks_cons (dk_dr (d := .tuple (itsD (its.take i ++ y' :: its.drop (i + 1)))) ni5 (kv rfl hv5 w5.lst ni5)) dks_nil) ?_) ?_) dks_nil) ?_) ?_) (dk_from (kv rfl hvv w5.lst nb) (nat_one rfl) nb (by have := (List.getElem?_eq_some_iff.mp hx).1; omega)) ?_ H5 _ (.refl _) w5 fun v6 H6 d6 k6 w6 hv6 n6 p6 => ?_
      · rintro _ ⟨_, _, rfl, _, rfl⟩; exact Nat.le_of_ble_eq_true rfl
      · rintro _ _ rfl ⟨_, _, rfl, _, rfl⟩
        exact Nat.le_of_ble_eq_true rfl
      · rintro _ ⟨_, _, rfl, _, rfl⟩; exact Nat.le_of_ble_eq_true rfl
      · rintro _ _ rfl ⟨_, _, rfl, _, rfl⟩
        rw [List.length_take]
        show _ + 1 ≤ _
        omega
      · rintro _ _ ⟨_, _, rfl, rfl, _, _, rfl, _, rfl⟩ rfl
        rw [List.length_append, List.length_take, List.length_drop]
        show _ + 1 + _ ≤ _
        omega
      obtain ⟨_, rfl, _, _, rfl, ⟨_, _, rfl, rfl, _, _, rfl, ⟨_, rfl, _, _, rfl, rfl, _, _, rfl, rfl, rfl⟩, rfl⟩, rfl⟩ := p6
      have e5 := blksD_put bs j (.list g st t (its.take i ++ y' :: its.drop (i + 1)))
      refine q H6 v6 (bs.take j ++ .list g st t (its.take i ++ y' :: its.drop (i + 1)) :: bs.drop (j + 1)) (k05.trans k6) w6 (by rw [← e5]; exact hv6) ?_
      conv => lhs; rw [cut_at hx]
      refine FM.Sam.mid (.list ?_ g st t) _ _
      conv => lhs; rw [cut_at hy]
      exact FM.SamI.mid sam _ _
    · have k03 := k02.trans k3
      have hvv := at_ k03
      have str : DK K L c H3 [some (.ref L), some (.ref a), some (.int (j : Int)), none, none, none] (tCall (sp__law_string K) [] E0 (tCons (tVar 0) (tCons (tC (.int 3)) tNil))) (fun d => ∃ l, d = .str (S l) ∧ Good 3 l) := fun H4 Q4 k4 w4 q4 => ⟨_, rfl, L, 3, c, rfl, by decide, by decide, w4, fun H5 l k5 w5 gl => q4 _ H5 (.str (S l)) k5 w5 (.str _) rfl ⟨l, rfl, gl⟩⟩
      refine dk_cat (K := K) (L := L) (c := c) (G := H3) (σ := [some (.ref L), some (.ref a), some (.int (j : Int)), none, none, none]) (dk_cat (dk_to (kv rfl hvv w3.lst nb) (nat_var rfl) nb (by omega)) (dk_tup (dks_cons (dk_tup (dks_cons (dk_dr rfl fun _ _ _ => dr_str) (dks_cons (dk_dr rfl fun _ _ _ => dr_str) (dks_cons str (dks_cons (dk_dr rfl fun _ _ _ => dr_non) dks_nil)))) ?_) dks_nil) ?_) ?_) (dk_from (kv rfl hvv w3.lst nb) (nat_var rfl) nb (by omega)) ?_ H3 _ (.refl _) w3 fun v4 H4 d4 k4 w4 hv4 n4 p4 => ?_
      · rintro _ ⟨_, _, rfl, _, _, _, rfl, _, _, _, rfl, _, _, _, rfl, _, rfl⟩; exact Nat.le_of_ble_eq_true rfl
      · rintro _ ⟨_, _, rfl, _, rfl⟩; exact Nat.le_of_ble_eq_true rfl
      · rintro _ _ rfl ⟨_, _, rfl, _, rfl⟩
        rw [List.length_take]
        show _ + 1 ≤ _
        omega
      · rintro _ _ ⟨_, _, rfl, rfl, _, _, rfl, _, rfl⟩ rfl
        rw [List.length_append, List.length_take, List.length_drop]
        show _ + 1 + _ ≤ _
        omega
      obtain ⟨_, rfl, _, _, rfl, ⟨_, _, rfl, rfl, _, _, rfl, ⟨_, rfl, _, _, rfl, rfl, _, _, rfl, rfl, _, _, rfl, ⟨l, rfl, gl⟩, _, _, rfl, rfl, rfl⟩, rfl⟩, rfl⟩ := p4
      obtain ⟨z1, z2, z3⟩ := zz_ok
      have e5 := blksD_ins bs j (.defn [122, 122] l none)
      have e6 : Blk.toD (.defn [122, 122] l none) = .tuple [.str "definition", .str "zz", .str (S l), .none] := by rw [z1]; rfl
      rw [e6] at e5
      refine q H4 v4 (bs.take j ++ .defn [122, 122] l none :: bs.drop j) (k03.trans k4) w4 (by rw [← e5]; exact hv4) ?_
      have hgd : gB (.defn [122, 122] l none) = true := by
        show (gTxt [122, 122] && lab (S [122, 122]) && gTxt l && true) = true
        rw [z2, z3, gl.1]
        rfl
      have hsd : sB (.defn [122, 122] l none) = true := by
        show (decide (2 ≤ 50) && decide (l.length ≤ 200) && true) = true
        rw [decide_eq_true (Nat.le_trans gl.2.2 (by decide) : l.length ≤ 200)]
        rfl
      have := FM.Sam.ins hgd hsd (bs.take j) (bs.drop j)
      rw [List.take_append_drop] at this
      exact this
theorem defd_ok {P : Program} {w : World} {K : PySem.W.Frag} {mg : Str → Option Value} {base : Heap} (T : Txt w K mg) : ∀ n, FnOk P w K mg base CX0 (6 + n) T.a__law_defined T.d__law_defined ["_law_well_here", "_law_blocks_here"] (sp__law_defined K n)
  | 0 => fnOk_none fun vs H Q E h => by
    obtain ⟨_, _, bs, _, _, _, _, _, _, _, hd, _⟩ := h
    exact Nat.not_lt_zero _ hd
  | n + 1 => ok__law_defined T n (defd_ok T n)

/-! ### infos told otherwise -/
theorem keeps_sqT {K : PySem.W.Frag} {H H' : Hp} {L a : Addr} {us : List V} (k : Keeps L H H') (hL : ∃ xs, H L = some (.lst xs)) (h : SqT K H a us) : SqT K H' a us := by
  obtain ⟨xs, hL⟩ := hL
  have ne : ∀ {o}, H a = some o → o ≠ .lst xs → a ≠ L := fun e n z => by
    rw [z, hL] at e
    exact n (Option.some.inj e).symm
  rcases h with (h | ⟨o, h⟩) | h
  · exact .inl (.inl (k _ _ (ne h (fun e => nomatch e)) h))
  · exact .inl (.inr ⟨o, k _ _ (ne h (fun e => nomatch e)) h⟩)
  · exact .inr h
def whL (l : List Nat) : List Nat := PySem.StrLaws.replL [10] [32] (PySem.StrLaws.replL [9] [32] l)
theorem white_ok : ∀ i ∈ InfosL, CL.nameL (whL (i.getD [])) = firstW (i.getD []) ∧ (PySem.StrLaws.replL [9] [32] (i.getD [])).length ≤ 50 ∧ (whL (i.getD [])).length ≤ 50 ∧ (i.getD []).length ≤ 50 ∧ (firstW (i.getD [])).length ≤ 50 := by decide +kernel
theorem lit_w : ("\t" : Str) = S [9] ∧ ("\n" : Str) = S [10] ∧ (" " : Str) = S [32] ∧ ("" : Str) = S [] := by decide +kernel
theorem cut1 {x : V} {r : List V} : cutV (x :: r) none (some 1) = [x] := rfl
theorem first_split {l : List Nat} (h : InfosL.contains (some l) = true) : ∃ ps, Txt.split (Txt.replace (Txt.replace (S l) "\t" " ") "\n" " ") " " = S (firstW l) :: ps ∧ Txt.replace (S l) "\t" " " = S (PySem.StrLaws.replL [9] [32] l) ∧ Txt.replace (Txt.replace (S l) "\t" " ") "\n" " " = S (whL l) ∧ (PySem.StrLaws.replL [9] [32] l).length ≤ 50 ∧ (whL l).length ≤ 50 ∧ l.length ≤ 50 ∧ (firstW l).length ≤ 50 := by
  obtain ⟨h1, h2, h3, h4, h5⟩ := white_ok (some l) (by simpa using h)
  obtain ⟨e1, e2, e3, _⟩ := lit_w
  obtain ⟨ps, e⟩ := CL.name_head (whL l)
  have r1 : Txt.replace (S l) "\t" " " = S (PySem.StrLaws.replL [9] [32] l) := by rw [e1, e3, repl_S _ _ _ (by decide)]
  have r2 : Txt.replace (Txt.replace (S l) "\t" " ") "\n" " " = S (whL l) := by
    rw [r1, e2, e3, repl_S _ _ _ (by decide)]
    rfl
  refine ⟨ps.map S, ?_, r1, r2, h2, h3, h4, h5⟩
  rw [r2, e3, CL.split_c (by decide), e, List.map_cons]
  exact congrArg (fun x => S x :: _) h1
theorem tails_of : ∀ v ∈ ([.str " ", .str "\tq", .str "\n", .str " <r> s"] : List V), ∃ u ∈ tailsI, v = .str (S u) := by
  intro v hv
  simp only [List.mem_cons, List.not_mem_nil, or_false] at hv
  rcases hv with rfl | rfl | rfl | rfl
  · exact ⟨cs " ", by decide +kernel, by rw [lit]⟩
  · exact ⟨cs "\tq", by decide +kernel, by rw [lit]⟩
  · exact ⟨cs "\n", by decide +kernel, by rw [lit]⟩
  · exact ⟨cs " <r> s", by decide +kernel, by rw [lit]⟩
theorem tails_len : ∀ u ∈ tailsI, u.length ≤ 10 := by decide +kernel
theorem at2' {z u1 u : V} {us : List V} : atI (z :: u1 :: u :: us) 2 = some u := atI_nat (j := 2) rfl
def sp__law_informed (K : PySem.W.Frag) (n : Nat) : Sp := fun vs H Q _ => ∃ (L : Addr) (v : V) (bs : List Blk) (c : Int), vs = [.ref L, v] ∧ WellC c H L ∧ Dp K H v (.tuple (blksD bs)) ∧ gBs bs = true ∧ sBs bs = true ∧ pBs bs ≤ 900 ∧ hBs bs < n ∧
  ∀ H' v' bs', Keeps L H H' → WellC c H' L → Dp K H' v' (.tuple (blksD bs')) → FM.Sam 0 bs bs' → Q v' H'
theorem ok__law_informed {P : Program} {w : World} {K : PySem.W.Frag} {mg : Str → Option Value} {base : Heap} (T : Txt w K mg) (n : Nat) (FI : FnOk P w K mg base CX0 (6 + n) T.a__law_informed T.d__law_informed ["_law_well_here", "_law_blocks_here"] (sp__law_informed K n)) :
    FnOk P w K mg base CX0 (6 + n + 1) T.a__law_informed T.d__law_informed ["_law_well_here", "_law_blocks_here"] (sp__law_informed K (n + 1)) := by
  refine T.f__law_informed.ok sc__law_informed (fun vs H Q E h => ?_) (fun cdv A outer s H vs Q E hr h => ?_)
  · obtain ⟨L, v, bs, c, rfl, _⟩ := h
    rfl
  · obtain ⟨L, v, bs, c, rfl, hW, hv, hg, hs, hp, hh, q⟩ := h
    refine ⟨_, (pss_cons (ps_set (i := 2) sc__law_informed.nd rfl (.inl rfl) (pe_lst pa_nil))
        (pss_cons (ps_for PassesOwn.never rfl (pi_tup (pv 1)) (pg_name (i := 3) sc__law_informed.nd rfl (.inl rfl)) (pss_cons (ps_if (PW.pt (pw_and (pt_cmpR op_eq (pe_ix ix_tup (pv 3) pe_int (fun _ _ => rfl)) pe_str (nomark _)) (pw_and1 (pt_cmpR op_notN (pe_ix ix_tup (pv 3) pe_int (fun _ _ => rfl)) pe_non (nomark _))))) (pss_cons (ps_set (i := 4) sc__law_informed.nd rfl (.inl rfl) (pe_joinC (pet_slice sl_list (pet_m1 PySem.F.slot_str_split PySem.F.type_str_split mt_split (CwR.pet_replT (CwR.pet_replC (pe_ix ix_tup (pv 3) pe_int (fun _ _ => rfl)))) pe_str) po_none (po_some pe_int))))
        (pss_one (ps_set (i := 3) sc__law_informed.nd rfl (.inl rfl) (pe_op op_catA (pe_slice sl_tupA (pv 3) po_none (po_some pe_int)) (pe_tup (pa_cons (pe_op op_add_str (pv 4) (pe_call (ok__law_one T) (hr.mono (by omega)) (by rfl) T.g__law_one T.f__law_one.kp T.b__law_one .nil pass0 (pa_cons (pv 0) (pa_cons (pe_lst (pa_cons pe_str (pa_cons pe_str (pa_cons pe_str (pa_cons pe_str pa_nil))))) pa_nil)))) pa_nil)))))) (pss_one (ps_if (pt_cmpR op_eq (pe_ix ix_tup (pv 3) pe_int (fun _ _ => rfl)) pe_str (nomark _)) (pss_one (ps_set (i := 3) sc__law_informed.nd rfl (.inl rfl) (pe_tup (pa_cons pe_str (pa_cons (pe_call FI (hr.mono (by omega)) (by rfl) T.g__law_informed T.f__law_informed.kp T.b__law_informed .nil pass0 (pa_cons (pv 0) (pa_cons (pe_ix ix_tup (pv 3) pe_int (fun _ _ => rfl)) pa_nil))) pa_nil))))) (pss_one (ps_if (pt_cmpR op_eq (pe_ix ix_tup (pv 3) pe_int (fun _ _ => rfl)) pe_str (nomark _)) (pss_one (ps_set (i := 3) sc__law_informed.nd rfl (.inl rfl) (pe_op op_catA (pe_slice sl_tupA (pv 3) po_none (po_some pe_int)) (pe_tup (pa_cons (pe_callTy call_tuple_of (by rfl) T.z_tuple (by decide +kernel) (pa_cons (pe_lc (own := [("_law_item", 5)]) (g := (gName 5)) (tt := tYes) (by rfl) sc__law_informed.nd (pi_tup (pe_ix ix_tup (pv 3) pe_int (fun _ _ => rfl))) (blkOk_by (own := [("_law_item", 5)]) (N := ["_law_well_here", "_law_blocks_here", "_law_found", "_law_block_here", "_law_first", "_law_item"]) (sc := defScope s__law_informed) (by decide +kernel)) (fun _ _ _ _ _ => (pg_name (i := 5) sc__law_informed.nd rfl (Or.inl rfl))) (fun _ _ _ _ _ => pts_nil) (fun _ _ _ _ _ => (pe_call FI (hr.mono (by omega)) (by rfl) T.g__law_informed T.f__law_informed.kp T.b__law_informed .nil pass0 (pa_cons (pv 0) (pa_cons (pv 5) pa_nil))))) pa_nil)) pa_nil))))) pss_nil)))))
        (pss_one (ps_expr (pe_bm PySem.F.plainAttrs_list PySem.F.slot_list_append PySem.F.type_list_append mt_append (pv 2) (pa_cons (pv 3) pa_nil))))))
        (pss_one (ps_ret (pe_callTy call_tuple_of (by rfl) T.z_tuple (by decide +kernel) (pa_cons (pv 2) pa_nil)))))), ?_⟩
    obtain ⟨a, us, rfl, sq, da⟩ := dp_tup2 hv
    have al := dpAll_all2 da
    have la : us.length = bs.length := by rw [al.1, blksD_len]
    have lp := len_pBs bs
    have nb := noList_blks bs
    refine ⟨(by show 0 ≤ sizeLine; decide), fun D nD => ?_⟩
    have nDL : D ≠ L := hW.ne nD
    refine ⟨_, rfl, a, rfl, ⟨us, same_tup (same_new nD) sq⟩, ?_⟩
    refine for_tup (xs := us) (fun i σ' H' => ∃ a3 a4 a5, σ' = [some (.ref L), some (.ref a), some (.ref D), a3, a4, a5] ∧ Keeps L H H' ∧ WellC c H' L ∧ ∃ ys vs, H' D = some (.lst vs) ∧ DpAll K H' vs (blksD ys) ∧ FM.Pw (bs.take i) ys) ?_ ?_ ?_ ?_
    · exact ⟨none, none, none, rfl, .new nD, hW.new nD, [], [], upd_same, .nil, .nil⟩
    · rintro i σ' H1 _ ⟨a3, a4, a5, rfl, k1, _⟩
      exact keeps_sqT k1 hW.lst sq
    · rintro i x σ' H1 hx ⟨a3, a4, a5, rfl, k1, w1, ys, vs, hD, dps, pw⟩
      have hi : i < bs.length := by
        rw [← la]
        exact (List.getElem?_eq_some_iff.mp hx).1
      obtain ⟨y, hy⟩ : ∃ y, bs[i]? = some y := ⟨_, List.getElem?_eq_getElem hi⟩
      have hd : (blksD bs)[i]? = some y.toD := by rw [blksD_map, List.getElem?_map, hy]; rfl
      have du0 : Dp K H x y.toD := al.2 i x _ hx hd
      have du : Dp K H1 x y.toD := dp_keep k1 hW.lst (noList_blk y) du0
      have hm := List.mem_of_getElem? hy
      have hyg : gB y = true := gBs_mem hg hm
      have hys := sBs_mem hs hm
      have hyh := hBs_mem hm
      have nys := noList_blks ys
      obtain ⟨b, rfl, hb⟩ := blk_at du
      have lvs : vs.length < sizeLine := by
        have h1 := (dpAll_all2 dps).1
        rw [blksD_len, pw.len, List.length_take] at h1
        rw [sizeLine_eq]
        omega
      have fin : ∀ (v : V) (H2 : Hp) (y' : Blk), Keeps L H1 H2 → WellC c H2 L → Dp K H2 v y'.toD → FM.SamB 0 y y' → ∀ a3 a4 a5 : Option V, ∃ b3 b4 b5, [some (.ref L), some (.ref a), some (.ref D), a3, a4, a5] = [some (V.ref L), some (.ref a), some (.ref D), b3, b4, b5] ∧ Keeps L H (upd H2 D (.lst (vs ++ [v]))) ∧ WellC c (upd H2 D (.lst (vs ++ [v]))) L ∧ ∃ ys2 vs2, (upd H2 D (.lst (vs ++ [v]))) D = some (.lst vs2) ∧ DpAll K (upd H2 D (.lst (vs ++ [v]))) vs2 (blksD ys2) ∧ FM.Pw (bs.take (i + 1)) ys2 := fun v H2 y' k2 w2 hv2 sm a3 a4 a5 => by
        refine ⟨a3, a4, a5, rfl, keeps_upd (k1.trans k2) nD, w2.upd nDL, ys ++ [y'], vs ++ [v], upd_same, ?_, ?_⟩
        · rw [blksD_app]
          refine dpAll_keep (L := D) Keeps.at ⟨vs, k2 _ _ nDL hD⟩ ?_ (dpAll_app (dpAll_keep k2 w1.lst nys dps) (.cons hv2 .nil))
          have := noList_blks (ys ++ [y'])
          rw [blksD_app] at this
          exact this
        · rw [List.take_add_one, hy]
          exact pw.snoc sm
      cases hb
      case brk hq =>
        refine ⟨_, rfl, b, _, _, _, rfl, rfl, hq, at0, rfl, _, rfl, ifF (by decide +kernel) (iteF ⟨_, rfl, b, _, _, _, rfl, rfl, hq, at0, rfl, _, rfl, ifF (by decide +kernel) ⟨_, rfl, b, _, _, _, rfl, rfl, hq, at0, rfl, _, rfl, ifF (by decide +kernel) ?_⟩⟩)⟩
        exact ⟨_, rfl, .inl ⟨rfl, _, SqL.of hD⟩, _, rfl, D, vs, _, rfl, rfl, hD, lvs, fin _ H1 .brk (.refl _) w1 du (.refl _) _ _ _⟩
      case heading hq hd0 =>
        refine ⟨_, rfl, b, _, _, _, rfl, rfl, hq, at0, rfl, _, rfl, ifF (by decide +kernel) (iteF ⟨_, rfl, b, _, _, _, rfl, rfl, hq, at0, rfl, _, rfl, ifF (by decide +kernel) ⟨_, rfl, b, _, _, _, rfl, rfl, hq, at0, rfl, _, rfl, ifF (by decide +kernel) ?_⟩⟩)⟩
        exact ⟨_, rfl, .inl ⟨rfl, _, SqL.of hD⟩, _, rfl, D, vs, _, rfl, rfl, hD, lvs, fin _ H1 _ (.refl _) w1 du (.refl _) _ _ _⟩
      case html hq =>
        refine ⟨_, rfl, b, _, _, _, rfl, rfl, hq, at0, rfl, _, rfl, ifF (by decide +kernel) (iteF ⟨_, rfl, b, _, _, _, rfl, rfl, hq, at0, rfl, _, rfl, ifF (by decide +kernel) ⟨_, rfl, b, _, _, _, rfl, rfl, hq, at0, rfl, _, rfl, ifF (by decide +kernel) ?_⟩⟩)⟩
        exact ⟨_, rfl, .inl ⟨rfl, _, SqL.of hD⟩, _, rfl, D, vs, _, rfl, rfl, hD, lvs, fin _ H1 _ (.refl _) w1 du (.refl _) _ _ _⟩
      case defn hq =>
        refine ⟨_, rfl, b, _, _, _, rfl, rfl, hq, at0, rfl, _, rfl, ifF (by decide +kernel) (iteF ⟨_, rfl, b, _, _, _, rfl, rfl, hq, at0, rfl, _, rfl, ifF (by decide +kernel) ⟨_, rfl, b, _, _, _, rfl, rfl, hq, at0, rfl, _, rfl, ifF (by decide +kernel) ?_⟩⟩)⟩
        exact ⟨_, rfl, .inl ⟨rfl, _, SqL.of hD⟩, _, rfl, D, vs, _, rfl, rfl, hD, lvs, fin _ H1 _ (.refl _) w1 du (.refl _) _ _ _⟩
      case par hq hd0 =>
        refine ⟨_, rfl, b, _, _, _, rfl, rfl, hq, at0, rfl, _, rfl, ifF (by decide +kernel) (iteF ⟨_, rfl, b, _, _, _, rfl, rfl, hq, at0, rfl, _, rfl, ifF (by decide +kernel) ⟨_, rfl, b, _, _, _, rfl, rfl, hq, at0, rfl, _, rfl, ifF (by decide +kernel) ?_⟩⟩)⟩
        exact ⟨_, rfl, .inl ⟨rfl, _, SqL.of hD⟩, _, rfl, D, vs, _, rfl, rfl, hD, lvs, fin _ H1 _ (.refl _) w1 du (.refl _) _ _ _⟩
      case quote v0 x hq hv0 =>
        have hyg1 : gBs x = true := hyg
        have hys1 : sBs x = true := hys.1
        have hyp1 : 1 + pBs x ≤ pBs bs := hys.2
        have hyh1 : 1 + hBs x ≤ hBs bs := hyh
        refine ⟨_, rfl, b, _, _, _, rfl, rfl, hq, at0, rfl, _, rfl, ifF (by decide +kernel) (iteF ⟨_, rfl, b, _, _, _, rfl, rfl, hq, at0, rfl, _, rfl, ifT (by decide +kernel) ?_⟩)⟩
        refine ⟨_, rfl, _, rfl, b, _, _, _, rfl, rfl, hq, at1, L, v0, x, c, rfl, w1, hv0, hyg1, hys1, by omega, by omega, fun H3 v3 bs3 k3 w3 hv3 sam => ⟨(by show 2 ≤ sizeLine; decide), fun r nr => ?_⟩⟩
        have k4 : Keeps L H1 (upd H3 r (.tup [.str "quote", v3])) := k3.trans (.new nr)
        have hD5 := k4 _ _ nDL hD
        exact ⟨_, rfl, .inl ⟨rfl, _, SqL.of hD5⟩, _, rfl, D, vs, _, rfl, rfl, hD5, lvs, fin _ _ (.quote bs3) k4 (w3.new nr) (dp_two upd_same (dp_same (same_new nr) hv3)) (.quote sam) _ _ _⟩
      case list v0 g st t its hq hv0 =>
        have hyg1 : (fitStart g (optI st) && !its.isEmpty && gIts its) = true := hyg
        have hys1 : (decide (its.length ≤ 3) && StartsL.contains st && sIts its) = true := hys.1
        have hyp1 : 1 + pIts its ≤ pBs bs := hys.2
        have hyh1 : hIts its ≤ hBs bs := hyh
        rw [Bool.and_eq_true, Bool.and_eq_true] at hyg1 hys1
        have hl3 : its.length ≤ 3 := of_decide_eq_true hys1.1.1
        have ni := noList_its its
        have nl4 : noListAll [.str "list", .str g, optI st, .bool t, .tuple (itsD its)] = true := noList_blk (.list g st t its)
        refine ⟨_, rfl, b, _, _, _, rfl, rfl, hq, at0, rfl, _, rfl, ifF (by decide +kernel) (iteF ⟨_, rfl, b, _, _, _, rfl, rfl, hq, at0, rfl, _, rfl, ifF (by decide +kernel) ⟨_, rfl, b, _, _, _, rfl, rfl, hq, at0, rfl, _, rfl, ifT (by decide +kernel) ?_⟩⟩)⟩
        refine dk_cat (K := K) (L := L) (c := c) (G := H1) (σ := [some (.ref L), some (.ref a), some (.ref D), some (.ref b), a4, a5]) (dk_to (n := 4) (kv rfl du w1.lst (noList_blk (.list g st t its))) (nat_is rfl) nl4 (Nat.le_of_ble_eq_true rfl)) (dk_tup (dks_cons (p := fun d => ∃ its', d = .tuple (itsD its') ∧ FM.SamI 0 its its') (fun H2 Q2 k2 w2 q2 => ?_) dks_nil) ?_) ?_ H1 _ (.refl _) w1 fun v5 H5 d5 k5 w5 hv5 n5 p5 => ?_
        · have hq2 := keeps_sqT k2 w1.lst hq
          have hv2 : Dp K H2 v0 (.tuple (itsD its)) := dp_keep (d := .tuple (itsD its)) k2 w1.lst ni hv0
          obtain ⟨ai, ui, rfl, sqi, di⟩ := dp_tup2 hv2
          have ali := dpAll_all2 di
          have lui : ui.length = its.length := by rw [ali.1, itsD_map, List.length_map]
          refine ⟨_, rfl, b, _, _, _, rfl, rfl, hq2, at4, ai, rfl, ⟨ui, sqi⟩, fun D2 nD2 => ?_⟩
          have nD2L : D2 ≠ L := w2.ne nD2
          refine lc_tup (xs := ui) (fun i H' => Keeps L H2 H' ∧ WellC c H' L ∧ ∃ zs ws, H' D2 = some (.lst ws) ∧ DpAll K H' ws (itsD zs) ∧ FM.PwI (its.take i) zs) ?_ ?_ ?_ ?_
          · exact ⟨.new nD2, w2.new nD2, [], [], upd_same, .nil, .nil⟩
          · rintro j H3 _ ⟨k3, _⟩
            exact keeps_sqT k3 w2.lst sqi
          · rintro j x H3 hx ⟨k3, w3, zs, ws, hD3, dps3, pwi⟩
            have hj : j < its.length := by
              rw [← lui]
              exact (List.getElem?_eq_some_iff.mp hx).1
            obtain ⟨y, hy2⟩ : ∃ y, its[j]? = some y := ⟨_, List.getElem?_eq_getElem hj⟩
            have hd2 : (itsD its)[j]? = some (.tuple (blksD y)) := by rw [itsD_map, List.getElem?_map, hy2]; rfl
            have dx : Dp K H3 x (.tuple (blksD y)) := dp_keep (d := .tuple (blksD y)) k3 w2.lst (noList_blks y) (ali.2 j x _ hx hd2)
            have hym := List.mem_of_getElem? hy2
            have hys2 := sIts_mem hys1.2 hym
            have hyh2 := hIts_mem hym
            have nzs := noList_its zs
            refine ⟨rfl, _, rfl, _, rfl, L, x, y, c, rfl, w3, dx, gIts_mem hyg1.2 hym, hys2.1, by omega, by omega, fun H4 v y' k4 w4 hv4 sam => ?_⟩
            have lws : ws.length < sizeLine := by
              have h1 := (dpAll_all2 dps3).1
              rw [itsD_map, List.length_map, pwi.len, List.length_take] at h1
              rw [sizeLine_eq]
              omega
            have hD4 := k4 _ _ nD2L hD3
            refine ⟨ws, hD4, lws, keeps_upd (k3.trans k4) nD2, w4.upd nD2L, zs ++ [y'], ws ++ [v], upd_same, ?_, ?_⟩
            · rw [itsD_app]
              refine dpAll_keep (L := D2) Keeps.at ⟨ws, hD4⟩ ?_ (dpAll_app (dpAll_keep k4 w3.lst nzs dps3) (.cons hv4 .nil))
              have := noList_its (zs ++ [y'])
              rw [itsD_app] at this
              exact this
            · rw [List.take_add_one, hy2]
              exact pwi.snoc sam
          · rintro H3 ⟨k3, w3, zs, ws, hD3, dps3, pwi⟩
            rw [lui, List.take_length] at pwi
            refine ⟨D2, ws, rfl, .inl ⟨SqL.of hD3, fun r nr => ?_⟩⟩
            exact q2 _ _ (.tuple (itsD zs)) (k3.trans (.new nr)) (w3.new nr) (.tup (SqT.of upd_same) (dpAll_same (same_new nr) dps3)) (noList_its zs) ⟨zs, rfl, pwi.sam⟩
        · rintro _ ⟨_, _, rfl, _, rfl⟩; exact Nat.le_of_ble_eq_true rfl
        · rintro _ _ rfl ⟨_, _, rfl, _, rfl⟩; exact Nat.le_of_ble_eq_true rfl
        obtain ⟨_, rfl, _, _, rfl, rfl, _, _, rfl, ⟨its', rfl, sam⟩, rfl⟩ := p5
        have hD5 := k5 _ _ nDL hD
        exact ⟨_, rfl, .inl ⟨rfl, _, SqL.of hD5⟩, _, rfl, D, vs, _, rfl, rfl, hD5, lvs, fin _ H5 (.list g st t its') k5 w5 hv5 (.list sam g st t) _ _ _⟩
      case code t l hq =>
        refine ⟨_, rfl, b, _, _, _, rfl, rfl, hq, at0, rfl, _, rfl, ifT (by decide +kernel) ⟨_, rfl, b, _, _, _, rfl, rfl, hq, at2', rfl, _, rfl, ?_⟩⟩
        cases l with
        | none =>
          refine iteF ⟨_, rfl, b, _, _, _, rfl, rfl, hq, at0, rfl, _, rfl, ifF (by decide +kernel) ⟨_, rfl, b, _, _, _, rfl, rfl, hq, at0, rfl, _, rfl, ifF (by decide +kernel) ?_⟩⟩
          exact ⟨_, rfl, .inl ⟨rfl, _, SqL.of hD⟩, _, rfl, D, vs, _, rfl, rfl, hD, lvs, fin _ H1 _ (.refl _) w1 du (.refl _) _ _ _⟩
        | some l =>
          refine ifT (by rfl) ?_
          have hys1 : (decide (t.length ≤ 50) && InfosL.contains (some l)) = true := hys.1
          rw [Bool.and_eq_true] at hys1
          obtain ⟨ps, f1, f2, f3, f4, f5, f6, f7⟩ := first_split hys1.2
          refine ⟨⟨_, rfl⟩, _, rfl, b, _, _, _, rfl, rfl, hq, at2', _, rfl, ?_, _, rfl, ?_, ⟨_, rfl⟩, _, _, rfl, rfl, by decide +kernel, ?_, fun p np => ?_⟩
          · rw [S_len, lit_w.2.2.1, S_len]
            show l.length + (l.length + 1) * 1 ≤ _
            omega
          · rw [f2, S_len, lit_w.2.2.1, S_len]
            show _ + (_ + 1) * 1 ≤ _
            omega
          · rw [f3, S_len, sizeLine_eq]
            omega
          rw [f1]
          refine ⟨_, rfl, p, _, rfl, SqL.of upd_same, fun p2 np2 => ?_⟩
          rw [List.map_cons, cut1]
          refine ⟨_, p2, [S (firstW l)], rfl, rfl, .inl (SqL.of upd_same), ?_, ?_⟩
          · rw [lit_w.2.2.2]
            show (S (firstW l)).length + 0 + 1 * (S []).length ≤ _
            rw [S_len, S_len]
            show (firstW l).length + 0 + 1 * 0 ≤ _
            omega
          rw [show Txt.join ("" : Str) [S (firstW l)] = S (firstW l) by
            have := My.join_nil [firstW l]
            rw [lit_w.2.2.2]
            rw [List.map_cons, List.map_nil] at this
            rw [this]
            show S (firstW l ++ []) = _
            rw [List.append_nil]]
          have s2 : Same H1 (upd (upd H1 p (.lst ((S (firstW l) :: ps).map V.str))) p2 (.lst [V.str (S (firstW l))])) := (same_new np).trans (same_new np2)
          simp only [List.map_cons] at s2
          generalize (upd (upd H1 p (.lst (V.str (S (firstW l)) :: ps.map V.str))) p2 (.lst [V.str (S (firstW l))])) = H2 at s2 ⊢
          have w2 := w1.same s2
          have du2 := dp_same s2 du
          have nl4 : noListAll [.str "code", .str (S t), optD (some l)] = true := noList_blk (.code t (some l))
          have one : DK K L c H2 [some (.ref L), some (.ref a), some (.ref D), some (.ref b), some (.str (S (firstW l))), a5] (tOp (fun x y H Q => ∃ i j, x = V.str i ∧ y = V.str j ∧ i.length + j.length ≤ sizeLine ∧ Q (V.str (i ++ j)) H) (tVar 4) (tCall (sp__law_one K) [] E0 (tCons (tVar 0) (tCons (tLst (tCons (tC (V.str (Str.ofString " "))) (tCons (tC (V.str (Str.ofString "\tq"))) (tCons (tC (V.str (Str.ofString "\n"))) (tCons (tC (V.str (Str.ofString " <r> s"))) tNil))))) tNil)))) (fun d => ∃ u ∈ tailsI, d = .str (S (firstW l ++ u))) := fun H3 Q3 k3 w3 q3 => by
            refine ⟨_, rfl, _, rfl, (by show 4 ≤ sizeLine; decide), fun p3 np3 => ⟨L, p3, _, c, rfl, SqL.of upd_same, w3.ne np3, by simp, by show 4 < 1000000; decide, w3.new np3, fun H4 v k4 w4 hv => ?_⟩⟩
            obtain ⟨u, hu, rfl⟩ := tails_of v hv
            have hul := tails_len u hu
            refine ⟨_, _, rfl, rfl, by rw [S_len, S_len, sizeLine_eq]; omega, ?_⟩
            rw [S_app]
            exact q3 _ _ _ ((Keeps.new np3).trans k4) w4 (.str _) rfl ⟨u, hu, rfl⟩
          refine dk_cat (K := K) (L := L) (c := c) (G := H2) (dk_to (n := 2) (kv rfl du2 w2.lst (noList_blk (.code t (some l)))) (nat_is rfl) nl4 (Nat.le_of_ble_eq_true rfl)) (dk_tup (dks_cons one dks_nil) ?_) ?_ H2 _ (.refl _) w2 fun v5 H5 d5 k5 w5 hv5 n5 p5 => ?_
          · rintro _ ⟨_, _, rfl, _, rfl⟩; exact Nat.le_of_ble_eq_true rfl
          · rintro _ _ rfl ⟨_, _, rfl, _, rfl⟩; exact Nat.le_of_ble_eq_true rfl
          obtain ⟨_, rfl, _, _, rfl, rfl, _, _, rfl, ⟨u, hu, rfl⟩, rfl⟩ := p5
          have k15 : Keeps L H1 H5 := (Keeps.of s2).trans k5
          have hD5 := k15 _ _ nDL hD
          exact ⟨_, rfl, .inl ⟨rfl, _, SqL.of hD5⟩, _, rfl, D, vs, _, rfl, rfl, hD5, lvs, fin _ H5 (.code t (some (firstW l ++ u))) k15 w5 hv5 (.code hys1.2 hu) _ _ _⟩
    · rintro σ' H1 ⟨a3, a4, a5, rfl, k1, w1, ys, vs, hD, dps, pw⟩
      rw [la, List.take_length] at pw
      refine ⟨_, rfl, D, vs, rfl, .inl ⟨SqL.of hD, fun r nr => ?_⟩⟩
      exact q _ _ ys (k1.trans (.new nr)) (w1.new nr) (.tup (SqT.of upd_same) (dpAll_same (same_new nr) dps)) pw.sam
theorem info_ok {P : Program} {w : World} {K : PySem.W.Frag} {mg : Str → Option Value} {base : Heap} (T : Txt w K mg) : ∀ n, FnOk P w K mg base CX0 (6 + n) T.a__law_informed T.d__law_informed ["_law_well_here", "_law_blocks_here"] (sp__law_informed K n)
  | 0 => fnOk_none fun vs H Q E h => by
    obtain ⟨_, _, bs, _, _, _, _, _, _, _, hd, _⟩ := h
    exact Nat.not_lt_zero _ hd
  | n + 1 => ok__law_informed T n (info_ok T n)

/-! ### the law: 0 _law_script, 1 _law_cell, 2 _law_well_here, 3 _law_turn, 4 _law_tree, 5 _law_other, 6 _law_due, 7 _law_text, 8 _law_more, 9 _law_soft -/
theorem kb_page {K : PySem.W.Frag} {mg : Str → Option Value} (T : Txt w K mg) : KBinds K T.d_page ["tree"] ["tree"] (fun us ws => us ++ ws) (fun vs zs => vs ++ zs) := kbinds_one T.f_page (fun _ _ _ _ _ _ _ => rfl) (fun _ _ _ _ _ _ _ => rfl)
def sp_law (K : PySem.W.Frag) : Sp := fun vs H Q _ => ∃ (a : Addr) (ns : List Int), vs = [.ref a] ∧ SqL K H a (ns.map V.int) ∧ ns.length ≤ 63 ∧ ∀ H', Q (.bl true) H'
theorem cut_script (ns : List Int) (k : Nat) (h : (ns.map V.int).length ≤ 1000) : cutV (ns.map V.int) none (some (k : Int)) ++ [V.int 0] = (ns.take k ++ [0]).map V.int ∧ (cutV (ns.map V.int) none (some (k : Int))).length + 1 ≤ sizeLine := by
  constructor
  · unfold cutV
    rw [HT.sIx_none, HT.sIx_nat, List.drop_zero, Nat.sub_zero, List.map_append, List.map_take]
    have e8 : (ns.map V.int).take (min k (ns.map V.int).length) = (ns.map V.int).take k := by
      by_cases h8 : k ≤ (ns.map V.int).length
      · rw [Nat.min_eq_left h8]
      · rw [Nat.min_eq_right (by omega), List.take_length, List.take_of_length_le (by omega)]
    rw [e8]
    rfl
  · have := cutV_length (ns.map V.int) none (some (k : Int))
    rw [sizeLine_eq]
    omega
structure OkD (bs : List Blk) : Prop where
  g : gBs bs = true
  s : sBs bs = true
  p : pBs bs ≤ 900
  h : hBs bs ≤ 50
theorem OkD.app {a b : List Blk} (x : OkD a) (y : OkD b) (n : pBs a + pBs b ≤ 900) : OkD (a ++ b) := ⟨by rw [gBs_app, x.g, y.g]; rfl, by rw [sBs_app, x.s, y.s]; rfl, by rw [pBs_app]; exact n, by
  have := x.h
  have := y.h
  rw [hBs_app]
  omega⟩
theorem OkD.len {bs : List Blk} (o : OkD bs) : (bsP bs).length ≤ 2700000 := by
  have := bsP_len bs o.s
  have := o.p
  omega
theorem dr_same {K : PySem.W.Frag} {G H : Hp} {σ : L2.St} {te : TE} {d : PyData} (s : Same G H) (h : DR K G σ te d) : DR K H σ te d := fun H1 Q s1 q => h H1 Q (s.trans s1) q
theorem sr_same {G H : Hp} {σ : L2.St} {te : TE} {l : List Nat} (s : Same G H) (h : SR G σ te l) : SR H σ te l := fun n H1 Q s1 q => h n H1 Q (s.trans s1) q
theorem ne_sr {G : Hp} {σ : L2.St} {ta tb : TE} {l : List Nat} (h : SR G σ ta l) (g : SR G σ tb l) (n : l.length ≤ 16000000) : AnsS (tTest (tOp rNe ta tb)) σ G (fun b => b = false) := fun Q q => h n G _ same_refl fun H1 s1 => g n H1 _ s1 fun H2 s2 => ⟨rfl, _, rfl, q _ H2 (s1.trans s2) (by simp)⟩
theorem ans_or {σ : L2.St} {H : Hp} {c u : TT} (h : AnsS c σ H (fun x => x = false)) (g : ∀ H', Same H H' → AnsS u σ H' (fun x => x = false)) : AnsS (tOr c u) σ H (fun x => x = false) := fun Q q => h _ fun x H' s e => by
  subst e
  exact iteF (g H' s _ fun y H2 s2 e2 => q y H2 (s.trans s2) e2)
theorem if_gS {σ : L2.St} {H : Hp} {c : TT} {a u : TS} {D : Ends} {i : Nat} {x : V} (τ : L2.St) (e : σ.set i (some x) = τ) (hc : AnsS c τ H (fun x => x = false)) (hf : ∀ H', Same H H' → u D τ H') : gName i x σ H (tSeq (tIfS c a tNext) u D) := by
  subst e
  exact hc _ fun b H' s e => by
    subst e
    exact iteF (hf H' s)
theorem if_K {L : Addr} {c : Int} {t : TT} {a u : TS} {D : Ends} {σ : L2.St} {H : Hp} (hc : AnsK L c t σ H (fun b => b = false)) (hf : ∀ H', Keeps L H H' → WellC c H' L → u D σ H') : tSeq (tIfS t a tNext) u D σ H := hc _ fun b H' k w e => by
  subst e
  exact iteF (hf H' k w)
theorem if_KL {L : Addr} {c : Int} {t : TT} {a : TS} {D : Ends} {σ : L2.St} {H : Hp} (hc : AnsK L c t σ H (fun b => b = false)) (hf : ∀ H', Keeps L H H' → WellC c H' L → D.nx σ H') : tIfS t a tNext D σ H := hc _ fun b H' k w e => by
  subst e
  exact iteF (hf H' k w)
theorem if_L {σ : L2.St} {H : Hp} {c : TT} {a : TS} {D : Ends} (hc : AnsS c σ H (fun x => x = false)) (hf : ∀ H', Same H H' → D.nx σ H') : tIfS c a tNext D σ H := hc _ fun b H' s e => by
  subst e
  exact iteF (hf H' s)
theorem if_gL {σ : L2.St} {H : Hp} {c : TT} {a : TS} {D : Ends} {i : Nat} {x : V} (τ : L2.St) (e : σ.set i (some x) = τ) (hc : AnsS c τ H (fun x => x = false)) (hf : ∀ H', Same H H' → D.nx τ H') : gName i x σ H (tIfS c a tNext D) := by
  subst e
  exact if_L hc hf
theorem asg_dr {K : PySem.W.Frag} {σ : L2.St} {te : TE} {d : PyData} {g : TG} {u : TS} {D : Ends} {H : Hp} (h : DR K H σ te d) (hq : ∀ v H', Same H H' → Dp K H' v d → g v σ H' (u D)) : tSeq (tAsg te g) u D σ H := h H _ same_refl hq
theorem dr_sr {K : PySem.W.Frag} {G : Hp} {σ : L2.St} {te : TE} {l : List Nat} (h : SR G σ te l) (n : l.length ≤ 16000000) : DR K G σ te (.str (S l)) := fun H Q s q => h n H _ s fun H1 s1 => q _ H1 s1 (.str _)
theorem okD_soft {t m : List Nat} (gt : Good 3 t) (gm : Good 3 m) : OkD [.par [.text t, .soft, .text m]] := by
  have e1 := gtext gt
  have e2 := gtext gm
  refine ⟨?_, ?_, Nat.le_of_ble_eq_true rfl, Nat.le_of_ble_eq_true rfl⟩
  · show ((true && ((gTxt t && !t.isEmpty) && !(false && true) && (true && !(true && false) && ((gTxt m && !m.isEmpty) && !(false && true) && true)))) && true) = true
    rw [e1, e2]
    rfl
  · show ((decide (t.length ≤ 20) && (true && (decide (m.length ≤ 20) && true))) && true) = true
    rw [decide_eq_true (Nat.le_trans gt.2.2 (by decide) : t.length ≤ 20), decide_eq_true (Nat.le_trans gm.2.2 (by decide) : m.length ≤ 20)]
    rfl
theorem okD_nl {t m : List Nat} (gt : Good 3 t) (gm : Good 3 m) : OkD [.par [.text (t ++ [10] ++ m)]] := by
  have h : gTxt (t ++ [10] ++ m) = true := by
    show (t ++ [10] ++ m).all _ = true
    rw [List.all_append, List.all_append, show t.all _ = true from gt.1, show m.all _ = true from gm.1]
    decide +kernel
  have hl : (t ++ [10] ++ m).length ≤ 20 := by
    have := gt.2.2
    have := gm.2.2
    rw [List.length_append, List.length_append]
    show _ + 1 + _ ≤ _
    omega
  have he : (t ++ [10] ++ m).isEmpty = false := by
    cases t with
    | nil => rfl
    | cons _ _ => rfl
  refine ⟨?_, ?_, Nat.le_of_ble_eq_true rfl, Nat.le_of_ble_eq_true rfl⟩
  · show ((true && ((gTxt (t ++ [10] ++ m) && !(t ++ [10] ++ m).isEmpty) && !(false && true) && true)) && true) = true
    rw [h, he]
    rfl
  · show ((decide ((t ++ [10] ++ m).length ≤ 20) && true) && true) = true
    rw [decide_eq_true hl]
    rfl
theorem sr_page {K : PySem.W.Frag} {C : Addr} {G : Hp} {σ : L2.St} {te : TE} {bs : List Blk} (h : DR K G σ te (.tuple (blksD bs))) (o : OkD bs) : SR G σ (tCall (sp_page K C) [] E0 (tCons te tNil)) (bsP bs) := fun _ H Q s q => by
  obtain ⟨f1, f2, f3, f4⟩ := doc_ok o.g o.s o.p o.h
  exact h H _ s fun v H1 s1 hv => ⟨v, _, rfl, .inl hv, (fun _ => f1), f2, f3, .inl ⟨f4, bs, rfl, o.s, o.p, fun H2 s2 => q H2 (s1.trans s2)⟩⟩
theorem ok_law {P : Program} {w : World} {K : PySem.W.Frag} {mg : Str → Option Value} {base : Heap} {f : Addr} {fd : FuncData} (T : Txt w K mg) (Z : ZT P K mg) (F : Fun K "law" "law" s_law f fd) : FnOk P w K mg base CX0 40 f fd ["_law_script"] (sp_law K) := by
  refine F.ok sc_law (fun vs H Q E h => ?_) (fun cdv A outer s H vs Q E hr h => ?_)
  · obtain ⟨a, ns, rfl, _⟩ := h
    rfl
  · obtain ⟨a, ns, rfl, hS, hlen, q⟩ := h
    refine ⟨_, (pss_cons (ps_for PassesOwn.never rfl (pi_list (pe_op op_cat (pe_slice sl_list (pv 0) po_none (po_some pe_int)) (pe_lst (pa_cons pe_int pa_nil)))) (pg_name (i := 1) sc_law.nd rfl (.inl rfl)) (pss_cons (ps_set (i := 2) sc_law.nd rfl (.inl rfl) (pe_call (ok__law_well T) (hr.mono (by decide)) (by rfl) T.g__law_well T.f__law_well.kp T.b__law_well .nil pass0 (pa_cons (pv 1) pa_nil)))
        (pss_cons (ps_for PassesOwn.never rfl (pi_range1 (by rfl) T.z_range (pa_cons pe_int pa_nil)) (pg_name (i := 3) sc_law.nd rfl (.inl rfl)) (pss_cons (ps_asg pe_int (pg_sub (pv 2) pe_int set_list))
        (pss_cons (ps_par (i := 4) (j := 5) (by rfl) sc_law.nd rfl rfl (by decide) rfl rfl (pa_cons (pe_call (blocks_ok T 4 (by decide)) (hr.mono (by decide)) (by rfl) T.g__law_blocks T.f__law_blocks.kp T.b__law_blocks .nil pass0 (pa_cons (pv 2) (pa_cons pe_int (pa_cons pe_bl pa_nil)))) (pa_cons (pe_call (blocks_ok T 4 (by decide)) (hr.mono (by decide)) (by rfl) T.g__law_blocks T.f__law_blocks.kp T.b__law_blocks .nil pass0 (pa_cons (pv 2) (pa_cons pe_int (pa_cons pe_bl pa_nil)))) pa_nil)) (by rfl))
        (pss_cons (ps_set (i := 6) sc_law.nd rfl (.inl rfl) (pe_call (ok_page T Z) (hr.mono (by decide)) (by rfl) T.g_page T.f_page.kp T.b_page .nil passL (pa_cons (pv 4) pa_nil)))
        (pss_cons (ps_if (PW.pt (pw_or (pt_cmpR op_ne (pe_call (ok_page T Z) (hr.mono (by decide)) (by rfl) T.g_page T.f_page.kp T.b_page .nil passL (pa_cons (pe_op op_catA (pv 4) (pv 5)) pa_nil)) (pe_op op_add_str (pv 6) (pe_call (ok_page T Z) (hr.mono (by decide)) (by rfl) T.g_page T.f_page.kp T.b_page .nil passL (pa_cons (pv 5) pa_nil))) (nomark _)) (pw_or1 (pt_cmpR op_ne (pe_call (ok_page T Z) (hr.mono (by decide)) (by rfl) T.g_page T.f_page.kp T.b_page .nil passL (pa_cons (pe_op op_catA (pv 5) (pv 4)) pa_nil)) (pe_op op_add_str (pe_call (ok_page T Z) (hr.mono (by decide)) (by rfl) T.g_page T.f_page.kp T.b_page .nil passL (pa_cons (pv 5) pa_nil)) (pv 6)) (nomark _))))) (pss_one (ps_ret pe_bl)) pss_nil)
        (pss_cons (ps_if (PW.pt (pw_or (pt_not (pt_val (pe_call (ok__law_closed T) (hr.mono (by decide)) (by rfl) T.g__law_closed T.f__law_closed.kp T.b__law_closed .nil pass0 (pa_cons (pv 6) pa_nil)))) (pw_or1 (pt_cmpR op_ne (pe_call (ok_page T Z) (hr.mono (by decide)) (by rfl) T.g_page T.f_page.kp T.b_page .nil passL (pa_cons (pe_call (defd_ok T 8) (hr.mono (by decide)) (by rfl) T.g__law_defined T.f__law_defined.kp T.b__law_defined .nil pass0 (pa_cons (pv 2) (pa_cons (pv 4) pa_nil))) pa_nil)) (pv 6) (nomark _))))) (pss_one (ps_ret pe_bl)) pss_nil)
        (pss_one (ps_if (pt_cmpR op_ne (pe_call (ok_page T Z) (hr.mono (by decide)) (by rfl) T.g_page T.f_page.kp T.b_page .nil passL (pa_cons (pe_call (info_ok T 8) (hr.mono (by decide)) (by rfl) T.g__law_informed T.f__law_informed.kp T.b__law_informed .nil pass0 (pa_cons (pv 2) (pa_cons (pv 4) pa_nil))) pa_nil)) (pv 6) (nomark _)) (pss_one (ps_ret pe_bl)) pss_nil))))))))
        (pss_cons (ps_par (i := 7) (j := 8) (by rfl) sc_law.nd rfl rfl (by decide) rfl rfl (pa_cons (pe_call (ok__law_string T) (hr.mono (by decide)) (by rfl) T.g__law_string T.f__law_string.kp T.b__law_string .nil pass0 (pa_cons (pv 2) (pa_cons pe_int pa_nil))) (pa_cons (pe_call (ok__law_string T) (hr.mono (by decide)) (by rfl) T.g__law_string T.f__law_string.kp T.b__law_string .nil pass0 (pa_cons (pv 2) (pa_cons pe_int pa_nil))) pa_nil)) (by rfl))
        (pss_cons (ps_set (i := 9) sc_law.nd rfl (.inl rfl) (pe_tup (pa_cons (pe_tup (pa_cons pe_str (pa_cons (pe_tup (pa_cons (pe_tup (pa_cons pe_str (pa_cons (pv 7) pa_nil))) (pa_cons (pe_tup (pa_cons pe_str pa_nil)) (pa_cons (pe_tup (pa_cons pe_str (pa_cons (pv 8) pa_nil))) pa_nil)))) pa_nil))) pa_nil)))
        (pss_one (ps_if (pt_cmpR op_ne (pe_call (ok_page T Z) (hr.mono (by decide)) (by rfl) T.g_page T.f_page.kp T.b_page .nil passL (pa_cons (pv 9) pa_nil)) (pe_call (ok_page T Z) (hr.mono (by decide)) (by rfl) T.g_page T.f_page.kp T.b_page .nil passL (pa_cons (pe_tup (pa_cons (pe_tup (pa_cons pe_str (pa_cons (pe_tup (pa_cons (pe_tup (pa_cons pe_str (pa_cons (pe_op op_add_str (pe_op op_add_str (pv 7) pe_str) (pv 8)) pa_nil))) pa_nil)) pa_nil))) pa_nil)) pa_nil)) (nomark _)) (pss_one (ps_ret pe_bl)) pss_nil)))))))
        (pss_one (ps_ret (pe_cmpR op_eq (pe_call (ok_page T Z) (hr.mono (by decide)) (by rfl) T.g_page T.f_page.kp T.b_page .nil passL (pa_cons (pe_tup pa_nil) pa_nil)) pe_str (nomark _))))), ?_⟩
    obtain ⟨ec, el⟩ := cut_script ns 4 (by rw [List.length_map]; omega)
    refine ⟨_, rfl, _, rfl, a, _, rfl, hS, fun p np => ⟨by show 1 ≤ sizeLine; decide, fun p2 np2 => ⟨p, p2, _, _, rfl, rfl, by rw [upd_ne (ne_of_none upd_same np2)]; exact upd_same, upd_same, el, fun p3 np3 => ?_⟩⟩⟩
    rw [ec]
    have h3 : (upd (upd (upd H p (.lst (cutV (ns.map V.int) none (some (4 : Nat))))) p2 (.lst [V.int 0])) p3 (.lst ((ns.take 4 ++ [0]).map V.int))) p3 = some (.lst ((ns.take 4 ++ [0]).map V.int)) := upd_same
    generalize upd (upd (upd H p (.lst (cutV (ns.map V.int) none (some (4 : Nat))))) p2 (.lst [V.int 0])) p3 (.lst ((ns.take 4 ++ [0]).map V.int)) = H0 at h3 ⊢
    generalize ns.take 4 ++ [0] = ms at h3 ⊢
    refine ⟨p3, rfl, ⟨_, SqL.of h3⟩, for_list (K := K) (a := p3) (xs := ms.map V.int) (fun i σ H' => (∃ (v1 v2 v3 v4 v5 v6 v7 v8 v9 : Option V), σ = [some (.ref a), v1, v2, v3, v4, v5, v6, v7, v8, v9]) ∧ H' p3 = some (.lst (ms.map V.int))) ⟨⟨_, _, _, _, _, _, _, _, _, rfl⟩, h3⟩ (fun i σ H' _ h => SqL.of h.2) ?_ ?_⟩
    · rintro i x σ H' hi ⟨⟨v1, v2, v3, v4, v5, v6, v7, v8, v9, rfl⟩, hp⟩
      obtain ⟨z, hz, rfl⟩ : ∃ z, ms[i]? = some z ∧ x = V.int z := by
        rw [List.getElem?_map] at hi
        cases e : ms[i]? with
        | none => rw [e] at hi; cases hi
        | some z => rw [e] at hi; exact ⟨z, rfl, (Option.some.inj hi).symm⟩
      refine ⟨_, rfl, z, rfl, fun L nL => ?_⟩
      have hpL : p3 ≠ L := ne_of_none hp nL
      refine ⟨3, rfl, by decide, by decide, for_range (lo := 0) (n := 3) (fun j σ H2 => (∃ (v3 v4 v5 v6 v7 v8 v9 : Option V), σ = [some (.ref a), some (.int z), some (.ref L), v3, v4, v5, v6, v7, v8, v9]) ∧ H2 p3 = some (.lst (ms.map V.int)) ∧ ∃ c, WellC c H2 L) ⟨⟨_, _, _, _, _, _, _, rfl⟩, by rw [upd_ne hpL]; exact hp, 200, ⟨_, _, upd_same⟩⟩ ?_ ?_⟩
      · rintro j σ H2 hj ⟨⟨w3, w4, w5, w6, w7, w8, w9, rfl⟩, hp2, c2, ⟨x0, y0, hL⟩⟩
        refine ⟨_, rfl, L, _, _, 2, rfl, rfl, hL, rfl, ?_⟩
        have hp3 : (upd H2 L (.lst ([V.int x0, V.int y0, V.int c2].set 2 (.int 200)))) p3 = some (.lst (ms.map V.int)) := by rw [upd_ne hpL]; exact hp2
        have wL : WellC 200 (upd H2 L (.lst ([V.int x0, V.int y0, V.int c2].set 2 (.int 200)))) L := ⟨_, _, upd_same⟩
        generalize (upd H2 L (.lst ([V.int x0, V.int y0, V.int c2].set 2 (.int 200)))) = H3 at hp3 wL ⊢
        refine ⟨_, rfl, L, _, 3, false, 200, rfl, rfl, by decide, by decide, wL, fun H4 u bs c4 k4 w4 hu hg hpb hlo => ?_⟩
        refine ⟨_, rfl, L, _, 2, false, c4, rfl, rfl, by decide, by omega, w4, fun H5 u2 os c5 k5 w5 hu2 hg2 hpb2 hlo2 => ⟨u, u2, rfl, ?_⟩⟩
        have hu5 : Dp K H5 u (.tuple (blksD bs)) := dp_keep (d := .tuple (blksD bs)) k5 w4.lst (noList_blks bs) hu
        have h6 := hg.d
        have h7 := hg2.d
        have ot : OkD bs := ⟨hg.g, hg.s, by omega, by omega⟩
        have oo : OkD os := ⟨hg2.g, hg2.s, by omega, by omega⟩
        have o1 : OkD (bs ++ os) := ot.app oo (by omega)
        have o2 : OkD (os ++ bs) := oo.app ot (by omega)
        have lt := ot.len
        have lo := oo.len
        have l1 := o1.len
        have l2 := o2.len
        have lb := len_pBs bs
        have lbo := len_pBs os
        dsimp only
        refine asg_sr (l := bsP bs) (by omega) (sr_page (dr_var rfl hu5) ot) fun H6 s6 => ?_
        have hu6 := dp_same s6 hu5
        have hv6 := dp_same s6 hu2
        refine if_gS [some (.ref a), some (.int z), some (.ref L), some (.int (0 + (j : Int))), some u, some u2, some (.str (S (bsP bs))), w7, w8, w9] rfl (ans_or (ne_sr (l := bsP (bs ++ os)) (sr_page ?_ o1) ?_ (by omega)) fun H7 s7 => ne_sr (l := bsP (os ++ bs)) (sr_page ?_ o2) ?_ (by omega)) fun H7 s7 => ?_
        · rw [blksD_app]
          exact dr_catA (dr_var rfl hu6) (dr_var rfl hv6) (by rw [blksD_len, blksD_len]; have := ot.p; have := oo.p; omega)
        · rw [bsP_app]
          exact sr_add (sr_var rfl) (sr_page (dr_var rfl hv6) oo)
        · rw [blksD_app]
          exact dr_catA (dr_var rfl (dp_same s7 hv6)) (dr_var rfl (dp_same s7 hu6)) (by rw [blksD_len, blksD_len]; have := ot.p; have := oo.p; omega)
        · rw [bsP_app]
          exact sr_add (sr_page (dr_var rfl (dp_same s7 hv6)) oo) (sr_var rfl)
        have hu7 := dp_same s7 hu6
        have w7' := w5.same (s6.trans s7)
        refine if_K (L := L) (c := c5) (fun Qb qb => ?_) fun H8 k8 w8' => ?_
        · refine ⟨_, rfl, bsP bs, rfl, by omega, CL.bal_Bs bs (hg.n rfl) hg.g hg.s, fun H8 s8 => ⟨_, rfl, iteF ?_⟩⟩
          refine ⟨_, rfl, _, rfl, L, u, bs, c5, rfl, w7'.same s8, dp_same s8 hu7, hg.g, hg.s, ot.p, by omega, fun H9 v9 bs' k9 w9' hv9 sam => ?_⟩
          obtain ⟨f1, f2, f3, f4⟩ := doc_ok (sam.g hg.g) (sam.s hg.s) (by have := sam.p; omega) (by have := sam.h; omega)
          refine ⟨v9, _, rfl, .inl hv9, (fun _ => f1), f2, f3, .inl ⟨f4, bs', rfl, sam.s hg.s, by have := sam.p; omega, fun H10 s10 => ⟨_, rfl, rfl, _, rfl, qb _ _ ((Keeps.of s8).trans (k9.trans (.of s10))) (w9'.same s10) ?_⟩⟩⟩
          rw [sam.P]
          simp
        have hu8 : Dp K H8 u (.tuple (blksD bs)) := dp_keep (d := .tuple (blksD bs)) k8 w7'.lst (noList_blks bs) hu7
        refine if_KL (L := L) (c := c5) (fun Qb qb => ?_) fun H11 k11 w11 => ?_
        · refine ⟨_, rfl, _, rfl, L, u, bs, c5, rfl, w8', hu8, hg.g, hg.s, ot.p, by omega, fun H9 v9 bs' k9 w9' hv9 sam => ?_⟩
          obtain ⟨f1, f2, f3, f4⟩ := doc_ok (sam.g hg.g) (sam.s hg.s) (by have := sam.p; omega) (by have := sam.h; omega)
          refine ⟨v9, _, rfl, .inl hv9, (fun _ => f1), f2, f3, .inl ⟨f4, bs', rfl, sam.s hg.s, by have := sam.p; omega, fun H10 s10 => ⟨_, rfl, rfl, _, rfl, qb _ _ (k9.trans (.of s10)) (w9'.same s10) ?_⟩⟩⟩
          rw [sam.P]
          simp
        exact ⟨⟨_, _, _, _, _, _, _, rfl⟩, k11 _ _ hpL (k8 _ _ hpL ((s6.trans s7) _ _ (k5 _ _ hpL (k4 _ _ hpL hp3)))), _, w11⟩
      · rintro σ H2 ⟨⟨w3, w4, w5, w6, w7, w8, w9, rfl⟩, hp2, c2, wL⟩
        refine ⟨_, rfl, L, 3, c2, rfl, by decide, by decide, wL, fun H3 t k3 w3' gt => ⟨_, rfl, L, 3, c2, rfl, by decide, by decide, w3', fun H4 m k4 w4' gm => ⟨_, _, rfl, ?_⟩⟩⟩
        have od1 := okD_soft gt gm
        have od2 := okD_nl gt gm
        have l1 := od1.len
        dsimp only
        refine asg_dr (K := K) (d := .tuple (blksD [.par [.text t, .soft, .text m]])) (dr_tup (drs_cons (dr_tup (drs_cons dr_str (drs_cons (dr_tup (drs_cons (dr_tup (drs_cons dr_str (drs_cons (dr_var rfl (.str _)) drs_nil)) (Nat.le_of_ble_eq_true rfl)) (drs_cons (dr_tup (drs_cons dr_str drs_nil) (Nat.le_of_ble_eq_true rfl)) (drs_cons (dr_tup (drs_cons dr_str (drs_cons (dr_var rfl (.str _)) drs_nil)) (Nat.le_of_ble_eq_true rfl)) drs_nil))) (Nat.le_of_ble_eq_true rfl)) drs_nil)) (Nat.le_of_ble_eq_true rfl)) drs_nil) (Nat.le_of_ble_eq_true rfl)) fun v H5 s5 hv => ?_
        refine if_gL [some (.ref a), some (.int z), some (.ref L), w3, w4, w5, w6, some (.str (S t)), some (.str (S m)), some v] rfl (ne_sr (sr_page (dr_var rfl hv) od1) ?_ (by omega)) fun H6 s6 => ?_
        · rw [FM.soft_page]
          refine sr_page (dr_tup (drs_cons (dr_tup (drs_cons dr_str (drs_cons (dr_tup (drs_cons (dr_tup (drs_cons dr_str (drs_cons (dr_sr (SR.eq (sr_add (sr_add (sr_var rfl) sr_lit) (sr_var rfl)) (by rw [show cs "\n" = [10] by decide +kernel])) ?_) drs_nil)) (Nat.le_of_ble_eq_true rfl)) drs_nil) (Nat.le_of_ble_eq_true rfl)) drs_nil)) (Nat.le_of_ble_eq_true rfl)) drs_nil) (Nat.le_of_ble_eq_true rfl)) od2
          have := gt.2.2
          have := gm.2.2
          rw [List.length_append, List.length_append]
          show _ + 1 + _ ≤ _
          omega
        exact ⟨⟨_, _, _, _, _, _, _, _, _, rfl⟩, (s5.trans s6) _ _ (k4 _ _ hpL (k3 _ _ hpL hp2))⟩
    · rintro σ H2 ⟨⟨v1, v2, v3, v4, v5, v6, v7, v8, v9, rfl⟩, hp2⟩
      refine sr_page (bs := []) (dr_tup drs_nil (by decide)) ⟨rfl, rfl, by decide, by decide⟩ (by decide) H2 _ same_refl fun H3 s3 => ⟨rfl, ?_⟩
      rw [show (decide (V.str (S (bsP [])) = V.str ("" : Str))) = true by decide +kernel]
      exact q _

def clsBody (s : Stmt) : List Stmt := match s with
  | .ClassDef (body := b) .. => b
  | _ => []
abbrev i_NoTree : Stmt := (clsBody (topS 2)).getD 0 (.Pass ⟨0, 0, 0, 0⟩)
theorem cls_NoTree {P : Program} {K : PySem.W.Frag} {C f cc cda : Addr} {nm qn : Str} {Nn : Addr} {bs bm : List Value} {sn : List Str} {sub : List Value} {ab : Bool} {col : Option Bool} {dd : Option Addr} {k0 k1 k2 k3 k5 : Option Value} {kV doc pm ct oc ccl cl : Value} {an od cdd cld : Option Addr} {osl ccs csl : Array (Option Value)} {vs : Array Value} {file : Str} {tf : Tok}
    (h1 : K.lookup C = some (excClassObj nm qn C Nn bs bm true sn sub ab col dd k0 k1 k2 k3 k5 "ValueError.__new__")) (h2 : PySem.HandSPX.refsVE bm = true) (h3 : PySem.W.findIn K (.ref C) "__setattr__" = some (some (.builtin "object.__setattr__")))
    (h4 : PySem.W.subIn K (.ref C) (.type "BaseException") = some true) (h5 : PySem.W.typeIn K (.ref C) = some (.type "type")) (h6 : PySem.W.keepIn K (.ref C) = true) (h7 : PySem.W.findIn K (.ref C) "__init__" = some (some (.ref f))) (h8 : PySem.W.typeIn K (.ref f) = some (.type "function"))
    (h9 : K.lookup f = some ⟨oc, od, .func (PySem.W.ksFn "__init__" "NoTree.__init__" (defArgs i_NoTree) (defBody i_NoTree) (defScope i_NoTree) .none kV doc pm an (.ref cda) ct cc), osl⟩) (h10 : PySem.W.codeIn K (.ref cda) "NoTree.__init__" = true) (h11 : K.lookup cda = some ⟨ccl, cdd, .fields vs, ccs⟩) (h12 : vs[2]? = some (.str file tf)) (h13 : ((P.main.file : Str) == file) = true)
    (h14 : K.lookup cc = some ⟨cl, cld, .cell (some (.ref C)), csl⟩) (h15 : PySem.W.mroIn K C (.ref C) = some true) (h16 : PySem.W.nsIn K cStatics "thirdparty.any" = some none) (h17 : PySem.W.ks_superIn K C C "__init__" = some (some (.builtin "ValueError.__init__")))
    (h18 : PySem.W.subIn K (.ref C) (.type "ValueError") = some true) (h19 : (P.main.scope.names.lookup ("super" : Str)).isSome = false)
    : ClsI K C f ∧ InitOne P K C f (PySem.W.ksFn "__init__" "NoTree.__init__" (defArgs i_NoTree) (defBody i_NoTree) (defScope i_NoTree) .none kV doc pm an (.ref cda) ct cc) "self" := by
  have X : OexC K C := ⟨⟨_, _, _, _, _, _, _, _, _, _, _, _, _, _, _, h1, h2⟩, h3, h4, h5, h6⟩
  refine ⟨⟨X, h7, h8⟩, fun w A s mg mb e t0 args R a1 a2 a3 a4 a5 a6 a7 a8 a9 a10 a11 q => ?_⟩
  have E : XI.ECls P K C f cc cda _ "NoTree.__init__" (defScope i_NoTree) (defBody i_NoTree) (PySem.W.ksFn "__init__" "NoTree.__init__" (defArgs i_NoTree) (defBody i_NoTree) (defScope i_NoTree) .none kV doc pm an (.ref cda) ct cc) := ⟨X, ⟨_, _, _, h9⟩, rfl, ⟨_, _, _, _, _, _, h11, h12, h13⟩, ⟨_, _, _, h14⟩, h15, h19, h16, h17, h18⟩
  exact XI.init_one E rfl a1 a2 a3 a4 a5 a6 a7 a8 rfl rfl rfl rfl (by decide) rfl rfl rfl h10 a10 (fun _ => rfl) (fun _ => rfl) (fun _ => ⟨_, rfl⟩) a11 q
theorem exm_one {K : PySem.W.Frag} {C : Addr} (a : PySem.W.subIn K (.ref C) (.type "BaseException") = some true) (b : PySem.W.isClsIn K C = true) (c : PySem.W.typeIn K (.ref C) = some (.type "type")) (d : PySem.W.subIn K (.ref C) (.ref C) = some true) : PySem.W.exmOne K (.ref C) (.ref C) = some true := by
  have b1 : (PySem.W.clsIn K C).isSome = true := b
  unfold PySem.W.exmOne PySem.W.kitCls
  simp [a, b1, c, d]
set_option maxHeartbeats 4000000 in
theorem all_mk {l : PySem.W.OpenLaw} {w : World} {K : PySem.W.Frag} {h : Heap} {mg : Str → Option Value} {fa : Addr} (X : K.In h) (G : h.Ns mainGlobals mg) (hfa : mg "law" = some (.ref fa))
    {f0 : Addr} {od0 an0 : Option Addr} {sl0 : Array (Option Value)} {oc0 kV0 dc0 pm0 cd0 ct0 : Value}
    (a0 : PySem.W.nsIn K mainGlobals "is_escape" = some (some (.ref f0))) (l0 : K.lookup f0 = some ⟨oc0, od0, .func (PySem.W.fnOf "is_escape" "is_escape" (defArgs s_is_escape) (defBody s_is_escape) (defScope s_is_escape) .none kV0 dc0 pm0 an0 cd0 ct0), sl0⟩) (c0 : PySem.W.codeIn K cd0 "is_escape" = true) (k0 : PySem.W.keepIn K (.ref f0) = true)
    {f1 : Addr} {od1 an1 : Option Addr} {sl1 : Array (Option Value)} {oc1 kV1 dc1 pm1 cd1 ct1 : Value}
    (a1 : PySem.W.nsIn K mainGlobals "first_plain" = some (some (.ref f1))) (l1 : K.lookup f1 = some ⟨oc1, od1, .func (PySem.W.fnOf "first_plain" "first_plain" (defArgs s_first_plain) (defBody s_first_plain) (defScope s_first_plain) .none kV1 dc1 pm1 an1 cd1 ct1), sl1⟩) (c1 : PySem.W.codeIn K cd1 "first_plain" = true) (k1 : PySem.W.keepIn K (.ref f1) = true)
    {f2 : Addr} {od2 an2 : Option Addr} {sl2 : Array (Option Value)} {oc2 kV2 dc2 pm2 cd2 ct2 : Value}
    (a2 : PySem.W.nsIn K mainGlobals "rows_in_block" = some (some (.ref f2))) (l2 : K.lookup f2 = some ⟨oc2, od2, .func (PySem.W.fnOf "rows_in_block" "rows_in_block" (defArgs s_rows_in_block) (defBody s_rows_in_block) (defScope s_rows_in_block) .none kV2 dc2 pm2 an2 cd2 ct2), sl2⟩) (c2 : PySem.W.codeIn K cd2 "rows_in_block" = true) (k2 : PySem.W.keepIn K (.ref f2) = true)
    {f3 : Addr} {od3 an3 : Option Addr} {sl3 : Array (Option Value)} {oc3 kV3 dc3 pm3 cd3 ct3 : Value}
    (a3 : PySem.W.nsIn K mainGlobals "rows_in_inline" = some (some (.ref f3))) (l3 : K.lookup f3 = some ⟨oc3, od3, .func (PySem.W.fnOf "rows_in_inline" "rows_in_inline" (defArgs s_rows_in_inline) (defBody s_rows_in_inline) (defScope s_rows_in_inline) .none kV3 dc3 pm3 an3 cd3 ct3), sl3⟩) (c3 : PySem.W.codeIn K cd3 "rows_in_inline" = true) (k3 : PySem.W.keepIn K (.ref f3) = true)
    {f4 : Addr} {od4 an4 : Option Addr} {sl4 : Array (Option Value)} {oc4 kV4 dc4 pm4 cd4 ct4 : Value}
    (a4 : PySem.W.nsIn K mainGlobals "folded" = some (some (.ref f4))) (l4 : K.lookup f4 = some ⟨oc4, od4, .func (PySem.W.fnOf "folded" "folded" (defArgs s_folded) (defBody s_folded) (defScope s_folded) .none kV4 dc4 pm4 an4 cd4 ct4), sl4⟩) (c4 : PySem.W.codeIn K cd4 "folded" = true) (k4 : PySem.W.keepIn K (.ref f4) = true)
    {f5 : Addr} {od5 an5 : Option Addr} {sl5 : Array (Option Value)} {oc5 kV5 dc5 pm5 cd5 ct5 : Value}
    (a5 : PySem.W.nsIn K mainGlobals "is_label_text" = some (some (.ref f5))) (l5 : K.lookup f5 = some ⟨oc5, od5, .func (PySem.W.fnOf "is_label_text" "is_label_text" (defArgs s_is_label_text) (defBody s_is_label_text) (defScope s_is_label_text) .none kV5 dc5 pm5 an5 cd5 ct5), sl5⟩) (c5 : PySem.W.codeIn K cd5 "is_label_text" = true) (k5 : PySem.W.keepIn K (.ref f5) = true)
    {f6 : Addr} {od6 an6 : Option Addr} {sl6 : Array (Option Value)} {oc6 kV6 dc6 pm6 cd6 ct6 : Value}
    (a6 : PySem.W.nsIn K mainGlobals "is_label" = some (some (.ref f6))) (l6 : K.lookup f6 = some ⟨oc6, od6, .func (PySem.W.fnOf "is_label" "is_label" (defArgs s_is_label) (defBody s_is_label) (defScope s_is_label) .none kV6 dc6 pm6 an6 cd6 ct6), sl6⟩) (c6 : PySem.W.codeIn K cd6 "is_label" = true) (k6 : PySem.W.keepIn K (.ref f6) = true)
    {f7 : Addr} {od7 an7 : Option Addr} {sl7 : Array (Option Value)} {oc7 kV7 dc7 pm7 cd7 ct7 : Value}
    (a7 : PySem.W.nsIn K mainGlobals "label_at" = some (some (.ref f7))) (l7 : K.lookup f7 = some ⟨oc7, od7, .func (PySem.W.fnOf "label_at" "label_at" (defArgs s_label_at) (defBody s_label_at) (defScope s_label_at) .none kV7 dc7 pm7 an7 cd7 ct7), sl7⟩) (c7 : PySem.W.codeIn K cd7 "label_at" = true) (k7 : PySem.W.keepIn K (.ref f7) = true)
    {f8 : Addr} {od8 an8 : Option Addr} {sl8 : Array (Option Value)} {oc8 kV8 dc8 pm8 cd8 ct8 : Value}
    (a8 : PySem.W.nsIn K mainGlobals "is_integer_to" = some (some (.ref f8))) (l8 : K.lookup f8 = some ⟨oc8, od8, .func (PySem.W.fnOf "is_integer_to" "is_integer_to" (defArgs s_is_integer_to) (defBody s_is_integer_to) (defScope s_is_integer_to) .none kV8 dc8 pm8 an8 cd8 ct8), sl8⟩) (c8 : PySem.W.codeIn K cd8 "is_integer_to" = true) (k8 : PySem.W.keepIn K (.ref f8) = true)
    {f9 : Addr} {od9 an9 : Option Addr} {sl9 : Array (Option Value)} {oc9 kV9 dc9 pm9 cd9 ct9 : Value}
    (a9 : PySem.W.nsIn K mainGlobals "is_tree" = some (some (.ref f9))) (l9 : K.lookup f9 = some ⟨oc9, od9, .func (PySem.W.fnOf "is_tree" "is_tree" (defArgs s_is_tree) (defBody s_is_tree) (defScope s_is_tree) .none kV9 dc9 pm9 an9 cd9 ct9), sl9⟩) (c9 : PySem.W.codeIn K cd9 "is_tree" = true) (k9 : PySem.W.keepIn K (.ref f9) = true)
    {f10 : Addr} {od10 an10 : Option Addr} {sl10 : Array (Option Value)} {oc10 kV10 dc10 pm10 cd10 ct10 : Value}
    (a10 : PySem.W.nsIn K mainGlobals "rows_of_row" = some (some (.ref f10))) (l10 : K.lookup f10 = some ⟨oc10, od10, .func (PySem.W.fnOf "rows_of_row" "rows_of_row" (defArgs s_rows_of_row) (defBody s_rows_of_row) (defScope s_rows_of_row) .none kV10 dc10 pm10 an10 cd10 ct10), sl10⟩) (c10 : PySem.W.codeIn K cd10 "rows_of_row" = true) (k10 : PySem.W.keepIn K (.ref f10) = true)
    {f11 : Addr} {od11 an11 : Option Addr} {sl11 : Array (Option Value)} {oc11 kV11 dc11 pm11 cd11 ct11 : Value}
    (a11 : PySem.W.nsIn K mainGlobals "rows_of_one" = some (some (.ref f11))) (l11 : K.lookup f11 = some ⟨oc11, od11, .func (PySem.W.fnOf "rows_of_one" "rows_of_one" (defArgs s_rows_of_one) (defBody s_rows_of_one) (defScope s_rows_of_one) .none kV11 dc11 pm11 an11 cd11 ct11), sl11⟩) (c11 : PySem.W.codeIn K cd11 "rows_of_one" = true) (k11 : PySem.W.keepIn K (.ref f11) = true)
    {f12 : Addr} {od12 an12 : Option Addr} {sl12 : Array (Option Value)} {oc12 kV12 dc12 pm12 cd12 ct12 : Value}
    (a12 : PySem.W.nsIn K mainGlobals "block_rows" = some (some (.ref f12))) (l12 : K.lookup f12 = some ⟨oc12, od12, .func (PySem.W.fnOf "block_rows" "block_rows" (defArgs s_block_rows) (defBody s_block_rows) (defScope s_block_rows) .none kV12 dc12 pm12 an12 cd12 ct12), sl12⟩) (c12 : PySem.W.codeIn K cd12 "block_rows" = true) (k12 : PySem.W.keepIn K (.ref f12) = true)
    {f13 : Addr} {od13 an13 : Option Addr} {sl13 : Array (Option Value)} {oc13 kV13 dc13 pm13 cd13 ct13 : Value}
    (a13 : PySem.W.nsIn K mainGlobals "quote_rows" = some (some (.ref f13))) (l13 : K.lookup f13 = some ⟨oc13, od13, .func (PySem.W.fnOf "quote_rows" "quote_rows" (defArgs s_quote_rows) (defBody s_quote_rows) (defScope s_quote_rows) .none kV13 dc13 pm13 an13 cd13 ct13), sl13⟩) (c13 : PySem.W.codeIn K cd13 "quote_rows" = true) (k13 : PySem.W.keepIn K (.ref f13) = true)
    {f14 : Addr} {od14 an14 : Option Addr} {sl14 : Array (Option Value)} {oc14 kV14 dc14 pm14 cd14 ct14 : Value}
    (a14 : PySem.W.nsIn K mainGlobals "list_rows" = some (some (.ref f14))) (l14 : K.lookup f14 = some ⟨oc14, od14, .func (PySem.W.fnOf "list_rows" "list_rows" (defArgs s_list_rows) (defBody s_list_rows) (defScope s_list_rows) .none kV14 dc14 pm14 an14 cd14 ct14), sl14⟩) (c14 : PySem.W.codeIn K cd14 "list_rows" = true) (k14 : PySem.W.keepIn K (.ref f14) = true)
    {f15 : Addr} {od15 an15 : Option Addr} {sl15 : Array (Option Value)} {oc15 kV15 dc15 pm15 cd15 ct15 : Value}
    (a15 : PySem.W.nsIn K mainGlobals "heading_rows" = some (some (.ref f15))) (l15 : K.lookup f15 = some ⟨oc15, od15, .func (PySem.W.fnOf "heading_rows" "heading_rows" (defArgs s_heading_rows) (defBody s_heading_rows) (defScope s_heading_rows) .none kV15 dc15 pm15 an15 cd15 ct15), sl15⟩) (c15 : PySem.W.codeIn K cd15 "heading_rows" = true) (k15 : PySem.W.keepIn K (.ref f15) = true)
    {f16 : Addr} {od16 an16 : Option Addr} {sl16 : Array (Option Value)} {oc16 kV16 dc16 pm16 cd16 ct16 : Value}
    (a16 : PySem.W.nsIn K mainGlobals "break_rows" = some (some (.ref f16))) (l16 : K.lookup f16 = some ⟨oc16, od16, .func (PySem.W.fnOf "break_rows" "break_rows" (defArgs s_break_rows) (defBody s_break_rows) (defScope s_break_rows) .none kV16 dc16 pm16 an16 cd16 ct16), sl16⟩) (c16 : PySem.W.codeIn K cd16 "break_rows" = true) (k16 : PySem.W.keepIn K (.ref f16) = true)
    {f17 : Addr} {od17 an17 : Option Addr} {sl17 : Array (Option Value)} {oc17 kV17 dc17 pm17 cd17 ct17 : Value}
    (a17 : PySem.W.nsIn K mainGlobals "code_rows" = some (some (.ref f17))) (l17 : K.lookup f17 = some ⟨oc17, od17, .func (PySem.W.fnOf "code_rows" "code_rows" (defArgs s_code_rows) (defBody s_code_rows) (defScope s_code_rows) .none kV17 dc17 pm17 an17 cd17 ct17), sl17⟩) (c17 : PySem.W.codeIn K cd17 "code_rows" = true) (k17 : PySem.W.keepIn K (.ref f17) = true)
    {f18 : Addr} {od18 an18 : Option Addr} {sl18 : Array (Option Value)} {oc18 kV18 dc18 pm18 cd18 ct18 : Value}
    (a18 : PySem.W.nsIn K mainGlobals "html_rows" = some (some (.ref f18))) (l18 : K.lookup f18 = some ⟨oc18, od18, .func (PySem.W.fnOf "html_rows" "html_rows" (defArgs s_html_rows) (defBody s_html_rows) (defScope s_html_rows) .none kV18 dc18 pm18 an18 cd18 ct18), sl18⟩) (c18 : PySem.W.codeIn K cd18 "html_rows" = true) (k18 : PySem.W.keepIn K (.ref f18) = true)
    {f19 : Addr} {od19 an19 : Option Addr} {sl19 : Array (Option Value)} {oc19 kV19 dc19 pm19 cd19 ct19 : Value}
    (a19 : PySem.W.nsIn K mainGlobals "definition_rows" = some (some (.ref f19))) (l19 : K.lookup f19 = some ⟨oc19, od19, .func (PySem.W.fnOf "definition_rows" "definition_rows" (defArgs s_definition_rows) (defBody s_definition_rows) (defScope s_definition_rows) .none kV19 dc19 pm19 an19 cd19 ct19), sl19⟩) (c19 : PySem.W.codeIn K cd19 "definition_rows" = true) (k19 : PySem.W.keepIn K (.ref f19) = true)
    {f20 : Addr} {od20 an20 : Option Addr} {sl20 : Array (Option Value)} {oc20 kV20 dc20 pm20 cd20 ct20 : Value}
    (a20 : PySem.W.nsIn K mainGlobals "paragraph_rows" = some (some (.ref f20))) (l20 : K.lookup f20 = some ⟨oc20, od20, .func (PySem.W.fnOf "paragraph_rows" "paragraph_rows" (defArgs s_paragraph_rows) (defBody s_paragraph_rows) (defScope s_paragraph_rows) .none kV20 dc20 pm20 an20 cd20 ct20), sl20⟩) (c20 : PySem.W.codeIn K cd20 "paragraph_rows" = true) (k20 : PySem.W.keepIn K (.ref f20) = true)
    {f21 : Addr} {od21 an21 : Option Addr} {sl21 : Array (Option Value)} {oc21 kV21 dc21 pm21 cd21 ct21 : Value}
    (a21 : PySem.W.nsIn K mainGlobals "inline_rows" = some (some (.ref f21))) (l21 : K.lookup f21 = some ⟨oc21, od21, .func (PySem.W.fnOf "inline_rows" "inline_rows" (defArgs s_inline_rows) (defBody s_inline_rows) (defScope s_inline_rows) .none kV21 dc21 pm21 an21 cd21 ct21), sl21⟩) (c21 : PySem.W.codeIn K cd21 "inline_rows" = true) (k21 : PySem.W.keepIn K (.ref f21) = true)
    {f22 : Addr} {od22 an22 : Option Addr} {sl22 : Array (Option Value)} {oc22 kV22 dc22 pm22 cd22 ct22 : Value}
    (a22 : PySem.W.nsIn K mainGlobals "link_rows" = some (some (.ref f22))) (l22 : K.lookup f22 = some ⟨oc22, od22, .func (PySem.W.fnOf "link_rows" "link_rows" (defArgs s_link_rows) (defBody s_link_rows) (defScope s_link_rows) .none kV22 dc22 pm22 an22 cd22 ct22), sl22⟩) (c22 : PySem.W.codeIn K cd22 "link_rows" = true) (k22 : PySem.W.keepIn K (.ref f22) = true)
    {f23 : Addr} {od23 an23 : Option Addr} {sl23 : Array (Option Value)} {oc23 kV23 dc23 pm23 cd23 ct23 : Value}
    (a23 : PySem.W.nsIn K mainGlobals "none_if_not" = some (some (.ref f23))) (l23 : K.lookup f23 = some ⟨oc23, od23, .func (PySem.W.fnOf "none_if_not" "none_if_not" (defArgs s_none_if_not) (defBody s_none_if_not) (defScope s_none_if_not) .none kV23 dc23 pm23 an23 cd23 ct23), sl23⟩) (c23 : PySem.W.codeIn K cd23 "none_if_not" = true) (k23 : PySem.W.keepIn K (.ref f23) = true)
    {f24 : Addr} {od24 an24 : Option Addr} {sl24 : Array (Option Value)} {oc24 kV24 dc24 pm24 cd24 ct24 : Value}
    (a24 : PySem.W.nsIn K mainGlobals "is_text" = some (some (.ref f24))) (l24 : K.lookup f24 = some ⟨oc24, od24, .func (PySem.W.fnOf "is_text" "is_text" (defArgs s_is_text) (defBody s_is_text) (defScope s_is_text) .none kV24 dc24 pm24 an24 cd24 ct24), sl24⟩) (c24 : PySem.W.codeIn K cd24 "is_text" = true) (k24 : PySem.W.keepIn K (.ref f24) = true)
    {f25 : Addr} {od25 an25 : Option Addr} {sl25 : Array (Option Value)} {oc25 kV25 dc25 pm25 cd25 ct25 : Value}
    (a25 : PySem.W.nsIn K mainGlobals "is_lines" = some (some (.ref f25))) (l25 : K.lookup f25 = some ⟨oc25, od25, .func (PySem.W.fnOf "is_lines" "is_lines" (defArgs s_is_lines) (defBody s_is_lines) (defScope s_is_lines) .none kV25 dc25 pm25 an25 cd25 ct25), sl25⟩) (c25 : PySem.W.codeIn K cd25 "is_lines" = true) (k25 : PySem.W.keepIn K (.ref f25) = true)
    {f26 : Addr} {od26 an26 : Option Addr} {sl26 : Array (Option Value)} {oc26 kV26 dc26 pm26 cd26 ct26 : Value}
    (a26 : PySem.W.nsIn K mainGlobals "is_filled" = some (some (.ref f26))) (l26 : K.lookup f26 = some ⟨oc26, od26, .func (PySem.W.fnOf "is_filled" "is_filled" (defArgs s_is_filled) (defBody s_is_filled) (defScope s_is_filled) .none kV26 dc26 pm26 an26 cd26 ct26), sl26⟩) (c26 : PySem.W.codeIn K cd26 "is_filled" = true) (k26 : PySem.W.keepIn K (.ref f26) = true)
    {f27 : Addr} {od27 an27 : Option Addr} {sl27 : Array (Option Value)} {oc27 kV27 dc27 pm27 cd27 ct27 : Value}
    (a27 : PySem.W.nsIn K mainGlobals "fits_start" = some (some (.ref f27))) (l27 : K.lookup f27 = some ⟨oc27, od27, .func (PySem.W.fnOf "fits_start" "fits_start" (defArgs s_fits_start) (defBody s_fits_start) (defScope s_fits_start) .none kV27 dc27 pm27 an27 cd27 ct27), sl27⟩) (c27 : PySem.W.codeIn K cd27 "fits_start" = true) (k27 : PySem.W.keepIn K (.ref f27) = true)
    {f28 : Addr} {od28 an28 : Option Addr} {sl28 : Array (Option Value)} {oc28 kV28 dc28 pm28 cd28 ct28 : Value}
    (a28 : PySem.W.nsIn K mainGlobals "fits_target" = some (some (.ref f28))) (l28 : K.lookup f28 = some ⟨oc28, od28, .func (PySem.W.fnOf "fits_target" "fits_target" (defArgs s_fits_target) (defBody s_fits_target) (defScope s_fits_target) .none kV28 dc28 pm28 an28 cd28 ct28), sl28⟩) (c28 : PySem.W.codeIn K cd28 "fits_target" = true) (k28 : PySem.W.keepIn K (.ref f28) = true)
    {f29 : Addr} {od29 an29 : Option Addr} {sl29 : Array (Option Value)} {oc29 kV29 dc29 pm29 cd29 ct29 : Value}
    (a29 : PySem.W.nsIn K mainGlobals "page" = some (some (.ref f29))) (l29 : K.lookup f29 = some ⟨oc29, od29, .func (PySem.W.fnOf "page" "page" (defArgs s_page) (defBody s_page) (defScope s_page) .none kV29 dc29 pm29 an29 cd29 ct29), sl29⟩) (c29 : PySem.W.codeIn K cd29 "page" = true) (k29 : PySem.W.keepIn K (.ref f29) = true)
    {f30 : Addr} {od30 an30 : Option Addr} {sl30 : Array (Option Value)} {oc30 kV30 dc30 pm30 cd30 ct30 : Value}
    (a30 : PySem.W.nsIn K mainGlobals "escaped" = some (some (.ref f30))) (l30 : K.lookup f30 = some ⟨oc30, od30, .func (PySem.W.fnOf "escaped" "escaped" (defArgs s_escaped) (defBody s_escaped) (defScope s_escaped) .none kV30 dc30 pm30 an30 cd30 ct30), sl30⟩) (c30 : PySem.W.codeIn K cd30 "escaped" = true) (k30 : PySem.W.keepIn K (.ref f30) = true)
    {f31 : Addr} {od31 an31 : Option Addr} {sl31 : Array (Option Value)} {oc31 kV31 dc31 pm31 cd31 ct31 : Value}
    (a31 : PySem.W.nsIn K mainGlobals "words" = some (some (.ref f31))) (l31 : K.lookup f31 = some ⟨oc31, od31, .func (PySem.W.fnOf "words" "words" (defArgs s_words) (defBody s_words) (defScope s_words) .none kV31 dc31 pm31 an31 cd31 ct31), sl31⟩) (c31 : PySem.W.codeIn K cd31 "words" = true) (k31 : PySem.W.keepIn K (.ref f31) = true)
    {f32 : Addr} {od32 an32 : Option Addr} {sl32 : Array (Option Value)} {oc32 kV32 dc32 pm32 cd32 ct32 : Value}
    (a32 : PySem.W.nsIn K mainGlobals "block_pages" = some (some (.ref f32))) (l32 : K.lookup f32 = some ⟨oc32, od32, .func (PySem.W.fnOf "block_pages" "block_pages" (defArgs s_block_pages) (defBody s_block_pages) (defScope s_block_pages) .none kV32 dc32 pm32 an32 cd32 ct32), sl32⟩) (c32 : PySem.W.codeIn K cd32 "block_pages" = true) (k32 : PySem.W.keepIn K (.ref f32) = true)
    {f33 : Addr} {od33 an33 : Option Addr} {sl33 : Array (Option Value)} {oc33 kV33 dc33 pm33 cd33 ct33 : Value}
    (a33 : PySem.W.nsIn K mainGlobals "joined_pages" = some (some (.ref f33))) (l33 : K.lookup f33 = some ⟨oc33, od33, .func (PySem.W.fnOf "joined_pages" "joined_pages" (defArgs s_joined_pages) (defBody s_joined_pages) (defScope s_joined_pages) .none kV33 dc33 pm33 an33 cd33 ct33), sl33⟩) (c33 : PySem.W.codeIn K cd33 "joined_pages" = true) (k33 : PySem.W.keepIn K (.ref f33) = true)
    {f34 : Addr} {od34 an34 : Option Addr} {sl34 : Array (Option Value)} {oc34 kV34 dc34 pm34 cd34 ct34 : Value}
    (a34 : PySem.W.nsIn K mainGlobals "pages_of_block" = some (some (.ref f34))) (l34 : K.lookup f34 = some ⟨oc34, od34, .func (PySem.W.fnOf "pages_of_block" "pages_of_block" (defArgs s_pages_of_block) (defBody s_pages_of_block) (defScope s_pages_of_block) .none kV34 dc34 pm34 an34 cd34 ct34), sl34⟩) (c34 : PySem.W.codeIn K cd34 "pages_of_block" = true) (k34 : PySem.W.keepIn K (.ref f34) = true)
    {f35 : Addr} {od35 an35 : Option Addr} {sl35 : Array (Option Value)} {oc35 kV35 dc35 pm35 cd35 ct35 : Value}
    (a35 : PySem.W.nsIn K mainGlobals "leaf_page" = some (some (.ref f35))) (l35 : K.lookup f35 = some ⟨oc35, od35, .func (PySem.W.fnOf "leaf_page" "leaf_page" (defArgs s_leaf_page) (defBody s_leaf_page) (defScope s_leaf_page) .none kV35 dc35 pm35 an35 cd35 ct35), sl35⟩) (c35 : PySem.W.codeIn K cd35 "leaf_page" = true) (k35 : PySem.W.keepIn K (.ref f35) = true)
    {f36 : Addr} {od36 an36 : Option Addr} {sl36 : Array (Option Value)} {oc36 kV36 dc36 pm36 cd36 ct36 : Value}
    (a36 : PySem.W.nsIn K mainGlobals "language" = some (some (.ref f36))) (l36 : K.lookup f36 = some ⟨oc36, od36, .func (PySem.W.fnOf "language" "language" (defArgs s_language) (defBody s_language) (defScope s_language) .none kV36 dc36 pm36 an36 cd36 ct36), sl36⟩) (c36 : PySem.W.codeIn K cd36 "language" = true) (k36 : PySem.W.keepIn K (.ref f36) = true)
    {f37 : Addr} {od37 an37 : Option Addr} {sl37 : Array (Option Value)} {oc37 kV37 dc37 pm37 cd37 ct37 : Value}
    (a37 : PySem.W.nsIn K mainGlobals "list_page" = some (some (.ref f37))) (l37 : K.lookup f37 = some ⟨oc37, od37, .func (PySem.W.fnOf "list_page" "list_page" (defArgs s_list_page) (defBody s_list_page) (defScope s_list_page) .none kV37 dc37 pm37 an37 cd37 ct37), sl37⟩) (c37 : PySem.W.codeIn K cd37 "list_page" = true) (k37 : PySem.W.keepIn K (.ref f37) = true)
    {f38 : Addr} {od38 an38 : Option Addr} {sl38 : Array (Option Value)} {oc38 kV38 dc38 pm38 cd38 ct38 : Value}
    (a38 : PySem.W.nsIn K mainGlobals "item_page" = some (some (.ref f38))) (l38 : K.lookup f38 = some ⟨oc38, od38, .func (PySem.W.fnOf "item_page" "item_page" (defArgs s_item_page) (defBody s_item_page) (defScope s_item_page) .none kV38 dc38 pm38 an38 cd38 ct38), sl38⟩) (c38 : PySem.W.codeIn K cd38 "item_page" = true) (k38 : PySem.W.keepIn K (.ref f38) = true)
    {f39 : Addr} {od39 an39 : Option Addr} {sl39 : Array (Option Value)} {oc39 kV39 dc39 pm39 cd39 ct39 : Value}
    (a39 : PySem.W.nsIn K mainGlobals "inline_page" = some (some (.ref f39))) (l39 : K.lookup f39 = some ⟨oc39, od39, .func (PySem.W.fnOf "inline_page" "inline_page" (defArgs s_inline_page) (defBody s_inline_page) (defScope s_inline_page) .none kV39 dc39 pm39 an39 cd39 ct39), sl39⟩) (c39 : PySem.W.codeIn K cd39 "inline_page" = true) (k39 : PySem.W.keepIn K (.ref f39) = true)
    {f40 : Addr} {od40 an40 : Option Addr} {sl40 : Array (Option Value)} {oc40 kV40 dc40 pm40 cd40 ct40 : Value}
    (a40 : PySem.W.nsIn K mainGlobals "row_page" = some (some (.ref f40))) (l40 : K.lookup f40 = some ⟨oc40, od40, .func (PySem.W.fnOf "row_page" "row_page" (defArgs s_row_page) (defBody s_row_page) (defScope s_row_page) .none kV40 dc40 pm40 an40 cd40 ct40), sl40⟩) (c40 : PySem.W.codeIn K cd40 "row_page" = true) (k40 : PySem.W.keepIn K (.ref f40) = true)
    {f41 : Addr} {od41 an41 : Option Addr} {sl41 : Array (Option Value)} {oc41 kV41 dc41 pm41 cd41 ct41 : Value}
    (a41 : PySem.W.nsIn K mainGlobals "page_of_inline" = some (some (.ref f41))) (l41 : K.lookup f41 = some ⟨oc41, od41, .func (PySem.W.fnOf "page_of_inline" "page_of_inline" (defArgs s_page_of_inline) (defBody s_page_of_inline) (defScope s_page_of_inline) .none kV41 dc41 pm41 an41 cd41 ct41), sl41⟩) (c41 : PySem.W.codeIn K cd41 "page_of_inline" = true) (k41 : PySem.W.keepIn K (.ref f41) = true)
    {f42 : Addr} {od42 an42 : Option Addr} {sl42 : Array (Option Value)} {oc42 kV42 dc42 pm42 cd42 ct42 : Value}
    (a42 : PySem.W.nsIn K mainGlobals "page_of_link" = some (some (.ref f42))) (l42 : K.lookup f42 = some ⟨oc42, od42, .func (PySem.W.fnOf "page_of_link" "page_of_link" (defArgs s_page_of_link) (defBody s_page_of_link) (defScope s_page_of_link) .none kV42 dc42 pm42 an42 cd42 ct42), sl42⟩) (c42 : PySem.W.codeIn K cd42 "page_of_link" = true) (k42 : PySem.W.keepIn K (.ref f42) = true)
    {f43 : Addr} {od43 an43 : Option Addr} {sl43 : Array (Option Value)} {oc43 kV43 dc43 pm43 cd43 ct43 : Value}
    (a43 : PySem.W.nsIn K mainGlobals "row_words" = some (some (.ref f43))) (l43 : K.lookup f43 = some ⟨oc43, od43, .func (PySem.W.fnOf "row_words" "row_words" (defArgs s_row_words) (defBody s_row_words) (defScope s_row_words) .none kV43 dc43 pm43 an43 cd43 ct43), sl43⟩) (c43 : PySem.W.codeIn K cd43 "row_words" = true) (k43 : PySem.W.keepIn K (.ref f43) = true)
    {f44 : Addr} {od44 an44 : Option Addr} {sl44 : Array (Option Value)} {oc44 kV44 dc44 pm44 cd44 ct44 : Value}
    (a44 : PySem.W.nsIn K mainGlobals "words_of_inline" = some (some (.ref f44))) (l44 : K.lookup f44 = some ⟨oc44, od44, .func (PySem.W.fnOf "words_of_inline" "words_of_inline" (defArgs s_words_of_inline) (defBody s_words_of_inline) (defScope s_words_of_inline) .none kV44 dc44 pm44 an44 cd44 ct44), sl44⟩) (c44 : PySem.W.codeIn K cd44 "words_of_inline" = true) (k44 : PySem.W.keepIn K (.ref f44) = true)
    {f45 : Addr} {od45 an45 : Option Addr} {sl45 : Array (Option Value)} {oc45 kV45 dc45 pm45 cd45 ct45 : Value}
    (a45 : PySem.W.nsIn K mainGlobals "_law_well" = some (some (.ref f45))) (l45 : K.lookup f45 = some ⟨oc45, od45, .func (PySem.W.fnOf "_law_well" "_law_well" (defArgs s__law_well) (defBody s__law_well) (defScope s__law_well) .none kV45 dc45 pm45 an45 cd45 ct45), sl45⟩) (c45 : PySem.W.codeIn K cd45 "_law_well" = true) (k45 : PySem.W.keepIn K (.ref f45) = true)
    {f46 : Addr} {od46 an46 : Option Addr} {sl46 : Array (Option Value)} {oc46 kV46 dc46 pm46 cd46 ct46 : Value}
    (a46 : PySem.W.nsIn K mainGlobals "_law_draw" = some (some (.ref f46))) (l46 : K.lookup f46 = some ⟨oc46, od46, .func (PySem.W.fnOf "_law_draw" "_law_draw" (defArgs s__law_draw) (defBody s__law_draw) (defScope s__law_draw) .none kV46 dc46 pm46 an46 cd46 ct46), sl46⟩) (c46 : PySem.W.codeIn K cd46 "_law_draw" = true) (k46 : PySem.W.keepIn K (.ref f46) = true)
    {f47 : Addr} {od47 an47 : Option Addr} {sl47 : Array (Option Value)} {oc47 kV47 dc47 pm47 cd47 ct47 : Value}
    (a47 : PySem.W.nsIn K mainGlobals "_law_one" = some (some (.ref f47))) (l47 : K.lookup f47 = some ⟨oc47, od47, .func (PySem.W.fnOf "_law_one" "_law_one" (defArgs s__law_one) (defBody s__law_one) (defScope s__law_one) .none kV47 dc47 pm47 an47 cd47 ct47), sl47⟩) (c47 : PySem.W.codeIn K cd47 "_law_one" = true) (k47 : PySem.W.keepIn K (.ref f47) = true)
    {f48 : Addr} {od48 an48 : Option Addr} {sl48 : Array (Option Value)} {oc48 kV48 dc48 pm48 cd48 ct48 : Value}
    (a48 : PySem.W.nsIn K mainGlobals "_law_string" = some (some (.ref f48))) (l48 : K.lookup f48 = some ⟨oc48, od48, .func (PySem.W.fnOf "_law_string" "_law_string" (defArgs s__law_string) (defBody s__law_string) (defScope s__law_string) .none kV48 dc48 pm48 an48 cd48 ct48), sl48⟩) (c48 : PySem.W.codeIn K cd48 "_law_string" = true) (k48 : PySem.W.keepIn K (.ref f48) = true)
    {f49 : Addr} {od49 an49 : Option Addr} {sl49 : Array (Option Value)} {oc49 kV49 dc49 pm49 cd49 ct49 : Value}
    (a49 : PySem.W.nsIn K mainGlobals "_law_target" = some (some (.ref f49))) (l49 : K.lookup f49 = some ⟨oc49, od49, .func (PySem.W.fnOf "_law_target" "_law_target" (defArgs s__law_target) (defBody s__law_target) (defScope s__law_target) .none kV49 dc49 pm49 an49 cd49 ct49), sl49⟩) (c49 : PySem.W.codeIn K cd49 "_law_target" = true) (k49 : PySem.W.keepIn K (.ref f49) = true)
    {f50 : Addr} {od50 an50 : Option Addr} {sl50 : Array (Option Value)} {oc50 kV50 dc50 pm50 cd50 ct50 : Value}
    (a50 : PySem.W.nsIn K mainGlobals "_law_inline" = some (some (.ref f50))) (l50 : K.lookup f50 = some ⟨oc50, od50, .func (PySem.W.fnOf "_law_inline" "_law_inline" (defArgs s__law_inline) (defBody s__law_inline) (defScope s__law_inline) .none kV50 dc50 pm50 an50 cd50 ct50), sl50⟩) (c50 : PySem.W.codeIn K cd50 "_law_inline" = true) (k50 : PySem.W.keepIn K (.ref f50) = true)
    {f51 : Addr} {od51 an51 : Option Addr} {sl51 : Array (Option Value)} {oc51 kV51 dc51 pm51 cd51 ct51 : Value}
    (a51 : PySem.W.nsIn K mainGlobals "_law_row" = some (some (.ref f51))) (l51 : K.lookup f51 = some ⟨oc51, od51, .func (PySem.W.fnOf "_law_row" "_law_row" (defArgs s__law_row) (defBody s__law_row) (defScope s__law_row) .none kV51 dc51 pm51 an51 cd51 ct51), sl51⟩) (c51 : PySem.W.codeIn K cd51 "_law_row" = true) (k51 : PySem.W.keepIn K (.ref f51) = true)
    {f52 : Addr} {od52 an52 : Option Addr} {sl52 : Array (Option Value)} {oc52 kV52 dc52 pm52 cd52 ct52 : Value}
    (a52 : PySem.W.nsIn K mainGlobals "_law_block" = some (some (.ref f52))) (l52 : K.lookup f52 = some ⟨oc52, od52, .func (PySem.W.fnOf "_law_block" "_law_block" (defArgs s__law_block) (defBody s__law_block) (defScope s__law_block) .none kV52 dc52 pm52 an52 cd52 ct52), sl52⟩) (c52 : PySem.W.codeIn K cd52 "_law_block" = true) (k52 : PySem.W.keepIn K (.ref f52) = true)
    {f53 : Addr} {od53 an53 : Option Addr} {sl53 : Array (Option Value)} {oc53 kV53 dc53 pm53 cd53 ct53 : Value}
    (a53 : PySem.W.nsIn K mainGlobals "_law_blocks" = some (some (.ref f53))) (l53 : K.lookup f53 = some ⟨oc53, od53, .func (PySem.W.fnOf "_law_blocks" "_law_blocks" (defArgs s__law_blocks) (defBody s__law_blocks) (defScope s__law_blocks) .none kV53 dc53 pm53 an53 cd53 ct53), sl53⟩) (c53 : PySem.W.codeIn K cd53 "_law_blocks" = true) (k53 : PySem.W.keepIn K (.ref f53) = true)
    {f54 : Addr} {od54 an54 : Option Addr} {sl54 : Array (Option Value)} {oc54 kV54 dc54 pm54 cd54 ct54 : Value}
    (a54 : PySem.W.nsIn K mainGlobals "_law_closed" = some (some (.ref f54))) (l54 : K.lookup f54 = some ⟨oc54, od54, .func (PySem.W.fnOf "_law_closed" "_law_closed" (defArgs s__law_closed) (defBody s__law_closed) (defScope s__law_closed) .none kV54 dc54 pm54 an54 cd54 ct54), sl54⟩) (c54 : PySem.W.codeIn K cd54 "_law_closed" = true) (k54 : PySem.W.keepIn K (.ref f54) = true)
    {f55 : Addr} {od55 an55 : Option Addr} {sl55 : Array (Option Value)} {oc55 kV55 dc55 pm55 cd55 ct55 : Value}
    (a55 : PySem.W.nsIn K mainGlobals "_law_defined" = some (some (.ref f55))) (l55 : K.lookup f55 = some ⟨oc55, od55, .func (PySem.W.fnOf "_law_defined" "_law_defined" (defArgs s__law_defined) (defBody s__law_defined) (defScope s__law_defined) .none kV55 dc55 pm55 an55 cd55 ct55), sl55⟩) (c55 : PySem.W.codeIn K cd55 "_law_defined" = true) (k55 : PySem.W.keepIn K (.ref f55) = true)
    {f56 : Addr} {od56 an56 : Option Addr} {sl56 : Array (Option Value)} {oc56 kV56 dc56 pm56 cd56 ct56 : Value}
    (a56 : PySem.W.nsIn K mainGlobals "_law_informed" = some (some (.ref f56))) (l56 : K.lookup f56 = some ⟨oc56, od56, .func (PySem.W.fnOf "_law_informed" "_law_informed" (defArgs s__law_informed) (defBody s__law_informed) (defScope s__law_informed) .none kV56 dc56 pm56 an56 cd56 ct56), sl56⟩) (c56 : PySem.W.codeIn K cd56 "_law_informed" = true) (k56 : PySem.W.keepIn K (.ref f56) = true)
    {f57 : Addr} {od57 an57 : Option Addr} {sl57 : Array (Option Value)} {oc57 kV57 dc57 pm57 cd57 ct57 : Value}
    (a57 : PySem.W.nsIn K mainGlobals "law" = some (some (.ref f57))) (l57 : K.lookup f57 = some ⟨oc57, od57, .func (PySem.W.fnOf "law" "law" (defArgs s_law) (defBody s_law) (defScope s_law) .none kV57 dc57 pm57 an57 cd57 ct57), sl57⟩) (c57 : PySem.W.codeIn K cd57 "law" = true) (k57 : PySem.W.keepIn K (.ref f57) = true)
    (z_ValueError : PySem.W.nsIn K mainGlobals "ValueError" = some none)
    (z_bool : PySem.W.nsIn K mainGlobals "bool" = some none)
    (z_int : PySem.W.nsIn K mainGlobals "int" = some none)
    (z_isinstance : PySem.W.nsIn K mainGlobals "isinstance" = some none)
    (z_len : PySem.W.nsIn K mainGlobals "len" = some none)
    (z_list : PySem.W.nsIn K mainGlobals "list" = some none)
    (z_range : PySem.W.nsIn K mainGlobals "range" = some none)
    (z_reversed : PySem.W.nsIn K mainGlobals "reversed" = some none)
    (z_str : PySem.W.nsIn K mainGlobals "str" = some none)
    (z_super : PySem.W.nsIn K mainGlobals "super" = some none)
    (z_tuple : PySem.W.nsIn K mainGlobals "tuple" = some none)
    (z_zip : PySem.W.nsIn K mainGlobals "zip" = some none)
    {t_INLINE_WHITE : Tok} (q_INLINE_WHITE : PySem.W.nsIn K mainGlobals "INLINE_WHITE" = some (some (.str " \t\n" t_INLINE_WHITE)))
    {t_ALLOWED : Tok} (q_ALLOWED : PySem.W.nsIn K mainGlobals "ALLOWED" = some (some (.str "\t\n !\"#$&'()*+,-./0123456789:;<=>?@ABCDEFGHIJKLMNOPQRSTUVWXYZ[\\]^_`abcdefghijklmnopqrstuvwxyz{|}~" t_ALLOWED)))
    {t_PUNCTUATION : Tok} (q_PUNCTUATION : PySem.W.nsIn K mainGlobals "PUNCTUATION" = some (some (.str "!\"#$&'()*+,-./:;<=>?\x40[\\]^_{|}~`" t_PUNCTUATION)))
    {t_LONGEST_LABEL : Tok} (q_LONGEST_LABEL : PySem.W.nsIn K mainGlobals "LONGEST_LABEL" = some (some (.int 999 t_LONGEST_LABEL)))
    {t_BLOCKS : Tok} (q_BLOCKS : PySem.W.nsIn K mainGlobals "BLOCKS" = some (some (.str "blocks" t_BLOCKS)))
    {t_INLINES : Tok} (q_INLINES : PySem.W.nsIn K mainGlobals "INLINES" = some (some (.str "inlines" t_INLINES)))
    {t_LINKED : Tok} (q_LINKED : PySem.W.nsIn K mainGlobals "LINKED" = some (some (.str "linked" t_LINKED)))
    {t_MOST_ROWS : Tok} (q_MOST_ROWS : PySem.W.nsIn K mainGlobals "MOST_ROWS" = some (some (.int 100 t_MOST_ROWS)))
    {t_HIGHEST_LEVEL : Tok} (q_HIGHEST_LEVEL : PySem.W.nsIn K mainGlobals "HIGHEST_LEVEL" = some (some (.int 6 t_HIGHEST_LEVEL)))
    {t_HIGHEST_START : Tok} (q_HIGHEST_START : PySem.W.nsIn K mainGlobals "HIGHEST_START" = some (some (.int 999999999 t_HIGHEST_START)))
    {A_BLOCK_LENGTHS : Addr} {es_BLOCK_LENGTHS : Array DictEntry} {n_BLOCK_LENGTHS : Nat} (q_BLOCK_LENGTHS : PySem.W.nsIn K mainGlobals "BLOCK_LENGTHS" = some (some (.ref A_BLOCK_LENGTHS)))
    (L_BLOCK_LENGTHS : K.lookup A_BLOCK_LENGTHS = some ⟨.type "dict", none, .dict es_BLOCK_LENGTHS n_BLOCK_LENGTHS, #[]⟩) (KL_BLOCK_LENGTHS : PySem.W.KeysLit w.params es_BLOCK_LENGTHS.toList) (W_BLOCK_LENGTHS : (A_BLOCK_LENGTHS == sysModules) = false) (EN_BLOCK_LENGTHS : EntS es_BLOCK_LENGTHS.toList [("quote", .int 2), ("list", .int 5), ("heading", .int 3), ("break", .int 1), ("code", .int 3), ("html", .int 2), ("definition", .int 4), ("paragraph", .int 2)])
    {A_BLOCK_CHECKS : Addr} {es_BLOCK_CHECKS : Array DictEntry} {n_BLOCK_CHECKS : Nat} (q_BLOCK_CHECKS : PySem.W.nsIn K mainGlobals "BLOCK_CHECKS" = some (some (.ref A_BLOCK_CHECKS)))
    (L_BLOCK_CHECKS : K.lookup A_BLOCK_CHECKS = some ⟨.type "dict", none, .dict es_BLOCK_CHECKS n_BLOCK_CHECKS, #[]⟩) (KL_BLOCK_CHECKS : PySem.W.KeysLit w.params es_BLOCK_CHECKS.toList) (W_BLOCK_CHECKS : (A_BLOCK_CHECKS == sysModules) = false) (EN_BLOCK_CHECKS : EntS es_BLOCK_CHECKS.toList [("quote", .ref f13), ("list", .ref f14), ("heading", .ref f15), ("break", .ref f16), ("code", .ref f17), ("html", .ref f18), ("definition", .ref f19), ("paragraph", .ref f20)])
    (o_any : PySem.W.nsIn K cStatics "thirdparty.any" = some none)
    (o_top : (l.prog.main.scope.names.lookup ("super" : Str)).isSome = false)
    {C_NoTree F_NoTree cc_NoTree cda_NoTree : Addr} {nm_NoTree qn_NoTree : Str} {Nn_NoTree : Addr} {bs_NoTree bm_NoTree : List Value} {sn_NoTree : List Str} {sub_NoTree : List Value} {ab_NoTree : Bool} {col_NoTree : Option Bool} {dd_NoTree : Option Addr} {k0_NoTree k1_NoTree k2_NoTree k3_NoTree k5_NoTree : Option Value}
    {kV_NoTree doc_NoTree pm_NoTree ct_NoTree oc_NoTree ccl_NoTree cl_NoTree : Value} {an_NoTree od_NoTree cdd_NoTree cld_NoTree : Option Addr} {osl_NoTree ccs_NoTree csl_NoTree : Array (Option Value)} {vs_NoTree : Array Value} {file_NoTree : Str} {tf_NoTree : Tok}
    (q_NoTree : PySem.W.nsIn K mainGlobals "NoTree" = some (some (.ref C_NoTree)))
    (h1_NoTree : K.lookup C_NoTree = some (excClassObj nm_NoTree qn_NoTree C_NoTree Nn_NoTree bs_NoTree bm_NoTree true sn_NoTree sub_NoTree ab_NoTree col_NoTree dd_NoTree k0_NoTree k1_NoTree k2_NoTree k3_NoTree k5_NoTree "ValueError.__new__"))
    (h2_NoTree : PySem.HandSPX.refsVE bm_NoTree = true)
    (h3_NoTree : PySem.W.findIn K (.ref C_NoTree) "__setattr__" = some (some (.builtin "object.__setattr__")))
    (h4_NoTree : PySem.W.subIn K (.ref C_NoTree) (.type "BaseException") = some true)
    (h5_NoTree : PySem.W.typeIn K (.ref C_NoTree) = some (.type "type"))
    (h6_NoTree : PySem.W.keepIn K (.ref C_NoTree) = true)
    (h7_NoTree : PySem.W.findIn K (.ref C_NoTree) "__init__" = some (some (.ref F_NoTree)))
    (h8_NoTree : PySem.W.typeIn K (.ref F_NoTree) = some (.type "function"))
    (h9_NoTree : K.lookup F_NoTree = some ⟨oc_NoTree, od_NoTree, .func (PySem.W.ksFn "__init__" "NoTree.__init__" (defArgs i_NoTree) (defBody i_NoTree) (defScope i_NoTree) .none kV_NoTree doc_NoTree pm_NoTree an_NoTree (.ref cda_NoTree) ct_NoTree cc_NoTree), osl_NoTree⟩)
    (h10_NoTree : PySem.W.codeIn K (.ref cda_NoTree) "NoTree.__init__" = true)
    (h11_NoTree : K.lookup cda_NoTree = some ⟨ccl_NoTree, cdd_NoTree, .fields vs_NoTree, ccs_NoTree⟩)
    (h12_NoTree : vs_NoTree[2]? = some (.str file_NoTree tf_NoTree))
    (h13_NoTree : ((l.prog.main.file : Str) == file_NoTree) = true)
    (h14_NoTree : K.lookup cc_NoTree = some ⟨cl_NoTree, cld_NoTree, .cell (some (.ref C_NoTree)), csl_NoTree⟩)
    (h15_NoTree : PySem.W.mroIn K C_NoTree (.ref C_NoTree) = some true)
    (h17_NoTree : PySem.W.ks_superIn K C_NoTree C_NoTree "__init__" = some (some (.builtin "ValueError.__init__")))
    (h18_NoTree : PySem.W.subIn K (.ref C_NoTree) (.type "ValueError") = some true)
    (m1_NoTree : PySem.W.isClsIn K C_NoTree = true)
    (m2_NoTree : PySem.W.subIn K (.ref C_NoTree) (.ref C_NoTree) = some true)
    : ∃ fd : FuncData, (∀ (s : Shared) (v : Value), BindsTo s fd ⟨[v], []⟩ [("_law_script", v)]) ∧ ∀ base : Heap, K.In base → base.Ns mainGlobals mg → FnOk l.prog w K mg base CX0 40 fa fd ["_law_script"] (sp_law K) := by
  have e := hfa.symm.trans (PySem.W.mg_of X G a57)
  cases e
  have F0 := fun_mk (st := s_is_escape) l0 c0 k0
  have F1 := fun_mk (st := s_first_plain) l1 c1 k1
  have F2 := fun_mk (st := s_rows_in_block) l2 c2 k2
  have F3 := fun_mk (st := s_rows_in_inline) l3 c3 k3
  have F4 := fun_mk (st := s_folded) l4 c4 k4
  have F5 := fun_mk (st := s_is_label_text) l5 c5 k5
  have F6 := fun_mk (st := s_is_label) l6 c6 k6
  have F7 := fun_mk (st := s_label_at) l7 c7 k7
  have F8 := fun_mk (st := s_is_integer_to) l8 c8 k8
  have F9 := fun_mk (st := s_is_tree) l9 c9 k9
  have F10 := fun_mk (st := s_rows_of_row) l10 c10 k10
  have F11 := fun_mk (st := s_rows_of_one) l11 c11 k11
  have F12 := fun_mk (st := s_block_rows) l12 c12 k12
  have F13 := fun_mk (st := s_quote_rows) l13 c13 k13
  have F14 := fun_mk (st := s_list_rows) l14 c14 k14
  have F15 := fun_mk (st := s_heading_rows) l15 c15 k15
  have F16 := fun_mk (st := s_break_rows) l16 c16 k16
  have F17 := fun_mk (st := s_code_rows) l17 c17 k17
  have F18 := fun_mk (st := s_html_rows) l18 c18 k18
  have F19 := fun_mk (st := s_definition_rows) l19 c19 k19
  have F20 := fun_mk (st := s_paragraph_rows) l20 c20 k20
  have F21 := fun_mk (st := s_inline_rows) l21 c21 k21
  have F22 := fun_mk (st := s_link_rows) l22 c22 k22
  have F23 := fun_mk (st := s_none_if_not) l23 c23 k23
  have F24 := fun_mk (st := s_is_text) l24 c24 k24
  have F25 := fun_mk (st := s_is_lines) l25 c25 k25
  have F26 := fun_mk (st := s_is_filled) l26 c26 k26
  have F27 := fun_mk (st := s_fits_start) l27 c27 k27
  have F28 := fun_mk (st := s_fits_target) l28 c28 k28
  have F29 := fun_mk (st := s_page) l29 c29 k29
  have F30 := fun_mk (st := s_escaped) l30 c30 k30
  have F31 := fun_mk (st := s_words) l31 c31 k31
  have F32 := fun_mk (st := s_block_pages) l32 c32 k32
  have F33 := fun_mk (st := s_joined_pages) l33 c33 k33
  have F34 := fun_mk (st := s_pages_of_block) l34 c34 k34
  have F35 := fun_mk (st := s_leaf_page) l35 c35 k35
  have F36 := fun_mk (st := s_language) l36 c36 k36
  have F37 := fun_mk (st := s_list_page) l37 c37 k37
  have F38 := fun_mk (st := s_item_page) l38 c38 k38
  have F39 := fun_mk (st := s_inline_page) l39 c39 k39
  have F40 := fun_mk (st := s_row_page) l40 c40 k40
  have F41 := fun_mk (st := s_page_of_inline) l41 c41 k41
  have F42 := fun_mk (st := s_page_of_link) l42 c42 k42
  have F43 := fun_mk (st := s_row_words) l43 c43 k43
  have F44 := fun_mk (st := s_words_of_inline) l44 c44 k44
  have F45 := fun_mk (st := s__law_well) l45 c45 k45
  have F46 := fun_mk (st := s__law_draw) l46 c46 k46
  have F47 := fun_mk (st := s__law_one) l47 c47 k47
  have F48 := fun_mk (st := s__law_string) l48 c48 k48
  have F49 := fun_mk (st := s__law_target) l49 c49 k49
  have F50 := fun_mk (st := s__law_inline) l50 c50 k50
  have F51 := fun_mk (st := s__law_row) l51 c51 k51
  have F52 := fun_mk (st := s__law_block) l52 c52 k52
  have F53 := fun_mk (st := s__law_blocks) l53 c53 k53
  have F54 := fun_mk (st := s__law_closed) l54 c54 k54
  have F55 := fun_mk (st := s__law_defined) l55 c55 k55
  have F56 := fun_mk (st := s__law_informed) l56 c56 k56
  have F57 := fun_mk (st := s_law) l57 c57 k57
  have b0 := F0.binds (ps := ["text", "place"]) fun _ _ _ _ _ _ us hl => match us, hl with | [_, _], _ => rfl
  have b1 := F1.binds (ps := ["signs", "text", "place"]) fun _ _ _ _ _ _ us hl => match us, hl with | [_, _, _], _ => rfl
  have b2 := F2.binds (ps := ["block"]) fun _ _ _ _ _ _ us hl => match us, hl with | [_], _ => rfl
  have b3 := F3.binds (ps := ["inline"]) fun _ _ _ _ _ _ us hl => match us, hl with | [_], _ => rfl
  have b4 := F4.binds (ps := ["row", "rows_in", "made"]) fun _ _ _ _ _ _ us hl => match us, hl with | [_, _, _], _ => rfl
  have b5 := F5.binds (ps := ["thing"]) fun _ _ _ _ _ _ us hl => match us, hl with | [_], _ => rfl
  have b6 := F6.binds (ps := ["thing"]) fun _ _ _ _ _ _ us hl => match us, hl with | [_], _ => rfl
  have b7 := F7.binds (ps := ["text", "place"]) fun _ _ _ _ _ _ us hl => match us, hl with | [_, _], _ => rfl
  have b8 := F8.binds (ps := ["least", "most", "thing"]) fun _ _ _ _ _ _ us hl => match us, hl with | [_, _, _], _ => rfl
  have b9 := F9.binds (ps := ["thing"]) fun _ _ _ _ _ _ us hl => match us, hl with | [_], _ => rfl
  have b10 := F10.binds (ps := ["sort", "row"]) fun _ _ _ _ _ _ us hl => match us, hl with | [_, _], _ => rfl
  have b11 := F11.binds (ps := ["sort", "one"]) fun _ _ _ _ _ _ us hl => match us, hl with | [_, _], _ => rfl
  have b12 := F12.binds (ps := ["block"]) fun _ _ _ _ _ _ us hl => match us, hl with | [_], _ => rfl
  have b13 := F13.binds (ps := ["block"]) fun _ _ _ _ _ _ us hl => match us, hl with | [_], _ => rfl
  have b14 := F14.binds (ps := ["block"]) fun _ _ _ _ _ _ us hl => match us, hl with | [_], _ => rfl
  have b15 := F15.binds (ps := ["block"]) fun _ _ _ _ _ _ us hl => match us, hl with | [_], _ => rfl
  have b16 := F16.binds (ps := ["block"]) fun _ _ _ _ _ _ us hl => match us, hl with | [_], _ => rfl
  have b17 := F17.binds (ps := ["block"]) fun _ _ _ _ _ _ us hl => match us, hl with | [_], _ => rfl
  have b18 := F18.binds (ps := ["block"]) fun _ _ _ _ _ _ us hl => match us, hl with | [_], _ => rfl
  have b19 := F19.binds (ps := ["block"]) fun _ _ _ _ _ _ us hl => match us, hl with | [_], _ => rfl
  have b20 := F20.binds (ps := ["block"]) fun _ _ _ _ _ _ us hl => match us, hl with | [_], _ => rfl
  have b21 := F21.binds (ps := ["sort", "inline"]) fun _ _ _ _ _ _ us hl => match us, hl with | [_, _], _ => rfl
  have b22 := F22.binds (ps := ["sort", "inline"]) fun _ _ _ _ _ _ us hl => match us, hl with | [_, _], _ => rfl
  have b23 := F23.binds (ps := ["fits"]) fun _ _ _ _ _ _ us hl => match us, hl with | [_], _ => rfl
  have b24 := F24.binds (ps := ["thing"]) fun _ _ _ _ _ _ us hl => match us, hl with | [_], _ => rfl
  have b25 := F25.binds (ps := ["thing"]) fun _ _ _ _ _ _ us hl => match us, hl with | [_], _ => rfl
  have b26 := F26.binds (ps := ["thing"]) fun _ _ _ _ _ _ us hl => match us, hl with | [_], _ => rfl
  have b27 := F27.binds (ps := ["sign", "start"]) fun _ _ _ _ _ _ us hl => match us, hl with | [_, _], _ => rfl
  have b28 := F28.binds (ps := ["destination", "title"]) fun _ _ _ _ _ _ us hl => match us, hl with | [_, _], _ => rfl
  have b29 := F29.binds (ps := ["tree"]) fun _ _ _ _ _ _ us hl => match us, hl with | [_], _ => rfl
  have b30 := F30.binds (ps := ["text"]) fun _ _ _ _ _ _ us hl => match us, hl with | [_], _ => rfl
  have b31 := F31.binds (ps := ["row"]) fun _ _ _ _ _ _ us hl => match us, hl with | [_], _ => rfl
  have b32 := F32.binds (ps := ["row", "inner"]) fun _ _ _ _ _ _ us hl => match us, hl with | [_, _], _ => rfl
  have b33 := F33.binds (ps := ["pages"]) fun _ _ _ _ _ _ us hl => match us, hl with | [_], _ => rfl
  have b34 := F34.binds (ps := ["block", "rows"]) fun _ _ _ _ _ _ us hl => match us, hl with | [_, _], _ => rfl
  have b35 := F35.binds (ps := ["block"]) fun _ _ _ _ _ _ us hl => match us, hl with | [_], _ => rfl
  have b36 := F36.binds (ps := ["info"]) fun _ _ _ _ _ _ us hl => match us, hl with | [_], _ => rfl
  have b37 := F37.binds (ps := ["block", "rows"]) fun _ _ _ _ _ _ us hl => match us, hl with | [_, _], _ => rfl
  have b38 := F38.binds (ps := ["pages", "is_tight"]) fun _ _ _ _ _ _ us hl => match us, hl with | [_, _], _ => rfl
  have b39 := F39.binds (ps := ["row"]) fun _ _ _ _ _ _ us hl => match us, hl with | [_], _ => rfl
  have b40 := F40.binds (ps := ["row", "inner"]) fun _ _ _ _ _ _ us hl => match us, hl with | [_, _], _ => rfl
  have b41 := F41.binds (ps := ["inline", "rows"]) fun _ _ _ _ _ _ us hl => match us, hl with | [_, _], _ => rfl
  have b42 := F42.binds (ps := ["inline", "inner"]) fun _ _ _ _ _ _ us hl => match us, hl with | [_, _], _ => rfl
  have b43 := F43.binds (ps := ["row", "inner"]) fun _ _ _ _ _ _ us hl => match us, hl with | [_, _], _ => rfl
  have b44 := F44.binds (ps := ["inline", "rows"]) fun _ _ _ _ _ _ us hl => match us, hl with | [_, _], _ => rfl
  have b45 := F45.binds (ps := ["_law_cell"]) fun _ _ _ _ _ _ us hl => match us, hl with | [_], _ => rfl
  have b46 := F46.binds (ps := ["_law_well_here", "_law_many"]) fun _ _ _ _ _ _ us hl => match us, hl with | [_, _], _ => rfl
  have b47 := F47.binds (ps := ["_law_well_here", "_law_some"]) fun _ _ _ _ _ _ us hl => match us, hl with | [_, _], _ => rfl
  have b48 := F48.binds (ps := ["_law_well_here", "_law_most"]) fun _ _ _ _ _ _ us hl => match us, hl with | [_, _], _ => rfl
  have b49 := F49.binds (ps := ["_law_well_here"]) fun _ _ _ _ _ _ us hl => match us, hl with | [_], _ => rfl
  have b50 := F50.binds (ps := ["_law_well_here", "_law_deep", "_law_is_linked", "_law_has_html"]) fun _ _ _ _ _ _ us hl => match us, hl with | [_, _, _, _], _ => rfl
  have b51 := F51.binds (ps := ["_law_well_here", "_law_deep", "_law_is_linked", "_law_has_html"]) fun _ _ _ _ _ _ us hl => match us, hl with | [_, _, _, _], _ => rfl
  have b52 := F52.binds (ps := ["_law_well_here", "_law_deep", "_law_has_html"]) fun _ _ _ _ _ _ us hl => match us, hl with | [_, _, _], _ => rfl
  have b53 := F53.binds (ps := ["_law_well_here", "_law_deep", "_law_has_html"]) fun _ _ _ _ _ _ us hl => match us, hl with | [_, _, _], _ => rfl
  have b54 := F54.binds (ps := ["_law_text"]) fun _ _ _ _ _ _ us hl => match us, hl with | [_], _ => rfl
  have b55 := F55.binds (ps := ["_law_well_here", "_law_blocks_here"]) fun _ _ _ _ _ _ us hl => match us, hl with | [_, _], _ => rfl
  have b56 := F56.binds (ps := ["_law_well_here", "_law_blocks_here"]) fun _ _ _ _ _ _ us hl => match us, hl with | [_, _], _ => rfl
  have T : Txt w K mg := {
    a_is_escape := f0, d_is_escape := _, f_is_escape := F0, g_is_escape := PySem.W.mg_of X G a0, b_is_escape := b0,
    a_first_plain := f1, d_first_plain := _, f_first_plain := F1, g_first_plain := PySem.W.mg_of X G a1, b_first_plain := b1,
    a_rows_in_block := f2, d_rows_in_block := _, f_rows_in_block := F2, g_rows_in_block := PySem.W.mg_of X G a2, b_rows_in_block := b2,
    a_rows_in_inline := f3, d_rows_in_inline := _, f_rows_in_inline := F3, g_rows_in_inline := PySem.W.mg_of X G a3, b_rows_in_inline := b3,
    a_folded := f4, d_folded := _, f_folded := F4, g_folded := PySem.W.mg_of X G a4, b_folded := b4,
    a_is_label_text := f5, d_is_label_text := _, f_is_label_text := F5, g_is_label_text := PySem.W.mg_of X G a5, b_is_label_text := b5,
    a_is_label := f6, d_is_label := _, f_is_label := F6, g_is_label := PySem.W.mg_of X G a6, b_is_label := b6,
    a_label_at := f7, d_label_at := _, f_label_at := F7, g_label_at := PySem.W.mg_of X G a7, b_label_at := b7,
    a_is_integer_to := f8, d_is_integer_to := _, f_is_integer_to := F8, g_is_integer_to := PySem.W.mg_of X G a8, b_is_integer_to := b8,
    a_is_tree := f9, d_is_tree := _, f_is_tree := F9, g_is_tree := PySem.W.mg_of X G a9, b_is_tree := b9,
    a_rows_of_row := f10, d_rows_of_row := _, f_rows_of_row := F10, g_rows_of_row := PySem.W.mg_of X G a10, b_rows_of_row := b10,
    a_rows_of_one := f11, d_rows_of_one := _, f_rows_of_one := F11, g_rows_of_one := PySem.W.mg_of X G a11, b_rows_of_one := b11,
    a_block_rows := f12, d_block_rows := _, f_block_rows := F12, g_block_rows := PySem.W.mg_of X G a12, b_block_rows := b12,
    a_quote_rows := f13, d_quote_rows := _, f_quote_rows := F13, g_quote_rows := PySem.W.mg_of X G a13, b_quote_rows := b13,
    a_list_rows := f14, d_list_rows := _, f_list_rows := F14, g_list_rows := PySem.W.mg_of X G a14, b_list_rows := b14,
    a_heading_rows := f15, d_heading_rows := _, f_heading_rows := F15, g_heading_rows := PySem.W.mg_of X G a15, b_heading_rows := b15,
    a_break_rows := f16, d_break_rows := _, f_break_rows := F16, g_break_rows := PySem.W.mg_of X G a16, b_break_rows := b16,
    a_code_rows := f17, d_code_rows := _, f_code_rows := F17, g_code_rows := PySem.W.mg_of X G a17, b_code_rows := b17,
    a_html_rows := f18, d_html_rows := _, f_html_rows := F18, g_html_rows := PySem.W.mg_of X G a18, b_html_rows := b18,
    a_definition_rows := f19, d_definition_rows := _, f_definition_rows := F19, g_definition_rows := PySem.W.mg_of X G a19, b_definition_rows := b19,
    a_paragraph_rows := f20, d_paragraph_rows := _, f_paragraph_rows := F20, g_paragraph_rows := PySem.W.mg_of X G a20, b_paragraph_rows := b20,
    a_inline_rows := f21, d_inline_rows := _, f_inline_rows := F21, g_inline_rows := PySem.W.mg_of X G a21, b_inline_rows := b21,
    a_link_rows := f22, d_link_rows := _, f_link_rows := F22, g_link_rows := PySem.W.mg_of X G a22, b_link_rows := b22,
    a_none_if_not := f23, d_none_if_not := _, f_none_if_not := F23, g_none_if_not := PySem.W.mg_of X G a23, b_none_if_not := b23,
    a_is_text := f24, d_is_text := _, f_is_text := F24, g_is_text := PySem.W.mg_of X G a24, b_is_text := b24,
    a_is_lines := f25, d_is_lines := _, f_is_lines := F25, g_is_lines := PySem.W.mg_of X G a25, b_is_lines := b25,
    a_is_filled := f26, d_is_filled := _, f_is_filled := F26, g_is_filled := PySem.W.mg_of X G a26, b_is_filled := b26,
    a_fits_start := f27, d_fits_start := _, f_fits_start := F27, g_fits_start := PySem.W.mg_of X G a27, b_fits_start := b27,
    a_fits_target := f28, d_fits_target := _, f_fits_target := F28, g_fits_target := PySem.W.mg_of X G a28, b_fits_target := b28,
    a_page := f29, d_page := _, f_page := F29, g_page := PySem.W.mg_of X G a29, b_page := b29,
    a_escaped := f30, d_escaped := _, f_escaped := F30, g_escaped := PySem.W.mg_of X G a30, b_escaped := b30,
    a_words := f31, d_words := _, f_words := F31, g_words := PySem.W.mg_of X G a31, b_words := b31,
    a_block_pages := f32, d_block_pages := _, f_block_pages := F32, g_block_pages := PySem.W.mg_of X G a32, b_block_pages := b32,
    a_joined_pages := f33, d_joined_pages := _, f_joined_pages := F33, g_joined_pages := PySem.W.mg_of X G a33, b_joined_pages := b33,
    a_pages_of_block := f34, d_pages_of_block := _, f_pages_of_block := F34, g_pages_of_block := PySem.W.mg_of X G a34, b_pages_of_block := b34,
    a_leaf_page := f35, d_leaf_page := _, f_leaf_page := F35, g_leaf_page := PySem.W.mg_of X G a35, b_leaf_page := b35,
    a_language := f36, d_language := _, f_language := F36, g_language := PySem.W.mg_of X G a36, b_language := b36,
    a_list_page := f37, d_list_page := _, f_list_page := F37, g_list_page := PySem.W.mg_of X G a37, b_list_page := b37,
    a_item_page := f38, d_item_page := _, f_item_page := F38, g_item_page := PySem.W.mg_of X G a38, b_item_page := b38,
    a_inline_page := f39, d_inline_page := _, f_inline_page := F39, g_inline_page := PySem.W.mg_of X G a39, b_inline_page := b39,
    a_row_page := f40, d_row_page := _, f_row_page := F40, g_row_page := PySem.W.mg_of X G a40, b_row_page := b40,
    a_page_of_inline := f41, d_page_of_inline := _, f_page_of_inline := F41, g_page_of_inline := PySem.W.mg_of X G a41, b_page_of_inline := b41,
    a_page_of_link := f42, d_page_of_link := _, f_page_of_link := F42, g_page_of_link := PySem.W.mg_of X G a42, b_page_of_link := b42,
    a_row_words := f43, d_row_words := _, f_row_words := F43, g_row_words := PySem.W.mg_of X G a43, b_row_words := b43,
    a_words_of_inline := f44, d_words_of_inline := _, f_words_of_inline := F44, g_words_of_inline := PySem.W.mg_of X G a44, b_words_of_inline := b44,
    a__law_well := f45, d__law_well := _, f__law_well := F45, g__law_well := PySem.W.mg_of X G a45, b__law_well := b45,
    a__law_draw := f46, d__law_draw := _, f__law_draw := F46, g__law_draw := PySem.W.mg_of X G a46, b__law_draw := b46,
    a__law_one := f47, d__law_one := _, f__law_one := F47, g__law_one := PySem.W.mg_of X G a47, b__law_one := b47,
    a__law_string := f48, d__law_string := _, f__law_string := F48, g__law_string := PySem.W.mg_of X G a48, b__law_string := b48,
    a__law_target := f49, d__law_target := _, f__law_target := F49, g__law_target := PySem.W.mg_of X G a49, b__law_target := b49,
    a__law_inline := f50, d__law_inline := _, f__law_inline := F50, g__law_inline := PySem.W.mg_of X G a50, b__law_inline := b50,
    a__law_row := f51, d__law_row := _, f__law_row := F51, g__law_row := PySem.W.mg_of X G a51, b__law_row := b51,
    a__law_block := f52, d__law_block := _, f__law_block := F52, g__law_block := PySem.W.mg_of X G a52, b__law_block := b52,
    a__law_blocks := f53, d__law_blocks := _, f__law_blocks := F53, g__law_blocks := PySem.W.mg_of X G a53, b__law_blocks := b53,
    a__law_closed := f54, d__law_closed := _, f__law_closed := F54, g__law_closed := PySem.W.mg_of X G a54, b__law_closed := b54,
    a__law_defined := f55, d__law_defined := _, f__law_defined := F55, g__law_defined := PySem.W.mg_of X G a55, b__law_defined := b55,
    a__law_informed := f56, d__law_informed := _, f__law_informed := F56, g__law_informed := PySem.W.mg_of X G a56, b__law_informed := b56,
    z_ValueError := PySem.W.mg_none_of X G z_ValueError,
    z_bool := PySem.W.mg_none_of X G z_bool,
    z_int := PySem.W.mg_none_of X G z_int,
    z_isinstance := PySem.W.mg_none_of X G z_isinstance,
    z_len := PySem.W.mg_none_of X G z_len,
    z_list := PySem.W.mg_none_of X G z_list,
    z_range := PySem.W.mg_none_of X G z_range,
    z_reversed := PySem.W.mg_none_of X G z_reversed,
    z_str := PySem.W.mg_none_of X G z_str,
    z_super := PySem.W.mg_none_of X G z_super,
    z_tuple := PySem.W.mg_none_of X G z_tuple,
    z_zip := PySem.W.mg_none_of X G z_zip,
    t_INLINE_WHITE := t_INLINE_WHITE, g_INLINE_WHITE := PySem.W.mg_of X G q_INLINE_WHITE,
    t_ALLOWED := t_ALLOWED, g_ALLOWED := PySem.W.mg_of X G q_ALLOWED,
    t_PUNCTUATION := t_PUNCTUATION, g_PUNCTUATION := PySem.W.mg_of X G q_PUNCTUATION,
    t_LONGEST_LABEL := t_LONGEST_LABEL, g_LONGEST_LABEL := PySem.W.mg_of X G q_LONGEST_LABEL,
    t_BLOCKS := t_BLOCKS, g_BLOCKS := PySem.W.mg_of X G q_BLOCKS,
    t_INLINES := t_INLINES, g_INLINES := PySem.W.mg_of X G q_INLINES,
    t_LINKED := t_LINKED, g_LINKED := PySem.W.mg_of X G q_LINKED,
    t_MOST_ROWS := t_MOST_ROWS, g_MOST_ROWS := PySem.W.mg_of X G q_MOST_ROWS,
    t_HIGHEST_LEVEL := t_HIGHEST_LEVEL, g_HIGHEST_LEVEL := PySem.W.mg_of X G q_HIGHEST_LEVEL,
    t_HIGHEST_START := t_HIGHEST_START, g_HIGHEST_START := PySem.W.mg_of X G q_HIGHEST_START,
    a_BLOCK_LENGTHS := A_BLOCK_LENGTHS, g_BLOCK_LENGTHS := PySem.W.mg_of X G q_BLOCK_LENGTHS, k_BLOCK_LENGTHS := ⟨_, _, ⟨L_BLOCK_LENGTHS, KL_BLOCK_LENGTHS, W_BLOCK_LENGTHS⟩, EN_BLOCK_LENGTHS⟩,
    a_BLOCK_CHECKS := A_BLOCK_CHECKS, g_BLOCK_CHECKS := PySem.W.mg_of X G q_BLOCK_CHECKS, k_BLOCK_CHECKS := ⟨_, _, ⟨L_BLOCK_CHECKS, KL_BLOCK_CHECKS, W_BLOCK_CHECKS⟩, EN_BLOCK_CHECKS⟩ }
  have T_NoTree := cls_NoTree (P := l.prog) h1_NoTree h2_NoTree h3_NoTree h4_NoTree h5_NoTree h6_NoTree h7_NoTree h8_NoTree h9_NoTree h10_NoTree h11_NoTree h12_NoTree h13_NoTree h14_NoTree h15_NoTree o_any h17_NoTree h18_NoTree o_top
  have Z : ZT l.prog K mg := {
    z_super := PySem.W.mg_none_of X G z_super,
    a_NoTree := C_NoTree, f_NoTree := F_NoTree, d_NoTree := _, g_NoTree := PySem.W.mg_of X G q_NoTree, t_NoTree := T_NoTree, m_NoTree := exm_one h4_NoTree m1_NoTree h5_NoTree m2_NoTree, b_NoTree := fun _ _ => .of_eq rfl }
  exact ⟨PySem.W.fnOf "law" "law" (defArgs s_law) (defBody s_law) (defScope s_law) .none kV57 dc57 pm57 an57 cd57 ct57, fun s v => .of_eq rfl, fun base _ _ => ok_law T Z F57⟩
end K16
open PySem PySem.W PyProof.Rows
set_option maxHeartbeats 0 in
theorem PySem.Challenge.cw_plainmark_k16_whole_facts_of_pages_holds : PySem.Challenge.rw_plainmark_k16_whole_facts_of_pages.Holds := by
  w_on; o_law; k_head; (case hw => w_witness2)
  k_fill
  refine L2.walk_of (l := PySem.Challenge.rw_plainmark_k16_whole_facts_of_pages) (n := 63) (k := 40) (x := "_law_script") (CX := fun _ => L2.CX0) (sp := fun w => K16.sp_law _) rfl (by decide) rfl ⟨rfl, by decide, by decide⟩ (fun w h Y => PySem.W.kIn_of Y) ?F (fun _ _ a ns hl _ hS => ⟨a, ns, rfl, hS, hl, fun _ => rfl⟩) (fun _ _ _ _ _ h => h)
  case F =>
    intro w mg fa h KX G hmg
    refine' K16.all_mk KX G hmg ?a0 ?l0 ?c0 ?k0 ?a1 ?l1 ?c1 ?k1 ?a2 ?l2 ?c2 ?k2 ?a3 ?l3 ?c3 ?k3 ?a4 ?l4 ?c4 ?k4 ?a5 ?l5 ?c5 ?k5 ?a6 ?l6 ?c6 ?k6 ?a7 ?l7 ?c7 ?k7 ?a8 ?l8 ?c8 ?k8 ?a9 ?l9 ?c9 ?k9 ?a10 ?l10 ?c10 ?k10 ?a11 ?l11 ?c11 ?k11 ?a12 ?l12 ?c12 ?k12 ?a13 ?l13 ?c13 ?k13 ?a14 ?l14 ?c14 ?k14 ?a15 ?l15 ?c15 ?k15 ?a16 ?l16 ?c16 ?k16 ?a17 ?l17 ?c17 ?k17 ?a18 ?l18 ?c18 ?k18 ?a19 ?l19 ?c19 ?k19 ?a20 ?l20 ?c20 ?k20 ?a21 ?l21 ?c21 ?k21 ?a22 ?l22 ?c22 ?k22 ?a23 ?l23 ?c23 ?k23 ?a24 ?l24 ?c24 ?k24 ?a25 ?l25 ?c25 ?k25 ?a26 ?l26 ?c26 ?k26 ?a27 ?l27 ?c27 ?k27 ?a28 ?l28 ?c28 ?k28 ?a29 ?l29 ?c29 ?k29 ?a30 ?l30 ?c30 ?k30 ?a31 ?l31 ?c31 ?k31 ?a32 ?l32 ?c32 ?k32 ?a33 ?l33 ?c33 ?k33 ?a34 ?l34 ?c34 ?k34 ?a35 ?l35 ?c35 ?k35 ?a36 ?l36 ?c36 ?k36 ?a37 ?l37 ?c37 ?k37 ?a38 ?l38 ?c38 ?k38 ?a39 ?l39 ?c39 ?k39 ?a40 ?l40 ?c40 ?k40 ?a41 ?l41 ?c41 ?k41 ?a42 ?l42 ?c42 ?k42 ?a43 ?l43 ?c43 ?k43 ?a44 ?l44 ?c44 ?k44 ?a45 ?l45 ?c45 ?k45 ?a46 ?l46 ?c46 ?k46 ?a47 ?l47 ?c47 ?k47 ?a48 ?l48 ?c48 ?k48 ?a49 ?l49 ?c49 ?k49 ?a50 ?l50 ?c50 ?k50 ?a51 ?l51 ?c51 ?k51 ?a52 ?l52 ?c52 ?k52 ?a53 ?l53 ?c53 ?k53 ?a54 ?l54 ?c54 ?k54 ?a55 ?l55 ?c55 ?k55 ?a56 ?l56 ?c56 ?k56 ?a57 ?l57 ?c57 ?k57 ?z_ValueError ?z_bool ?z_int ?z_isinstance ?z_len ?z_list ?z_range ?z_reversed ?z_str ?z_super ?z_tuple ?z_zip ?q_INLINE_WHITE ?q_ALLOWED ?q_PUNCTUATION ?q_LONGEST_LABEL ?q_BLOCKS ?q_INLINES ?q_LINKED ?q_MOST_ROWS ?q_HIGHEST_LEVEL ?q_HIGHEST_START ?q_BLOCK_LENGTHS ?L_BLOCK_LENGTHS ?KL_BLOCK_LENGTHS ?W_BLOCK_LENGTHS ?EN_BLOCK_LENGTHS ?q_BLOCK_CHECKS ?L_BLOCK_CHECKS ?KL_BLOCK_CHECKS ?W_BLOCK_CHECKS ?EN_BLOCK_CHECKS ?o_any ?o_top ?q_NoTree ?h1_NoTree ?h2_NoTree ?h3_NoTree ?h4_NoTree ?h5_NoTree ?h6_NoTree ?h7_NoTree ?h8_NoTree ?h9_NoTree ?h10_NoTree ?h11_NoTree ?h12_NoTree ?h13_NoTree ?h14_NoTree ?h15_NoTree ?h17_NoTree ?h18_NoTree ?m1_NoTree ?m2_NoTree
    (case a0 => k_is); (case l0 => k_is); (case c0 => k_is); (case k0 => k_is); (case a1 => k_is); (case l1 => k_is); (case c1 => k_is); (case k1 => k_is); (case a2 => k_is); (case l2 => k_is); (case c2 => k_is); (case k2 => k_is); (case a3 => k_is); (case l3 => k_is); (case c3 => k_is); (case k3 => k_is); (case a4 => k_is); (case l4 => k_is); (case c4 => k_is); (case k4 => k_is); (case a5 => k_is); (case l5 => k_is); (case c5 => k_is); (case k5 => k_is); (case a6 => k_is); (case l6 => k_is); (case c6 => k_is); (case k6 => k_is); (case a7 => k_is); (case l7 => k_is); (case c7 => k_is); (case k7 => k_is); (case a8 => k_is); (case l8 => k_is); (case c8 => k_is); (case k8 => k_is); (case a9 => k_is); (case l9 => k_is); (case c9 => k_is); (case k9 => k_is); (case a10 => k_is); (case l10 => k_is); (case c10 => k_is); (case k10 => k_is); (case a11 => k_is); (case l11 => k_is); (case c11 => k_is); (case k11 => k_is); (case a12 => k_is); (case l12 => k_is); (case c12 => k_is); (case k12 => k_is); (case a13 => k_is); (case l13 => k_is); (case c13 => k_is); (case k13 => k_is); (case a14 => k_is); (case l14 => k_is); (case c14 => k_is); (case k14 => k_is); (case a15 => k_is); (case l15 => k_is); (case c15 => k_is); (case k15 => k_is); (case a16 => k_is); (case l16 => k_is); (case c16 => k_is); (case k16 => k_is); (case a17 => k_is); (case l17 => k_is); (case c17 => k_is); (case k17 => k_is); (case a18 => k_is); (case l18 => k_is); (case c18 => k_is); (case k18 => k_is); (case a19 => k_is); (case l19 => k_is); (case c19 => k_is); (case k19 => k_is); (case a20 => k_is); (case l20 => k_is); (case c20 => k_is); (case k20 => k_is); (case a21 => k_is); (case l21 => k_is); (case c21 => k_is); (case k21 => k_is); (case a22 => k_is); (case l22 => k_is); (case c22 => k_is); (case k22 => k_is); (case a23 => k_is); (case l23 => k_is); (case c23 => k_is); (case k23 => k_is); (case a24 => k_is); (case l24 => k_is); (case c24 => k_is); (case k24 => k_is); (case a25 => k_is); (case l25 => k_is); (case c25 => k_is); (case k25 => k_is); (case a26 => k_is); (case l26 => k_is); (case c26 => k_is); (case k26 => k_is); (case a27 => k_is); (case l27 => k_is); (case c27 => k_is); (case k27 => k_is); (case a28 => k_is); (case l28 => k_is); (case c28 => k_is); (case k28 => k_is); (case a29 => k_is); (case l29 => k_is); (case c29 => k_is); (case k29 => k_is); (case a30 => k_is); (case l30 => k_is); (case c30 => k_is); (case k30 => k_is); (case a31 => k_is); (case l31 => k_is); (case c31 => k_is); (case k31 => k_is); (case a32 => k_is); (case l32 => k_is); (case c32 => k_is); (case k32 => k_is); (case a33 => k_is); (case l33 => k_is); (case c33 => k_is); (case k33 => k_is); (case a34 => k_is); (case l34 => k_is); (case c34 => k_is); (case k34 => k_is); (case a35 => k_is); (case l35 => k_is); (case c35 => k_is); (case k35 => k_is); (case a36 => k_is); (case l36 => k_is); (case c36 => k_is); (case k36 => k_is); (case a37 => k_is); (case l37 => k_is); (case c37 => k_is); (case k37 => k_is); (case a38 => k_is); (case l38 => k_is); (case c38 => k_is); (case k38 => k_is); (case a39 => k_is); (case l39 => k_is); (case c39 => k_is); (case k39 => k_is); (case a40 => k_is); (case l40 => k_is); (case c40 => k_is); (case k40 => k_is); (case a41 => k_is); (case l41 => k_is); (case c41 => k_is); (case k41 => k_is); (case a42 => k_is); (case l42 => k_is); (case c42 => k_is); (case k42 => k_is); (case a43 => k_is); (case l43 => k_is); (case c43 => k_is); (case k43 => k_is); (case a44 => k_is); (case l44 => k_is); (case c44 => k_is); (case k44 => k_is); (case a45 => k_is); (case l45 => k_is); (case c45 => k_is); (case k45 => k_is); (case a46 => k_is); (case l46 => k_is); (case c46 => k_is); (case k46 => k_is); (case a47 => k_is); (case l47 => k_is); (case c47 => k_is); (case k47 => k_is); (case a48 => k_is); (case l48 => k_is); (case c48 => k_is); (case k48 => k_is); (case a49 => k_is); (case l49 => k_is); (case c49 => k_is); (case k49 => k_is); (case a50 => k_is); (case l50 => k_is); (case c50 => k_is); (case k50 => k_is); (case a51 => k_is); (case l51 => k_is); (case c51 => k_is); (case k51 => k_is); (case a52 => k_is); (case l52 => k_is); (case c52 => k_is); (case k52 => k_is); (case a53 => k_is); (case l53 => k_is); (case c53 => k_is); (case k53 => k_is); (case a54 => k_is); (case l54 => k_is); (case c54 => k_is); (case k54 => k_is); (case a55 => k_is); (case l55 => k_is); (case c55 => k_is); (case k55 => k_is); (case a56 => k_is); (case l56 => k_is); (case c56 => k_is); (case k56 => k_is); (case a57 => k_is); (case l57 => k_is); (case c57 => k_is); (case k57 => k_is); (case z_ValueError => k_is); (case z_bool => k_is); (case z_int => k_is); (case z_isinstance => k_is); (case z_len => k_is); (case z_list => k_is); (case z_range => k_is); (case z_reversed => k_is); (case z_str => k_is); (case z_super => k_is); (case z_tuple => k_is); (case z_zip => k_is); (case q_INLINE_WHITE => k_is); (case q_ALLOWED => k_is); (case q_PUNCTUATION => k_is); (case q_LONGEST_LABEL => k_is); (case q_BLOCKS => k_is); (case q_INLINES => k_is); (case q_LINKED => k_is); (case q_MOST_ROWS => k_is); (case q_HIGHEST_LEVEL => k_is); (case q_HIGHEST_START => k_is); (case q_BLOCK_LENGTHS => k_is); (case L_BLOCK_LENGTHS => k_is); (case KL_BLOCK_LENGTHS => exact ⟨⟨_, _, rfl, rfl⟩, ⟨⟨_, _, rfl, rfl⟩, ⟨⟨_, _, rfl, rfl⟩, ⟨⟨_, _, rfl, rfl⟩, ⟨⟨_, _, rfl, rfl⟩, ⟨⟨_, _, rfl, rfl⟩, ⟨⟨_, _, rfl, rfl⟩, ⟨⟨_, _, rfl, rfl⟩, True.intro⟩⟩⟩⟩⟩⟩⟩⟩); (case W_BLOCK_LENGTHS => rfl); (case EN_BLOCK_LENGTHS => exact ⟨⟨_, rfl⟩, ⟨_, rfl⟩, ⟨⟨_, rfl⟩, ⟨_, rfl⟩, ⟨⟨_, rfl⟩, ⟨_, rfl⟩, ⟨⟨_, rfl⟩, ⟨_, rfl⟩, ⟨⟨_, rfl⟩, ⟨_, rfl⟩, ⟨⟨_, rfl⟩, ⟨_, rfl⟩, ⟨⟨_, rfl⟩, ⟨_, rfl⟩, ⟨⟨_, rfl⟩, ⟨_, rfl⟩, True.intro⟩⟩⟩⟩⟩⟩⟩⟩); (case q_BLOCK_CHECKS => k_is); (case L_BLOCK_CHECKS => k_is); (case KL_BLOCK_CHECKS => exact ⟨⟨_, _, rfl, rfl⟩, ⟨⟨_, _, rfl, rfl⟩, ⟨⟨_, _, rfl, rfl⟩, ⟨⟨_, _, rfl, rfl⟩, ⟨⟨_, _, rfl, rfl⟩, ⟨⟨_, _, rfl, rfl⟩, ⟨⟨_, _, rfl, rfl⟩, ⟨⟨_, _, rfl, rfl⟩, True.intro⟩⟩⟩⟩⟩⟩⟩⟩); (case W_BLOCK_CHECKS => rfl); (case EN_BLOCK_CHECKS => exact ⟨⟨_, rfl⟩, rfl, ⟨⟨_, rfl⟩, rfl, ⟨⟨_, rfl⟩, rfl, ⟨⟨_, rfl⟩, rfl, ⟨⟨_, rfl⟩, rfl, ⟨⟨_, rfl⟩, rfl, ⟨⟨_, rfl⟩, rfl, ⟨⟨_, rfl⟩, rfl, True.intro⟩⟩⟩⟩⟩⟩⟩⟩); (case o_any => k_is); (case o_top => first | rfl | k_is | decide +kernel); (case q_NoTree => k_is); (case h1_NoTree => k_is); (case h2_NoTree => first | rfl | k_is | decide +kernel); (case h3_NoTree => k_is); (case h4_NoTree => k_is); (case h5_NoTree => k_is); (case h6_NoTree => k_is); (case h7_NoTree => k_is); (case h8_NoTree => k_is); (case h9_NoTree => k_is); (case h10_NoTree => k_is); (case h11_NoTree => k_is); (case h12_NoTree => first | rfl | k_is | decide +kernel); (case h13_NoTree => first | rfl | k_is | decide +kernel); (case h14_NoTree => k_is); (case h15_NoTree => k_is); (case h17_NoTree => ks_is); (case h18_NoTree => k_is); (case m1_NoTree => k_is); (case m2_NoTree => k_is)
