import PyProof.Rows.All
import Wide.All
import OpenK.AllK
import Wide.FinOn
import HandS.ForMost
import HandS.Wide
import HandS.StrMore
import HandS.Style
import HandS.Flow
import HandS.Walk
import PyProof.Draws
import PyProof.StrOps2

import HandS.IntHex
import HandS.Dict
import HandS.More
import KE.KIntText
import HandS.ReplaceLit
import PyProof.ToksMono
import HandS.CallLocal
import HandS.RevRange
import HandS.Conv
import HandS.Zip
import HandS.TupAny
import HandS.ReplaceDef
import HandS.ReplaceList
import KE.GoesMore
import KE.GoesZip
import OpenK.KMore
import HandS.IsInst
import HandS.FStr
import HandS.TryOnly
import HandS.WordsExc
import KE.KSuper
import KE.KExcSuper
import HandS.ExcInit
import HandS.ExcIs
import HandS.ExcOwn
import HandS.ExcValue
import HandS.ExcField
import HandS.MakeKwOnly
import KE.RegKSuper
import KE.RegKIsAll
import PyProof.Rows.StrSplitMax
import HandS.StrSplit
import HandS.Style
import PyProof.ReprRoads
import PySem.Challenge.RW_plainmark_k80_edits_there_and_back

set_option Elab.async false
set_option linter.all false
set_option maxRecDepth 100000
/-! words of my own over the hand layer -/
namespace My
open PySem PySem.Spec PyProof.Rows L2

/-- a text by its signs -/
def S (l : List Nat) : Str := ⟨l.toArray⟩
theorem S_tl (l : List Nat) : (S l).cps.toList = l := by simp [S]
theorem S_of (z : Str) : z = S z.cps.toList := by
  cases z
  simp [S]
theorem S_len (l : List Nat) : (S l).length = l.length := by simp [S, Str.length]
theorem S_size (l : List Nat) : (S l).cps.size = l.length := by simp [S]
theorem S_get (l : List Nat) (i : Nat) : (S l).cps[i]? = l[i]? := by simp [S]
theorem S_app (a b : List Nat) : S a ++ S b = S (a ++ b) := by
  show (⟨a.toArray ++ b.toArray⟩ : Str) = ⟨(a ++ b).toArray⟩
  simp
theorem S_inj {a b : List Nat} (h : S a = S b) : a = b := by
  have := congrArg (fun z : Str => z.cps.toList) h
  simpa [S] using this
theorem S_dec (a b : List Nat) : decide (V.str (S a) = V.str (S b)) = decide (a = b) := by
  by_cases h : a = b
  · subst h
    simp
  · have h2 : ¬ V.str (S a) = V.str (S b) := fun e => h (S_inj (V.str.inj e))
    simp [h, h2]
theorem S_cut (l : List Nat) (k : Nat) : cutS (S l) (some (k : Int)) none = S (l.drop k) := by
  unfold cutS
  rw [HT.sIx_nat, HT.sIx_none, S_len, S_tl]
  show S _ = S _
  congr 1
  by_cases h : k ≤ l.length
  · rw [Nat.min_eq_left h]
    exact List.take_of_length_le (by rw [List.length_drop]; omega)
  · rw [Nat.min_eq_right (by omega), Nat.sub_self, List.take_zero, List.drop_of_length_le (by omega)]
theorem S_cut2 (l : List Nat) (j k : Nat) (h : j ≤ k) : cutS (S l) (some (j : Int)) (some (k : Int)) = S ((l.drop j).take (k - j)) := by
  unfold cutS
  rw [HT.sIx_nat, HT.sIx_nat, S_len, S_tl]
  show S _ = S _
  congr 1
  by_cases h1 : j ≤ l.length
  · rw [Nat.min_eq_left h1]
    by_cases h2 : k ≤ l.length
    · rw [Nat.min_eq_left h2]
    · rw [Nat.min_eq_right (by omega), List.take_of_length_le (by rw [List.length_drop]; omega), List.take_of_length_le (by rw [List.length_drop]; omega)]
  · rw [List.drop_of_length_le (by omega), List.drop_of_length_le (by omega), List.take_nil, List.take_nil]

/-- all that is tracked but L stays -/
def Keeps (L : Addr) (H H' : Hp) : Prop := ∀ b o, b ≠ L → H b = some o → H' b = some o
theorem Keeps.refl {L : Addr} (H : Hp) : Keeps L H H := fun _ _ _ h => h
theorem Keeps.trans {L : Addr} {H H1 H2 : Hp} (a : Keeps L H H1) (b : Keeps L H1 H2) : Keeps L H H2 := fun c o n h => b c o n (a c o n h)
theorem Keeps.new {L p : Addr} {H : Hp} {o : HO} (h : H p = none) : Keeps L H (upd H p o) := fun b u _ e => by
  rw [upd_ne (ne_of_none e h)]
  exact e
theorem Keeps.at {L : Addr} {H : Hp} {o : HO} : Keeps L H (upd H L o) := fun b u n e => by
  rw [upd_ne n]
  exact e
theorem Keeps.of {L : Addr} {H H' : Hp} (h : Same H H') : Keeps L H H' := fun b o _ e => h b o e
theorem same_new {p : Addr} {H : Hp} {o : HO} (h : H p = none) : Same H (upd H p o) := fun b u e => by
  rw [upd_ne (ne_of_none e h)]
  exact e
/-- a well of draws -/
def Well (H : Hp) (L : Addr) : Prop := ∃ x y : Int, H L = some (.lst [.int x, .int y])
theorem Well.same {H H' : Hp} {L : Addr} (h : Well H L) (s : Same H H') : Well H' L := by
  obtain ⟨x, y, e⟩ := h
  exact ⟨x, y, s _ _ e⟩
theorem Well.new {H : Hp} {L p : Addr} {o : HO} (h : Well H L) (n : H p = none) : Well (upd H p o) L := h.same (same_new n)
theorem Well.ne {H : Hp} {L p : Addr} (h : Well H L) (n : H p = none) : p ≠ L := by
  obtain ⟨x, y, e⟩ := h
  exact (ne_of_none e n).symm
theorem Well.kept {H H' : Hp} {L p : Addr} (h : Well H L) (k : Keeps L H H') (w : Well H' L) (n : H' p = none) : H p = none := by
  cases q : H p with
  | none => rfl
  | some o =>
    have z := k p o (w.ne n) q
    rw [n] at z
    cases z
theorem Keeps.free {L p : Addr} {H H' : Hp} (k : Keeps L H H') (n : H' p = none) (h : p ≠ L) : H p = none := by
  cases q : H p with
  | none => rfl
  | some o =>
    have z := k p o h q
    rw [n] at z
    cases z
theorem Keeps.seq {K : PySem.W.Frag} {L a : Addr} {H H' : Hp} {xs : List V} (k : Keeps L H H') (n : a ≠ L) (h : SqL K H a xs) : SqL K H' a xs := by
  rcases h with (h | ⟨o, h⟩) | h
  · exact .inl (.inl (k _ _ n h))
  · exact .inl (.inr ⟨o, k _ _ n h⟩)
  · exact .inr h
theorem Keeps.tup {K : PySem.W.Frag} {L a : Addr} {H H' : Hp} {xs : List V} (k : Keeps L H H') (n : a ≠ L) (h : SqT K H a xs) : SqT K H' a xs := by
  rcases h with (h | ⟨o, h⟩) | h
  · exact .inl (.inl (k _ _ n h))
  · exact .inl (.inr ⟨o, k _ _ n h⟩)
  · exact .inr h

section
variable {X : Cx}
/-- one sign, so often -/
theorem op_mul_str : OpR X (binaryOp .Mult) (fun x y H Q => ∃ (c j : Nat), x = .str (S [c]) ∧ y = .int (j : Int) ∧ j ≤ 1000 ∧ Q (.str (S (List.replicate j c))) H) := by
  intro pins s σ H x y v u Q I rx ry h
  obtain ⟨c, j, rfl, rfl, hj, q⟩ := h
  obtain ⟨t, rfl⟩ := rx
  obtain ⟨t', rfl⟩ := ry
  have hlen : (S [c]).length = 1 := S_len _
  refine PySem.P.mul_str (by simp; omega) (fun _ _ => by
    rw [hlen]
    have : (1 : Int) ≤ (2 ^ 63 - 1) / (j : Int) := by
      by_cases hj0 : j = 0
      · omega
      · refine Int.le_ediv_of_mul_le (by omega) ?_
        omega
    omega) (fun _ _ => by
    rw [hlen]
    have : (j : Int).toNat = j := by omega
    rw [this]
    exact decide_eq_false (by rw [sizeLine_eq]; omega)) ?_
  have fin : ∀ (l : List Nat), l = List.replicate j c → ∀ (v : Value) (k : Nat), RelV (.str (S l)) v → EP X pins σ Q v { s with toks := k } := fun l e v k r => ⟨.str (S l), H, I.tok _, r, by rw [e]; exact q⟩
  by_cases h0 : (j : Int) < 1
  · have e0 : j = 0 := by omega
    rw [if_pos h0]
    exact ⟨by decide, fin [] (by rw [e0]; rfl) _ _ ⟨_, rfl⟩⟩
  · rw [if_neg h0]
    by_cases h1 : j = 1
    · subst h1
      rw [if_pos (by rfl)]
      exact fin [c] rfl _ s.toks ⟨_, rfl⟩
    · rw [if_neg (by rw [hlen]; simp; omega)]
      have e : (⟨(List.replicate (j : Int).toNat (S [c]).cps).foldl (· ++ ·) #[]⟩ : Str) = S (List.replicate j c) := by
        have ej : (j : Int).toNat = j := by omega
        rw [ej]
        have gen : ∀ (n : Nat) (acc : List Nat), (List.replicate n (S [c]).cps).foldl (· ++ ·) acc.toArray = (acc ++ List.replicate n c).toArray := by
          intro n
          induction n with
          | zero => intro acc; simp
          | succ n ih =>
            intro acc
            rw [List.replicate_succ, List.foldl_cons]
            have : acc.toArray ++ (S [c]).cps = (acc ++ [c]).toArray := by simp [S]
            rw [this, ih, List.replicate_succ]
            simp
        have := gen j []
        simp at this
        unfold S
        congr 1
      rw [e]
      refine ⟨?_, fin _ rfl _ _ ⟨_, rfl⟩⟩
      rw [S_len, List.length_replicate, sizeLine_eq]
      omega

/-- a text with its places -/
def Its2 (z : Str) : It :=
  ⟨fun i _ => i < z.cps.size, fun i H v H' => ∃ T c, v = .ref T ∧ H T = none ∧ H' = upd H T (.tup [.int (i : Nat), .str (S [c])]) ∧ z.cps[i]? = some c, fun i _ => i = z.cps.size⟩
theorem turn_enumS {P : Program} {w : World} {K : PySem.W.Frag} {elts : List Expr} {kk : Nat} {tpos : Pos} (z : Str) (t : Tok) (e it : Addr) :
    Turn P w K (.Tuple elts kk tpos) (Its2 z) [e, it] e (fun i h => (∃ old, IsEnum h e it ((i : Nat) : Int) old) ∧ h.IsStrIter it (strIterType z) z t i ∧ e ≠ it) where
  mem := List.mem_cons_self ..
  obj := fun i h st b hb => by
    obtain ⟨⟨old, he⟩, ⟨o, ho, hc, hd⟩, _⟩ := st
    rcases List.mem_cons.mp hb with rfl | hb
    · exact ⟨_, he, fun v q => nomatch q⟩
    · rw [List.mem_singleton.mp hb]
      exact ⟨o, ho, fun v q => by rw [hd] at q; cases q⟩
  keep := fun i h h' st k => by
    obtain ⟨⟨old, he⟩, ⟨o, ho, r⟩, hne⟩ := st
    exact ⟨⟨old, k e (by simp) _ he⟩, ⟨o, k it (by simp) o ho, r⟩, hne⟩
  item := by
    intro X hP hw hK hc i pins s σ H E I hf st hg
    subst hP hw hK
    obtain ⟨⟨old, he⟩, hit, hne⟩ := st
    have hel : e < s.heap.objs.size := Heap.lt_size he
    have hil : it < s.heap.objs.size := by
      obtain ⟨_, q, _⟩ := hit
      exact Heap.lt_size q
    have hef : e ∉ [it] := fun q => hne (List.mem_singleton.mp q)
    have D : Draws X.prog X.w X.A.in1 it [it] z.cps.size (fun i v => ∃ c u, z.cps[i]? = some c ∧ v = .str ⟨#[c]⟩ u) (fun i h => h.IsStrIter it (strIterType z) z t i) := by
      unfold strIterType
      cases ha : z.cps.all (· < 128)
      · simpa [ha] using Draws.strWide (prog := X.prog) (w := X.w) (A := X.A.in1) (I.ok.hd hc) it z t
      · simpa [ha] using Draws.strAscii (prog := X.prog) (w := X.w) (A := X.A.in1) (I.ok.hd hc) it z t
    refine wpAny_pyNext_enum_itemD D he hit hg hne hef fun x h' tk hx ho hit' hT hsz hk => ?_
    obtain ⟨c, u, hcx, rfl⟩ := hx
    refine ⟨_, rfl, wpAny_letOwnedTupleGo_enum (s := { s with heap := h', toks := tk + 1 }) ho fun h'' he' sb => ?_⟩
    have hT2 : h''.get? s.heap.objs.size = some { cls := .type "tuple", data := .seq #[.int i tk, .str ⟨#[c]⟩ u] } := (sb.2 _ (Nat.ne_of_gt hel)).trans hT
    have new : ObjOk X.prog X.w (upd H s.heap.objs.size (.tup [.int (i : Nat), .str (S [c])])) h'' s.heap.objs.size (.tup [.int (i : Nat), .str (S [c])]) :=
      ⟨by show 2 ≤ sizeLine; decide, [.int i tk, .str ⟨#[c]⟩ u], .cons ⟨_, rfl⟩ (.cons ⟨_, rfl⟩ .nil), ⟨_, hT2, rfl, _, rfl⟩⟩
    have hold : ∀ b ob, b ∉ [e, it] → s.heap.get? b = some ob → h''.get? b = some ob := fun b ob hb q =>
      (sb.2 b (fun q => hb (by simp [q]))).trans (hk b ob (fun q => hb (by simp [q])) (fun q => hb (by simp [q])) q)
    have I1 : Inv X pins σ (upd H s.heap.objs.size (.tup [.int (i : Nat), .str (S [c])])) { s with heap := h'', toks := tk + 1 } :=
      I.turnedNew (t' := tk + 1) (ch := [e, it]) hold hf (Nat.le_refl _) new
    refine ⟨.ref s.heap.objs.size, _, I1, rfl, ⟨_, c, rfl, I.hok.fresh (Nat.le_refl _), rfl, hcx⟩, ⟨⟨.str ⟨#[c]⟩ u, ?_⟩, ?_, hne⟩, fun b hb => ?_⟩
    · have e1 : ((i + 1 : Nat) : Int) = (i : Int) + 1 := Int.natCast_succ i
      rw [e1]
      exact he'
    · obtain ⟨o, q, r⟩ := hit'
      exact ⟨o, (sb.2 it (Ne.symm hne)).trans q, r⟩
    · have hb' : b < s.heap.objs.size := by
        rcases List.mem_cons.mp hb with q | q
        · rw [q]
          exact hel
        · rw [List.mem_singleton.mp q]
          exact hil
      rw [upd_ne (Nat.ne_of_lt hb')]
      exact (hf b hb).1
  done := by
    intro X hP hw hK hc i pins s σ H E I hf st hg
    subst hP hw hK
    obtain ⟨⟨old, he⟩, hit, hne⟩ := st
    obtain ⟨f0, f1, f2, f3, f4, f5⟩ := hf it (by simp)
    have D : Draws X.prog X.w X.A.in1 it [it] z.cps.size (fun i v => ∃ c u, z.cps[i]? = some c ∧ v = .str ⟨#[c]⟩ u) (fun i h => h.IsStrIter it (strIterType z) z t i) := by
      unfold strIterType
      cases ha : z.cps.all (· < 128)
      · simpa [ha] using Draws.strWide (prog := X.prog) (w := X.w) (A := X.A.in1) (I.ok.hd hc) it z t
      · simpa [ha] using Draws.strAscii (prog := X.prog) (w := X.w) (A := X.A.in1) (I.ok.hd hc) it z t
    have hi : i = z.cps.size := hg
    subst hi
    exact wpAny_pyNext_enum_endD D he hit fun h' eb => ⟨rfl, I.turned (t' := s.toks) (fun b o hb q => eb b o hb q) f0 f1 f3 f4 f5⟩
  self := fun A i s Q E st h => by
    obtain ⟨⟨_, he⟩, _⟩ := st
    exact wpAny_pyIter_enum he h
def iEnumS (ta : TA) : TI := fun σ H R => ta σ H fun vs H1 => ∃ z, vs = [.str z] ∧ R (Its2 z) H1
theorem pi_enumS {e : Expr} {ta : TA} {p pos tpos : Pos} {elts : List Expr} {kk : Nat} (hg : Gl X "enumerate") (hm : X.mg "enumerate" = none) (ha : PA X [e] ta)
    (hs : starEach [e] X.env = [(false, eval e X.env)] := by rfl) : PI X (.Tuple elts kk tpos) (.Call (.Name "enumerate" p) [e] [] pos) (iEnumS ta) := by
  refine ⟨fun pins s σ H R I h => ?_⟩
  refine Call_ (ld_blt I hg hm boot_enumerate (PyProof.Rows.callWith_type1 (thn (ha.run pos pins s σ H _ I h) fun us s1 ⟨vs, H1, I1, r1, q1⟩ => ?_) hs rfl))
  obtain ⟨z, rfl, q⟩ := q1
  obtain ⟨u1, rfl, r⟩ := vals1 r1
  obtain ⟨t, rfl⟩ := r
  refine PySem.call_enumerate_str fun h' he hit hsz hk => wpAny_pyIter_enum he ?_
  have I2 : Inv X pins σ H1 { s1 with heap := h' } := I1.kept (t' := s1.toks) hk
  refine ⟨s1.heap.objs.size + 1, [s1.heap.objs.size + 1, s1.heap.objs.size], _, _, H1, rfl, I2, turn_enumS z t (s1.heap.objs.size + 1) s1.heap.objs.size, ⟨⟨.none, he⟩, hit, Nat.succ_ne_self _⟩, fun b hb => ?_, q⟩
  have hle : s1.heap.objs.size ≤ b := by
    rcases List.mem_cons.mp hb with q | q
    · rw [q]
      exact Nat.le_succ _
    · rw [List.mem_singleton.mp q]
      exact Nat.le_refl _
  exact I1.fpOk hle (I1.hok.fresh hle)
theorem walk_enumS {z : Str} : Walk (Its2 z) z.cps.size (fun _ => True) (fun i H v H' => ∃ T c, v = .ref T ∧ H T = none ∧ H' = upd H T (.tup [.int (i : Nat), .str (S [c])]) ∧ z.cps[i]? = some c) :=
  ⟨fun _ _ hi _ => hi, fun _ _ => rfl, fun _ _ _ _ _ _ y => y⟩
end

/-! ### data -/
def Sm (l : List Nat) : Prop := ∀ c ∈ l, c < 1114112
theorem Sm.ok {l : List Nat} (h : Sm l) : PyData.strOk (S l) = true := by
  unfold PyData.strOk S
  rw [Array.all_eq_true']
  intro c hc
  exact decide_eq_true (h c (by simpa using hc))
theorem Sm.drop {l : List Nat} (h : Sm l) (n : Nat) : Sm (l.drop n) := fun c hc => h c (List.mem_of_mem_drop hc)
theorem dp_strs {K : PySem.W.Frag} {H : Hp} : ∀ ls : List (List Nat), DpAll K H (ls.map fun l => V.str (S l)) (ls.map fun l => PyData.str (S l))
  | [] => .nil
  | l :: r => .cons (.str _) (dp_strs r)
theorem canLay_strs : ∀ {ls : List (List Nat)}, (∀ l ∈ ls, Sm l) → PyData.canLayAll0 (ls.map fun l => PyData.str (S l)) = true
  | [], _ => rfl
  | l :: r, h => by
    show (PyData.strOk (S l) && PyData.canLayAll0 (r.map fun l => PyData.str (S l))) = true
    rw [(h l (List.mem_cons_self ..)).ok, canLay_strs fun z hz => h z (List.mem_cons_of_mem _ hz)]
    rfl
theorem depth_strs : ∀ ls : List (List Nat), PyData.depthAll (ls.map fun l => PyData.str (S l)) = 0
  | [] => rfl
  | l :: r => by
    show max 0 (PyData.depthAll (r.map fun l => PyData.str (S l))) = 0
    rw [depth_strs r]
    rfl
theorem shaped_strs {ls : List (List Nat)} (h : ∀ l ∈ ls, Sm l) : SeqAt.shaped (.list (ls.map fun l => PyData.str (S l))) = true := by
  show (PyData.canLayAll0 _ && decide (PyData.depthAll _ + 1 ≤ 64)) = true
  rw [canLay_strs h, depth_strs]
  rfl
theorem eq_strs {ls : List (List Nat)} (h : ∀ l ∈ ls, Sm l) : PyData.eqv (.list (ls.map fun l => PyData.str (S l))) (.list (ls.map fun l => PyData.str (S l))) = true :=
  PySem.SeqAt.eqv_refl _ (canLay_strs h)
/-- a text and two ints -/
def D3 (l : List Nat) (b c : Int) : PyData := .tuple [.str (S l), .int b, .int c]
theorem dp3 {K : PySem.W.Frag} {H : Hp} {a : Addr} {l : List Nat} {b c : Int} (h : SqT K H a [.str (S l), .int b, .int c]) : Dp K H (.ref a) (D3 l b c) :=
  .tup h (.cons (.str _) (.cons (.int _) (.cons (.int _) .nil)))
theorem lay3 {l : List Nat} (h : Sm l) (b c : Int) : (D3 l b c).canLay0 = true := by
  show (PyData.strOk (S l) && (true && (true && true))) = true
  rw [h.ok]
  rfl
theorem shaped3 {l : List Nat} (h : Sm l) (b c : Int) : SeqAt.shaped (D3 l b c) = true := by
  show ((D3 l b c).canLay0 && decide ((D3 l b c).depth ≤ 64)) = true
  rw [lay3 h]
  rfl
theorem eq3 {l : List Nat} (h : Sm l) (b c : Int) : PyData.eqv (D3 l b c) (D3 l b c) = true := PySem.SeqAt.eqv_refl _ (lay3 h b c)

/-! ### a if t else b -/
def AnsB (t : TT) (σ : L2.St) (H : Hp) (b : Bool) : Prop := ∀ Q : Bool → Hp → Prop, Q b H → t σ H Q
def ValB (te : TE) (σ : L2.St) (H : Hp) (P : V → Hp → Prop) : Prop := ∀ Q : VK, (∀ v H', P v H' → Q v H') → te σ H Q
theorem tif_val {t : TT} {ta tb : TE} {σ : L2.St} {H : Hp} {P : V → Hp → Prop} (b : Bool) (ht : AnsB t σ H b) (ha : b = true → ValB ta σ H P) (hb : b = false → ValB tb σ H P) : ValB (tIf t ta tb) σ H P := by
  intro Q q
  refine ht _ ?_
  cases b with
  | true =>
    rw [if_pos rfl]
    exact ha rfl Q q
  | false =>
    rw [if_neg Bool.false_ne_true]
    exact hb rfl Q q
theorem sum_le : ∀ {ls : List (List Nat)} {k : Nat}, (∀ l ∈ ls, l.length ≤ k) → ((ls.map S).map (·.length)).sum ≤ k * ls.length
  | [], k, _ => by simp
  | a :: r, k, h => by
    have ih := sum_le (ls := r) (k := k) fun l hl => h l (List.mem_cons_of_mem _ hl)
    have ha := h a (List.mem_cons_self ..)
    rw [List.map_cons, List.map_cons, List.sum_cons, S_len, List.length_cons, Nat.mul_succ]
    omega

theorem asg_if {t : TT} {ta tb : TE} {g : TG} {u : TS} {D : Ends} {σ : L2.St} {H : Hp} (P : V → Hp → Prop) (b : Bool) (ht : AnsB t σ H b) (ha : b = true → ValB ta σ H P) (hb : b = false → ValB tb σ H P)
    (hq : ∀ v H', P v H' → g v σ H' (u D)) : tSeq (tAsg (tIf t ta tb) g) u D σ H :=
  tif_val b ht ha hb (fun v H' => g v σ H' (u D)) hq
theorem go_nx {D : Ends} {σ : L2.St} {H : Hp} (q : D.nx σ H) : tNext D σ H := q
end My

/-! ### texts by their signs: what the methods tell -/
namespace My
open PySem PySem.Spec PyProof.Rows L2 PySem.StrLaws PySem.Builtin.Str
theorem from_nat (n p : Nat) : fromIndex n (p : Int) = p := by
  unfold fromIndex
  have : ¬ (p : Int) < 0 := by omega
  rw [if_neg this]
  omega
theorem to_nat (n p : Nat) : toIndexW n (p : Int) = min n p := by
  unfold toIndexW
  have : ¬ (p : Int) < 0 := by omega
  rw [if_neg this]
  omega
theorem sub_S (t w : List Nat) (i : Nat) : subAt (S t) (S w) i = ((t.drop i).take w.length == w) := by
  rw [subAt_eq, S_tl, S_tl, S_len]
theorem take_pre : ∀ (w r : List Nat), (r.take w.length == w) = w.isPrefixOf r
  | [], r => by simp [List.isPrefixOf]
  | a :: w, [] => by simp [List.isPrefixOf]
  | a :: w, b :: r => by
    show (b :: r.take w.length == a :: w) = (a == b && w.isPrefixOf r)
    rw [← take_pre w r]
    show (b == a && (r.take w.length == w)) = _
    have e : (b == a) = (a == b) := by
      by_cases h : a = b
      · rw [h]
      · rw [beq_eq_false_iff_ne.mpr h, beq_eq_false_iff_ne.mpr fun e => h e.symm]
    rw [e]
theorem pre_len : ∀ (w r : List Nat), w.isPrefixOf r = true → w.length ≤ r.length
  | [], r, _ => Nat.zero_le _
  | a :: w, [], h => by cases h
  | a :: w, b :: r, h => by
    have h2 : w.isPrefixOf r = true := (Bool.and_eq_true_iff.mp (show (a == b && w.isPrefixOf r) = true from h)).2
    have := pre_len w r h2
    simp
    omega
theorem at_S (t w : List Nat) (hw : w ≠ []) (i : Nat) : At (S t) (S w) (S t).length i ↔ w.isPrefixOf (t.drop i) = true := by
  unfold At
  rw [sub_S, take_pre, S_len, S_len]
  constructor
  · exact fun h => h.2
  · intro h
    refine ⟨?_, h⟩
    have := pre_len _ _ h
    rw [List.length_drop] at this
    have h0 : 0 < w.length := List.length_pos_iff.mpr hw
    omega
theorem starts3 (t w : List Nat) (hw : w ≠ []) (p : Nat) : Txt.startswith3 (S t) (S w) (p : Int) = w.isPrefixOf (t.drop p) := by
  unfold Txt.startswith3
  rw [from_nat, sub_S, take_pre]
  cases h : w.isPrefixOf (t.drop p) with
  | false => simp
  | true =>
    have := (at_S t w hw p).mpr h
    have h1 : p + (S w).length ≤ (S t).length := this.1
    simp [h1]
theorem starts1 (t w : List Nat) (hw : w ≠ []) : Txt.startswith (S t) (S w) = w.isPrefixOf t := by
  have := starts3 t w hw 0
  unfold Txt.startswith3 at this
  rw [from_nat, List.drop_zero] at this
  exact this
/-- the first place of w -/
def findL (w : List Nat) : List Nat → Option Nat
  | [] => if w = [] then some 0 else none
  | c :: r => if w.isPrefixOf (c :: r) = true then some 0 else (findL w r).map (· + 1)
theorem findL_some {w : List Nat} : ∀ {r : List Nat} {k : Nat}, w ≠ [] → findL w r = some k → w.isPrefixOf (r.drop k) = true ∧ ∀ j, j < k → w.isPrefixOf (r.drop j) = false
  | [], k, hw, h => by
    unfold findL at h
    rw [if_neg hw] at h
    cases h
  | c :: r, k, hw, h => by
    unfold findL at h
    split at h
    · rename_i hp
      cases h
      exact ⟨hp, fun j hj => absurd hj (Nat.not_lt_zero _)⟩
    · rename_i hp
      cases hf : findL w r with
      | none => rw [hf] at h; cases h
      | some k' =>
        rw [hf] at h
        have e : k' + 1 = k := Option.some.inj h
        subst e
        obtain ⟨h1, h2⟩ := findL_some hw hf
        refine ⟨h1, fun j hj => ?_⟩
        cases j with
        | zero => exact eq_false_of_ne_true hp
        | succ j => exact h2 j (by omega)
theorem findL_none {w : List Nat} : ∀ {r : List Nat}, w ≠ [] → findL w r = none → ∀ j, w.isPrefixOf (r.drop j) = false
  | [], hw, _, j => by
    rw [List.drop_nil]
    cases w with
    | nil => exact absurd rfl hw
    | cons a w => rfl
  | c :: r, hw, h, j => by
    unfold findL at h
    split at h
    · cases h
    · rename_i hp
      cases hf : findL w r with
      | some k => rw [hf] at h; cases h
      | none =>
        cases j with
        | zero => exact eq_false_of_ne_true hp
        | succ j => exact findL_none hw hf j
theorem find3_S (t w : List Nat) (hw : w ≠ []) (p : Nat) : Txt.find3 (S t) (S w) (p : Int) = match findL w (t.drop p) with | some k => ((p + k : Nat) : Int) | none => -1 := by
  unfold Txt.find3
  rw [from_nat]
  rcases occ_head_from (S t) (S w) p 1 (Nat.le_refl _) with ⟨h0, hn⟩ | ⟨i, r, h0, hp, ha, hn⟩
  · rw [h0]
    cases hf : findL w (t.drop p) with
    | none => rfl
    | some k =>
      have h1 := (findL_some hw hf).1
      rw [List.drop_drop] at h1
      exact absurd ((at_S t w hw (p + k)).mpr h1) (hn (p + k) (by omega))
  · rw [h0]
    have ha' := (at_S t w hw i).mp ha
    cases hf : findL w (t.drop p) with
    | none =>
      have h1 := findL_none hw hf (i - p)
      rw [List.drop_drop, show p + (i - p) = i by omega, ha'] at h1
      cases h1
    | some k =>
      obtain ⟨h1, h2⟩ := findL_some hw hf
      rw [List.drop_drop] at h1
      have e : i = p + k := by
        rcases Nat.lt_trichotomy i (p + k) with h | h | h
        · have h3 := h2 (i - p) (by omega)
          rw [List.drop_drop, show p + (i - p) = i by omega, ha'] at h3
          cases h3
        · exact h
        · exact absurd ((at_S t w hw (p + k)).mpr h1) (hn (p + k) (by omega) h)
      show ((i : Nat) : Int) = _
      rw [e]
/-- one text in another -/
def inL (w r : List Nat) : Bool := (findL w r).isSome
theorem in_S (t w : List Nat) (hw : w ≠ []) : (!(occurrences (S t) (S w) 0 (S t).length 1).isEmpty) = inL w t := by
  have h := find3_S t w hw 0
  unfold Txt.find3 at h
  rw [from_nat, List.drop_zero] at h
  unfold inL
  cases ho : occurrences (S t) (S w) 0 (S t).length 1 with
  | nil =>
    rw [ho] at h
    cases hf : findL w t with
    | none => rfl
    | some k =>
      rw [hf] at h
      have h' : (-1 : Int) = ((0 + k : Nat) : Int) := h
      omega
  | cons a b =>
    rw [ho] at h
    cases hf : findL w t with
    | none =>
      rw [hf] at h
      have h' : ((a : Nat) : Int) = -1 := h
      omega
    | some k => rfl
/-- signs counted -/
theorem occ_count (t : List Nat) (c hi limit : Nat) : ∀ (n a : Nat) (st : Array Nat × Nat), st.2 ≤ a → st.1.size + n ≤ limit → hi ≤ t.length → a + n = hi + 1 ∨ (n = 0 ∧ hi < a) →
    (forIn (List.range' a n) st (occBody (S t) (S [c]) hi limit)).run.fst.size = st.1.size + ((t.drop a).take (hi - a)).count c
  | 0, a, st, h1, h2, h3, h4 => by
    have : hi - a = 0 := by omega
    rw [this]
    simp
  | n + 1, a, st, h1, h2, h3, h4 => by
    rw [List.range'_succ, List.forIn_cons]
    have hl : (S [c]).length = 1 := S_len _
    have stay : ¬ (((st.1.size < limit ∧ st.2 ≤ a) ∧ a + (S [c]).length ≤ hi) ∧ subAt (S t) (S [c]) a = true) →
        (occBody (S t) (S [c]) hi limit a st) = pure (ForInStep.yield st) := fun z => by
      unfold occBody
      rw [if_neg z]
    by_cases ha : a < hi
    · have hat : a < t.length := by omega
      have hd : t.drop a = t[a] :: t.drop (a + 1) := List.drop_eq_getElem_cons hat
      have hs : hi - a = (hi - (a + 1)) + 1 := by omega
      have hsub : subAt (S t) (S [c]) a = (t[a] == c) := by
        rw [sub_S, hd]
        show (t[a] :: (t.drop (a + 1)).take 0 == [c]) = _
        rw [List.take_zero]
        by_cases h : t[a] = c <;> simp [h]
      have hcnt : ((t.drop a).take (hi - a)).count c = ((t.drop (a + 1)).take (hi - (a + 1))).count c + if t[a] == c then 1 else 0 := by
        rw [hd, hs, List.take_succ_cons, List.count_cons]
      rw [hcnt]
      by_cases hc : t[a] = c
      · have e : occBody (S t) (S [c]) hi limit a st = pure (ForInStep.yield (st.1.push a, a + (S [c]).length)) := by
          unfold occBody
          rw [if_pos ⟨⟨⟨by omega, h1⟩, by omega⟩, by rw [hsub]; simp [hc]⟩]
        rw [e, hl]
        have ih := occ_count t c hi limit n (a + 1) (st.1.push a, a + 1) (Nat.le_refl _) (by rw [Array.size_push]; omega) h3 (by omega)
        have e1 : (if t[a] == c then 1 else 0) = 1 := by rw [hc]; simp
        rw [e1]
        refine Eq.trans ih ?_
        rw [Array.size_push]
        omega
      · rw [stay (fun z => by have := z.2; rw [hsub] at this; simp at this; exact hc this)]
        have ih := occ_count t c hi limit n (a + 1) st (by omega) (by omega) h3 (by omega)
        have e1 : (if t[a] == c then 1 else 0) = 0 := by simp [hc]
        rw [e1]
        exact ih
    · rw [stay (fun z => by have := z.1.2; omega)]
      have ih := occ_count t c hi limit n (a + 1) st (by omega) (by omega) h3 (by omega)
      have e0 : hi - a = 0 := by omega
      have e1 : hi - (a + 1) = 0 := by omega
      rw [e1] at ih
      rw [e0]
      refine Eq.trans ih ?_
      simp
theorem count_S (t : List Nat) (c p e : Nat) (he : e ≤ t.length) (hp : p ≤ e) : Txt.countIn (S t) (S [c]) (p : Int) (e : Int) = (((t.drop p).take (e - p)).count c : Nat) := by
  unfold Txt.countIn
  rw [from_nat, to_nat, S_len, Nat.min_eq_right he, occ_eq]
  have h := occ_count t c e (t.length + 1) (e + 1 - p) p (#[], p) (Nat.le_refl _) (by simp; omega) he (by omega)
  rw [Array.length_toList]
  congr 1
  rw [h]
  simp
/-- blank: nothing but such signs -/
theorem tw_all {g : Nat → Bool} : ∀ {t : List Nat}, t.all g = true → t.takeWhile g = t
  | [], _ => rfl
  | a :: r, h => by
    have h2 := Bool.and_eq_true_iff.mp (show (g a && r.all g) = true from h)
    rw [List.takeWhile_cons, if_pos h2.1, tw_all h2.2]
theorem tw_not {g : Nat → Bool} : ∀ {t : List Nat}, t.all g = false → ∃ c r, t.drop (t.takeWhile g).length = c :: r ∧ g c = false
  | [], h => by cases h
  | a :: r, h => by
    rw [List.takeWhile_cons]
    cases hg : g a with
    | false => exact ⟨a, r, by simp, hg⟩
    | true =>
      have h2 : r.all g = false := by
        have : (g a && r.all g) = false := h
        rw [hg] at this
        simpa using this
      obtain ⟨c, r', h3, h4⟩ := tw_not h2
      exact ⟨c, r', by simpa using h3, h4⟩
theorem strip_nil (t w : List Nat) : ((Txt.stripChars (S t) (S w)).cps.toList = []) ↔ t.all (fun c => w.contains c) = true := by
  have hg : (S w).cps.contains = fun c => w.contains c := by
    funext c
    simp [S]
  unfold Txt.stripChars Txt.stripBy stripSame stripped stripLo stripHi
  rw [hg]
  simp only [if_true]
  rw [S_tl, S_len]
  cases h : t.all (fun c => w.contains c) with
  | true =>
    have e := tw_all h
    rw [e, List.drop_length]
    simp only [List.reverse_nil, List.takeWhile_nil, List.length_nil, Nat.sub_zero]
    have key : (if (t.length == 0 && t.length == t.length) = true then S t else strSub (S t) t.length t.length).cps.toList = [] := by
      by_cases h0 : (t.length == 0 && t.length == t.length) = true
      · rw [if_pos h0, S_tl]
        have h1 : t.length = 0 := by simpa using h0
        exact List.length_eq_zero_iff.mp h1
      · rw [if_neg h0, strSub_toList, Nat.sub_self, List.take_zero]
    exact ⟨fun _ => trivial, fun _ => key⟩
  | false =>
    constructor
    · intro h0
      exfalso
      obtain ⟨c, r, h1, h2⟩ := tw_not h
      have hlen : (t.takeWhile (fun c => w.contains c)).length < t.length := by
        have := congrArg List.length h1
        rw [List.length_drop, List.length_cons] at this
        omega
      split at h0
      · rw [S_tl] at h0
        rw [h0] at hlen
        simp at hlen
      · rw [strSub_toList, S_tl, h1] at h0
        have hr : ((c :: r).reverse.takeWhile (fun c => w.contains c)).length ≤ r.length := by
          rw [List.reverse_cons]
          by_cases hall : r.reverse.all (fun c => w.contains c) = true
          · rw [List.takeWhile_append_of_pos (by simpa using hall), List.takeWhile_cons, if_neg (by rw [h2]; exact Bool.false_ne_true)]
            simp
          · obtain ⟨x, y, h5, h6⟩ := tw_not (eq_false_of_ne_true hall)
            have h7 : (r.reverse.takeWhile (fun c => w.contains c)).length < r.reverse.length := by
              have := congrArg List.length h5
              rw [List.length_drop] at this
              simp at this
              simp
              omega
            have h8 : (r.reverse ++ [c]).takeWhile (fun c => w.contains c) = r.reverse.takeWhile (fun c => w.contains c) := by
              have e := List.takeWhile_append (p := fun c => w.contains c) (xs := r.reverse) (ys := [c])
              rw [e, if_neg (by omega)]
            rw [h8]
            have := List.length_reverse (as := r)
            omega
        have h9 : (c :: r).length = t.length - (t.takeWhile (fun c => w.contains c)).length := by
          rw [← h1, List.length_drop]
        have h10 := congrArg List.length h0
        rw [List.length_take] at h10
        simp only [List.length_cons, List.length_nil] at h10 h9
        omega
    · intro h1
      cases h1
theorem strip_blank (t w : List Nat) : decide (V.str (Txt.stripChars (S t) (S w)) = V.str (S [])) = t.all (fun c => w.contains c) := by
  rw [S_of (Txt.stripChars (S t) (S w)), S_dec]
  cases h : t.all (fun c => w.contains c) with
  | true => exact decide_eq_true ((strip_nil t w).mpr h)
  | false => exact decide_eq_false fun z => by rw [(strip_nil t w).mp z] at h; cases h
/-- small letters, great letters -/
theorem lower_S (t : List Nat) (h : ∀ c ∈ t, c < 128) : Txt.lower (S t) = S (t.map lo1) := by
  rw [lower_ascii (by rw [S_tl]; exact h)]
  show (⟨t.toArray.map lo1⟩ : Str) = ⟨(t.map lo1).toArray⟩
  simp
theorem upper_S (t : List Nat) (h : ∀ c ∈ t, c < 128) : Txt.upper (S t) = S (t.map up1) := by
  rw [upper_ascii (by rw [S_tl]; exact h)]
  show (⟨t.toArray.map up1⟩ : Str) = ⟨(t.map up1).toArray⟩
  simp
end My

/-! ### more words: a written dict of texts, update, int by a base, find up to an end -/
namespace My
open PySem PySem.Spec PyProof.Rows L2 PySem.StrLaws PySem.Builtin.Str
/-! a written dict of the module, its keys texts -/
def EntS : List DictEntry → List (Str × V) → Prop
  | [], [] => True
  | e :: es, p :: ps => (∃ t, e.key = .str p.1 t) ∧ RelV p.2 e.val ∧ EntS es ps
  | _, _ => False
structure KDictS (K : PySem.W.Frag) (w : World) (d : Addr) (ps : List (Str × V)) : Prop where
  here : ∃ es n, KDict K w d es n ∧ EntS es.toList ps
theorem entS_find (k : Str) : ∀ {es : List DictEntry} {ps : List (Str × V)}, EntS es ps →
    match ps.lookup k with
    | none => (es.find? fun e => Value.isStrOf k e.key).map (·.val) = none
    | some v => ∃ u, (es.find? fun e => Value.isStrOf k e.key).map (·.val) = some u ∧ RelV v u
  | [], [], _ => rfl
  | [], _ :: _, h => h.elim
  | _ :: _, [], h => h.elim
  | e :: es, p :: ps, ⟨⟨t, h1⟩, h2, r⟩ => by
    have ih := entS_find k r
    rw [List.find?_cons, List.lookup_cons, h1]
    by_cases h : k = p.1
    · subst h
      have e1 : Value.isStrOf p.1 (.str p.1 t) = true := by simp [Value.isStrOf]
      rw [e1, beq_self_eq_true]
      exact ⟨_, rfl, h2⟩
    · have e1 : Value.isStrOf k (.str p.1 t) = false := by
        cases q : Value.isStrOf k (.str p.1 t) with
        | false => rfl
        | true =>
          obtain ⟨t', e⟩ := Value.isStrOf_shape q
          cases e
          exact absurd rfl h
      rw [e1, beq_eq_false_iff_ne.mpr h]
      exact ih
section
variable {X : Cx} {d : Addr} {ps : List (Str × V)}
theorem kds_map {prog : Program} {w : World} {h : Heap} {K : PySem.W.Frag} (D : KDictS K w d ps) (I : K.In h) (k : Str) : (d == sysModules) = false ∧ ∃ f : Str → Option Value, h.MapOf (strKind prog w) d f ∧
    match ps.lookup k with
    | none => f k = none
    | some v => ∃ u, f k = some u ∧ RelV v u := by
  obtain ⟨es, n, D, he⟩ := D.here
  refine ⟨D.low, _, PySem.W.mapOf_K (prog := prog) I D.at_ D.lit, ?_⟩
  have := entS_find k he
  obtain ⟨l⟩ := es
  simpa only [findBy, List.find?_toArray] using this
theorem op_in_ks (D : KDictS X.K X.w d ps) : OpR X (compareOp .In) (fun x y H Q => ∃ z : Str, x = .str z ∧ y = .ref d ∧ Q (.bl (ps.lookup z).isSome) H) := by
  intro pins s σ H x y v u Q I rx ry h
  obtain ⟨z, rfl, rfl, q⟩ := h
  obtain ⟨t, rfl⟩ := rx
  cases ry
  obtain ⟨low, f, hm, hf⟩ := kds_map (prog := X.prog) D I.kIn z
  refine wpAny_in_of (PySem.strKind_is X.prog X.w z t) low hm ?_
  refine ⟨.bl (ps.lookup z).isSome, H, I.tok _, ?_, q⟩
  show Value.bool _ = Value.bool _
  cases e : ps.lookup z with
  | none => rw [e] at hf; rw [show f z = none from hf]; rfl
  | some v => rw [e] at hf; obtain ⟨u, h1, _⟩ := hf; rw [h1]; rfl
theorem op_notIn_ks (D : KDictS X.K X.w d ps) : OpR X (compareOp .NotIn) (fun x y H Q => ∃ z : Str, x = .str z ∧ y = .ref d ∧ Q (.bl (!(ps.lookup z).isSome)) H) := by
  intro pins s σ H x y v u Q I rx ry h
  obtain ⟨z, rfl, rfl, q⟩ := h
  obtain ⟨t, rfl⟩ := rx
  cases ry
  obtain ⟨low, f, hm, hf⟩ := kds_map (prog := X.prog) D I.kIn z
  refine wpAny_notIn_of (PySem.strKind_is X.prog X.w z t) low hm ?_
  refine ⟨.bl (!(ps.lookup z).isSome), H, I.tok _, ?_, q⟩
  show Value.bool _ = Value.bool _
  cases e : ps.lookup z with
  | none => rw [e] at hf; rw [show f z = none from hf]; rfl
  | some v => rw [e] at hf; obtain ⟨u, h1, _⟩ := hf; rw [h1]; rfl
theorem ix_ks (D : KDictS X.K X.w d ps) : IxR X (fun x y H Q => ∃ (z : Str) (v : V), x = .ref d ∧ y = .str z ∧ ps.lookup z = some v ∧ Q v H) := by
  intro value slice pins s σ H x y v u Q I rx ry h hs
  obtain ⟨z, a, rfl, rfl, e, q⟩ := h
  obtain rfl : v = Value.ref d := rx
  obtain ⟨t, rfl⟩ := ry
  obtain ⟨low, f, hm, hf⟩ := kds_map (prog := X.prog) D I.kIn z
  rw [e] at hf
  obtain ⟨u, h1, ru⟩ := hf
  exact tail_any hm.typeIs slot_dict_getitem.lookup (wpAny_getItem_of (strKind_is X.prog X.w z t) hm h1 ⟨a, H, I.tok _, ru, q⟩) hs
/-- NAMES.get(key) -/
theorem pe_kget {o e : Expr} {to te : TE} {apos cpos : Pos} (D : KDictS X.K X.w d ps) (ho : PE X o to) (he : PE X e te) (m : M1 X o "get" apos e cpos) :
    PE X (.Call (.Attribute o "get" apos) [e] [] cpos) (fun σ H Q => to σ H fun x H1 => x = .ref d ∧ te σ H1 fun y H2 => ∃ z : Str, y = .str z ∧ Q ((ps.lookup z).getD .non) H2) := by
  refine ⟨fun pins s σ H Q I h => ?_⟩
  refine wpAny_Call_method m.base m.few m.line PySem.F.plainAttrs_dict PySem.F.slot_dict_get PySem.F.type_dict_get (thn (ho.run pins s σ H _ I h) fun u s1 ⟨x, H1, I1, rx, ex, q1⟩ => ?_)
  subst ex
  obtain rfl : u = Value.ref d := rx
  obtain ⟨low, f, hm, hf⟩ := kds_map (prog := X.prog) D I1.kIn ""
  refine ⟨hm.typeIs, hm.noDict, ?_⟩
  rw [m.trees]
  refine Calls.callWith_builtin rfl (Calls.evalArgs_plain (Calls.spliced_cons (thn (he.run pins s1 σ H1 _ I1 q1) fun iv s2 ⟨y, H2, I2, ry, z, ez, q2⟩ => Calls.spliced_nil ?_)))
  subst ez
  obtain ⟨t, rfl⟩ := ry
  obtain ⟨low, f, hm, hf⟩ := kds_map (prog := X.prog) D I2.kIn z
  refine call_meetsIn PySem.F.slot_dict_get hm.typeIs PySem.F.entry_dict_get (PySem.F.args_dict_get_2 _ _) (meets_dict_get (strKind X.prog X.w) d (strKind_is X.prog X.w z t) low) ⟨_, hm, ?_⟩
  refine ⟨(ps.lookup z).getD .non, H2, I2.tok _, ?_, q2⟩
  cases e : ps.lookup z with
  | none => rw [e] at hf; rw [show f z = none from hf]; rfl
  | some v => rw [e] at hf; obtain ⟨u, h1, r⟩ := hf; rw [h1]; exact r
end
/-! d.update(e) -/
def rUpd : V → List V → Hp → VK → Prop := fun x vs H Q => ∃ (a b : Addr) (kvs more : List (Key × V)), x = .ref a ∧ vs = [.ref b] ∧ a ≠ b ∧ H a = some (.dK kvs) ∧ H b = some (.dK more) ∧ kvs.length + more.length ≤ 1000 ∧
  Q .non (upd H a (.dK (mergeK kvs more)))
theorem mtd_update {X : Cx} : MtR X "dict.update" rUpd := by
  intro pins s σ H x vs v us Q I rx rv h
  obtain ⟨a, b, kvs, more, ex, ev, hne, e, e2, hl, q⟩ := h
  subst ex
  subst ev
  obtain rfl : v = Value.ref a := rx
  obtain ⟨u, rfl, ru⟩ := rv.one
  obtain rfl : u = Value.ref b := ru
  obtain ⟨z, hd, vs1, rel, dd⟩ := dk_of I.hok e
  obtain ⟨z2, hd2, vs2, rel2, dd2⟩ := dk_of I.hok e2
  have hz : (mergeK kvs more).length ≤ sizeLine := by
    have h1 := length_mergeK more kvs
    rw [sizeLine_eq]
    omega
  refine call_meetsIn PySem.F.slot_dict_update dd.typeIs PySem.F.entry_dict_update (PySem.F.args_dict_update_2 _ _) (meets_dict_update (mixKind X.prog X.w) a b hne hd2)
    ⟨vs1, vs2, dd, dd2, by rw [← rel.length, ← rel2.length, sizeLine_eq]; omega, fun h' dd' _ hs => ?_⟩
  have he : ∃ q, h'.get? a = some q := let ⟨q, _, _, hq, _⟩ := dd'; ⟨q, hq⟩
  exact ⟨.non, _, d_write (t' := s.toks) I (by rw [e]; exact True.intro) hs he (dk_new hz hd (rel2.merge rel) dd'), rfl, q⟩
/-! find up to an end -/
theorem occ_take (t w : List Nat) (lo hi : Nat) (h : hi ≤ t.length) : occurrences (S t) (S w) lo hi 1 = occurrences (S (t.take hi)) (S w) lo hi 1 := by
  rw [occ_eq, occ_eq]
  have e : occBody (S t) (S w) hi 1 = occBody (S (t.take hi)) (S w) hi 1 := by
    funext i st
    unfold occBody
    by_cases hc : i + (S w).length ≤ hi
    · have e2 : subAt (S t) (S w) i = subAt (S (t.take hi)) (S w) i := by
        rw [S_len] at hc
        rw [sub_S, sub_S, List.drop_take, List.take_take, Nat.min_eq_left (by omega)]
      rw [e2]
    · rw [if_neg fun z => hc z.1.2, if_neg fun z => hc z.1.2]
  rw [e]
theorem findIn_S (t w : List Nat) (hw : w ≠ []) (p j : Nat) : Txt.findIn (S t) (S w) (p : Int) ((p + j : Nat) : Int) = match findL w ((t.drop p).take j) with | some k => ((p + k : Nat) : Int) | none => -1 := by
  unfold Txt.findIn
  rw [from_nat, to_nat, S_len]
  by_cases hp : p ≤ t.length
  · have h1 : min t.length (p + j) ≤ t.length := Nat.min_le_left _ _
    rw [occ_take t w p _ h1]
    have h2 := find3_S (t.take (min t.length (p + j))) w hw p
    unfold Txt.find3 at h2
    rw [from_nat, S_len, List.length_take, Nat.min_eq_left h1, List.drop_take] at h2
    have e : (t.drop p).take (min t.length (p + j) - p) = (t.drop p).take j := by
      by_cases hj : p + j ≤ t.length
      · rw [Nat.min_eq_right hj, Nat.add_sub_cancel_left]
      · rw [Nat.min_eq_left (by omega), List.take_of_length_le (by rw [List.length_drop]; omega), List.take_of_length_le (by rw [List.length_drop]; omega)]
    rw [e] at h2
    exact h2
  · rw [List.drop_of_length_le (by omega), List.take_nil]
    have hn : findL w [] = none := by
      unfold findL
      rw [if_neg hw]
    rw [hn, Nat.min_eq_left (by omega)]
    have : occurrences (S t) (S w) p t.length 1 = [] := by
      have h2 := find3_S t w hw p
      unfold Txt.find3 at h2
      rw [from_nat, List.drop_of_length_le (by omega), hn, S_len] at h2
      cases ho : occurrences (S t) (S w) p t.length 1 with
      | nil => rfl
      | cons a b =>
        rw [ho] at h2
        have h3 : ((a : Nat) : Int) = -1 := h2
        omega
    rw [this]
/-! int(text, 10) -/
open PySem.NumText PySem.Calls
def IsDec (c : Nat) : Prop := 48 ≤ c ∧ c ≤ 57
def decNum (l : List Nat) : Nat := l.foldl (fun a c => a * 10 + (c - 48)) 0
theorem step_dec {ds : Array Nat} {b : Bool} {c : Nat} (h : IsDec c) : PySem.NumText.step 10 (ds, b) c = some (ds.push (c - 48), true) := by
  unfold IsDec at h
  unfold PySem.NumText.step
  rw [if_neg (by rw [beq_iff_eq]; omega)]
  have e : digit? c = some (c - 48) := by
    unfold digit?
    rw [if_pos (Hx.bb h.1 h.2)]
  rw [e]
  exact if_pos (by omega)
theorem foldl_dec : ∀ (cs : List Nat) (ds : Array Nat), (∀ c ∈ cs, IsDec c) → cs.foldlM (PySem.NumText.step 10) (ds, true) = some (cs.foldl (fun acc c => acc.push (c - 48)) ds, true)
  | [], _, _ => rfl
  | c :: cs, ds, h => by
    rw [List.foldlM_cons, step_dec (h c (List.mem_cons_self ..))]
    show cs.foldlM (PySem.NumText.step 10) (ds.push (c - 48), true) = _
    exact foldl_dec cs (ds.push (c - 48)) fun d hd => h d (List.mem_cons_of_mem _ hd)
theorem digits_dec {cs : List Nat} (h : ∀ c ∈ cs, IsDec c) (hne : cs ≠ []) : digits? 10 cs = some (cs.foldl (fun acc c => acc.push (c - 48)) #[]) := by
  cases cs with
  | nil => exact absurd rfl hne
  | cons c cs =>
    unfold digits?
    rw [List.foldlM_cons, step_dec (h c (List.mem_cons_self ..))]
    show (cs.foldlM (PySem.NumText.step 10) ((#[] : Array Nat).push (c - 48), true)).bind _ = _
    rw [foldl_dec cs _ fun d hd => h d (List.mem_cons_of_mem _ hd)]
    rfl
theorem push_dec : ∀ (cs : List Nat) (ds : Array Nat), (cs.foldl (fun acc c => acc.push (c - 48)) ds).foldl (fun acc d => acc * 10 + d) 0 = cs.foldl (fun a c => a * 10 + (c - 48)) (ds.foldl (fun acc d => acc * 10 + d) 0)
  | [], _ => rfl
  | c :: cs, ds => by
    rw [List.foldl_cons, push_dec cs (ds.push (c - 48)), List.foldl_cons]
    congr 1
    simp
theorem dec_hex {cs : List Nat} (h : ∀ c ∈ cs, IsDec c) : ∀ c ∈ cs, Hx.IsHex c := fun c hc => .inl (h c hc)
theorem size_dec : ∀ (cs : List Nat) (ds : Array Nat), (cs.foldl (fun acc c => acc.push (c - 48)) ds).size = ds.size + cs.length
  | [], ds => rfl
  | c :: cs, ds => by
    rw [List.foldl_cons, size_dec cs (ds.push (c - 48)), Array.size_push, List.length_cons]
    omega
theorem read_dec {cs : List Nat} (h : ∀ c ∈ cs, IsDec c) (hne : cs ≠ []) (hl : cs.length ≤ 640) : (int_private% "readNumeral") 0 10 cs = (int_private% "Numeral.value") ((decNum cs : Nat) : Int) := by
  have hr : ∀ c ∈ cs.reverse, IsDec c := fun c hc => h c (List.mem_reverse.mp hc)
  refine (readNumeral_eq 0 10 cs).trans ?_
  rw [Hx.dropB (dec_hex h), Hx.signH (dec_hex h)]
  show judge 0 false (based 10 cs).1 (based 10 cs).2.1 (digits? (based 10 cs).1 (((based 10 cs).2.2.reverse.dropWhile blank).reverse)) = _
  rw [based_ten]
  show judge 0 false 10 false (digits? 10 ((cs.reverse.dropWhile blank).reverse)) = _
  rw [Hx.dropB (dec_hex hr), List.reverse_reverse, digits_dec h hne]
  have hz : ¬ ((10 : Nat) == 10 && (cs.foldl (fun acc c => acc.push (c - 48)) (#[] : Array Nat)).size > 6000) = true := by
    rw [size_dec]
    simp
    omega
  have ej : judge 0 false 10 false (some (cs.foldl (fun acc c => acc.push (c - 48)) #[])) = (if ((10 : Nat) == 10 && (cs.foldl (fun acc c => acc.push (c - 48)) (#[] : Array Nat)).size > 6000) = true then (int_private% "Numeral.byTheLibrary") else (int_private% "Numeral.value") (((cs.foldl (fun acc c => acc.push (c - 48)) (#[] : Array Nat)).foldl (fun acc d => acc * 10 + d) 0 : Nat) : Int)) := rfl
  rw [ej, if_neg hz]
  show (int_private% "Numeral.value") (((cs.foldl (fun acc c => acc.push (c - 48)) (#[] : Array Nat)).foldl (fun acc d => acc * 10 + d) 0 : Nat) : Int) = _
  have z : (#[] : Array Nat).foldl (fun acc d => acc * 10 + d) 0 = 0 := by first | rfl | simp
  rw [push_dec, z] <;> rfl
structure Hid (p : Prop) : Prop where
  out : p
set_option maxHeartbeats 4000000 in
theorem gives_dec {x : PySem.Str} {u t : Tok} (hl : x.length ≤ 640) (h : ∀ c ∈ x.cps.toList, IsDec c) (hne : x.cps.toList ≠ []) :
    Gives (Builtin.«int.__new__» ⟨[.type "int", .str x u, .int 10 t], []⟩) (.int ((decNum x.cps.toList : Nat) : Int)) :=
  .of_wp fun M A E s Q hQ => by
    obtain ⟨hp, g, d, tk, os⟩ := s
    have f1 := F.conv_sub_int
    have f2 := F.madeHere_int
    have f6 : typeOf (.str x u) = pure (.type "str") := rfl
    obtain ⟨e1, e2⟩ := Hx.seen_hex (dec_hex h)
    have hs : (numSeenOf x).length ≤ 640 := by
      rw [e2, Array.length_toList]
      exact hl
    have hr : (int_private% "readNumeral") 0 10 (numSeenOf x) = (int_private% "Numeral.value") ((decNum x.cps.toList : Nat) : Int) := by
      rw [e2]
      exact read_dec h hne (by rw [Array.length_toList]; exact hl)
    have ha : ((numSeenOf x).length == (numTextOf x).length) = true := by
      rw [e1, e2]
      exact beq_self_eq_true _
    have hk := Hid.mk (And.intro hs (And.intro hr ha))
    clear hs hr ha e1 e2 hl hne h
    repeat (any_goals (first
      | assumption
      | ((with_reducible show wpAny _ _ ((int_private% "intFromText") _ _ _) _ _ _); refine Hx.wp_textB hk.out.1 hk.out.2.1 hk.out.2.2 ?_)
      | wp_step))
    all_goals first | exact ⟨_, rfl, hQ⟩ | skip
theorem call_dec {prog : Program} {w : World} {A : Around} {E : Value → Shared → Prop} {s : Shared} {Q : Value → Shared → Prop} {x : PySem.Str} {u t : Tok} (hl : x.length ≤ 640) (h : ∀ c ∈ x.cps.toList, IsDec c) (hne : x.cps.toList ≠ [])
    (hQ : Q (.int ((decNum x.cps.toList : Nat) : Int) s.toks) { s with toks := s.toks + 1 }) : wpAny (model prog w) A (call (.type "int") [.str x u, .int 10 t]) Q E s :=
  callType_new F.called_int F.newNe_int (Hx.typeCall_int_2 _ _) (Hx.newCall_int_2 _ _) (fun obj => F.initArgs_range_2 obj _ _) F.entry_int_new (gives_dec hl h hne).meets (show (Made.int ((decNum x.cps.toList : Nat) : Int)).post _ s from ⟨rfl, hQ⟩)
/-- int(text, base) of base 10 and 16 -/
def IsB (B : Nat) (c : Nat) : Prop := if B = 16 then Hx.IsHex c else IsDec c
def numB (B : Nat) (l : List Nat) : Nat := if B = 16 then Hx.hexNum l else decNum l
theorem call_int_base {X : Cx} : CallR X (.type "int") (fun xs H Q => ∃ (l : List Nat) (B : Nat), xs = [.str (S l), .int (B : Int)] ∧ (B = 10 ∨ B = 16) ∧ l ≠ [] ∧ l.length ≤ 640 ∧ (∀ c ∈ l, IsB B c) ∧ Q (.int ((numB B l : Nat) : Int)) H) := by
  intro pins s σ H xs us Q I r h
  obtain ⟨l, B, rfl, hB, hne, hl, hx, q⟩ := h
  obtain ⟨u, w', rfl, r1, r2⟩ := vals2 r
  obtain ⟨t1, rfl⟩ := r1
  obtain ⟨t2, rfl⟩ := r2
  rcases hB with rfl | rfl
  · exact call_dec (x := S l) (by rw [S_len]; exact hl) (by rw [S_tl]; exact hx) (by rw [S_tl]; exact hne) ⟨.int ((numB 10 l : Nat) : Int), H, I.tok _, ⟨_, by rw [S_tl]; rfl⟩, q⟩
  · exact Hx.call_hex (x := S l) (by rw [S_len]; exact hl) (by rw [S_tl]; exact hx) (by rw [S_tl]; exact hne) ⟨.int ((numB 16 l : Nat) : Int), H, I.tok _, ⟨_, by rw [S_tl]; rfl⟩, q⟩
/-! strip signs at the begin -/
theorem lstrip_S (t w : List Nat) : Txt.lstripChars (S t) (S w) = S (t.drop (t.takeWhile (fun c => w.contains c)).length) := by
  have hg : (S w).cps.contains = fun c => w.contains c := by
    funext c
    simp [S]
  unfold Txt.lstripChars Txt.stripBy stripSame stripped stripLo stripHi
  rw [hg]
  simp only [if_true, Bool.false_eq_true, if_false]
  rw [S_tl, S_len]
  have key : ∀ k : Nat, strSub (S t) k t.length = S (t.drop k) := by
    intro k
    rw [S_of (strSub (S t) k t.length), strSub_toList, S_tl]
    congr 1
    exact List.take_of_length_le (by rw [List.length_drop]; omega)
  split
  · rename_i h
    have h0 : (t.takeWhile (fun c => w.contains c)).length = 0 := by
      have := (Bool.and_eq_true_iff.mp h).1
      exact eq_of_beq this
    rw [h0, List.drop_zero]
  · exact key _
end My

/-! ### joined texts -/
namespace My
open PySem PySem.Spec PyProof.Rows L2
theorem join_S (sep : List Nat) (ls : List (List Nat)) : Txt.join (S sep) (ls.map S) = S (TL.joinL sep ls) := by
  rw [TL.join_eq]
  have e := TL.tl_join (S sep) (ls.map S)
  have e2 : (ls.map S).map TL.tl = ls := by
    rw [List.map_map]
    conv => rhs; rw [← List.map_id ls]
    exact List.map_congr_left fun l _ => S_tl l
  rw [e2] at e
  have e3 : TL.tl (S sep) = sep := S_tl _
  rw [e3] at e
  rw [S_of (Str.join (S sep) (ls.map S))]
  exact congrArg S e
theorem join_nil (ls : List (List Nat)) : Txt.join (S []) (ls.map S) = S ls.flatten := by
  rw [join_S]
  congr 1
  induction ls with
  | nil => rfl
  | cons a r ih =>
    cases r with
    | nil => simp [TL.joinL]
    | cons b r =>
      show a ++ ([] ++ TL.joinL [] (b :: r)) = _
      rw [ih]
      simp
end My

/-! ### a text, so often; a tuple in which a token is out -/
namespace My
open PySem PySem.Spec PyProof.Rows L2
section
variable {X : Cx}
theorem op_mul_txt : OpR X (binaryOp .Mult) (fun x y H Q => ∃ (l : List Nat) (j : Nat), x = .str (S l) ∧ y = .int (j : Int) ∧ 1 ≤ l.length ∧ l.length ≤ 1000 ∧ j ≤ 1000 ∧ Q (.str (S (List.replicate j l).flatten)) H) := by
  intro pins s σ H x y v u Q I rx ry h
  obtain ⟨l, j, rfl, rfl, hl1, hl2, hj, q⟩ := h
  obtain ⟨t, rfl⟩ := rx
  obtain ⟨t', rfl⟩ := ry
  have hlen : (S l).length = l.length := S_len _
  have hmul : l.length * j ≤ 1000000 := Nat.le_trans (Nat.mul_le_mul hl2 hj) (by decide)
  refine PySem.P.mul_str (by simp; omega) (fun hn _ => by
    rw [hlen]
    have hj0 : 0 < j := by omega
    have : (l.length : Int) ≤ (2 ^ 63 - 1) / (j : Int) := by
      refine Int.le_ediv_of_mul_le (by omega) ?_
      have : ((l.length * j : Nat) : Int) ≤ 1000000 := by omega
      rw [Int.natCast_mul] at this
      omega
    omega) (fun _ _ => by
    rw [hlen]
    have : (j : Int).toNat = j := by omega
    rw [this]
    exact decide_eq_false (by rw [sizeLine_eq]; omega)) ?_
  have fin : ∀ (m : List Nat), m = (List.replicate j l).flatten → ∀ (v : Value) (k : Nat), RelV (.str (S m)) v → EP X pins σ Q v { s with toks := k } := fun m e v k r => ⟨.str (S m), H, I.tok _, r, by rw [e]; exact q⟩
  by_cases h0 : (j : Int) < 1
  · have e0 : j = 0 := by omega
    rw [if_pos h0]
    exact ⟨by decide, fin [] (by rw [e0]; rfl) _ _ ⟨_, rfl⟩⟩
  · rw [if_neg h0]
    by_cases h1 : j = 1
    · subst h1
      rw [if_pos (by rfl)]
      exact fin l (by simp) _ s.toks ⟨_, rfl⟩
    · rw [if_neg (by rw [hlen, Bool.or_eq_true, beq_iff_eq, beq_iff_eq]; omega)]
      have e : (⟨(List.replicate (j : Int).toNat (S l).cps).foldl (· ++ ·) #[]⟩ : Str) = S (List.replicate j l).flatten := by
        have ej : (j : Int).toNat = j := by omega
        rw [ej]
        have gen : ∀ (n : Nat) (acc : List Nat), (List.replicate n (S l).cps).foldl (· ++ ·) acc.toArray = (acc ++ (List.replicate n l).flatten).toArray := by
          intro n
          induction n with
          | zero => intro acc; simp
          | succ n ih =>
            intro acc
            rw [List.replicate_succ, List.foldl_cons]
            have : acc.toArray ++ (S l).cps = (acc ++ l).toArray := by simp [S]
            rw [this, ih, List.replicate_succ]
            simp
        have := gen j []
        simp at this
        unfold S
        congr 1
      rw [e]
      refine ⟨?_, fin _ rfl _ _ ⟨_, rfl⟩⟩
      rw [S_len, List.length_flatten, List.map_replicate, sizeLine_eq]
      have : (List.replicate j l.length).sum = j * l.length := by
        clear fin q h1 h0 e
        induction j with
        | zero => simp
        | succ j ih => rw [List.replicate_succ, List.sum_cons, ih (by omega) (Nat.le_trans (Nat.mul_le_mul_left _ (Nat.le_succ _)) hmul), Nat.succ_mul, Nat.add_comm]
      rw [this, Nat.mul_comm]
      omega
theorem pa_consT {a : Expr} {op : Operator} {c : Int} {j : Nat} {pc pos0 : Pos} {es : List Expr} {r : R2} {ta : TE} {t : TA} (ho : OpR X (binaryOp op) r) (ha : PE X a ta) (hr : PAT X es t)
    (hs : starEach (.BinOp a op (.Constant (.int c) j pc) pos0 :: es) X.env = (false, eval (.BinOp a op (.Constant (.int c) j pc) pos0) X.env) :: starEach es X.env := by rfl) :
    PA X (.BinOp a op (.Constant (.int c) j pc) pos0 :: es) (tCons (tOp r ta (tC (.int c))) t) := by
  refine ⟨fun pos pins s σ H Q I h => ?_⟩
  rw [hs]
  show wpAny _ _ (spliced ((false, eval (.BinOp a op (.Constant (.int c) j pc) pos0) X.env) :: backTo pos (starEach es X.env))) _ _ s
  refine Calls.spliced_cons (wpAny_BinOp (thn (ha.run pins s σ H _ I h) fun v s1 ⟨x, H1, I1, r1, q1⟩ => wpAny_Constant_int ?_))
  refine wpAny_mono (PySem.wpAny_toks_of (n := 1) (by show 1 ≤ s1.toks + 1; omega) (ho pins _ σ H1 x (.int c) v _ _ (I1.tok _) r1 ⟨_, rfl⟩ q1)) (fun w s2 q => ?_) fun _ _ z => z.2
  obtain ⟨hk, y, H2, I2, r2, q2⟩ := q
  exact thn (hr pos pins s2 σ H2 _ hk I2 q2) fun us s3 ⟨xs, H3, I3, r3, q3⟩ => ⟨y :: xs, H3, I3, .cons r2 r3, q3⟩
end
end My

namespace My
open PySem PySem.Spec PyProof.Rows L2
/-! ### joins of ways, once more by their answers -/
theorem andB' {ta tb : TT} {σ : L2.St} {H : Hp} {a b : Bool} (ha : AnsB ta σ H a) (hb : AnsB tb σ H b) : AnsB (tAnd ta tb) σ H (a && b) := fun Q q => by
  refine ha _ ?_
  cases a with
  | true => exact iteT (hb _ q)
  | false => exact iteF q
theorem if_g {c : TT} {a b u : TS} {D : Ends} {σ : L2.St} {H : Hp} {i : Nat} {x : V} {bb : Bool} (hc : AnsB c (σ.set i (some x)) H bb) (h : if bb = true then a { D with nx := u D } (σ.set i (some x)) H else b { D with nx := u D } (σ.set i (some x)) H) :
    gName i x σ H { D with nx := tSeq (tIfS c a b) u D }.nx := hc _ h
theorem if_n {c : TT} {a b u : TS} {D : Ends} {σ : L2.St} {H : Hp} {bb : Bool} (hc : AnsB c σ H bb) (h : if bb = true then a { D with nx := u D } σ H else b { D with nx := u D } σ H) :
    tNext { D with nx := tSeq (tIfS c a b) u D } σ H := hc _ h
theorem tif_const {t : TT} {x y : V} {σ : L2.St} {H : Hp} {Q : VK} (b : Bool) (ht : AnsB t σ H b) (h : ∀ v, v = (if b = true then x else y) → Q v H) : tIf t (tC x) (tC y) σ H Q := by
  refine ht _ ?_
  cases b with
  | true => exact iteT (h x rfl)
  | false => exact iteF (h y rfl)
theorem for_tif {t : TT} {ta tb : TE} {g : TG} {body u : TS} {D : Ends} {σ : L2.St} {H : Hp} (P : V → Hp → Prop) (b : Bool) (ht : AnsB t σ H b) (ha : b = true → ValB ta σ H P) (hb : b = false → ValB tb σ H P)
    (hq : ∀ v H', P v H' → tFor (iRng1 (fun _ _ R => R [v] H')) g body { D with nx := u D } σ H') : tSeq (tFor (iRng1 (tCons (tIf t ta tb) tNil)) g body) u D σ H := by
  refine tif_val (P := P) b ht ha hb (fun v H' => tNil σ H' fun xs H2 => ∃ j : Int, v :: xs = [.int j] ∧ -(2 ^ 62) ≤ j ∧ j < 2 ^ 62 ∧ _) fun v H' p => ?_
  exact hq v H' p
theorem for_tif_g {t : TT} {ta tb : TE} {g : TG} {body u : TS} {D : Ends} {σ : L2.St} {H : Hp} {i : Nat} {x : V} (P : V → Hp → Prop) (b : Bool) (ht : AnsB t (σ.set i (some x)) H b) (ha : b = true → ValB ta (σ.set i (some x)) H P) (hb : b = false → ValB tb (σ.set i (some x)) H P)
    (hq : ∀ v H', P v H' → tFor (iRng1 (fun _ _ R => R [v] H')) g body { D with nx := u D } (σ.set i (some x)) H') : gName i x σ H { D with nx := tSeq (tFor (iRng1 (tCons (tIf t ta tb) tNil)) g body) u D }.nx :=
  for_tif P b ht ha hb hq
theorem asg_if_g {t : TT} {ta tb : TE} {g : TG} {u : TS} {D : Ends} {σ : L2.St} {H : Hp} {i : Nat} {x : V} (P : V → Hp → Prop) (b : Bool) (ht : AnsB t (σ.set i (some x)) H b) (ha : b = true → ValB ta (σ.set i (some x)) H P) (hb : b = false → ValB tb (σ.set i (some x)) H P)
    (hq : ∀ v H', P v H' → g v (σ.set i (some x)) H' (u D)) : gName i x σ H { D with nx := tSeq (tAsg (tIf t ta tb) g) u D }.nx := asg_if P b ht ha hb hq
theorem keeps_upd {L D : Addr} {H H' : Hp} {o : HO} (k : Keeps L H H') (n : H D = none) : Keeps L H (upd H' D o) := fun b x hb e => by
  rw [upd_ne (ne_of_none e n)]
  exact k b x hb e
/-- one sign -/
def isSign : V → Bool
  | .str z => z.cps.size == 1 && z.cps.all fun c => decide (c < 128)
  | _ => false
theorem isSign_of {v : V} (h : isSign v = true) : ∃ c, v = .str (S [c]) ∧ c < 128 := by
  cases v with
  | str z =>
    unfold isSign at h
    rw [Bool.and_eq_true] at h
    obtain ⟨⟨l⟩⟩ := z
    match l, h with
    | [c], h => exact ⟨c, rfl, by simpa using h.2⟩
    | [], h => simp at h
    | _ :: _ :: _, h => simp at h
  | _ => cases h
/-- a text of signs below 128 -/
def isText : V → Bool
  | .str z => z.cps.all fun c => decide (c < 128)
  | _ => false
theorem isText_of {v : V} (h : isText v = true) : ∃ l, v = .str (S l) ∧ ∀ c ∈ l, c < 128 := by
  cases v with
  | str z =>
    obtain ⟨⟨l⟩⟩ := z
    exact ⟨l, rfl, by unfold isText at h; simpa using h⟩
  | _ => cases h
def Drawn (n : Nat) (l : List Nat) : Prop := l.length ≤ n ∧ ∀ c ∈ l, c < 128
theorem low_sm {l : List Nat} (h : ∀ c ∈ l, c < 128) : Sm l := fun c hc => Nat.lt_trans (h c hc) (by decide)
theorem flatten_len {k : Nat} : ∀ {ls : List (List Nat)}, (∀ l ∈ ls, l.length ≤ k) → ls.flatten.length ≤ k * ls.length
  | [], _ => Nat.zero_le _
  | a :: r, h => by
    have ih := flatten_len (ls := r) (k := k) fun l hl => h l (List.mem_cons_of_mem _ hl)
    have ha := h a (List.mem_cons_self ..)
    rw [List.flatten_cons, List.length_append, List.length_cons, Nat.mul_succ]
    omega
end My

namespace My
open PySem PySem.Spec PyProof.Rows L2
/-! ### zip of a tuple and a list -/
/-- the tuple at a and the list at b as they stand at each turn, the items in new pairs -/
def ItzM (K : PySem.W.Frag) (a b : Addr) : It :=
  ⟨fun i H => ∃ (xs ys : List V) (x y : V), SqT K H a xs ∧ SqL K H b ys ∧ xs[i]? = some x ∧ ys[i]? = some y,
    fun i H v H' => ∃ T x y, v = .ref T ∧ H T = none ∧ H' = upd H T (.tup [x, y]) ∧ (∀ xs, SqT K H a xs → xs[i]? = some x) ∧ ∀ ys, SqL K H b ys → ys[i]? = some y,
    fun i H => ∃ xs ys : List V, SqT K H a xs ∧ SqL K H b ys ∧ (i = xs.length ∧ i ≤ ys.length ∨ i = ys.length ∧ i ≤ xs.length)⟩
/-- all the cells of the zip lie apart -/
structure Apart5 (z TI TO i1 i2 a b : Addr) : Prop where
  TIz : TI ≠ z
  TOz : TO ≠ z
  TITO : TI ≠ TO
  TIi1 : TI ≠ i1
  TIi2 : TI ≠ i2
  zi1 : z ≠ i1
  zi2 : z ≠ i2
  Ti1 : TO ≠ i1
  Ti2 : TO ≠ i2
  i12 : i1 ≠ i2
  za : z ≠ a
  zb : z ≠ b
  Ta : TO ≠ a
  Tb : TO ≠ b
  a1 : a ≠ i1
  a2 : a ≠ i2
  b1 : b ≠ i1
  b2 : b ≠ i2
theorem apart_n (n a b : Nat) (ha : a < n) (hb : b < n) : Apart5 (n + 4) (n + 2) (n + 3) n (n + 1) a b := by
  refine ⟨?_, ?_, ?_, ?_, ?_, ?_, ?_, ?_, ?_, ?_, ?_, ?_, ?_, ?_, ?_, ?_, ?_, ?_⟩ <;> (show ¬ (@Eq Nat _ _)) <;> omega
theorem Apart5.sep {z TI TO i1 i2 a b : Addr} (D : Apart5 z TI TO i1 i2 a b) : ZipSep2 z TI TO i1 i2 [i1, a] [i2, b] where
  TIz := D.TIz
  TOz := D.TOz
  TITO := D.TITO
  TIi1 := D.TIi1
  mem1 := by simp
  zf1 := by simp [D.zi1, D.za]
  Tf1 := by simp [D.Ti1, D.Ta]
  TIi2 := D.TIi2
  mem2 := by simp
  zf2 := by simp [D.zi2, D.zb]
  Tf2 := by simp [D.Ti2, D.Tb]
  sep1_2 := by simp [D.i12, D.b1.symm]
  sep2_1 := by simp [D.i12.symm, D.a2.symm]
theorem turn_zipM {P : Program} {w : World} {K : PySem.W.Frag} {elts : List Expr} {kk : Nat} {tpos : Pos} {a b z TI TO i1 i2 : Addr} (D : Apart5 z TI TO i1 i2 a b) :
    Turn P w K (.Tuple elts kk tpos) (ItzM K a b) [z, TI, TO, i1, i2] z (fun i h => IsZip h z TI TO .none ∧ IsTupOf2 h TI (.ref i1) (.ref i2) ∧ (∃ x y, IsTupOf2 h TO x y) ∧ h.IsTupleIter i1 a i ∧ h.IsListIter i2 b i) where
  mem := by simp
  obj := fun i h st c hc => by
    obtain ⟨hz, hTI, ⟨x, y, hTO⟩, ⟨o1, e1, _, d1⟩, ⟨o2, e2, _, d2⟩⟩ := st
    have e' : c = z ∨ c = TI ∨ c = TO ∨ c = i1 ∨ c = i2 := by simpa using hc
    rcases e' with q | q | q | q | q
    · rw [q]; exact ⟨_, hz, fun v q => nomatch q⟩
    · rw [q]; exact ⟨_, hTI, fun v q => nomatch q⟩
    · rw [q]; exact ⟨_, hTO, fun v q => nomatch q⟩
    · rw [q]; exact ⟨o1, e1, fun v q => by rw [d1] at q; cases q⟩
    · rw [q]; exact ⟨o2, e2, fun v q => by rw [d2] at q; cases q⟩
  keep := fun i h h' st k => by
    obtain ⟨hz, hTI, ⟨x, y, hTO⟩, h1, h2⟩ := st
    exact ⟨k z (by simp) _ hz, k TI (by simp) _ hTI, ⟨x, y, k TO (by simp) _ hTO⟩, h1.at fun o q => k i1 (by simp) o q, h2.at fun o q => k i2 (by simp) o q⟩
  item := by
    intro X hP hw hK hc i pins s σ H E I hf st hg
    subst hP hw hK
    obtain ⟨hz, hTI, ⟨x0, y0, hTO⟩, h1, h2⟩ := st
    obtain ⟨xs, ys, x, y, hqx, hqy, hx, hy⟩ := hg
    obtain ⟨its, rv, p, _⟩ := I.tuple hqx
    obtain ⟨its2, rv2, p2, _⟩ := I.list hqy
    obtain ⟨u, hu, ru⟩ := rv.get hx
    obtain ⟨u2, hu2, ru2⟩ := rv2.get hy
    have hzl : z < s.heap.objs.size := Heap.lt_size hz
    have D1 := PySem.Draws.tuple (prog := X.prog) (w := X.w) (A := X.A.in1) (I.ok.hd hc) i1 a D.a1 its.toArray
    have D2 := PySem.Draws.list (prog := X.prog) (w := X.w) (A := X.A.in1) (I.ok.hd hc) i2 b D.b2 its2.toArray
    have hlt1 : i < its.toArray.size := by
      have := (List.getElem?_eq_some_iff.mp hu).1
      simpa using this
    have hlt2 : i < its2.toArray.size := by
      have := (List.getElem?_eq_some_iff.mp hu2).1
      simpa using this
    refine wpAny_pyNext_zipD2_item D.sep D1 D2 hz hTI hTO ⟨h1, p⟩ ⟨h2, p2.isList⟩ hlt1 hlt2 fun x1 x2 h' tk y1 y2 z' TO' st1' st2' hT hsz hk => ?_
    have ex1 : x1 = u := by
      have : some u = some x1 := by rw [← hu]; simpa using y1
      exact (Option.some.inj this).symm
    have ex2 : x2 = u2 := by
      have : some u2 = some x2 := by rw [← hu2]; simpa using y2
      exact (Option.some.inj this).symm
    subst ex1 ex2
    obtain ⟨h1', _⟩ := st1'
    obtain ⟨h2', _⟩ := st2'
    refine ⟨_, rfl, wpAny_letOwnedTupleGo_zip (s := { s with heap := h', toks := tk }) z' fun h'' z'' sb => ?_⟩
    have hT2 : h''.get? s.heap.objs.size = some { cls := .type "tuple", data := .seq #[x1, x2] } := (sb.2 _ (Nat.ne_of_gt hzl)).trans hT
    have new : ObjOk X.prog X.w (upd H s.heap.objs.size (.tup [x, y])) h'' s.heap.objs.size (.tup [x, y]) :=
      ⟨by show 2 ≤ sizeLine; decide, [x1, x2], .cons ru (.cons ru2 .nil), ⟨_, hT2, rfl, _, rfl⟩⟩
    have I1 : Inv X pins σ (upd H s.heap.objs.size (.tup [x, y])) { s with heap := h'', toks := tk } :=
      I.turnedNew (t' := tk) (ch := [z, TI, TO, i1, i2]) (fun c o hb q => (sb.2 c (fun q' => hb (by simp [q']))).trans (hk c o (fun q' => hb (by simp [q'])) (fun q' => hb (by simp [q'])) (fun q' => hb (by simp [q'])) (fun q' => hb (by simp [q'])) q)) hf (Nat.le_refl _) new
    refine ⟨.ref s.heap.objs.size, _, I1, rfl, ⟨_, x, y, rfl, I.hok.fresh (Nat.le_refl _), rfl, fun l hl => by rw [I.tuple_inj hl hqx]; exact hx, fun l hl => by rw [I.list_inj hl hqy]; exact hy⟩, ⟨z'', ?_, ⟨x1, x2, ?_⟩, ?_, ?_⟩, fun c hcm => ?_⟩
    · exact (sb.2 _ D.TIz).trans (hk _ _ D.TIz D.TITO D.TIi1 D.TIi2 hTI)
    · exact (sb.2 _ D.TOz).trans TO'
    · exact h1'.at fun o q => (sb.2 _ D.zi1.symm).trans q
    · exact h2'.at fun o q => (sb.2 _ D.zi2.symm).trans q
    · have hlt : c < s.heap.objs.size := by
        have e' : c = z ∨ c = TI ∨ c = TO ∨ c = i1 ∨ c = i2 := by simpa using hcm
        rcases e' with q | q | q | q | q
        · rw [q]; exact hzl
        · rw [q]; exact Heap.lt_size hTI
        · rw [q]; exact Heap.lt_size hTO
        · rw [q]; obtain ⟨_, e1, _⟩ := h1; exact Heap.lt_size e1
        · rw [q]; obtain ⟨_, e2, _⟩ := h2; exact Heap.lt_size e2
      rw [upd_ne (Nat.ne_of_lt hlt)]
      exact (hf c hcm).1
  done := by
    intro X hP hw hK hc i pins s σ H E I hf st hg
    subst hP hw hK
    obtain ⟨hz, hTI, ⟨x0, y0, hTO⟩, h1, h2⟩ := st
    obtain ⟨xs, ys, hqx, hqy, hend⟩ := hg
    obtain ⟨its, rv, p, _⟩ := I.tuple hqx
    obtain ⟨its2, rv2, p2, _⟩ := I.list hqy
    have l1 := rv.length
    have l2 := rv2.length
    have D1 := PySem.Draws.tuple (prog := X.prog) (w := X.w) (A := X.A.in1) (I.ok.hd hc) i1 a D.a1 its.toArray
    have D2 := PySem.Draws.list (prog := X.prog) (w := X.w) (A := X.A.in1) (I.ok.hd hc) i2 b D.b2 its2.toArray
    have s1 : its.toArray.size = its.length := by simp
    have s2 : its2.toArray.size = its2.length := by simp
    exact wpAny_pyNext_zipD2_end D.sep D1 D2 hz hTI hTO ⟨h1, p⟩ ⟨h2, p2.isList⟩ (by omega) (by omega) (by omega) fun h' tk hk => ⟨rfl, I.turnedL (t' := tk) (ch := [z, TI, TO, i1, i2]) (fun c o hb q =>
      hk c o (fun q' => hb (by simp [q'])) (fun q' => hb (by simp [q'])) (fun q' => hb (by simp [q'])) (fun q' => hb (by simp [q'])) q) hf⟩
  self := fun A i s Q E st h => wpAny_pyIter_zip st.1 h
def iZipM (K : PySem.W.Frag) (ta : TA) : TI := fun σ H R => ta σ H fun vs H1 => ∃ a b xs ys, vs = [.ref a, .ref b] ∧ SqT K H1 a xs ∧ SqL K H1 b ys ∧ R (ItzM K a b) H1
theorem pi_zipM {X : Cx} {e e2 : Expr} {ta : TA} {p pos tpos : Pos} {elts : List Expr} {kk : Nat} (hg : Gl X "zip") (hm : X.mg "zip" = none) (ha : PA X [e, e2] ta)
    (hs : starEach [e, e2] X.env = (false, eval e X.env) :: starEach [e2] X.env := by rfl) (hpl : (backTo pos (starEach [e2] X.env)).any (·.1) = false := by rfl) :
    PI X (.Tuple elts kk tpos) (.Call (.Name "zip" p) [e, e2] [] pos) (iZipM X.K ta) := by
  refine ⟨fun pins s σ H R I h => ?_⟩
  refine Call_ (ld_blt I hg hm PyProof.Rows.boot_zip (PyProof.Rows.callWith_type1 (thn (ha.run pos pins s σ H _ I h) fun us s1 ⟨vs, H1, I1, r1, q1⟩ => ?_) hs hpl))
  obtain ⟨a, b, xs, ys, ex, hqx, hqy, q⟩ := q1
  subst ex
  cases r1 with
  | cons r rr =>
    cases rr with
    | cons r' rr =>
      cases rr
      cases r
      cases r'
      have fresh5 : ∀ c, c ∈ [s1.heap.objs.size + 4, s1.heap.objs.size + 2, s1.heap.objs.size + 3, s1.heap.objs.size, s1.heap.objs.size + 1] → FpOk X pins H1 c := fun c hcm => by
        have e' : c = s1.heap.objs.size + 4 ∨ c = s1.heap.objs.size + 2 ∨ c = s1.heap.objs.size + 3 ∨ c = s1.heap.objs.size ∨ c = s1.heap.objs.size + 1 := by simpa using hcm
        have hle : s1.heap.objs.size ≤ c := by
          rcases e' with z | z | z | z | z
          · rw [z]; exact Nat.le_add_right _ _
          · rw [z]; exact Nat.le_add_right _ _
          · rw [z]; exact Nat.le_add_right _ _
          · rw [z]; exact Nat.le_refl _
          · rw [z]; exact Nat.le_add_right _ _
        exact I1.fpOk hle (I1.hok.fresh hle)
      obtain ⟨its, rv, p1, _⟩ := I1.tuple hqx
      obtain ⟨its2, rv2, p2, _⟩ := I1.list hqy
      obtain ⟨o1, ho1, _⟩ := id p1
      refine PySem.zip_begins2 (begins_tuple a its.toArray) (begins_list b its2.toArray) p1 p2.isList fun h' hz hTI hTO h1 h2 hsz hk => wpAny_pyIter_zip hz ?_
      have I2 : Inv X pins σ H1 { s1 with heap := h' } := I1.kept (t' := s1.toks) hk
      exact ⟨s1.heap.objs.size + 4, [s1.heap.objs.size + 4, s1.heap.objs.size + 2, s1.heap.objs.size + 3, s1.heap.objs.size, s1.heap.objs.size + 1], _, _, H1, rfl, I2, turn_zipM (apart_n s1.heap.objs.size a b (Heap.lt_size ho1) p2.lt), ⟨hz, hTI, ⟨_, _, hTO⟩, ⟨_, h1, rfl, rfl⟩, ⟨_, h2, rfl, rfl⟩⟩, fresh5, q⟩
theorem walk_zipM {K : PySem.W.Frag} {a b : Addr} {xs ys : List V} (hl : xs.length = ys.length) : Walk (ItzM K a b) xs.length (fun H => SqT K H a xs ∧ SqL K H b ys) (YPair (fun i => xs[i]?) (fun i => ys[i]?)) := by
  refine ⟨fun i _ hi q => ?_, fun _ q => ⟨xs, ys, q.1, q.2, .inl ⟨rfl, by omega⟩⟩, fun i H v H' _ q y => ?_⟩
  · have h2 : i < ys.length := by omega
    exact ⟨xs, ys, xs[i], ys[i], q.1, q.2, by simp [hi], by simp [h2]⟩
  · obtain ⟨T, x, z, h1, h2, h3, h4, h5⟩ := y
    exact ⟨T, x, z, h1, h2, h3, h4 xs q.1, h5 ys q.2⟩
end My

namespace My
open PySem PySem.Spec PyProof.Rows L2
/-! ### f(k = v, ..) without positional arguments; a def of one parameter, by name -/
section
variable {X : Cx} {CX : CXT} {k : Nat} {f : Addr} {fd : FuncData} {ps ks : List Str} {sp : Sp} {E : XK} {x : Str} {p pos : Pos} {kws : List Keyword} {tk : TA} {g : List Value → List Value → List Value} {gV : List V → List V → List V}
theorem pe_callK0 (F : FnOk X.prog X.w X.K X.mg X.base CX k f fd ps sp) (hr : Room k X.A) (hg : Gl X x) (hm : X.mg x = some (.ref f)) (hk : PySem.W.keepIn X.K (.ref f) = true) (hb : KBinds X.K fd ps ks g gV) (hx : Passes CX X E)
    (hkw : PK X kws tk) (hall : (backToKw pos (keywordEach kws X.env)).all (·.1.isSome) = true := by rfl) (hks : (backToKw pos (keywordEach kws X.env)).filterMap (·.1) = ks := by rfl)
    (hdb : (x == ("__debug__" : Str)) = false := by decide)
    (hpl : ((backTo pos (starEach [] X.env)).any (·.1) || (backToKw pos (keywordEach kws X.env)).any (·.1.isNone)) = false := by rfl) :
    PE X (.Call (.Name x p) [] kws pos) (tCallK sp gV E tNil tk) := by
  refine ⟨fun pins s σ H Q I h => ?_⟩
  refine wpAny_Call_Name_kw (ld_glob I hg hm ?_ hdb)
  refine PySem.W.callWith_KW0 (h₀ := X.base) I.ok.mod.kin hk hall ?_ hpl
  refine thn (hkw.run pos pins s σ H _ I h) fun ws s2 ⟨zs, H2, I2, rz, q2⟩ => ⟨I2.kIn, ?_⟩
  rw [hks]
  exact run_fnk F hr hb hx I2 .nil rz q2
end
/-- of several defs that the slot may hold, each with its promises -/
def tCallR (i : Nat) (S : Addr → Sp → Prop) (t : TA) : TE := fun σ H Q => ∃ f sp, σ[i]? = some (some (.ref f)) ∧ S f sp ∧ t σ H fun vs H1 => sp vs H1 Q (fun _ _ _ => False)
theorem pe_callR {X : Cx} {k i : Nat} {x : Str} {p pos : Pos} {e : Expr} {es : List Expr} {t : TA} {S : Addr → Sp → Prop} (A : ∀ f sp, S f sp → Held X.prog X.w X.K X.mg X.base k f sp) (hr : Room k X.A) (hN : X.N[i]? = some x) (hv : Vis X.env.scope x) (ha : PA X (e :: es) t)
    (hdb : (x == ("__debug__" : Str)) = false := by decide) (hcd : (x == ("__classdict__" : Str)) = false := by decide)
    (he : starEach (e :: es) X.env = (false, eval e X.env) :: starEach es X.env := by rfl) (hpl : (backTo pos (starEach es X.env)).any (·.1) = false := by rfl) : PE X (.Call (.Name x p) (e :: es) [] pos) (tCallR i S t) := by
  refine ⟨fun pins s σ H Q I h => ?_⟩
  obtain ⟨f, sp, hs, hS, ht⟩ := h
  obtain ⟨fd, ps, F, hk, hb⟩ := (A f sp hS).ex
  refine (pe_callL (i := i) (f := f) (sp := sp) (dvs := []) (E := fun _ _ _ => False) F hr hN hv hk hb .nil (fun _ _ _ _ _ _ _ z => z.elim) ha hdb hcd he hpl).run pins s σ H Q I ⟨hs, ?_⟩
  have e0 : (fun (vs : List V) (H1 : Hp) => sp (vs ++ []) H1 Q (fun _ _ _ => False)) = fun vs H1 => sp vs H1 Q (fun _ _ _ => False) := by
    funext vs H1
    rw [List.append_nil]
  show t σ H (fun vs H1 => sp (vs ++ []) H1 Q (fun _ _ _ => False))
  rw [e0]
  exact ht
theorem fnOk_up {P : Program} {w : World} {K : PySem.W.Frag} {mg : Str → Option Value} {base : Heap} {CX : CXT} {k k' : Nat} {f : Addr} {fd : FuncData} {ps : List Str} {sp : Sp} (h : FnOk P w K mg base CX k f fd ps sp) (hk : k ≤ k') : FnOk P w K mg base CX k' f fd ps sp :=
  ⟨h.len, fun A outer s H args us vs Q E hr => h.run A outer s H args us vs Q E (hr.mono hk)⟩
theorem kbinds_one {K : PySem.W.Frag} {x qual p : Str} {st : Stmt} {f : Addr} {fd : FuncData} (F : Fun K x qual st f fd)
    (h1 : ∀ (kV doc pm : Value) (an : Option Addr) (cdv ct : Value) (u : Value), bindArgs (PySem.W.fnOf x qual (defArgs st) (defBody st) (defScope st) .none kV doc pm an cdv ct) ⟨[u], []⟩ = pure [(p, u)])
    (h2 : ∀ (kV doc pm : Value) (an : Option Addr) (cdv ct : Value) (u : Value), bindArgs (PySem.W.fnOf x qual (defArgs st) (defBody st) (defScope st) .none kV doc pm an cdv ct) ⟨[], [(p, u)]⟩ = pure [(p, u)]) :
    KBinds K fd [p] [p] (fun us ws => us ++ ws) (fun vs zs => vs ++ zs) := by
  obtain ⟨oc, od, kV, doc, pm, an, cdv, ct, osl, rfl, lk, hcd⟩ := F.ex
  refine ⟨fun s us ws _ hl => ?_, fun r1 r2 => ?_⟩
  · match us, ws, hl with
    | [u], [], _ => exact .of_eq (h1 kV doc pm an cdv ct u)
    | [], [u], _ => exact .of_eq (h2 kV doc pm an cdv ct u)
  · induction r1 with
    | nil => exact r2
    | cons r _ ih => exact .cons r ih
end My

namespace My
open PySem PySem.Spec PyProof.Rows L2
/-! ### two rows, item by item -/
def All2 {α β : Type} (R : α → β → Prop) (xs : List α) (ys : List β) : Prop := xs.length = ys.length ∧ ∀ (i : Nat) (x : α) (y : β), xs[i]? = some x → ys[i]? = some y → R x y
section
variable {α β : Type} {R : α → β → Prop} {xs xs' : List α} {ys ys' : List β}
theorem All2.nil : All2 R ([] : List α) ([] : List β) := ⟨rfl, fun i x y h => by simp at h⟩
theorem All2.mono {R' : α → β → Prop} (h : All2 R xs ys) (f : ∀ x y, R x y → R' x y) : All2 R' xs ys := ⟨h.1, fun i x y a b => f x y (h.2 i x y a b)⟩
theorem All2.cons {x : α} {y : β} (r : R x y) (h : All2 R xs ys) : All2 R (x :: xs) (y :: ys) := by
  refine ⟨by simp [h.1], fun i a b ha hb => ?_⟩
  cases i with
  | zero =>
    rw [List.getElem?_cons_zero] at ha hb
    cases ha
    cases hb
    exact r
  | succ i =>
    rw [List.getElem?_cons_succ] at ha hb
    exact h.2 i a b ha hb
theorem All2.app (h : All2 R xs ys) (g : All2 R xs' ys') : All2 R (xs ++ xs') (ys ++ ys') := by
  refine ⟨by simp [h.1, g.1], fun i a b ha hb => ?_⟩
  by_cases c : i < xs.length
  · rw [List.getElem?_append_left c] at ha
    rw [List.getElem?_append_left (by rw [← h.1]; exact c)] at hb
    exact h.2 i a b ha hb
  · rw [List.getElem?_append_right (by omega)] at ha
    rw [List.getElem?_append_right (by rw [← h.1]; omega), ← h.1] at hb
    exact g.2 _ a b ha hb
theorem All2.one {x : α} {y : β} (r : R x y) : All2 R [x] [y] := .cons r .nil
theorem All2.drop (h : All2 R xs ys) (n : Nat) : All2 R (xs.drop n) (ys.drop n) :=
  ⟨by simp [h.1], fun i a b ha hb => h.2 (n + i) a b (by rw [List.getElem?_drop] at ha; exact ha) (by rw [List.getElem?_drop] at hb; exact hb)⟩
theorem All2.take (h : All2 R xs ys) (n : Nat) : All2 R (xs.take n) (ys.take n) := by
  refine ⟨by simp [h.1], fun i a b ha hb => ?_⟩
  rw [List.getElem?_take] at ha hb
  split at ha
  · rename_i c
    rw [if_pos c] at hb
    exact h.2 i a b ha hb
  · cases ha
theorem All2.get (h : All2 R xs ys) {i : Nat} {y : β} (hy : ys[i]? = some y) : ∃ x, xs[i]? = some x ∧ R x y := by
  have hi : i < xs.length := by rw [h.1]; exact (List.getElem?_eq_some_iff.mp hy).1
  exact ⟨xs[i], List.getElem?_eq_getElem hi, h.2 i _ _ (List.getElem?_eq_getElem hi) hy⟩
theorem All2.map {γ : Type} {f : γ → β} {zs : List γ} : All2 R xs (zs.map f) ↔ All2 (fun x z => R x (f z)) xs zs := by
  constructor
  · intro h
    refine ⟨by simpa using h.1, fun i x z hx hz => h.2 i x (f z) hx (by rw [List.getElem?_map, hz]; rfl)⟩
  · intro h
    refine ⟨by simpa using h.1, fun i x y hx hy => ?_⟩
    rw [List.getElem?_map] at hy
    cases e : zs[i]? with
    | none => rw [e] at hy; cases hy
    | some z => rw [e] at hy; cases hy; exact h.2 i x z hx e
end
theorem dpAll_all2 {K : PySem.W.Frag} {H : Hp} : ∀ {vs : List V} {ds : List PyData}, DpAll K H vs ds → All2 (Dp K H) vs ds
  | _, _, .nil => .nil
  | _, _, .cons h r => .cons h (dpAll_all2 r)
theorem all2_dpAll {K : PySem.W.Frag} {H : Hp} : ∀ {vs : List V} {ds : List PyData}, All2 (Dp K H) vs ds → DpAll K H vs ds
  | [], [], _ => .nil
  | [], _ :: _, h => by have := h.1; simp at this
  | _ :: _, [], h => by have := h.1; simp at this
  | v :: vs, d :: ds, h => .cons (h.2 0 v d rfl rfl) (all2_dpAll ⟨by have := h.1; simpa using this, fun i x y hx hy => h.2 (i + 1) x y hx hy⟩)
theorem same_tup {K : PySem.W.Frag} {H H' : Hp} {a : Addr} {xs : List V} (s : Same H H') (h : SqT K H a xs) : SqT K H' a xs := by
  rcases h with (h | ⟨o, h⟩) | h
  · exact .inl (.inl (s _ _ h))
  · exact .inl (.inr ⟨o, s _ _ h⟩)
  · exact .inr h
mutual
theorem dp_same {K : PySem.W.Frag} {H H' : Hp} (s : Same H H') : ∀ {v : V} {d : PyData}, Dp K H v d → Dp K H' v d
  | _, _, .non => .non
  | _, _, .bl b => .bl b
  | _, _, .int i => .int i
  | _, _, .str x => .str x
  | _, _, .lst h r => .lst (s.seq h) (dpAll_same s r)
  | _, _, .tup h r => .tup (same_tup s h) (dpAll_same s r)
theorem dpAll_same {K : PySem.W.Frag} {H H' : Hp} (s : Same H H') : ∀ {vs : List V} {ds : List PyData}, DpAll K H vs ds → DpAll K H' vs ds
  | _, _, .nil => .nil
  | _, _, .cons h r => .cons (dp_same s h) (dpAll_same s r)
end
/-! ### the heap without some places -/
def Rest (H : Hp) (L : List Addr) : Hp := fun b => if b ∈ L then none else H b
theorem rest_in {H : Hp} {L : List Addr} {b : Addr} (h : b ∈ L) : Rest H L b = none := if_pos h
theorem rest_out {H : Hp} {L : List Addr} {b : Addr} (h : b ∉ L) : Rest H L b = H b := if_neg h
theorem rest_same {H : Hp} {L : List Addr} : Same (Rest H L) H := fun b o e => by
  unfold Rest at e
  split at e
  · cases e
  · exact e
theorem same_rest {G H : Hp} {L : List Addr} (s : Same G H) (n : ∀ b ∈ L, G b = none) : Same G (Rest H L) := fun b o e => by
  by_cases h : b ∈ L
  · rw [n b h] at e
    cases e
  · rw [rest_out h]
    exact s b o e
theorem rest_mono {H H' : Hp} {L : List Addr} (s : Same H H') : Same (Rest H L) (Rest H' L) := same_rest (fun b o e => s b o (rest_same b o e)) fun _ h => rest_in h
theorem rest_upd {H : Hp} {L : List Addr} {a : Addr} {o : HO} (h : a ∈ L) : Rest (upd H a o) L = Rest H L := by
  funext b
  by_cases hb : b ∈ L
  · rw [rest_in hb, rest_in hb]
  · rw [rest_out hb, rest_out hb, upd_ne fun e => hb (by rw [e]; exact h)]
theorem rest_less {H : Hp} {L L' : List Addr} (h : ∀ b ∈ L', b ∈ L) : Same (Rest H L) (Rest H L') := fun b o e => by
  have hb : b ∉ L := fun z => by rw [rest_in z] at e; cases e
  rw [rest_out hb] at e
  rw [rest_out fun z => hb (h b z)]
  exact e
end My

namespace My
open PySem PySem.Spec PyProof.Rows L2
/-- a well of draws, and how many parts may be made -/
def Well3 (H : Hp) (L : Addr) : Prop := ∃ x y z : Int, H L = some (.lst [.int x, .int y, .int z])
theorem Well3.lst {H : Hp} {L : Addr} (h : Well3 H L) : ∃ xs, H L = some (.lst xs) := by
  obtain ⟨x, y, z, e⟩ := h
  exact ⟨_, e⟩
theorem Well3.same {H H' : Hp} {L : Addr} (h : Well3 H L) (s : Same H H') : Well3 H' L := by
  obtain ⟨x, y, z, e⟩ := h
  exact ⟨x, y, z, s _ _ e⟩
theorem Well3.new {H : Hp} {L p : Addr} {o : HO} (h : Well3 H L) (n : H p = none) : Well3 (upd H p o) L := h.same (same_new n)
theorem Well3.ne {H : Hp} {L p : Addr} (h : Well3 H L) (n : H p = none) : p ≠ L := by
  obtain ⟨x, y, z, e⟩ := h
  exact (ne_of_none e n).symm
theorem Well3.upd {H : Hp} {L p : Addr} {o : HO} (h : Well3 H L) (n : p ≠ L) : Well3 (upd H p o) L := by
  obtain ⟨x, y, z, e⟩ := h
  exact ⟨x, y, z, by rw [upd_ne n.symm]; exact e⟩
/-! ### data without lists -/
mutual
def noList : PyData → Bool
  | .list _ => false
  | .tuple ds => noListAll ds
  | .dict _ => false
  | _ => true
def noListAll : List PyData → Bool
  | [] => true
  | d :: ds => noList d && noListAll ds
end
mutual
theorem dp_rest {K : PySem.W.Frag} {H : Hp} {L : List Addr} (hL : ∀ b ∈ L, ∃ xs, H b = some (.lst xs)) : ∀ {v : V} {d : PyData}, noList d = true → Dp K H v d → Dp K (Rest H L) v d
  | _, _, _, .non => .non
  | _, _, _, .bl b => .bl b
  | _, _, _, .int i => .int i
  | _, _, _, .str x => .str x
  | _, _, h, .lst _ _ => by unfold noList at h; cases h
  | _, _, h, .tup (a := a) q r => by
    refine .tup ?_ (dpAll_rest hL (by unfold noList at h; exact h) r)
    rcases q with (q | ⟨o, q⟩) | q
    · refine .inl (.inl ?_)
      rw [rest_out fun z => ?_]
      · exact q
      · obtain ⟨xs, e⟩ := hL _ z
        rw [e] at q
        cases q
    · refine .inl (.inr ⟨o, ?_⟩)
      rw [rest_out fun z => ?_]
      · exact q
      · obtain ⟨xs, e⟩ := hL _ z
        rw [e] at q
        cases q
    · exact .inr q
theorem dpAll_rest {K : PySem.W.Frag} {H : Hp} {L : List Addr} (hL : ∀ b ∈ L, ∃ xs, H b = some (.lst xs)) : ∀ {vs : List V} {ds : List PyData}, noListAll ds = true → DpAll K H vs ds → DpAll K (Rest H L) vs ds
  | _, _, _, .nil => .nil
  | _, _, h, .cons q r => by
    unfold noListAll at h
    rw [Bool.and_eq_true] at h
    exact .cons (dp_rest hL h.1 q) (dpAll_rest hL h.2 r)
end
theorem dp_keep {K : PySem.W.Frag} {H H' : Hp} {L : Addr} {v : V} {d : PyData} (k : Keeps L H H') (hL : ∃ xs, H L = some (.lst xs)) (n : noList d = true) (h : Dp K H v d) : Dp K H' v d := by
  have h1 := dp_rest (L := [L]) (fun b hb => by rw [List.mem_singleton.mp hb]; exact hL) n h
  refine dp_same (fun b o e => ?_) h1
  have hb : b ≠ L := fun z => by rw [z, rest_in (by simp)] at e; cases e
  rw [rest_out (by simpa using hb)] at e
  exact k b o hb e
end My

namespace My
open PySem PySem.Spec PyProof.Rows L2
/-! ### rows within one another, gone through from the outermost on -/
def tot {X : Type} (N : List X → Nat) : List (List X) → Nat
  | [] => 0
  | r :: rs => N r + tot N rs
theorem tot_app {X : Type} (N : List X → Nat) : ∀ a b : List (List X), tot N (a ++ b) = tot N a + tot N b
  | [], b => by simp [tot]
  | r :: a, b => by
    show N r + tot N (a ++ b) = N r + tot N a + tot N b
    rw [tot_app N a b]
    omega
theorem keeps_rest {R : Addr} {H H' : Hp} {L : List Addr} (k : Keeps R H H') (h : R ∈ L) : Same (Rest H L) (Rest H' L) := same_rest (fun b o e => by
    by_cases hb : b ∈ L
    · rw [rest_in hb] at e
      cases e
    · rw [rest_out hb] at e
      exact k b o (fun z => hb (by rw [z]; exact h)) e) fun _ h => rest_in h
theorem keeps_same {R : Addr} {G H H' : Hp} (k : Keeps R H H') (s : Same G H) (n : G R = none) : Same G H' := fun b o e => k b o (fun z => by rw [z, n] at e; cases e) (s b o e)
theorem cutV_nat (zs : List V) {b e : Nat} (hb : b ≤ e) (he : e ≤ zs.length) : cutV zs (some (b : Int)) (some (e : Int)) = (zs.drop b).take (e - b) := by
  unfold cutV
  rw [HT.sIx_nat, HT.sIx_nat, Nat.min_eq_left he, Nat.min_eq_left (Nat.le_trans hb he)]
theorem flat_one {α : Type} (x : α) : ∀ n, (List.replicate n [x]).flatten = List.replicate n x
  | 0 => rfl
  | n + 1 => by
    rw [List.replicate_succ, List.flatten_cons, flat_one x n, List.replicate_succ]
    rfl
structure Fold where
  X : Type
  toD : X → PyData
  sub : X → List (List X)
  N : List X → Nat
  hN : ∀ row, N row = 1 + row.length + tot N (row.flatMap sub)
  Ok : List X → Prop
  inh : ∀ row x r, Ok row → x ∈ row → r ∈ sub x → Ok r
  RR : Hp → V → List X → Prop
  mono : ∀ G G' v r, Same G G' → RR G v r → RR G' v r
section
variable {F : Fold}
theorem tot_len : ∀ rs : List (List F.X), rs.length ≤ tot F.N rs
  | [] => Nat.le_refl _
  | r :: rs => by
    have h1 := tot_len rs
    have h2 := F.hN r
    show rs.length + 1 ≤ F.N r + tot F.N rs
    omega
theorem tot_mem : ∀ {rs : List (List F.X)} {r : List F.X}, r ∈ rs → F.N r ≤ tot F.N rs
  | q :: rs, r, h => by
    show F.N r ≤ F.N q + tot F.N rs
    rcases List.mem_cons.mp h with rfl | h
    · omega
    · have := tot_mem h
      omega
theorem ixN_nat {n k : Nat} (h : k < n) : ixN n (k : Int) = some k := by
  unfold ixN
  rw [if_pos (Int.natCast_nonneg k), if_pos (by omega)]
  rfl
def RowIs (K : PySem.W.Frag) (F : Fold) (G : Hp) (v : V) (row : List F.X) : Prop := ∃ a vs, v = .ref a ∧ SqT K G a vs ∧ All2 (fun u x => Dp K G u (F.toD x)) vs row
theorem RowIs.same {K : PySem.W.Frag} {G G' : Hp} {v : V} {row : List F.X} (s : Same G G') (h : RowIs K F G v row) : RowIs K F G' v row := by
  obtain ⟨a, vs, e, q, r⟩ := h
  exact ⟨a, vs, e, same_tup s q, r.mono fun _ _ d => dp_same s d⟩
theorem dp_row {K : PySem.W.Frag} {G : Hp} {v : V} {row : List F.X} (h : Dp K G v (.tuple (row.map F.toD))) : RowIs K F G v row := by
  cases h with
  | tup q r => exact ⟨_, _, rfl, q, All2.map.mp (dpAll_all2 r)⟩
def InOk (K : PySem.W.Frag) (F : Fold) (sp : Sp) : Prop := ∀ (G H : Hp) (v : V) (x : F.X) (Q : VK), Same G H → Dp K G v (F.toD x) →
  (∀ p H' ws, Same H H' → H p = none → H' p = some (.lst ws) → All2 (RowIs K F G) ws (F.sub x) → Q (.ref p) H') → sp [v] H Q (fun _ _ _ => False)
/-- the results of the rows in each of a row -/
def InnerIs (F : Fold) (G H : Hp) (w : V) (x : F.X) : Prop := ∃ l vs, w = .ref l ∧ H l = some (.lst vs) ∧ All2 (F.RR G) vs (F.sub x)
/-- what is new in G' is new in H, too -/
def NewIn (G G' H : Hp) : Prop := ∀ b, G' b ≠ none → G b ≠ none ∨ H b = none
def MadeOk (K : PySem.W.Frag) (F : Fold) (sp : Sp) : Prop := ∀ (G H : Hp) (v : V) (L : Addr) (ws : List V) (row : List F.X) (Q : VK), Same G H → RowIs K F G v row → F.Ok row → row.length ≤ 100000 → H L = some (.lst ws) →
  All2 (InnerIs F G H) ws row → (∀ r H' G', Same H H' → Same G G' → Same G' H' → NewIn G G' H → F.RR G' r row → Q r H') → sp [v, .ref L] H Q (fun _ _ _ => False)
def PlaceOk (F : Fold) (rs : List (List F.X)) (j : Nat) (x : F.X) (be : Nat × Nat) : Prop := j < be.1 ∧ be.1 ≤ be.2 ∧ be.2 ≤ rs.length ∧ (rs.drop be.1).take (be.2 - be.1) = F.sub x
theorem PlaceOk.app {rs more : List (List F.X)} {j : Nat} {x : F.X} {be : Nat × Nat} (h : PlaceOk F rs j x be) : PlaceOk F (rs ++ more) j x be := by
  obtain ⟨h1, h2, h3, h4⟩ := h
  refine ⟨h1, h2, by simp; omega, ?_⟩
  rw [List.drop_append_of_le_length (by omega), List.take_append_of_le_length (by simp; omega)]
  exact h4
theorem PlaceOk.new {rs : List (List F.X)} {j : Nat} {x : F.X} (h : j < rs.length) : PlaceOk F (rs ++ F.sub x) j x (rs.length, rs.length + (F.sub x).length) := by
  refine ⟨h, by simp, by simp, ?_⟩
  show ((rs ++ F.sub x).drop rs.length).take (rs.length + (F.sub x).length - rs.length) = F.sub x
  rw [List.drop_left, Nat.add_sub_cancel_left, List.take_length]
def PairAt (H : Hp) (t : V) (be : Nat × Nat) : Prop := ∃ q, t = .ref q ∧ H q = some (.tup [.int (be.1 : Nat), .int (be.2 : Nat)])
def NumIs (H : Hp) (v : V) (ps : List (Nat × Nat)) : Prop := ∃ a ts, v = .ref a ∧ H a = some (.lst ts) ∧ All2 (PairAt H) ts ps
theorem PairAt.same {G G' : Hp} {v : V} {be : Nat × Nat} (s : Same G G') (h : PairAt G v be) : PairAt G' v be := by
  obtain ⟨q, e, h⟩ := h
  exact ⟨q, e, s _ _ h⟩
theorem NumIs.same {G G' : Hp} {v : V} {ps : List (Nat × Nat)} (s : Same G G') (h : NumIs G v ps) : NumIs G' v ps := by
  obtain ⟨a, ts, e, h, r⟩ := h
  exact ⟨a, ts, e, s _ _ h, r.mono fun _ _ p => p.same s⟩
/-- so far the rows were gone through -/
structure Gone (F : Fold) (rs : List (List F.X)) (ps : List (List (Nat × Nat))) : Prop where
  le : ps.length ≤ rs.length
  at_ : ∀ j row pj, rs[j]? = some row → ps[j]? = some pj → All2 (PlaceOk F rs j) row pj
theorem Gone.step {rs : List (List F.X)} {ps : List (List (Nat × Nat))} {row : List F.X} {nums : List (Nat × Nat)} (h : Gone F rs ps) (hr : rs[ps.length]? = some row)
    (hn : All2 (PlaceOk F (rs ++ row.flatMap F.sub) ps.length) row nums) : Gone F (rs ++ row.flatMap F.sub) (ps ++ [nums]) := by
  have hlt : ps.length < rs.length := (List.getElem?_eq_some_iff.mp hr).1
  refine ⟨by simp; omega, fun j r pj h1 h2 => ?_⟩
  by_cases c : j < ps.length
  · rw [List.getElem?_append_left (by omega)] at h1
    rw [List.getElem?_append_left c] at h2
    exact (h.at_ j r pj h1 h2).mono fun _ _ p => p.app
  · have hj : j = ps.length := by
      have := (List.getElem?_eq_some_iff.mp h2).1
      simp at this
      omega
    subst hj
    rw [List.getElem?_append_left hlt, hr] at h1
    rw [List.getElem?_append_right (Nat.le_refl _), Nat.sub_self] at h2
    cases h1
    cases h2
    exact hn
theorem Gone.left {rs : List (List F.X)} {k : Nat} {row : List F.X} (hr : rs[k]? = some row) : tot F.N ((rs ++ row.flatMap F.sub).drop (k + 1)) + 1 + row.length = tot F.N (rs.drop k) := by
  have hlt : k < rs.length := (List.getElem?_eq_some_iff.mp hr).1
  have e : rs.drop k = row :: rs.drop (k + 1) := by
    rw [List.drop_eq_getElem_cons hlt]
    have := List.getElem?_eq_getElem hlt
    rw [hr] at this
    cases this
    rfl
  rw [List.drop_append_of_le_length (by omega), tot_app, e]
  show tot F.N (rs.drop (k + 1)) + tot F.N (row.flatMap F.sub) + 1 + row.length = F.N row + tot F.N (rs.drop (k + 1))
  rw [F.hN row]
  omega
end
end My

namespace My
open PySem PySem.Spec PyProof.Rows L2
theorem ifT {b : Bool} {A B : Prop} (h : b = true) (a : A) : if b = true then A else B := by
  rw [if_pos h]
  exact a
theorem ifF {b : Bool} {A B : Prop} (h : b = false) (a : B) : if b = true then A else B := by
  rw [if_neg (by rw [h]; exact Bool.false_ne_true)]
  exact a
/-! ### a test that may lay objects -/
def AnsS (t : TT) (σ : L2.St) (H : Hp) (P : Bool → Prop) : Prop := ∀ Q : Bool → Hp → Prop, (∀ b H', Same H H' → P b → Q b H') → t σ H Q
theorem ifS {c : TT} {a b : TS} {D : Ends} {σ : L2.St} {H : Hp} (P : Bool → Prop) (hc : AnsS c σ H P) (ht : ∀ H', Same H H' → P true → a D σ H') (hf : ∀ H', Same H H' → P false → b D σ H') : tIfS c a b D σ H :=
  hc _ fun k H' s p => by
    cases k with
    | true => exact iteT (ht H' s p)
    | false => exact iteF (hf H' s p)
theorem ifS_g {c : TT} {a b u : TS} {D : Ends} {σ : L2.St} {H : Hp} {i : Nat} {x : V} (P : Bool → Prop) (hc : AnsS c (σ.set i (some x)) H P) (ht : ∀ H', Same H H' → P true → a { D with nx := u D } (σ.set i (some x)) H') (hf : ∀ H', Same H H' → P false → b { D with nx := u D } (σ.set i (some x)) H') :
    gName i x σ H { D with nx := tSeq (tIfS c a b) u D }.nx := ifS P hc ht hf
theorem ifS_1 {c : TT} {a b : TS} {D : Ends} {σ : L2.St} {H : Hp} {i : Nat} {x : V} (P : Bool → Prop) (hc : AnsS c (σ.set i (some x)) H P) (ht : ∀ H', Same H H' → P true → a D (σ.set i (some x)) H') (hf : ∀ H', Same H H' → P false → b D (σ.set i (some x)) H') :
    gName i x σ H { D with nx := tIfS c a b D }.nx := ifS P hc ht hf
theorem atLast {xs : List V} {x : V} : atI (xs ++ [x]) (-1) = some x := by
  have e : ixN (xs ++ [x]).length (-1) = some xs.length := by
    unfold ixN
    rw [if_neg (by decide), if_pos (by rw [List.length_append, List.length_singleton]; omega)]
    congr 1
    rw [List.length_append, List.length_singleton]
    omega
  unfold atI
  rw [e]
  show (xs ++ [x])[xs.length]? = some x
  rw [List.getElem?_append_right (Nat.le_refl _), Nat.sub_self]
  rfl
theorem dpAll_app {K : PySem.W.Frag} {H : Hp} : ∀ {vs us : List V} {ds es : List PyData}, DpAll K H vs ds → DpAll K H us es → DpAll K H (vs ++ us) (ds ++ es)
  | _, _, _, _, .nil, g => g
  | _, _, _, _, .cons h r, g => .cons h (dpAll_app r g)
theorem dpAll_keep {K : PySem.W.Frag} {H H' : Hp} {L : Addr} {vs : List V} {ds : List PyData} (k : Keeps L H H') (hL : ∃ xs, H L = some (.lst xs)) (n : noListAll ds = true) (h : DpAll K H vs ds) : DpAll K H' vs ds := by
  have h1 := dpAll_rest (L := [L]) (fun b hb => by rw [List.mem_singleton.mp hb]; exact hL) n h
  refine dpAll_same (fun b o e => ?_) h1
  have hb : b ≠ L := fun z => by rw [z, rest_in (by simp)] at e; cases e
  rw [rest_out (by simpa using hb)] at e
  exact k b o hb e
end My

/-! ### inlines as trees -/
namespace IM
open PySem PySem.Spec PyProof.Rows L2 My
inductive Inl where
  | text (t : List Nat)
  | code (t : List Nat)
  | html (t : List Nat)
  | soft
  | hard
  | emph (r : List Inl)
  | strong (r : List Inl)
  | link (d : List Nat) (t : Option (List Nat)) (r : List Inl)
  | image (d : List Nat) (t : Option (List Nat)) (r : List Inl)
def optD : Option (List Nat) → PyData
  | none => .none
  | some t => .str (S t)
mutual
def Inl.toD : Inl → PyData
  | .text t => .tuple [.str "text", .str (S t)]
  | .code t => .tuple [.str "code", .str (S t)]
  | .html t => .tuple [.str "html", .str (S t)]
  | .soft => .tuple [.str "soft"]
  | .hard => .tuple [.str "hard"]
  | .emph r => .tuple [.str "emph", .tuple (rowD r)]
  | .strong r => .tuple [.str "strong", .tuple (rowD r)]
  | .link d t r => .tuple [.str "link", .str (S d), optD t, .tuple (rowD r)]
  | .image d t r => .tuple [.str "image", .str (S d), optD t, .tuple (rowD r)]
def rowD : List Inl → List PyData
  | [] => []
  | x :: r => x.toD :: rowD r
end
theorem rowD_map : ∀ r : List Inl, rowD r = r.map Inl.toD
  | [] => rfl
  | x :: r => by
    show x.toD :: rowD r = x.toD :: r.map Inl.toD
    rw [rowD_map r]
mutual
def Inl.words : Inl → List Nat
  | .text t => t
  | .code t => t
  | .html _ => []
  | .soft => [32]
  | .hard => [32]
  | .emph r => rowW r
  | .strong r => rowW r
  | .link _ _ r => rowW r
  | .image _ _ r => rowW r
def rowW : List Inl → List Nat
  | [] => []
  | x :: r => x.words ++ rowW r
end
theorem rowW_app : ∀ a b : List Inl, rowW (a ++ b) = rowW a ++ rowW b
  | [], b => rfl
  | x :: a, b => by
    show x.words ++ rowW (a ++ b) = x.words ++ rowW a ++ rowW b
    rw [rowW_app a b, List.append_assoc]
theorem rowW_one (x : Inl) : rowW [x] = x.words := List.append_nil _
theorem rowW_mem : ∀ {r : List Inl} {x : Inl}, x ∈ r → x.words.length ≤ (rowW r).length
  | y :: r, x, h => by
    show x.words.length ≤ (y.words ++ rowW r).length
    rw [List.length_append]
    rcases List.mem_cons.mp h with rfl | h
    · omega
    · have := rowW_mem h
      omega
def Inl.sub : Inl → List (List Inl)
  | .emph r => [r]
  | .strong r => [r]
  | .link _ _ r => [r]
  | .image _ _ r => [r]
  | _ => []
mutual
def Inl.rows : Inl → Nat
  | .emph r => 1 + rowN r
  | .strong r => 1 + rowN r
  | .link _ _ r => 1 + rowN r
  | .image _ _ r => 1 + rowN r
  | _ => 0
def rowN : List Inl → Nat
  | [] => 0
  | x :: r => 1 + x.rows + rowN r
end
theorem rowN_tot : ∀ r : List Inl, rowN r = r.length + tot (fun r => 1 + rowN r) (r.flatMap Inl.sub)
  | [] => rfl
  | x :: r => by
    have ih := rowN_tot r
    rw [List.flatMap_cons, tot_app]
    have e : x.rows = tot (fun r => 1 + rowN r) x.sub := by cases x <;> rfl
    show 1 + x.rows + rowN r = r.length + 1 + _
    omega
def wordsF : Fold where
  X := Inl
  toD := Inl.toD
  sub := Inl.sub
  N := fun r => 1 + rowN r
  hN := fun r => by rw [rowN_tot r]; omega
  Ok := fun r => (rowW r).length ≤ 1000000
  inh := fun row x r ho hx hr => by
    have := rowW_mem hx
    have e : x.words = rowW r := by
      cases x <;> simp only [Inl.sub, List.mem_singleton, List.not_mem_nil] at hr <;> (subst hr; rfl)
    rw [← e]
    omega
  RR := fun _ v r => v = .str (S (rowW r))
  mono := fun _ _ _ _ _ h => h
mutual
theorem noList_toD : ∀ x : Inl, noList x.toD = true
  | .text t => rfl
  | .code t => rfl
  | .html t => rfl
  | .soft => rfl
  | .hard => rfl
  | .emph r => by
    show (noList (.str "emph") && (noListAll (rowD r) && true)) = true
    rw [noList_row r]
    rfl
  | .strong r => by
    show (noList (.str "strong") && (noListAll (rowD r) && true)) = true
    rw [noList_row r]
    rfl
  | .link d t r => by
    show (noList (.str "link") && (noList (.str (S d)) && (noList (optD t) && (noListAll (rowD r) && true)))) = true
    rw [noList_row r]
    cases t <;> rfl
  | .image d t r => by
    show (noList (.str "image") && (noList (.str (S d)) && (noList (optD t) && (noListAll (rowD r) && true)))) = true
    rw [noList_row r]
    cases t <;> rfl
theorem noList_row : ∀ r : List Inl, noListAll (rowD r) = true
  | [] => rfl
  | x :: r => by
    show (noList x.toD && noListAll (rowD r)) = true
    rw [noList_toD x, noList_row r]
    rfl
end
/-! bounds: at most w in a row, d rows within one another -/
def Leaf : Inl → Prop
  | .text t => t.length ≤ 20 ∧ Sm t
  | .code t => t.length ≤ 20 ∧ Sm t
  | .html t => Sm t
  | .soft => True
  | .hard => True
  | _ => False
def optSm : Option (List Nat) → Prop
  | none => True
  | some t => Sm t
def Bd (w : Nat) : Nat → Inl → Prop
  | 0, x => Leaf x
  | d + 1, x => match x with
    | .emph r => r.length ≤ w ∧ ∀ y ∈ r, Bd w d y
    | .strong r => r.length ≤ w ∧ ∀ y ∈ r, Bd w d y
    | .link g t r => Sm g ∧ optSm t ∧ r.length ≤ w ∧ ∀ y ∈ r, Bd w d y
    | .image g t r => Sm g ∧ optSm t ∧ r.length ≤ w ∧ ∀ y ∈ r, Bd w d y
    | x => Leaf x
theorem Bd.leaf {w d : Nat} {x : Inl} (h : Leaf x) : Bd w d x := by
  cases d with
  | zero => exact h
  | succ d => cases x <;> first | exact h | exact h.elim
theorem Bd.up {w : Nat} : ∀ {d : Nat} {x : Inl}, Bd w d x → Bd w (d + 1) x
  | 0, x, h => .leaf h
  | d + 1, x, h => by
    cases x with
    | emph r => exact ⟨h.1, fun y hy => Bd.up (h.2 y hy)⟩
    | strong r => exact ⟨h.1, fun y hy => Bd.up (h.2 y hy)⟩
    | link g t r => exact ⟨h.1, h.2.1, h.2.2.1, fun y hy => Bd.up (h.2.2.2 y hy)⟩
    | image g t r => exact ⟨h.1, h.2.1, h.2.2.1, fun y hy => Bd.up (h.2.2.2 y hy)⟩
    | _ => exact h
theorem Bd.le {w d e : Nat} {x : Inl} (h : Bd w d x) (l : d ≤ e) : Bd w e x := by
  induction l with
  | refl => exact h
  | step _ ih => exact ih.up
theorem rowW_le {k : Nat} : ∀ {r : List Inl}, (∀ y ∈ r, y.words.length ≤ k) → (rowW r).length ≤ r.length * k
  | [], _ => Nat.zero_le _
  | x :: r, h => by
    show (x.words ++ rowW r).length ≤ (r.length + 1) * k
    rw [List.length_append, Nat.succ_mul]
    have h1 := h x (List.mem_cons_self ..)
    have h2 := rowW_le (r := r) fun y hy => h y (List.mem_cons_of_mem _ hy)
    omega
theorem rowN_le {k : Nat} : ∀ {r : List Inl}, (∀ y ∈ r, y.rows ≤ k) → rowN r ≤ r.length * (1 + k)
  | [], _ => Nat.zero_le _
  | x :: r, h => by
    show 1 + x.rows + rowN r ≤ (r.length + 1) * (1 + k)
    rw [Nat.succ_mul]
    have h1 := h x (List.mem_cons_self ..)
    have h2 := rowN_le (r := r) fun y hy => h y (List.mem_cons_of_mem _ hy)
    omega
def capN (w : Nat) : Nat → Nat
  | 0 => 0
  | d + 1 => 1 + w * (1 + capN w d)
theorem Leaf.words {x : Inl} (h : Leaf x) : x.words.length ≤ 20 := by
  cases x <;> first | exact h.1 | exact h.elim | (show _ ≤ 20; decide) | exact Nat.zero_le _
theorem Leaf.rows {x : Inl} (h : Leaf x) : x.rows = 0 := by
  cases x <;> first | rfl | exact h.elim
theorem Bd.row {w d : Nat} {r : List Inl} {P : Nat} (hl : r.length ≤ w) (hp : (rowW r).length ≤ r.length * P) : (rowW r).length ≤ w * P := Nat.le_trans hp (Nat.mul_le_mul_right _ hl)
theorem Bd.words {w : Nat} (hw : 1 ≤ w) : ∀ {d : Nat} {x : Inl}, Bd w d x → x.words.length ≤ 20 * w ^ d
  | 0, x, h => by
    have := Leaf.words h
    simpa using this
  | d + 1, x, h => by
    have h20 : 20 ≤ 20 * w ^ (d + 1) := Nat.le_mul_of_pos_right _ (Nat.pow_pos (by omega))
    have step : ∀ r : List Inl, r.length ≤ w → (∀ y ∈ r, Bd w d y) → (rowW r).length ≤ 20 * w ^ (d + 1) := fun r hl hr => by
      have h1 := rowW_le (k := 20 * w ^ d) fun y hy => Bd.words hw (hr y hy)
      have h2 := Nat.mul_le_mul_right (20 * w ^ d) hl
      have e : w * (20 * w ^ d) = 20 * w ^ (d + 1) := by rw [Nat.pow_succ, Nat.mul_left_comm, Nat.mul_comm w]
      omega
    cases x with
    | emph r => exact step r h.1 h.2
    | strong r => exact step r h.1 h.2
    | link g t r => exact step r h.2.2.1 h.2.2.2
    | image g t r => exact step r h.2.2.1 h.2.2.2
    | text t => exact Nat.le_trans (Leaf.words h) h20
    | code t => exact Nat.le_trans (Leaf.words h) h20
    | html t => exact Nat.le_trans (Leaf.words h) h20
    | soft => exact Nat.le_trans (Leaf.words (x := .soft) trivial) h20
    | hard => exact Nat.le_trans (Leaf.words (x := .hard) trivial) h20
theorem Bd.rows {w : Nat} : ∀ {d : Nat} {x : Inl}, Bd w d x → x.rows ≤ capN w d
  | 0, x, h => by rw [Leaf.rows h]; exact Nat.zero_le _
  | d + 1, x, h => by
    have step : ∀ r : List Inl, r.length ≤ w → (∀ y ∈ r, Bd w d y) → 1 + rowN r ≤ capN w (d + 1) := fun r hl hr => by
      have h1 := rowN_le (k := capN w d) fun y hy => Bd.rows (hr y hy)
      have h2 := Nat.mul_le_mul_right (1 + capN w d) hl
      show 1 + rowN r ≤ 1 + w * (1 + capN w d)
      omega
    cases x with
    | emph r => exact step r h.1 h.2
    | strong r => exact step r h.1 h.2
    | link g t r => exact step r h.2.2.1 h.2.2.2
    | image g t r => exact step r h.2.2.1 h.2.2.2
    | _ => exact Nat.zero_le _
/-! the data are well shaped -/
theorem optD_lay {t : Option (List Nat)} (h : optSm t) : (optD t).canLay0 = true := by
  cases t with
  | none => rfl
  | some t => exact Sm.ok h
theorem optD_depth (t : Option (List Nat)) : (optD t).depth = 0 := by cases t <;> rfl
theorem layAll : ∀ {r : List Inl}, (∀ y ∈ r, y.toD.canLay0 = true) → PyData.canLayAll0 (rowD r) = true
  | [], _ => rfl
  | x :: r, h => by
    show (x.toD.canLay0 && PyData.canLayAll0 (rowD r)) = true
    rw [h x (List.mem_cons_self ..), layAll fun y hy => h y (List.mem_cons_of_mem _ hy)]
    rfl
theorem depthAll_le {k : Nat} : ∀ {r : List Inl}, (∀ y ∈ r, y.toD.depth ≤ k) → PyData.depthAll (rowD r) ≤ k
  | [], _ => Nat.zero_le _
  | x :: r, h => by
    show max x.toD.depth (PyData.depthAll (rowD r)) ≤ k
    have h1 := h x (List.mem_cons_self ..)
    have h2 := depthAll_le (r := r) fun y hy => h y (List.mem_cons_of_mem _ hy)
    omega
theorem Leaf.lay {x : Inl} (h : Leaf x) : x.toD.canLay0 = true ∧ x.toD.depth ≤ 1 := by
  cases x with
  | text t => exact ⟨by show (PyData.strOk "text" && (PyData.strOk (S t) && true)) = true; rw [h.2.ok]; decide +kernel, Nat.le_refl _⟩
  | code t => exact ⟨by show (PyData.strOk "code" && (PyData.strOk (S t) && true)) = true; rw [h.2.ok]; decide +kernel, Nat.le_refl _⟩
  | html t => exact ⟨by show (PyData.strOk "html" && (PyData.strOk (S t) && true)) = true; rw [Sm.ok h]; decide +kernel, Nat.le_refl _⟩
  | soft => exact ⟨by show (PyData.strOk "soft" && true) = true; decide +kernel, Nat.le_refl _⟩
  | hard => exact ⟨by show (PyData.strOk "hard" && true) = true; decide +kernel, Nat.le_refl _⟩
  | _ => exact h.elim
theorem Bd.lay {w : Nat} : ∀ {d : Nat} {x : Inl}, Bd w d x → x.toD.canLay0 = true ∧ x.toD.depth ≤ 2 * d + 1
  | 0, x, h => Leaf.lay h
  | d + 1, x, h => by
    have step : ∀ r : List Inl, (∀ y ∈ r, Bd w d y) → PyData.canLayAll0 (rowD r) = true ∧ PyData.depthAll (rowD r) ≤ 2 * d + 1 := fun r hr =>
      ⟨layAll fun y hy => (Bd.lay (hr y hy)).1, depthAll_le fun y hy => (Bd.lay (hr y hy)).2⟩
    have two : ∀ (z : Str) (r : List Inl), PyData.strOk z = true → (∀ y ∈ r, Bd w d y) → (PyData.tuple [.str z, .tuple (rowD r)]).canLay0 = true ∧ (PyData.tuple [.str z, .tuple (rowD r)]).depth ≤ 2 * (d + 1) + 1 := fun z r hz hr => by
      obtain ⟨h1, h2⟩ := step r hr
      constructor
      · show (PyData.strOk z && (PyData.canLayAll0 (rowD r) && true)) = true
        rw [hz, h1]
        rfl
      · show max 0 (max (PyData.depthAll (rowD r) + 1) 0) + 1 ≤ 2 * (d + 1) + 1
        omega
    have four : ∀ (z : Str) (g : List Nat) (t : Option (List Nat)) (r : List Inl), PyData.strOk z = true → Sm g → optSm t → (∀ y ∈ r, Bd w d y) → (PyData.tuple [.str z, .str (S g), optD t, .tuple (rowD r)]).canLay0 = true ∧ (PyData.tuple [.str z, .str (S g), optD t, .tuple (rowD r)]).depth ≤ 2 * (d + 1) + 1 := fun z g t r hz hg ht hr => by
      obtain ⟨h1, h2⟩ := step r hr
      constructor
      · show (PyData.strOk z && (PyData.strOk (S g) && ((optD t).canLay0 && (PyData.canLayAll0 (rowD r) && true)))) = true
        rw [hz, hg.ok, optD_lay ht, h1]
        rfl
      · show max 0 (max 0 (max (optD t).depth (max (PyData.depthAll (rowD r) + 1) 0))) + 1 ≤ 2 * (d + 1) + 1
        rw [optD_depth]
        omega
    have lf : Leaf x → x.toD.canLay0 = true ∧ x.toD.depth ≤ 2 * (d + 1) + 1 := fun h => ⟨(Leaf.lay h).1, Nat.le_trans (Leaf.lay h).2 (by omega)⟩
    cases x with
    | emph r => exact two "emph" r (by decide +kernel) h.2
    | strong r => exact two "strong" r (by decide +kernel) h.2
    | link g t r => exact four "link" g t r (by decide +kernel) h.1 h.2.1 h.2.2.2
    | image g t r => exact four "image" g t r (by decide +kernel) h.1 h.2.1 h.2.2.2
    | text t => exact lf h
    | code t => exact lf h
    | html t => exact lf h
    | soft => exact lf trivial
    | hard => exact lf trivial
end IM

namespace RM
open My PySem PySem.Spec PyProof.Rows L2
/-! ### references: what is asked, over signs -/
open PyProof.Rows (lo1 up1)
def PunL : List Nat := [33, 34, 35, 36, 38, 39, 40, 41, 42, 43, 44, 45, 46, 47, 58, 59, 60, 61, 62, 63, 64, 91, 92, 93, 94, 95, 123, 124, 125, 126, 96]
def HexL : List Nat := [48, 49, 50, 51, 52, 53, 54, 55, 56, 57, 97, 98, 99, 100, 101, 102]
def DecL : List Nat := [48, 49, 50, 51, 52, 53, 54, 55, 56, 57]
def NamesL : List (List Nat × Nat) := [([97, 109, 112], 38), ([108, 116], 60), ([103, 116], 62), ([113, 117, 111, 116], 34), ([97, 112, 111, 115], 39), ([110, 117, 109], 35), ([97, 115, 116], 42), ([108, 111, 119, 98, 97, 114], 95), ([103, 114, 97, 118, 101], 96), ([108, 115, 113, 98], 91), ([114, 115, 113, 98], 93), ([108, 112, 97, 114], 40), ([114, 112, 97, 114], 41), ([108, 99, 117, 98], 123), ([114, 99, 117, 98], 125), ([98, 115, 111, 108], 92), ([101, 120, 99, 108], 33), ([84, 97, 98], 9), ([78, 101, 119, 76, 105, 110, 101], 10)]
def escR : List Nat → Bool
  | a :: c :: _ => a == 92 && PunL.contains c
  | _ => false
def numR (B : Nat) (ds w : List Nat) : Option Nat := if w = [] then none else if (w.map lo1).all ds.contains = true then some (numB B w) else none
def sgnR (n : Nat) : Option Nat := if n = 9 ∨ n = 10 ∨ (32 ≤ n ∧ n ≤ 36) ∨ (38 ≤ n ∧ n ≤ 126) then some n else none
def meantR (w : List Nat) : Option Nat :=
  if [35, 120].isPrefixOf w || [35, 88].isPrefixOf w then (numR 16 HexL (w.drop 2)).bind sgnR
  else if [35].isPrefixOf w then (numR 10 DecL (w.drop 1)).bind sgnR
  else NamesL.lookup w
def refR (l : List Nat) : Option (Nat × Nat) :=
  if [38].isPrefixOf l then match findL [59] (l.take 10) with
    | none => none
    | some k => (meantR ((l.drop 1).take (k - 1))).map fun c => (k + 1, c)
  else none
def stepR : List Nat → Nat × Nat
  | [] => (1, 0)
  | a :: r => if escR (a :: r) = true then (2, r.headD 0) else match refR (a :: r) with
    | some x => x
    | none => (1, a)
def decF : Nat → List Nat → List Nat
  | 0, _ => []
  | n + 1, l => match l with
    | [] => []
    | a :: r => (stepR (a :: r)).2 :: decF n ((a :: r).drop (stepR (a :: r)).1)
def decR (l : List Nat) : List Nat := decF l.length l
theorem refR_pos {l : List Nat} {k c : Nat} (h : refR l = some (k, c)) : 1 ≤ k ∧ k ≤ l.length := by
  unfold refR at h
  split at h
  · cases hf : findL [59] (l.take 10) with
    | none => rw [hf] at h; cases h
    | some j =>
      rw [hf] at h
      dsimp only at h
      cases hm : meantR ((l.drop 1).take (j - 1)) with
      | none => rw [hm] at h; cases h
      | some c' =>
        rw [hm] at h
        have e := Option.some.inj h
        have e1 : j + 1 = k := congrArg Prod.fst e
        have h1 := pre_len _ _ (findL_some (by simp) hf).1
        rw [List.length_drop, List.length_take] at h1
        simp at h1
        omega
  · cases h
theorem stepR_pos (a : Nat) (r : List Nat) : 1 ≤ (stepR (a :: r)).1 ∧ (stepR (a :: r)).1 ≤ (a :: r).length := by
  show 1 ≤ (if escR (a :: r) = true then (2, r.headD 0) else match refR (a :: r) with | some x => x | none => (1, a)).1 ∧ (if escR (a :: r) = true then (2, r.headD 0) else match refR (a :: r) with | some x => x | none => (1, a)).1 ≤ _
  split
  · rename_i h
    cases r with
    | nil => cases h
    | cons b r => simp
  · cases hr : refR (a :: r) with
    | none => simp
    | some x => exact refR_pos hr
theorem decF_enough : ∀ (n : Nat) (l : List Nat), l.length ≤ n → decF n l = decF l.length l := by
  intro n
  induction n using Nat.strongRecOn with
  | _ n ih =>
    intro l h
    cases l with
    | nil => cases n <;> rfl
    | cons a r =>
      cases n with
      | zero => simp at h
      | succ n =>
        have hp := (stepR_pos a r).1
        have hd : ((a :: r).drop (stepR (a :: r)).1).length ≤ r.length := by
          rw [List.length_drop, List.length_cons]
          omega
        have hr : r.length ≤ n := by simp at h; omega
        show (stepR (a :: r)).2 :: decF n ((a :: r).drop (stepR (a :: r)).1) = (stepR (a :: r)).2 :: decF r.length ((a :: r).drop (stepR (a :: r)).1)
        congr 1
        rw [ih n (Nat.lt_succ_self n) _ (Nat.le_trans hd hr)]
        by_cases e : r.length = n
        · rw [e]
          exact (ih n (Nat.lt_succ_self n) _ (by omega)).symm
        · exact (ih r.length (by omega) _ hd).symm
theorem decR_cons (a : Nat) (r : List Nat) : decR (a :: r) = (stepR (a :: r)).2 :: decR ((a :: r).drop (stepR (a :: r)).1) := by
  show (stepR (a :: r)).2 :: decF r.length ((a :: r).drop (stepR (a :: r)).1) = _
  congr 1
  have hp := (stepR_pos a r).1
  exact decF_enough _ _ (by rw [List.length_drop, List.length_cons]; omega)
theorem decR_nil : decR [] = [] := rfl
/-! a reference with all its signs -/
theorem find_pre {a : List Nat} (h : 59 ∉ a) (r : List Nat) : findL [59] (a ++ r) = (findL [59] r).map (· + a.length) := by
  induction a with
  | nil => cases h : findL [59] r <;> simp [h]
  | cons x a ih =>
    have hx : x ≠ 59 := fun e => h (by simp [e])
    have h2 : 59 ∉ a := fun e => h (by simp [e])
    show (if ([59] : List Nat).isPrefixOf (x :: (a ++ r)) = true then some 0 else (findL [59] (a ++ r)).map (· + 1)) = _
    rw [if_neg (by simp [List.isPrefixOf]; exact fun e => hx e.symm), ih h2, List.length_cons]
    cases findL [59] r <;> simp
    omega
theorem find_not {a : List Nat} (h : 59 ∉ a) : findL [59] a = none := by
  have := find_pre h []
  rw [List.append_nil] at this
  rw [this]
  rfl
theorem ref_at {a : List Nat} (h : 59 ∉ a) (r : List Nat) : refR (38 :: (a ++ 59 :: r)) = if a.length ≤ 8 then (meantR a).map (fun c => (a.length + 2, c)) else none := by
  unfold refR
  rw [if_pos (by rfl)]
  by_cases hl : a.length ≤ 8
  · rw [if_pos hl]
    have e1 : (38 :: (a ++ 59 :: r)).take 10 = (38 :: a) ++ (59 :: r.take (8 - a.length)) := by
      rw [List.take_succ_cons, List.take_append, List.take_of_length_le (by omega)]
      rw [show 9 - a.length = (8 - a.length) + 1 by omega, List.take_succ_cons]
      rfl
    have h38 : 59 ∉ 38 :: a := by simp [h]
    rw [e1, find_pre h38]
    have e2 : findL [59] (59 :: r.take (8 - a.length)) = some 0 := rfl
    rw [e2]
    show (meantR ((a ++ 59 :: r).take (0 + (38 :: a).length - 1))).map (fun c => (0 + (38 :: a).length + 1, c)) = _
    rw [List.length_cons, Nat.zero_add, Nat.add_sub_cancel, List.take_left]
  · rw [if_neg hl]
    have e1 : (38 :: (a ++ 59 :: r)).take 10 = 38 :: (a.take 9) := by
      rw [List.take_succ_cons, List.take_append, show 9 - a.length = 0 by omega, List.take_zero, List.append_nil]
    have : 59 ∉ 38 :: a.take 9 := by
      intro z
      rcases List.mem_cons.mp z with z | z
      · cases z
      · exact h (List.mem_of_mem_take z)
    rw [e1, find_not this]
theorem lo1_blank {w ds : List Nat} (h : 32 ∈ w) (hd : 32 ∉ ds) (B : Nat) : numR B ds w = none := by
  unfold numR
  split
  · rfl
  · split
    · rename_i h2
      rw [List.all_eq_true] at h2
      have := h2 32 (List.mem_map.mpr ⟨32, h, rfl⟩)
      exact absurd (by simpa using this) hd
    · rfl
theorem names_blank : ∀ p ∈ NamesL, 32 ∉ p.1 := by decide
theorem lookup_blank {w : List Nat} (h : 32 ∈ w) : ∀ {ps : List (List Nat × Nat)}, (∀ p ∈ ps, 32 ∉ p.1) → ps.lookup w = none
  | [], _ => rfl
  | p :: ps, hp => by
    rw [List.lookup_cons]
    have h1 := hp p (List.mem_cons_self ..)
    have e : (w == p.1) = false := beq_eq_false_iff_ne.mpr fun e => h1 (e ▸ h)
    rw [e]
    exact lookup_blank h fun q hq => hp q (List.mem_cons_of_mem _ hq)
theorem meant_blank {w : List Nat} (h : 32 ∈ w) : meantR w = none := by
  unfold meantR
  have h1 : ∀ {x : List Nat}, x.isPrefixOf w = true → 32 ∉ x → 32 ∈ w.drop x.length := by
    intro x hx hn
    obtain ⟨s, rfl⟩ := List.isPrefixOf_iff_prefix.mp hx
    rw [List.drop_left]
    rcases List.mem_append.mp h with z | z
    · exact absurd z hn
    · exact z
  split
  · rename_i h2
    have h3 : 32 ∈ w.drop 2 := by
      rcases Bool.or_eq_true_iff.mp h2 with z | z
      · exact h1 z (by decide)
      · exact h1 z (by decide)
    rw [lo1_blank h3 (by decide)]
    rfl
  · split
    · rename_i h2
      have h3 : 32 ∈ w.drop 1 := h1 h2 (by decide)
      rw [lo1_blank h3 (by decide)]
      rfl
    · exact lookup_blank h names_blank
theorem ref_blank {a : List Nat} (h : 59 ∉ a) (r : List Nat) : refR (38 :: (a ++ 32 :: r)) = none := by
  unfold refR
  rw [if_pos (by rfl)]
  cases hf : findL [59] ((38 :: (a ++ 32 :: r)).take 10) with
  | none => rfl
  | some k =>
    dsimp only
    have h1 := (findL_some (by simp) hf).1
    have hk : a.length + 1 < k := by
      by_cases hk : k ≤ a.length + 1
      · exfalso
        rw [List.isPrefixOf_iff_prefix] at h1
        obtain ⟨s, hs⟩ := h1
        rw [List.drop_take] at hs
        have : 59 ∈ ((38 :: (a ++ 32 :: r)).drop k).take (10 - k) := by rw [← hs]; simp
        have e : (38 :: (a ++ 32 :: r))[k]? = some 59 := by
          have e2 : (((38 :: (a ++ 32 :: r)).drop k).take (10 - k))[0]? = some 59 := by rw [← hs]; rfl
          rw [List.getElem?_take] at e2
          split at e2
          · rw [List.getElem?_drop] at e2
            simpa using e2
          · cases e2
        cases k with
        | zero => cases e
        | succ k =>
          rw [List.getElem?_cons_succ] at e
          by_cases h2 : k < a.length
          · rw [List.getElem?_append_left h2] at e
            exact h (List.mem_of_getElem? e)
          · rw [List.getElem?_append_right (by omega), show k - a.length = 0 by omega] at e
            cases e
      · omega
    rw [meant_blank]
    · rfl
    · show 32 ∈ (a ++ 32 :: r).take (k - 1)
      rw [List.take_append, show k - 1 - a.length = (k - 2 - a.length) + 1 by omega, List.take_succ_cons]
      simp
theorem ref_end {a : List Nat} (h : 59 ∉ a) : refR (38 :: a) = none := by
  unfold refR
  rw [if_pos (by rfl)]
  have : 59 ∉ (38 :: a).take 10 := fun z => by
    rcases List.mem_cons.mp (List.mem_of_mem_take z) with z | z
    · cases z
    · exact h z
  rw [find_not this]
/-! signs that stay -/
theorem dec_plain {c : Nat} (h1 : c ≠ 38) (h2 : c ≠ 92) (r : List Nat) : decR (c :: r) = c :: decR r := by
  rw [decR_cons]
  have e1 : escR (c :: r) = false := by
    cases r with
    | nil => rfl
    | cons b r =>
      show (c == 92 && PunL.contains b) = false
      rw [beq_eq_false_iff_ne.mpr h2]
      rfl
  have e2 : refR (c :: r) = none := by
    unfold refR
    rw [if_neg]
    simp [List.isPrefixOf]
    exact fun e => h1 e.symm
  have e : stepR (c :: r) = (1, c) := by
    show (if escR (c :: r) = true then (2, r.headD 0) else match refR (c :: r) with | some x => x | none => (1, c)) = _
    rw [e1, e2]
    rfl
  rw [e]
  rfl
theorem dec_plains : ∀ {a : List Nat}, 38 ∉ a → 92 ∉ a → ∀ r, decR (a ++ r) = a ++ decR r
  | [], _, _, _ => rfl
  | c :: a, h1, h2, r => by
    show decR (c :: (a ++ r)) = c :: (a ++ decR r)
    rw [dec_plain (fun e => h1 (by simp [e])) (fun e => h2 (by simp [e])), dec_plains (fun e => h1 (by simp [e])) (fun e => h2 (by simp [e]))]
theorem dec_amp {r : List Nat} (h : refR (38 :: r) = none) : decR (38 :: r) = 38 :: decR r := by
  rw [decR_cons]
  have e1 : escR (38 :: r) = false := by cases r <;> rfl
  have e : stepR (38 :: r) = (1, 38) := by
    show (if escR (38 :: r) = true then (2, r.headD 0) else match refR (38 :: r) with | some x => x | none => (1, 38)) = _
    rw [e1, h]
    rfl
  rw [e]
  rfl
theorem dec_ref {r : List Nat} {k c : Nat} (h : refR (38 :: r) = some (k, c)) : decR (38 :: r) = c :: decR ((38 :: r).drop k) := by
  rw [decR_cons]
  have e1 : escR (38 :: r) = false := by cases r <;> rfl
  have e : stepR (38 :: r) = (k, c) := by
    show (if escR (38 :: r) = true then (2, r.headD 0) else match refR (38 :: r) with | some x => x | none => (1, 38)) = _
    rw [e1, h]
    rfl
  rw [e]
theorem dec_esc {c : Nat} (h : PunL.contains c = true) (r : List Nat) : decR (92 :: c :: r) = c :: decR r := by
  rw [decR_cons]
  have e1 : escR (92 :: c :: r) = true := by
    show ((92 : Nat) == 92 && PunL.contains c) = true
    rw [h]
    rfl
  have e : stepR (92 :: c :: r) = (2, c) := by
    show (if escR (92 :: c :: r) = true then (2, (c :: r).headD 0) else match refR (92 :: c :: r) with | some x => x | none => (1, 92)) = _
    rw [e1]
    rfl
  rw [e]
  rfl
theorem dec_back {r : List Nat} (h : escR (92 :: r) = false) : decR (92 :: r) = 92 :: decR r := by
  rw [decR_cons]
  have e2 : refR (92 :: r) = none := rfl
  have e : stepR (92 :: r) = (1, 92) := by
    show (if escR (92 :: r) = true then (2, r.headD 0) else match refR (92 :: r) with | some x => x | none => (1, 92)) = _
    rw [h, e2]
    rfl
  rw [e]
  rfl
/-! drawn references -/
def RefOk (a : List Nat) (sg : Option Nat) : Prop := 59 ∉ a ∧ 38 ∉ a ∧ 92 ∉ a ∧ (∀ c ∈ a, c < 128) ∧ a.length ≤ 20 ∧ (if a.length ≤ 8 then meantR a else none) = sg
def refOkB (a : List Nat) (sg : Option Nat) : Bool := a.all (fun c => c != 59 && c != 38 && c != 92 && decide (c < 128)) && decide (a.length ≤ 20) && decide ((if a.length ≤ 8 then meantR a else none) = sg)
theorem refOk_of {a : List Nat} {sg : Option Nat} (h : refOkB a sg = true) : RefOk a sg := by
  unfold refOkB at h
  rw [Bool.and_eq_true, Bool.and_eq_true, List.all_eq_true] at h
  obtain ⟨⟨h1, h2⟩, h3⟩ := h
  have h4 : ∀ c ∈ a, c ≠ 59 ∧ c ≠ 38 ∧ c ≠ 92 ∧ c < 128 := fun c hc => by
    have := h1 c hc
    simp at this
    exact ⟨this.1.1.1, this.1.1.2, this.1.2, this.2⟩
  exact ⟨fun z => (h4 _ z).1 rfl, fun z => (h4 _ z).2.1 rfl, fun z => (h4 _ z).2.2.1 rfl, fun c hc => (h4 c hc).2.2.2, of_decide_eq_true h2, of_decide_eq_true h3⟩
/-- a reference, whatever stands behind -/
theorem ok_ref {a : List Nat} {sg : Option Nat} (h : RefOk a sg) (r : List Nat) : refR (38 :: (a ++ 59 :: r)) = sg.map fun c => (a.length + 2, c) := by
  obtain ⟨h1, _, _, _, _, h2⟩ := h
  rw [ref_at h1, ← h2]
  split <;> rfl
/-- what it means in a text -/
def meaning (a : List Nat) (sg : Option Nat) : List Nat := match sg with
  | some c => [c]
  | none => 38 :: (a ++ [59])
/-- a piece of a text: a blank, or nothing, behind it -/
def Piece (x m : List Nat) : Prop := (∀ r, decR (x ++ 32 :: r) = m ++ decR (32 :: r)) ∧ decR x = m
theorem ok_piece {a : List Nat} {sg : Option Nat} (h : RefOk a sg) : Piece (38 :: (a ++ [59])) (meaning a sg) := by
  have key : ∀ r, decR (38 :: (a ++ 59 :: r)) = meaning a sg ++ decR r := by
    intro r
    have e := ok_ref h r
    cases sg with
    | none =>
      rw [dec_amp e, dec_plains h.2.1 h.2.2.1, dec_plain (by decide) (by decide)]
      simp [meaning]
    | some c =>
      rw [dec_ref e]
      have : (38 :: (a ++ 59 :: r)).drop (a.length + 2) = r := by
        rw [List.drop_succ_cons, List.drop_append, List.drop_of_length_le (by omega), show a.length + 1 - a.length = 1 by omega]
        rfl
      rw [this]
      rfl
  refine ⟨fun r => ?_, ?_⟩
  · have := key (32 :: r)
    simpa using this
  · have := key []
    rw [decR_nil, List.append_nil] at this
    exact this
theorem piece_joined : ∀ {xs : List (List Nat × List Nat)}, (∀ p ∈ xs, Piece p.1 p.2) → decR (TL.joinL [32] (xs.map Prod.fst)) = TL.joinL [32] (xs.map Prod.snd)
  | [], _ => rfl
  | [p], h => (h p (List.mem_cons_self ..)).2
  | p :: q :: r, h => by
    have ih := piece_joined (xs := q :: r) fun z hz => h z (List.mem_cons_of_mem _ hz)
    show decR (p.1 ++ ([32] ++ TL.joinL [32] ((q :: r).map Prod.fst))) = p.2 ++ ([32] ++ TL.joinL [32] ((q :: r).map Prod.snd))
    rw [show [32] ++ TL.joinL [32] ((q :: r).map Prod.fst) = 32 :: TL.joinL [32] ((q :: r).map Prod.fst) from rfl, (h p (List.mem_cons_self ..)).1, dec_plain (by decide) (by decide), ih]
    rfl
/-- the other pieces -/
def PieceMenu : List (List Nat × List Nat) := [([97], [97]), ([32], [32]), ([10], [10]), ([92, 42], [42]), ([92, 92], [92]), ([92, 38], [38]), ([92, 97], [92, 97]), ([92, 59], [59]), ([42], [42]), ([38, 32], [38, 32]), ([38, 35, 59], [38, 35, 59]), ([38, 120, 59], [38, 120, 59]), ([38, 97, 109, 112], [38, 97, 109, 112]), ([38, 65, 77, 80, 59], [38, 65, 77, 80, 59]), ([92, 32], [92, 32]), ([38, 35, 120, 59], [38, 35, 120, 59]), ([38, 59], [38, 59]), ([98], [98]), ([92, 10], [92, 10])]
theorem p_plain {x : List Nat} (h1 : 38 ∉ x) (h2 : 92 ∉ x) : Piece x x := ⟨fun r => dec_plains h1 h2 _, by have := dec_plains h1 h2 []; simpa [decR_nil] using this⟩
theorem p_esc {c : Nat} (h : PunL.contains c = true) : Piece [92, c] [c] := ⟨fun r => dec_esc h _, dec_esc h []⟩
theorem p_back {c : Nat} (h : PunL.contains c = false) (h1 : c ≠ 38) (h2 : c ≠ 92) : Piece [92, c] [92, c] := by
  have e : ∀ r, decR (92 :: c :: r) = 92 :: c :: decR r := fun r => by
    rw [dec_back (by show ((92 : Nat) == 92 && PunL.contains c) = false; rw [h]; rfl), dec_plain h1 h2]
  exact ⟨fun r => e _, e []⟩
theorem p_ref {a : List Nat} (h : RefOk a none) : Piece (38 :: (a ++ [59])) (38 :: (a ++ [59])) := ok_piece h
theorem p_open {a : List Nat} (h : 59 ∉ a) (h1 : 38 ∉ a) (h2 : 92 ∉ a) : Piece (38 :: a) (38 :: a) :=
  ⟨fun r => by
    show decR (38 :: (a ++ 32 :: r)) = 38 :: (a ++ decR (32 :: r))
    rw [dec_amp (ref_blank h r), dec_plains h1 h2], by
    rw [dec_amp (ref_end h)]
    have := dec_plains h1 h2 []
    rw [List.append_nil, decR_nil, List.append_nil] at this
    rw [this]⟩
theorem piece_menu : ∀ p ∈ PieceMenu, Piece p.1 p.2 := by
  intro p hp
  unfold PieceMenu at hp
  simp only [List.mem_cons, List.not_mem_nil, or_false] at hp
  rcases hp with rfl | rfl | rfl | rfl | rfl | rfl | rfl | rfl | rfl | rfl | rfl | rfl | rfl | rfl | rfl | rfl | rfl | rfl | rfl
  · exact p_plain (by decide) (by decide)
  · exact p_plain (by decide) (by decide)
  · exact p_plain (by decide) (by decide)
  · exact p_esc (by decide)
  · exact p_esc (by decide)
  · exact p_esc (by decide)
  · exact p_back (by decide) (by decide) (by decide)
  · exact p_esc (by decide)
  · exact p_plain (by decide) (by decide)
  · exact p_open (a := [32]) (by decide) (by decide) (by decide)
  · exact p_ref (a := [35]) (refOk_of (by decide +kernel))
  · exact p_ref (a := [120]) (refOk_of (by decide +kernel))
  · exact p_open (a := [97, 109, 112]) (by decide) (by decide) (by decide)
  · exact p_ref (a := [65, 77, 80]) (refOk_of (by decide +kernel))
  · exact p_back (by decide) (by decide) (by decide)
  · exact p_ref (a := [35, 120]) (refOk_of (by decide +kernel))
  · exact p_ref (a := []) (refOk_of (by decide +kernel))
  · exact p_plain (by decide) (by decide)
  · exact p_back (by decide) (by decide) (by decide)

end RM
namespace PM
open My PySem PySem.Spec PyProof.Rows L2
/-! ### places, by what is left of a text -/
def GapL : List Nat := [32, 9, 10]
def isG (c : Nat) : Bool := GapL.contains c
def pos (t r : List Nat) : Nat := t.length - r.length
theorem pos_le (t r : List Nat) : pos t r ≤ t.length := Nat.sub_le _ _
theorem pos_drop {t r : List Nat} (h : r <:+ t) : t.drop (pos t r) = r := (List.suffix_iff_eq_drop.mp h).symm
theorem drop_pos {t : List Nat} {p : Nat} (h : p ≤ t.length) : pos t (t.drop p) = p := by
  unfold pos
  rw [List.length_drop]
  omega
theorem suf_drop (t : List Nat) (p : Nat) : t.drop p <:+ t := List.drop_suffix p t
theorem suf_dw (g : Nat → Bool) (r : List Nat) : r.dropWhile g <:+ r := List.dropWhile_suffix g
def ov (t : List Nat) : Option (List Nat) → L2.V
  | none => .non
  | some r => .int (pos t r : Nat)
def ba (ws r : List Nat) : List Nat := r.dropWhile fun c => ws.contains c
def gapR (r : List Nat) : List Nat := if (r.takeWhile isG).count 10 > 1 then r else r.dropWhile isG
theorem suf_gap (r : List Nat) : gapR r <:+ r := by
  unfold gapR
  split
  · exact List.suffix_refl _
  · exact suf_dw _ _
def signR (c : Nat) (r : List Nat) : Option (List Nat) := if ([c] : List Nat).isPrefixOf r = true then some (r.drop 1) else none
theorem dw_len (g : Nat → Bool) (r : List Nat) : (r.dropWhile g).length ≤ r.length := (suf_dw g r).length_le

end PM
namespace DM
open My RM PM PySem PySem.Spec PyProof.Rows L2
/-! ### labels, destinations, titles, definitions: what is asked, by what is left of a text -/
def plainR (sg : List Nat) : List Nat → List Nat
  | [] => []
  | [c] => if sg.contains c then [c] else []
  | c :: d :: r => if sg.contains c then c :: d :: r else if c == 92 && PunL.contains d then plainR sg r else plainR sg (d :: r)
def upToL (l e : List Nat) : List Nat := l.take (l.length - e.length)
theorem suf_plain (sg : List Nat) : ∀ l : List Nat, plainR sg l <:+ l
  | [] => List.suffix_refl _
  | [c] => by
    unfold plainR
    split
    · exact List.suffix_refl _
    · exact List.nil_suffix
  | c :: d :: r => by
    unfold plainR
    split
    · exact List.suffix_refl _
    · split
      · exact (suf_plain sg r).trans ⟨[c, d], rfl⟩
      · exact (suf_plain sg (d :: r)).trans ⟨[c], rfl⟩
theorem plain_head (sg : List Nat) : ∀ l : List Nat, ∀ {c : Nat} {r : List Nat}, plainR sg l = c :: r → sg.contains c = true
  | [], _, _, h => by cases h
  | [a], c, r, h => by
    unfold plainR at h
    split at h
    · rename_i h1
      cases h
      exact h1
    · cases h
  | a :: d :: l, c, r, h => by
    unfold plainR at h
    split at h
    · rename_i h1
      cases h
      exact h1
    · split at h
      · exact plain_head sg l h
      · exact plain_head sg (d :: l) h
/-- words up to a sign, whatever stands behind it -/
theorem plain_words {sg : List Nat} {c : Nat} (hc : sg.contains c = true) : ∀ (w : List Nat) {r : List Nat}, plainR sg (w ++ c :: r) = c :: r → ∀ r', plainR sg (w ++ c :: r') = c :: r'
  | [], r, _, r' => by
    show plainR sg (c :: r') = c :: r'
    cases r' with
    | nil => unfold plainR; rw [if_pos hc]
    | cons d r' => unfold plainR; rw [if_pos hc]
  | [a], r, h, r' => by
    have h' : (if sg.contains a then a :: c :: r else if a == 92 && PunL.contains c then plainR sg r else plainR sg (c :: r)) = c :: r := h
    show (if sg.contains a then a :: c :: r' else if a == 92 && PunL.contains c then plainR sg r' else plainR sg (c :: r')) = c :: r'
    by_cases h1 : sg.contains a = true
    · rw [if_pos h1] at h'
      have := congrArg List.length h'
      simp at this
    · rw [if_neg h1] at h' ⊢
      by_cases h2 : (a == 92 && PunL.contains c) = true
      · rw [if_pos h2] at h'
        have h3 := (suf_plain sg r).length_le
        rw [h', List.length_cons] at h3
        omega
      · rw [if_neg h2] at h' ⊢
        exact plain_words hc [] h' r'
  | a :: b :: w, r, h, r' => by
    have h' : (if sg.contains a then a :: b :: (w ++ c :: r) else if a == 92 && PunL.contains b then plainR sg (w ++ c :: r) else plainR sg (b :: (w ++ c :: r))) = c :: r := h
    show (if sg.contains a then a :: b :: (w ++ c :: r') else if a == 92 && PunL.contains b then plainR sg (w ++ c :: r') else plainR sg (b :: (w ++ c :: r'))) = c :: r'
    by_cases h1 : sg.contains a = true
    · rw [if_pos h1] at h'
      have := congrArg List.length h'
      simp at this
      omega
    · rw [if_neg h1] at h' ⊢
      by_cases h2 : (a == 92 && PunL.contains b) = true
      · rw [if_pos h2] at h' ⊢
        exact plain_words hc w h' r'
      · rw [if_neg h2] at h' ⊢
        exact plain_words hc (b :: w) h' r'
def whiteB (w : List Nat) : Bool := w.all fun c => GapL.contains c
/-- a label: its words, what is left behind -/
def labelR (l : List Nat) : Option (List Nat × List Nat) :=
  if ([91] : List Nat).isPrefixOf l = true then
    if ([93] : List Nat).isPrefixOf (plainR [91, 93] (l.drop 1)) = true ∧ (upToL (l.drop 1) (plainR [91, 93] (l.drop 1))).length ≤ 999 then
      if whiteB (upToL (l.drop 1) (plainR [91, 93] (l.drop 1))) = true then none
      else some (upToL (l.drop 1) (plainR [91, 93] (l.drop 1)), (plainR [91, 93] (l.drop 1)).drop 1)
    else none
  else none
def encR (barred : List Nat) (closing : Nat) (l : List Nat) : Option (List Nat × List Nat) :=
  if ([closing] : List Nat).isPrefixOf (plainR barred (l.drop 1)) = true then some (decR (upToL (l.drop 1) (plainR barred (l.drop 1))), (plainR barred (l.drop 1)).drop 1) else none
def EndsL : List Nat := [32, 9, 10, 40, 41]
def bareF : Nat → Nat → List Nat → Option (List Nat)
  | 0, _, _ => none
  | n + 1, wi, e => if ([40] : List Nat).isPrefixOf e = true then (if wi + 1 > 32 then none else bareF n (wi + 1) (plainR EndsL (e.drop 1)))
    else if wi > 0 ∧ ([41] : List Nat).isPrefixOf e = true then bareF n (wi - 1) (plainR EndsL (e.drop 1))
    else if wi > 0 then none else some e
def bareR (l : List Nat) : Option (List Nat) := bareF (l.length + 1) 0 (plainR EndsL l)
def destR (l : List Nat) : Option (List Nat × List Nat) :=
  if ([60] : List Nat).isPrefixOf l = true then encR [60, 62, 10] 62 l
  else match bareR l with
    | none => none
    | some e => if e.length = l.length then none else some (decR (upToL l e), e)
def titleR (l : List Nat) : Option (List Nat × List Nat) :=
  match l with
  | 34 :: _ => encR [34] 34 l
  | 39 :: _ => encR [39] 39 l
  | 40 :: _ => encR [40, 41] 41 l
  | _ => none
def lineR (l : List Nat) : Option (List Nat) := if ba [32, 9] l = [] then some [] else signR 10 (ba [32, 9] l)
def tailR (l : List Nat) : Option (List Nat × List Nat) :=
  if (gapR l).length = l.length then none else match titleR (gapR l) with
    | none => none
    | some (ti, r) => (lineR r).map fun r' => (ti, r')
/-- what is behind a destination: a title or none, and what is left -/
def endR (l : List Nat) : Option (Option (List Nat) × List Nat) := match tailR l with
  | some (ti, r) => some (some ti, r)
  | none => (lineR l).map fun r => (none, r)
structure Def where
  rest : List Nat
  words : List Nat
  dest : List Nat
  title : Option (List Nat)
  deriving DecidableEq
def defR (l : List Nat) : Option Def := match labelR l with
  | none => none
  | some (w, r) => if ([58] : List Nat).isPrefixOf r = true then match destR (gapR (r.drop 1)) with
      | none => none
      | some (d, r2) => match endR r2 with
        | none => none
        | some (ti, r3) => some ⟨r3, w, d, ti⟩
    else none
theorem suf_enc {b : List Nat} {c : Nat} {l d r : List Nat} (h : encR b c l = some (d, r)) : r <:+ l := by
  unfold encR at h
  split at h
  · have e : (plainR b (l.drop 1)).drop 1 = r := congrArg Prod.snd (Option.some.inj h)
    rw [← e]
    exact (List.drop_suffix _ _).trans ((suf_plain _ _).trans (List.drop_suffix _ _))
  · cases h
theorem suf_label {l w r : List Nat} (h : labelR l = some (w, r)) : r <:+ l := by
  unfold labelR at h
  split at h
  · split at h
    · split at h
      · cases h
      · have e := congrArg Prod.snd (Option.some.inj h)
        have e' : (plainR [91, 93] (l.drop 1)).drop 1 = r := e
        rw [← e']
        exact (List.drop_suffix _ _).trans ((suf_plain _ _).trans (List.drop_suffix _ _))
    · cases h
  · cases h
theorem suf_bareF : ∀ (n wi : Nat) (e : List Nat) {r : List Nat}, bareF n wi e = some r → r <:+ e
  | 0, _, _, _, h => by cases h
  | n + 1, wi, e, r, h => by
    unfold bareF at h
    have s1 : plainR EndsL (e.drop 1) <:+ e := (suf_plain _ _).trans (List.drop_suffix _ _)
    split at h
    · split at h
      · cases h
      · exact (suf_bareF n _ _ h).trans s1
    · split at h
      · exact (suf_bareF n _ _ h).trans s1
      · split at h
        · cases h
        · cases h
          exact List.suffix_refl _
theorem suf_bare {l r : List Nat} (h : bareR l = some r) : r <:+ l := (suf_bareF _ _ _ h).trans (suf_plain _ _)
theorem suf_dest {l d r : List Nat} (h : destR l = some (d, r)) : r <:+ l := by
  unfold destR at h
  split at h
  · exact suf_enc h
  · cases hb : bareR l with
    | none => rw [hb] at h; cases h
    | some e =>
      rw [hb] at h
      dsimp only at h
      split at h
      · cases h
      · have e2 : e = r := congrArg Prod.snd (Option.some.inj h)
        rw [← e2]
        exact suf_bare hb
theorem suf_title {l d r : List Nat} (h : titleR l = some (d, r)) : r <:+ l := by
  unfold titleR at h
  split at h
  · exact suf_enc h
  · exact suf_enc h
  · exact suf_enc h
  · cases h
theorem suf_line {l r : List Nat} (h : lineR l = some r) : r <:+ l := by
  unfold lineR at h
  split at h
  · cases h
    exact List.nil_suffix
  · unfold signR at h
    split at h
    · cases h
      exact (List.drop_suffix _ _).trans (suf_dw _ _)
    · cases h
theorem bareF_more : ∀ (n m wi : Nat) (e : List Nat), e.length < n → e.length < m → bareF n wi e = bareF m wi e
  | 0, _, _, _, h, _ => by omega
  | _, 0, _, _, _, h => by omega
  | n + 1, m + 1, wi, e, h1, h2 => by
    unfold bareF
    have s1 : ∀ c : Nat, ([c] : List Nat).isPrefixOf e = true → (plainR EndsL (e.drop 1)).length < e.length := fun c hc => by
      have h3 := (suf_plain EndsL (e.drop 1)).length_le
      have h4 := pre_len _ _ hc
      rw [List.length_drop] at h3
      simp at h4
      omega
    by_cases h3 : ([40] : List Nat).isPrefixOf e = true
    · rw [if_pos h3, if_pos h3]
      have := s1 _ h3
      rw [bareF_more n m (wi + 1) (plainR EndsL (e.drop 1)) (by omega) (by omega)]
    · rw [if_neg h3, if_neg h3]
      by_cases h4 : wi > 0 ∧ ([41] : List Nat).isPrefixOf e = true
      · rw [if_pos h4, if_pos h4]
        have := s1 _ h4.2
        rw [bareF_more n m (wi - 1) (plainR EndsL (e.drop 1)) (by omega) (by omega)]
      · rw [if_neg h4, if_neg h4]
theorem upTo_app (w e : List Nat) : upToL (w ++ e) e = w := by
  unfold upToL
  rw [List.length_append, Nat.add_sub_cancel, List.take_left]
theorem upTo_split {l e : List Nat} (h : e <:+ l) : l = upToL l e ++ e := by
  obtain ⟨w, rfl⟩ := h
  rw [upTo_app]
theorem label_parts {l w r : List Nat} (h : labelR l = some (w, r)) : l = 91 :: (w ++ 93 :: r) ∧ w.length ≤ 999 ∧ whiteB w = false ∧ plainR [91, 93] (w ++ 93 :: r) = 93 :: r := by
  unfold labelR at h
  split at h
  · rename_i h1
    split at h
    · rename_i h2
      split at h
      · cases h
      · rename_i h3
        have h4 := Option.some.inj h
        have e1 : upToL (l.drop 1) (plainR [91, 93] (l.drop 1)) = w := congrArg Prod.fst h4
        have e2 : (plainR [91, 93] (l.drop 1)).drop 1 = r := congrArg Prod.snd h4
        have hs : plainR [91, 93] (l.drop 1) <:+ l.drop 1 := suf_plain _ _
        have e3 := upTo_split hs
        have e4 : plainR [91, 93] (l.drop 1) = 93 :: r := by
          cases he : plainR [91, 93] (l.drop 1) with
          | nil => rw [he] at h2; cases h2.1
          | cons a b =>
            rw [he] at h2 e2
            have h5 : ((93 : Nat) == a && ([] : List Nat).isPrefixOf b) = true := h2.1
            have h6 := eq_of_beq (Bool.and_eq_true_iff.mp h5).1
            rw [← h6, ← e2]
            rfl
        rw [e1] at h2 h3
        rw [e1, e4] at e3
        have e5 : l = 91 :: l.drop 1 := by
          cases l with
          | nil => cases h1
          | cons a b =>
            have h5 : ((91 : Nat) == a && ([] : List Nat).isPrefixOf b) = true := h1
            have h6 := eq_of_beq (Bool.and_eq_true_iff.mp h5).1
            rw [← h6]
            rfl
        refine ⟨by rw [← e3]; exact e5, h2.2, by simpa using h3, by rw [← e3]; exact e4⟩
    · cases h
  · cases h
theorem label_made {w r : List Nat} (h1 : w.length ≤ 999) (h2 : whiteB w = false) (h3 : plainR [91, 93] (w ++ 93 :: r) = 93 :: r) (r' : List Nat) : labelR (91 :: (w ++ 93 :: r')) = some (w, r') := by
  have h4 := plain_words (sg := [91, 93]) (c := 93) (by decide) w h3 r'
  unfold labelR
  rw [if_pos (by rfl)]
  show (if ([93] : List Nat).isPrefixOf (plainR [91, 93] (w ++ 93 :: r')) = true ∧ (upToL (w ++ 93 :: r') (plainR [91, 93] (w ++ 93 :: r'))).length ≤ 999 then
      if whiteB (upToL (w ++ 93 :: r') (plainR [91, 93] (w ++ 93 :: r'))) = true then none
      else some (upToL (w ++ 93 :: r') (plainR [91, 93] (w ++ 93 :: r')), (plainR [91, 93] (w ++ 93 :: r')).drop 1)
    else none) = _
  rw [h4, upTo_app, if_pos ⟨by rfl, h1⟩, if_neg (by rw [h2]; exact Bool.false_ne_true)]
  rfl
theorem label_again {l w r : List Nat} (h : labelR l = some (w, r)) : labelR (91 :: (w ++ [93])) = some (w, []) := by
  obtain ⟨_, h1, h2, h3⟩ := label_parts h
  exact label_made h1 h2 h3 []

/-! ### what the law draws -/
def normR (w : List Nat) : List Nat := (Txt.join (S [32]) (Txt.words (S (w.map lo1)))).cps.toList
def LabelL : List (List Nat × List Nat) := [([97], [97]), ([66, 32, 99], [98, 32, 99]), ([32, 120, 32, 32, 121, 32], [120, 32, 121]), ([113, 10, 82], [113, 32, 114]), ([97, 92, 93], [97, 92, 93]), ([42], [42]), ([38, 97, 109, 112, 59], [38, 97, 109, 112, 59])]
def GapT : List (List Nat) := [[], [32], [10], [32, 32, 10, 32], [9], [32, 10], [10, 32, 32]]
def GapF : List (List Nat) := [[10, 10], [32, 10, 32, 10], [10, 10, 32]]
def DestL : List (List Nat × List Nat × Bool) := [([47, 117], [47, 117], true), ([60, 62], [], true), ([60, 97, 32, 98, 62], [97, 32, 98], true), ([120, 40, 121, 41], [120, 40, 121, 41], true), ([97, 92, 42, 98], [97, 42, 98], true), ([38, 97, 109, 112, 59], [38], true), ([60, 97, 92, 62, 98, 62], [97, 62, 98], true), ([60, 97], [], false), ([120, 40, 121], [], false), ([39, 116, 39], [39, 116, 39], true), ([97, 41, 98], [], false), ([92, 40], [40], true)]
def TitleL : List (List Nat × List Nat × Bool) := [([34, 116, 34], [116], true), ([39, 97, 32, 98, 39], [97, 32, 98], true), ([40, 120, 41], [120], true), ([34, 34], [], true), ([39, 97, 10, 98, 39], [97, 10, 98], true), ([34, 97, 92, 34, 98, 34], [97, 34, 98], true), ([40, 97, 92, 41, 98, 41], [97, 41, 98], true), ([39, 38, 108, 116, 59, 39], [60], true), ([34, 116], [], false), ([40, 97, 40, 98, 41], [], false), ([116], [], false)]
def TailL : List (List Nat) := [[], [10], [32, 10], [10, 109, 111, 114, 101], [32, 120], [32, 9, 10, 98], [32, 32]]
def AheadL : List (List Nat) := [[], [120, 32], [97, 98, 10]]

theorem label_ok : ∀ p ∈ LabelL, labelR (91 :: (p.1 ++ [93])) = some (p.1, []) ∧ normR p.1 = p.2 ∧ p.1.length ≤ 10 ∧ p.2.length ≤ 10 ∧ (∀ c ∈ p.1, c < 128) ∧ ∀ c ∈ p.2, c < 128 := by decide +kernel
def restB (l : List Nat) : Bool := match findL [10] l with
  | some k => (l.take k).all [32, 9].contains
  | none => l.all [32, 9].contains
def nextL (l : List Nat) : List Nat := match findL [10] l with
  | some k => l.drop (k + 1)
  | none => []
/-- what the law expects behind a destination -/
def dueEnd (s : List Nat) (sb : Bool) (tw tt : List Nat) (tok : Bool) (tl : List Nat) : Option (Option (List Nat) × List Nat) :=
  if sb = true ∧ s ≠ [] ∧ tok = true ∧ restB tl = true then some (some tt, nextL tl)
  else if restB (s ++ tw ++ tl) = true then some (none, nextL (s ++ tw ++ tl))
  else none
def wbB (R : List Nat) : Bool := (match R with | [] => true | a :: _ => isG a) && !R.contains 62
def SpaceL : List (List Nat × Bool) := (GapT.drop 1).map (fun g => (g, true)) ++ GapF.map fun g => (g, false)
theorem tails_ok : ∀ s ∈ SpaceL, ∀ t ∈ TitleL, ∀ tl ∈ TailL, endR (s.1 ++ t.1 ++ tl) = dueEnd s.1 s.2 t.1 t.2.1 t.2.2 tl ∧ wbB (s.1 ++ t.1 ++ tl) = true ∧ s.1 ≠ [] := by decide +kernel
theorem tails0_ok : ∀ tl ∈ TailL, endR ([] ++ [] ++ tl) = dueEnd [] true [] [] false tl ∧ wbB ([] ++ [] ++ tl) = true := by decide +kernel
theorem tail_x : ∀ tl ∈ TailL, ([32, 120] : List Nat).isPrefixOf tl = true → endR ([] ++ [] ++ tl) = none := by decide +kernel
theorem space_small : ∀ s ∈ SpaceL, s.1.length ≤ 5 ∧ ∀ c ∈ s.1, c < 128 := by decide
theorem title_small : ∀ t ∈ TitleL, t.1 ≠ [] ∧ t.1.length ≤ 10 ∧ t.2.1.length ≤ 10 ∧ (∀ c ∈ t.1, c < 128) ∧ ∀ c ∈ t.2.1, c < 128 := by decide
theorem dest_small : ∀ t ∈ DestL, t.1.length ≤ 10 ∧ t.2.1.length ≤ 10 ∧ (∀ c ∈ t.1, c < 128) ∧ ∀ c ∈ t.2.1, c < 128 := by decide
theorem tail_small : ∀ t ∈ TailL, t.length ≤ 5 ∧ ∀ c ∈ t, c < 128 := by decide
theorem ahead_small : ∀ t ∈ AheadL, t.length ≤ 3 ∧ ∀ c ∈ t, c < 128 := by decide
theorem gap_small : (∀ g ∈ GapT, g.length ≤ 5 ∧ ∀ c ∈ g, c < 128) ∧ ∀ g ∈ GapF, g.length ≤ 5 ∧ ∀ c ∈ g, c < 128 := by decide
/-! gaps -/
theorem tw_app {g : Nat → Bool} {c : Nat} (hc : g c = false) : ∀ (w X : List Nat), w.all g = true → (w ++ c :: X).takeWhile g = w ∧ (w ++ c :: X).dropWhile g = c :: X
  | [], X, _ => by
    show (c :: X).takeWhile g = [] ∧ (c :: X).dropWhile g = c :: X
    rw [List.takeWhile_cons, List.dropWhile_cons, hc]
    exact ⟨rfl, rfl⟩
  | a :: w, X, h => by
    have h2 := Bool.and_eq_true_iff.mp (show (g a && w.all g) = true from h)
    obtain ⟨h3, h4⟩ := tw_app hc w X h2.2
    show (a :: (w ++ c :: X)).takeWhile g = a :: w ∧ (a :: (w ++ c :: X)).dropWhile g = c :: X
    rw [List.takeWhile_cons, List.dropWhile_cons, h2.1, if_pos rfl, if_pos rfl, h3, h4]
    exact ⟨rfl, rfl⟩
theorem gapT_ok {c : Nat} (hc : isG c = false) (X : List Nat) : ∀ g ∈ GapT, gapR (g ++ c :: X) = c :: X := by
  intro g hg
  have h1 : ∀ g ∈ GapT, g.all isG = true ∧ ¬ g.count 10 > 1 := by decide
  obtain ⟨h2, h3⟩ := h1 g hg
  obtain ⟨h4, h5⟩ := tw_app hc g X h2
  unfold gapR
  rw [h4, h5, if_neg h3]
theorem dest_white {a : Nat} (ha : isG a = true) (Y : List Nat) : destR (a :: Y) = none := by
  have h1 : a = 32 ∨ a = 9 ∨ a = 10 := by
    have : GapL.contains a = true := ha
    simpa [GapL] using this
  have h2 : bareR (a :: Y) = some (a :: Y) := by
    rcases h1 with rfl | rfl | rfl <;> cases Y <;> rfl
  unfold destR
  rw [h2, if_neg (by rcases h1 with rfl | rfl | rfl <;> exact Bool.false_ne_true)]
  show (if (a :: Y).length = (a :: Y).length then none else some (decR (upToL (a :: Y) (a :: Y)), a :: Y)) = none
  rw [if_pos rfl]
theorem gapF_ok {c : Nat} (hc : isG c = false) (X : List Nat) : ∀ g ∈ GapF, destR (gapR (g ++ c :: X)) = none := by
  intro g hg
  have h1 : ∀ g ∈ GapF, g.all isG = true ∧ g.count 10 > 1 ∧ g ≠ [] := by decide
  obtain ⟨h2, h3, h6⟩ := h1 g hg
  obtain ⟨h4, h5⟩ := tw_app hc g X h2
  unfold gapR
  rw [h4, if_pos h3]
  cases g with
  | nil => exact absurd rfl h6
  | cons a g =>
    have := Bool.and_eq_true_iff.mp (show (isG a && g.all isG) = true from h2)
    exact dest_white this.1 _
/-! destinations -/
theorem wb_cases {R : List Nat} (h : wbB R = true) : (R = [] ∨ ∃ a r, R = a :: r ∧ (a = 32 ∨ a = 9 ∨ a = 10)) ∧ 62 ∉ R := by
  unfold wbB at h
  obtain ⟨h1, h2⟩ := Bool.and_eq_true_iff.mp h
  refine ⟨?_, ?_⟩
  · cases R with
    | nil => exact .inl rfl
    | cons a r =>
      have : GapL.contains a = true := h1
      exact .inr ⟨a, r, rfl, by simpa [GapL] using this⟩
  · intro z
    have : R.contains 62 = true := by simpa using z
    rw [this] at h2
    cases h2
theorem bares {R : List Nat} (h : R = [] ∨ ∃ a r, R = a :: r ∧ (a = 32 ∨ a = 9 ∨ a = 10)) :
    bareR ([47, 117] ++ R) = some R ∧ bareR ([120, 40, 121, 41] ++ R) = some R ∧ bareR ([97, 92, 42, 98] ++ R) = some R ∧ bareR ([38, 97, 109, 112, 59] ++ R) = some R ∧
    bareR ([39, 116, 39] ++ R) = some R ∧ bareR ([92, 40] ++ R) = some R ∧ bareR ([120, 40, 121] ++ R) = none ∧ bareR ([97, 41, 98] ++ R) = some (41 :: 98 :: R) := by
  rcases h with rfl | ⟨a, r, rfl, ha⟩
  · decide +kernel
  · rcases ha with rfl | rfl | rfl <;> cases r <;> exact ⟨rfl, rfl, rfl, rfl, rfl, rfl, rfl, rfl⟩
theorem dest_of_bare {dw R : List Nat} (h0 : dw ≠ []) (h1 : ([60] : List Nat).isPrefixOf (dw ++ R) = false) (h : bareR (dw ++ R) = some R) : destR (dw ++ R) = some (decR dw, R) := by
  unfold destR
  rw [h1, if_neg Bool.false_ne_true, h]
  show (if R.length = (dw ++ R).length then none else some (decR (upToL (dw ++ R) R), R)) = _
  have : 0 < dw.length := List.length_pos_iff.mpr h0
  rw [if_neg (by rw [List.length_append]; omega), upTo_app]
theorem enc_ok {b : List Nat} {o c : Nat} {w : List Nat} (hc : b.contains c = true) (h : plainR b (w ++ [c]) = [c]) (R : List Nat) : encR b c (o :: (w ++ c :: R)) = some (decR w, R) := by
  have h2 := plain_words hc w h R
  unfold encR
  show (if ([c] : List Nat).isPrefixOf (plainR b (w ++ c :: R)) = true then some (decR (upToL (w ++ c :: R) (plainR b (w ++ c :: R))), (plainR b (w ++ c :: R)).drop 1) else none) = _
  rw [h2, upTo_app, if_pos (by simp [List.isPrefixOf])]
  rfl
theorem dest_ok {R : List Nat} (hR : wbB R = true) : ∀ d ∈ DestL, (d.2.2 = true → destR (d.1 ++ R) = some (d.2.1, R)) ∧ (d.2.2 = false → destR (d.1 ++ R) = none ∨ ∃ x r2, destR (d.1 ++ R) = some (x, r2) ∧ endR r2 = none) := by
  obtain ⟨h1, h2⟩ := wb_cases hR
  obtain ⟨b1, b2, b3, b4, b5, b6, b7, b8⟩ := bares h1
  have f : ∀ {dw dd : List Nat}, dw ≠ [] → ([60] : List Nat).isPrefixOf (dw ++ R) = false → bareR (dw ++ R) = some R → decR dw = dd → destR (dw ++ R) = some (dd, R) := fun a b c e => by rw [dest_of_bare a b c, e]
  have g : ∀ {w dd : List Nat}, plainR [60, 62, 10] (w ++ [62]) = [62] → decR w = dd → destR (60 :: (w ++ 62 :: R)) = some (dd, R) := fun {w dd} a e => by
    unfold destR
    rw [if_pos (by rfl), enc_ok (by decide) a, e]
  intro d hd
  unfold DestL at hd
  simp only [List.mem_cons, List.not_mem_nil, or_false] at hd
  rcases hd with rfl | rfl | rfl | rfl | rfl | rfl | rfl | rfl | rfl | rfl | rfl | rfl
  · exact ⟨fun _ => f (by decide) rfl b1 (by decide +kernel), fun h => by cases h⟩
  · exact ⟨fun _ => g (w := []) (by decide +kernel) (by decide +kernel), fun h => by cases h⟩
  · exact ⟨fun _ => g (w := [97, 32, 98]) (by decide +kernel) (by decide +kernel), fun h => by cases h⟩
  · exact ⟨fun _ => f (by decide) rfl b2 (by decide +kernel), fun h => by cases h⟩
  · exact ⟨fun _ => f (by decide) rfl b3 (by decide +kernel), fun h => by cases h⟩
  · exact ⟨fun _ => f (by decide) rfl b4 (by decide +kernel), fun h => by cases h⟩
  · exact ⟨fun _ => g (w := [97, 92, 62, 98]) (by decide +kernel) (by decide +kernel), fun h => by cases h⟩
  · refine ⟨fun h => (by cases h), fun _ => .inl ?_⟩
    unfold destR
    rw [if_pos (by rfl)]
    unfold encR
    rw [if_neg]
    intro z
    have hs : plainR [60, 62, 10] (([60, 97] ++ R).drop 1) <:+ ([60, 97] ++ R).drop 1 := suf_plain _ _
    have : 62 ∈ ([60, 97] ++ R).drop 1 := by
      refine hs.subset ?_
      cases he : plainR [60, 62, 10] (([60, 97] ++ R).drop 1) with
      | nil => rw [he] at z; cases z
      | cons a r =>
        rw [he] at z
        have h5 : ((62 : Nat) == a && ([] : List Nat).isPrefixOf r) = true := z
        have h6 := eq_of_beq (Bool.and_eq_true_iff.mp h5).1
        rw [h6]
        exact List.mem_cons_self ..
    have h3 : 62 ∈ 97 :: R := this
    rcases List.mem_cons.mp h3 with h4 | h4
    · cases h4
    · exact h2 h4
  · refine ⟨fun h => (by cases h), fun _ => .inl ?_⟩
    unfold destR
    rw [if_neg (by exact Bool.false_ne_true)]
    rw [show bareR ([120, 40, 121] ++ R) = none from b7]
  · exact ⟨fun _ => f (by decide) rfl b5 (by decide +kernel), fun h => by cases h⟩
  · refine ⟨fun h => (by cases h), fun _ => .inr ⟨[97], 41 :: 98 :: R, ?_, ?_⟩⟩
    · unfold destR
      rw [if_neg (by exact Bool.false_ne_true), show bareR ([97, 41, 98] ++ R) = some (41 :: 98 :: R) from b8]
      show (if (41 :: 98 :: R).length = (97 :: 41 :: 98 :: R).length then none else some (decR (upToL ([97] ++ 41 :: 98 :: R) (41 :: 98 :: R)), 41 :: 98 :: R)) = _
      rw [if_neg (by simp), upTo_app]
      rfl
    · have e1 : tailR (41 :: 98 :: R) = none := by
        have e2 : gapR (41 :: 98 :: R) = 41 :: 98 :: R := rfl
        unfold tailR
        rw [e2, if_pos rfl]
      unfold endR
      rw [e1]
      rfl
  · exact ⟨fun _ => f (by decide) rfl b6 (by decide +kernel), fun h => by cases h⟩
/-! definitions -/
theorem def_made {w : List Nat} (hw : labelR (91 :: (w ++ [93])) = some (w, [])) (X : List Nat) : defR (91 :: (w ++ 93 :: 58 :: X)) = match destR (gapR X) with
      | none => none
      | some (d, r2) => match endR r2 with
        | none => none
        | some (ti, r3) => some ⟨r3, w, d, ti⟩ := by
  obtain ⟨_, h1, h2, h3⟩ := label_parts hw
  unfold defR
  rw [label_made h1 h2 h3 (58 :: X)]
  rfl
theorem dest_head : ∀ d ∈ DestL, ∃ c r, d.1 = c :: r ∧ isG c = false := by
  intro d hd
  have : ∀ d ∈ DestL, (match d.1 with | [] => false | c :: _ => !isG c) = true := by decide
  have h := this d hd
  cases h2 : d.1 with
  | nil => rw [h2] at h; cases h
  | cons c r =>
    rw [h2] at h
    exact ⟨c, r, rfl, by simpa using h⟩
/-- a drawn definition -/
theorem def_drawn {w g R : List Nat} {d : List Nat × List Nat × Bool} {gb : Bool} (hw : labelR (91 :: (w ++ [93])) = some (w, [])) (hd : d ∈ DestL) (hR : wbB R = true) (hg : (gb = true ∧ g ∈ GapT) ∨ (gb = false ∧ g ∈ GapF)) :
    defR (91 :: (w ++ 93 :: 58 :: (g ++ (d.1 ++ R)))) = if gb = true ∧ d.2.2 = true then (endR R).map fun x => ⟨x.2, w, d.2.1, x.1⟩ else none := by
  rw [def_made hw]
  obtain ⟨c, r, hc, hcg⟩ := dest_head d hd
  obtain ⟨k1, k2⟩ := dest_ok hR d hd
  have e0 : d.1 ++ R = c :: (r ++ R) := by rw [hc]; rfl
  rcases hg with ⟨rfl, hg⟩ | ⟨rfl, hg⟩
  · have e1 : gapR (g ++ (d.1 ++ R)) = d.1 ++ R := by rw [e0]; exact gapT_ok hcg _ g hg
    rw [e1]
    cases hok : d.2.2 with
    | true =>
      rw [k1 hok, if_pos ⟨rfl, rfl⟩]
      dsimp only
      cases endR R <;> rfl
    | false =>
      rw [if_neg fun z => Bool.false_ne_true z.2]
      rcases k2 hok with k3 | ⟨x, r2, k3, k4⟩
      · rw [k3]
      · rw [k3]
        dsimp only
        rw [k4]
  · rw [e0, gapF_ok hcg _ g hg, if_neg fun z => Bool.false_ne_true z.1]

end DM
/-! ### what is a tree: by the data alone -/
namespace TR
open PySem PySem.Spec PyProof.Rows L2 My RM PM DM
def AllowL : List Nat := [9, 10] ++ ((List.range 95).map (· + 32)).filter (· != 37)
inductive So where
  | B
  | I
  | K
def So.nm : So → Str
  | .B => "blocks"
  | .I => "inlines"
  | .K => "linked"
def isK : So → Bool
  | .K => true
  | _ => false
def isStr : PyData → Bool
  | .str _ => true
  | _ => false
def isTup : PyData → Bool
  | .tuple _ => true
  | _ => false
def isBool : PyData → Bool
  | .bool _ => true
  | _ => false
def isInt : PyData → Bool
  | .int _ => true
  | .bool _ => true
  | _ => false
def isEmp : PyData → Bool
  | .str y => decide (y = S [])
  | _ => false
def isNon : PyData → Bool
  | .none => true
  | _ => false
def txt (z : Str) : Bool := z.cps.toList.all fun c => AllowL.contains c
def isTxt : PyData → Bool
  | .str z => txt z
  | _ => false
def isLns : PyData → Bool
  | .str z => txt z && Txt.endswith z (S [10])
  | _ => false
def isFil : PyData → Bool
  | .tuple ds => !ds.isEmpty
  | _ => false
def intTo (a b : Int) : PyData → Bool
  | .int i => decide (a ≤ i) && decide (i ≤ b)
  | _ => false
def labT (w : List Nat) : Bool := labelR (91 :: (w ++ [93])) == some (w, [])
def lab (z : Str) : Bool := decide (Txt.join (S [32]) (Txt.words (S (z.cps.toList.map lo1))) = z) && (labT z.cps.toList || labT (z.cps.toList ++ [32]))
def isLab : PyData → Bool
  | .str z => lab z
  | _ => false
def fitStart (g : Str) (st : PyData) : Bool := if inV (.str g) [.str "-", .str "+", .str "*"] = true then isNon st else inV (.str g) [.str ".", .str ")"] && intTo 0 999999999 st
def fitTgt (d t : PyData) : Bool := isTxt d && (isNon t || isTxt t)
def ok (b : Bool) : Option (List (So × PyData)) := if b = true then some [] else none
def linkR (s : So) (z : Str) : List PyData → Option (List (So × PyData))
  | [d, t, r] => if (!fitTgt d t || (decide (z = "link") && isK s)) = true then none else if z = "link" then some [(.K, r)] else some [(.I, r)]
  | _ => none
def txtR : List PyData → Option (List (So × PyData))
  | [x] => ok (isTxt x && !isEmp x)
  | _ => none
def filR (s : So) : List PyData → Option (List (So × PyData))
  | [x] => if isFil x = true then some [(s, x)] else none
  | _ => none
def inlR (s : So) (z : Str) (rest : List PyData) : Option (List (So × PyData)) :=
  if inV (.str z) [.str "soft", .str "hard"] = true then ok rest.isEmpty
  else if inV (.str z) [.str "text", .str "code", .str "html"] = true then
    txtR rest
  else if inV (.str z) [.str "emph", .str "strong"] = true then
    filR s rest
  else if inV (.str z) [.str "link", .str "image"] = true then linkR s z rest
  else none
def blkR (z : Str) (rest : List PyData) : Option (List (So × PyData)) :=
  if z = "quote" then match rest with
    | [x] => some [(.B, x)]
    | _ => none
  else if z = "list" then match rest with
    | [.str g, st, ti, .tuple its] => if (fitStart g st && isBool ti && !its.isEmpty) = true then some (its.map fun i => (.B, i)) else none
    | _ => none
  else if z = "heading" then match rest with
    | [l, r] => if intTo 1 6 l = true then some [(.I, r)] else none
    | _ => none
  else if z = "break" then ok rest.isEmpty
  else if z = "code" then match rest with
    | [t, i] => ok (if isNon i = true then isLns t else isTxt i && (isLns t || isEmp t))
    | _ => none
  else if z = "html" then match rest with
    | [t] => ok (isLns t)
    | _ => none
  else if z = "definition" then match rest with
    | [l, d, t] => ok (isTxt l && isLab l && fitTgt d t)
    | _ => none
  else if z = "paragraph" then match rest with
    | [r] => if isFil r = true then some [(.I, r)] else none
    | _ => none
  else none
def oneR (s : So) : PyData → Option (Str × List (So × PyData))
  | .tuple (.str z :: rest) => match s with
    | .B => (blkR z rest).map fun r => (z, r)
    | s => (inlR s z rest).map fun r => (z, r)
  | _ => none
/-- the rows in a row; p: a text stands right ahead -/
def rowR (s : So) : Bool → List PyData → Option (List (So × PyData))
  | _, [] => some []
  | p, x :: r => match oneR s x with
    | none => none
    | some (z, f) => if (p && decide (z = "text")) = true then none else (rowR s (decide (z = "text")) r).map fun g => f ++ g
def thingR : So × PyData → Option (List (So × PyData))
  | (s, .tuple ds) => rowR s false ds
  | _ => none
def allR : List (So × PyData) → Option (List (So × PyData))
  | [] => some []
  | p :: r => match thingR p with
    | none => none
    | some f => (allR r).map fun g => f ++ g
def treeR : Nat → List (So × PyData) → Bool
  | 0, rows => rows.isEmpty
  | n + 1, rows => match allR rows with
    | none => false
    | some inner => treeR n inner
def isTree (d : PyData) : Bool := treeR 100 [(.B, d)]
theorem allR_c (p : So × PyData) (r : List (So × PyData)) : allR (p :: r) = match thingR p with
    | none => none
    | some f => (allR r).map fun g => f ++ g := rfl
theorem allR_none {p : So × PyData} {r : List (So × PyData)} (h : thingR p = none) : allR (p :: r) = none := by rw [allR_c, h]
theorem allR_some {p : So × PyData} {r f : List (So × PyData)} (h : thingR p = some f) : allR (p :: r) = (allR r).map fun g => f ++ g := by rw [allR_c, h]
end TR

/-! ### documents as trees, and that they are trees -/
namespace BM
open PySem PySem.Spec PyProof.Rows L2 My RM PM DM IM TR
inductive Blk where
  | quote (bs : List Blk)
  | list (g : Str) (st : Option Nat) (t : Bool) (its : List (List Blk))
  | heading (l : Nat) (r : List Inl)
  | brk
  | code (t : List Nat) (i : Option (List Nat))
  | html (t : List Nat)
  | defn (l d : List Nat) (t : Option (List Nat))
  | par (r : List Inl)
def optI : Option Nat → PyData
  | none => .none
  | some n => .int (n : Int)
mutual
def Blk.toD : Blk → PyData
  | .quote bs => .tuple [.str "quote", .tuple (blksD bs)]
  | .list g st t its => .tuple [.str "list", .str g, optI st, .bool t, .tuple (itsD its)]
  | .heading l r => .tuple [.str "heading", .int (l : Int), .tuple (rowD r)]
  | .brk => .tuple [.str "break"]
  | .code t i => .tuple [.str "code", .str (S t), optD i]
  | .html t => .tuple [.str "html", .str (S t)]
  | .defn l d t => .tuple [.str "definition", .str (S l), .str (S d), optD t]
  | .par r => .tuple [.str "paragraph", .tuple (rowD r)]
def blksD : List Blk → List PyData
  | [] => []
  | b :: bs => b.toD :: blksD bs
def itsD : List (List Blk) → List PyData
  | [] => []
  | bs :: its => .tuple (blksD bs) :: itsD its
end
/-! what a good row of inlines is; k: within a link -/
def gTxt (t : List Nat) : Bool := t.all fun c => AllowL.contains c
def gOpt : Option (List Nat) → Bool
  | none => true
  | some t => gTxt t
def isT : Inl → Bool
  | .text _ => true
  | _ => false
mutual
def gI (k : Bool) : Inl → Bool
  | .text t => gTxt t && !t.isEmpty
  | .code t => gTxt t && !t.isEmpty
  | .html t => gTxt t && !t.isEmpty
  | .soft => true
  | .hard => true
  | .emph r => !r.isEmpty && gR k false r
  | .strong r => !r.isEmpty && gR k false r
  | .link d t r => !k && gTxt d && gOpt t && gR true false r
  | .image d t r => gTxt d && gOpt t && gR false false r
def gR (k : Bool) : Bool → List Inl → Bool
  | _, [] => true
  | p, x :: r => gI k x && !(p && isT x) && gR k (isT x) r
end
mutual
def hI : Inl → Nat
  | .emph r => 1 + hR r
  | .strong r => 1 + hR r
  | .link _ _ r => 1 + hR r
  | .image _ _ r => 1 + hR r
  | _ => 0
def hR : List Inl → Nat
  | [] => 0
  | x :: r => max (hI x) (hR r)
end
theorem treeR_app : ∀ (n : Nat) (a b : List (So × PyData)), treeR n (a ++ b) = (treeR n a && treeR n b)
  | 0, a, b => by
    cases a <;> cases b <;> rfl
  | n + 1, a, b => by
    have e : ∀ a : List (So × PyData), allR (a ++ b) = (allR a).bind fun f => (allR b).map fun g => f ++ g := fun a => by
      induction a with
      | nil =>
        show allR b = (some []).bind _
        cases allR b <;> rfl
      | cons p a ih =>
        show allR (p :: (a ++ b)) = _
        rw [allR_c, allR_c, ih]
        cases thingR p with
        | none => rfl
        | some f =>
          cases allR a with
          | none => rfl
          | some g =>
            cases allR b with
            | none => rfl
            | some k => simp
    show (match allR (a ++ b) with | none => false | some i => treeR n i) = ((match allR a with | none => false | some i => treeR n i) && (match allR b with | none => false | some i => treeR n i))
    rw [e]
    cases allR a with
    | none => rfl
    | some f =>
      cases allR b with
      | none => simp
      | some g => exact treeR_app n f g
theorem treeR_one (n : Nat) (p : So × PyData) : treeR (n + 1) [p] = match thingR p with | none => false | some f => treeR n f := by
  show (match allR [p] with | none => false | some i => treeR n i) = _
  rw [allR_c]
  cases thingR p with
  | none => rfl
  | some f =>
    show treeR n (f ++ []) = _
    rw [List.append_nil]
theorem treeR_nil (n : Nat) : treeR n [] = true := by
  induction n with
  | zero => rfl
  | succ n ih => exact ih
theorem treeR_up : ∀ (n : Nat) (a : List (So × PyData)), treeR n a = true → treeR (n + 1) a = true
  | 0, a, h => by
    cases a with
    | nil => rfl
    | cons p a => cases h
  | n + 1, a, h => by
    have h' : (match allR a with | none => false | some i => treeR n i) = true := h
    show (match allR a with | none => false | some i => treeR (n + 1) i) = true
    cases e : allR a with
    | none => rw [e] at h'; cases h'
    | some f =>
      rw [e] at h'
      exact treeR_up n f h'
theorem treeR_le {n m : Nat} {a : List (So × PyData)} (h : treeR n a = true) (l : n ≤ m) : treeR m a = true := by
  induction l with
  | refl => exact h
  | step _ ih => exact treeR_up _ _ ih
theorem treeR_row {n : Nat} {s : So} {ds : List PyData} {f : List (So × PyData)} (h : rowR s false ds = some f) : treeR (n + 1) [(s, .tuple ds)] = treeR n f := by
  rw [treeR_one]
  have : thingR (s, .tuple ds) = some f := h
  rw [this]
/-! good rows are rows -/
theorem txt_g {t : List Nat} : txt (S t) = gTxt t := by
  unfold txt gTxt
  rw [S_tl]
theorem emp_g (t : List Nat) : isEmp (.str (S t)) = t.isEmpty := by
  show decide (S t = S []) = _
  cases t with
  | nil => exact decide_eq_true rfl
  | cons c t => exact decide_eq_false fun h => nomatch S_inj h
theorem opt_g (t : Option (List Nat)) : (isNon (optD t) || isTxt (optD t)) = gOpt t := by
  cases t with
  | none => rfl
  | some t => exact txt_g
theorem fil_g (r : List Inl) : isFil (.tuple (rowD r)) = !r.isEmpty := by cases r <;> rfl
def soI (k : Bool) : So := if k = true then .K else .I
def subI (k : Bool) : Inl → List (So × PyData)
  | .emph r => [(soI k, .tuple (rowD r))]
  | .strong r => [(soI k, .tuple (rowD r))]
  | .link _ _ r => [(.K, .tuple (rowD r))]
  | .image _ _ r => [(.I, .tuple (rowD r))]
  | _ => []
def nameI : Inl → Str
  | .text _ => "text"
  | .code _ => "code"
  | .html _ => "html"
  | .soft => "soft"
  | .hard => "hard"
  | .emph _ => "emph"
  | .strong _ => "strong"
  | .link _ _ _ => "link"
  | .image _ _ _ => "image"
theorem name_text (x : Inl) : decide (nameI x = ("text" : Str)) = isT x := by
  cases x with
  | text t => exact decide_eq_true rfl
  | code t => exact (by decide +kernel : decide (("code" : Str) = "text") = false)
  | html t => exact (by decide +kernel : decide (("html" : Str) = "text") = false)
  | soft => exact (by decide +kernel : decide (("soft" : Str) = "text") = false)
  | hard => exact (by decide +kernel : decide (("hard" : Str) = "text") = false)
  | emph r => exact (by decide +kernel : decide (("emph" : Str) = "text") = false)
  | strong r => exact (by decide +kernel : decide (("strong" : Str) = "text") = false)
  | link d t r => exact (by decide +kernel : decide (("link" : Str) = "text") = false)
  | image d t r => exact (by decide +kernel : decide (("image" : Str) = "text") = false)
theorem oneI_of (k : Bool) (z : Str) (rest : List PyData) : oneR (soI k) (.tuple (.str z :: rest)) = (inlR (soI k) z rest).map fun r => (z, r) := by cases k <;> rfl
theorem ok_true {b : Bool} (h : b = true) : ok b = some [] := by unfold ok; rw [if_pos h]
theorem one_I (k : Bool) : ∀ x : Inl, gI k x = true → oneR (soI k) x.toD = some (nameI x, subI k x) := by
  have i1 : ∀ z : Str, (z = "text" ∨ z = "code" ∨ z = "html") → ∀ t, (gTxt t && !t.isEmpty) = true → inlR (soI k) z [.str (S t)] = some [] := fun z hz t h => by
    have a1 : inV (.str z) [.str "soft", .str "hard"] = false := by rcases hz with rfl | rfl | rfl <;> decide +kernel
    have a2 : inV (.str z) [.str "text", .str "code", .str "html"] = true := by rcases hz with rfl | rfl | rfl <;> decide +kernel
    unfold inlR
    rw [a1, if_neg Bool.false_ne_true, a2, if_pos rfl]
    show ok (isTxt (.str (S t)) && !isEmp (.str (S t))) = some []
    rw [emp_g]
    exact ok_true (by show (txt (S t) && _) = true; rw [txt_g]; exact h)
  have i2 : ∀ z : Str, (z = "soft" ∨ z = "hard") → inlR (soI k) z [] = some [] := fun z hz => by
    have a1 : inV (.str z) [.str "soft", .str "hard"] = true := by rcases hz with rfl | rfl <;> decide +kernel
    unfold inlR
    rw [a1, if_pos rfl]
    rfl
  have i3 : ∀ z : Str, (z = "emph" ∨ z = "strong") → ∀ r : List Inl, r.isEmpty = false → inlR (soI k) z [.tuple (rowD r)] = some [(soI k, .tuple (rowD r))] := fun z hz r h => by
    have a1 : inV (.str z) [.str "soft", .str "hard"] = false := by rcases hz with rfl | rfl <;> decide +kernel
    have a2 : inV (.str z) [.str "text", .str "code", .str "html"] = false := by rcases hz with rfl | rfl <;> decide +kernel
    have a3 : inV (.str z) [.str "emph", .str "strong"] = true := by rcases hz with rfl | rfl <;> decide +kernel
    unfold inlR
    rw [a1, if_neg Bool.false_ne_true, a2, if_neg Bool.false_ne_true, a3, if_pos rfl]
    show (if isFil (.tuple (rowD r)) = true then _ else _) = _
    rw [fil_g, h]
    rfl
  have i4 : ∀ z : Str, (z = "link" ∨ z = "image") → ∀ d t (r : List Inl), (gTxt d && gOpt t) = true → (z = "link" → k = false) → inlR (soI k) z [.str (S d), optD t, .tuple (rowD r)] = some [(if z = "link" then So.K else So.I, .tuple (rowD r))] := fun z hz d t r h hk => by
    have a1 : inV (.str z) [.str "soft", .str "hard"] = false := by rcases hz with rfl | rfl <;> decide +kernel
    have a2 : inV (.str z) [.str "text", .str "code", .str "html"] = false := by rcases hz with rfl | rfl <;> decide +kernel
    have a3 : inV (.str z) [.str "emph", .str "strong"] = false := by rcases hz with rfl | rfl <;> decide +kernel
    have a4 : inV (.str z) [.str "link", .str "image"] = true := by rcases hz with rfl | rfl <;> decide +kernel
    unfold inlR
    rw [a1, if_neg Bool.false_ne_true, a2, if_neg Bool.false_ne_true, a3, if_neg Bool.false_ne_true, a4, if_pos rfl]
    have f : fitTgt (.str (S d)) (optD t) = true := by
      unfold fitTgt
      rw [opt_g]
      show (txt (S d) && _) = true
      rw [txt_g]
      exact h
    show (if (!fitTgt (.str (S d)) (optD t) || (decide (z = "link") && isK (soI k))) = true then none else if z = "link" then some [(So.K, _)] else some [(So.I, _)]) = _
    rw [f]
    rcases hz with rfl | rfl
    · rw [hk rfl]
      rw [if_neg (by rw [show isK (soI false) = false from rfl, Bool.and_false]; exact Bool.false_ne_true), if_pos rfl, if_pos rfl]
    · rw [if_neg (by rw [decide_eq_false (by decide +kernel)]; exact Bool.false_ne_true), if_neg (by decide +kernel), if_neg (by decide +kernel)]
  intro x h
  cases x with
  | text t => show oneR (soI k) (.tuple (.str "text" :: [_])) = _; rw [oneI_of, i1 _ (.inl rfl) t h]; rfl
  | code t => show oneR (soI k) (.tuple (.str "code" :: [_])) = _; rw [oneI_of, i1 _ (.inr (.inl rfl)) t h]; rfl
  | html t => show oneR (soI k) (.tuple (.str "html" :: [_])) = _; rw [oneI_of, i1 _ (.inr (.inr rfl)) t h]; rfl
  | soft => show oneR (soI k) (.tuple (.str "soft" :: [])) = _; rw [oneI_of, i2 _ (.inl rfl)]; rfl
  | hard => show oneR (soI k) (.tuple (.str "hard" :: [])) = _; rw [oneI_of, i2 _ (.inr rfl)]; rfl
  | emph r =>
    have h' : (!r.isEmpty && gR k false r) = true := h
    rw [Bool.and_eq_true] at h'
    show oneR (soI k) (.tuple (.str "emph" :: [_])) = _
    rw [oneI_of, i3 _ (.inl rfl) r (by simpa using h'.1)]
    rfl
  | strong r =>
    have h' : (!r.isEmpty && gR k false r) = true := h
    rw [Bool.and_eq_true] at h'
    show oneR (soI k) (.tuple (.str "strong" :: [_])) = _
    rw [oneI_of, i3 _ (.inr rfl) r (by simpa using h'.1)]
    rfl
  | link d t r =>
    have h' : (!k && gTxt d && gOpt t && gR true false r) = true := h
    simp only [Bool.and_eq_true] at h'
    show oneR (soI k) (.tuple (.str "link" :: [_, _, _])) = _
    rw [oneI_of, i4 _ (.inl rfl) d t r (by rw [h'.1.1.2, h'.1.2]; rfl) (fun _ => by simpa using h'.1.1.1), if_pos rfl]
    rfl
  | image d t r =>
    have h' : (gTxt d && gOpt t && gR false false r) = true := h
    simp only [Bool.and_eq_true] at h'
    show oneR (soI k) (.tuple (.str "image" :: [_, _, _])) = _
    rw [oneI_of, i4 _ (.inr rfl) d t r (by rw [h'.1.1, h'.1.2]; rfl) (fun e => absurd e (by decide +kernel)), if_neg (by decide +kernel)]
    rfl
theorem row_I (k : Bool) : ∀ (r : List Inl) (p : Bool), gR k p r = true → rowR (soI k) p (rowD r) = some (r.flatMap (subI k))
  | [], _, _ => rfl
  | x :: r, p, h => by
    have h' : (gI k x && !(p && isT x) && gR k (isT x) r) = true := h
    simp only [Bool.and_eq_true] at h'
    show rowR (soI k) p (x.toD :: rowD r) = _
    have e1 : ∀ (ds : List PyData), rowR (soI k) p (x.toD :: ds) = if (p && decide (nameI x = "text")) = true then none else (rowR (soI k) (decide (nameI x = "text")) ds).map fun g => subI k x ++ g := fun ds => by
      show (match oneR (soI k) x.toD with | none => none | some (z, f) => _) = _
      rw [one_I k x h'.1.1]
    rw [e1, name_text, row_I k r _ h'.2]
    have h2 : (p && isT x) = false := (Bool.not_eq_true' _).mp h'.1.2
    rw [h2, if_neg Bool.false_ne_true]
    rfl
mutual
theorem tree_sub (k : Bool) : ∀ (x : Inl) (n : Nat), gI k x = true → hI x ≤ n → treeR n (subI k x) = true
  | .text _, n, _, _ => treeR_nil n
  | .code _, n, _, _ => treeR_nil n
  | .html _, n, _, _ => treeR_nil n
  | .soft, n, _, _ => treeR_nil n
  | .hard, n, _, _ => treeR_nil n
  | .emph r, n, h, hn => by
    have h' : (!r.isEmpty && gR k false r) = true := h
    rw [Bool.and_eq_true] at h'
    have hn' : 1 + hR r ≤ n := hn
    obtain ⟨m, rfl⟩ : ∃ m, n = m + 1 := ⟨n - 1, by omega⟩
    show treeR (m + 1) [(soI k, .tuple (rowD r))] = true
    rw [treeR_row (row_I k r false h'.2)]
    exact tree_row k r false m h'.2 (by omega)
  | .strong r, n, h, hn => by
    have h' : (!r.isEmpty && gR k false r) = true := h
    rw [Bool.and_eq_true] at h'
    have hn' : 1 + hR r ≤ n := hn
    obtain ⟨m, rfl⟩ : ∃ m, n = m + 1 := ⟨n - 1, by omega⟩
    show treeR (m + 1) [(soI k, .tuple (rowD r))] = true
    rw [treeR_row (row_I k r false h'.2)]
    exact tree_row k r false m h'.2 (by omega)
  | .link d t r, n, h, hn => by
    have h' : (!k && gTxt d && gOpt t && gR true false r) = true := h
    simp only [Bool.and_eq_true] at h'
    have hn' : 1 + hR r ≤ n := hn
    obtain ⟨m, rfl⟩ : ∃ m, n = m + 1 := ⟨n - 1, by omega⟩
    show treeR (m + 1) [(soI true, .tuple (rowD r))] = true
    rw [treeR_row (row_I true r false h'.2)]
    exact tree_row true r false m h'.2 (by omega)
  | .image d t r, n, h, hn => by
    have h' : (gTxt d && gOpt t && gR false false r) = true := h
    simp only [Bool.and_eq_true] at h'
    have hn' : 1 + hR r ≤ n := hn
    obtain ⟨m, rfl⟩ : ∃ m, n = m + 1 := ⟨n - 1, by omega⟩
    show treeR (m + 1) [(soI false, .tuple (rowD r))] = true
    rw [treeR_row (row_I false r false h'.2)]
    exact tree_row false r false m h'.2 (by omega)
theorem tree_row (k : Bool) : ∀ (r : List Inl) (p : Bool) (n : Nat), gR k p r = true → hR r ≤ n → treeR n (r.flatMap (subI k)) = true
  | [], _, n, _, _ => treeR_nil n
  | x :: r, p, n, h, hn => by
    have h' : (gI k x && !(p && isT x) && gR k (isT x) r) = true := h
    simp only [Bool.and_eq_true] at h'
    have hn' : max (hI x) (hR r) ≤ n := hn
    rw [List.flatMap_cons, treeR_app, tree_sub k x n h'.1.1 (by omega), tree_row k r (isT x) n h'.2 (by omega)]
    rfl
end
/-! blocks -/
mutual
def gB : Blk → Bool
  | .quote bs => gBs bs
  | .list g st _ its => fitStart g (optI st) && !its.isEmpty && gIts its
  | .heading l r => decide (1 ≤ l) && decide (l ≤ 6) && gR false false r
  | .brk => true
  | .code t i => match i with
    | none => isLns (.str (S t))
    | some i => gTxt i && (isLns (.str (S t)) || t.isEmpty)
  | .html t => isLns (.str (S t))
  | .defn l d t => gTxt l && lab (S l) && gTxt d && gOpt t
  | .par r => !r.isEmpty && gR false false r
def gBs : List Blk → Bool
  | [] => true
  | b :: bs => gB b && gBs bs
def gIts : List (List Blk) → Bool
  | [] => true
  | bs :: its => gBs bs && gIts its
end
mutual
def hB : Blk → Nat
  | .quote bs => 1 + hBs bs
  | .list _ _ _ its => hIts its
  | .heading _ r => 1 + hR r
  | .par r => 1 + hR r
  | _ => 0
def hBs : List Blk → Nat
  | [] => 0
  | b :: bs => max (hB b) (hBs bs)
def hIts : List (List Blk) → Nat
  | [] => 0
  | bs :: its => max (1 + hBs bs) (hIts its)
end
theorem itsD_map : ∀ its : List (List Blk), itsD its = its.map fun bs => .tuple (blksD bs)
  | [] => rfl
  | bs :: its => by
    show PyData.tuple (blksD bs) :: itsD its = _
    rw [itsD_map its]
    rfl
def subB : Blk → List (So × PyData)
  | .quote bs => [(.B, .tuple (blksD bs))]
  | .list _ _ _ its => (itsD its).map fun i => (.B, i)
  | .heading _ r => [(.I, .tuple (rowD r))]
  | .par r => [(.I, .tuple (rowD r))]
  | _ => []
def nameB : Blk → Str
  | .quote _ => "quote"
  | .list _ _ _ _ => "list"
  | .heading _ _ => "heading"
  | .brk => "break"
  | .code _ _ => "code"
  | .html _ => "html"
  | .defn _ _ _ => "definition"
  | .par _ => "paragraph"
theorem nameB_text (b : Blk) : decide (nameB b = ("text" : Str)) = false := by
  cases b with
  | quote _ => exact (by decide +kernel : decide (("quote" : Str) = "text") = false)
  | list _ _ _ _ => exact (by decide +kernel : decide (("list" : Str) = "text") = false)
  | heading _ _ => exact (by decide +kernel : decide (("heading" : Str) = "text") = false)
  | brk => exact (by decide +kernel : decide (("break" : Str) = "text") = false)
  | code _ _ => exact (by decide +kernel : decide (("code" : Str) = "text") = false)
  | html _ => exact (by decide +kernel : decide (("html" : Str) = "text") = false)
  | defn _ _ _ => exact (by decide +kernel : decide (("definition" : Str) = "text") = false)
  | par _ => exact (by decide +kernel : decide (("paragraph" : Str) = "text") = false)
theorem bl_quote (x : PyData) : blkR "quote" [x] = some [(.B, x)] := by unfold blkR; rw [if_pos rfl]
theorem bl_list (g : Str) (st ti : PyData) (its : List PyData) : blkR "list" [.str g, st, ti, .tuple its] = if (fitStart g st && isBool ti && !its.isEmpty) = true then some (its.map fun i => (.B, i)) else none := by
  unfold blkR
  rw [if_neg (by decide +kernel), if_pos rfl]
theorem bl_head (l r : PyData) : blkR "heading" [l, r] = if intTo 1 6 l = true then some [(.I, r)] else none := by
  unfold blkR
  rw [if_neg (by decide +kernel), if_neg (by decide +kernel), if_pos rfl]
theorem bl_brk : blkR "break" [] = some [] := by
  unfold blkR
  rw [if_neg (by decide +kernel), if_neg (by decide +kernel), if_neg (by decide +kernel), if_pos rfl]
  rfl
theorem bl_code (t i : PyData) : blkR "code" [t, i] = ok (if isNon i = true then isLns t else isTxt i && (isLns t || isEmp t)) := by
  unfold blkR
  rw [if_neg (by decide +kernel), if_neg (by decide +kernel), if_neg (by decide +kernel), if_neg (by decide +kernel), if_pos rfl]
theorem bl_html (t : PyData) : blkR "html" [t] = ok (isLns t) := by
  unfold blkR
  rw [if_neg (by decide +kernel), if_neg (by decide +kernel), if_neg (by decide +kernel), if_neg (by decide +kernel), if_neg (by decide +kernel), if_pos rfl]
theorem bl_def (l d t : PyData) : blkR "definition" [l, d, t] = ok (isTxt l && isLab l && fitTgt d t) := by
  unfold blkR
  rw [if_neg (by decide +kernel), if_neg (by decide +kernel), if_neg (by decide +kernel), if_neg (by decide +kernel), if_neg (by decide +kernel), if_neg (by decide +kernel), if_pos rfl]
theorem bl_par (r : PyData) : blkR "paragraph" [r] = if isFil r = true then some [(.I, r)] else none := by
  unfold blkR
  rw [if_neg (by decide +kernel), if_neg (by decide +kernel), if_neg (by decide +kernel), if_neg (by decide +kernel), if_neg (by decide +kernel), if_neg (by decide +kernel), if_neg (by decide +kernel), if_pos rfl]
theorem oneB_of (z : Str) (rest : List PyData) : oneR .B (.tuple (.str z :: rest)) = (blkR z rest).map fun r => (z, r) := rfl
theorem one_B : ∀ b : Blk, gB b = true → oneR .B b.toD = some (nameB b, subB b)
  | .quote bs, _ => by
    show oneR .B (.tuple (.str "quote" :: [_])) = _
    rw [oneB_of, bl_quote]
    rfl
  | .list g st t its, h => by
    have h' : (fitStart g (optI st) && !its.isEmpty && gIts its) = true := h
    simp only [Bool.and_eq_true] at h'
    show oneR .B (.tuple (.str "list" :: [_, _, _, _])) = _
    rw [oneB_of, bl_list]
    have e : (fitStart g (optI st) && isBool (.bool t) && !(itsD its).isEmpty) = true := by
      rw [h'.1.1]
      have : (itsD its).isEmpty = its.isEmpty := by cases its <;> rfl
      rw [this, h'.1.2]
      rfl
    rw [e]
    rfl
  | .heading l r, h => by
    have h' : (decide (1 ≤ l) && decide (l ≤ 6) && gR false false r) = true := h
    simp only [Bool.and_eq_true, decide_eq_true_eq] at h'
    show oneR .B (.tuple (.str "heading" :: [_, _])) = _
    rw [oneB_of, bl_head]
    have e : intTo 1 6 (.int (l : Int)) = true := by
      show (decide ((1 : Int) ≤ (l : Int)) && decide ((l : Int) ≤ 6)) = true
      rw [decide_eq_true (by omega), decide_eq_true (by omega)]
      rfl
    rw [e]
    rfl
  | .brk, _ => by
    show oneR .B (.tuple (.str "break" :: [])) = _
    rw [oneB_of, bl_brk]
    rfl
  | .code t i, h => by
    show oneR .B (.tuple (.str "code" :: [_, _])) = _
    rw [oneB_of, bl_code]
    cases i with
    | none =>
      have h' : isLns (.str (S t)) = true := h
      rw [show (if isNon (optD none) = true then isLns (.str (S t)) else isTxt (optD none) && (isLns (.str (S t)) || isEmp (.str (S t)))) = isLns (.str (S t)) from rfl, ok_true h']
      rfl
    | some i =>
      have h' : (gTxt i && (isLns (.str (S t)) || t.isEmpty)) = true := h
      have e : (if isNon (optD (some i)) = true then isLns (.str (S t)) else isTxt (optD (some i)) && (isLns (.str (S t)) || isEmp (.str (S t)))) = true := by
        show (txt (S i) && (isLns (.str (S t)) || isEmp (.str (S t)))) = true
        rw [txt_g, emp_g]
        exact h'
      rw [ok_true e]
      rfl
  | .html t, h => by
    have h' : isLns (.str (S t)) = true := h
    show oneR .B (.tuple (.str "html" :: [_])) = _
    rw [oneB_of, bl_html, ok_true h']
    rfl
  | .defn l d t, h => by
    have h' : (gTxt l && lab (S l) && gTxt d && gOpt t) = true := h
    simp only [Bool.and_eq_true] at h'
    show oneR .B (.tuple (.str "definition" :: [_, _, _])) = _
    rw [oneB_of, bl_def]
    have e : (isTxt (.str (S l)) && isLab (.str (S l)) && fitTgt (.str (S d)) (optD t)) = true := by
      show (txt (S l) && lab (S l) && (txt (S d) && (isNon (optD t) || isTxt (optD t)))) = true
      rw [txt_g, txt_g, opt_g, h'.1.1.1, h'.1.1.2, h'.1.2, h'.2]
      rfl
    rw [ok_true e]
    rfl
  | .par r, h => by
    have h' : (!r.isEmpty && gR false false r) = true := h
    simp only [Bool.and_eq_true] at h'
    show oneR .B (.tuple (.str "paragraph" :: [_])) = _
    rw [oneB_of, bl_par, fil_g, h'.1]
    rfl
theorem row_B : ∀ (bs : List Blk) (p : Bool), gBs bs = true → rowR .B p (blksD bs) = some (bs.flatMap subB)
  | [], _, _ => rfl
  | b :: bs, p, h => by
    have h' : (gB b && gBs bs) = true := h
    rw [Bool.and_eq_true] at h'
    show rowR .B p (b.toD :: blksD bs) = _
    have e1 : ∀ (ds : List PyData), rowR .B p (b.toD :: ds) = if (p && decide (nameB b = "text")) = true then none else (rowR .B (decide (nameB b = "text")) ds).map fun g => subB b ++ g := fun ds => by
      show (match oneR .B b.toD with | none => none | some (z, f) => _) = _
      rw [one_B b h'.1]
    rw [e1, nameB_text, row_B bs _ h'.2, Bool.and_false, if_neg Bool.false_ne_true]
    rfl
mutual
theorem tree_subB : ∀ (b : Blk) (n : Nat), gB b = true → hB b ≤ n → treeR n (subB b) = true
  | .brk, n, _, _ => treeR_nil n
  | .code _ _, n, _, _ => treeR_nil n
  | .html _, n, _, _ => treeR_nil n
  | .defn _ _ _, n, _, _ => treeR_nil n
  | .quote bs, n, h, hn => by
    have h' : gBs bs = true := h
    have hn' : 1 + hBs bs ≤ n := hn
    obtain ⟨m, rfl⟩ : ∃ m, n = m + 1 := ⟨n - 1, by omega⟩
    show treeR (m + 1) [(.B, .tuple (blksD bs))] = true
    rw [treeR_row (row_B bs false h')]
    exact tree_rowB bs m h' (by omega)
  | .list g st t its, n, h, hn => by
    have h' : (fitStart g (optI st) && !its.isEmpty && gIts its) = true := h
    simp only [Bool.and_eq_true] at h'
    exact tree_its its n h'.2 hn
  | .heading l r, n, h, hn => by
    have h' : (decide (1 ≤ l) && decide (l ≤ 6) && gR false false r) = true := h
    simp only [Bool.and_eq_true] at h'
    have hn' : 1 + hR r ≤ n := hn
    obtain ⟨m, rfl⟩ : ∃ m, n = m + 1 := ⟨n - 1, by omega⟩
    show treeR (m + 1) [(soI false, .tuple (rowD r))] = true
    rw [treeR_row (row_I false r false h'.2)]
    exact tree_row false r false m h'.2 (by omega)
  | .par r, n, h, hn => by
    have h' : (!r.isEmpty && gR false false r) = true := h
    simp only [Bool.and_eq_true] at h'
    have hn' : 1 + hR r ≤ n := hn
    obtain ⟨m, rfl⟩ : ∃ m, n = m + 1 := ⟨n - 1, by omega⟩
    show treeR (m + 1) [(soI false, .tuple (rowD r))] = true
    rw [treeR_row (row_I false r false h'.2)]
    exact tree_row false r false m h'.2 (by omega)
theorem tree_rowB : ∀ (bs : List Blk) (n : Nat), gBs bs = true → hBs bs ≤ n → treeR n (bs.flatMap subB) = true
  | [], n, _, _ => treeR_nil n
  | b :: bs, n, h, hn => by
    have h' : (gB b && gBs bs) = true := h
    rw [Bool.and_eq_true] at h'
    have hn' : max (hB b) (hBs bs) ≤ n := hn
    rw [List.flatMap_cons, treeR_app, tree_subB b n h'.1 (by omega), tree_rowB bs n h'.2 (by omega)]
    rfl
theorem tree_its : ∀ (its : List (List Blk)) (n : Nat), gIts its = true → hIts its ≤ n → treeR n ((itsD its).map fun i => (.B, i)) = true
  | [], n, _, _ => treeR_nil n
  | bs :: its, n, h, hn => by
    have h' : (gBs bs && gIts its) = true := h
    rw [Bool.and_eq_true] at h'
    have hn' : max (1 + hBs bs) (hIts its) ≤ n := hn
    obtain ⟨m, hm⟩ : ∃ m, n = m + 1 := ⟨n - 1, by omega⟩
    show treeR n ((.B, .tuple (blksD bs)) :: (itsD its).map fun i => (.B, i)) = true
    have e : ∀ (p : So × PyData) r, treeR n (p :: r) = (treeR n [p] && treeR n r) := fun p r => treeR_app n [p] r
    rw [e, tree_its its n h'.2 (by omega), hm, treeR_row (row_B bs false h'.1), tree_rowB bs m h'.1 (by omega)]
    rfl
end
theorem is_doc {bs : List Blk} (h : gBs bs = true) (hh : hBs bs ≤ 99) : isTree (.tuple (blksD bs)) = true := by
  show treeR (99 + 1) [(.B, .tuple (blksD bs))] = true
  rw [treeR_row (row_B bs false h)]
  exact tree_rowB bs 99 h hh
/-! what is spoilt -/
def badB (d : PyData) : Bool := match oneR .B d with
  | none => true
  | some (_, f) => !treeR 100 f
theorem bad_row {n : Nat} (hn : n ≤ 100) {w : PyData} (hw : badB w = true) : ∀ (ds es : List PyData) (p : Bool) {f : List (So × PyData)}, rowR .B p (ds ++ w :: es) = some f → treeR n f = false
  | [], es, p, f, h => by
    have h' : rowR .B p (w :: es) = some f := h
    rw [show rowR .B p (w :: es) = match oneR .B w with | none => none | some (z, g) => if (p && decide (z = "text")) = true then none else (rowR .B (decide (z = "text")) es).map fun k => g ++ k from rfl] at h'
    unfold badB at hw
    cases e : oneR .B w with
    | none => rw [e] at h'; cases h'
    | some zg =>
      obtain ⟨z, g⟩ := zg
      rw [e] at h' hw
      have hw' : treeR 100 g = false := by simpa using hw
      have h'' : (if (p && decide (z = "text")) = true then none else (rowR .B (decide (z = "text")) es).map fun k => g ++ k) = some f := h'
      split at h''
      · cases h''
      · cases e2 : rowR .B (decide (z = "text")) es with
        | none => rw [e2] at h''; cases h''
        | some k =>
          rw [e2] at h''
          cases h''
          rw [treeR_app]
          have : treeR n g = false := by
            cases q : treeR n g with
            | false => rfl
            | true => rw [treeR_le q hn] at hw'; cases hw'
          rw [this]
          rfl
  | d :: ds, es, p, f, h => by
    have h' : rowR .B p (d :: (ds ++ w :: es)) = some f := h
    rw [show rowR .B p (d :: (ds ++ w :: es)) = match oneR .B d with | none => none | some (z, g) => if (p && decide (z = "text")) = true then none else (rowR .B (decide (z = "text")) (ds ++ w :: es)).map fun k => g ++ k from rfl] at h'
    cases e : oneR .B d with
    | none => rw [e] at h'; cases h'
    | some zg =>
      obtain ⟨z, g⟩ := zg
      rw [e] at h'
      have h'' : (if (p && decide (z = "text")) = true then none else (rowR .B (decide (z = "text")) (ds ++ w :: es)).map fun k => g ++ k) = some f := h'
      split at h''
      · cases h''
      · cases e2 : rowR .B (decide (z = "text")) (ds ++ w :: es) with
        | none => rw [e2] at h''; cases h''
        | some k =>
          rw [e2] at h''
          cases h''
          rw [treeR_app, bad_row hn hw ds es _ e2, Bool.and_false]
theorem bad_tree {n : Nat} (hn : n ≤ 100) {w : PyData} (hw : badB w = true) (ds es : List PyData) : treeR (n + 1) [(.B, .tuple (ds ++ w :: es))] = false := by
  rw [treeR_one]
  show (match rowR .B false (ds ++ w :: es) with | none => false | some f => treeR n f) = false
  cases e : rowR .B false (ds ++ w :: es) with
  | none => rfl
  | some f => exact bad_row hn hw ds es _ e
end BM

namespace PG
open PySem PySem.Spec PyProof.Rows L2 My RM PM DM IM TR BM
/-- a sign as it stands in a page -/
def escC (c : Nat) : List Nat := if c = 38 then [38, 97, 109, 112, 59] else if c = 60 then [38, 108, 116, 59] else if c = 62 then [38, 103, 116, 59] else if c = 34 then [38, 113, 117, 111, 116, 59] else [c]
def escL (l : List Nat) : List Nat := l.flatMap escC
theorem escL_app (a b : List Nat) : escL (a ++ b) = escL a ++ escL b := List.flatMap_append
theorem escC_len (c : Nat) : (escC c).length ≤ 6 := by
  unfold escC
  repeat' split
  all_goals simp
theorem escL_len : ∀ l : List Nat, (escL l).length ≤ 6 * l.length
  | [] => Nat.zero_le _
  | c :: r => by
    show (escC c ++ escL r).length ≤ 6 * (r.length + 1)
    rw [List.length_append]
    have := escC_len c
    have := escL_len r
    omega
open PySem.StrLaws in
/-- one sign is exchanged -/
theorem repl_one (y : Nat) (z : List Nat) : ∀ l : List Nat, replL [y] z l = l.flatMap fun c => if c = y then z else [c]
  | [] => replL_nil
  | c :: r => by
    rw [List.flatMap_cons]
    by_cases h : c = y
    · subst h
      rw [replL_hit (by simp) (by simp), if_pos rfl, ← repl_one c z r]
      rfl
    · rw [replL_miss (by simpa using h), if_neg h, repl_one y z r]
      rfl
theorem flat_flat (f g : Nat → List Nat) (l : List Nat) : (l.flatMap f).flatMap g = l.flatMap fun c => (f c).flatMap g := List.flatMap_assoc
theorem esc_chain (l : List Nat) : (((l.flatMap fun c => if c = 38 then [38, 97, 109, 112, 59] else [c]).flatMap fun c => if c = 60 then [38, 108, 116, 59] else [c]).flatMap fun c => if c = 62 then [38, 103, 116, 59] else [c]).flatMap (fun c => if c = 34 then [38, 113, 117, 111, 116, 59] else [c]) = escL l := by
  rw [flat_flat, flat_flat, flat_flat]
  unfold escL
  refine congrArg (fun f => List.flatMap f l) (funext fun c => ?_)
  unfold escC
  by_cases h1 : c = 38
  · subst h1
    rfl
  · rw [if_neg h1, if_neg h1]
    by_cases h2 : c = 60
    · subst h2
      rfl
    · rw [if_neg h2]
      by_cases h3 : c = 62
      · subst h3
        rfl
      · rw [if_neg h3]
        by_cases h4 : c = 34
        · subst h4
          rfl
        · rw [if_neg h4]
          simp [h2, h3, h4]
theorem repl_S (l y z : List Nat) (hy : 1 ≤ y.length) : Txt.replace (S l) (S y) (S z) = S (PySem.StrLaws.replL y z l) := by
  rw [S_of (Txt.replace (S l) (S y) (S z))]
  have := PySem.StrLaws.replace_list (x := S l) (y := S y) (z := S z) (by rw [S_len]; exact hy)
  rw [S_tl, S_tl, S_tl] at this
  rw [this]
end PG

/-! ### pages -/
namespace PG
open PySem PySem.Spec PyProof.Rows L2 My RM PM DM IM TR BM
def cs (s : String) : List Nat := s.toList.map Char.toNat
theorem lit (s : String) : Str.ofString s = S (cs s) := Str.ofString_eq_toList s
def decN (n : Nat) : List Nat := cs (toString (n : Int))
def attrP (name : String) (t : List Nat) : List Nat := cs " " ++ cs name ++ cs "=\"" ++ escL t ++ cs "\""
def titleP : Option (List Nat) → List Nat
  | none => []
  | some t => if t = [] then [] else attrP "title" t
mutual
def ip : Inl → List Nat
  | .text t => escL t
  | .code t => cs "<code>" ++ escL t ++ cs "</code>"
  | .html t => t
  | .soft => cs "\n"
  | .hard => cs "<br />\n"
  | .emph r => cs "<em>" ++ rp r ++ cs "</em>"
  | .strong r => cs "<strong>" ++ rp r ++ cs "</strong>"
  | .link d t r => cs "<a" ++ attrP "href" d ++ titleP t ++ cs ">" ++ rp r ++ cs "</a>"
  | .image d t r => cs "<img" ++ attrP "src" d ++ attrP "alt" (rowW r) ++ titleP t ++ cs " />"
def rp : List Inl → List Nat
  | [] => []
  | x :: r => ip x ++ rp r
end
theorem rp_app : ∀ a b : List Inl, rp (a ++ b) = rp a ++ rp b
  | [], b => rfl
  | x :: a, b => by
    show ip x ++ rp (a ++ b) = ip x ++ rp a ++ rp b
    rw [rp_app a b, List.append_assoc]
def whiB (c : Nat) : Bool := c == 32 || c == 9 || c == 10
def firstW (l : List Nat) : List Nat := l.takeWhile fun c => !whiB c
def langP : Option (List Nat) → List Nat
  | none => []
  | some i => if firstW i = [] then [] else attrP "class" (cs "language-" ++ firstW i)
def isDefn : Blk → Bool
  | .defn _ _ _ => true
  | _ => false
def isPar : Blk → Bool
  | .par _ => true
  | _ => false
def bareP : Blk → List Nat
  | .par r => rp r
  | _ => []
def openP : Option Nat → List Nat
  | none => cs "<ul>\n"
  | some n => if n = 1 then cs "<ol>\n" else cs "<ol" ++ attrP "start" (decN n) ++ cs ">\n"
def closeP : Option Nat → List Nat
  | none => cs "</ul>\n"
  | some _ => cs "</ol>\n"
def nlP (acc : List Nat) (b : Bool) : List Nat := if acc.getLast? = some 10 ∨ b = true then [] else [10]
mutual
def bp : Blk → List Nat
  | .quote bs => cs "<blockquote>\n" ++ bsP bs ++ cs "</blockquote>\n"
  | .list _ st t its => openP st ++ itsP t its ++ closeP st
  | .heading l r => cs "<h" ++ decN l ++ cs ">" ++ rp r ++ cs "</h" ++ decN l ++ cs ">\n"
  | .brk => cs "<hr />\n"
  | .code t i => cs "<pre><code" ++ langP i ++ cs ">" ++ escL t ++ cs "</code></pre>\n"
  | .html t => t
  | .defn _ _ _ => []
  | .par r => cs "<p>" ++ rp r ++ cs "</p>\n"
def bsP : List Blk → List Nat
  | [] => []
  | b :: bs => bp b ++ bsP bs
def itsP (t : Bool) : List (List Blk) → List Nat
  | [] => []
  | bs :: its => itemP t (cs "<li>") true bs ++ cs "</li>\n" ++ itsP t its
def itemP (t : Bool) (acc : List Nat) (first : Bool) : List Blk → List Nat
  | [] => acc
  | b :: bs => if isDefn b = true then itemP t acc first bs
    else itemP t (acc ++ nlP acc (t && isPar b && first) ++ (if (t && isPar b) = true then bareP b else bp b)) false bs
end
/-! parts -/
mutual
def pc : Inl → Nat
  | .emph r => 1 + pcR r
  | .strong r => 1 + pcR r
  | .link _ _ r => 1 + pcR r
  | .image _ _ r => 1 + pcR r
  | _ => 1
def pcR : List Inl → Nat
  | [] => 0
  | x :: r => pc x + pcR r
end
theorem pcR_app : ∀ a b : List Inl, pcR (a ++ b) = pcR a + pcR b
  | [], b => (Nat.zero_add _).symm
  | x :: a, b => by
    show pc x + pcR (a ++ b) = pc x + pcR a + pcR b
    rw [pcR_app a b, Nat.add_assoc]
mutual
def pB : Blk → Nat
  | .quote bs => 1 + pBs bs
  | .list _ _ _ its => 1 + pIts its
  | .heading _ r => 1 + pcR r
  | .par r => 1 + pcR r
  | _ => 1
def pBs : List Blk → Nat
  | [] => 0
  | b :: bs => pB b + pBs bs
def pIts : List (List Blk) → Nat
  | [] => 0
  | bs :: its => pBs bs + pIts its
end
def shortO (n : Nat) : Option (List Nat) → Bool
  | none => true
  | some t => decide (t.length ≤ n)
mutual
def sI : Inl → Bool
  | .text t => decide (t.length ≤ 20)
  | .code t => decide (t.length ≤ 20)
  | .html t => decide (t.length ≤ 20)
  | .soft => true
  | .hard => true
  | .emph r => sR r
  | .strong r => sR r
  | .link d t r => decide (d.length ≤ 200) && shortO 200 t && sR r
  | .image d t r => decide (d.length ≤ 200) && shortO 200 t && sR r
def sR : List Inl → Bool
  | [] => true
  | x :: r => sI x && sR r
end
def Infos7 : List (Option (List Nat)) := [none, some [], some (cs "x"), some (cs "x y"), some (cs " z"), some (cs "<\tq"), some (cs "a\nb")]
def tailsI : List (List Nat) := [cs " ", cs "\tq", cs "\n", cs " <r> s"]
def InfosL : List (Option (List Nat)) := Infos7 ++ ([[], cs "x", cs "<", cs "a"] : List (List Nat)).flatMap fun a => tailsI.map fun b => some (a ++ b)
def StartsL : List (Option Nat) := [none, some 0, some 1, some 2, some 7, some 999999999]
mutual
def sB : Blk → Bool
  | .quote bs => sBs bs
  | .list _ st _ its => decide (its.length ≤ 3) && StartsL.contains st && sIts its
  | .heading l r => decide (l < 7) && sR r
  | .brk => true
  | .code t i => decide (t.length ≤ 50) && InfosL.contains i
  | .html t => decide (t.length ≤ 50) && !t.isEmpty
  | .defn l d t => decide (l.length ≤ 50) && decide (d.length ≤ 200) && shortO 200 t
  | .par r => sR r
def sBs : List Blk → Bool
  | [] => true
  | b :: bs => sB b && sBs bs
def sIts : List (List Blk) → Bool
  | [] => true
  | bs :: its => sBs bs && sIts its
end
/-! how long a page is -/
theorem attr_len (name : String) (t : List Nat) : (attrP name t).length ≤ 4 + (cs name).length + 6 * t.length := by
  have h := escL_len t
  have e1 : (cs " ").length = 1 := by decide +kernel
  have e2 : (cs "=\"").length = 2 := by decide +kernel
  have e3 : (cs "\"").length = 1 := by decide +kernel
  unfold attrP
  simp only [List.length_append, e1, e2, e3]
  omega
theorem title_len {t : Option (List Nat)} (h : shortO 200 t = true) : (titleP t).length ≤ 1300 := by
  cases t with
  | none => exact Nat.zero_le _
  | some u =>
    have h' : u.length ≤ 200 := of_decide_eq_true h
    have := attr_len "title" u
    have e1 : (cs "title").length = 5 := by decide +kernel
    show (if u = [] then [] else attrP "title" u).length ≤ 1300
    split
    · exact Nat.zero_le _
    · omega
mutual
theorem words_len : ∀ x : Inl, sI x = true → x.words.length ≤ 20 * pc x
  | .text t, h => of_decide_eq_true h
  | .code t, h => of_decide_eq_true h
  | .html t, _ => Nat.zero_le _
  | .soft, _ => by decide
  | .hard, _ => by decide
  | .emph r, h => by
    have := rowW_len r h
    show (rowW r).length ≤ 20 * (1 + pcR r)
    omega
  | .strong r, h => by
    have := rowW_len r h
    show (rowW r).length ≤ 20 * (1 + pcR r)
    omega
  | .link d t r, h => by
    have h' : (decide (d.length ≤ 200) && shortO 200 t && sR r) = true := h
    rw [Bool.and_eq_true] at h'
    have := rowW_len r h'.2
    show (rowW r).length ≤ 20 * (1 + pcR r)
    omega
  | .image d t r, h => by
    have h' : (decide (d.length ≤ 200) && shortO 200 t && sR r) = true := h
    rw [Bool.and_eq_true] at h'
    have := rowW_len r h'.2
    show (rowW r).length ≤ 20 * (1 + pcR r)
    omega
theorem rowW_len : ∀ r : List Inl, sR r = true → (rowW r).length ≤ 20 * pcR r
  | [], _ => Nat.zero_le _
  | x :: r, h => by
    have h' : (sI x && sR r) = true := h
    rw [Bool.and_eq_true] at h'
    have h1 := words_len x h'.1
    have h2 := rowW_len r h'.2
    show (x.words ++ rowW r).length ≤ 20 * (pc x + pcR r)
    rw [List.length_append]
    omega
end
theorem cs_len : (cs "<code>").length = 6 ∧ (cs "</code>").length = 7 ∧ (cs "\n").length = 1 ∧ (cs "<br />\n").length = 7 ∧ (cs "<em>").length = 4 ∧ (cs "</em>").length = 5 ∧ (cs "<strong>").length = 8 ∧ (cs "</strong>").length = 9 ∧ (cs "<a").length = 2 ∧ (cs "href").length = 4 ∧ (cs ">").length = 1 ∧
    (cs "</a>").length = 4 ∧ (cs "<img").length = 4 ∧ (cs "src").length = 3 ∧ (cs "alt").length = 3 ∧ (cs " />").length = 3 := by decide +kernel
mutual
theorem ip_len : ∀ x : Inl, sI x = true → (ip x).length ≤ 3000 * pc x
  | .text t, h => by
    have h' : t.length ≤ 20 := of_decide_eq_true h
    have := escL_len t
    show (escL t).length ≤ 3000 * 1
    omega
  | .code t, h => by
    have h' : t.length ≤ 20 := of_decide_eq_true h
    have := escL_len t
    obtain ⟨c1, c2, _⟩ := cs_len
    show (cs "<code>" ++ escL t ++ cs "</code>").length ≤ 3000 * 1
    rw [List.length_append, List.length_append]
    omega
  | .html t, h => by
    have h' : t.length ≤ 20 := of_decide_eq_true h
    show t.length ≤ 3000 * 1
    omega
  | .soft, _ => by decide +kernel
  | .hard, _ => by decide +kernel
  | .emph r, h => by
    have := rp_len r h
    obtain ⟨_, _, _, _, c5, c6, _⟩ := cs_len
    show (cs "<em>" ++ rp r ++ cs "</em>").length ≤ 3000 * (1 + pcR r)
    rw [List.length_append, List.length_append]
    omega
  | .strong r, h => by
    have := rp_len r h
    obtain ⟨_, _, _, _, _, _, c7, c8, _⟩ := cs_len
    show (cs "<strong>" ++ rp r ++ cs "</strong>").length ≤ 3000 * (1 + pcR r)
    rw [List.length_append, List.length_append]
    omega
  | .link d t r, h => by
    have h' : (decide (d.length ≤ 200) && shortO 200 t && sR r) = true := h
    rw [Bool.and_eq_true, Bool.and_eq_true] at h'
    have h1 := rp_len r h'.2
    have h2 := title_len h'.1.2
    have h3 := attr_len "href" d
    have h4 : d.length ≤ 200 := of_decide_eq_true h'.1.1
    obtain ⟨_, _, _, _, _, _, _, _, c9, c10, c11, c12, _⟩ := cs_len
    show (cs "<a" ++ attrP "href" d ++ titleP t ++ cs ">" ++ rp r ++ cs "</a>").length ≤ 3000 * (1 + pcR r)
    simp only [List.length_append]
    omega
  | .image d t r, h => by
    have h' : (decide (d.length ≤ 200) && shortO 200 t && sR r) = true := h
    rw [Bool.and_eq_true, Bool.and_eq_true] at h'
    have h1 := rowW_len r h'.2
    have h2 := title_len h'.1.2
    have h3 := attr_len "src" d
    have h5 := attr_len "alt" (rowW r)
    have h4 : d.length ≤ 200 := of_decide_eq_true h'.1.1
    obtain ⟨_, _, _, _, _, _, _, _, _, _, _, _, c13, c14, c15, c16⟩ := cs_len
    show (cs "<img" ++ attrP "src" d ++ attrP "alt" (rowW r) ++ titleP t ++ cs " />").length ≤ 3000 * (1 + pcR r)
    simp only [List.length_append]
    omega
theorem rp_len : ∀ r : List Inl, sR r = true → (rp r).length ≤ 3000 * pcR r
  | [], _ => Nat.zero_le _
  | x :: r, h => by
    have h' : (sI x && sR r) = true := h
    rw [Bool.and_eq_true] at h'
    have h1 := ip_len x h'.1
    have h2 := rp_len r h'.2
    show (ip x ++ rp r).length ≤ 3000 * (pc x + pcR r)
    rw [List.length_append]
    omega
end
mutual
theorem rows_pc : ∀ x : Inl, x.rows + 1 ≤ 2 * pc x
  | .emph r => by have := rowN_pc r; show 1 + rowN r + 1 ≤ 2 * (1 + pcR r); omega
  | .strong r => by have := rowN_pc r; show 1 + rowN r + 1 ≤ 2 * (1 + pcR r); omega
  | .link _ _ r => by have := rowN_pc r; show 1 + rowN r + 1 ≤ 2 * (1 + pcR r); omega
  | .image _ _ r => by have := rowN_pc r; show 1 + rowN r + 1 ≤ 2 * (1 + pcR r); omega
  | .text _ => by show 0 + 1 ≤ 2 * 1; omega
  | .code _ => by show 0 + 1 ≤ 2 * 1; omega
  | .html _ => by show 0 + 1 ≤ 2 * 1; omega
  | .soft => by decide
  | .hard => by decide
theorem rowN_pc : ∀ r : List Inl, rowN r ≤ 2 * pcR r
  | [] => Nat.le_refl _
  | x :: r => by
    have h1 := rows_pc x
    have h2 := rowN_pc r
    show 1 + x.rows + rowN r ≤ 2 * (pc x + pcR r)
    omega
end
theorem start_len : ∀ st ∈ StartsL, (openP st).length + (closeP st).length ≤ 200 := by decide +kernel
theorem level_len : ∀ l < 7, (decN l).length ≤ 2 := by decide +kernel
theorem info_len : ∀ i ∈ InfosL, (langP i).length ≤ 100 := by decide +kernel
theorem cs_len2 : (cs "<blockquote>\n").length = 13 ∧ (cs "</blockquote>\n").length = 14 ∧ (cs "<h").length = 2 ∧ (cs "</h").length = 3 ∧ (cs ">\n").length = 2 ∧ (cs ">").length = 1 ∧ (cs "<pre><code").length = 10 ∧ (cs "</code></pre>\n").length = 14 ∧ (cs "<p>").length = 3 ∧ (cs "</p>\n").length = 5 ∧ (cs "<li>").length = 4 ∧ (cs "</li>\n").length = 6 := by decide +kernel
theorem bare_len (b : Blk) (h : sB b = true) : (bareP b).length ≤ (bp b).length := by
  cases b with
  | par r =>
    show (rp r).length ≤ (cs "<p>" ++ rp r ++ cs "</p>\n").length
    rw [List.length_append, List.length_append]
    omega
  | _ => exact Nat.zero_le _
theorem pB_pos (b : Blk) : 1 ≤ pB b := by cases b <;> (unfold pB; omega)
theorem nl_len (acc : List Nat) (b : Bool) : (nlP acc b).length ≤ 1 := by
  unfold nlP
  split
  · exact Nat.zero_le _
  · exact Nat.le_refl _
mutual
theorem bp_len : ∀ b : Blk, sB b = true → (bp b).length + 1 ≤ 3000 * pB b
  | .quote bs, h => by
    have := bsP_len bs h
    obtain ⟨c1, c2, _⟩ := cs_len2
    show (cs "<blockquote>\n" ++ bsP bs ++ cs "</blockquote>\n").length + 1 ≤ 3000 * (1 + pBs bs)
    rw [List.length_append, List.length_append]
    omega
  | .list g st t its, h => by
    have h' : (decide (its.length ≤ 3) && StartsL.contains st && sIts its) = true := h
    rw [Bool.and_eq_true, Bool.and_eq_true] at h'
    have h1 := itsP_len t its h'.2
    have h2 := start_len st (by simpa using h'.1.2)
    have h3 : its.length ≤ 3 := of_decide_eq_true h'.1.1
    show (openP st ++ itsP t its ++ closeP st).length + 1 ≤ 3000 * (1 + pIts its)
    rw [List.length_append, List.length_append]
    omega
  | .heading l r, h => by
    have h' : (decide (l < 7) && sR r) = true := h
    rw [Bool.and_eq_true] at h'
    have h1 := rp_len r h'.2
    have h2 := level_len l (of_decide_eq_true h'.1)
    obtain ⟨_, _, c3, c4, c5, c6, _⟩ := cs_len2
    show (cs "<h" ++ decN l ++ cs ">" ++ rp r ++ cs "</h" ++ decN l ++ cs ">\n").length + 1 ≤ 3000 * (1 + pcR r)
    simp only [List.length_append]
    omega
  | .brk, _ => by decide +kernel
  | .code t i, h => by
    have h' : (decide (t.length ≤ 50) && InfosL.contains i) = true := h
    rw [Bool.and_eq_true] at h'
    have h1 := info_len i (by simpa using h'.2)
    have h2 : t.length ≤ 50 := of_decide_eq_true h'.1
    have h3 := escL_len t
    obtain ⟨_, _, _, _, _, c6, c7, c8, _⟩ := cs_len2
    show (cs "<pre><code" ++ langP i ++ cs ">" ++ escL t ++ cs "</code></pre>\n").length + 1 ≤ 3000 * 1
    simp only [List.length_append]
    omega
  | .html t, h => by
    have h' : (decide (t.length ≤ 50) && !t.isEmpty) = true := h
    rw [Bool.and_eq_true] at h'
    have h2 : t.length ≤ 50 := of_decide_eq_true h'.1
    show t.length + 1 ≤ 3000 * 1
    omega
  | .defn _ _ _, _ => by show 0 + 1 ≤ 3000 * 1; omega
  | .par r, h => by
    have h1 := rp_len r h
    obtain ⟨_, _, _, _, _, _, _, _, c9, c10, _⟩ := cs_len2
    show (cs "<p>" ++ rp r ++ cs "</p>\n").length + 1 ≤ 3000 * (1 + pcR r)
    simp only [List.length_append]
    omega
theorem bsP_len : ∀ bs : List Blk, sBs bs = true → (bsP bs).length ≤ 3000 * pBs bs
  | [], _ => Nat.zero_le _
  | b :: bs, h => by
    have h' : (sB b && sBs bs) = true := h
    rw [Bool.and_eq_true] at h'
    have h1 := bp_len b h'.1
    have h2 := bsP_len bs h'.2
    show (bp b ++ bsP bs).length ≤ 3000 * (pB b + pBs bs)
    rw [List.length_append]
    omega
theorem itsP_len (t : Bool) : ∀ its : List (List Blk), sIts its = true → (itsP t its).length ≤ 10 * its.length + 3000 * pIts its
  | [], _ => Nat.zero_le _
  | bs :: its, h => by
    have h' : (sBs bs && sIts its) = true := h
    rw [Bool.and_eq_true] at h'
    have h1 := itemP_len t bs (cs "<li>") true h'.1
    have h2 := itsP_len t its h'.2
    obtain ⟨_, _, _, _, _, _, _, _, _, _, c11, c12⟩ := cs_len2
    show (itemP t (cs "<li>") true bs ++ cs "</li>\n" ++ itsP t its).length ≤ 10 * (its.length + 1) + 3000 * (pBs bs + pIts its)
    simp only [List.length_append]
    omega
theorem itemP_len (t : Bool) : ∀ (bs : List Blk) (acc : List Nat) (first : Bool), sBs bs = true → (itemP t acc first bs).length ≤ acc.length + 3000 * pBs bs
  | [], acc, first, _ => by show acc.length ≤ acc.length + 3000 * 0; omega
  | b :: bs, acc, first, h => by
    have h' : (sB b && sBs bs) = true := h
    rw [Bool.and_eq_true] at h'
    have h1 := bp_len b h'.1
    have h0 := bare_len b h'.1
    show (if isDefn b = true then itemP t acc first bs else itemP t (acc ++ nlP acc (t && isPar b && first) ++ (if (t && isPar b) = true then bareP b else bp b)) false bs).length ≤ acc.length + 3000 * (pB b + pBs bs)
    split
    · have := itemP_len t bs acc first h'.2
      omega
    · have h2 := itemP_len t bs (acc ++ nlP acc (t && isPar b && first) ++ (if (t && isPar b) = true then bareP b else bp b)) false h'.2
      have h3 := nl_len acc (t && isPar b && first)
      have h4 : (if (t && isPar b) = true then bareP b else bp b).length ≤ (bp b).length := by
        split
        · exact h0
        · exact Nat.le_refl _
      rw [List.length_append, List.length_append] at h2
      omega
end
/-! pages, row by row -/
theorem sR_mem : ∀ {r : List Inl} {x : Inl}, sR r = true → x ∈ r → sI x = true ∧ pc x ≤ pcR r
  | y :: r, x, h, hx => by
    have h' : (sI y && sR r) = true := h
    rw [Bool.and_eq_true] at h'
    show sI x = true ∧ pc x ≤ pc y + pcR r
    rcases List.mem_cons.mp hx with rfl | hx
    · exact ⟨h'.1, by omega⟩
    · have := sR_mem h'.2 hx
      exact ⟨this.1, by omega⟩
theorem sub_sR {x : Inl} {r : List Inl} (h : sI x = true) (hr : r ∈ x.sub) : sR r = true ∧ 1 + pcR r ≤ pc x := by
  cases x with
  | emph r1 => rw [List.mem_singleton.mp hr]; exact ⟨h, Nat.le_refl _⟩
  | strong r1 => rw [List.mem_singleton.mp hr]; exact ⟨h, Nat.le_refl _⟩
  | link d t r1 =>
    rw [List.mem_singleton.mp hr]
    have h' : (decide (d.length ≤ 200) && shortO 200 t && sR r1) = true := h
    rw [Bool.and_eq_true] at h'
    exact ⟨h'.2, Nat.le_refl _⟩
  | image d t r1 =>
    rw [List.mem_singleton.mp hr]
    have h' : (decide (d.length ≤ 200) && shortO 200 t && sR r1) = true := h
    rw [Bool.and_eq_true] at h'
    exact ⟨h'.2, Nat.le_refl _⟩
  | _ => cases hr
def pagesF : Fold where
  X := Inl
  toD := Inl.toD
  sub := Inl.sub
  N := fun r => 1 + rowN r
  hN := fun r => by rw [rowN_tot r]; omega
  Ok := fun r => sR r = true ∧ pcR r ≤ 900
  inh := fun row x r ho hx hr => by
    have h1 := sR_mem ho.1 hx
    have h2 := sub_sR h1.1 hr
    exact ⟨h2.1, by have := ho.2; omega⟩
  RR := fun _ v r => v = .str (S (rp r))
  mono := fun _ _ _ _ _ h => h
/-! blocks, row by row -/
def _root_.BM.Blk.sub : Blk → List (List Blk)
  | .quote bs => [bs]
  | .list _ _ _ its => its
  | _ => []
mutual
def nB : Blk → Nat
  | .quote bs => 1 + nBs bs
  | .list _ _ _ its => nIts its
  | _ => 0
def nBs : List Blk → Nat
  | [] => 0
  | b :: bs => 1 + nB b + nBs bs
def nIts : List (List Blk) → Nat
  | [] => 0
  | bs :: its => 1 + nBs bs + nIts its
end
theorem nIts_tot : ∀ its : List (List Blk), nIts its = tot (fun r => 1 + nBs r) its
  | [] => rfl
  | bs :: its => by
    show 1 + nBs bs + nIts its = 1 + nBs bs + tot (fun r => 1 + nBs r) its
    rw [nIts_tot its]
theorem nBs_tot : ∀ bs : List Blk, nBs bs = bs.length + tot (fun r => 1 + nBs r) (bs.flatMap Blk.sub)
  | [] => rfl
  | b :: bs => by
    have ih := nBs_tot bs
    rw [List.flatMap_cons, tot_app]
    have e : nB b = tot (fun r => 1 + nBs r) b.sub := by
      cases b with
      | list g st t its => exact nIts_tot its
      | _ => rfl
    show 1 + nB b + nBs bs = bs.length + 1 + _
    omega
mutual
theorem nB_le : ∀ b : Blk, sB b = true → nB b + 1 ≤ 5 * pB b
  | .quote bs, h => by have := nBs_le bs h; show 1 + nBs bs + 1 ≤ 5 * (1 + pBs bs); omega
  | .list g st t its, h => by
    have h' : (decide (its.length ≤ 3) && StartsL.contains st && sIts its) = true := h
    rw [Bool.and_eq_true, Bool.and_eq_true] at h'
    have h1 := nIts_le its h'.2
    have h2 : its.length ≤ 3 := of_decide_eq_true h'.1.1
    show nIts its + 1 ≤ 5 * (1 + pIts its)
    omega
  | .heading _ _, _ => by show 0 + 1 ≤ 5 * (1 + _); omega
  | .brk, _ => by decide
  | .code _ _, _ => by show 0 + 1 ≤ 5 * 1; omega
  | .html _, _ => by show 0 + 1 ≤ 5 * 1; omega
  | .defn _ _ _, _ => by show 0 + 1 ≤ 5 * 1; omega
  | .par _, _ => by show 0 + 1 ≤ 5 * (1 + _); omega
theorem nBs_le : ∀ bs : List Blk, sBs bs = true → nBs bs ≤ 5 * pBs bs
  | [], _ => Nat.le_refl _
  | b :: bs, h => by
    have h' : (sB b && sBs bs) = true := h
    rw [Bool.and_eq_true] at h'
    have h1 := nB_le b h'.1
    have h2 := nBs_le bs h'.2
    show 1 + nB b + nBs bs ≤ 5 * (pB b + pBs bs)
    omega
theorem nIts_le : ∀ its : List (List Blk), sIts its = true → nIts its ≤ its.length + 5 * pIts its
  | [], _ => Nat.le_refl _
  | bs :: its, h => by
    have h' : (sBs bs && sIts its) = true := h
    rw [Bool.and_eq_true] at h'
    have h1 := nBs_le bs h'.1
    have h2 := nIts_le its h'.2
    show 1 + nBs bs + nIts its ≤ its.length + 1 + 5 * (pBs bs + pIts its)
    omega
end
theorem sBs_mem : ∀ {bs : List Blk} {b : Blk}, sBs bs = true → b ∈ bs → sB b = true ∧ pB b ≤ pBs bs
  | c :: bs, b, h, hb => by
    have h' : (sB c && sBs bs) = true := h
    rw [Bool.and_eq_true] at h'
    show sB b = true ∧ pB b ≤ pB c + pBs bs
    rcases List.mem_cons.mp hb with rfl | hb
    · exact ⟨h'.1, by omega⟩
    · have := sBs_mem h'.2 hb
      exact ⟨this.1, by omega⟩
theorem sIts_mem : ∀ {its : List (List Blk)} {bs : List Blk}, sIts its = true → bs ∈ its → sBs bs = true ∧ pBs bs ≤ pIts its
  | cs :: its, bs, h, hb => by
    have h' : (sBs cs && sIts its) = true := h
    rw [Bool.and_eq_true] at h'
    show sBs bs = true ∧ pBs bs ≤ pBs cs + pIts its
    rcases List.mem_cons.mp hb with rfl | hb
    · exact ⟨h'.1, by omega⟩
    · have := sIts_mem h'.2 hb
      exact ⟨this.1, by omega⟩
theorem sub_sB {b : Blk} {r : List Blk} (h : sB b = true) (hr : r ∈ b.sub) : sBs r = true ∧ 1 + pBs r ≤ pB b := by
  cases b with
  | quote bs => rw [List.mem_singleton.mp hr]; exact ⟨h, Nat.le_refl _⟩
  | list g st t its =>
    have h' : (decide (its.length ≤ 3) && StartsL.contains st && sIts its) = true := h
    rw [Bool.and_eq_true] at h'
    have := sIts_mem h'.2 (show r ∈ its from hr)
    exact ⟨this.1, by show 1 + pBs r ≤ 1 + pIts its; omega⟩
  | _ => cases hr
def bareV : Blk → V
  | .par r => .str (S (rp r))
  | _ => .non
def PgIs (G : Hp) (w : V) (b : Blk) : Prop := ∃ q, w = .ref q ∧ G q = some (.tup [.str (S (bp b)), bareV b])
def blocksF : Fold where
  X := Blk
  toD := Blk.toD
  sub := Blk.sub
  N := fun r => 1 + nBs r
  hN := fun r => by rw [nBs_tot r]; omega
  Ok := fun r => sBs r = true ∧ pBs r ≤ 900
  inh := fun row x r ho hx hr => by
    have h1 := sBs_mem ho.1 hx
    have h2 := sub_sB h1.1 hr
    exact ⟨h2.1, by have := ho.2; omega⟩
  RR := fun G v row => ∃ p ws, v = .ref p ∧ G p = some (.lst ws) ∧ All2 (PgIs G) ws row
  mono := fun G G' v r s h => by
    obtain ⟨p, ws, e, h1, h2⟩ := h
    exact ⟨p, ws, e, s _ _ h1, h2.mono fun _ _ ⟨q, e, hq⟩ => ⟨q, e, s _ _ hq⟩⟩
/-- what is no definition has a page -/
theorem bp_ne {b : Blk} (h : sB b = true) : bp b = [] ↔ isDefn b = true := by
  have c1 : cs "<blockquote>\n" ≠ [] ∧ cs "<h" ≠ [] ∧ cs "<pre><code" ≠ [] ∧ cs "<p>" ≠ [] := by decide +kernel
  have c2 : ∀ st ∈ StartsL, openP st ≠ [] := by decide +kernel
  have ne : ∀ {x y : List Nat}, x ≠ [] → x ++ y = [] → False := fun h e => h (List.append_eq_nil_iff.mp e).1
  cases b with
  | quote bs =>
    refine ⟨fun e => (ne c1.1 (show cs "<blockquote>\n" ++ (bsP bs ++ cs "</blockquote>\n") = [] by rw [← List.append_assoc]; exact e)).elim, fun e => nomatch e⟩
  | list g st t its =>
    have h' : (decide (its.length ≤ 3) && StartsL.contains st && sIts its) = true := h
    rw [Bool.and_eq_true, Bool.and_eq_true] at h'
    refine ⟨fun e => (ne (c2 st (by simpa using h'.1.2)) (show openP st ++ (itsP t its ++ closeP st) = [] by rw [← List.append_assoc]; exact e)).elim, fun e => nomatch e⟩
  | heading l r =>
    refine ⟨fun e => (ne c1.2.1 (show cs "<h" ++ (decN l ++ cs ">" ++ rp r ++ cs "</h" ++ decN l ++ cs ">\n") = [] by simp only [← List.append_assoc]; exact e)).elim, fun e => nomatch e⟩
  | brk => exact ⟨fun e => absurd e (by decide +kernel), fun e => nomatch e⟩
  | code t i =>
    refine ⟨fun e => (ne c1.2.2.1 (show cs "<pre><code" ++ (langP i ++ cs ">" ++ escL t ++ cs "</code></pre>\n") = [] by simp only [← List.append_assoc]; exact e)).elim, fun e => nomatch e⟩
  | html t =>
    have h' : (decide (t.length ≤ 50) && !t.isEmpty) = true := h
    rw [Bool.and_eq_true] at h'
    refine ⟨fun e => ?_, fun e => nomatch e⟩
    have e' : t = [] := e
    rw [e'] at h'
    exact absurd h'.2 (by decide)
  | defn l d t => exact ⟨fun _ => rfl, fun _ => rfl⟩
  | par r =>
    refine ⟨fun e => (ne c1.2.2.2 (show cs "<p>" ++ (rp r ++ cs "</p>\n") = [] by simp only [← List.append_assoc]; exact e)).elim, fun e => nomatch e⟩
end PG

namespace My
open PySem PySem.Spec PyProof.Rows L2
/-- a well of draws that counts its parts -/
def WellC (c : Int) (H : Hp) (L : Addr) : Prop := ∃ x y : Int, H L = some (.lst [.int x, .int y, .int c])
theorem WellC.lst {c : Int} {H : Hp} {L : Addr} (h : WellC c H L) : ∃ xs, H L = some (.lst xs) := by
  obtain ⟨x, y, e⟩ := h
  exact ⟨_, e⟩
theorem WellC.same {c : Int} {H H' : Hp} {L : Addr} (h : WellC c H L) (s : Same H H') : WellC c H' L := by
  obtain ⟨x, y, e⟩ := h
  exact ⟨x, y, s _ _ e⟩
theorem WellC.new {c : Int} {H : Hp} {L p : Addr} {o : HO} (h : WellC c H L) (n : H p = none) : WellC c (upd H p o) L := h.same (same_new n)
theorem WellC.ne {c : Int} {H : Hp} {L p : Addr} (h : WellC c H L) (n : H p = none) : p ≠ L := by
  obtain ⟨x, y, e⟩ := h
  exact (ne_of_none e n).symm
theorem WellC.upd {c : Int} {H : Hp} {L p : Addr} {o : HO} (h : WellC c H L) (n : p ≠ L) : WellC c (upd H p o) L := by
  obtain ⟨x, y, e⟩ := h
  exact ⟨x, y, by rw [upd_ne n.symm]; exact e⟩
theorem asg_ifS {t : TT} {ta tb : TE} {g : TG} {u : TS} {D : Ends} {σ : L2.St} {H : Hp} (P : V → Hp → Prop) (R : Bool → Prop) (ht : AnsS t σ H R) (ha : ∀ H', Same H H' → R true → ValB ta σ H' P) (hb : ∀ H', Same H H' → R false → ValB tb σ H' P)
    (hq : ∀ v H', P v H' → g v σ H' (u D)) : tSeq (tAsg (tIf t ta tb) g) u D σ H := ht _ fun b H' s r => by
  cases b with
  | true => exact iteT (ha H' s r _ hq)
  | false => exact iteF (hb H' s r _ hq)
theorem asg_ifS_g {t : TT} {ta tb : TE} {g : TG} {u : TS} {D : Ends} {σ : L2.St} {H : Hp} {i : Nat} {x : V} (P : V → Hp → Prop) (R : Bool → Prop) (ht : AnsS t (σ.set i (some x)) H R) (ha : ∀ H', Same H H' → R true → ValB ta (σ.set i (some x)) H' P) (hb : ∀ H', Same H H' → R false → ValB tb (σ.set i (some x)) H' P)
    (hq : ∀ v H', P v H' → g v (σ.set i (some x)) H' (u D)) : gName i x σ H { D with nx := tSeq (tAsg (tIf t ta tb) g) u D }.nx := asg_ifS P R ht ha hb hq
end My
namespace PG
open PySem PySem.Spec PyProof.Rows L2 My RM PM DM IM TR BM
/-! no html within -/
mutual
def noI : Inl → Bool
  | .html _ => false
  | .emph r => noR r
  | .strong r => noR r
  | .link _ _ r => noR r
  | .image _ _ r => noR r
  | _ => true
def noR : List Inl → Bool
  | [] => true
  | x :: r => noI x && noR r
end
mutual
def noB : Blk → Bool
  | .quote bs => noBs bs
  | .list _ _ _ its => noIts its
  | .heading _ r => noR r
  | .html _ => false
  | .par r => noR r
  | _ => true
def noBs : List Blk → Bool
  | [] => true
  | b :: bs => noB b && noBs bs
def noIts : List (List Blk) → Bool
  | [] => true
  | bs :: its => noBs bs && noIts its
end
theorem noR_app : ∀ a b : List Inl, noR (a ++ b) = (noR a && noR b)
  | [], b => rfl
  | x :: a, b => by
    show (noI x && noR (a ++ b)) = (noI x && noR a && noR b)
    rw [noR_app a b, Bool.and_assoc]
theorem noBs_app : ∀ a b : List Blk, noBs (a ++ b) = (noBs a && noBs b)
  | [], b => rfl
  | x :: a, b => by
    show (noB x && noBs (a ++ b)) = (noB x && noBs a && noBs b)
    rw [noBs_app a b, Bool.and_assoc]
theorem noIts_app : ∀ a b : List (List Blk), noIts (a ++ b) = (noIts a && noIts b)
  | [], b => rfl
  | x :: a, b => by
    show (noBs x && noIts (a ++ b)) = (noBs x && noIts a && noIts b)
    rw [noIts_app a b, Bool.and_assoc]
theorem sR_app : ∀ a b : List Inl, sR (a ++ b) = (sR a && sR b)
  | [], b => rfl
  | x :: a, b => by
    show (sI x && sR (a ++ b)) = (sI x && sR a && sR b)
    rw [sR_app a b, Bool.and_assoc]
theorem sBs_app : ∀ a b : List Blk, sBs (a ++ b) = (sBs a && sBs b)
  | [], b => rfl
  | x :: a, b => by
    show (sB x && sBs (a ++ b)) = (sB x && sBs a && sBs b)
    rw [sBs_app a b, Bool.and_assoc]
theorem sIts_app : ∀ a b : List (List Blk), sIts (a ++ b) = (sIts a && sIts b)
  | [], b => rfl
  | x :: a, b => by
    show (sBs x && sIts (a ++ b)) = (sBs x && sIts a && sIts b)
    rw [sIts_app a b, Bool.and_assoc]
theorem pBs_app : ∀ a b : List Blk, pBs (a ++ b) = pBs a + pBs b
  | [], b => (Nat.zero_add _).symm
  | x :: a, b => by
    show pB x + pBs (a ++ b) = pB x + pBs a + pBs b
    rw [pBs_app a b, Nat.add_assoc]
theorem pIts_app : ∀ a b : List (List Blk), pIts (a ++ b) = pIts a + pIts b
  | [], b => (Nat.zero_add _).symm
  | x :: a, b => by
    show pBs x + pIts (a ++ b) = pBs x + pIts a + pIts b
    rw [pIts_app a b, Nat.add_assoc]
theorem bsP_app : ∀ a b : List Blk, bsP (a ++ b) = bsP a ++ bsP b
  | [], b => rfl
  | x :: a, b => by
    show bp x ++ bsP (a ++ b) = bp x ++ bsP a ++ bsP b
    rw [bsP_app a b, List.append_assoc]
theorem hR_app : ∀ a b : List Inl, hR (a ++ b) = max (hR a) (hR b)
  | [], b => by show hR b = max 0 _; omega
  | x :: a, b => by
    show max (hI x) (hR (a ++ b)) = max (max (hI x) (hR a)) (hR b)
    rw [hR_app a b]
    omega
/-- whether a text is last -/
def lastT : Bool → List Inl → Bool
  | p, [] => p
  | _, x :: r => lastT (isT x) r
theorem lastT_snoc (x : Inl) : ∀ (r : List Inl) (p : Bool), lastT p (r ++ [x]) = isT x
  | [], _ => rfl
  | y :: r, p => lastT_snoc x r (isT y)
theorem gR_more (k : Bool) (x : Inl) : ∀ (r : List Inl) (p : Bool), gR k p (r ++ [x]) = (gR k p r && (gI k x && !(lastT p r && isT x)))
  | [], p => by
    show (gI k x && !(p && isT x) && true) = (true && (gI k x && !(p && isT x)))
    rw [Bool.and_true, Bool.true_and]
  | y :: r, p => by
    show (gI k y && !(p && isT y) && gR k (isT y) (r ++ [x])) = (gI k y && !(p && isT y) && gR k (isT y) r && (gI k x && !(lastT (isT y) r && isT x)))
    rw [gR_more k x r (isT y)]
    simp only [Bool.and_assoc]
theorem pcR_one (x : Inl) : pcR [x] = pc x := Nat.add_zero _
theorem pc_pos (x : Inl) : 1 ≤ pc x := by cases x <;> (unfold pc; omega)
theorem len_pcR : ∀ r : List Inl, r.length ≤ pcR r
  | [] => Nat.le_refl _
  | x :: r => by
    have h1 := pc_pos x
    have h2 := len_pcR r
    show r.length + 1 ≤ pc x + pcR r
    omega
theorem len_pBs : ∀ bs : List Blk, bs.length ≤ pBs bs
  | [] => Nat.le_refl _
  | x :: r => by
    have h1 := pB_pos x
    have h2 := len_pBs r
    show r.length + 1 ≤ pB x + pBs r
    omega
theorem inV_mem {g : Str} {l : List V} (h : inV (.str g) l = true) : V.str g ∈ l := by
  obtain ⟨y, hy, e⟩ := List.any_eq_true.mp h
  cases y with
  | str z =>
    have e' : (z == g) = true := e
    rw [← eq_of_beq e']
    exact hy
  | _ => cases e
end PG

namespace My
open PySem PySem.Spec PyProof.Rows L2
section
variable {X : Cx} {o e : Expr} {to te : TE}
/-- a text's method of one argument, where the text wants a token -/
theorem pet_m1 {id : String} {name : Str} {apos pos : Pos} {r : V → List V → Hp → VK → Prop} (slot : Slot "str" name id) (ty : typeOf (.builtin id) = pure (.type "method_descriptor")) (rule : MtR X id r) (ho : PET X o to) (he : PE X e te)
    (hs : starEach [e] X.env = [(false, eval e X.env)] := by rfl) (hbase : attributeBase o name X.env (eval o X.env) = eval o X.env := by rfl) (hline : (apos.endLine == pos.line) = true := by rfl) :
    PET X (.Call (.Attribute o name apos) [e] [] pos) (tM1 r to te) := fun pins s σ H Q h0 I h => by
  refine PySem.Call_method1 hbase hs hline (thn (ho pins s σ H _ h0 I h) fun v s1 ⟨x, H1, I1, r1, q1⟩ => ?_)
  obtain ⟨⟨a, rfl⟩, q1⟩ := q1
  obtain ⟨t, rfl⟩ := _root_.id r1
  refine ⟨"str", _, F.plainAttrs_str, slot, ty, typeIs_str _ _ _, (fun _ e => nomatch e), Calls.callWith_builtin rfl (Calls.evalArgs_plain (Calls.spliced_cons ?_))⟩
  exact thn (he.run pins s1 σ H1 _ I1 q1) fun u s2 ⟨y, H2, I2, r2, q2⟩ => Calls.spliced_nil (rule pins s2 σ H2 _ [y] _ [u] Q I2 r1 (.cons r2 .nil) q2)
/-- a part of what wants a token -/
theorem pet_slice {lo hi : Option Expr} {p2 pos : Pos} {r : V → Option Int → Option Int → Hp → VK → Prop} {tl th : TO} (hr : SlR X r) (he : PET X e te) (hl : PO X lo tl) (hu : PO X hi th) : PET X (.Subscript e (.Slice lo hi none p2) pos) (tSl r te tl th) := fun pins s σ H Q h0 I h => by
  refine Subscript_ (thn (he pins s σ H _ h0 I h) fun v s1 ⟨x, H1, I1, r1, q1⟩ => ?_)
  refine wpAny_Slice (thn (hl.run pins s1 σ H1 _ I1 q1) fun vl s2 ⟨l, H2, I2, pl, q2⟩ => thn (hu.run pins s2 σ H2 _ I2 q2) fun vu s3 ⟨u, H3, I3, pu, q3⟩ => ?_)
  rw [evalPart_none]
  refine wpAny_pure ?_
  have I4 : Inv X pins σ H3 { s3 with heap := s3.heap.push { cls := .type "slice", data := .fields #[vl, vu, .none] } } := I3.kept (t' := s3.toks) fun b ob q => Heap.get?_push_of_some _ q
  obtain ⟨T, id, hT, ht, hg⟩ := hr pins { s3 with heap := s3.heap.push { cls := .type "slice", data := .fields #[vl, vu, .none] } } σ H3 x v vl vu l u s3.heap.objs.size Q I4 r1 (Heap.IsSliceOf.new ..) pl pu q3
  exact tail_any (ops := [.ref s3.heap.objs.size, v]) ht hT hg (by with_unfolding_all rfl)
/-- a written text's method, whose argument wants a token -/
theorem pe_m1C {id : String} {name c : Str} {j : Nat} {cp apos pos : Pos} {r : V → List V → Hp → VK → Prop} (slot : Slot "str" name id) (ty : typeOf (.builtin id) = pure (.type "method_descriptor")) (rule : MtR X id r) (he : PET X e te)
    (hs : starEach [e] X.env = [(false, eval e X.env)] := by rfl) (hbase : attributeBase (.Constant (.str c) j cp) name X.env (eval (.Constant (.str c) j cp) X.env) = eval (.Constant (.str c) j cp) X.env := by rfl) (hline : (apos.endLine == pos.line) = true := by rfl) :
    PE X (.Call (.Attribute (.Constant (.str c) j cp) name apos) [e] [] pos) (tM1 r (tC (.str c)) te) := by
  refine ⟨fun pins s σ H Q I h => ?_⟩
  refine PySem.Call_method1 hbase hs hline (Calls.Constant_str ?_)
  obtain ⟨_, q1⟩ := h
  refine ⟨"str", _, F.plainAttrs_str, slot, ty, typeIs_str _ _ _, (fun _ e => nomatch e), Calls.callWith_builtin rfl (Calls.evalArgs_plain (Calls.spliced_cons ?_))⟩
  exact thn (he pins { s with toks := s.toks + 1 } σ H _ (by show 1 ≤ s.toks + 1; omega) (I.tok _) q1) fun u s2 ⟨y, H2, I2, r2, q2⟩ => Calls.spliced_nil (rule pins s2 σ H2 (.str c) [y] _ [u] Q I2 ⟨_, rfl⟩ (.cons r2 .nil) q2)
theorem pe_joinC {c : Str} {j : Nat} {cp apos pos : Pos} (he : PET X e te) (hs : starEach [e] X.env = [(false, eval e X.env)] := by rfl) (hbase : attributeBase (.Constant (.str c) j cp) "join" X.env (eval (.Constant (.str c) j cp) X.env) = eval (.Constant (.str c) j cp) X.env := by rfl) (hline : (apos.endLine == pos.line) = true := by rfl) :
    PE X (.Call (.Attribute (.Constant (.str c) j cp) "join" apos) [e] [] pos) (tM1 (fun x xs H Q => ∃ a p, ∃ ys : List Str, x = .str a ∧ xs = [.ref p] ∧ (SqL X.K H p (ys.map V.str) ∨ SqT X.K H p (ys.map V.str)) ∧
      (ys.map (·.length)).sum + ys.length * a.length ≤ 16777216 ∧ Q (.str (Txt.join a ys)) H) (tC (.str c)) te) := pe_m1C F.slot_str_join F.type_str_join mt_join he hs hbase hline
end
end My

/-! ### texts cut at a sign; tags that close in their order -/
namespace CL
open PySem PySem.Spec PyProof.Rows L2 My RM PM DM IM TR BM PG
def pcs (c : Nat) : List Nat → List (List Nat)
  | [] => [[]]
  | x :: r => if x = c then [] :: pcs c r else match pcs c r with
    | [] => [[x]]
    | p :: ps => (x :: p) :: ps
theorem pcs_hit (c : Nat) (r : List Nat) : pcs c (c :: r) = [] :: pcs c r := by
  show (if c = c then _ else _) = _
  rw [if_pos rfl]
theorem pcs_ne (c : Nat) : ∀ t, pcs c t ≠ []
  | [] => by simp [pcs]
  | x :: r => by
    unfold pcs
    split
    · simp
    · split <;> simp
theorem pcs_miss {c x : Nat} {r p : List Nat} {ps : List (List Nat)} (h : x ≠ c) (e : pcs c r = p :: ps) : pcs c (x :: r) = (x :: p) :: ps := by
  show (if x = c then _ else _) = _
  rw [if_neg h, e]
theorem pcs_no (c : Nat) : ∀ t, ∀ p ∈ pcs c t, c ∉ p
  | [], p, h => by
    rw [List.mem_singleton.mp h]
    exact List.not_mem_nil
  | x :: r, p, h => by
    by_cases hx : x = c
    · subst hx
      rw [pcs_hit] at h
      rcases List.mem_cons.mp h with rfl | h
      · exact List.not_mem_nil
      · exact pcs_no x r p h
    · cases e : pcs c r with
      | nil => exact absurd e (pcs_ne c r)
      | cons q ps =>
        rw [pcs_miss hx e] at h
        have ih := pcs_no c r
        rw [e] at ih
        rcases List.mem_cons.mp h with rfl | h
        · intro hm
          rcases List.mem_cons.mp hm with hm | hm
          · exact hx hm.symm
          · exact ih q (List.mem_cons_self ..) hm
        · exact ih p (List.mem_cons_of_mem _ h)
theorem join_two (c : Nat) (a : List Nat) {ps : List (List Nat)} (h : ps ≠ []) : TL.joinL [c] (a :: ps) = a ++ c :: TL.joinL [c] ps := by
  cases ps with
  | nil => exact absurd rfl h
  | cons b r =>
    simp [TL.joinL]
theorem pcs_join (c : Nat) : ∀ t, TL.joinL [c] (pcs c t) = t
  | [] => rfl
  | x :: r => by
    have ih := pcs_join c r
    by_cases hx : x = c
    · subst hx
      rw [pcs_hit, join_two _ _ (pcs_ne x r), ih]
      rfl
    · cases e : pcs c r with
      | nil => exact absurd e (pcs_ne c r)
      | cons q ps =>
        rw [pcs_miss hx e]
        rw [e] at ih
        cases ps with
        | nil => exact congrArg (x :: ·) ih
        | cons q2 qs =>
          rw [join_two _ _ (by simp)] at ih ⊢
          rw [← ih]
          rfl
theorem join_Sc (c : Nat) (parts : List (List Nat)) : Txt.join (S [c]) (parts.map S) = S (TL.joinL [c] parts) := by
  rw [TL.join_eq]
  have e := TL.tl_join (S [c]) (parts.map S)
  have e2 : (parts.map S).map TL.tl = parts := by
    rw [List.map_map]
    conv => rhs; rw [← List.map_id parts]
    exact List.map_congr_left fun l _ => S_tl l
  rw [e2] at e
  have e3 : TL.tl (S [c]) = [c] := S_tl _
  rw [e3] at e
  rw [S_of (Str.join (S [c]) (parts.map S))]
  exact congrArg S e
theorem split_c {c : Nat} (hc : c < 256) (t : List Nat) : Txt.split (S t) (S [c]) = (pcs c t).map S := by
  have e : S t = Txt.join (S [c]) ((pcs c t).map S) := by rw [join_Sc, pcs_join]
  rw [e]
  refine TL.split_join (s := c) (S := []) (S_tl _) (by simpa [S] using hc) (fun e => pcs_ne c t (List.map_eq_nil_iff.mp e)) fun p h => ?_
  obtain ⟨q, hq, rfl⟩ := List.mem_map.mp h
  show c ∉ (S q).cps.toList
  rw [S_tl]
  exact pcs_no c t q hq
theorem pcs_len (c : Nat) : ∀ t, ∀ p ∈ pcs c t, p.length ≤ t.length
  | [], p, h => by
    rw [List.mem_singleton.mp h]
    exact Nat.le_refl _
  | x :: r, p, h => by
    by_cases hx : x = c
    · subst hx
      rw [pcs_hit] at h
      rcases List.mem_cons.mp h with rfl | h
      · exact Nat.zero_le _
      · exact Nat.le_succ_of_le (pcs_len x r p h)
    · cases e : pcs c r with
      | nil => exact absurd e (pcs_ne c r)
      | cons q ps =>
        rw [pcs_miss hx e] at h
        have ih := pcs_len c r
        rw [e] at ih
        rcases List.mem_cons.mp h with rfl | h
        · exact Nat.succ_le_succ (ih q (List.mem_cons_self ..))
        · exact Nat.le_succ_of_le (ih p (List.mem_cons_of_mem _ h))
theorem pcs_none {c : Nat} : ∀ {t : List Nat}, c ∉ t → pcs c t = [t]
  | [], _ => rfl
  | x :: r, h => pcs_miss (fun e => h (by rw [e]; exact List.mem_cons_self ..)) (pcs_none fun hm => h (List.mem_cons_of_mem _ hm))
theorem pcs_cut {c : Nat} {b : List Nat} : ∀ {a : List Nat}, c ∉ a → pcs c (a ++ c :: b) = a :: pcs c b
  | [], _ => pcs_hit c b
  | x :: r, h => pcs_miss (fun e => h (by rw [e]; exact List.mem_cons_self ..)) (pcs_cut fun hm => h (List.mem_cons_of_mem _ hm))
theorem pcs_more {c : Nat} {b p : List Nat} {ps : List (List Nat)} (e : pcs c b = p :: ps) : ∀ {a : List Nat}, c ∉ a → pcs c (a ++ b) = (a ++ p) :: ps
  | [], _ => e
  | x :: r, h => pcs_miss (fun e => h (by rw [e]; exact List.mem_cons_self ..)) (pcs_more e fun hm => h (List.mem_cons_of_mem _ hm))
/-- a tag's name -/
def nameL (g : List Nat) : List Nat := g.takeWhile (· != 32)
theorem name_len : ∀ g : List Nat, (nameL g).length ≤ g.length
  | [] => Nat.le_refl _
  | x :: r => by
    have ih := name_len r
    show ((x :: r).takeWhile (· != 32)).length ≤ r.length + 1
    rw [List.takeWhile_cons]
    split
    · exact Nat.succ_le_succ ih
    · exact Nat.zero_le _
theorem name_head (g : List Nat) : ∃ ps, pcs 32 g = nameL g :: ps := by
  induction g with
  | nil => exact ⟨[], rfl⟩
  | cons x r ih =>
    obtain ⟨ps, e⟩ := ih
    unfold nameL at e ⊢
    by_cases hx : x = 32
    · subst hx
      exact ⟨_, pcs_hit 32 r⟩
    · rw [List.takeWhile_cons, show (x != 32) = true by simpa using hx]
      exact ⟨_, pcs_miss hx e⟩
/-! tags and what stands between them -/
inductive Tk where
  | txt (x : List Nat)
  | tag (g : List Nat)
def plain (x : List Nat) : Bool := x.all fun c => c != 60 && c != 62
def okT : List Tk → Bool
  | [] => true
  | .txt x :: r => plain x && okT r
  | .tag g :: r => plain g && okT r
def ren : List Tk → List Nat
  | [] => []
  | .txt x :: r => x ++ ren r
  | .tag g :: r => 60 :: (g ++ 62 :: ren r)
def voidL : List (List Nat) := [cs "br", cs "hr", cs "img"]
def pairL : List (List Nat) := [cs "h1", cs "h2", cs "h3", cs "h4", cs "h5", cs "h6", cs "p", cs "blockquote", cs "ul", cs "ol", cs "li", cs "pre", cs "code", cs "em", cs "strong", cs "a"]
def stepG (st : List (List Nat)) (g : List Nat) : Option (List (List Nat)) :=
  if nameL g ∈ voidL then (if g.drop (g.length - 2) = [32, 47] then some st else none)
  else if (nameL g).take 1 = [47] then (if st.getLast? = some ((nameL g).drop 1) ∧ g = nameL g then some st.dropLast else none)
  else if nameL g ∈ pairL then some (st ++ [nameL g]) else none
def runT : List (List Nat) → List Tk → Option (List (List Nat))
  | st, [] => some st
  | st, .txt _ :: r => runT st r
  | st, .tag g :: r => match stepG st g with
    | none => none
    | some s => runT s r
def lead : List Tk → List Nat
  | [] => []
  | .txt x :: r => x ++ lead r
  | .tag _ :: _ => []
def prs : List Tk → List (List Nat × List Nat)
  | [] => []
  | .txt _ :: r => prs r
  | .tag g :: r => (g, lead r) :: prs r
def runG : List (List Nat) → List (List Nat × List Nat) → Option (List (List Nat))
  | st, [] => some st
  | st, p :: r => match stepG st p.1 with
    | none => none
    | some s => runG s r
theorem run_prs : ∀ (ts : List Tk) (st : List (List Nat)), runG st (prs ts) = runT st ts
  | [], _ => rfl
  | .txt _ :: r, st => run_prs r st
  | .tag g :: r, st => by
    show (match stepG st g with | none => none | some s => runG s (prs r)) = (match stepG st g with | none => none | some s => runT s r)
    cases stepG st g with
    | none => rfl
    | some s => exact run_prs r s
theorem plain_no {x : List Nat} (h : plain x = true) : 60 ∉ x ∧ 62 ∉ x := by
  unfold plain at h
  constructor
  · intro hm
    have := List.all_eq_true.mp h _ hm
    exact absurd this (by decide)
  · intro hm
    have := List.all_eq_true.mp h _ hm
    exact absurd this (by decide)
theorem plain_app (a b : List Nat) : plain (a ++ b) = (plain a && plain b) := List.all_append
theorem lead_plain : ∀ {ts : List Tk}, okT ts = true → plain (lead ts) = true
  | [], _ => rfl
  | .txt x :: r, h => by
    have h' : (plain x && okT r) = true := h
    rw [Bool.and_eq_true] at h'
    show plain (x ++ lead r) = true
    rw [plain_app, h'.1, lead_plain h'.2]
    rfl
  | .tag _ :: _, _ => rfl
theorem prs_plain : ∀ {ts : List Tk}, okT ts = true → ∀ p ∈ prs ts, plain p.1 = true ∧ plain p.2 = true
  | [], _, p, hp => by cases hp
  | .txt x :: r, h, p, hp => by
    have h' : (plain x && okT r) = true := h
    rw [Bool.and_eq_true] at h'
    exact prs_plain h'.2 p hp
  | .tag g :: r, h, p, hp => by
    have h' : (plain g && okT r) = true := h
    rw [Bool.and_eq_true] at h'
    rcases List.mem_cons.mp hp with rfl | hp
    · exact ⟨h'.1, lead_plain h'.2⟩
    · exact prs_plain h'.2 p hp
theorem pcs_ren : ∀ {ts : List Tk}, okT ts = true → pcs 60 (ren ts) = lead ts :: (prs ts).map fun p => p.1 ++ 62 :: p.2
  | [], _ => rfl
  | .txt x :: r, h => by
    have h' : (plain x && okT r) = true := h
    rw [Bool.and_eq_true] at h'
    exact pcs_more (pcs_ren h'.2) (plain_no h'.1).1
  | .tag g :: r, h => by
    have h' : (plain g && okT r) = true := h
    rw [Bool.and_eq_true] at h'
    show pcs 60 (60 :: (g ++ 62 :: ren r)) = [] :: ((g ++ 62 :: lead r) :: (prs r).map _)
    rw [pcs_hit]
    have e : g ++ 62 :: ren r = (g ++ [62]) ++ ren r := by simp
    have e2 : g ++ 62 :: lead r = (g ++ [62]) ++ lead r := by simp
    rw [e, e2]
    refine congrArg _ (pcs_more (pcs_ren h'.2) ?_)
    intro hm
    rcases List.mem_append.mp hm with hm | hm
    · exact (plain_no h'.1).1 hm
    · exact absurd (List.mem_singleton.mp hm) (by decide)
theorem prs_len {ts : List Tk} (o : okT ts = true) {p : List Nat × List Nat} (h : p ∈ prs ts) : p.1.length + p.2.length + 1 ≤ (ren ts).length := by
  have e := pcs_ren o
  have := pcs_len 60 (ren ts) (p.1 ++ 62 :: p.2) (by rw [e]; exact List.mem_cons_of_mem _ (List.mem_map.mpr ⟨p, h, rfl⟩))
  rw [List.length_append, List.length_cons] at this
  omega
theorem okT_app : ∀ a b : List Tk, okT (a ++ b) = (okT a && okT b)
  | [], b => rfl
  | .txt x :: a, b => by
    show (plain x && okT (a ++ b)) = (plain x && okT a && okT b)
    rw [okT_app a b, Bool.and_assoc]
  | .tag g :: a, b => by
    show (plain g && okT (a ++ b)) = (plain g && okT a && okT b)
    rw [okT_app a b, Bool.and_assoc]
theorem ren_app : ∀ a b : List Tk, ren (a ++ b) = ren a ++ ren b
  | [], b => rfl
  | .txt x :: a, b => by
    show x ++ ren (a ++ b) = x ++ ren a ++ ren b
    rw [ren_app a b, List.append_assoc]
  | .tag g :: a, b => by
    show 60 :: (g ++ 62 :: ren (a ++ b)) = 60 :: (g ++ 62 :: ren a) ++ ren b
    rw [ren_app a b]
    simp
theorem runT_app : ∀ (a b : List Tk) (st s : List (List Nat)), runT st a = some s → runT st (a ++ b) = runT s b
  | [], b, st, s, h => by cases h; rfl
  | .txt x :: a, b, st, s, h => runT_app a b st s h
  | .tag g :: a, b, st, s, h => by
    have h' : (match stepG st g with | none => none | some s => runT s a) = some s := h
    show (match stepG st g with | none => none | some s => runT s (a ++ b)) = runT s b
    cases e : stepG st g with
    | none => rw [e] at h'; cases h'
    | some s1 =>
      rw [e] at h'
      exact runT_app a b s1 s h'
/-- each tag that opens closes, in its order -/
def Bal (t : List Nat) : Prop := ∃ ts, ren ts = t ∧ okT ts = true ∧ ∀ st, runT st ts = some st
theorem Bal.nil : Bal [] := ⟨[], rfl, rfl, fun _ => rfl⟩
theorem Bal.txt {x : List Nat} (h : plain x = true) : Bal x := ⟨[.txt x], List.append_nil _, by show (plain x && true) = true; rw [h]; rfl, fun _ => rfl⟩
theorem Bal.app {a b : List Nat} (h : Bal a) (g : Bal b) : Bal (a ++ b) := by
  obtain ⟨ts, e1, o1, r1⟩ := h
  obtain ⟨us, e2, o2, r2⟩ := g
  refine ⟨ts ++ us, by rw [ren_app, e1, e2], by rw [okT_app, o1, o2]; rfl, fun st => ?_⟩
  rw [runT_app _ _ st st (r1 st)]
  exact r2 st
theorem Bal.void {g : List Nat} (h : plain g = true) (n : nameL g ∈ voidL) (e : g.drop (g.length - 2) = [32, 47]) : Bal (60 :: (g ++ [62])) := by
  refine ⟨[.tag g], rfl, by show (plain g && true) = true; rw [h]; rfl, fun st => ?_⟩
  show (match stepG st g with | none => none | some s => some s) = some st
  unfold stepG
  rw [if_pos n, if_pos e]
theorem closeN {n : List Nat} (h : n ∈ pairL) : plain (47 :: n) = true ∧ nameL (47 :: n) = 47 :: n := (by decide +kernel : ∀ n ∈ pairL, plain (47 :: n) = true ∧ nameL (47 :: n) = 47 :: n) n h
theorem openN {n : List Nat} (h : n ∈ pairL) : n ∉ voidL ∧ n.take 1 ≠ [47] ∧ (47 :: n) ∉ voidL := (by decide +kernel : ∀ n ∈ pairL, n ∉ voidL ∧ n.take 1 ≠ [47] ∧ (47 :: n) ∉ voidL) n h
theorem Bal.wrap {g t n : List Nat} (ht : Bal t) (h : plain g = true) (en : nameL g = n) (hn : n ∈ pairL) : Bal (60 :: (g ++ [62]) ++ t ++ 60 :: (47 :: n ++ [62])) := by
  obtain ⟨ts, e1, o1, r1⟩ := ht
  obtain ⟨c1, c2⟩ := closeN hn
  obtain ⟨n1, n2, n3⟩ := openN hn
  refine ⟨.tag g :: (ts ++ [.tag (47 :: n)]), ?_, ?_, fun st => ?_⟩
  · show 60 :: (g ++ 62 :: ren (ts ++ [.tag (47 :: n)])) = _
    rw [ren_app, e1]
    show 60 :: (g ++ 62 :: (t ++ 60 :: (47 :: n ++ 62 :: []))) = _
    simp
  · show (plain g && okT (ts ++ [.tag (47 :: n)])) = true
    rw [h, okT_app, o1]
    show (true && (true && (plain (47 :: n) && true))) = true
    rw [c1]
    rfl
  · have s1 : stepG st g = some (st ++ [n]) := by
      unfold stepG
      rw [en, if_neg n1, if_neg n2, if_pos hn]
    show (match stepG st g with | none => none | some s => runT s (ts ++ [.tag (47 :: n)])) = some st
    rw [s1]
    show runT (st ++ [n]) (ts ++ [.tag (47 :: n)]) = some st
    rw [runT_app _ _ _ _ (r1 (st ++ [n]))]
    show (match stepG (st ++ [n]) (47 :: n) with | none => none | some s => some s) = some st
    have s2 : stepG (st ++ [n]) (47 :: n) = some st := by
      unfold stepG
      rw [c2, if_neg n3, if_pos (show List.take 1 (47 :: n) = [47] from rfl), if_pos ⟨by simp, rfl⟩]
      simp
    rw [s2]
/-! pages are so -/
theorem esc_plain (t : List Nat) : plain (escL t) = true := by
  unfold escL
  induction t with
  | nil => rfl
  | cons c r ih =>
    rw [List.flatMap_cons, plain_app, ih, Bool.and_true]
    unfold escC
    split
    · rfl
    split
    · rfl
    split
    · rfl
    split
    · rfl
    · rename_i h1 h2 h3 h4
      show ((c != 60 && c != 62) && true) = true
      simp [h2, h3]
theorem attr_plain {nm : String} (h : plain (cs nm) = true) (t : List Nat) : plain (attrP nm t) = true := by
  unfold attrP
  simp only [plain_app]
  rw [h, esc_plain]
  decide +kernel
theorem title_plain (t : Option (List Nat)) : plain (titleP t) = true := by
  cases t with
  | none => rfl
  | some t =>
    show plain (if t = [] then [] else attrP "title" t) = true
    split
    · rfl
    · exact attr_plain (by decide +kernel) t
theorem name_attr {n : List Nat} (h : 32 ∉ n) (nm : String) (t r : List Nat) : nameL (n ++ (attrP nm t ++ r)) = n := by
  unfold nameL attrP
  have e : cs " " = [32] := by decide +kernel
  rw [e]
  simp only [List.append_assoc]
  rw [List.takeWhile_append_of_pos fun c hc => by
    have : c ≠ 32 := fun e => h (by rw [← e]; exact hc)
    simpa using this]
  simp
theorem bal_em {t : List Nat} (h : Bal t) {n : List Nat} (hn : n ∈ pairL) : Bal (60 :: (n ++ [62]) ++ t ++ 60 :: (47 :: n ++ [62])) := h.wrap ((by decide +kernel : ∀ n ∈ pairL, plain n = true) n hn) ((by decide +kernel : ∀ n ∈ pairL, nameL n = n) n hn) hn
theorem bal_of {a b t n : List Nat} (h : Bal t) (hn : n ∈ pairL) (ea : a = 60 :: (n ++ [62])) (eb : b = 60 :: (47 :: n ++ [62])) : Bal (a ++ t ++ b) := by
  rw [ea, eb]
  exact bal_em h hn
theorem bal_nl : Bal [10] := .txt rfl
mutual
theorem bal_I : ∀ x : Inl, noI x = true → Bal (ip x)
  | .text t, _ => .txt (esc_plain t)
  | .code t, _ => bal_of (n := cs "code") (.txt (esc_plain t)) (by decide +kernel) (by decide +kernel) (by decide +kernel)
  | .html _, h => nomatch h
  | .soft, _ => .txt (by decide +kernel)
  | .hard, _ => by
    show Bal (cs "<br />\n")
    rw [show cs "<br />\n" = (60 :: (cs "br /" ++ [62])) ++ [10] by decide +kernel]
    exact (Bal.void (by decide +kernel) (by decide +kernel) (by decide +kernel)).app bal_nl
  | .emph r, h => bal_of (n := cs "em") (bal_R r h) (by decide +kernel) (by decide +kernel) (by decide +kernel)
  | .strong r, h => bal_of (n := cs "strong") (bal_R r h) (by decide +kernel) (by decide +kernel) (by decide +kernel)
  | .link d t r, h => by
    show Bal (cs "<a" ++ attrP "href" d ++ titleP t ++ cs ">" ++ rp r ++ cs "</a>")
    have e : cs "<a" ++ attrP "href" d ++ titleP t ++ cs ">" ++ rp r ++ cs "</a>" = 60 :: ((cs "a" ++ (attrP "href" d ++ titleP t)) ++ [62]) ++ rp r ++ 60 :: (47 :: cs "a" ++ [62]) := by
      rw [show cs "<a" = 60 :: cs "a" by decide +kernel, show cs ">" = [62] by decide +kernel, show cs "</a>" = 60 :: (47 :: cs "a" ++ [62]) by decide +kernel]
      simp only [List.append_assoc, List.cons_append]
    rw [e]
    exact (bal_R r h).wrap (by rw [plain_app, plain_app, attr_plain (by decide +kernel), title_plain]; decide +kernel) (name_attr (by decide +kernel) "href" d _) (by decide +kernel)
  | .image d t r, h => by
    show Bal (cs "<img" ++ attrP "src" d ++ attrP "alt" (rowW r) ++ titleP t ++ cs " />")
    have e : cs "<img" ++ attrP "src" d ++ attrP "alt" (rowW r) ++ titleP t ++ cs " />" = 60 :: ((cs "img" ++ (attrP "src" d ++ (attrP "alt" (rowW r) ++ titleP t ++ [32, 47]))) ++ [62]) := by
      rw [show cs "<img" = 60 :: cs "img" by decide +kernel, show cs " />" = [32, 47] ++ [62] by decide +kernel]
      simp only [List.append_assoc, List.cons_append]
    rw [e]
    refine Bal.void ?_ (by rw [name_attr (by decide +kernel)]; decide +kernel) ?_
    · rw [plain_app, plain_app, plain_app, plain_app, attr_plain (by decide +kernel), attr_plain (by decide +kernel), title_plain]
      decide +kernel
    · have e2 : cs "img" ++ (attrP "src" d ++ (attrP "alt" (rowW r) ++ titleP t ++ [32, 47])) = (cs "img" ++ attrP "src" d ++ attrP "alt" (rowW r) ++ titleP t) ++ [32, 47] := by simp only [List.append_assoc]
      rw [e2, List.length_append]
      show List.drop (_ + 2 - 2) _ = _
      rw [Nat.add_sub_cancel, List.drop_left]
theorem bal_R : ∀ r : List Inl, noR r = true → Bal (rp r)
  | [], _ => .nil
  | x :: r, h => by
    have h' : (noI x && noR r) = true := h
    rw [Bool.and_eq_true] at h'
    exact (bal_I x h'.1).app (bal_R r h'.2)
end
theorem head_of : ∀ l : Nat, 1 ≤ l → l ≤ 6 → cs "<h" ++ decN l ++ cs ">" = 60 :: ((cs "h" ++ decN l) ++ [62]) ∧ cs "</h" ++ decN l ++ cs ">\n" = 60 :: (47 :: (cs "h" ++ decN l) ++ [62]) ++ [10] ∧ (cs "h" ++ decN l) ∈ pairL := by
  intro l h1 h2
  have : ∀ l ∈ [1, 2, 3, 4, 5, 6], cs "<h" ++ decN l ++ cs ">" = 60 :: ((cs "h" ++ decN l) ++ [62]) ∧ cs "</h" ++ decN l ++ cs ">\n" = 60 :: (47 :: (cs "h" ++ decN l) ++ [62]) ++ [10] ∧ (cs "h" ++ decN l) ∈ pairL := by decide +kernel
  exact this l (by simp; omega)
theorem lang_of : ∀ i ∈ InfosL, plain (langP i) = true ∧ nameL (cs "code" ++ langP i) = cs "code" := by decide +kernel
theorem open_of2 : ∀ st ∈ StartsL, ∃ g n, openP st = 60 :: (g ++ [62]) ++ [10] ∧ closeP st = 60 :: (47 :: n ++ [62]) ++ [10] ∧ plain g = true ∧ nameL g = n ∧ n ∈ pairL := by
  intro st hst
  unfold StartsL at hst
  simp only [List.mem_cons, List.not_mem_nil, or_false] at hst
  rcases hst with rfl | rfl | rfl | rfl | rfl | rfl
  · exact ⟨cs "ul", cs "ul", by decide +kernel⟩
  · exact ⟨cs "ol" ++ attrP "start" (decN 0), cs "ol", by decide +kernel⟩
  · exact ⟨cs "ol", cs "ol", by decide +kernel⟩
  · exact ⟨cs "ol" ++ attrP "start" (decN 2), cs "ol", by decide +kernel⟩
  · exact ⟨cs "ol" ++ attrP "start" (decN 7), cs "ol", by decide +kernel⟩
  · exact ⟨cs "ol" ++ attrP "start" (decN 999999999), cs "ol", by decide +kernel⟩
theorem bal_bare (b : Blk) (h : noB b = true) : Bal (bareP b) := by
  cases b with
  | par r => exact bal_R r h
  | _ => exact .nil
theorem bal_nlP (acc : List Nat) (b : Bool) : Bal (nlP acc b) := by
  unfold nlP
  split
  · exact .nil
  · exact bal_nl
theorem tail_nl {a : List Nat} (h : Bal a) : Bal (a ++ [10]) := h.app bal_nl
mutual
theorem bal_B : ∀ b : Blk, noB b = true → gB b = true → sB b = true → Bal (bp b)
  | .quote bs, h, g, s => by
    show Bal (cs "<blockquote>\n" ++ bsP bs ++ cs "</blockquote>\n")
    have e : cs "<blockquote>\n" ++ bsP bs ++ cs "</blockquote>\n" = (60 :: (cs "blockquote" ++ [62]) ++ ([10] ++ bsP bs) ++ 60 :: (47 :: cs "blockquote" ++ [62])) ++ [10] := by
      rw [show cs "<blockquote>\n" = 60 :: (cs "blockquote" ++ [62]) ++ [10] by decide +kernel, show cs "</blockquote>\n" = 60 :: (47 :: cs "blockquote" ++ [62]) ++ [10] by decide +kernel]
      simp only [List.append_assoc, List.cons_append]
    rw [e]
    exact tail_nl (bal_em (bal_nl.app (bal_Bs bs h g s)) (by decide +kernel))
  | .list gg st t its, h, g, s => by
    have g' : (fitStart gg (optI st) && !its.isEmpty && gIts its) = true := g
    have s' : (decide (its.length ≤ 3) && StartsL.contains st && sIts its) = true := s
    simp only [Bool.and_eq_true] at g' s'
    obtain ⟨gt, n, e1, e2, e3, e4, e5⟩ := open_of2 st (by simpa using s'.1.2)
    show Bal (openP st ++ itsP t its ++ closeP st)
    have e : openP st ++ itsP t its ++ closeP st = (60 :: (gt ++ [62]) ++ ([10] ++ itsP t its) ++ 60 :: (47 :: n ++ [62])) ++ [10] := by
      rw [e1, e2]
      simp only [List.append_assoc, List.cons_append]
    rw [e]
    exact tail_nl ((bal_nl.app (bal_Its t its h g'.2 s'.2)).wrap e3 e4 e5)
  | .heading l r, h, g, s => by
    have g' : (decide (1 ≤ l) && decide (l ≤ 6) && gR false false r) = true := g
    simp only [Bool.and_eq_true, decide_eq_true_eq] at g'
    obtain ⟨e1, e2, e3⟩ := head_of l g'.1.1 g'.1.2
    show Bal (cs "<h" ++ decN l ++ cs ">" ++ rp r ++ cs "</h" ++ decN l ++ cs ">\n")
    have e : cs "<h" ++ decN l ++ cs ">" ++ rp r ++ cs "</h" ++ decN l ++ cs ">\n" = (60 :: ((cs "h" ++ decN l) ++ [62]) ++ rp r ++ 60 :: (47 :: (cs "h" ++ decN l) ++ [62])) ++ [10] := by
      have : cs "<h" ++ decN l ++ cs ">" ++ rp r ++ cs "</h" ++ decN l ++ cs ">\n" = (cs "<h" ++ decN l ++ cs ">") ++ rp r ++ (cs "</h" ++ decN l ++ cs ">\n") := by simp only [List.append_assoc]
      rw [this, e1, e2]
      simp only [List.append_assoc, List.cons_append]
    rw [e]
    exact tail_nl (bal_em (bal_R r h) e3)
  | .brk, _, _, _ => by
    show Bal (cs "<hr />\n")
    rw [show cs "<hr />\n" = (60 :: (cs "hr /" ++ [62])) ++ [10] by decide +kernel]
    exact (Bal.void (by decide +kernel) (by decide +kernel) (by decide +kernel)).app bal_nl
  | .code t i, _, _, s => by
    have s' : (decide (t.length ≤ 50) && InfosL.contains i) = true := s
    rw [Bool.and_eq_true] at s'
    obtain ⟨l1, l2⟩ := lang_of i (by simpa using s'.2)
    show Bal (cs "<pre><code" ++ langP i ++ cs ">" ++ escL t ++ cs "</code></pre>\n")
    have e : cs "<pre><code" ++ langP i ++ cs ">" ++ escL t ++ cs "</code></pre>\n" = (60 :: (cs "pre" ++ [62]) ++ (60 :: ((cs "code" ++ langP i) ++ [62]) ++ escL t ++ 60 :: (47 :: cs "code" ++ [62])) ++ 60 :: (47 :: cs "pre" ++ [62])) ++ [10] := by
      rw [show cs "<pre><code" = 60 :: (cs "pre" ++ [62]) ++ 60 :: cs "code" by decide +kernel, show cs ">" = [62] by decide +kernel, show cs "</code></pre>\n" = 60 :: (47 :: cs "code" ++ [62]) ++ (60 :: (47 :: cs "pre" ++ [62])) ++ [10] by decide +kernel]
      simp only [List.append_assoc, List.cons_append]
    rw [e]
    exact tail_nl (bal_em ((Bal.txt (esc_plain t)).wrap (by rw [plain_app, l1]; decide +kernel) l2 (by decide +kernel)) (by decide +kernel))
  | .html _, h, _, _ => nomatch h
  | .defn _ _ _, _, _, _ => .nil
  | .par r, h, _, _ => by
    show Bal (cs "<p>" ++ rp r ++ cs "</p>\n")
    have e : cs "<p>" ++ rp r ++ cs "</p>\n" = (60 :: (cs "p" ++ [62]) ++ rp r ++ 60 :: (47 :: cs "p" ++ [62])) ++ [10] := by
      rw [show cs "<p>" = 60 :: (cs "p" ++ [62]) by decide +kernel, show cs "</p>\n" = 60 :: (47 :: cs "p" ++ [62]) ++ [10] by decide +kernel]
      simp only [List.append_assoc, List.cons_append]
    rw [e]
    exact tail_nl (bal_em (bal_R r h) (by decide +kernel))
theorem bal_Bs : ∀ bs : List Blk, noBs bs = true → gBs bs = true → sBs bs = true → Bal (bsP bs)
  | [], _, _, _ => .nil
  | b :: bs, h, g, s => by
    have h' : (noB b && noBs bs) = true := h
    have g' : (gB b && gBs bs) = true := g
    have s' : (sB b && sBs bs) = true := s
    rw [Bool.and_eq_true] at h' g' s'
    exact (bal_B b h'.1 g'.1 s'.1).app (bal_Bs bs h'.2 g'.2 s'.2)
theorem bal_Its (t : Bool) : ∀ its : List (List Blk), noIts its = true → gIts its = true → sIts its = true → Bal (itsP t its)
  | [], _, _, _ => .nil
  | bs :: its, h, g, s => by
    have h' : (noBs bs && noIts its) = true := h
    have g' : (gBs bs && gIts its) = true := g
    have s' : (sBs bs && sIts its) = true := s
    rw [Bool.and_eq_true] at h' g' s'
    show Bal (itemP t (cs "<li>") true bs ++ cs "</li>\n" ++ itsP t its)
    refine Bal.app ?_ (bal_Its t its h'.2 g'.2 s'.2)
    obtain ⟨x, e, bx⟩ := bal_item t bs (cs "<li>") true h'.1 g'.1 s'.1
    rw [e]
    have e2 : cs "<li>" ++ x ++ cs "</li>\n" = (60 :: (cs "li" ++ [62]) ++ x ++ 60 :: (47 :: cs "li" ++ [62])) ++ [10] := by
      rw [show cs "<li>" = 60 :: (cs "li" ++ [62]) by decide +kernel, show cs "</li>\n" = 60 :: (47 :: cs "li" ++ [62]) ++ [10] by decide +kernel]
      simp only [List.append_assoc, List.cons_append]
    rw [e2]
    exact tail_nl (bal_em bx (by decide +kernel))
theorem bal_item (t : Bool) : ∀ (bs : List Blk) (acc : List Nat) (first : Bool), noBs bs = true → gBs bs = true → sBs bs = true → ∃ x, itemP t acc first bs = acc ++ x ∧ Bal x
  | [], acc, _, _, _, _ => ⟨[], (List.append_nil _).symm, .nil⟩
  | b :: bs, acc, first, h, g, s => by
    have h' : (noB b && noBs bs) = true := h
    have g' : (gB b && gBs bs) = true := g
    have s' : (sB b && sBs bs) = true := s
    rw [Bool.and_eq_true] at h' g' s'
    show ∃ x, (if isDefn b = true then itemP t acc first bs else itemP t (acc ++ nlP acc (t && isPar b && first) ++ (if (t && isPar b) = true then bareP b else bp b)) false bs) = acc ++ x ∧ Bal x
    split
    · exact bal_item t bs acc first h'.2 g'.2 s'.2
    · obtain ⟨x, e, bx⟩ := bal_item t bs (acc ++ nlP acc (t && isPar b && first) ++ (if (t && isPar b) = true then bareP b else bp b)) false h'.2 g'.2 s'.2
      refine ⟨nlP acc (t && isPar b && first) ++ (if (t && isPar b) = true then bareP b else bp b) ++ x, by rw [e]; simp only [List.append_assoc], ?_⟩
      refine ((bal_nlP _ _).app ?_).app bx
      split
      · exact bal_bare b h'.1
      · exact bal_B b h'.1 g'.1 s'.1
end
theorem runG_cut : ∀ (a b : List (List Nat × List Nat)) (st z : List (List Nat)), runG st (a ++ b) = some z → ∃ s, runG st a = some s ∧ runG s b = some z
  | [], b, st, z, h => ⟨st, rfl, h⟩
  | p :: a, b, st, z, h => by
    have h' : (match stepG st p.1 with | none => none | some s => runG s (a ++ b)) = some z := h
    cases e : stepG st p.1 with
    | none => rw [e] at h'; cases h'
    | some s1 =>
      rw [e] at h'
      obtain ⟨s, h1, h2⟩ := runG_cut a b s1 z h'
      refine ⟨s, ?_, h2⟩
      show (match stepG st p.1 with | none => none | some s => runG s a) = some s
      rw [e]
      exact h1
theorem runG_step {ps : List (List Nat × List Nat)} {i : Nat} {p : List Nat × List Nat} {st z : List (List Nat)} (h : runG [] ps = some z) (hp : ps[i]? = some p) (hs : runG [] (ps.take i) = some st) : ∃ s, stepG st p.1 = some s ∧ runG [] (ps.take (i + 1)) = some s := by
  have e : ps = ps.take (i + 1) ++ ps.drop (i + 1) := (List.take_append_drop _ _).symm
  rw [e] at h
  obtain ⟨s, h1, _⟩ := runG_cut _ _ _ _ h
  have e2 : ps.take (i + 1) = ps.take i ++ [p] := by rw [List.take_add_one, hp]; rfl
  refine ⟨s, ?_, h1⟩
  rw [e2] at h1
  obtain ⟨s1, h3, h4⟩ := runG_cut _ _ _ _ h1
  rw [hs] at h3
  cases h3
  have h5 : (match stepG st p.1 with | none => none | some s => some s) = some s := h4
  cases e3 : stepG st p.1 with
  | none => rw [e3] at h5; cases h5
  | some s1 => rw [e3] at h5; exact h5
theorem cutV_last {r : List V} {x : V} : cutV (r ++ [x]) (some (-1)) none = [x] := by
  unfold cutV
  rw [HT.sIx_none]
  have e : HT.sIx (r ++ [x]).length 0 (some (-1)) = r.length := by
    show (if (-1 : Int) < 0 then ((-1 : Int) + ((r ++ [x]).length : Int)).toNat else min (-1 : Int).toNat (r ++ [x]).length) = r.length
    rw [if_pos (by decide), List.length_append, List.length_singleton]
    omega
  rw [e, List.drop_left]
  simp
theorem cutV_tail {x : V} {r : List V} : cutV (x :: r) (some 1) none = r := by
  show cutV (x :: r) (some ((1 : Nat) : Int)) none = r
  unfold cutV
  rw [HT.sIx_none, HT.sIx_nat]
  have : min 1 (x :: r).length = 1 := Nat.min_eq_left (by simp)
  rw [this]
  simp
theorem S_take (l : List Nat) (k : Nat) : cutS (S l) none (some (k : Int)) = S (l.take k) := by
  unfold cutS
  rw [HT.sIx_none, HT.sIx_nat, S_len, S_tl]
  show S _ = S _
  congr 1
  rw [List.drop_zero, Nat.sub_zero]
  by_cases h : k ≤ l.length
  · rw [Nat.min_eq_left h]
  · rw [Nat.min_eq_right (by omega), List.take_length, List.take_of_length_le (by omega)]
theorem inV_S (n : List Nat) (ls : List (List Nat)) : inV (.str (S n)) (ls.map fun l => V.str (S l)) = decide (n ∈ ls) := by
  unfold inV
  rw [List.any_map]
  by_cases h : n ∈ ls
  · rw [decide_eq_true h, List.any_eq_true]
    exact ⟨n, h, by show (S n == S n) = true; simp⟩
  · rw [decide_eq_false h, List.any_eq_false]
    intro x hx e
    have e' : (S x == S n) = true := e
    exact h (by rw [← S_inj (eq_of_beq e')]; exact hx)
theorem flat_S (ls : List (List Nat)) : (ls.map fun l => V.str (S l)).all flatV = true := by
  rw [List.all_map, List.all_eq_true]
  intro x _
  rfl
theorem stepG_in {st s : List (List Nat)} {g : List Nat} (h : stepG st g = some s) (hs : ∀ n ∈ st, n ∈ pairL) : (∀ n ∈ s, n ∈ pairL) ∧ s.length ≤ st.length + 1 := by
  unfold stepG at h
  split at h
  · split at h
    · cases h
      exact ⟨hs, Nat.le_succ _⟩
    · cases h
  split at h
  · split at h
    · cases h
      exact ⟨fun n hn => hs n ((List.dropLast_sublist _).subset hn), by rw [List.length_dropLast]; omega⟩
    · cases h
  split at h
  · rename_i hp
    cases h
    refine ⟨fun n hn => ?_, by rw [List.length_append, List.length_singleton]; exact Nat.le_refl _⟩
    rcases List.mem_append.mp hn with hn | hn
    · exact hs n hn
    · rw [List.mem_singleton.mp hn]
      exact hp
  · cases h
theorem prs_many : ∀ ts : List Tk, (prs ts).length ≤ (ren ts).length
  | [] => Nat.le_refl _
  | .txt x :: r => by
    have := prs_many r
    show (prs r).length ≤ (x ++ ren r).length
    rw [List.length_append]
    omega
  | .tag g :: r => by
    have := prs_many r
    show (prs r).length + 1 ≤ (60 :: (g ++ 62 :: ren r)).length
    rw [List.length_cons, List.length_append, List.length_cons]
    omega
theorem pair_ok : ∀ n ∈ pairL, PyData.strOk (S n) = true := by decide +kernel
open PySem.Builtin.Str PySem.StrLaws in
theorem splitMax_one {g x : List Nat} (hg : 62 ∉ g) : Txt.splitMax (S (g ++ 62 :: x)) (S [62]) 1 = [S g, S x] := by
  have hl : (S (g ++ 62 :: x)).length = g.length + 1 + x.length := by
    rw [S_len, List.length_append, List.length_cons]
    omega
  have h1 : (S [62]).length = 1 := S_len _
  have k1 : Builtin.Str.strKind (S [62]) = 1 := by decide +kernel
  have k2 : ¬ Builtin.Str.strKind (S (g ++ 62 :: x)) < Builtin.Str.strKind (S [62]) := by
    rw [k1]
    unfold Builtin.Str.strKind
    split
    · decide
    split <;> decide
  have hs : ∀ k, subAt (S (g ++ 62 :: x)) (S [62]) k = decide ((g ++ 62 :: x)[k]? = some 62) := fun k => by
    rw [sub_S]
    cases e : (g ++ 62 :: x)[k]? with
    | none =>
      rw [List.drop_eq_nil_iff.mpr (List.getElem?_eq_none_iff.mp e)]
      decide
    | some c =>
      have hk := (List.getElem?_eq_some_iff.mp e).1
      have e2 := (List.getElem?_eq_some_iff.mp e).2
      rw [List.drop_eq_getElem_cons hk, e2]
      show ([c] == [62]) = decide (some c = some 62)
      by_cases hc : c = 62
      · subst hc
        decide
      · rw [decide_eq_false fun h => hc (Option.some.inj h)]
        simpa using hc
  have hat : At (S (g ++ 62 :: x)) (S [62]) (S (g ++ 62 :: x)).length g.length := ⟨by rw [hl, h1]; omega, by
    rw [hs, decide_eq_true]
    rw [List.getElem?_append_right (Nat.le_refl _), Nat.sub_self]
    rfl⟩
  have hno : ∀ k, k < g.length → ¬ At (S (g ++ 62 :: x)) (S [62]) (S (g ++ 62 :: x)).length k := fun k hk ⟨_, h⟩ => by
    rw [hs] at h
    have h := of_decide_eq_true h
    rw [List.getElem?_append_left hk] at h
    exact hg (List.mem_of_getElem? h)
  have ho : occurrences (S (g ++ 62 :: x)) (S [62]) 0 (S (g ++ 62 :: x)).length 1 = [g.length] := by
    rcases occ_head (S (g ++ 62 :: x)) (S [62]) 1 (Nat.le_refl _) with ⟨_, h⟩ | ⟨i, r, e, hi, hb⟩
    · exact absurd hat (h g.length)
    · have hl1 := occ_length_le (S (g ++ 62 :: x)) (S [62]) 0 (S (g ++ 62 :: x)).length 1
      rw [e, List.length_cons] at hl1
      have hr : r = [] := List.length_eq_zero_iff.mp (by omega)
      have h2 : i = g.length := by
        rcases Nat.lt_trichotomy i g.length with h | h | h
        · exact absurd hi (hno i h)
        · exact h
        · exact absurd hat (hb g.length h)
      rw [e, hr, h2]
  unfold Txt.splitMax
  have hlim : limitOf (S (g ++ 62 :: x)) 1 = 1 := by
    unfold limitOf
    rw [if_neg (by decide)]
    rfl
  rw [hlim, ho, decide_eq_false (by rw [hl, h1]; omega), decide_eq_false k2]
  rw [if_neg (by decide), if_neg (by simp)]
  unfold partsBetween strSub
  rw [hl, h1]
  show [(⟨(S (g ++ 62 :: x)).cps.extract 0 g.length⟩ : Str), ⟨(S (g ++ 62 :: x)).cps.extract (g.length + 1) (g.length + 1 + x.length)⟩] = _
  have e1 : (S (g ++ 62 :: x)).cps.extract 0 g.length = (S g).cps := by
    refine Array.toList_inj.mp ?_
    simp [S]
  have e2 : (S (g ++ 62 :: x)).cps.extract (g.length + 1) (g.length + 1 + x.length) = (S x).cps := by
    refine Array.toList_inj.mp ?_
    simp [S]
  rw [e1, e2]
end CL

/-! ### texts of data whatever guards stand -/
namespace My
open PySem PySem.Spec PyProof.Rows
open Sem (wp)
def lstF (self : Value) : Code × Pos → Bool := fun
  | (.builtin "list.__repr__.loop" ⟨v :: _, _⟩, _) => Builtin.List.listSameRef v self
  | _ => false
theorem lstF_off (self : Value) (c : Code) (p : Pos) (hc : c.isGuard = false) : lstF self (c, p) = false := by
  unfold lstF
  split
  · next v rest kw _ heq => cases heq; simp [Code.isGuard, guardIds] at hc
  · rfl
theorem lstF_pos (self : Value) (c : Code) (p : Pos) : lstF self (c, p) = lstF self (c, default) := by
  unfold lstF
  split
  · next v rest kw _ heq => cases heq; rfl
  · next h =>
    split
    · next v rest kw _ heq =>
      cases heq
      exact absurd rfl (h _ _ _ p)
    · rfl
section
variable {prog : Program} {w : World}
/-- a value's text, a function of the guards alone -/
def ReprG (prog : Program) (w : World) (h₀ : Heap) (d : Nat) (x : Value) (r : List Code → Str) : Prop :=
  ∀ (base : Nat) (A : Around) (g : List Code) (E : Value → Shared → Prop) (s : Shared) (Q : Str → Shared → Prop), base + (r g).length ≤ sizeLine → A.guards = some g → A.units + d < cLine → (∀ b o, h₀.get? b = some o → s.heap.get? b = some o) →
    (∀ h' tk, (∀ b o, s.heap.get? b = some o → h'.get? b = some o) → Q (r g) { s with heap := h', toks := tk }) → wpAny (model prog w) A (pyReprUnder base x) Q E s
theorem ReprG.of_is {x : Value} {t : Str} (h : ReprIs prog w x t) (h₀ : Heap) (d : Nat) : ReprG prog w h₀ d x fun _ => t :=
  fun base A _ E s Q hb _ _ _ hQ => h base hb A E s Q fun tk => hQ s.heap tk fun _ _ e => e
inductive AllG (prog : Program) (w : World) (h₀ : Heap) (d : Nat) : List Value → List (List Code → Str) → Prop
  | nil : AllG prog w h₀ d [] []
  | cons {x : Value} {r : List Code → Str} {l : List Value} {rs : List (List Code → Str)} : ReprG prog w h₀ d x r → AllG prog w h₀ d l rs → AllG prog w h₀ d (x :: l) (r :: rs)
theorem AllG.len {h₀ : Heap} {d : Nat} : ∀ {l : List Value} {rs : List (List Code → Str)}, AllG prog w h₀ d l rs → rs.length = l.length
  | _, _, .nil => rfl
  | _, _, .cons _ h => by rw [List.length_cons, List.length_cons, h.len]
theorem tupFoldG {A : Around} {E : Value → Shared → Prop} {h₀ : Heap} {d : Nat} {g : List Code} (hg : A.guards = some g) (hu : A.units + d < cLine) : ∀ (l : List Value) (rs : List (List Code → Str)) (acc : Array Str) (n : Nat) (s : Shared) (Q : (Array Str × Nat) → Shared → Prop), AllG prog w h₀ d l rs → n + piled (rs.map fun r => r g) ≤ sizeLine →
    (∀ b o, h₀.get? b = some o → s.heap.get? b = some o) → (∀ h' tk, (∀ b o, s.heap.get? b = some o → h'.get? b = some o) → Q ⟨acc ++ (rs.map fun r => r g).toArray, n + piled (rs.map fun r => r g)⟩ { s with heap := h', toks := tk }) →
    wpAny (model prog w) A (forIn l (⟨acc, n⟩ : (Array Str × Nat)) tupBody) Q E s := by
  intro l
  induction l with
  | nil =>
    intro rs acc n s Q hT _ _ h
    cases hT
    have h0 := h s.heap s.toks fun _ _ e => e
    rw [List.forIn_nil]
    exact wpAny_pure (by simpa [piled] using h0)
  | cons x l ih =>
    intro rs acc n s Q hT hn hk0 h
    cases hT with
    | cons hx hl =>
      rename_i r rs
      rw [List.map_cons, piled_cons] at hn
      rw [List.forIn_cons]
      refine wpAny_bind (wpAny_bind (hx (n + 1) _ _ _ _ _ (by omega) hg hu hk0 fun h' tk hkp => wpAny_pure ?_))
      refine ih rs (acc.push (r g)) (n + ((r g).length + 2)) _ Q hl (by omega) (fun b o e => hkp _ _ (hk0 _ _ e)) fun h'' tk' hk2 => ?_
      have h1 := h h'' tk' fun b o e => hk2 _ _ (hkp _ _ e)
      have e : n + piled ((r :: rs).map fun r => r g) = n + ((r g).length + 2) + piled (rs.map fun r => r g) := by rw [List.map_cons, piled_cons]; omega
      rw [e] at h1
      simpa using h1
def tupG (a : Addr) (c : Code) (rs : List (List Code → Str)) (g : List Code) : Str := if (g.any fun c => tupGuardF (.ref a) (c, default)) = true then "(...)" else tupleText (rs.map fun r => r (c :: g))
theorem own_tupG {h₀ : Heap} {d : Nat} {a : Addr} {o : Obj} {items : Array Value} {n : Nat} {rs : List (List Code → Str)}
    (ha : h₀.get? a = some o) (hd : o.data = .seq items n) (hT : AllG prog w h₀ d items.toList rs)
    {A : Around} {g : List Code} {s : Shared} {R : Result → Shared → Prop} {base : Nat} {id : String} {rest : List Value}
    (hcg : (Code.builtin id ⟨.ref a :: rest, []⟩).isGuard = true) (hcu : (A.under (.builtin id ⟨.ref a :: rest, []⟩)).units = A.units + 1)
    (hg : A.guards = some g) (hu : A.units + (d + 1) < cLine) (hk0 : ∀ b o, h₀.get? b = some o → s.heap.get? b = some o)
    (hR : ∀ h' u tk, (∀ b o, s.heap.get? b = some o → h'.get? b = some o) → R (.ok (.ret (.str (tupG a (.builtin id ⟨.ref a :: rest, []⟩) rs g) u))) { s with heap := h', toks := tk })
    (hsz : base + (tupG a (.builtin id ⟨.ref a :: rest, []⟩) rs g).length ≤ sizeLine) :
    wpOwn (model prog w) A (.builtin id ⟨.ref a :: rest, []⟩) (Builtin.tupleReprAt base ⟨[.ref a], []⟩) (fun fin s' => match fin with | .done f => R (.ok f) s' | .again c' => c'.quiet = true ∧ codeAny (model prog w) A c' R s') (fun e s' => R (.error e) s') s := by
  rw [tuple_repr_tree, tupleReprUnderWay_eq]
  refine wpOwn_bind (wpOwn_stackTailAny hg (tupGuardF_off _) (tupGuardF_pos _) ?_)
  unfold tupG at hR hsz
  cases hn : (g.any fun c => tupGuardF (.ref a) (c, default)) with
  | true =>
    rw [hn] at hR hsz
    rw [if_pos rfl] at hsz
    refine wpOwn_of_wpAny ?_
    show wpAny _ _ (do rule "tuple.repr.in-itself"; retStr "(...)") _ _ s
    refine wpAny_bind (wpAny_rule ?_)
    unfold retStr
    refine wpAny_bind (wpAny_mkStr (wpAny_pure ?_) (by omega))
    have h1 := hR s.heap s.toks (s.toks + 1) fun _ _ e => e
    rw [if_pos rfl] at h1
    exact h1
  | false =>
    rw [hn] at hR hsz
    rw [if_neg Bool.false_ne_true] at hsz
    have hlen : (rs.map fun r => r (.builtin id ⟨.ref a :: rest, []⟩ :: g)).length = items.size := by
      rw [List.length_map, hT.len]
      simp
    have hsz0 : (tupleText (rs.map fun r => r (.builtin id ⟨.ref a :: rest, []⟩ :: g))).length ≤ sizeLine := by omega
    have hp := piled_le_tupleText (rs.map fun r => r (.builtin id ⟨.ref a :: rest, []⟩ :: g))
    refine wpOwn_of_wpAny ?_
    show wpAny _ _ (tupleReprRest base (.ref a)) _ _ s
    unfold tupleReprRest Builtin.Tuple.tupleItemsOf
    refine wpAny_bind (wpAny_bind (wpAny_seqItems (hk0 _ _ ha) hd (wpAny_pure ?_)))
    rw [← Array.forIn_toList]
    refine wpAny_bind (tupFoldG (guards_under_guard hcg hg) (by rw [hcu]; omega) _ rs _ _ _ _ hT (by omega) hk0 fun h' tk hkp => ?_)
    refine wpAny_bind (wpAny_mkStr (wpAny_pure ?_) (by simpa [tupleText, hlen] using hsz0))
    have h1 := hR h' tk (tk + 1) hkp
    rw [if_neg Bool.false_ne_true] at h1
    simpa [tupleText, hlen] using h1
/-- a tuple within, of what has one text -/
def tupC (a : Addr) (ts : List Str) (g : List Code) : Str := if (g.any fun c => tupGuardF (.ref a) (c, default)) = true then "(...)" else tupleText ts
theorem tupC_eq (a : Addr) (c : Code) (ts : List Str) (g : List Code) : tupG a c (ts.map fun t _ => t) g = tupC a ts g := by
  unfold tupG tupC
  rw [List.map_map]
  have e : (ts.map ((fun r : List Code → Str => r (c :: g)) ∘ fun t _ => t)) = ts := by
    conv => rhs; rw [← List.map_id ts]
    rfl
  rw [e]
theorem ReprG.tup {h₀ : Heap} {d : Nat} {a : Addr} {o : Obj} {items : Array Value} {n : Nat} {ts : List Str} (ha : h₀.get? a = some o) (hc : o.cls = .type "tuple") (hd : o.data = .seq items n) (hT : AllG prog w h₀ d items.toList (ts.map fun t _ => t)) :
    ReprG prog w h₀ (d + 1) (.ref a) (tupC a ts) := fun base A g E s Q hz hg hu hk0 hQ =>
  wpAny_pyReprUnder_ref (by omega) (wpAny_pyReprObjUnder_twin (twin := "tuple.__repr__.under") ⟨o, hk0 _ _ ha, hc⟩ F.slot_tuple_repr rfl (by omega)
    (call_twin_own (F.quiet_tuple_repr_under _) F.entry_tuple_repr_under F.check_tuple_repr_under ⟨o, hk0 _ _ ha, hc⟩ F.slot_tuple_repr (F.args_tuple_repr_1 _)
      (own_tupG (R := callEnd _ E) ha hd hT (isGuard_tuple_repr_under _) (units_under_tuple_repr_under _ _) hg hu hk0 (fun h' u tk hk => by
        rw [tupC_eq]
        exact ⟨⟨_, _, rfl⟩, ⟨_, _, rfl, hQ h' tk hk⟩⟩) (by rw [tupC_eq]; exact hz))))
/-- a list within, of what has one text -/
def lstC (a : Addr) (ts : List Str) (g : List Code) : Str := if (g.any fun c => lstF (.ref a) (c, default)) = true then "[...]" else listText ts
theorem own_lst {h₀ : Heap} {d : Nat} {a : Addr} {oa : Obj} {x : Value} {l : List Value} {na : Nat} {ts : List Str}
    (ha : h₀.get? a = some oa) (hda : oa.data = .seq (x :: l).toArray na) (hlen : ts.length = (x :: l).toArray.size)
    (hT : ∀ (i : Nat) (y : Value), (x :: l).toArray[i]? = some y → ∃ t, ts[i]? = some t ∧ ReprIs prog w y t)
    {A : Around} {g : List Code} {s : Shared} {R : Result → Shared → Prop} {base : Nat} {c : Code}
    (hg : A.guards = some g) (hu : A.units + (d + 1) < cLine) (hk0 : ∀ b o, h₀.get? b = some o → s.heap.get? b = some o)
    (hR : ∀ h' u tk, (∀ b o, s.heap.get? b = some o → h'.get? b = some o) → R (.ok (.ret (.str (lstC a ts g) u))) { s with heap := h', toks := tk })
    (hsz : base + (lstC a ts g).length ≤ sizeLine) :
    wpOwn (model prog w) A c (Builtin.listReprAt base ⟨[.ref a], []⟩) (fun fin s' => match fin with | .done f => R (.ok f) s' | .again c' => c'.quiet = true ∧ codeAny (model prog w) A c' R s') (fun e s' => R (.error e) s') s := by
  have tree : Builtin.listReprAt base ⟨[.ref a], []⟩ = (do
    if (← Builtin.List.listItems (.ref a)).isEmpty then (do rule "list.__repr__.empty"; retStr "[]") else do
      if ← (do return (← stack).tail.any (lstF (.ref a))) then (do rule "list.__repr__.in-itself"; retStr "[...]") else (do again (.builtin "list.__repr__.loop" ⟨[.ref a, rawInt 0, ← newList [], rawInt base], []⟩))) := rfl
  rw [tree]
  have hPf : h₀.get? s.heap.objs.size = none := by
    cases e : h₀.get? s.heap.objs.size with
    | none => rfl
    | some o => exact absurd (Heap.lt_size (hk0 _ _ e)) (Nat.lt_irrefl _)
  refine wpOwn_bind (wpOwn_of_wpAny (wpAny_listItems (hk0 _ _ ha) hda ?_))
  have he : (x :: l).toArray.isEmpty = false := by simp
  rw [he]
  show wpOwn _ _ _ (do
      if ← (do return (← stack).tail.any (lstF (.ref a))) then (do rule "list.__repr__.in-itself"; retStr "[...]") else (do again (.builtin "list.__repr__.loop" ⟨[.ref a, rawInt 0, ← newList [], rawInt base], []⟩))) _ _ s
  refine wpOwn_bind (wpOwn_stackTailAny hg (lstF_off _) (lstF_pos _) ?_)
  unfold lstC at hR hsz
  cases hn : (g.any fun c => lstF (.ref a) (c, default)) with
  | true =>
    rw [hn] at hR hsz
    rw [if_pos rfl] at hsz
    refine wpOwn_of_wpAny ?_
    show wpAny _ _ (do rule "list.__repr__.in-itself"; retStr "[...]") _ _ s
    refine wpAny_bind (wpAny_rule ?_)
    unfold retStr
    refine wpAny_bind (wpAny_mkStr (wpAny_pure ?_) (by omega))
    have h1 := hR s.heap s.toks (s.toks + 1) fun _ _ e => e
    rw [if_pos rfl] at h1
    exact h1
  | false =>
    rw [hn] at hR hsz
    rw [if_neg Bool.false_ne_true] at hsz
    refine wpOwn_of_wpAny ?_
    show wpAny _ _ (do again (.builtin "list.__repr__.loop" ⟨[.ref a, rawInt 0, ← newList [], rawInt base], []⟩)) _ _ s
    refine wpAny_bind (m := newList []) (wpAny_newObj_type ?_)
    refine wpAny_pure ⟨F.quiet_list_repr_loop _, ?_⟩
    refine codeAny_list_repr_loopK (P := s.heap.objs.size) (as := []) (d := d) (Nat.ne_of_lt (Heap.lt_size (hk0 _ _ ha))) hg (fun b hb => nomatch hb) hu (fun hb => nomatch hb) hPf hlen (fun i y e => by
      obtain ⟨t, e1, e2⟩ := hT i y e
      exact ⟨t, e1, ReprK.of_is e2 _ _ _⟩) hsz _ 0 _ oa na #[] _ [] rfl (Nat.zero_le _)
      (fun b o e => Heap.get?_push_of_some _ (hk0 _ _ e)) (Heap.get?_push_of_some _ (hk0 _ _ ha)) hda (Heap.get?_push_size _ rfl) rfl (by simp) fun h' u tk hk => ?_
    have h1 := hR h' u tk fun b o e => hk b o (Nat.ne_of_lt (Heap.lt_size e)) (Heap.get?_push_of_some _ e)
    rw [if_neg Bool.false_ne_true] at h1
    exact h1
theorem quiet_list_under (args : Args) : (Code.builtin "list.__repr__.under" args).quiet = true := Code.quiet_builtin args (by decide +kernel)
theorem ReprG.lst {h₀ : Heap} {d : Nat} {a : Addr} {oa : Obj} {x : Value} {l : List Value} {na : Nat} {ts : List Str}
    (ha : h₀.get? a = some oa) (hc : oa.cls = .type "list") (hda : oa.data = .seq (x :: l).toArray na) (hlen : ts.length = (x :: l).toArray.size)
    (hT : ∀ (i : Nat) (y : Value), (x :: l).toArray[i]? = some y → ∃ t, ts[i]? = some t ∧ ReprIs prog w y t) :
    ReprG prog w h₀ (d + 1) (.ref a) (lstC a ts) := fun base A g E s Q hz hg hu hk0 hQ =>
  wpAny_pyReprUnder_ref (by omega) (wpAny_pyReprObjUnder_twin (twin := "list.__repr__.under") ⟨oa, hk0 _ _ ha, hc⟩ F.slot_list_repr.toG rfl (by omega)
    (call_twin_own (quiet_list_under _) F.entry_list_repr_under F.check_list_repr_under ⟨oa, hk0 _ _ ha, hc⟩ F.slot_list_repr.toG (F.args_list_repr_1 _)
      (own_lst (R := callEnd _ E) (d := d) ha hda hlen hT hg hu hk0 (fun h' u tk hk => ⟨⟨_, _, rfl⟩, ⟨_, _, rfl, hQ h' tk hk⟩⟩) hz)))
theorem ReprG.lst0 {h₀ : Heap} {d : Nat} {a : Addr} {oa : Obj} {na : Nat} (ha : h₀.get? a = some oa) (hc : oa.cls = .type "list") (hda : oa.data = .seq #[] na) : ReprG prog w h₀ d (.ref a) fun _ => "[]" := fun base A g E s Q hz hg hu hk0 hQ =>
  wpAny_pyReprUnder_ref (by omega) (wpAny_pyReprObjUnder_list_empty ⟨oa, hk0 _ _ ha, hc⟩ (by omega) (hk0 _ _ ha) hda ⟨_, _, rfl, hQ s.heap _ fun _ _ e => e⟩)
/-- repr(a), a a tuple -/
theorem call_reprG {h₀ : Heap} {d : Nat} {a : Addr} {o : Obj} {items : Array Value} {n : Nat} {rs : List (List Code → Str)} (ha : h₀.get? a = some o) (hc : o.cls = .type "tuple") (hd : o.data = .seq items n) (hT : AllG prog w h₀ d items.toList rs)
    {A : Around} {g : List Code} {E : Value → Shared → Prop} {s : Shared} {Q : Value → Shared → Prop}
    (hg : A.guards = some g) (hu : A.units + (d + 2) < cLine) (hk0 : ∀ b o, h₀.get? b = some o → s.heap.get? b = some o)
    (hQ : ∀ h' u tk, (∀ b o, s.heap.get? b = some o → h'.get? b = some o) → Q (.str (tupG a (.builtin "tuple.__repr__" ⟨[.ref a], []⟩) rs g) u) { s with heap := h', toks := tk })
    (hsz : (tupG a (.builtin "tuple.__repr__" ⟨[.ref a], []⟩) rs g).length ≤ sizeLine) :
    wpAny (model prog w) A (call (.builtin "repr") [.ref a]) Q E s := by
  refine call_repr_slot (by omega) ⟨o, hk0 _ _ ha, hc⟩ F.slot_tuple_repr ?_
  exact wpAny_call (codeAny_call_builtin_own (Code.quiet_builtin _ (by decide +kernel)) F.entry_tuple_repr (F.slot_tuple_repr.check _ _ _ _ _ _ _ _ ⟨o, hk0 _ _ ha, hc⟩ (F.args_tuple_repr_1 _)
    (own_tupG (base := 0) (R := callEnd _ E) ha hd hT (isGuard_tuple_repr _) (units_under_tuple_repr _ _) hg (by show A.units + 1 + (d + 1) < cLine; omega) hk0 (fun h' u tk hk => ⟨_, _, rfl, hQ h' u tk hk⟩) (by omega))))
end
end My
namespace My
open PySem PySem.Spec PyProof.Rows L2
theorem strs_allG {prog : Program} {w : World} {h₀ : Heap} {d : Nat} : ∀ {ls : List Str} {us : List Value}, Vals (ls.map V.str) us → (∀ t ∈ ls, (reprText t).length ≤ sizeLine) → AllG prog w h₀ d us ((ls.map reprText).map fun t _ => t)
  | [], _, .nil, _ => .nil
  | t :: ls, _, .cons r rs, h => by
    obtain ⟨k, rfl⟩ := _root_.id r
    exact .cons (ReprG.of_is (ReprIs.str t k (h t (List.mem_cons_self ..))) _ _) (strs_allG rs fun x hx => h x (List.mem_cons_of_mem _ hx))
theorem strs_at {prog : Program} {w : World} : ∀ {ls : List Str} {us : List Value}, Vals (ls.map V.str) us → (∀ t ∈ ls, (reprText t).length ≤ sizeLine) → ∀ (i : Nat) (y : Value), us[i]? = some y → ∃ t, (ls.map reprText)[i]? = some t ∧ ReprIs prog w y t
  | [], _, .nil, _, i, y, e => by simp at e
  | t :: ls, _, .cons r rs, h, 0, y, e => by
    obtain ⟨k, rfl⟩ := _root_.id r
    cases e
    exact ⟨_, rfl, ReprIs.str t k (h t (List.mem_cons_self ..))⟩
  | t :: ls, _, .cons r rs, h, i + 1, y, e => strs_at rs (fun x hx => h x (List.mem_cons_of_mem _ hx)) i y e
def moreG (b : Addr) (lst : Bool) (ls : List Str) : List Code → Str := if lst = true then (if ls = [] then fun _ => "[]" else lstC b (ls.map reprText)) else tupC b (ls.map reprText)
def edT (g : List Code) (a b : Addr) (lst : Bool) (i j : Int) (ls : List Str) : Str := tupG a (.builtin "tuple.__repr__" ⟨[.ref a], []⟩) [fun _ => Str.ofString (toString i), fun _ => Str.ofString (toString j), moreG b lst ls] g
def rRepr (K : PySem.W.Frag) (g : List Code) : List V → Hp → VK → Prop := fun xs H Q => ∃ (a b : Addr) (i j : Int) (lst : Bool) (ls : List Str), xs = [.ref a] ∧ SqT K H a [.int i, .int j, .ref b] ∧ (if lst = true then SqL K H b (ls.map V.str) else SqT K H b (ls.map V.str)) ∧ i.natAbs.log2 < 1920 ∧ j.natAbs.log2 < 1920 ∧
  (∀ t ∈ ls, (reprText t).length ≤ sizeLine) ∧ (edT g a b lst i j ls).length ≤ sizeLine ∧ Q (.str (edT g a b lst i j ls)) H
theorem call_repr_ed {X : Cx} {g : List Code} (hg : X.A.guards = some g) (hu : X.A.units + 20 < cLine) : CallR X (.builtin "repr") (rRepr X.K g) := by
  intro pins s σ H xs us Q I r h
  obtain ⟨a, b, i, j, lst, ls, rfl, ha, hb, hi, hj, hls, hsz, q⟩ := h
  obtain ⟨u, rfl, rx⟩ := vals1 r
  cases rx
  obtain ⟨its, r', pl, hz⟩ := I.tuple ha
  obtain ⟨o, e1, e2, n, e3⟩ := pl
  cases r' with
  | cons r1 r' => cases r' with
    | cons r2 r' => cases r' with
      | cons r3 r' =>
        cases r'
        obtain ⟨k1, rfl⟩ := _root_.id r1
        obtain ⟨k2, rfl⟩ := _root_.id r2
        cases r3
        have hm : ReprG X.prog X.w s.heap 2 (.ref b) (moreG b lst ls) := by
          unfold moreG
          cases lst with
          | true =>
            rw [if_pos rfl] at hb ⊢
            obtain ⟨its2, r2, ⟨ob, nb, f1, f2, f3, f4⟩, _⟩ := I.list hb
            cases ls with
            | nil =>
              cases r2
              rw [if_pos rfl]
              exact ReprG.lst0 f1 f2 f4
            | cons t ls =>
              cases its2 with
              | nil => cases r2
              | cons x l =>
                rw [if_neg (by simp)]
                refine ReprG.lst (d := 1) f1 f2 f4 (by have := r2.length; simpa using this) fun i y e => strs_at r2 hls i y (by simpa using e)
          | false =>
            rw [if_neg Bool.false_ne_true] at hb ⊢
            obtain ⟨its2, r2, ⟨ob, f1, f2, nb, f3⟩, _⟩ := I.tuple hb
            exact ReprG.tup (d := 1) f1 f2 f3 (strs_allG r2 hls)
        refine call_reprG (d := 2) e1 e2 e3 (.cons (ReprG.of_is (ReprIs.int k1 hi) _ _) (.cons (ReprG.of_is (ReprIs.int k2 hj) _ _) (.cons hm .nil))) hg (by omega) (fun _ _ e => e) (fun h' u tk hk => ?_) hsz
        exact ⟨.str (edT g a b lst i j ls), H, I.kept hk, ⟨u, rfl⟩, q⟩
/-! ### code that is not reached; code under known guards -/
theorem pss_dead {X : Cx} {b : List Stmt} : PSs X b (fun _ _ _ => False) := ⟨fun _ _ _ _ _ _ h => h.elim⟩
theorem ps_dead {X : Cx} {b : Stmt} : PS X b (fun _ _ _ => False) := ⟨fun _ _ _ _ _ _ h => h.elim⟩
def Around.withG (A : Around) (g : List Code) : Around := { A with guards := some g }
def CxG (X : Cx) (g : List Code) : Cx := { X with A := { X.A with guards := some g } }
theorem okG {X : Cx} {g : List Code} (I : X.Ok) : (CxG X g).Ok := ⟨I.mod, I.kind, I.glob, I.blt, I.above, I.inj, I.has, I.cab, I.hd, I.frames, I.stk, I.exf, I.bs, I.bsz, I.noex, I.exfs, I.funs, I.frf⟩
theorem okG' {X : Cx} {g : List Code} (I : (CxG X g).Ok) : X.Ok := ⟨I.mod, I.kind, I.glob, I.blt, I.above, I.inj, I.has, I.cab, I.hd, I.frames, I.stk, I.exf, I.bs, I.bsz, I.noex, I.exfs, I.funs, I.frf⟩
theorem invG {X : Cx} {g : List Code} {pins : List (Addr × Obj)} {σ : L2.St} {H : Hp} {s : Shared} (I : Inv X pins σ H s) : Inv (CxG X g) pins σ H s := ⟨okG I.ok, I.os, I.bare, I.base, I.loc, I.cell, I.free, I.freeC, I.pin, I.hok, I.len⟩
theorem invG' {X : Cx} {g : List Code} {pins : List (Addr × Obj)} {σ : L2.St} {H : Hp} {s : Shared} (I : Inv (CxG X g) pins σ H s) : Inv X pins σ H s := ⟨okG' I.ok, I.os, I.bare, I.base, I.loc, I.cell, I.free, I.freeC, I.pin, I.hok, I.len⟩
theorem pss_guards {X : Cx} {b : List Stmt} {t : List Code → TS} (h : ∀ g, PSs (CxG X g) b (t g)) : PSs X b (fun D σ H => ∀ g, t g D σ H) := ⟨fun pins s σ H D I ht Γ p hΓ => by
  have h1 := (h (Γ.code.guards ++ guardsOf Γ.below)).run pins s σ H D (invG I) (ht _)
  have h2 : wpAny (model X.prog X.w) (CxG X (Γ.code.guards ++ guardsOf Γ.below)).A (execs b X.env) (SP X pins D) X.xe s := wpAny_mono h1 (fun f s' hf => by
    cases f with
    | next => obtain ⟨σ', H', J, q⟩ := hf; exact ⟨σ', H', invG' J, q⟩
    | brk => obtain ⟨σ', H', J, q⟩ := hf; exact ⟨σ', H', invG' J, q⟩
    | cont => obtain ⟨σ', H', J, q⟩ := hf; exact ⟨σ', H', invG' J, q⟩
    | ret u => obtain ⟨v, σ', H', J, r, q⟩ := hf; exact ⟨v, σ', H', invG' J, r, q⟩) fun e s' he => he
  exact h2 Γ p ⟨hΓ.1, hΓ.2.1, hΓ.2.2.1, fun g hg => by cases hg; rfl, hΓ.2.2.2.2⟩⟩
theorem roomG {k : Nat} {A : Around} {g : List Code} (r : Room k A) : Room k { A with guards := some g } := ⟨r.hd, r.dp, r.un⟩
theorem room_20 {k : Nat} {A : Around} (r : Room k A) : A.units + 20 < cLine := by
  have := r.un
  omega
theorem pi_or {X : Cx} {tg : Expr} {l : Expr} {t1 t2 : TI} (h1 : PI X tg l t1) (h2 : PI X tg l t2) : PI X tg l (fun σ H R => t1 σ H R ∨ t2 σ H R) := ⟨fun pins s σ H R I h => h.elim (h1.run pins s σ H R I) (h2.run pins s σ H R I)⟩
end My

/-! ### texts of lines -/
namespace ED
open PySem PySem.Spec PyProof.Rows L2 My
def LineOk (l : List Nat) : Prop := 10 ∉ l ∧ l.length ≤ 40 ∧ ∀ c ∈ l, c < 128
def txtL (rows : List (List Nat)) : List Nat := (rows.map fun l => l ++ [10]).flatten
def linesL (t : List Nat) : List (List Nat) := if (CL.pcs 10 t).getLast? = some [] then (CL.pcs 10 t).dropLast else CL.pcs 10 t
theorem pcs_txt : ∀ {rows : List (List Nat)}, (∀ l ∈ rows, 10 ∉ l) → CL.pcs 10 (txtL rows) = rows ++ [[]]
  | [], _ => rfl
  | l :: rows, h => by
    show CL.pcs 10 (l ++ [10] ++ txtL rows) = _
    rw [List.append_assoc]
    show CL.pcs 10 (l ++ 10 :: txtL rows) = _
    rw [CL.pcs_cut (h l (List.mem_cons_self ..)), pcs_txt fun x hx => h x (List.mem_cons_of_mem _ hx)]
    rfl
theorem lines_txt {rows : List (List Nat)} (h : ∀ l ∈ rows, 10 ∉ l) : linesL (txtL rows) = rows := by
  unfold linesL
  rw [pcs_txt h, List.getLast?_concat, if_pos rfl, List.dropLast_concat]
theorem txt_app (a b : List (List Nat)) : txtL (a ++ b) = txtL a ++ txtL b := by
  unfold txtL
  rw [List.map_append, List.flatten_append]
theorem pcs_last {x : List Nat} (hx : 10 ∉ x) : ∀ {rows : List (List Nat)}, (∀ l ∈ rows, 10 ∉ l) → CL.pcs 10 (txtL rows ++ x) = rows ++ [x]
  | [], _ => CL.pcs_none hx
  | l :: rows, h => by
    show CL.pcs 10 (l ++ [10] ++ txtL rows ++ x) = _
    rw [List.append_assoc, List.append_assoc]
    show CL.pcs 10 (l ++ 10 :: (txtL rows ++ x)) = _
    rw [CL.pcs_cut (h l (List.mem_cons_self ..)), pcs_last hx fun y hy => h y (List.mem_cons_of_mem _ hy)]
    rfl
theorem lines_cut {rows : List (List Nat)} {x : List Nat} (h : ∀ l ∈ rows ++ [x], 10 ∉ l) (hx : x ≠ []) : linesL ((txtL (rows ++ [x])).dropLast) = rows ++ [x] := by
  have e : (txtL (rows ++ [x])).dropLast = txtL rows ++ x := by
    rw [txt_app]
    show (txtL rows ++ (x ++ [10] ++ [])).dropLast = _
    rw [List.append_nil, ← List.append_assoc, List.dropLast_concat]
  rw [e]
  unfold linesL
  rw [pcs_last (h x (by simp)) fun l hl => h l (by simp [hl]), List.getLast?_concat, if_neg]
  intro e
  exact hx (Option.some.inj e)
theorem txt_len (n : Nat) : ∀ {rows : List (List Nat)}, (∀ l ∈ rows, l.length ≤ n) → (txtL rows).length ≤ (n + 1) * rows.length
  | [], _ => Nat.zero_le _
  | l :: rows, h => by
    have h1 := h l (List.mem_cons_self ..)
    have h2 := txt_len n fun x hx => h x (List.mem_cons_of_mem _ hx)
    show (l ++ [10] ++ txtL rows).length ≤ (n + 1) * (rows.length + 1)
    rw [List.length_append, List.length_append, Nat.mul_add]
    show l.length + 1 + _ ≤ _
    omega
/-- how many stand alike at the start -/
def cpl : List (List Nat) → List (List Nat) → Nat
  | x :: a, y :: b => if x = y then cpl a b + 1 else 0
  | _, _ => 0
theorem cpl_le : ∀ a b : List (List Nat), cpl a b ≤ a.length ∧ cpl a b ≤ b.length
  | [], _ => ⟨Nat.zero_le _, Nat.zero_le _⟩
  | _ :: _, [] => ⟨Nat.zero_le _, Nat.zero_le _⟩
  | x :: a, y :: b => by
    have := cpl_le a b
    show (if x = y then cpl a b + 1 else 0) ≤ a.length + 1 ∧ (if x = y then cpl a b + 1 else 0) ≤ b.length + 1
    split <;> omega
theorem cpl_at : ∀ (a b : List (List Nat)) (i : Nat), i < cpl a b → ∃ x, a[i]? = some x ∧ b[i]? = some x
  | [], _, _, h => absurd h (Nat.not_lt_zero _)
  | _ :: _, [], _, h => absurd h (Nat.not_lt_zero _)
  | x :: a, y :: b, i, h => by
    have h' : i < (if x = y then cpl a b + 1 else 0) := h
    split at h'
    · rename_i e
      subst e
      cases i with
      | zero => exact ⟨x, rfl, rfl⟩
      | succ i => exact cpl_at a b i (by omega)
    · exact absurd h' (Nat.not_lt_zero _)
theorem cpl_off : ∀ (a b : List (List Nat)) {x y : List Nat}, a[cpl a b]? = some x → b[cpl a b]? = some y → x ≠ y
  | [], _, _, _, h, _ => by cases h
  | _ :: _, [], _, _, _, h => by cases h
  | x :: a, y :: b, u, v, h, g => by
    by_cases e : x = y
    · subst e
      have e2 : cpl (x :: a) (x :: b) = cpl a b + 1 := if_pos rfl
      rw [e2] at h g
      exact cpl_off a b h g
    · have e2 : cpl (x :: a) (y :: b) = 0 := if_neg e
      rw [e2] at h g
      cases h
      cases g
      exact e
end ED

namespace K80
open PySem PySem.Spec PyProof.Rows L2 My TR PG ED
def topS (i : Nat) : Stmt := PySem.Challenge.pw_plainmark_k80_edits_there_and_back.main.body.getD i (.Pass ⟨0, 0, 0, 0⟩)
abbrev s_lines_of : Stmt := topS 1
abbrev s_check_source : Stmt := topS 7
abbrev s_is_integer_to : Stmt := topS 8
abbrev s_edited : Stmt := topS 10
abbrev s_back : Stmt := topS 11
abbrev s_least_edit : Stmt := topS 12
abbrev s_check_edit : Stmt := topS 13
abbrev s_wrong_index : Stmt := topS 14
abbrev s_is_line : Stmt := topS 15
abbrev s_number_alike : Stmt := topS 16
abbrev s__law_jar : Stmt := topS 18
abbrev s__law_dip : Stmt := topS 19
abbrev s__law_one : Stmt := topS 20
abbrev s__law_line : Stmt := topS 21
abbrev s__law_lines : Stmt := topS 22
abbrev s__law_text : Stmt := topS 23
abbrev s__law_edit : Stmt := topS 24
abbrev s__law_done : Stmt := topS 25
abbrev s__law_least : Stmt := topS 26
abbrev s__law_plain : Stmt := topS 27
abbrev s__law_right : Stmt := topS 28
abbrev s_law : Stmt := topS 29
theorem sc_lines_of : FnScope ["text", "lines"] ["text"] (defScope s_lines_of) := ⟨rfl, rfl, rfl, by decide +kernel, rfl, by decide +kernel, by decide +kernel⟩
theorem sc_check_source : FnScope ["text"] ["text"] (defScope s_check_source) := ⟨rfl, rfl, rfl, by decide +kernel, rfl, by decide +kernel, by decide +kernel⟩
theorem sc_is_integer_to : FnScope ["least", "most", "thing"] ["least", "most", "thing"] (defScope s_is_integer_to) := ⟨rfl, rfl, rfl, by decide +kernel, rfl, by decide +kernel, by decide +kernel⟩
theorem sc_edited : FnScope ["text", "edit", "first", "many", "lines", "old", "line"] ["text", "edit"] (defScope s_edited) := ⟨rfl, rfl, rfl, by decide +kernel, rfl, by decide +kernel, by decide +kernel⟩
theorem sc_back : FnScope ["text", "edit", "first", "many", "lines"] ["text", "edit"] (defScope s_back) := ⟨rfl, rfl, rfl, by decide +kernel, rfl, by decide +kernel, by decide +kernel⟩
theorem sc_least_edit : FnScope ["text", "other", "old", "new", "first", "behind"] ["text", "other"] (defScope s_least_edit) := ⟨rfl, rfl, rfl, by decide +kernel, rfl, by decide +kernel, by decide +kernel⟩
theorem sc_check_edit : FnScope ["text", "edit", "wrong"] ["text", "edit"] (defScope s_check_edit) := ⟨rfl, rfl, rfl, by decide +kernel, rfl, by decide +kernel, by decide +kernel⟩
theorem sc_wrong_index : FnScope ["many_lines", "edit", "first", "many", "lines", "line"] ["many_lines", "edit"] (defScope s_wrong_index) := ⟨rfl, rfl, rfl, by decide +kernel, rfl, by decide +kernel, by decide +kernel⟩
theorem sc_is_line : FnScope ["thing"] ["thing"] (defScope s_is_line) := ⟨rfl, rfl, rfl, by decide +kernel, rfl, by decide +kernel, by decide +kernel⟩
theorem sc_number_alike : FnScope ["row", "other", "many"] ["row", "other"] (defScope s_number_alike) := ⟨rfl, rfl, rfl, by decide +kernel, rfl, by decide +kernel, by decide +kernel⟩
theorem sc__law_jar : FnScope ["_law_cell"] ["_law_cell"] (defScope s__law_jar) := ⟨rfl, rfl, rfl, by decide +kernel, rfl, by decide +kernel, by decide +kernel⟩
theorem sc__law_dip : FnScope ["_law_jar_here", "_law_many", "_law_digit", "_law_mixed"] ["_law_jar_here", "_law_many"] (defScope s__law_dip) := ⟨rfl, rfl, rfl, by decide +kernel, rfl, by decide +kernel, by decide +kernel⟩
theorem sc__law_one : FnScope ["_law_jar_here", "_law_some"] ["_law_jar_here", "_law_some"] (defScope s__law_one) := ⟨rfl, rfl, rfl, by decide +kernel, rfl, by decide +kernel, by decide +kernel⟩
theorem sc__law_line : FnScope ["_law_jar_here", "_law_heads", "_law_some"] ["_law_jar_here"] (defScope s__law_line) := ⟨rfl, rfl, rfl, by decide +kernel, rfl, by decide +kernel, by decide +kernel⟩
theorem sc__law_lines : FnScope ["_law_jar_here", "_law_most", "_law_k"] ["_law_jar_here", "_law_most"] (defScope s__law_lines) := ⟨rfl, rfl, rfl, by decide +kernel, rfl, by decide +kernel, by decide +kernel⟩
theorem sc__law_text : FnScope ["_law_lines_here", "_law_line_here"] ["_law_lines_here"] (defScope s__law_text) := ⟨rfl, rfl, rfl, by decide +kernel, rfl, by decide +kernel, by decide +kernel⟩
theorem sc__law_edit : FnScope ["_law_jar_here", "_law_lines_here", "_law_first", "_law_many", "_law_more"] ["_law_jar_here", "_law_lines_here"] (defScope s__law_edit) := ⟨rfl, rfl, rfl, by decide +kernel, rfl, by decide +kernel, by decide +kernel⟩
theorem sc__law_done : FnScope ["_law_lines_here", "_law_edit_here", "_law_first", "_law_many", "_law_more"] ["_law_lines_here", "_law_edit_here"] (defScope s__law_done) := ⟨rfl, rfl, rfl, by decide +kernel, rfl, by decide +kernel, by decide +kernel⟩
theorem sc__law_least : FnScope ["_law_lines_here", "_law_others", "_law_first", "_law_k", "_law_tail", "_law_room"] ["_law_lines_here", "_law_others"] (defScope s__law_least) := ⟨rfl, rfl, rfl, by decide +kernel, rfl, by decide +kernel, by decide +kernel⟩
theorem sc__law_plain : FnScope ["_law_edit_here"] ["_law_edit_here"] (defScope s__law_plain) := ⟨rfl, rfl, rfl, by decide +kernel, rfl, by decide +kernel, by decide +kernel⟩
theorem sc__law_right : FnScope ["_law_jar_here", "_law_turn", "_law_rows", "_law_before", "_law_edit_here", "_law_kept", "_law_others", "_law_later", "_law_turned_so", "_law_gone", "_law_again", "_law_wild", "_law_other"] ["_law_jar_here"] (defScope s__law_right) := ⟨rfl, rfl, rfl, by decide +kernel, rfl, by decide +kernel, by decide +kernel⟩
theorem sc_law : FnScope ["_law_script", "_law_cell"] ["_law_script"] (defScope s_law) := ⟨rfl, rfl, rfl, by decide +kernel, rfl, by decide +kernel, by decide +kernel⟩
set_option maxHeartbeats 4000000 in
structure Txt (K : PySem.W.Frag) (mg : Str → Option Value) where
  a_lines_of : Addr
  d_lines_of : FuncData
  f_lines_of : Fun K "lines_of" "lines_of" s_lines_of a_lines_of d_lines_of
  g_lines_of : mg "lines_of" = some (.ref a_lines_of)
  b_lines_of : Binds K d_lines_of ["text"] []
  a_check_source : Addr
  d_check_source : FuncData
  f_check_source : Fun K "check_source" "check_source" s_check_source a_check_source d_check_source
  g_check_source : mg "check_source" = some (.ref a_check_source)
  b_check_source : Binds K d_check_source ["text"] []
  a_is_integer_to : Addr
  d_is_integer_to : FuncData
  f_is_integer_to : Fun K "is_integer_to" "is_integer_to" s_is_integer_to a_is_integer_to d_is_integer_to
  g_is_integer_to : mg "is_integer_to" = some (.ref a_is_integer_to)
  b_is_integer_to : Binds K d_is_integer_to ["least", "most", "thing"] []
  a_edited : Addr
  d_edited : FuncData
  f_edited : Fun K "edited" "edited" s_edited a_edited d_edited
  g_edited : mg "edited" = some (.ref a_edited)
  b_edited : Binds K d_edited ["text", "edit"] []
  a_back : Addr
  d_back : FuncData
  f_back : Fun K "back" "back" s_back a_back d_back
  g_back : mg "back" = some (.ref a_back)
  b_back : Binds K d_back ["text", "edit"] []
  a_least_edit : Addr
  d_least_edit : FuncData
  f_least_edit : Fun K "least_edit" "least_edit" s_least_edit a_least_edit d_least_edit
  g_least_edit : mg "least_edit" = some (.ref a_least_edit)
  b_least_edit : Binds K d_least_edit ["text", "other"] []
  a_check_edit : Addr
  d_check_edit : FuncData
  f_check_edit : Fun K "check_edit" "check_edit" s_check_edit a_check_edit d_check_edit
  g_check_edit : mg "check_edit" = some (.ref a_check_edit)
  b_check_edit : Binds K d_check_edit ["text", "edit"] []
  a_wrong_index : Addr
  d_wrong_index : FuncData
  f_wrong_index : Fun K "wrong_index" "wrong_index" s_wrong_index a_wrong_index d_wrong_index
  g_wrong_index : mg "wrong_index" = some (.ref a_wrong_index)
  b_wrong_index : Binds K d_wrong_index ["many_lines", "edit"] []
  a_is_line : Addr
  d_is_line : FuncData
  f_is_line : Fun K "is_line" "is_line" s_is_line a_is_line d_is_line
  g_is_line : mg "is_line" = some (.ref a_is_line)
  b_is_line : Binds K d_is_line ["thing"] []
  a_number_alike : Addr
  d_number_alike : FuncData
  f_number_alike : Fun K "number_alike" "number_alike" s_number_alike a_number_alike d_number_alike
  g_number_alike : mg "number_alike" = some (.ref a_number_alike)
  b_number_alike : Binds K d_number_alike ["row", "other"] []
  a__law_jar : Addr
  d__law_jar : FuncData
  f__law_jar : Fun K "_law_jar" "_law_jar" s__law_jar a__law_jar d__law_jar
  g__law_jar : mg "_law_jar" = some (.ref a__law_jar)
  b__law_jar : Binds K d__law_jar ["_law_cell"] []
  a__law_dip : Addr
  d__law_dip : FuncData
  f__law_dip : Fun K "_law_dip" "_law_dip" s__law_dip a__law_dip d__law_dip
  g__law_dip : mg "_law_dip" = some (.ref a__law_dip)
  b__law_dip : Binds K d__law_dip ["_law_jar_here", "_law_many"] []
  a__law_one : Addr
  d__law_one : FuncData
  f__law_one : Fun K "_law_one" "_law_one" s__law_one a__law_one d__law_one
  g__law_one : mg "_law_one" = some (.ref a__law_one)
  b__law_one : Binds K d__law_one ["_law_jar_here", "_law_some"] []
  a__law_line : Addr
  d__law_line : FuncData
  f__law_line : Fun K "_law_line" "_law_line" s__law_line a__law_line d__law_line
  g__law_line : mg "_law_line" = some (.ref a__law_line)
  b__law_line : Binds K d__law_line ["_law_jar_here"] []
  a__law_lines : Addr
  d__law_lines : FuncData
  f__law_lines : Fun K "_law_lines" "_law_lines" s__law_lines a__law_lines d__law_lines
  g__law_lines : mg "_law_lines" = some (.ref a__law_lines)
  b__law_lines : Binds K d__law_lines ["_law_jar_here", "_law_most"] []
  a__law_text : Addr
  d__law_text : FuncData
  f__law_text : Fun K "_law_text" "_law_text" s__law_text a__law_text d__law_text
  g__law_text : mg "_law_text" = some (.ref a__law_text)
  b__law_text : Binds K d__law_text ["_law_lines_here"] []
  a__law_edit : Addr
  d__law_edit : FuncData
  f__law_edit : Fun K "_law_edit" "_law_edit" s__law_edit a__law_edit d__law_edit
  g__law_edit : mg "_law_edit" = some (.ref a__law_edit)
  b__law_edit : Binds K d__law_edit ["_law_jar_here", "_law_lines_here"] []
  a__law_done : Addr
  d__law_done : FuncData
  f__law_done : Fun K "_law_done" "_law_done" s__law_done a__law_done d__law_done
  g__law_done : mg "_law_done" = some (.ref a__law_done)
  b__law_done : Binds K d__law_done ["_law_lines_here", "_law_edit_here"] []
  a__law_least : Addr
  d__law_least : FuncData
  f__law_least : Fun K "_law_least" "_law_least" s__law_least a__law_least d__law_least
  g__law_least : mg "_law_least" = some (.ref a__law_least)
  b__law_least : Binds K d__law_least ["_law_lines_here", "_law_others"] []
  a__law_plain : Addr
  d__law_plain : FuncData
  f__law_plain : Fun K "_law_plain" "_law_plain" s__law_plain a__law_plain d__law_plain
  g__law_plain : mg "_law_plain" = some (.ref a__law_plain)
  b__law_plain : Binds K d__law_plain ["_law_edit_here"] []
  a__law_right : Addr
  d__law_right : FuncData
  f__law_right : Fun K "_law_right" "_law_right" s__law_right a__law_right d__law_right
  g__law_right : mg "_law_right" = some (.ref a__law_right)
  b__law_right : Binds K d__law_right ["_law_jar_here"] []
  z_all : mg "all" = none
  z_bool : mg "bool" = none
  z_int : mg "int" = none
  z_isinstance : mg "isinstance" = none
  z_len : mg "len" = none
  z_list : mg "list" = none
  z_min : mg "min" = none
  z_range : mg "range" = none
  z_repr : mg "repr" = none
  z_str : mg "str" = none
  z_tuple : mg "tuple" = none
/-! ### what is a tree: the small defs -/
mutual
def fit : PyData → Bool
  | .str z => decide (z.length ≤ 10000) && PyData.strOk z
  | .list ds => decide (ds.length ≤ 10000) && fitAll ds
  | .tuple ds => decide (ds.length ≤ 10000) && fitAll ds
  | .dict _ => false
  | _ => true
def fitAll : List PyData → Bool
  | [] => true
  | d :: ds => fit d && fitAll ds
end
theorem fit_str {z : Str} (h : fit (.str z) = true) : z.length ≤ 10000 := by
  unfold fit at h
  rw [Bool.and_eq_true] at h
  exact of_decide_eq_true h.1
theorem fitAll_c {d : PyData} {ds : List PyData} (h : fitAll (d :: ds) = true) : fit d = true ∧ fitAll ds = true := by
  unfold fitAll at h
  rwa [Bool.and_eq_true] at h
theorem fit_tup {ds : List PyData} (h : fit (.tuple ds) = true) : ds.length ≤ 10000 ∧ fitAll ds = true := by
  unfold fit at h
  rw [Bool.and_eq_true] at h
  exact ⟨of_decide_eq_true h.1, h.2⟩
def tyName : PyData → String
  | .none => "NoneType"
  | .bool _ => "bool"
  | .int _ => "int"
  | .str _ => "str"
  | .list _ => "list"
  | .tuple _ => "tuple"
  | .dict _ => "dict"
theorem tyx_dp {K : PySem.W.Frag} {H : Hp} {v : V} {d : PyData} (h : Dp K H v d) : TyX K H v (.type (tyName d)) := by
  cases h with
  | non => exact .base .non
  | bl b => exact .base (.bl b)
  | int i => exact .base (.int i)
  | str x => exact .base (.str x)
  | lst q r =>
    rcases q with (q | ⟨o, q⟩) | ⟨o, its, n, e, c, _⟩
    · exact .base (.lst q)
    · exact .base (.frz q)
    · exact .kList e c
  | tup q r =>
    rcases q with (q | ⟨o, q⟩) | ⟨o, its, n, e, c, _⟩
    · exact .base (.tup q)
    · exact .fTuple q
    · exact .kTuple e c
theorem isi {K : PySem.W.Frag} {H : Hp} {v : V} {d : PyData} {T : String} {b : Bool} {Q : VK} (h : Dp K H v d) (hb : kitB (tyName d) T = some b) (q : Q (.bl b) H) : rIsi K [v, .ty T] H Q :=
  ⟨v, .ty T, _, _, b, rfl, .ty T, tyx_dp h, kit_ty hb, q⟩
theorem kit_str (d : PyData) : kitB (tyName d) "str" = some (isStr d) := by
  cases d
  · exact (by decide +kernel : kitB "NoneType" "str" = some false)
  · exact (by decide +kernel : kitB "bool" "str" = some false)
  · exact (by decide +kernel : kitB "int" "str" = some false)
  · exact (by decide +kernel : kitB "str" "str" = some true)
  · exact (by decide +kernel : kitB "list" "str" = some false)
  · exact (by decide +kernel : kitB "tuple" "str" = some false)
  · exact (by decide +kernel : kitB "dict" "str" = some false)
theorem kit_int (d : PyData) : kitB (tyName d) "int" = some (isInt d) := by
  cases d
  · exact (by decide +kernel : kitB "NoneType" "int" = some false)
  · exact (by decide +kernel : kitB "bool" "int" = some true)
  · exact (by decide +kernel : kitB "int" "int" = some true)
  · exact (by decide +kernel : kitB "str" "int" = some false)
  · exact (by decide +kernel : kitB "list" "int" = some false)
  · exact (by decide +kernel : kitB "tuple" "int" = some false)
  · exact (by decide +kernel : kitB "dict" "int" = some false)
theorem kit_bool (d : PyData) : kitB (tyName d) "bool" = some (isBool d) := by
  cases d
  · exact (by decide +kernel : kitB "NoneType" "bool" = some false)
  · exact (by decide +kernel : kitB "bool" "bool" = some true)
  · exact (by decide +kernel : kitB "int" "bool" = some false)
  · exact (by decide +kernel : kitB "str" "bool" = some false)
  · exact (by decide +kernel : kitB "list" "bool" = some false)
  · exact (by decide +kernel : kitB "tuple" "bool" = some false)
  · exact (by decide +kernel : kitB "dict" "bool" = some false)
theorem kit_tup (d : PyData) : kitB (tyName d) "tuple" = some (isTup d) := by
  cases d
  · exact (by decide +kernel : kitB "NoneType" "tuple" = some false)
  · exact (by decide +kernel : kitB "bool" "tuple" = some false)
  · exact (by decide +kernel : kitB "int" "tuple" = some false)
  · exact (by decide +kernel : kitB "str" "tuple" = some false)
  · exact (by decide +kernel : kitB "list" "tuple" = some false)
  · exact (by decide +kernel : kitB "tuple" "tuple" = some true)
  · exact (by decide +kernel : kitB "dict" "tuple" = some false)
theorem is_non {K : PySem.W.Frag} {H : Hp} {v : V} {d : PyData} (h : Dp K H v d) : decide (v = .non) = isNon d := by
  cases h <;> first | rfl | (rw [decide_eq_false (by intro e; cases e)]; rfl)
theorem dp_tup2 {K : PySem.W.Frag} {G : Hp} {v : V} {ds : List PyData} (h : Dp K G v (.tuple ds)) : ∃ a us, v = .ref a ∧ SqT K G a us ∧ DpAll K G us ds := by
  cases h with
  | tup q r => exact ⟨_, _, rfl, q, r⟩

def rowsV (ls : List (List Nat)) : List V := ls.map fun l => V.str (S l)
theorem atLast80 {xs : List V} {x : V} : atI (xs ++ [x]) (-1) = some x := atLast
def sp_lines_of (K : PySem.W.Frag) : Sp := fun vs H Q _ => ∃ t : List Nat, vs = [.str (S t)] ∧ t.length ≤ 1000000 ∧ ∀ H' p, Same H H' → H p = none → H' p = some (.lst (rowsV (linesL t))) → Q (.ref p) H'
theorem ok_lines_of {P : Program} {w : World} {K : PySem.W.Frag} {mg : Str → Option Value} {base : Heap} (T : Txt K mg) : FnOk P w K mg base CX0 1 T.a_lines_of T.d_lines_of ["text"] (sp_lines_of K) := by
  refine T.f_lines_of.ok sc_lines_of (fun vs H Q E h => ?_) (fun cdv A outer s H vs Q E hr h => ?_)
  · obtain ⟨t, rfl, _⟩ := h
    rfl
  · obtain ⟨t, rfl, hl, q⟩ := h
    refine ⟨_, (pss_cons (ps_set (i := 1) sc_lines_of.nd rfl (.inl rfl) (pe_split (pv 0) pe_str))
        (pss_cons (ps_if (pt_cmpR op_eq (pe_ix ix_list (pv 1) (pe_un un_neg pe_int) (fun _ _ => rfl)) pe_str (nomark _)) (pss_one (ps_delL (pv 1) (pe_un un_neg pe_int))) pss_nil)
        (pss_one (ps_ret (pv 1))))), ?_⟩
    have l10 : ("\n" : Str) = S [10] := by decide +kernel
    refine ⟨_, rfl, ⟨_, rfl⟩, _, _, rfl, rfl, by decide +kernel, by rw [S_len, sizeLine_eq]; omega, fun p np => ?_⟩
    rw [l10, CL.split_c (by decide)]
    obtain ⟨xs, x, ex⟩ : ∃ xs x, CL.pcs 10 t = xs ++ [x] := ⟨_, _, (List.dropLast_concat_getLast (CL.pcs_ne 10 t)).symm⟩
    have el : linesL t = if x = [] then xs else xs ++ [x] := by
      unfold linesL
      rw [ex, List.getLast?_concat, List.dropLast_concat]
      by_cases h : x = []
      · rw [if_pos (by rw [h]), if_pos h]
      · rw [if_neg (fun e => h (Option.some.inj e)), if_neg h]
    have hp : (upd H p (.lst (((CL.pcs 10 t).map S).map V.str))) p = some (.lst (rowsV xs ++ [V.str (S x)])) := by
      rw [upd_same, ex, List.map_append, List.map_append, List.map_map]
      rfl
    have s1 : Same H (upd H p (.lst (((CL.pcs 10 t).map S).map V.str))) := same_new np
    generalize (upd H p (.lst (((CL.pcs 10 t).map S).map V.str))) = H1 at hp s1 ⊢
    refine ⟨_, rfl, _, rfl, p, _, _, _, rfl, rfl, SqL.of hp, atLast80, rfl, _, rfl, ?_⟩
    have hx : decide (V.str (S x) = V.str ("" : Str)) = decide (x = []) := by
      rw [show ("" : Str) = S [] by decide +kernel]
      exact decide_eq_decide.mpr ⟨fun e => S_inj (V.str.inj e), fun e => by rw [e]⟩
    rw [hx]
    cases h0 : decide (x = []) with
    | true =>
      have h0' := of_decide_eq_true h0
      rw [if_pos h0'] at el
      refine iteT ⟨_, rfl, _, rfl, p, _, _, (rowsV xs).length, rfl, rfl, hp, by decide, by decide, ?_, ?_⟩
      · unfold seqIndex?
        rw [List.length_append, List.length_singleton]
        simp
        omega
      · refine ⟨_, rfl, ?_⟩
        have e3 : (rowsV xs ++ [V.str (S x)]).eraseIdx (rowsV xs).length = rowsV xs := by
          rw [List.eraseIdx_append_of_length_le (Nat.le_refl _), Nat.sub_self]
          exact List.append_nil _
        rw [e3]
        refine q _ _ (fun b o e => ?_) np (by rw [el]; exact upd_same)
        rw [upd_ne (ne_of_none e np)]
        exact s1 _ _ e
    | false =>
      have h0' := of_decide_eq_false h0
      rw [if_neg h0'] at el
      refine iteF ⟨_, rfl, q _ _ s1 np ?_⟩
      rw [hp, el]
      unfold rowsV
      rw [List.map_append]
      rfl
def sp_check_source (K : PySem.W.Frag) : Sp := fun vs H Q _ => ∃ z : Str, vs = [.str z] ∧ Q .non H
theorem ok_check_source {P : Program} {w : World} {K : PySem.W.Frag} {mg : Str → Option Value} {base : Heap} (T : Txt K mg) : FnOk P w K mg base CX0 1 T.a_check_source T.d_check_source ["text"] (sp_check_source K) := by
  refine T.f_check_source.ok sc_check_source (fun vs H Q E h => ?_) (fun cdv A outer s H vs Q E hr h => ?_)
  · obtain ⟨z, rfl, _⟩ := h
    rfl
  · obtain ⟨z, rfl, q⟩ := h
    refine ⟨_, (pss_one (ps_if (pt_not (pt_val (pe_callB call_isi (by rfl) T.z_isinstance (by decide +kernel) (pa_cons (pv 0) (pa_cons (pe_bltn (v := .ty "str") (by rfl) T.z_str (by decide +kernel) rfl) pa_nil))))) (pss_one ps_dead) pss_nil)), ?_⟩
    exact ⟨_, rfl, _, .ty "str", _, _, _, rfl, .ty "str", tyx_dp (.str z), kit_ty (kit_str (.str z)), ⟨_, rfl, iteF q⟩⟩
def sp_is_integer_to (K : PySem.W.Frag) : Sp := fun vs H Q _ => ∃ a b c : Int, vs = [.int a, .int b, .int c] ∧ a ≤ c ∧ c ≤ b ∧ Q (.bl true) H
theorem ok_is_integer_to {P : Program} {w : World} {K : PySem.W.Frag} {mg : Str → Option Value} {base : Heap} (T : Txt K mg) : FnOk P w K mg base CX0 1 T.a_is_integer_to T.d_is_integer_to ["least", "most", "thing"] (sp_is_integer_to K) := by
  refine T.f_is_integer_to.ok sc_is_integer_to (fun vs H Q E h => ?_) (fun cdv A outer s H vs Q E hr h => ?_)
  · obtain ⟨a, b, c, rfl, _⟩ := h
    rfl
  · obtain ⟨a, b, c, rfl, h1, h2, q⟩ := h
    refine ⟨_, (pss_one (ps_ret (pe_and (pe_callB call_isi (by rfl) T.z_isinstance (by decide +kernel) (pa_cons (pv 2) (pa_cons (pe_bltn (v := .ty "int") (by rfl) T.z_int (by decide +kernel) rfl) pa_nil))) (pe_and (pe_not (pe_callB call_isi (by rfl) T.z_isinstance (by decide +kernel) (pa_cons (pv 2) (pa_cons (pe_bltn (v := .ty "bool") (by rfl) T.z_bool (by decide +kernel) rfl) pa_nil)))) (pe_one (pe_chain op_le op_le (pv 0) (pv 2) (pv 1))))))), ?_⟩
    refine ⟨_, rfl, _, .ty "int", _, _, _, rfl, .ty "int", tyx_dp (.int c), kit_ty (kit_int (.int c)), ⟨_, rfl, ?_⟩⟩
    refine iteT ⟨_, rfl, _, .ty "bool", _, _, _, rfl, .ty "bool", tyx_dp (.int c), kit_ty (kit_bool (.int c)), ⟨_, rfl, _, rfl, iteT ?_⟩⟩
    refine ⟨_, rfl, _, rfl, _, _, rfl, rfl, _, rfl, ifT (decide_eq_true h1) ⟨_, rfl, _, _, rfl, rfl, ?_⟩⟩
    show Q (V.bl (decide (c ≤ b))) H
    rw [decide_eq_true h2]
    exact q
def sp_is_line (K : PySem.W.Frag) : Sp := fun vs H Q _ => ∃ l : List Nat, vs = [.str (S l)] ∧ 10 ∉ l ∧ Q (.bl true) H
theorem ok_is_line {P : Program} {w : World} {K : PySem.W.Frag} {mg : Str → Option Value} {base : Heap} (T : Txt K mg) : FnOk P w K mg base CX0 1 T.a_is_line T.d_is_line ["thing"] (sp_is_line K) := by
  refine T.f_is_line.ok sc_is_line (fun vs H Q E h => ?_) (fun cdv A outer s H vs Q E hr h => ?_)
  · obtain ⟨l, rfl, _⟩ := h
    rfl
  · obtain ⟨l, rfl, hl, q⟩ := h
    refine ⟨_, (pss_one (ps_ret (pe_and (pe_callB call_isi (by rfl) T.z_isinstance (by decide +kernel) (pa_cons (pv 0) (pa_cons (pe_bltn (v := .ty "str") (by rfl) T.z_str (by decide +kernel) rfl) pa_nil))) (pe_one (pe_cmpR op_notIn_sign pe_str (pv 0) (by rfl)))))), ?_⟩
    refine ⟨_, rfl, _, .ty "str", _, _, _, rfl, .ty "str", tyx_dp (.str (S l)), kit_ty (kit_str (.str (S l))), ⟨_, rfl, iteT ?_⟩⟩
    refine ⟨_, rfl, 10, _, by rw [show ("\n" : Str) = S [10] by decide +kernel]; rfl, rfl, ?_⟩
    show Q (V.bl !decide (10 ∈ (S l).cps.toList)) H
    rw [S_tl, decide_eq_false hl]
    exact q

theorem tyx_tup {K : PySem.W.Frag} {H : Hp} {a : Addr} {xs : List V} (q : SqT K H a xs) : TyX K H (.ref a) (.type "tuple") := by
  rcases q with (q | ⟨o, q⟩) | ⟨o, its, n, e, c, _⟩
  · exact .base (.tup q)
  · exact .fTuple q
  · exact .kTuple e c
theorem tyx_lst {K : PySem.W.Frag} {H : Hp} {a : Addr} {xs : List V} (q : SqL K H a xs) : TyX K H (.ref a) (.type "list") := by
  rcases q with (q | ⟨o, q⟩) | ⟨o, its, n, e, c, _⟩
  · exact .base (.lst q)
  · exact .base (.frz q)
  · exact .kList e c
theorem k_tt : kitB "tuple" "tuple" = some true := by decide +kernel
def SqB (K : PySem.W.Frag) (H : Hp) (b : Addr) (lst : Bool) (xs : List V) : Prop := if lst = true then SqL K H b xs else SqT K H b xs
theorem SqB.same {K : PySem.W.Frag} {H H' : Hp} {b : Addr} {lst : Bool} {xs : List V} (h : SqB K H b lst xs) (s : Same H H') : SqB K H' b lst xs := by
  unfold SqB at h ⊢
  cases lst with
  | true => exact s.seq h
  | false => exact same_tup s h
theorem SqB.or {K : PySem.W.Frag} {H : Hp} {b : Addr} {lst : Bool} {xs : List V} (h : SqB K H b lst xs) : SqL K H b xs ∨ SqT K H b xs := by
  unfold SqB at h
  cases lst with
  | true => exact .inl h
  | false => exact .inr h
def EdIs (K : PySem.W.Frag) (H : Hp) (v : V) (f m : Nat) (lst : Bool) (ls : List (List Nat)) : Prop := ∃ e b, v = .ref e ∧ SqT K H e [.int (f : Int), .int (m : Int), .ref b] ∧ SqB K H b lst (rowsV ls)
theorem EdIs.same {K : PySem.W.Frag} {H H' : Hp} {v : V} {f m : Nat} {lst : Bool} {ls : List (List Nat)} (h : EdIs K H v f m lst ls) (s : Same H H') : EdIs K H' v f m lst ls := by
  obtain ⟨e, b, rfl, h1, h2⟩ := h
  exact ⟨e, b, rfl, same_tup s h1, h2.same s⟩
def sp_wrong_index (K : PySem.W.Frag) : Sp := fun vs H Q _ => ∃ (n : Nat) (v : V) (f m : Nat) (lst : Bool) (ls : List (List Nat)), vs = [.int (n : Int), v] ∧ EdIs K H v f m lst ls ∧ f + m ≤ n ∧ (∀ l ∈ ls, 10 ∉ l) ∧ ls.length ≤ 100000 ∧ ∀ H', Same H H' → Q .non H'
theorem ok_wrong_index {P : Program} {w : World} {K : PySem.W.Frag} {mg : Str → Option Value} {base : Heap} (T : Txt K mg) : FnOk P w K mg base CX0 2 T.a_wrong_index T.d_wrong_index ["many_lines", "edit"] (sp_wrong_index K) := by
  refine T.f_wrong_index.ok sc_wrong_index (fun vs H Q E h => ?_) (fun cdv A outer s H vs Q E hr h => ?_)
  · obtain ⟨n, v, f, m, lst, ls, rfl, _⟩ := h
    rfl
  · obtain ⟨n, v, f, m, lst, ls, rfl, ⟨e, b, rfl, he, hb⟩, hfm, hls, hlen, q⟩ := h
    refine ⟨_, (pss_cons (ps_if (PW.pt (pw_or (pt_not (pt_val (pe_callB call_isi (by rfl) T.z_isinstance (by decide +kernel) (pa_cons (pv 1) (pa_cons (pe_bltn (v := .ty "tuple") (by rfl) T.z_tuple (by decide +kernel) rfl) pa_nil))))) (pw_or1 (pt_cmpR op_ne (pe_callB call_len_seq (by rfl) T.z_len PySem.boot_len (pa_cons (pv 1) pa_nil)) pe_int (nomark _))))) (pss_one (ps_ret (pe_un un_neg pe_int))) pss_nil)
        (pss_cons (ps_asg (pv 1) (pg_tup (by rfl) (pgs_cons (pg_name (i := 2) sc_wrong_index.nd rfl (.inl rfl)) (pgs_cons (pg_name (i := 3) sc_wrong_index.nd rfl (.inl rfl)) (pgs_cons (pg_name (i := 4) sc_wrong_index.nd rfl (.inl rfl)) pgs_nil)))))
        (pss_cons (ps_if (pt_not (pt_val (pe_call (ok_is_integer_to T) (hr.mono (by decide)) (by rfl) T.g_is_integer_to T.f_is_integer_to.kp T.b_is_integer_to .nil pass0 (pa_cons pe_int (pa_cons (pv 0) (pa_cons (pv 2) pa_nil)))))) (pss_one (ps_ret pe_int)) pss_nil)
        (pss_cons (ps_if (pt_not (pt_val (pe_call (ok_is_integer_to T) (hr.mono (by decide)) (by rfl) T.g_is_integer_to T.f_is_integer_to.kp T.b_is_integer_to .nil pass0 (pa_cons pe_int (pa_cons (pe_op op_sub (pv 0) (pv 2)) (pa_cons (pv 3) pa_nil)))))) (pss_one (ps_ret pe_int)) pss_nil)
        (pss_cons (ps_if (PW.pt (pw_or (pt_not (pt_val (pe_callB call_isiT (by rfl) T.z_isinstance (by decide +kernel) (pa_cons (pv 4) (pa_cons (pe_tup (pa_cons (pe_bltn (v := .ty "list") (by rfl) T.z_list (by decide +kernel) rfl) (pa_cons (pe_bltn (v := .ty "tuple") (by rfl) T.z_tuple (by decide +kernel) rfl) pa_nil))) pa_nil))))) (pw_or1 (pt_not (pt_val (pe_callB (cr_all rfl) (by rfl) T.z_all (by decide +kernel) (pa_cons (pe_lc (own := [("line", 5)]) (g := (gName 5)) (tt := tYes) (by rfl) sc_wrong_index.nd (pi_or (pi_list (pv 4)) (pi_tup (pv 4))) (blkOk_by (own := [("line", 5)]) (N := ["many_lines", "edit", "first", "many", "lines", "line"]) (sc := defScope s_wrong_index) (by decide +kernel)) (fun _ _ _ _ _ => (pg_name (i := 5) sc_wrong_index.nd rfl (Or.inl rfl))) (fun _ _ _ _ _ => pts_nil) (fun _ _ _ _ _ => (pe_call (ok_is_line T) (hr.mono (by decide)) (by rfl) T.g_is_line T.f_is_line.kp T.b_is_line .nil pass0 (pa_cons (pv 5) pa_nil)))) pa_nil))))))) (pss_one (ps_ret pe_int)) pss_nil)
        (pss_one (ps_ret pe_non))))))), ?_⟩
    refine ⟨_, rfl, _, .ty "tuple", _, _, _, rfl, .ty "tuple", tyx_tup he, kit_ty k_tt, ⟨_, rfl, iteF ?_⟩⟩
    refine ⟨_, rfl, e, _, rfl, .inr he, rfl, _, rfl, ifF (by simp) (go_nx ?_)⟩
    refine ⟨_, rfl, e, _, rfl, he, rfl, ?_⟩
    refine ⟨_, _, rfl, _, _, rfl, _, _, rfl, rfl, ?_⟩
    refine ⟨_, rfl, _, rfl, 0, n, f, rfl, by omega, by omega, ⟨_, rfl, iteF (go_nx ?_)⟩⟩
    refine ⟨_, rfl, _, rfl, _, _, rfl, rfl, _, rfl, 0, (n : Int) - f, m, rfl, by omega, by omega, ⟨_, rfl, iteF (go_nx ?_)⟩⟩
    refine ⟨_, rfl, (by show 2 ≤ sizeLine; decide), fun p np => ⟨_, p, _, .type (if lst = true then "list" else "tuple"), _, true, rfl, upd_same, .cons (.ty "list") (.cons (.ty "tuple") .nil), ?_, ?_, ⟨_, rfl, iteF ?_⟩⟩⟩
    · have hb2 := hb.same (same_new (o := .tup [V.ty "list", V.ty "tuple"]) np)
      unfold SqB at hb2
      cases lst with
      | true => exact tyx_lst hb2
      | false => exact tyx_tup hb2
    · cases lst with
      | true => exact kitAny_cons (b := true) (r := true) (kit_ty (by decide +kernel : kitB "list" "list" = some true)) (fun e => nomatch e) (fun _ => rfl)
      | false => exact kitAny_cons (b := false) (r := true) (kit_ty (by decide +kernel : kitB "tuple" "list" = some false)) (fun _ => kitAny_cons (b := true) (kit_ty k_tt) (fun e => nomatch e) (fun _ => rfl)) (fun e => nomatch e)
    have s1 : Same H (upd H p (.tup [V.ty "list", V.ty "tuple"])) := same_new np
    generalize (upd H p (.tup [V.ty "list", V.ty "tuple"])) = H1 at s1 ⊢
    have hb1 := hb.same s1
    unfold SqB at hb1
    have step : ∀ (D : Addr) (i : Nat) (x : V) (H' : Hp), (rowsV ls)[i]? = some x → (Same H1 H' ∧ H' D = some (.lst (List.replicate i (V.bl true)))) → H1 D = none → ∃ l, x = .str (S l) ∧ 10 ∉ l ∧ ∃ acc, H' D = some (.lst acc) ∧ acc.length < sizeLine ∧ (Same H1 (upd H' D (.lst (acc ++ [V.bl true]))) ∧ (upd H' D (.lst (acc ++ [V.bl true]))) D = some (.lst (List.replicate (i + 1) (V.bl true)))) := fun D i x H' hi h nD => by
      unfold rowsV at hi
      rw [List.getElem?_map] at hi
      cases el : ls[i]? with
      | none => rw [el] at hi; cases hi
      | some l =>
        rw [el] at hi
        cases hi
        have hil := (List.getElem?_eq_some_iff.mp el).1
        refine ⟨l, rfl, hls l (List.mem_of_getElem? el), _, h.2, by rw [List.length_replicate, sizeLine_eq]; omega, fun b o e => ?_, by rw [upd_same, List.replicate_succ']⟩
        rw [upd_ne (ne_of_none e nD)]
        exact h.1 _ _ e
    have fin : ∀ (D : Addr) (H' : Hp), (Same H1 H' ∧ H' D = some (.lst (List.replicate (rowsV ls).length (V.bl true)))) → ∃ (a : Addr) (bs : List Bool), [V.ref D] = [V.ref a] ∧ SqL K H' a (bs.map V.bl) ∧ bs.all id = true := fun D H' h => ⟨D, List.replicate (rowsV ls).length true, rfl, by rw [List.map_replicate]; exact SqL.of h.2, by simp⟩
    cases lst with
    | true =>
      rw [if_pos rfl] at hb1
      refine .inl ⟨_, rfl, b, rfl, ⟨_, hb1⟩, fun D nD => ?_⟩
      refine lc_list (K := K) (a := b) (xs := rowsV ls) (fun i H' => Same H1 H' ∧ H' D = some (.lst (List.replicate i (V.bl true)))) ⟨same_new nD, upd_same⟩ (fun i H' _ h => h.1.seq hb1) ?_ ?_
      · rintro i x H' hi h
        obtain ⟨l, rfl, hl, g⟩ := step D i x H' hi h nD
        exact ⟨rfl, _, rfl, l, rfl, hl, g⟩
      · rintro H' h
        obtain ⟨a, bs, e1, e2, e3⟩ := fin D H' h
        refine ⟨a, bs, e1, e2, ?_⟩
        rw [e3]
        exact ⟨_, rfl, iteF (go_nx (q _ (s1.trans h.1)))⟩
    | false =>
      rw [if_neg Bool.false_ne_true] at hb1
      refine .inr ⟨_, rfl, b, rfl, ⟨_, hb1⟩, fun D nD => ?_⟩
      refine lc_tup (K := K) (a := b) (xs := rowsV ls) (fun i H' => Same H1 H' ∧ H' D = some (.lst (List.replicate i (V.bl true)))) ⟨same_new nD, upd_same⟩ (fun i H' _ h => same_tup h.1 hb1) ?_ ?_
      · rintro i x H' hi h
        obtain ⟨l, rfl, hl, g⟩ := step D i x H' hi h nD
        exact ⟨rfl, _, rfl, l, rfl, hl, g⟩
      · rintro H' h
        obtain ⟨a, bs, e1, e2, e3⟩ := fin D H' h
        refine ⟨a, bs, e1, e2, ?_⟩
        rw [e3]
        exact ⟨_, rfl, iteF (go_nx (q _ (s1.trans h.1)))⟩
def sp_check_edit (K : PySem.W.Frag) : Sp := fun vs H Q _ => ∃ (t : List Nat) (v : V) (f m : Nat) (lst : Bool) (ls : List (List Nat)), vs = [.str (S t), v] ∧ t.length ≤ 1000000 ∧ EdIs K H v f m lst ls ∧ f + m ≤ (linesL t).length ∧ (∀ l ∈ ls, 10 ∉ l) ∧ ls.length ≤ 100000 ∧ ∀ H', Same H H' → Q .non H'
theorem ok_check_edit {P : Program} {w : World} {K : PySem.W.Frag} {mg : Str → Option Value} {base : Heap} (T : Txt K mg) : FnOk P w K mg base CX0 3 T.a_check_edit T.d_check_edit ["text", "edit"] (sp_check_edit K) := by
  refine T.f_check_edit.ok sc_check_edit (fun vs H Q E h => ?_) (fun cdv A outer s H vs Q E hr h => ?_)
  · obtain ⟨t, v, f, m, lst, ls, rfl, _⟩ := h
    rfl
  · obtain ⟨t, v, f, m, lst, ls, rfl, ht, he, hfm, hls, hlen, q⟩ := h
    refine ⟨_, (pss_cons (ps_expr (pe_call (ok_check_source T) (hr.mono (by decide)) (by rfl) T.g_check_source T.f_check_source.kp T.b_check_source .nil pass0 (pa_cons (pv 0) pa_nil)))
        (pss_cons (ps_set (i := 2) sc_check_edit.nd rfl (.inl rfl) (pe_call (ok_wrong_index T) (hr.mono (by decide)) (by rfl) T.g_wrong_index T.f_wrong_index.kp T.b_wrong_index .nil pass0 (pa_cons (pe_callB call_len_seq (by rfl) T.z_len PySem.boot_len (pa_cons (pe_call (ok_lines_of T) (hr.mono (by decide)) (by rfl) T.g_lines_of T.f_lines_of.kp T.b_lines_of .nil pass0 (pa_cons (pv 0) pa_nil)) pa_nil)) (pa_cons (pv 1) pa_nil))))
        (pss_one (ps_if (pt_cmpR op_notN (pv 2) pe_non (nomark _)) (pss_one ps_dead) pss_nil)))), ?_⟩
    refine ⟨_, rfl, S t, rfl, ?_⟩
    refine ⟨_, rfl, t, rfl, ht, fun H1 p s1 np hp => ?_⟩
    refine ⟨p, _, rfl, .inl (SqL.of hp), _, rfl, (linesL t).length, v, f, m, lst, ls, by rw [show (rowsV (linesL t)).length = (linesL t).length from List.length_map ..]; rfl, he.same s1, hfm, hls, hlen, fun H2 s2 => ?_⟩
    exact ⟨_, rfl, rfl, _, rfl, iteF (go_nx (q _ (s1.trans s2)))⟩

theorem sum_S (ls : List (List Nat)) : ((ls.map S).map (·.length)).sum = ls.flatten.length := by
  rw [List.length_flatten, List.map_map]
  refine congrArg List.sum ?_
  exact List.map_congr_left fun l _ => S_len l
theorem lit_em : ("" : Str) = S [] := by decide +kernel
/-! ### texts put together -/
/-- an expression gives a text -/
def SR (G : Hp) (σ : L2.St) (te : TE) (l : List Nat) : Prop := l.length ≤ 16000000 → ∀ H Q, Same G H → (∀ H', Same H H' → Q (.str (S l)) H') → te σ H Q
section
variable {K : PySem.W.Frag} {G H : Hp} {σ : L2.St} {te ta tb : TE} {a b l : List Nat}
theorem sr_lit {s : String} : SR G σ (tC (.str (Str.ofString s))) (cs s) := fun _ H Q _ q => by
  have := q H (Same.refl _)
  rw [← lit] at this
  exact this
theorem sr_var {i : Nat} (h : σ[i]? = some (some (.str (S l)))) : SR G σ (tVar i) l := fun _ H Q _ q => ⟨_, h, q H (Same.refl _)⟩
theorem sr_add (h : SR G σ ta a) (g : SR G σ tb b) : SR G σ (tOp (fun x y H Q => ∃ i j, x = .str i ∧ y = .str j ∧ i.length + j.length ≤ sizeLine ∧ Q (.str (i ++ j)) H) ta tb) (a ++ b) := fun n H Q s q => by
  rw [List.length_append] at n
  exact h (by omega) H _ s fun H1 s1 => g (by omega) H1 _ (s.trans s1) fun H2 s2 => ⟨S a, S b, rfl, rfl, by
    rw [S_len, S_len, sizeLine_eq]
    omega, by
    rw [S_app]
    exact q H2 (s1.trans s2)⟩
theorem sr_tup {i : Nat} {j : Nat} {p : Addr} {vs : List V} (h : σ[i]? = some (some (.ref p))) (ht : SqT K G p vs) (hj : vs[j]? = some (.str (S l))) : SR G σ (tOp (rIxT K) (tVar i) (tC (.int (j : Nat)))) l := fun _ H Q s q => ⟨_, h, p, vs, _, _, rfl, rfl, same_tup s ht, atI_nat hj, q H (Same.refl _)⟩
theorem sr_lst {i : Nat} {j : Nat} {p : Addr} {vs : List V} (h : σ[i]? = some (some (.ref p))) (ht : SqL K G p vs) (hj : vs[j]? = some (.str (S l))) : SR G σ (tOp (rIxL K) (tVar i) (tC (.int (j : Nat)))) l := fun _ H Q s q => ⟨_, h, p, vs, _, _, rfl, rfl, s.seq ht, atI_nat hj, q H (Same.refl _)⟩
theorem SR.eq (h : SR G σ te a) (e : a = b) : SR G σ te b := e ▸ h
theorem sr_ret {Q : VK} (h : SR H σ te l) (n : l.length ≤ 16000000) (q : ∀ H', Same H H' → Q (.str (S l)) H') : te σ H Q := h n H Q (Same.refl _) q
end
theorem join_done {K : PySem.W.Frag} {Q : VK} {H : Hp} {D : Addr} {fs : List (List Nat)} (hD : H D = some (.lst (fs.map fun l => V.str (S l)))) (n : fs.flatten.length ≤ 16000000) (q : Q (.str (S fs.flatten)) H) :
    ∃ a p, ∃ ys : List Str, V.str "" = .str a ∧ [V.ref D] = [V.ref p] ∧ (SqL K H p (ys.map V.str) ∨ SqT K H p (ys.map V.str)) ∧ (ys.map (·.length)).sum + ys.length * a.length ≤ 16777216 ∧ Q (.str (Txt.join a ys)) H := by
  have e2 : (fs.map fun l => V.str (S l)) = (fs.map S).map V.str := by
    rw [List.map_map]
    rfl
  rw [e2] at hD
  refine ⟨_, D, fs.map S, rfl, rfl, .inl (SqL.of hD), ?_, ?_⟩
  · rw [sum_S, lit_em, S_len]
    show fs.flatten.length + _ * 0 ≤ _
    omega
  · rw [lit_em, My.join_nil]
    exact q
theorem lc_texts {K : PySem.W.Frag} {a : Addr} {xs : List V} {g : TG} {te : TE} {vs : List Nat} {σ : L2.St} {H1 : Hp} {D : Addr} {Qd : Hp → Prop} (fs : List (List Nat)) (hl : xs.length = fs.length) (hs : SqL K H1 a xs) (hn : fs.length ≤ 1000000) (nD : H1 D = none)
    (step : ∀ (i : Nat) (x : V) (l : List Nat) (H : Hp) (Qv : VK), xs[i]? = some x → fs[i]? = some l → Same H1 H → (∀ H', Same H H' → Qv (.str (S l)) H') → g x (wipe σ vs) H fun σ2 H2 => wipe σ2 vs = wipe σ vs ∧ te σ2 H2 Qv)
    (done : ∀ H, Same H1 H → H D = some (.lst (fs.map fun l => V.str (S l))) → Qd H) :
    ∃ W : Nat → Nat → Hp → Prop, (∃ m, W 0 m (upd H1 D (.lst []))) ∧ ∀ i m H, W i m H →
      ((Itl K a).stop i H ∧ Qd H) ∨ ((Itl K a).go i H ∧ ∃ Nx : Hp → Prop, (∀ H', Nx H' → ∃ m', m' < m ∧ W (i + 1) m' H') ∧ ∀ x H', (Itl K a).yld i H x H' → g x (wipe σ vs) H' fun σ2 H2 => wipe σ2 vs = wipe σ vs ∧ tYes σ2 H2 fun b H3 =>
        if b = true then te σ2 H3 fun y H4 => ∃ acc, H4 D = some (.lst acc) ∧ acc.length < sizeLine ∧ Nx (upd H4 D (.lst (acc ++ [y]))) else Nx H3) := by
  refine lc_list (K := K) (a := a) (xs := xs) (fun i H => Same H1 H ∧ H D = some (.lst ((fs.take i).map fun l => V.str (S l)))) ⟨same_new nD, upd_same⟩ (fun i H _ h => h.1.seq hs) ?_ ?_
  · rintro i x H hi ⟨s1, hD⟩
    have hlt : i < fs.length := by rw [← hl]; exact (List.getElem?_eq_some_iff.mp hi).1
    have hf := List.getElem?_eq_getElem hlt
    have := step i x fs[i] H (fun y H4 => ∃ acc, H4 D = some (.lst acc) ∧ acc.length < sizeLine ∧ (Same H1 (upd H4 D (.lst (acc ++ [y]))) ∧ (upd H4 D (.lst (acc ++ [y]))) D = some (.lst ((fs.take (i + 1)).map fun l => V.str (S l))))) hi hf s1 fun H' s2 => by
      refine ⟨_, s2 _ _ hD, by rw [List.length_map, List.length_take, sizeLine_eq]; omega, fun b o e => ?_, ?_⟩
      · rw [upd_ne (ne_of_none e nD)]
        exact s2 _ _ (s1 _ _ e)
      · rw [upd_same, List.take_add_one, hf, List.map_append]
        rfl
    exact this
  · rintro H ⟨s1, hD⟩
    rw [hl, List.take_length] at hD
    exact done H s1 hD

theorem cut_to {xs : List V} {n : Nat} (h : n ≤ xs.length) : cutV xs none (some (n : Int)) = xs.take n := by
  unfold cutV
  rw [HT.sIx_none, HT.sIx_nat, List.drop_zero, Nat.sub_zero, Nat.min_eq_left h]
theorem cut_from {xs : List V} {n : Nat} (h : n ≤ xs.length) : cutV xs (some (n : Int)) none = xs.drop n := by
  unfold cutV
  rw [HT.sIx_none, HT.sIx_nat, Nat.min_eq_left h, List.take_of_length_le (by rw [List.length_drop]; omega)]
theorem cut_mid {xs : List V} {n m : Nat} (h : m ≤ xs.length) (hn : n ≤ m) : cutV xs (some (n : Int)) (some (m : Int)) = (xs.drop n).take (m - n) := by
  unfold cutV
  rw [HT.sIx_nat, HT.sIx_nat, Nat.min_eq_left (by omega : n ≤ xs.length), Nat.min_eq_left h]
theorem rows_take (ls : List (List Nat)) (n : Nat) : (rowsV ls).take n = rowsV (ls.take n) := by
  unfold rowsV
  rw [List.map_take]
theorem rows_drop (ls : List (List Nat)) (n : Nat) : (rowsV ls).drop n = rowsV (ls.drop n) := by
  unfold rowsV
  rw [List.map_drop]
theorem rows_app (a b : List (List Nat)) : rowsV a ++ rowsV b = rowsV (a ++ b) := by
  unfold rowsV
  rw [List.map_append]
theorem rows_len (ls : List (List Nat)) : (rowsV ls).length = ls.length := List.length_map ..
/-! ### lists of lines read off expressions -/
def LR (K : PySem.W.Frag) (G : Hp) (σ : L2.St) (te : TE) (ls : List (List Nat)) : Prop := ∀ H Q, Same G H → (∀ H' p, Same H H' → H' p = some (.lst (rowsV ls)) → Q (.ref p) H') → te σ H Q
def NR (σ : L2.St) (tn : TE) (n : Nat) : Prop := ∀ (H : Hp) (Q : VK), Q (.int (n : Int)) H → tn σ H Q
section
variable {K : PySem.W.Frag} {G : Hp} {σ : L2.St} {te ta tb tn tm : TE} {ls a b : List (List Nat)} {n m i : Nat}
theorem nr_var (hs : σ[i]? = some (some (.int (n : Int)))) : NR σ (tVar i) n := fun H Q q => ⟨_, hs, q⟩
theorem nr_is {z : Int} (e : z = (n : Int)) : NR σ (tC (.int z)) n := fun H Q q => by
  subst e
  exact q
theorem nr_add (h : NR σ ta n) (g : NR σ tb m) : NR σ (tOp (rI0 fun i j => V.int (i + j)) ta tb) (n + m) := fun H Q q => h H _ (g H _ ⟨_, _, rfl, rfl, by
  have e : ((n + m : Nat) : Int) = (n : Int) + (m : Int) := by omega
  rw [e] at q
  exact q⟩)
theorem lr_var {p : Addr} (hs : σ[i]? = some (some (.ref p))) (h : G p = some (.lst (rowsV ls))) : LR K G σ (tVar i) ls := fun H Q s q => ⟨_, hs, q H p (Same.refl _) (s _ _ h)⟩
theorem lr_to (h : LR K G σ te ls) (g : NR σ tn n) (hn : n ≤ ls.length) : LR K G σ (tSl (rSlL K) te tNoPart (tPart tn)) (ls.take n) := fun H Q s q => h H _ s fun H1 p s1 hp => g H1 _ ⟨_, rfl, p, _, rfl, SqL.of hp, fun p2 np2 => q _ p2 (s1.trans (same_new np2)) (by rw [upd_same, cut_to (by rw [rows_len]; exact hn), rows_take])⟩
theorem lr_from (h : LR K G σ te ls) (g : NR σ tn n) (hn : n ≤ ls.length) : LR K G σ (tSl (rSlL K) te (tPart tn) tNoPart) (ls.drop n) := fun H Q s q => h H _ s fun H1 p s1 hp => g H1 _ ⟨_, rfl, p, _, rfl, SqL.of hp, fun p2 np2 => q _ p2 (s1.trans (same_new np2)) (by rw [upd_same, cut_from (by rw [rows_len]; exact hn), rows_drop])⟩
theorem lr_mid (h : LR K G σ te ls) (g : NR σ tn n) (g2 : NR σ tm m) (hm : m ≤ ls.length) (hn : n ≤ m) : LR K G σ (tSl (rSlL K) te (tPart tn) (tPart tm)) ((ls.drop n).take (m - n)) := fun H Q s q => h H _ s fun H1 p s1 hp => g H1 _ ⟨_, rfl, g2 H1 _ ⟨_, rfl, p, _, rfl, SqL.of hp, fun p2 np2 => q _ p2 (s1.trans (same_new np2)) (by rw [upd_same, cut_mid (by rw [rows_len]; exact hm) hn, rows_drop, rows_take])⟩⟩
theorem lr_of {b : Addr} {lst : Bool} (hs : σ[i]? = some (some (.ref b))) (h : SqB K G b lst (rowsV ls)) : LR K G σ (tCB (fun xs H Q => ∃ p ys, xs = [.ref p] ∧ (SqL K H p ys ∨ SqT K H p ys) ∧ ∀ l, H l = none → Q (.ref l) (upd H l (.lst ys))) (tCons (tVar i) tNil)) ls := fun H Q s q => ⟨_, hs, b, _, rfl, (h.same s).or, fun l nl => q _ l (same_new nl) upd_same⟩
theorem lr_cat (h : LR K G σ ta a) (g : LR K G σ tb b) (n : a.length + b.length ≤ 100000) : LR K G σ (tOp rCat ta tb) (a ++ b) := fun H Q s q => h H _ s fun H1 p s1 hp => g H1 _ (s.trans s1) fun H2 p2 s2 hp2 => ⟨p, p2, _, _, rfl, rfl, s2 _ _ hp, hp2, by rw [rows_len, rows_len, sizeLine_eq]; omega, fun p3 np3 => q _ p3 ((s1.trans s2).trans (same_new np3)) (by rw [upd_same, rows_app])⟩
theorem lr_rev (h : LR K G σ te ls) : LR K G σ (tRevL K te) ls.reverse := fun H Q s q => h H _ s fun H1 p s1 hp => ⟨p, _, rfl, SqL.of hp, fun p2 np2 => q _ p2 (s1.trans (same_new np2)) (by rw [upd_same]; unfold rowsV; rw [List.map_reverse])⟩
theorem lr_nil : LR K G σ (tLst tNil) [] := fun H Q s q => ⟨(by show 0 ≤ sizeLine; decide), fun p np => q _ p (same_new np) upd_same⟩
theorem lr_lines {t : List Nat} (h : SR G σ te t) (n : t.length ≤ 1000000) : LR K G σ (tCall (sp_lines_of K) [] E0 (tCons te tNil)) (linesL t) := fun H Q s q => h (by omega) H _ s fun H1 s1 => ⟨t, rfl, n, fun H2 p s2 _ hp => q H2 p (s1.trans s2) hp⟩
theorem LR.same {G' : Hp} (h : LR K G σ te ls) (s : Same G G') : LR K G' σ te ls := fun H Q s1 q => h H Q (s.trans s1) q
/-- a name that is laid -/
theorem lr_set {g : TG} {u : TS} {D : Ends} {H : Hp} (h : LR K H σ te ls) (hq : ∀ H' p, Same H H' → H' p = some (.lst (rowsV ls)) → g (.ref p) σ H' (u D)) : tSeq (tAsg te g) u D σ H := h H _ (Same.refl _) hq
end
/-- the text of lines -/
theorem sr_joinL {K : PySem.W.Frag} {G : Hp} {σ : L2.St} {te : TE} {ls : List (List Nat)} {i : Nat} (h : LR K G σ te ls) (n : ls.length ≤ 10000) (hσ : ∀ x, wipe ((wipe σ [i]).set i (some x)) [i] = wipe σ [i]) (hi : ∀ x, ((wipe σ [i]).set i (some x))[i]? = some (some x)) :
    SR G σ (tM1 (fun x xs H Q => ∃ a p, ∃ ys : List Str, x = .str a ∧ xs = [.ref p] ∧ (SqL K H p (ys.map V.str) ∨ SqT K H p (ys.map V.str)) ∧ (ys.map (·.length)).sum + ys.length * a.length ≤ 16777216 ∧ Q (.str (Txt.join a ys)) H) (tC (.str ""))
      (tLc (iList K te) (gName i) tYes (tOp (fun x y H Q => ∃ i j, x = .str i ∧ y = .str j ∧ i.length + j.length ≤ sizeLine ∧ Q (.str (i ++ j)) H) (tVar i) (tC (.str (Str.ofString "\n")))) [i])) (txtL ls) := fun nl H Q s q => by
  refine ⟨⟨_, rfl⟩, ?_⟩
  refine h H _ s fun H1 p s1 hp => ⟨p, rfl, ⟨_, SqL.of hp⟩, fun D nD => ?_⟩
  refine lc_texts (K := K) (a := p) (xs := rowsV ls) (ls.map fun l => l ++ [10]) (by rw [rows_len, List.length_map]) (SqL.of hp) (by rw [List.length_map]; omega) nD ?_ ?_
  · intro k x l H2 Qv hx hf s2 qv
    unfold rowsV at hx
    rw [List.getElem?_map] at hx hf
    cases e : ls[k]? with
    | none => rw [e] at hx; cases hx
    | some y =>
      rw [e] at hx hf
      cases hx
      cases hf
      have hy : (y ++ [10]).length ≤ (txtL ls).length := by
        have e2 : ls = ls.take k ++ y :: ls.drop (k + 1) := by
          obtain ⟨hk, e'⟩ := List.getElem?_eq_some_iff.mp e
          rw [← e', List.getElem_cons_drop hk, List.take_append_drop]
        have e3 : (txtL ls).length = (txtL (ls.take k)).length + ((y ++ [10]).length + (txtL (ls.drop (k + 1))).length) := by
          conv => lhs; rw [e2, txt_app, List.length_append]
          show _ + (y ++ [10] ++ txtL (ls.drop (k + 1))).length = _
          rw [List.length_append]
        omega
      refine ⟨hσ _, ?_⟩
      have e3 : cs "\n" = [10] := by decide +kernel
      exact SR.eq (sr_add (sr_var (hi _)) sr_lit) (by rw [e3]) (show (y ++ [10]).length ≤ 16000000 by omega) H2 _ (Same.refl _) qv
  · intro H2 s2 hD
    exact join_done hD nl (q H2 (s1.trans s2))

def edL (L ls : List (List Nat)) (f m : Nat) : List (List Nat) := L.take f ++ ls ++ L.drop (f + m)
def sp_edited (K : PySem.W.Frag) : Sp := fun vs H Q _ => ∃ (t : List Nat) (v : V) (f m : Nat) (lst : Bool) (ls : List (List Nat)), vs = [.str (S t), v] ∧ t.length ≤ 1000000 ∧ EdIs K H v f m lst ls ∧ f + m ≤ (linesL t).length ∧ (∀ l ∈ ls, 10 ∉ l) ∧ ls.length ≤ 1000 ∧ (linesL t).length ≤ 1000 ∧ (∀ l ∈ linesL t, l.length ≤ 100) ∧ (∀ l ∈ ls, l.length ≤ 100) ∧ ∀ H', Same H H' → Q (.str (S (txtL (edL (linesL t) ls f m)))) H'
theorem ok_edited {P : Program} {w : World} {K : PySem.W.Frag} {mg : Str → Option Value} {base : Heap} (T : Txt K mg) : FnOk P w K mg base CX0 4 T.a_edited T.d_edited ["text", "edit"] (sp_edited K) := by
  refine T.f_edited.ok sc_edited (fun vs H Q E h => ?_) (fun cdv A outer s H vs Q E hr h => ?_)
  · obtain ⟨t, v, f, m, lst, ls, rfl, _⟩ := h
    rfl
  · obtain ⟨t, v, f, m, lst, ls, rfl, ht, he, hfm, hls, hlen, hL, hw, hw2, q⟩ := h
    refine ⟨_, (pss_cons (ps_expr (pe_call (ok_check_edit T) (hr.mono (by decide)) (by rfl) T.g_check_edit T.f_check_edit.kp T.b_check_edit .nil pass0 (pa_cons (pv 0) (pa_cons (pv 1) pa_nil))))
        (pss_cons (ps_asg (pv 1) (pg_tup (by rfl) (pgs_cons (pg_name (i := 2) sc_edited.nd rfl (.inl rfl)) (pgs_cons (pg_name (i := 3) sc_edited.nd rfl (.inl rfl)) (pgs_cons (pg_name (i := 4) sc_edited.nd rfl (.inl rfl)) pgs_nil)))))
        (pss_cons (ps_set (i := 5) sc_edited.nd rfl (.inl rfl) (pe_call (ok_lines_of T) (hr.mono (by decide)) (by rfl) T.g_lines_of T.f_lines_of.kp T.b_lines_of .nil pass0 (pa_cons (pv 0) pa_nil)))
        (pss_one (ps_ret (pe_join pe_str (pe_lc (own := [("line", 6)]) (g := (gName 6)) (tt := tYes) (by rfl) sc_edited.nd (pi_list (pe_op op_cat (pe_op op_cat (pe_slice sl_list (pv 5) po_none (po_some (pv 2))) (pe_callTy call_list_of (by rfl) T.z_list (by decide +kernel) (pa_cons (pv 4) pa_nil))) (pe_slice sl_list (pv 5) (po_some (pe_op op_add (pv 2) (pv 3))) po_none))) (blkOk_by (own := [("line", 6)]) (N := ["text", "edit", "first", "many", "lines", "old", "line"]) (sc := defScope s_edited) (by decide +kernel)) (fun _ _ _ _ _ => (pg_name (i := 6) sc_edited.nd rfl (Or.inl rfl))) (fun _ _ _ _ _ => pts_nil) (fun _ _ _ _ _ => (pe_op op_add_str (pv 6) pe_str))))))))), ?_⟩
    refine ⟨_, rfl, _, rfl, t, v, f, m, lst, ls, rfl, ht, he, hfm, hls, by omega, fun H1 s1 => ?_⟩
    obtain ⟨e, b, rfl, he1, hb1⟩ := he.same s1
    refine ⟨_, rfl, e, _, rfl, he1, rfl, _, _, rfl, _, _, rfl, _, _, rfl, rfl, ?_⟩
    refine ⟨_, rfl, t, rfl, ht, fun H2 p s2 np hp => ?_⟩
    have hb2 := hb1.same s2
    have lV := rows_len (linesL t)
    have lI := rows_len ls
    have hb2 := hb1.same s2
    have el : (edL (linesL t) ls f m).length ≤ 2001 := by
      unfold edL
      rw [List.length_append, List.length_append, List.length_take, List.length_drop]
      omega
    refine sr_ret (sr_joinL (i := 6) (ls := edL (linesL t) ls f m) (lr_cat (lr_cat (lr_to (lr_var rfl hp) (nr_var rfl) (by omega)) (lr_of rfl hb2) (by rw [List.length_take]; omega)) (lr_from (lr_var rfl hp) (nr_add (nr_var rfl) (nr_var rfl)) hfm) (by rw [List.length_append, List.length_take, List.length_drop]; omega)) (by omega) (fun _ => rfl) (fun _ => rfl)) ?_ fun H3 s3 => q H3 ((s1.trans s2).trans s3)
    have := txt_len 100 (rows := edL (linesL t) ls f m) (fun l hl => by
      unfold edL at hl
      rcases List.mem_append.mp hl with hl | hl
      · rcases List.mem_append.mp hl with hl | hl
        · exact hw l (List.mem_of_mem_take hl)
        · exact hw2 l hl
      · exact hw l (List.mem_of_mem_drop hl))
    have h9 : (100 + 1) * (edL (linesL t) ls f m).length ≤ 101 * 2001 := Nat.mul_le_mul_left _ el
    omega
def sp_back (K : PySem.W.Frag) : Sp := fun vs H Q _ => ∃ (t : List Nat) (v : V) (f m : Nat) (lst : Bool) (ls : List (List Nat)), vs = [.str (S t), v] ∧ t.length ≤ 1000000 ∧ EdIs K H v f m lst ls ∧ f + m ≤ (linesL t).length ∧ (∀ l ∈ ls, 10 ∉ l) ∧ ls.length ≤ 1000 ∧ ∀ H' v', Same H H' → EdIs K H' v' f ls.length true (((linesL t).drop f).take m) → Q v' H'
theorem ok_back {P : Program} {w : World} {K : PySem.W.Frag} {mg : Str → Option Value} {base : Heap} (T : Txt K mg) : FnOk P w K mg base CX0 4 T.a_back T.d_back ["text", "edit"] (sp_back K) := by
  refine T.f_back.ok sc_back (fun vs H Q E h => ?_) (fun cdv A outer s H vs Q E hr h => ?_)
  · obtain ⟨t, v, f, m, lst, ls, rfl, _⟩ := h
    rfl
  · obtain ⟨t, v, f, m, lst, ls, rfl, ht, he, hfm, hls, hlen, q⟩ := h
    refine ⟨_, (pss_cons (ps_expr (pe_call (ok_check_edit T) (hr.mono (by decide)) (by rfl) T.g_check_edit T.f_check_edit.kp T.b_check_edit .nil pass0 (pa_cons (pv 0) (pa_cons (pv 1) pa_nil))))
        (pss_cons (ps_asg (pv 1) (pg_tup (by rfl) (pgs_cons (pg_name (i := 2) sc_back.nd rfl (.inl rfl)) (pgs_cons (pg_name (i := 3) sc_back.nd rfl (.inl rfl)) (pgs_cons (pg_name (i := 4) sc_back.nd rfl (.inl rfl)) pgs_nil)))))
        (pss_one (ps_ret (pe_tup (pa_cons (pv 2) (pa_cons (pe_callB call_len_seq (by rfl) T.z_len PySem.boot_len (pa_cons (pv 4) pa_nil)) (pa_cons (pe_slice sl_list (pe_call (ok_lines_of T) (hr.mono (by decide)) (by rfl) T.g_lines_of T.f_lines_of.kp T.b_lines_of .nil pass0 (pa_cons (pv 0) pa_nil)) (po_some (pv 2)) (po_some (pe_op op_add (pv 2) (pv 3)))) pa_nil)))))))), ?_⟩
    refine ⟨_, rfl, _, rfl, t, v, f, m, lst, ls, rfl, ht, he, hfm, hls, by omega, fun H1 s1 => ?_⟩
    obtain ⟨e, b, rfl, he1, hb1⟩ := he.same s1
    refine ⟨_, rfl, e, _, rfl, he1, rfl, _, _, rfl, _, _, rfl, _, _, rfl, rfl, ?_⟩
    refine ⟨_, rfl, _, rfl, b, _, rfl, hb1.or, ?_⟩
    refine lr_mid (K := K) (G := H1) (n := f) (m := f + m) (ls := linesL t) (lr_lines (sr_var rfl) ht) (nr_var rfl) (nr_add (nr_var rfl) (nr_var rfl)) hfm (by omega) H1 _ (Same.refl _) fun H2 p s2 hp => ?_
    rw [show f + m - f = m by omega] at hp
    refine ⟨(by show 3 ≤ sizeLine; decide), fun r nr => q _ _ ((s1.trans s2).trans (same_new nr)) ⟨r, p, rfl, ?_, SqL.of (same_new nr _ _ hp)⟩⟩
    rw [rows_len]
    exact SqT.of upd_same

theorem rows_at {ls : List (List Nat)} {i : Nat} {x : List Nat} (h : ls[i]? = some x) : (rowsV ls)[i]? = some (V.str (S x)) := by
  unfold rowsV
  rw [List.getElem?_map, h]
  rfl
theorem dec_row (x y : List Nat) : decide (V.str (S x) = V.str (S y)) = decide (x = y) := decide_eq_decide.mpr ⟨fun e => S_inj (V.str.inj e), fun e => by rw [e]⟩
theorem min_nat (n m : Nat) : (if (m : Int) < (n : Int) then (m : Int) else (n : Int)) = ((min n m : Nat) : Int) := by
  by_cases h : m < n
  · rw [if_pos (by omega), Nat.min_eq_right (by omega)]
  · rw [if_neg (by omega), Nat.min_eq_left (by omega)]
def sp_number_alike (K : PySem.W.Frag) : Sp := fun vs H Q _ => ∃ (a b : Addr) (A B : List (List Nat)), vs = [.ref a, .ref b] ∧ H a = some (.lst (rowsV A)) ∧ H b = some (.lst (rowsV B)) ∧ A.length ≤ 100000 ∧ Q (.int (cpl A B : Nat)) H
theorem ok_number_alike {P : Program} {w : World} {K : PySem.W.Frag} {mg : Str → Option Value} {base : Heap} (T : Txt K mg) : FnOk P w K mg base CX0 1 T.a_number_alike T.d_number_alike ["row", "other"] (sp_number_alike K) := by
  refine T.f_number_alike.ok sc_number_alike (fun vs H Q E h => ?_) (fun cdv A outer s H vs Q E hr h => ?_)
  · obtain ⟨a, b, A, B, rfl, _⟩ := h
    rfl
  · obtain ⟨a, b, L, M, rfl, ha, hb, hlen, q⟩ := h
    refine ⟨_, (pss_cons (ps_set (i := 2) sc_number_alike.nd rfl (.inl rfl) pe_int)
        (pss_cons (ps_while PassesOwn.never (PW.pt (pw_and (pt_cmpR op_lt (pv 2) (pe_callB (call_min2 rfl) (by rfl) T.z_min (by decide +kernel) (pa_cons (pe_callB call_len_seq (by rfl) T.z_len PySem.boot_len (pa_cons (pv 0) pa_nil)) (pa_cons (pe_callB call_len_seq (by rfl) T.z_len PySem.boot_len (pa_cons (pv 1) pa_nil)) pa_nil))) (nomark _)) (pw_and1 (pt_cmpR op_eq (pe_ix ix_list (pv 0) (pv 2) (fun _ _ => rfl)) (pe_ix ix_list (pv 1) (pv 2) (fun _ _ => rfl)) (nomark _))))) (pss_one (ps_aug (i := 2) sc_number_alike.nd rfl (.inl rfl) pe_int ip_add)))
        (pss_one (ps_ret (pv 2))))), ?_⟩
    have hc := cpl_le L M
    have lL := rows_len L
    have lM := rows_len M
    refine ⟨fun k σ' H' => H' = H ∧ ∃ i : Nat, σ' = [some (.ref a), some (.ref b), some (.int (i : Int))] ∧ i ≤ cpl L M ∧ k = cpl L M - i, ⟨cpl L M, rfl, 0, rfl, Nat.zero_le _, rfl⟩, ?_⟩
    rintro k σ' H' ⟨rfl, i, rfl, hi, rfl⟩
    refine ⟨_, rfl, _, rfl, a, _, rfl, .inl (SqL.of ha), _, rfl, b, _, rfl, .inl (SqL.of hb), _, _, rfl, ?_⟩
    rw [min_nat, lL, lM]
    refine ⟨_, _, rfl, rfl, _, rfl, ?_⟩
    by_cases hm : i < min L.length M.length
    · refine ifT (decide_eq_true (by omega)) ?_
      obtain ⟨x, hx⟩ : ∃ x, L[i]? = some x := ⟨_, List.getElem?_eq_getElem (by omega)⟩
      obtain ⟨y, hy⟩ : ∃ y, M[i]? = some y := ⟨_, List.getElem?_eq_getElem (by omega)⟩
      refine ⟨_, rfl, _, rfl, a, _, _, _, rfl, rfl, SqL.of ha, atI_nat (rows_at hx), _, rfl, _, rfl, b, _, _, _, rfl, rfl, SqL.of hb, atI_nat (rows_at hy), rfl, _, rfl, ?_⟩
      rw [dec_row]
      by_cases he : i < cpl L M
      · obtain ⟨z, h1, h2⟩ := cpl_at L M i he
        rw [hx] at h1
        rw [hy] at h2
        cases h1
        cases h2
        refine ifT (decide_eq_true rfl) ⟨fun σ' H2 => H2 = H' ∧ σ' = [some (.ref a), some (.ref b), some (.int ((i + 1 : Nat) : Int))], ?_, ?_⟩
        · rintro σ' H2 ⟨rfl, rfl⟩
          exact ⟨cpl L M - (i + 1), by omega, rfl, i + 1, rfl, he, rfl⟩
        · exact ⟨_, rfl, _, _, rfl, rfl, rfl, rfl⟩
      · have e0 : i = cpl L M := by omega
        subst e0
        refine ifF (decide_eq_false (cpl_off L M hx hy)) ?_
        exact ⟨_, rfl, q⟩
    · refine ifF (decide_eq_false (by omega)) ?_
      have e0 : i = cpl L M := by omega
      subst e0
      exact ⟨_, rfl, q⟩
/-- a list between two places, read with what stands -/
theorem lr_midS {K : PySem.W.Frag} {G : Hp} {σ : L2.St} {te tn tm : TE} {ls : List (List Nat)} {n m : Nat} (h : LR K G σ te ls) (g : NR σ tn n) (g2 : ∀ H Q, Same G H → Q (.int (m : Int)) H → tm σ H Q) (hm : m ≤ ls.length) (hn : n ≤ m) : LR K G σ (tSl (rSlL K) te (tPart tn) (tPart tm)) ((ls.drop n).take (m - n)) := fun H Q s q => h H _ s fun H1 p s1 hp => g H1 _ ⟨_, rfl, g2 H1 _ (s.trans s1) ⟨_, rfl, p, _, rfl, SqL.of hp, fun p2 np2 => q _ p2 (s1.trans (same_new np2)) (by rw [upd_same, cut_mid (by rw [rows_len]; exact hm) hn, rows_drop, rows_take])⟩⟩
theorem asg_alike_g {K : PySem.W.Frag} {σ : L2.St} {H : Hp} {ta tb : TE} {A B : List (List Nat)} {g : TG} {u : TS} {D : Ends} {i : Nat} {x : V} (τ : L2.St) (e : σ.set i (some x) = τ) (ha : LR K H τ ta A) (hb : LR K H τ tb B) (n : A.length ≤ 100000) (hq : ∀ H', Same H H' → g (.int (cpl A B : Nat)) τ H' (u D)) : gName i x σ H (tSeq (tAsg (tCall (sp_number_alike K) [] E0 (tCons ta (tCons tb tNil))) g) u D) := by
  subst e
  exact ha H _ (Same.refl _) fun H1 p s1 hp => hb H1 _ s1 fun H2 p2 s2 hp2 => ⟨p, p2, A, B, rfl, s2 _ _ hp, hp2, n, hq H2 (s1.trans s2)⟩
def lb (L M : List (List Nat)) : Nat := cpl (L.drop (cpl L M)).reverse (M.drop (cpl L M)).reverse
def lm (L M : List (List Nat)) : Nat := L.length - cpl L M - lb L M
def lls (L M : List (List Nat)) : List (List Nat) := (M.drop (cpl L M)).take (M.length - lb L M - cpl L M)
theorem lb_le (L M : List (List Nat)) : lb L M + cpl L M ≤ L.length ∧ lb L M + cpl L M ≤ M.length := by
  have h1 := cpl_le L M
  have h2 := cpl_le (L.drop (cpl L M)).reverse (M.drop (cpl L M)).reverse
  rw [List.length_reverse, List.length_reverse, List.length_drop, List.length_drop] at h2
  unfold lb
  omega
def sp_least_edit (K : PySem.W.Frag) : Sp := fun vs H Q _ => ∃ (t u : List Nat), vs = [.str (S t), .str (S u)] ∧ t.length ≤ 1000000 ∧ u.length ≤ 1000000 ∧ (linesL t).length ≤ 10000 ∧ (linesL u).length ≤ 10000 ∧ ∀ H' v, Same H H' → EdIs K H' v (cpl (linesL t) (linesL u)) (lm (linesL t) (linesL u)) true (lls (linesL t) (linesL u)) → Q v H'
theorem ok_least_edit {P : Program} {w : World} {K : PySem.W.Frag} {mg : Str → Option Value} {base : Heap} (T : Txt K mg) : FnOk P w K mg base CX0 2 T.a_least_edit T.d_least_edit ["text", "other"] (sp_least_edit K) := by
  refine T.f_least_edit.ok sc_least_edit (fun vs H Q E h => ?_) (fun cdv A outer s H vs Q E hr h => ?_)
  · obtain ⟨t, u, rfl, _⟩ := h
    rfl
  · obtain ⟨t, u, rfl, ht, hu, hL, hM, q⟩ := h
    refine ⟨_, (pss_cons (ps_expr (pe_call (ok_check_source T) (hr.mono (by decide)) (by rfl) T.g_check_source T.f_check_source.kp T.b_check_source .nil pass0 (pa_cons (pv 0) pa_nil)))
        (pss_cons (ps_expr (pe_call (ok_check_source T) (hr.mono (by decide)) (by rfl) T.g_check_source T.f_check_source.kp T.b_check_source .nil pass0 (pa_cons (pv 1) pa_nil)))
        (pss_cons (ps_par (i := 2) (j := 3) (by rfl) sc_least_edit.nd rfl rfl (by decide) rfl rfl (pa_cons (pe_call (ok_lines_of T) (hr.mono (by decide)) (by rfl) T.g_lines_of T.f_lines_of.kp T.b_lines_of .nil pass0 (pa_cons (pv 0) pa_nil)) (pa_cons (pe_call (ok_lines_of T) (hr.mono (by decide)) (by rfl) T.g_lines_of T.f_lines_of.kp T.b_lines_of .nil pass0 (pa_cons (pv 1) pa_nil)) pa_nil)) (by rfl))
        (pss_cons (ps_set (i := 4) sc_least_edit.nd rfl (.inl rfl) (pe_call (ok_number_alike T) (hr.mono (by decide)) (by rfl) T.g_number_alike T.f_number_alike.kp T.b_number_alike .nil pass0 (pa_cons (pv 2) (pa_cons (pv 3) pa_nil))))
        (pss_cons (ps_set (i := 5) sc_least_edit.nd rfl (.inl rfl) (pe_call (ok_number_alike T) (hr.mono (by decide)) (by rfl) T.g_number_alike T.f_number_alike.kp T.b_number_alike .nil pass0 (pa_cons (pe_revL (pe_slice sl_list (pv 2) (po_some (pv 4)) po_none)) (pa_cons (pe_revL (pe_slice sl_list (pv 3) (po_some (pv 4)) po_none)) pa_nil))))
        (pss_one (ps_ret (pe_tup (pa_cons (pv 4) (pa_cons (pe_op op_sub (pe_op op_sub (pe_callB call_len_seq (by rfl) T.z_len PySem.boot_len (pa_cons (pv 2) pa_nil)) (pv 4)) (pv 5)) (pa_cons (pe_slice sl_list (pv 3) (po_some (pv 4)) (po_some (pe_op op_sub (pe_callB call_len_seq (by rfl) T.z_len PySem.boot_len (pa_cons (pv 3) pa_nil)) (pv 5)))) pa_nil))))))))))), ?_⟩
    refine ⟨_, rfl, S t, rfl, _, rfl, S u, rfl, ?_⟩
    refine ⟨_, rfl, t, rfl, ht, fun H1 p s1 np hp => ⟨_, rfl, u, rfl, hu, fun H2 p2 s2 np2 hp2 => ⟨_, _, rfl, ?_⟩⟩⟩
    generalize linesL t = L at hL hp q
    generalize linesL u = M at hM hp2 q
    have hb := lb_le L M
    have hc := cpl_le L M
    have hpL := s2 _ _ hp
    refine ⟨_, rfl, _, rfl, p, p2, L, M, rfl, hpL, hp2, by omega, ?_⟩
    dsimp only
    refine asg_alike_g (K := K) (A := (L.drop (cpl L M)).reverse) (B := (M.drop (cpl L M)).reverse) [some (.str (S t)), some (.str (S u)), some (.ref p), some (.ref p2), some (.int ((cpl L M : Nat) : Int)), none] rfl (lr_rev (lr_from (lr_var (i := 2) rfl hpL) (nr_var (i := 4) rfl) hc.1)) (lr_rev (lr_from (lr_var (i := 3) rfl hp2) (nr_var (i := 4) rfl) hc.2)) (by rw [List.length_reverse, List.length_drop]; omega) fun H4 s24 => ?_
    have lL := rows_len L
    have lM := rows_len M
    refine ⟨_, rfl, _, rfl, p, _, rfl, .inl (SqL.of (s24 _ _ hpL)), _, rfl, _, _, rfl, rfl, _, rfl, _, _, rfl, rfl, ?_⟩
    refine lr_midS (K := K) (G := H4) (n := cpl L M) (m := M.length - lb L M) (lr_var rfl (s24 _ _ hp2)) (nr_var rfl) (fun H5 Q5 s5 q5 => ⟨_, rfl, p2, _, rfl, .inl (SqL.of (s5 _ _ (s24 _ _ hp2))), _, rfl, _, _, rfl, rfl, ?_⟩) (by omega) (by omega) H4 _ (Same.refl _) fun H5 p5 s5 hp5 => ?_
    · refine ⟨(by show 3 ≤ sizeLine; decide), fun r nr => q _ _ ((((s1.trans s2).trans s24).trans s5).trans (same_new nr)) ⟨r, p5, rfl, ?_, SqL.of (same_new nr _ _ hp5)⟩⟩
      have e : ((L.length : Nat) : Int) - (cpl L M : Nat) - (lb L M : Nat) = ((lm L M : Nat) : Int) := by
        unfold lm
        omega
      rw [lL, ← e]
      exact SqT.of upd_same
    · show Q5 (V.int (((rowsV M).length : Int) - (lb L M : Nat))) H5
      rw [lM]
      have e : ((M.length - lb L M : Nat) : Int) = (M.length : Int) - (lb L M : Nat) := by omega
      rw [e] at q5
      exact q5

/-! ### the jar -/
def JarOk (H : Hp) (L : Addr) : Prop := ∃ x y k : Int, H L = some (.lst [.int x, .int y, .int k])
theorem JarOk.same {H H' : Hp} {L : Addr} (h : JarOk H L) (s : Same H H') : JarOk H' L := by
  obtain ⟨x, y, k, e⟩ := h
  exact ⟨x, y, k, s _ _ e⟩
theorem JarOk.new {H : Hp} {L p : Addr} {o : HO} (h : JarOk H L) (n : H p = none) : JarOk (upd H p o) L := h.same (same_new n)
theorem JarOk.ne {H : Hp} {L p : Addr} (h : JarOk H L) (n : H p = none) : p ≠ L := by
  obtain ⟨x, y, k, e⟩ := h
  exact (ne_of_none e n).symm
theorem JarOk.upd {H : Hp} {L p : Addr} {o : HO} (h : JarOk H L) (n : p ≠ L) : JarOk (upd H p o) L := by
  obtain ⟨x, y, k, e⟩ := h
  exact ⟨x, y, k, by rw [upd_ne n.symm]; exact e⟩
theorem JarOk.lst {H : Hp} {L : Addr} (h : JarOk H L) : ∃ xs, H L = some (.lst xs) := by
  obtain ⟨x, y, k, e⟩ := h
  exact ⟨_, e⟩
def sp__law_jar (K : PySem.W.Frag) : Sp := fun vs H Q _ => ∃ n : Int, vs = [.int n] ∧ ∀ p x y, H p = none → Q (.ref p) (upd H p (.lst [.int x, .int y, .int 0]))
theorem ok__law_jar {P : Program} {w : World} {K : PySem.W.Frag} {mg : Str → Option Value} {base : Heap} (T : Txt K mg) : FnOk P w K mg base CX0 1 T.a__law_jar T.d__law_jar ["_law_cell"] (sp__law_jar K) := by
  refine T.f__law_jar.ok sc__law_jar (fun vs H Q E h => ?_) (fun cdv A outer s H vs Q E hr h => ?_)
  · obtain ⟨n, rfl, _⟩ := h
    rfl
  · obtain ⟨n, rfl, q⟩ := h
    refine ⟨_, (pss_one (ps_ret (pe_lst (pa_cons (pe_op op_mul (pv 0) (pe_callTy call_int1 (by rfl) T.z_int (by decide +kernel) (pa_cons (pe_cmpR op_ge (pv 0) (pe_op op_pow pe_int pe_int) (nomark _)) pa_nil))) (pa_cons (pe_op op_mod (pe_callTy call_int1 (by rfl) T.z_int (by decide +kernel) (pa_cons (pv 0) pa_nil)) pe_int) (pa_cons pe_int pa_nil)))))), ?_⟩
    refine ⟨_, rfl, _, rfl, _, _, rfl, rfl, (by refine ⟨?_, ?_, ?_⟩ <;> decide), _, _, rfl, rfl, .inr ⟨_, rfl, _, _, rfl, rfl, .inr ?_, ?_⟩⟩
    · by_cases h : decide ((10 : Int) ^ (18 : Int).toNat ≤ n) = true
      · rw [if_pos h]
        constructor <;> decide
      · rw [if_neg h]
        constructor <;> decide
    · refine ⟨_, rfl, .inl ⟨_, rfl, _, _, rfl, rfl, (by show (0 : Int) < _; decide), (by show 3 ≤ sizeLine; decide), fun p np => q p _ _ np⟩⟩
def sp__law_dip (K : PySem.W.Frag) : Sp := fun vs H Q _ => ∃ (L : Addr) (m : Int), vs = [.ref L, .int m] ∧ 0 < m ∧ m < 1000000 ∧ JarOk H L ∧ ∀ H' d, Keeps L H H' → JarOk H' L → 0 ≤ d → d < m → Q (.int d) H'
theorem ok__law_dip {P : Program} {w : World} {K : PySem.W.Frag} {mg : Str → Option Value} {base : Heap} (T : Txt K mg) : FnOk P w K mg base CX0 1 T.a__law_dip T.d__law_dip ["_law_jar_here", "_law_many"] (sp__law_dip K) := by
  refine T.f__law_dip.ok sc__law_dip (fun vs H Q E h => ?_) (fun cdv A outer s H vs Q E hr h => ?_)
  · obtain ⟨L, m, rfl, _⟩ := h
    rfl
  · obtain ⟨L, m, rfl, hm0, hm1, ⟨x, y, k, hL⟩, q⟩ := h
    refine ⟨_, (pss_cons (ps_if (pt_cmpR op_gt (pe_ix ix_list (pv 0) pe_int (fun _ _ => rfl)) pe_int (nomark _)) (pss_cons (ps_set (i := 2) sc__law_dip.nd rfl (.inl rfl) (pe_op op_mod (pe_callTy call_int1 (by rfl) T.z_int (by decide +kernel) (pa_cons (pe_ix ix_list (pv 0) pe_int (fun _ _ => rfl)) pa_nil)) (pv 1)))
        (pss_cons (ps_asg (pe_op op_fdivW (pe_ix ix_list (pv 0) pe_int (fun _ _ => rfl)) (pv 1)) (pg_sub (pv 0) pe_int set_list))
        (pss_one (ps_ret (pv 2))))) pss_nil)
        (pss_cons (ps_asg (pe_op op_add (pe_ix ix_list (pv 0) pe_int (fun _ _ => rfl)) pe_int) (pg_sub (pv 0) pe_int set_list))
        (pss_cons (ps_set (i := 3) sc__law_dip.nd rfl (.inl rfl) (pe_op op_mod (pe_callTy call_int1 (by rfl) T.z_int (by decide +kernel) (pa_cons (pe_op op_mul (pe_op op_add (pe_op op_add (pe_ix ix_list (pv 0) pe_int (fun _ _ => rfl)) (pe_op op_mul pe_int (pe_ix ix_list (pv 0) pe_int (fun _ _ => rfl)))) pe_int) pe_int) pa_nil)) pe_int))
        (pss_cons (ps_set (i := 3) sc__law_dip.nd rfl (.inl rfl) (pe_op op_mod (pe_callTy call_int1 (by rfl) T.z_int (by decide +kernel) (pa_cons (pe_op op_add (pe_op op_mul (pv 3) (pe_op op_add (pe_op op_fdivW (pv 3) pe_int) pe_int)) (pe_ix ix_list (pv 0) pe_int (fun _ _ => rfl))) pa_nil)) pe_int))
        (pss_one (ps_ret (pe_op op_mod (pe_callTy call_int1 (by rfl) T.z_int (by decide +kernel) (pa_cons (pe_op op_fdivW (pe_op op_mod (pe_callTy call_int1 (by rfl) T.z_int (by decide +kernel) (pa_cons (pe_op op_mul (pv 3) (pe_op op_add (pe_op op_fdivW (pv 3) pe_int) pe_int)) pa_nil)) pe_int) pe_int) pa_nil)) (pv 1)))))))), ?_⟩
    have a0 : ∀ x y k : Int, atI [V.int x, V.int y, V.int k] 0 = some (.int x) := fun x y k => atI_nat (j := 0) rfl
    have a1 : ∀ x y k : Int, atI [V.int x, V.int y, V.int k] 1 = some (.int y) := fun x y k => atI_nat (j := 1) rfl
    have a2 : ∀ x y k : Int, atI [V.int x, V.int y, V.int k] 2 = some (.int k) := fun x y k => atI_nat (j := 2) rfl
    have wd : ∀ i j : Int, 0 < j → j < 10000000000 → CDivW i j := fun i j h1 h2 => wide_div (b := 40) h1 (by omega) (by decide) (by decide)
    refine ⟨_, rfl, L, _, _, _, rfl, rfl, SqL.of hL, a0 x y k, _, _, rfl, rfl, _, rfl, ite2 (fun _ => ?_) (fun _ => ?_)⟩
    · refine ⟨_, rfl, L, _, _, _, rfl, rfl, SqL.of hL, a0 x y k, .inl ⟨_, rfl, _, rfl, _, _, rfl, rfl, hm0, ?_⟩⟩
      refine ⟨_, rfl, L, _, _, _, rfl, rfl, SqL.of hL, a0 x y k, _, rfl, _, _, rfl, rfl, wd _ _ hm0 (by omega), _, rfl, L, _, _, 0, rfl, rfl, hL, rfl, ?_⟩
      exact ⟨_, rfl, q _ _ .at ⟨_, _, _, upd_same⟩ (Int.emod_nonneg _ (by omega)) (Int.emod_lt_of_pos _ hm0)⟩
    · refine ⟨_, rfl, L, _, _, _, rfl, rfl, SqL.of hL, a2 x y k, _, _, rfl, rfl, _, rfl, L, _, _, 2, rfl, rfl, hL, rfl, ?_⟩
      have k2 : Keeps L H (upd H L (.lst ([V.int x, V.int y, V.int k].set 2 (.int (k + 1))))) := .at
      have hL2 : (upd H L (.lst ([V.int x, V.int y, V.int k].set 2 (.int (k + 1))))) L = some (.lst [V.int x, V.int y, V.int (k + 1)]) := upd_same
      generalize (upd H L (.lst ([V.int x, V.int y, V.int k].set 2 (.int (k + 1))))) = H2 at hL2 k2 ⊢
      refine ⟨_, rfl, L, _, _, _, rfl, rfl, SqL.of hL2, a1 _ _ _, _, rfl, L, _, _, _, rfl, rfl, SqL.of hL2, a2 _ _ _, _, _, rfl, rfl, .inl (by constructor <;> decide), _, _, rfl, rfl, _, _, rfl, rfl, _, _, rfl, rfl, .inr (by constructor <;> decide), .inl ⟨_, rfl, _, _, rfl, rfl, (by show (0 : Int) < _; decide), ?_⟩⟩
      refine ⟨_, rfl, _, rfl, _, _, rfl, rfl, wd _ _ (by decide) (by decide), _, _, rfl, rfl, _, _, rfl, rfl, .inl (by constructor <;> omega), _, rfl, L, _, _, _, rfl, rfl, SqL.of hL2, a2 _ _ _, _, _, rfl, rfl, .inl ⟨_, rfl, _, _, rfl, rfl, (by show (0 : Int) < _; decide), ?_⟩⟩
      refine ⟨_, rfl, _, rfl, _, _, rfl, rfl, wd _ _ (by decide) (by decide), _, _, rfl, rfl, _, _, rfl, rfl, .inl (by constructor <;> omega), .inl ⟨_, rfl, _, _, rfl, rfl, (by show (0 : Int) < _; decide), _, _, rfl, rfl, wd _ _ (by decide) (by decide), .inl ⟨_, rfl, _, rfl, _, _, rfl, rfl, hm0, ?_⟩⟩⟩
      exact q _ _ k2 ⟨_, _, _, hL2⟩ (Int.emod_nonneg _ (by omega)) (Int.emod_lt_of_pos _ hm0)

def sp__law_one (K : PySem.W.Frag) : Sp := fun vs H Q _ => ∃ (L a : Addr) (xs : List V), vs = [.ref L, .ref a] ∧ SqL K H a xs ∧ a ≠ L ∧ xs ≠ [] ∧ xs.length < 1000000 ∧ JarOk H L ∧ ∀ H' v, Keeps L H H' → JarOk H' L → v ∈ xs → Q v H'
theorem ok__law_one {P : Program} {w : World} {K : PySem.W.Frag} {mg : Str → Option Value} {base : Heap} (T : Txt K mg) : FnOk P w K mg base CX0 2 T.a__law_one T.d__law_one ["_law_jar_here", "_law_some"] (sp__law_one K) := by
  refine T.f__law_one.ok sc__law_one (fun vs H Q E h => ?_) (fun cdv A outer s H vs Q E hr h => ?_)
  · obtain ⟨L, a, xs, rfl, _⟩ := h
    rfl
  · obtain ⟨L, a, xs, rfl, hS, ha, hne, hlen, hW, q⟩ := h
    refine ⟨_, (pss_one (ps_ret (pe_ix ix_list (pv 1) (pe_call (ok__law_dip T) (hr.mono (by decide)) (by rfl) T.g__law_dip T.f__law_dip.kp T.b__law_dip .nil pass0 (pa_cons (pv 0) (pa_cons (pe_callB call_len_seq (by rfl) T.z_len PySem.boot_len (pa_cons (pv 1) pa_nil)) pa_nil))) (fun _ _ => rfl)))), ?_⟩
    have hpos : 0 < xs.length := List.length_pos_iff.mpr hne
    refine ⟨_, rfl, _, rfl, _, rfl, a, xs, rfl, .inl hS, L, _, rfl, by omega, by omega, hW, fun H' d k w h0 h1 => ?_⟩
    obtain ⟨j, rfl⟩ := Int.eq_ofNat_of_zero_le h0
    have hj : j < xs.length := by omega
    exact ⟨a, xs, _, xs[j], rfl, rfl, k.seq ha hS, atI_nat (List.getElem?_eq_getElem hj), q _ _ k w (List.getElem_mem hj)⟩
def okPc (n : Nat) : V → Bool
  | .str z => decide (z.cps.toList.length ≤ n) && z.cps.toList.all fun c => c != 10 && decide (c < 128)
  | _ => false
theorem okPc_of {n : Nat} {v : V} (h : okPc n v = true) : ∃ l, v = .str (S l) ∧ 10 ∉ l ∧ l.length ≤ n ∧ ∀ c ∈ l, c < 128 := by
  cases v with
  | str z =>
    have h' : (decide (z.cps.toList.length ≤ n) && z.cps.toList.all fun c => c != 10 && decide (c < 128)) = true := h
    rw [Bool.and_eq_true] at h'
    have ha := List.all_eq_true.mp h'.2
    refine ⟨z.cps.toList, by rw [← S_of z], fun hm => ?_, of_decide_eq_true h'.1, fun c hc => ?_⟩
    · have := ha 10 hm
      exact absurd this (by decide)
    · have := ha c hc
      rw [Bool.and_eq_true] at this
      exact of_decide_eq_true this.2
  | _ => cases h
def HeadV : List V := [.str "", .str "", .str "", .str "> ", .str ">", .str "- ", .str "* ", .str "+ ", .str "1. ", .str "2) ", .str "10. ", .str "  ", .str "   ", .str "    ", .str "\t", .str "- > ", .str "> - "]
theorem head_ok : ∀ v ∈ HeadV, ∃ l, v = .str (S l) ∧ 10 ∉ l ∧ l.length ≤ 10 ∧ ∀ c ∈ l, c < 128 := fun v hv => okPc_of (List.all_eq_true.mp (by decide +kernel : HeadV.all (okPc 10) = true) v hv)
theorem LineOk.app {a b : List Nat} (h1 : 10 ∉ a) (h2 : 10 ∉ b) (g1 : ∀ c ∈ a, c < 128) (g2 : ∀ c ∈ b, c < 128) (n : a.length + b.length ≤ 40) : LineOk (a ++ b) := ⟨fun h => by
  rcases List.mem_append.mp h with h | h
  · exact h1 h
  · exact h2 h, by rw [List.length_append]; exact n, fun c hc => by
  rcases List.mem_append.mp hc with h | h
  · exact g1 c h
  · exact g2 c h⟩
def SomeV : List V := [.str "", .str "", .str "a", .str "b c", .str "d", .str "# e", .str "#", .str "## f ##", .str "===", .str "---", .str "***", .str "--", .str "```", .str "~~~~ g", .str "````"] ++ [.str "[h]: /i", .str "[h]: /j 'k'", .str "[l", .str "]: <m>", .str "'n'", .str "(o", .str "<div>", .str "</div>", .str "<!-- p", .str "q -->", .str "<b>"] ++ [.str "<b c='d'>", .str "<pre>", .str "r</pre>", .str "-", .str "1.", .str "s  ", .str "t\\", .str "[h]", .str "<?u", .str "v?>", .str "=", .str "2. w", .str "  x"]
theorem some_ok : ∀ v ∈ SomeV, ∃ l, v = .str (S l) ∧ 10 ∉ l ∧ l.length ≤ 20 ∧ ∀ c ∈ l, c < 128 := fun v hv => okPc_of (List.all_eq_true.mp (by decide +kernel : SomeV.all (okPc 20) = true) v hv)
def sp__law_line (K : PySem.W.Frag) : Sp := fun vs H Q _ => ∃ L : Addr, vs = [.ref L] ∧ JarOk H L ∧ ∀ H' l, Keeps L H H' → JarOk H' L → LineOk l → Q (.str (S l)) H'
theorem ok__law_line {P : Program} {w : World} {K : PySem.W.Frag} {mg : Str → Option Value} {base : Heap} (T : Txt K mg) : FnOk P w K mg base CX0 3 T.a__law_line T.d__law_line ["_law_jar_here"] (sp__law_line K) := by
  refine T.f__law_line.ok sc__law_line (fun vs H Q E h => ?_) (fun cdv A outer s H vs Q E hr h => ?_)
  · obtain ⟨L, rfl, _⟩ := h
    rfl
  · obtain ⟨L, rfl, hW, q⟩ := h
    refine ⟨_, (pss_cons (ps_set (i := 1) sc__law_line.nd rfl (.inl rfl) (pe_lst (pa_cons pe_str (pa_cons pe_str (pa_cons pe_str (pa_cons pe_str (pa_cons pe_str (pa_cons pe_str (pa_cons pe_str (pa_cons pe_str (pa_cons pe_str (pa_cons pe_str (pa_cons pe_str (pa_cons pe_str (pa_cons pe_str (pa_cons pe_str (pa_cons pe_str (pa_cons pe_str (pa_cons pe_str pa_nil)))))))))))))))))))
        (pss_cons (ps_set (i := 2) sc__law_line.nd rfl (.inl rfl) (pe_lst (pa_cons pe_str (pa_cons pe_str (pa_cons pe_str (pa_cons pe_str (pa_cons pe_str (pa_cons pe_str (pa_cons pe_str (pa_cons pe_str (pa_cons pe_str (pa_cons pe_str (pa_cons pe_str (pa_cons pe_str (pa_cons pe_str (pa_cons pe_str (pa_cons pe_str pa_nil)))))))))))))))))
        (pss_cons (ps_set (i := 2) sc__law_line.nd rfl (.inl rfl) (pe_op op_cat (pv 2) (pe_lst (pa_cons pe_str (pa_cons pe_str (pa_cons pe_str (pa_cons pe_str (pa_cons pe_str (pa_cons pe_str (pa_cons pe_str (pa_cons pe_str (pa_cons pe_str (pa_cons pe_str (pa_cons pe_str pa_nil))))))))))))))
        (pss_cons (ps_set (i := 2) sc__law_line.nd rfl (.inl rfl) (pe_op op_cat (pv 2) (pe_lst (pa_cons pe_str (pa_cons pe_str (pa_cons pe_str (pa_cons pe_str (pa_cons pe_str (pa_cons pe_str (pa_cons pe_str (pa_cons pe_str (pa_cons pe_str (pa_cons pe_str (pa_cons pe_str (pa_cons pe_str (pa_cons pe_str pa_nil))))))))))))))))
        (pss_one (ps_ret (pe_op op_add_str (pe_op op_add_str (pe_call (ok__law_one T) (hr.mono (by decide)) (by rfl) T.g__law_one T.f__law_one.kp T.b__law_one .nil pass0 (pa_cons (pv 0) (pa_cons (pv 1) pa_nil))) (pe_call (ok__law_one T) (hr.mono (by decide)) (by rfl) T.g__law_one T.f__law_one.kp T.b__law_one .nil pass0 (pa_cons (pv 0) (pa_cons (pv 1) pa_nil)))) (pe_call (ok__law_one T) (hr.mono (by decide)) (by rfl) T.g__law_one T.f__law_one.kp T.b__law_one .nil pass0 (pa_cons (pv 0) (pa_cons (pv 2) pa_nil)))))))))), ?_⟩
    refine ⟨(by show 17 ≤ sizeLine; decide), fun p1 n1 => ⟨(by show 15 ≤ sizeLine; decide), fun p2 n2 => ?_⟩⟩
    have k1 : Keeps L H (upd H p1 (.lst HeadV)) := .new n1
    have h1 : (upd H p1 (.lst HeadV)) p1 = some (.lst HeadV) := upd_same
    have w1 := hW.new (o := .lst HeadV) n1
    have e1 := hW.ne n1
    refine ⟨_, rfl, (by show 11 ≤ sizeLine; decide), fun p3 n3 => ⟨p2, p3, _, _, rfl, rfl, same_new n3 _ _ upd_same, upd_same, (by show 26 ≤ sizeLine; decide), fun p4 n4 => ?_⟩⟩
    refine ⟨_, rfl, (by show 13 ≤ sizeLine; decide), fun p5 n5 => ⟨p4, p5, _, _, rfl, rfl, same_new n5 _ _ upd_same, upd_same, (by show 39 ≤ sizeLine; decide), fun p6 n6 => ?_⟩⟩
    have s6 := (((((same_new n1).trans (same_new n2)).trans (same_new n3)).trans (same_new n4)).trans (same_new n5)).trans (same_new (o := .lst SomeV) n6)
    have hp1 := ((((((same_new n2).trans (same_new n3)).trans (same_new n4)).trans (same_new n5)).trans (same_new (o := .lst SomeV) n6))) _ _ (show _ = some (HO.lst HeadV) from upd_same)
    have w6 := hW.same s6
    have e6 := (hW.same ((((same_new n1).trans (same_new n2)).trans (same_new n3)).trans ((same_new n4).trans (same_new n5)))).ne n6
    refine ⟨_, rfl, _, rfl, L, p1, HeadV, rfl, SqL.of hp1, e1, by simp [HeadV], by show 17 < 1000000; decide, w6, fun H7 v7 k7 w7 hv7 => ?_⟩
    obtain ⟨l7, rfl, a7, b7, c7⟩ := head_ok v7 hv7
    refine ⟨_, rfl, _, rfl, L, p1, HeadV, rfl, SqL.of (k7 _ _ e1 hp1), e1, by simp [HeadV], by show 17 < 1000000; decide, w7, fun H8 v8 k8 w8 hv8 => ?_⟩
    obtain ⟨l8, rfl, a8, b8, c8⟩ := head_ok v8 hv8
    refine ⟨_, _, rfl, rfl, by rw [S_len, S_len, sizeLine_eq]; omega, ?_⟩
    have hp6 := k8 _ _ e6 (k7 _ _ e6 (show _ = some (HO.lst SomeV) from upd_same))
    refine ⟨_, rfl, _, rfl, L, p6, SomeV, rfl, SqL.of hp6, e6, by simp [SomeV], by show 39 < 1000000; decide, w8, fun H9 v9 k9 w9 hv9 => ?_⟩
    obtain ⟨l9, rfl, a9, b9, c9⟩ := some_ok v9 hv9
    have ok1 := LineOk.app a7 a8 c7 c8 (by omega)
    rw [S_app]
    refine ⟨_, _, rfl, rfl, by rw [S_len, S_len, List.length_append, sizeLine_eq]; omega, ?_⟩
    rw [S_app]
    exact q _ _ (((Keeps.of s6).trans k7).trans (k8.trans k9)) w9 (LineOk.app ok1.1 a9 ok1.2.2 c9 (by rw [List.length_append]; omega))
def sp__law_lines (K : PySem.W.Frag) : Sp := fun vs H Q _ => ∃ (L : Addr) (n : Nat), vs = [.ref L, .int (n : Int)] ∧ n ≤ 100 ∧ JarOk H L ∧ ∀ H' p rows, Keeps L H H' → JarOk H' L → p ≠ L → H' p = some (.lst (rowsV rows)) → rows.length ≤ n → (∀ l ∈ rows, LineOk l) → Q (.ref p) H'
theorem ok__law_lines {P : Program} {w : World} {K : PySem.W.Frag} {mg : Str → Option Value} {base : Heap} (T : Txt K mg) : FnOk P w K mg base CX0 4 T.a__law_lines T.d__law_lines ["_law_jar_here", "_law_most"] (sp__law_lines K) := by
  refine T.f__law_lines.ok sc__law_lines (fun vs H Q E h => ?_) (fun cdv A outer s H vs Q E hr h => ?_)
  · obtain ⟨L, n, rfl, _⟩ := h
    rfl
  · obtain ⟨L, n, rfl, hn, hW, q⟩ := h
    refine ⟨_, (pss_one (ps_ret (pe_lc (own := [("_law_k", 2)]) (g := (gName 2)) (tt := tYes) (by rfl) sc__law_lines.nd (pi_range1 (by rfl) T.z_range (pa_cons (pe_call (ok__law_dip T) (hr.mono (by decide)) (by rfl) T.g__law_dip T.f__law_dip.kp T.b__law_dip .nil pass0 (pa_cons (pv 0) (pa_cons (pe_op op_add (pv 1) pe_int) pa_nil))) pa_nil)) (blkOk_by (own := [("_law_k", 2)]) (N := ["_law_jar_here", "_law_most", "_law_k"]) (sc := defScope s__law_lines) (by decide +kernel)) (fun _ _ _ _ _ => (pg_name (i := 2) sc__law_lines.nd rfl (Or.inl rfl))) (fun _ _ _ _ _ => pts_nil) (fun _ _ _ _ _ => (pe_call (ok__law_line T) (hr.mono (by decide)) (by rfl) T.g__law_line T.f__law_line.kp T.b__law_line .nil pass0 (pa_cons (pv 0) pa_nil)))))), ?_⟩
    refine ⟨_, rfl, _, rfl, _, _, rfl, rfl, L, _, rfl, by omega, by omega, hW, fun H3 d k3 w3 d0 d1 => ⟨d, rfl, by omega, by omega, fun D nD => ?_⟩⟩
    have nDL : D ≠ L := w3.ne nD
    have nD0 : H D = none := k3.free nD nDL
    refine lc_range (lo := 0) (n := d.toNat) (fun i H' => Keeps L H H' ∧ JarOk H' L ∧ ∃ rows, H' D = some (.lst (rowsV rows)) ∧ rows.length = i ∧ ∀ l ∈ rows, LineOk l) ?_ ?_ ?_
    · exact ⟨keeps_upd k3 nD0, w3.new nD, [], upd_same, rfl, fun l hl => by cases hl⟩
    · rintro i H4 hi ⟨k4, w4, rows, hD, hl, hb⟩
      refine ⟨rfl, _, rfl, L, rfl, w4, fun H5 l k5 w5 gl => ?_⟩
      refine ⟨_, k5 _ _ nDL hD, by rw [rows_len, sizeLine_eq]; omega, keeps_upd (k4.trans k5) nD0, w5.upd nDL, rows ++ [l], by rw [upd_same, ← rows_app]; rfl, by rw [List.length_append, hl]; rfl, fun x hx => ?_⟩
      rcases List.mem_append.mp hx with hx | hx
      · exact hb x hx
      · rw [List.mem_singleton.mp hx]
        exact gl
    · rintro H4 ⟨k4, w4, rows, hD, hl, hb⟩
      exact q _ _ rows k4 w4 nDL hD (by omega) hb
def sp__law_text (K : PySem.W.Frag) : Sp := fun vs H Q _ => ∃ (a : Addr) (ls : List (List Nat)), vs = [.ref a] ∧ H a = some (.lst (rowsV ls)) ∧ ls.length ≤ 1000 ∧ (∀ l ∈ ls, l.length ≤ 100) ∧ ∀ H', Same H H' → Q (.str (S (txtL ls))) H'
theorem ok__law_text {P : Program} {w : World} {K : PySem.W.Frag} {mg : Str → Option Value} {base : Heap} (T : Txt K mg) : FnOk P w K mg base CX0 1 T.a__law_text T.d__law_text ["_law_lines_here"] (sp__law_text K) := by
  refine T.f__law_text.ok sc__law_text (fun vs H Q E h => ?_) (fun cdv A outer s H vs Q E hr h => ?_)
  · obtain ⟨a, ls, rfl, _⟩ := h
    rfl
  · obtain ⟨a, ls, rfl, ha, hn, hw, q⟩ := h
    refine ⟨_, (pss_one (ps_ret (pe_join pe_str (pe_lc (own := [("_law_line_here", 1)]) (g := (gName 1)) (tt := tYes) (by rfl) sc__law_text.nd (pi_list (pv 0)) (blkOk_by (own := [("_law_line_here", 1)]) (N := ["_law_lines_here", "_law_line_here"]) (sc := defScope s__law_text) (by decide +kernel)) (fun _ _ _ _ _ => (pg_name (i := 1) sc__law_text.nd rfl (Or.inl rfl))) (fun _ _ _ _ _ => pts_nil) (fun _ _ _ _ _ => (pe_op op_add_str (pv 1) pe_str)))))), ?_⟩
    have h1 := txt_len 100 hw
    have h9 : (100 + 1) * ls.length ≤ 101 * 1000 := Nat.mul_le_mul_left _ hn
    exact sr_ret (sr_joinL (K := K) (i := 1) (lr_var rfl ha) (by omega) (fun _ => rfl) (fun _ => rfl)) (by omega) q

theorem keeps_sqT80 {K : PySem.W.Frag} {H H' : Hp} {L a : Addr} {us : List V} (k : Keeps L H H') (hL : ∃ xs, H L = some (.lst xs)) (h : SqT K H a us) : SqT K H' a us := by
  obtain ⟨xs, hL⟩ := hL
  have ne : ∀ {o}, H a = some o → o ≠ .lst xs → a ≠ L := fun e n z => by
    rw [z, hL] at e
    exact n (Option.some.inj e).symm
  rcases h with (h | ⟨o, h⟩) | h
  · exact .inl (.inl (k _ _ (ne h (fun e => nomatch e)) h))
  · exact .inl (.inr ⟨o, k _ _ (ne h (fun e => nomatch e)) h⟩)
  · exact .inr h
theorem rows_ne {H : Hp} {L p : Addr} {ls : List (List Nat)} (w : JarOk H L) (h : H p = some (.lst (rowsV ls))) : p ≠ L := fun e => by
  obtain ⟨x, y, k, e2⟩ := w
  rw [e, e2] at h
  have h' := HO.lst.inj (Option.some.inj h)
  cases ls with
  | nil => cases h'
  | cons l ls =>
    have := (List.cons.inj h').1
    cases this
theorem cut_to' {xs : List V} {n : Nat} : cutV xs none (some (n : Int)) = xs.take n := by
  unfold cutV
  rw [HT.sIx_none, HT.sIx_nat, List.drop_zero, Nat.sub_zero]
  by_cases h : n ≤ xs.length
  · rw [Nat.min_eq_left h]
  · rw [Nat.min_eq_right (by omega), List.take_length, List.take_of_length_le (by omega)]
theorem cut_last {xs : List V} : cutV xs (some (-1)) none = xs.drop (xs.length - 1) := by
  by_cases h : xs = []
  · subst h
    rfl
  · have e := List.dropLast_concat_getLast h
    rw [← e, CL.cutV_last, List.length_append, List.length_singleton, Nat.add_sub_cancel, List.drop_append_of_le_length (by omega), List.drop_length]
    rfl
section
variable {K : PySem.W.Frag} {G : Hp} {σ : L2.St} {te tn : TE} {ls : List (List Nat)} {n : Nat}
theorem lr_to' (h : LR K G σ te ls) (g : NR σ tn n) : LR K G σ (tSl (rSlL K) te tNoPart (tPart tn)) (ls.take n) := fun H Q s q => h H _ s fun H1 p s1 hp => g H1 _ ⟨_, rfl, p, _, rfl, SqL.of hp, fun p2 np2 => q _ p2 (s1.trans (same_new np2)) (by rw [upd_same, cut_to', rows_take])⟩
theorem lr_last (h : LR K G σ te ls) : LR K G σ (tSl (rSlL K) te (tPart (tUn (rU fun i => V.int (-i)) (tC (.int 1)))) tNoPart) (ls.drop (ls.length - 1)) := fun H Q s q => h H _ s fun H1 p s1 hp => ⟨_, rfl, _, rfl, p, _, rfl, SqL.of hp, fun p2 np2 => q _ p2 (s1.trans (same_new np2)) (by
  rw [upd_same]
  show some (HO.lst (cutV (rowsV ls) (some (-1)) none)) = _
  rw [cut_last, rows_len, rows_drop])⟩
end
theorem SqB.keep {K : PySem.W.Frag} {H H' : Hp} {L b : Addr} {lst : Bool} {ls : List (List Nat)} (h : SqB K H b lst (rowsV ls)) (k : Keeps L H H') (w : JarOk H L) : SqB K H' b lst (rowsV ls) := by
  unfold SqB at h ⊢
  cases lst with
  | false => exact keeps_sqT80 k w.lst h
  | true =>
    rw [if_pos rfl] at h ⊢
    obtain ⟨x, y, z, e⟩ := w
    rcases h with (h | ⟨o, h⟩) | h
    · exact .inl (.inl (k _ _ (rows_ne ⟨x, y, z, e⟩ h) h))
    · exact .inl (.inr ⟨o, k _ _ (fun e2 => by rw [e2, e] at h; cases h) h⟩)
    · exact .inr h
theorem EdIs.keep {K : PySem.W.Frag} {H H' : Hp} {L : Addr} {v : V} {f m : Nat} {lst : Bool} {ls : List (List Nat)} (h : EdIs K H v f m lst ls) (k : Keeps L H H') (w : JarOk H L) : EdIs K H' v f m lst ls := by
  obtain ⟨e, b, rfl, h1, h2⟩ := h
  exact ⟨e, b, rfl, keeps_sqT80 k w.lst h1, h2.keep k w⟩
def AnsJ (L : Addr) (t : TT) (σ : L2.St) (H : Hp) : Prop := ∀ Q : Bool → Hp → Prop, (∀ b H', Keeps L H H' → JarOk H' L → Q b H') → t σ H Q
theorem if_M {L : Addr} {t : TT} {a u : TS} {D : Ends} {σ : L2.St} {H : Hp} (M : L2.St → Hp → Prop) (hc : AnsJ L t σ H) (ht : ∀ H', Keeps L H H' → JarOk H' L → ∀ D' : Ends, (∀ σ' H', M σ' H' → D'.nx σ' H') → a D' σ H') (hf : ∀ H', Keeps L H H' → JarOk H' L → M σ H') (hu : ∀ σ' H', M σ' H' → u D σ' H') : tSeq (tIfS t a tNext) u D σ H :=
  hc _ fun b H' k w => by
    cases b with
    | true => exact iteT (ht H' k w _ hu)
    | false => exact iteF (hu _ _ (hf H' k w))
theorem if_M_g {L : Addr} {t : TT} {a u : TS} {D : Ends} {i : Nat} {x : V} {σ : L2.St} {H : Hp} (τ : L2.St) (e : σ.set i (some x) = τ) (M : L2.St → Hp → Prop) (hc : AnsJ L t τ H) (ht : ∀ H', Keeps L H H' → JarOk H' L → ∀ D' : Ends, (∀ σ' H', M σ' H' → D'.nx σ' H') → a D' τ H') (hf : ∀ H', Keeps L H H' → JarOk H' L → M τ H') (hu : ∀ σ' H', M σ' H' → u D σ' H') : gName i x σ H (tSeq (tIfS t a tNext) u D) := by
  subst e
  exact if_M M hc ht hf hu
def sp__law_edit (K : PySem.W.Frag) : Sp := fun vs H Q _ => ∃ (L a : Addr) (rows : List (List Nat)), vs = [.ref L, .ref a] ∧ H a = some (.lst (rowsV rows)) ∧ rows.length ≤ 100 ∧ (∀ l ∈ rows, LineOk l) ∧ JarOk H L ∧
  ∀ H' v f m lst ls, Keeps L H H' → JarOk H' L → EdIs K H' v f m lst ls → f + m ≤ rows.length → (∀ l ∈ ls, LineOk l) → ls.length ≤ 5 → Q v H'
theorem ok__law_edit {P : Program} {w : World} {K : PySem.W.Frag} {mg : Str → Option Value} {base : Heap} (T : Txt K mg) : FnOk P w K mg base CX0 5 T.a__law_edit T.d__law_edit ["_law_jar_here", "_law_lines_here"] (sp__law_edit K) := by
  refine T.f__law_edit.ok sc__law_edit (fun vs H Q E h => ?_) (fun cdv A outer s H vs Q E hr h => ?_)
  · obtain ⟨L, a, rows, rfl, _⟩ := h
    rfl
  · obtain ⟨L, a, rows, rfl, ha, hn, hw, hW, q⟩ := h
    refine ⟨_, (pss_cons (ps_set (i := 2) sc__law_edit.nd rfl (.inl rfl) (pe_call (ok__law_dip T) (hr.mono (by decide)) (by rfl) T.g__law_dip T.f__law_dip.kp T.b__law_dip .nil pass0 (pa_cons (pv 0) (pa_cons (pe_op op_add (pe_callB call_len_seq (by rfl) T.z_len PySem.boot_len (pa_cons (pv 1) pa_nil)) pe_int) pa_nil))))
        (pss_cons (ps_set (i := 3) sc__law_edit.nd rfl (.inl rfl) (pe_call (ok__law_dip T) (hr.mono (by decide)) (by rfl) T.g__law_dip T.f__law_dip.kp T.b__law_dip .nil pass0 (pa_cons (pv 0) (pa_cons (pe_op op_add (pe_callB (call_min2 rfl) (by rfl) T.z_min (by decide +kernel) (pa_cons pe_int (pa_cons (pe_op op_sub (pe_callB call_len_seq (by rfl) T.z_len PySem.boot_len (pa_cons (pv 1) pa_nil)) (pv 2)) pa_nil))) pe_int) pa_nil))))
        (pss_cons (ps_set (i := 4) sc__law_edit.nd rfl (.inl rfl) (pe_call (ok__law_lines T) (hr.mono (by decide)) (by rfl) T.g__law_lines T.f__law_lines.kp T.b__law_lines .nil pass0 (pa_cons (pv 0) (pa_cons pe_int pa_nil))))
        (pss_cons (ps_if (pt_cmpR op_eq (pe_call (ok__law_dip T) (hr.mono (by decide)) (by rfl) T.g__law_dip T.f__law_dip.kp T.b__law_dip .nil pass0 (pa_cons (pv 0) (pa_cons pe_int pa_nil))) pe_int (nomark _)) (pss_one (ps_set (i := 4) sc__law_edit.nd rfl (.inl rfl) (pe_op op_cat (pe_slice sl_list (pe_slice sl_list (pv 1) (po_some (pv 2)) (po_some (pe_op op_add (pv 2) (pv 3)))) po_none (po_some pe_int)) (pv 4)))) pss_nil)
        (pss_cons (ps_if (pt_cmpR op_eq (pe_call (ok__law_dip T) (hr.mono (by decide)) (by rfl) T.g__law_dip T.f__law_dip.kp T.b__law_dip .nil pass0 (pa_cons (pv 0) (pa_cons pe_int pa_nil))) pe_int (nomark _)) (pss_one (ps_set (i := 4) sc__law_edit.nd rfl (.inl rfl) (pe_op op_cat (pv 4) (pe_slice sl_list (pe_slice sl_list (pv 1) (po_some (pv 2)) (po_some (pe_op op_add (pv 2) (pv 3)))) (po_some (pe_un un_neg pe_int)) po_none)))) pss_nil)
        (pss_one (ps_ret (pe_tup (pa_cons (pv 2) (pa_cons (pv 3) (pa_cons (pe_ifExp (pt_cmpR op_eq (pe_call (ok__law_dip T) (hr.mono (by decide)) (by rfl) T.g__law_dip T.f__law_dip.kp T.b__law_dip .nil pass0 (pa_cons (pv 0) (pa_cons pe_int pa_nil))) pe_int (nomark _)) (pe_callTy call_tuple_of (by rfl) T.z_tuple (by decide +kernel) (pa_cons (pv 4) pa_nil)) (pv 4)) pa_nil))))))))))), ?_⟩
    have lr := rows_len rows
    have haL := rows_ne hW ha
    refine ⟨_, rfl, _, rfl, a, _, rfl, .inl (SqL.of ha), _, _, rfl, rfl, L, _, rfl, by omega, by omega, hW, fun H1 d k1 w1 d0 d1 => ?_⟩
    obtain ⟨f, rfl⟩ := Int.eq_ofNat_of_zero_le d0
    have hf : f ≤ rows.length := by omega
    have ha1 := k1 _ _ haL ha
    refine ⟨_, rfl, _, rfl, a, _, rfl, .inl (SqL.of ha1), _, rfl, _, _, rfl, rfl, _, _, rfl, ?_⟩
    have em : (if ((rowsV rows).length : Int) - (f : Int) < 4 then ((rowsV rows).length : Int) - (f : Int) else 4) = ((min 4 (rows.length - f) : Nat) : Int) := by
      rw [lr]
      split <;> omega
    rw [em]
    refine ⟨_, _, rfl, rfl, L, _, rfl, by omega, by omega, w1, fun H2 d2 k2 w2 e0 e1 => ?_⟩
    obtain ⟨m, rfl⟩ := Int.eq_ofNat_of_zero_le e0
    have hm : f + m ≤ rows.length := by omega
    have ha2 := k2 _ _ haL ha1
    refine ⟨_, rfl, L, 3, rfl, by decide, w2, fun H3 p rows3 k3 w3 np hp h3 hl3 => ?_⟩
    have k03 := (k1.trans k2).trans k3
    have ha3 := k3 _ _ haL ha2
    dsimp only
    refine if_M_g (L := L) [some (.ref L), some (.ref a), some (.int (f : Int)), some (.int (m : Int)), some (.ref p)] rfl (fun σ' H' => ∃ p ls, σ' = [some (.ref L), some (.ref a), some (.int (f : Int)), some (.int (m : Int)), some (.ref p)] ∧ Keeps L H H' ∧ JarOk H' L ∧ H' p = some (.lst (rowsV ls)) ∧ ls.length ≤ 4 ∧ ∀ l ∈ ls, LineOk l) (fun Qb qb => ⟨_, rfl, L, 4, rfl, by decide, by decide, w3, fun H4 d4 k4 w4 _ _ => ⟨rfl, _, rfl, qb _ _ k4 w4⟩⟩) (fun H4 k4 w4 D' go => ?_) (fun H4 k4 w4 => ⟨p, rows3, rfl, k03.trans k4, w4, k4 _ _ np hp, by omega, hl3⟩) ?_
    · have ha4 := k4 _ _ haL ha3
      have hp4 := k4 _ _ np hp
      refine lr_cat (K := K) (G := H4) (σ := [some (.ref L), some (.ref a), some (.int (f : Int)), some (.int (m : Int)), some (.ref p)]) (lr_to' (n := 1) (lr_mid (lr_var (i := 1) rfl ha4) (nr_var (i := 2) rfl) (nr_add (nr_var (i := 2) rfl) (nr_var (i := 3) rfl)) hm (by omega)) (nr_is rfl)) (lr_var (i := 4) rfl hp4) (by rw [List.length_take]; omega) H4 _ (Same.refl _) fun H5 p5 s5 hp5 => go _ _ ⟨p5, _, rfl, (k03.trans k4).trans (.of s5), w4.same s5, hp5, by rw [List.length_append, List.length_take]; omega, fun l hl => ?_⟩
      rcases List.mem_append.mp hl with hl | hl
      · exact hw l (List.mem_of_mem_drop (List.mem_of_mem_take (List.mem_of_mem_take hl)))
      · exact hl3 l hl
    rintro σ' H4 ⟨p4, ls4, rfl, k4, w4, hp4, h4, hl4⟩
    have ha4 := k4 _ _ haL ha
    have np4 := rows_ne w4 hp4
    refine if_M (L := L) (fun σ' H' => ∃ p ls, σ' = [some (.ref L), some (.ref a), some (.int (f : Int)), some (.int (m : Int)), some (.ref p)] ∧ Keeps L H H' ∧ JarOk H' L ∧ H' p = some (.lst (rowsV ls)) ∧ ls.length ≤ 5 ∧ ∀ l ∈ ls, LineOk l) (fun Qb qb => ⟨_, rfl, L, 4, rfl, by decide, by decide, w4, fun H4 d4 k4 w4 _ _ => ⟨rfl, _, rfl, qb _ _ k4 w4⟩⟩) (fun H5 k5 w5 D' go => ?_) (fun H5 k5 w5 => ⟨p4, ls4, rfl, k4.trans k5, w5, k5 _ _ np4 hp4, by omega, hl4⟩) ?_
    · have ha5 := k5 _ _ haL ha4
      have hp5 := k5 _ _ np4 hp4
      refine lr_cat (K := K) (G := H5) (σ := [some (.ref L), some (.ref a), some (.int (f : Int)), some (.int (m : Int)), some (.ref p4)]) (lr_var (i := 4) rfl hp5) (lr_last (lr_mid (lr_var (i := 1) rfl ha5) (nr_var (i := 2) rfl) (nr_add (nr_var (i := 2) rfl) (nr_var (i := 3) rfl)) hm (by omega))) (by rw [List.length_drop]; omega) H5 _ (Same.refl _) fun H6 p6 s6 hp6 => go _ _ ⟨p6, _, rfl, (k4.trans k5).trans (.of s6), w5.same s6, hp6, by rw [List.length_append, List.length_drop]; omega, fun l hl => ?_⟩
      rcases List.mem_append.mp hl with hl | hl
      · exact hl4 l hl
      · exact hw l (List.mem_of_mem_drop (List.mem_of_mem_take (List.mem_of_mem_drop hl)))
    rintro σ' H5 ⟨p5, ls5, rfl, k5, w5, hp5, h5, hl5⟩
    have np5 := rows_ne w5 hp5
    refine ⟨_, rfl, _, rfl, _, rfl, L, 2, rfl, by decide, by decide, w5, fun H6 d6 k6 w6 _ _ => ⟨rfl, _, rfl, ?_⟩⟩
    have hp6 := k6 _ _ np5 hp5
    refine ite2 (fun _ => ?_) (fun _ => ?_)
    · refine ⟨_, rfl, p5, _, rfl, .inl ⟨SqL.of hp6, fun r nr => ⟨(by show 3 ≤ sizeLine; decide), fun r2 nr2 => ?_⟩⟩⟩
      exact q _ _ f m false ls5 (((k5.trans k6).trans (.new nr)).trans (.new nr2)) ((w6.new nr).new nr2) ⟨r2, r, rfl, SqT.of upd_same, SqT.of (same_new nr2 _ _ upd_same)⟩ hm hl5 h5
    · refine ⟨_, rfl, (by show 3 ≤ sizeLine; decide), fun r2 nr2 => ?_⟩
      exact q _ _ f m true ls5 ((k5.trans k6).trans (.new nr2)) (w6.new nr2) ⟨r2, p5, rfl, SqT.of upd_same, SqL.of (same_new nr2 _ _ hp6)⟩ hm hl5 h5

def sp__law_done (K : PySem.W.Frag) : Sp := fun vs H Q _ => ∃ (a : Addr) (v : V) (rows ls : List (List Nat)) (f m : Nat) (lst : Bool), vs = [.ref a, v] ∧ H a = some (.lst (rowsV rows)) ∧ EdIs K H v f m lst ls ∧ f + m ≤ rows.length ∧ rows.length ≤ 1000 ∧ ls.length ≤ 1000 ∧ ∀ H' p, Same H H' → H' p = some (.lst (rowsV (edL rows ls f m))) → Q (.ref p) H'
theorem ok__law_done {P : Program} {w : World} {K : PySem.W.Frag} {mg : Str → Option Value} {base : Heap} (T : Txt K mg) : FnOk P w K mg base CX0 1 T.a__law_done T.d__law_done ["_law_lines_here", "_law_edit_here"] (sp__law_done K) := by
  refine T.f__law_done.ok sc__law_done (fun vs H Q E h => ?_) (fun cdv A outer s H vs Q E hr h => ?_)
  · obtain ⟨a, v, rows, ls, f, m, lst, rfl, _⟩ := h
    rfl
  · obtain ⟨a, v, rows, ls, f, m, lst, rfl, ha, ⟨e, b, rfl, he, hb⟩, hfm, hr1, hr2, q⟩ := h
    refine ⟨_, (pss_cons (ps_asg (pv 1) (pg_tup (by rfl) (pgs_cons (pg_name (i := 2) sc__law_done.nd rfl (.inl rfl)) (pgs_cons (pg_name (i := 3) sc__law_done.nd rfl (.inl rfl)) (pgs_cons (pg_name (i := 4) sc__law_done.nd rfl (.inl rfl)) pgs_nil)))))
        (pss_one (ps_ret (pe_op op_cat (pe_op op_cat (pe_slice sl_list (pv 0) po_none (po_some (pv 2))) (pe_callTy call_list_of (by rfl) T.z_list (by decide +kernel) (pa_cons (pv 4) pa_nil))) (pe_slice sl_list (pv 0) (po_some (pe_op op_add (pv 2) (pv 3))) po_none))))), ?_⟩
    refine ⟨_, rfl, e, _, rfl, he, rfl, _, _, rfl, _, _, rfl, _, _, rfl, rfl, ?_⟩
    exact lr_cat (K := K) (G := H) (σ := [some (.ref a), some (.ref e), some (.int (f : Int)), some (.int (m : Int)), some (.ref b)]) (lr_cat (lr_to (lr_var (i := 0) rfl ha) (nr_var (i := 2) rfl) (by omega)) (lr_of (i := 4) rfl hb) (by rw [List.length_take]; omega)) (lr_from (lr_var (i := 0) rfl ha) (nr_add (nr_var (i := 2) rfl) (nr_var (i := 3) rfl)) hfm) (by rw [List.length_append, List.length_take, List.length_drop]; omega) H _ (Same.refl _) q
def sp__law_plain (K : PySem.W.Frag) : Sp := fun vs H Q _ => ∃ (v : V) (ls : List (List Nat)) (f m : Nat) (lst : Bool), vs = [v] ∧ EdIs K H v f m lst ls ∧ ∀ H' v', Same H H' → EdIs K H' v' f m true ls → Q v' H'
theorem ok__law_plain {P : Program} {w : World} {K : PySem.W.Frag} {mg : Str → Option Value} {base : Heap} (T : Txt K mg) : FnOk P w K mg base CX0 1 T.a__law_plain T.d__law_plain ["_law_edit_here"] (sp__law_plain K) := by
  refine T.f__law_plain.ok sc__law_plain (fun vs H Q E h => ?_) (fun cdv A outer s H vs Q E hr h => ?_)
  · obtain ⟨v, ls, f, m, lst, rfl, _⟩ := h
    rfl
  · obtain ⟨v, ls, f, m, lst, rfl, ⟨e, b, rfl, he, hb⟩, q⟩ := h
    refine ⟨_, (pss_one (ps_ret (pe_tup (pa_cons (pe_ix ix_tup (pv 0) pe_int (fun _ _ => rfl)) (pa_cons (pe_ix ix_tup (pv 0) pe_int (fun _ _ => rfl)) (pa_cons (pe_callTy call_list_of (by rfl) T.z_list (by decide +kernel) (pa_cons (pe_ix ix_tup (pv 0) pe_int (fun _ _ => rfl)) pa_nil)) pa_nil)))))), ?_⟩
    refine ⟨_, rfl, e, _, _, _, rfl, rfl, he, atI_nat (j := 0) rfl, _, rfl, e, _, _, _, rfl, rfl, he, atI_nat (j := 1) rfl, _, rfl, e, _, _, _, rfl, rfl, he, atI_nat (j := 2) rfl, b, _, rfl, hb.or, fun l nl => ⟨(by show 3 ≤ sizeLine; decide), fun r nr => ?_⟩⟩
    exact q _ _ ((same_new nl).trans (same_new nr)) ⟨r, l, rfl, SqT.of upd_same, SqL.of (same_new nr _ _ upd_same)⟩
theorem min_step {A B : List (List Nat)} {i : Nat} {x y : List Nat} (hx : A[i]? = some x) (hy : B[i]? = some y) : (if (decide (min i (cpl A B) = i) && decide (x = y)) = true then i + 1 else min i (cpl A B)) = min (i + 1) (cpl A B) := by
  by_cases h1 : i < cpl A B
  · obtain ⟨z, g1, g2⟩ := cpl_at A B i h1
    rw [hx] at g1
    rw [hy] at g2
    cases g1
    cases g2
    rw [Nat.min_eq_left (by omega : i ≤ cpl A B), decide_eq_true rfl, decide_eq_true rfl, if_pos (show (true && true) = true from rfl), Nat.min_eq_left (by omega)]
  · by_cases h2 : i = cpl A B
    · subst h2
      rw [decide_eq_false (cpl_off A B hx hy), Bool.and_false, if_neg Bool.false_ne_true, Nat.min_self, Nat.min_eq_right (by omega)]
    · rw [decide_eq_false (show ¬ min i (cpl A B) = i by omega), Bool.false_and, if_neg Bool.false_ne_true, Nat.min_eq_right (by omega), Nat.min_eq_right (by omega)]
theorem rev_at {A : List (List Nat)} {f k : Nat} (h : k < A.length - f) : (A.drop f).reverse[k]? = A[A.length - 1 - k]? := by
  rw [List.getElem?_reverse (by rw [List.length_drop]; exact h), List.getElem?_drop, List.length_drop]
  congr 1
  omega
def sp__law_least (K : PySem.W.Frag) : Sp := fun vs H Q _ => ∃ (a b : Addr) (A B : List (List Nat)), vs = [.ref a, .ref b] ∧ H a = some (.lst (rowsV A)) ∧ H b = some (.lst (rowsV B)) ∧ A.length ≤ 1000 ∧ B.length ≤ 1000 ∧ ∀ H' v, Same H H' → EdIs K H' v (cpl A B) (lm A B) true (lls A B) → Q v H'
theorem ok__law_least {P : Program} {w : World} {K : PySem.W.Frag} {mg : Str → Option Value} {base : Heap} (T : Txt K mg) : FnOk P w K mg base CX0 1 T.a__law_least T.d__law_least ["_law_lines_here", "_law_others"] (sp__law_least K) := by
  refine T.f__law_least.ok sc__law_least (fun vs H Q E h => ?_) (fun cdv A outer s H vs Q E hr h => ?_)
  · obtain ⟨a, b, A, B, rfl, _⟩ := h
    rfl
  · obtain ⟨a, b, L, M, rfl, ha, hb, hL, hM, q⟩ := h
    refine ⟨_, (pss_cons (ps_set (i := 2) sc__law_least.nd rfl (.inl rfl) pe_int)
        (pss_cons (ps_for PassesOwn.never rfl (pi_range1 (by rfl) T.z_range (pa_cons (pe_callB (call_min2 rfl) (by rfl) T.z_min (by decide +kernel) (pa_cons (pe_callB call_len_seq (by rfl) T.z_len PySem.boot_len (pa_cons (pv 0) pa_nil)) (pa_cons (pe_callB call_len_seq (by rfl) T.z_len PySem.boot_len (pa_cons (pv 1) pa_nil)) pa_nil))) pa_nil)) (pg_name (i := 3) sc__law_least.nd rfl (.inl rfl)) (pss_one (ps_if (PW.pt (pw_and (pt_cmpR op_eq (pv 2) (pv 3) (nomark _)) (pw_and1 (pt_cmpR op_eq (pe_ix ix_list (pv 0) (pv 3) (fun _ _ => rfl)) (pe_ix ix_list (pv 1) (pv 3) (fun _ _ => rfl)) (nomark _))))) (pss_one (ps_set (i := 2) sc__law_least.nd rfl (.inl rfl) (pe_op op_add (pv 3) pe_int))) pss_nil)))
        (pss_cons (ps_par (i := 4) (j := 5) (by rfl) sc__law_least.nd rfl rfl (by decide) rfl rfl (pa_cons pe_int (pa_cons (pe_op op_sub (pe_callB (call_min2 rfl) (by rfl) T.z_min (by decide +kernel) (pa_cons (pe_callB call_len_seq (by rfl) T.z_len PySem.boot_len (pa_cons (pv 0) pa_nil)) (pa_cons (pe_callB call_len_seq (by rfl) T.z_len PySem.boot_len (pa_cons (pv 1) pa_nil)) pa_nil))) (pv 2)) pa_nil)) (by rfl))
        (pss_cons (ps_for PassesOwn.never rfl (pi_range1 (by rfl) T.z_range (pa_cons (pv 5) pa_nil)) (pg_name (i := 3) sc__law_least.nd rfl (.inl rfl)) (pss_one (ps_if (PW.pt (pw_and (pt_cmpR op_eq (pv 4) (pv 3) (nomark _)) (pw_and1 (pt_cmpR op_eq (pe_ix ix_list (pv 0) (pe_op op_sub (pe_op op_sub (pe_callB call_len_seq (by rfl) T.z_len PySem.boot_len (pa_cons (pv 0) pa_nil)) pe_int) (pv 3)) (fun _ _ => rfl)) (pe_ix ix_list (pv 1) (pe_op op_sub (pe_op op_sub (pe_callB call_len_seq (by rfl) T.z_len PySem.boot_len (pa_cons (pv 1) pa_nil)) pe_int) (pv 3)) (fun _ _ => rfl)) (nomark _))))) (pss_one (ps_set (i := 4) sc__law_least.nd rfl (.inl rfl) (pe_op op_add (pv 3) pe_int))) pss_nil)))
        (pss_one (ps_ret (pe_tup (pa_cons (pv 2) (pa_cons (pe_op op_sub (pe_op op_sub (pe_callB call_len_seq (by rfl) T.z_len PySem.boot_len (pa_cons (pv 0) pa_nil)) (pv 2)) (pv 4)) (pa_cons (pe_slice sl_list (pv 1) (po_some (pv 2)) (po_some (pe_op op_sub (pe_callB call_len_seq (by rfl) T.z_len PySem.boot_len (pa_cons (pv 1) pa_nil)) (pv 4)))) pa_nil)))))))))), ?_⟩
    have lL := rows_len L
    have lM := rows_len M
    have hc := cpl_le L M
    have hlb := lb_le L M
    refine ⟨_, rfl, a, _, rfl, .inl (SqL.of ha), _, rfl, b, _, rfl, .inl (SqL.of hb), _, _, rfl, ?_⟩
    rw [min_nat, lL, lM]
    refine ⟨_, rfl, by omega, by omega, ?_⟩
    refine for_range (lo := 0) (n := min L.length M.length) (fun i σ' H' => H' = H ∧ ∃ w3 w4 w5, σ' = [some (.ref a), some (.ref b), some (.int ((min i (cpl L M) : Nat) : Int)), w3, w4, w5]) ?_ ?_ ?_
    · refine ⟨rfl, none, none, none, ?_⟩
      rw [Nat.zero_min]
      rfl
    · rintro i σ' H' hi ⟨rfl, w3, w4, w5, rfl⟩
      obtain ⟨x, hx⟩ : ∃ x, L[i]? = some x := ⟨_, List.getElem?_eq_getElem (by omega)⟩
      obtain ⟨y, hy⟩ : ∃ y, M[i]? = some y := ⟨_, List.getElem?_eq_getElem (by omega)⟩
      have st := min_step hx hy
      refine ⟨_, rfl, _, rfl, rfl, _, rfl, ?_⟩
      have e1 : decide (V.int ((min i (cpl L M) : Nat) : Int) = V.int (0 + (i : Int))) = decide (min i (cpl L M) = i) := decide_eq_decide.mpr ⟨fun e => by have := V.int.inj e; omega, fun e => by rw [e, Int.zero_add]⟩
      rw [e1]
      cases h1 : decide (min i (cpl L M) = i) with
      | false =>
        rw [h1, Bool.false_and, if_neg Bool.false_ne_true] at st
        refine iteF (iteF ⟨rfl, some (.int (0 + (i : Int))), w4, w5, ?_⟩)
        rw [← st]
        rfl
      | true =>
        rw [h1, Bool.true_and] at st
        refine iteT ⟨_, rfl, _, rfl, a, _, _, _, rfl, rfl, SqL.of ha, (by rw [Int.zero_add]; exact atI_nat (rows_at hx)), _, rfl, _, rfl, b, _, _, _, rfl, rfl, SqL.of hb, (by rw [Int.zero_add]; exact atI_nat (rows_at hy)), rfl, _, rfl, ?_⟩
        rw [dec_row]
        cases h2 : decide (x = y) with
        | true =>
          rw [h2, if_pos rfl] at st
          refine iteT ⟨_, rfl, _, _, rfl, rfl, rfl, some (.int (0 + (i : Int))), w4, w5, ?_⟩
          rw [← st]
          show [some (V.ref a), some (.ref b), some (.int (0 + (i : Int) + 1)), some (.int (0 + (i : Int))), w4, w5] = _
          rw [Int.zero_add]
          rfl
        | false =>
          rw [h2, if_neg Bool.false_ne_true] at st
          refine iteF ⟨rfl, some (.int (0 + (i : Int))), w4, w5, ?_⟩
          rw [← st]
          rfl
    · rintro σ' H' ⟨rfl, w3, w4, w5, rfl⟩
      rw [Nat.min_eq_right (by omega : cpl L M ≤ min L.length M.length)]
      refine ⟨_, rfl, a, _, rfl, .inl (SqL.of ha), _, rfl, b, _, rfl, .inl (SqL.of hb), _, _, rfl, ?_⟩
      rw [min_nat, lL, lM]
      refine ⟨_, rfl, _, _, rfl, rfl, _, _, rfl, ?_⟩
      refine ⟨_, rfl, ((min L.length M.length : Nat) : Int) - ((cpl L M : Nat) : Int), rfl, by omega, by omega, ?_⟩
      refine for_range (lo := 0) (n := (((min L.length M.length : Nat) : Int) - ((cpl L M : Nat) : Int)).toNat) (fun i σ' H2 => H2 = H' ∧ ∃ w3 w5, σ' = [some (.ref a), some (.ref b), some (.int ((cpl L M : Nat) : Int)), w3, some (.int ((min i (lb L M) : Nat) : Int)), w5]) ?_ ?_ ?_
      · refine ⟨rfl, w3, some (.int (((min L.length M.length : Nat) : Int) - ((cpl L M : Nat) : Int))), ?_⟩
        rw [Nat.zero_min]
        rfl
      · rintro i σ' H2 hi ⟨rfl, w3, w5, rfl⟩
        have hi' : i < min L.length M.length - cpl L M := by omega
        obtain ⟨x, hx⟩ : ∃ x, L[L.length - 1 - i]? = some x := ⟨_, List.getElem?_eq_getElem (by omega)⟩
        obtain ⟨y, hy⟩ : ∃ y, M[M.length - 1 - i]? = some y := ⟨_, List.getElem?_eq_getElem (by omega)⟩
        have st := min_step (A := (L.drop (cpl L M)).reverse) (B := (M.drop (cpl L M)).reverse) (i := i) (x := x) (y := y) (by rw [rev_at (by omega)]; exact hx) (by rw [rev_at (by omega)]; exact hy)
        rw [show cpl (L.drop (cpl L M)).reverse (M.drop (cpl L M)).reverse = lb L M from rfl] at st
        refine ⟨_, rfl, _, rfl, rfl, _, rfl, ?_⟩
        have e1 : decide (V.int ((min i (lb L M) : Nat) : Int) = V.int (0 + (i : Int))) = decide (min i (lb L M) = i) := decide_eq_decide.mpr ⟨fun e => by have := V.int.inj e; omega, fun e => by rw [e, Int.zero_add]⟩
        rw [e1]
        cases h1 : decide (min i (lb L M) = i) with
        | false =>
          rw [h1, Bool.false_and, if_neg Bool.false_ne_true] at st
          refine iteF (iteF ⟨rfl, some (.int (0 + (i : Int))), w5, ?_⟩)
          rw [← st]
          rfl
        | true =>
          rw [h1, Bool.true_and] at st
          refine iteT ⟨_, rfl, _, rfl, a, _, rfl, .inl (SqL.of ha), _, _, rfl, rfl, _, rfl, _, _, rfl, rfl, a, _, _, V.str (S x), rfl, rfl, SqL.of ha, ?_, _, rfl, _, rfl, b, _, rfl, .inl (SqL.of hb), _, _, rfl, rfl, _, rfl, _, _, rfl, rfl, b, _, _, V.str (S y), rfl, rfl, SqL.of hb, ?_, rfl, _, rfl, ?_⟩
          · rw [lL, show ((L.length : Nat) : Int) - 1 - (0 + (i : Int)) = ((L.length - 1 - i : Nat) : Int) by omega]
            exact atI_nat (rows_at hx)
          · rw [lM, show ((M.length : Nat) : Int) - 1 - (0 + (i : Int)) = ((M.length - 1 - i : Nat) : Int) by omega]
            exact atI_nat (rows_at hy)
          rw [dec_row]
          cases h2 : decide (x = y) with
          | true =>
            rw [h2, if_pos rfl] at st
            refine iteT ⟨_, rfl, _, _, rfl, rfl, rfl, some (.int (0 + (i : Int))), w5, ?_⟩
            rw [← st]
            show [some (V.ref a), some (.ref b), some (.int ((cpl L M : Nat) : Int)), some (.int (0 + (i : Int))), some (.int (0 + (i : Int) + 1)), w5] = _
            rw [Int.zero_add]
            rfl
          | false =>
            rw [h2, if_neg Bool.false_ne_true] at st
            refine iteF ⟨rfl, some (.int (0 + (i : Int))), w5, ?_⟩
            rw [← st]
            rfl
      · rintro σ' H2 ⟨rfl, w3, w5, rfl⟩
        rw [Nat.min_eq_right (by omega : lb L M ≤ (((min L.length M.length : Nat) : Int) - ((cpl L M : Nat) : Int)).toNat)]
        refine ⟨_, rfl, _, rfl, a, _, rfl, .inl (SqL.of ha), _, rfl, _, _, rfl, rfl, _, rfl, _, _, rfl, rfl, ?_⟩
        refine lr_midS (K := K) (G := H2) (σ := [some (.ref a), some (.ref b), some (.int ((cpl L M : Nat) : Int)), w3, some (.int ((lb L M : Nat) : Int)), w5]) (n := cpl L M) (m := M.length - lb L M) (lr_var (i := 1) rfl hb) (nr_var (i := 2) rfl) (fun H5 Q5 s5 q5 => ⟨_, rfl, b, _, rfl, .inl (SqL.of (s5 _ _ hb)), _, rfl, _, _, rfl, rfl, ?_⟩) (by omega) (by omega) H2 _ (Same.refl _) fun H5 p5 s5 hp5 => ?_
        · refine ⟨(by show 3 ≤ sizeLine; decide), fun r nr => q _ _ (s5.trans (same_new nr)) ⟨r, p5, rfl, ?_, SqL.of (same_new nr _ _ hp5)⟩⟩
          have e : ((L.length : Nat) : Int) - (cpl L M : Nat) - (lb L M : Nat) = ((lm L M : Nat) : Int) := by
            unfold lm
            omega
          rw [lL, ← e]
          exact SqT.of upd_same
        · show Q5 (V.int (((rowsV M).length : Int) - (lb L M : Nat))) H5
          rw [lM]
          have e : ((M.length - lb L M : Nat) : Int) = (M.length : Int) - (lb L M : Nat) := by omega
          rw [e] at q5
          exact q5

/-! ### edits there and back -/
theorem line_low {l : List Nat} (h : LineOk l) : Sm l := fun c hc => Nat.lt_trans (h.2.2 c hc) (by decide)
theorem edL_len {L ls : List (List Nat)} {f m : Nat} (h : f + m ≤ L.length) : (edL L ls f m).length = L.length - m + ls.length := by
  unfold edL
  rw [List.length_append, List.length_append, List.length_take, List.length_drop]
  omega
theorem edL_mem {L ls : List (List Nat)} {f m : Nat} (hL : ∀ l ∈ L, LineOk l) (hl : ∀ l ∈ ls, LineOk l) : ∀ l ∈ edL L ls f m, LineOk l := fun l h => by
  unfold edL at h
  rcases List.mem_append.mp h with h | h
  · rcases List.mem_append.mp h with h | h
    · exact hL l (List.mem_of_mem_take h)
    · exact hl l h
  · exact hL l (List.mem_of_mem_drop h)
theorem ed_take {L ls : List (List Nat)} {f m : Nat} (h : f + m ≤ L.length) : (edL L ls f m).take f = L.take f := by
  unfold edL
  rw [List.append_assoc, List.take_append_of_le_length (by rw [List.length_take]; omega), List.take_take, Nat.min_self]
theorem ed_drop {L ls : List (List Nat)} {f m : Nat} (h : f + m ≤ L.length) : (edL L ls f m).drop f = ls ++ L.drop (f + m) := by
  unfold edL
  have e : (L.take f).length = f := by rw [List.length_take]; omega
  rw [List.append_assoc]
  conv => lhs; arg 1; rw [← e]
  rw [List.drop_left]
theorem ed_mid {L ls : List (List Nat)} {f m : Nat} (h : f + m ≤ L.length) : ((edL L ls f m).drop f).take ls.length = ls := by
  rw [ed_drop h, List.take_left]
theorem ed_back {L ls : List (List Nat)} {f m : Nat} (h : f + m ≤ L.length) : edL (edL L ls f m) ((L.drop f).take m) f ls.length = L := by
  show (edL L ls f m).take f ++ (L.drop f).take m ++ (edL L ls f m).drop (f + ls.length) = L
  rw [ed_take h, ← List.drop_drop, ed_drop h, List.drop_left, List.append_assoc, ← List.drop_drop, List.take_append_drop, List.take_append_drop]
theorem cpl_take : ∀ A B : List (List Nat), A.take (cpl A B) = B.take (cpl A B)
  | [], _ => by
    show ([] : List (List Nat)).take 0 = List.take 0 _
    rfl
  | _ :: _, [] => rfl
  | x :: a, y :: b => by
    by_cases e : x = y
    · subst e
      have e2 : cpl (x :: a) (x :: b) = cpl a b + 1 := if_pos rfl
      rw [e2, List.take_succ_cons, List.take_succ_cons, cpl_take a b]
    · have e2 : cpl (x :: a) (y :: b) = 0 := if_neg e
      rw [e2]
      rfl
theorem least_back (L M : List (List Nat)) : edL L (lls L M) (cpl L M) (lm L M) = M := by
  have h1 := lb_le L M
  have h2 := cpl_le L M
  have e1 := cpl_take L M
  have e2 : L.drop (L.length - lb L M) = M.drop (M.length - lb L M) := by
    have h := cpl_take (L.drop (cpl L M)).reverse (M.drop (cpl L M)).reverse
    rw [show cpl (L.drop (cpl L M)).reverse (M.drop (cpl L M)).reverse = lb L M from rfl, List.take_reverse, List.take_reverse] at h
    have h' := List.reverse_inj.mp h
    rw [List.drop_drop, List.drop_drop, List.length_drop, List.length_drop] at h'
    rw [show cpl L M + (L.length - cpl L M - lb L M) = L.length - lb L M by omega, show cpl L M + (M.length - cpl L M - lb L M) = M.length - lb L M by omega] at h'
    exact h'
  unfold edL
  rw [show cpl L M + lm L M = L.length - lb L M by unfold lm; omega, e2, e1]
  unfold lls
  have e3 : M.length - lb L M = cpl L M + (M.length - lb L M - cpl L M) := by omega
  conv => lhs; arg 2; rw [e3, ← List.drop_drop]
  rw [List.append_assoc, List.take_append_drop, List.take_append_drop]
def edD (f m : Nat) (ls : List (List Nat)) : PyData := .tuple [.int (f : Int), .int (m : Int), .list (ls.map fun l => PyData.str (S l))]
theorem dp_rows {K : PySem.W.Frag} {H : Hp} {a : Addr} {ls : List (List Nat)} (h : SqL K H a (rowsV ls)) : Dp K H (.ref a) (.list (ls.map fun l => PyData.str (S l))) := .lst h (dp_strs ls)
theorem dp_ed {K : PySem.W.Frag} {H : Hp} {v : V} {f m : Nat} {ls : List (List Nat)} (h : EdIs K H v f m true ls) : Dp K H v (edD f m ls) := by
  obtain ⟨e, b, rfl, h1, h2⟩ := h
  unfold SqB at h2
  exact .tup h1 (.cons (.int _) (.cons (.int _) (.cons (dp_rows h2) .nil)))
theorem lay_ed {f m : Nat} {ls : List (List Nat)} (h : ∀ l ∈ ls, LineOk l) : (edD f m ls).canLay0 = true := by
  show (true && (true && (PyData.canLayAll0 (ls.map fun l => PyData.str (S l)) && true))) = true
  rw [canLay_strs fun l hl => line_low (h l hl)]
  rfl
theorem shaped_ed {f m : Nat} {ls : List (List Nat)} (h : ∀ l ∈ ls, LineOk l) : SeqAt.shaped (edD f m ls) = true := by
  show ((edD f m ls).canLay0 && decide (max 0 (max 0 (max (PyData.depthAll (ls.map fun l => PyData.str (S l)) + 1) 0)) + 1 ≤ 64)) = true
  rw [lay_ed h, depth_strs]
  rfl
theorem ne_ed {K : PySem.W.Frag} {H : Hp} {v u : V} {f m : Nat} {ls : List (List Nat)} (hl : ∀ l ∈ ls, LineOk l) (h : EdIs K H v f m true ls) (g : EdIs K H u f m true ls) {Q : VK} (q : Q (.bl false) H) : rNeD K v u H Q := ⟨_, _, dp_ed h, dp_ed g, shaped_ed hl, shaped_ed hl, by
  rw [PySem.SeqAt.eqv_refl _ (lay_ed hl)]
  exact q⟩
theorem rows_S (ls : List (List Nat)) : rowsV ls = (ls.map S).map V.str := by
  unfold rowsV
  rw [List.map_map]
  rfl
theorem rep_len {l : List Nat} (h : LineOk l) : (reprText (S l)).length ≤ 402 := by
  have := PySem.StrLaws.reprText_len (S l) (fun c hc => by
    rw [S_tl] at hc
    exact Nat.lt_trans (h.2.2 c hc) (by decide))
  rw [S_len] at this
  have := h.2.1
  omega
theorem reps_len : ∀ {ls : List (List Nat)}, (∀ l ∈ ls, LineOk l) → (((ls.map S).map reprText).map (·.length)).sum ≤ 402 * ls.length
  | [], _ => Nat.zero_le _
  | l :: ls, h => by
    have h1 := rep_len (h l (List.mem_cons_self ..))
    have h2 := reps_len fun x hx => h x (List.mem_cons_of_mem _ hx)
    show (reprText (S l)).length + (((ls.map S).map reprText).map (·.length)).sum ≤ 402 * (ls.length + 1)
    omega
theorem more_len {g : List Code} {b : Addr} {lst : Bool} {ls : List (List Nat)} (h : ∀ l ∈ ls, LineOk l) (n : ls.length ≤ 5) : (moreG b lst (ls.map S) g).length ≤ 5000 := by
  have h1 := reps_len h
  have h2 := listText_len_le ((ls.map S).map reprText)
  have h3 := tupleText_len_le ((ls.map S).map reprText)
  rw [List.length_map, List.length_map] at h2 h3
  have e1 : (("[...]" : Str)).length ≤ 5000 := by decide +kernel
  have e2 : (("(...)" : Str)).length ≤ 5000 := by decide +kernel
  have e3 : (("[]" : Str)).length ≤ 5000 := by decide +kernel
  unfold moreG
  split
  · split
    · exact e3
    · unfold lstC
      split
      · exact e1
      · omega
  · unfold tupC
    split
    · exact e2
    · omega
theorem int_len : ∀ f < 200, (Str.ofString (toString ((f : Nat) : Int))).length ≤ 10 := by decide +kernel
theorem edT_len {g : List Code} {a b : Addr} {lst : Bool} {f m : Nat} {ls : List (List Nat)} (h : ∀ l ∈ ls, LineOk l) (n : ls.length ≤ 5) (hf : f < 200) (hm : m < 200) : (edT g a b lst (f : Int) (m : Int) (ls.map S)).length ≤ sizeLine := by
  have e2 : (("(...)" : Str)).length ≤ 5000 := by decide +kernel
  have h1 := int_len f hf
  have h2 := int_len m hm
  have h3 := more_len (g := .builtin "tuple.__repr__" ⟨[.ref a], []⟩ :: g) (b := b) (lst := lst) h n
  rw [sizeLine_eq]
  unfold edT tupG
  split
  · omega
  · have h4 := tupleText_len_le ([fun _ => Str.ofString (toString ((f : Nat) : Int)), fun _ => Str.ofString (toString ((m : Nat) : Int)), moreG b lst (ls.map S)].map fun r : List Code → Str => r (.builtin "tuple.__repr__" ⟨[.ref a], []⟩ :: g))
    refine Nat.le_trans h4 ?_
    show (Str.ofString (toString ((f : Nat) : Int))).length + ((Str.ofString (toString ((m : Nat) : Int))).length + ((moreG b lst (ls.map S) (.builtin "tuple.__repr__" ⟨[.ref a], []⟩ :: g)).length + 0)) + 2 * 3 + 3 ≤ _
    omega

theorem S_cut_last (l : List Nat) : cutS (S l) none (some (-1)) = S l.dropLast := by
  unfold cutS
  rw [HT.sIx_none, S_len, S_tl]
  show S _ = S _
  congr 1
  rw [List.drop_zero, Nat.sub_zero]
  have : HT.sIx l.length l.length (some (-1)) = l.length - 1 := by
    show (if (-1 : Int) < 0 then ((-1 : Int) + (l.length : Int)).toNat else min (-1 : Int).toNat l.length) = _
    rw [if_pos (by decide)]
    omega
  rw [this, List.dropLast_eq_take]

def NRS (G : Hp) (σ : L2.St) (tn : TE) (n : Nat) : Prop := ∀ (H : Hp) (Q : VK), Same G H → Q (.int (n : Int)) H → tn σ H Q
theorem nrs_ix {K : PySem.W.Frag} {G : Hp} {σ : L2.St} {i j n : Nat} {e : Addr} {xs : List V} (hs : σ[i]? = some (some (.ref e))) (h : SqT K G e xs) (hj : xs[j]? = some (.int (n : Int))) : NRS G σ (tOp (rIxT K) (tVar i) (tC (.int (j : Nat)))) n := fun H Q s q => ⟨_, hs, e, xs, _, _, rfl, rfl, same_tup s h, atI_nat hj, q⟩
section
variable {K : PySem.W.Frag} {G : Hp} {σ : L2.St} {te tn : TE} {ls : List (List Nat)} {n : Nat}
theorem lr_toS (h : LR K G σ te ls) (g : NRS G σ tn n) : LR K G σ (tSl (rSlL K) te tNoPart (tPart tn)) (ls.take n) := fun H Q s q => h H _ s fun H1 p s1 hp => g H1 _ (s.trans s1) ⟨_, rfl, p, _, rfl, SqL.of hp, fun p2 np2 => q _ p2 (s1.trans (same_new np2)) (by rw [upd_same, cut_to', rows_take])⟩
theorem lr_fromS (h : LR K G σ te ls) (g : NRS G σ tn n) (hn : n ≤ ls.length) : LR K G σ (tSl (rSlL K) te (tPart tn) tNoPart) (ls.drop n) := fun H Q s q => h H _ s fun H1 p s1 hp => g H1 _ (s.trans s1) ⟨_, rfl, p, _, rfl, SqL.of hp, fun p2 np2 => q _ p2 (s1.trans (same_new np2)) (by rw [upd_same, cut_from (by rw [rows_len]; exact hn), rows_drop])⟩
end
theorem same_refl80 {H : Hp} : Same H H := fun _ _ e => e
/-! ### reads that keep what stands -/
def ER (K : PySem.W.Frag) (G : Hp) (σ : L2.St) (te : TE) (f m : Nat) (ls : List (List Nat)) : Prop := ∀ H Q, Same G H → (∀ H' v, Same H H' → EdIs K H' v f m true ls → Q v H') → te σ H Q
section
variable {K : PySem.W.Frag} {G : Hp} {σ : L2.St} {te ta tb : TE} {ls rows : List (List Nat)} {t u : List Nat} {f m i : Nat} {v : V} {lst : Bool}
theorem sr_edited (h : SR G σ ta t) (hs : σ[i]? = some (some v)) (he : EdIs K G v f m lst ls) (hl : linesL t = rows) (ht : t.length ≤ 1000000) (hfm : f + m ≤ rows.length) (n1 : rows.length ≤ 1000) (n2 : ls.length ≤ 1000) (w1 : ∀ l ∈ rows, LineOk l) (w2 : ∀ l ∈ ls, LineOk l) : SR G σ (tCall (sp_edited K) [] E0 (tCons ta (tCons (tVar i) tNil))) (txtL (edL rows ls f m)) := fun _ H Q s q => h (by omega) H _ s fun H1 s1 => ⟨_, hs, t, v, f, m, lst, ls, rfl, ht, he.same (s.trans s1), by rw [hl]; exact hfm, fun l hl2 => (w2 l hl2).1, n2, by rw [hl]; exact n1, by rw [hl]; exact fun l hl2 => Nat.le_trans (w1 l hl2).2.1 (by decide), fun l hl2 => Nat.le_trans (w2 l hl2).2.1 (by decide), fun H2 s2 => by
  rw [hl]
  exact q H2 (s1.trans s2)⟩
theorem sr_text (h : LR K G σ te ls) (n : ls.length ≤ 1000) (w : ∀ l ∈ ls, LineOk l) : SR G σ (tCall (sp__law_text K) [] E0 (tCons te tNil)) (txtL ls) := fun _ H Q s q => h H _ s fun H1 p s1 hp => ⟨p, ls, rfl, hp, n, fun l hl => Nat.le_trans (w l hl).2.1 (by decide), fun H2 s2 => q H2 (s1.trans s2)⟩
theorem er_back (h : SR G σ ta t) (hs : σ[i]? = some (some v)) (he : EdIs K G v f m lst ls) (hl : linesL t = rows) (ht : t.length ≤ 1000000) (hfm : f + m ≤ rows.length) (n2 : ls.length ≤ 1000) (w2 : ∀ l ∈ ls, LineOk l) : ER K G σ (tCall (sp_back K) [] E0 (tCons ta (tCons (tVar i) tNil))) f ls.length ((rows.drop f).take m) := fun H Q s q => h (by omega) H _ s fun H1 s1 => ⟨_, hs, t, v, f, m, lst, ls, rfl, ht, he.same (s.trans s1), by rw [hl]; exact hfm, fun l hl2 => (w2 l hl2).1, n2, fun H2 v2 s2 h2 => by
  rw [hl] at h2
  exact q H2 v2 (s1.trans s2) h2⟩
theorem er_least (h : SR G σ ta t) (g : SR G σ tb u) {A B : List (List Nat)} (hA : linesL t = A) (hB : linesL u = B) (ht : t.length ≤ 1000000) (hu : u.length ≤ 1000000) (n1 : A.length ≤ 1000) (n2 : B.length ≤ 1000) : ER K G σ (tCall (sp_least_edit K) [] E0 (tCons ta (tCons tb tNil))) (cpl A B) (lm A B) (lls A B) := fun H Q s q => h (by omega) H _ s fun H1 s1 => g (by omega) H1 _ (s.trans s1) fun H2 s2 => ⟨t, u, rfl, ht, hu, by rw [hA]; omega, by rw [hB]; omega, fun H3 v3 s3 h3 => by
  rw [hA, hB] at h3
  exact q H3 v3 ((s1.trans s2).trans s3) h3⟩
theorem er_lleast {A B : List (List Nat)} (h : LR K G σ ta A) (g : LR K G σ tb B) (n1 : A.length ≤ 1000) (n2 : B.length ≤ 1000) : ER K G σ (tCall (sp__law_least K) [] E0 (tCons ta (tCons tb tNil))) (cpl A B) (lm A B) (lls A B) := fun H Q s q => h H _ s fun H1 p s1 hp => g H1 _ (s.trans s1) fun H2 p2 s2 hp2 => ⟨p, p2, A, B, rfl, s2 _ _ hp, hp2, n1, n2, fun H3 v3 s3 h3 => q H3 v3 ((s1.trans s2).trans s3) h3⟩
theorem er_plain (hs : σ[i]? = some (some v)) (he : EdIs K G v f m lst ls) : ER K G σ (tCall (sp__law_plain K) [] E0 (tCons (tVar i) tNil)) f m ls := fun H Q s q => ⟨_, hs, v, ls, f, m, lst, rfl, he.same s, fun H1 v1 s1 h1 => q H1 v1 s1 h1⟩
theorem er_var (hs : σ[i]? = some (some v)) (he : EdIs K G v f m true ls) : ER K G σ (tVar i) f m ls := fun H Q s q => ⟨_, hs, q H v (Same.refl _) (he.same s)⟩
theorem ne_sr {l : List Nat} (h : SR G σ ta l) (g : SR G σ tb l) (n : l.length ≤ 16000000) : AnsS (tTest (tOp rNe ta tb)) σ G (fun b => b = false) := fun Q q => h n G _ same_refl80 fun H1 s1 => g n H1 _ s1 fun H2 s2 => ⟨rfl, _, rfl, q _ H2 (s1.trans s2) (by simp)⟩
theorem ne_er (h : ER K G σ ta f m ls) (g : ER K G σ tb f m ls) (w : ∀ l ∈ ls, LineOk l) : AnsS (tTest (tOp (rNeD K) ta tb)) σ G (fun b => b = false) := fun Q q => h G _ same_refl80 fun H1 v1 s1 h1 => g H1 _ s1 fun H2 v2 s2 h2 => ne_ed w (h1.same s2) h2 ⟨_, rfl, q _ H2 (s1.trans s2) rfl⟩
theorem ans_or {H : Hp} {c u : TT} (h : AnsS c σ H (fun x => x = false)) (g : ∀ H', Same H H' → AnsS u σ H' (fun x => x = false)) : AnsS (tOr c u) σ H (fun x => x = false) := fun Q q => h _ fun x H' s e => by
  subst e
  exact iteF (g H' s _ fun y H2 s2 e2 => q y H2 (s.trans s2) e2)
theorem if_S {H : Hp} {c : TT} {a u : TS} {D : Ends} (hc : AnsS c σ H (fun x => x = false)) (hf : ∀ H', Same H H' → u D σ H') : tSeq (tIfS c a tNext) u D σ H := hc _ fun b H' s e => by
  subst e
  exact iteF (hf H' s)
theorem if_gS {H : Hp} {c : TT} {a u : TS} {D : Ends} {i : Nat} {x : V} (τ : L2.St) (e : σ.set i (some x) = τ) (hc : AnsS c τ H (fun x => x = false)) (hf : ∀ H', Same H H' → u D τ H') : gName i x σ H (tSeq (tIfS c a tNext) u D) := by
  subst e
  exact if_S hc hf
theorem if_gL {H : Hp} {c : TT} {a : TS} {D : Ends} {i : Nat} {x : V} (τ : L2.St) (e : σ.set i (some x) = τ) (hc : AnsS c τ H (fun x => x = false)) (hf : ∀ H', Same H H' → D.nx τ H') : gName i x σ H (tIfS c a tNext D) := by
  subst e
  exact hc _ fun b H' s e => by
    subst e
    exact iteF (hf H' s)
theorem asg_er {g : TG} {w : TS} {D : Ends} {H : Hp} (h : ER K H σ te f m ls) (hq : ∀ H' v, Same H H' → EdIs K H' v f m true ls → g v σ H' (w D)) : tSeq (tAsg te g) w D σ H := h H _ same_refl80 hq
theorem asg_er_g {g : TG} {w : TS} {D : Ends} {H : Hp} {i : Nat} {x : V} (τ : L2.St) (e : σ.set i (some x) = τ) (h : ER K H τ te f m ls) (hq : ∀ H' v, Same H H' → EdIs K H' v f m true ls → g v τ H' (w D)) : gName i x σ H (tSeq (tAsg te g) w D) := by
  subst e
  exact asg_er h hq
theorem asg_sr_g {l : List Nat} {g : TG} {w : TS} {D : Ends} {H : Hp} {i : Nat} {x : V} (τ : L2.St) (e : σ.set i (some x) = τ) (n : l.length ≤ 16000000) (h : SR H τ te l) (hq : ∀ H', Same H H' → g (.str (S l)) τ H' (w D)) : gName i x σ H (tSeq (tAsg te g) w D) := by
  subst e
  exact h n H _ same_refl80 hq
theorem par_el {i j : Nat} {w : TS} {D : Ends} {H : Hp} (h : ER K H σ ta f m ls) (g : ∀ H', Same H H' → LR K H' σ tb rows) (hq : ∀ H' v p, Same H H' → EdIs K H' v f m true ls → H' p = some (.lst (rowsV rows)) → w D ((σ.set i (some v)).set j (some (.ref p))) H') : tSeq (tPar i j (tCons ta (tCons tb tNil))) w D σ H := h H _ same_refl80 fun H1 v s1 h1 => g H1 s1 H1 _ same_refl80 fun H2 p s2 hp => ⟨v, .ref p, rfl, hq H2 v p (s1.trans s2) (h1.same s2) hp⟩
end
theorem if_MP {L : Addr} {t : TT} {a u : TS} {D : Ends} {σ : L2.St} {H : Hp} (P : Prop) (M : L2.St → Hp → Prop) (hc : ∀ Q : Bool → Hp → Prop, (∀ b H', Keeps L H H' → JarOk H' L → (b = true → P) → Q b H') → t σ H Q) (ht : ∀ H', Keeps L H H' → JarOk H' L → P → ∀ D' : Ends, (∀ σ' H', M σ' H' → D'.nx σ' H') → a D' σ H') (hf : ∀ H', Keeps L H H' → JarOk H' L → M σ H') (hu : ∀ σ' H', M σ' H' → u D σ' H') : tSeq (tIfS t a tNext) u D σ H :=
  hc _ fun b H' k w p => by
    cases b with
    | true => exact iteT (ht H' k w (p rfl) _ hu)
    | false => exact iteF (hu _ _ (hf H' k w))
theorem lls_mem {A B : List (List Nat)} (h : ∀ l ∈ B, LineOk l) : ∀ l ∈ lls A B, LineOk l := fun l hl => h l (List.mem_of_mem_drop (List.mem_of_mem_take hl))
theorem lls_len (A B : List (List Nat)) : (lls A B).length ≤ B.length := by
  unfold lls
  rw [List.length_take, List.length_drop]
  omega
def sp__law_right (K : PySem.W.Frag) : Sp := fun vs H Q _ => ∃ L : Addr, vs = [.ref L] ∧ JarOk H L ∧ ∀ H', Keeps L H H' → JarOk H' L → Q (.bl true) H'
theorem ok__law_right {P : Program} {w : World} {K : PySem.W.Frag} {mg : Str → Option Value} {base : Heap} (T : Txt K mg) : FnOk P w K mg base CX0 6 T.a__law_right T.d__law_right ["_law_jar_here"] (sp__law_right K) := by
  refine T.f__law_right.ok sc__law_right (fun vs H Q E h => ?_) (fun cdv A outer s H vs Q E hr h => ?_)
  · obtain ⟨L, rfl, _⟩ := h
    rfl
  · obtain ⟨L, rfl, hW, q⟩ := h
    refine ⟨_, pss_guards (fun g => have hr := roomG (g := g) hr; (pss_cons (ps_for PassesOwn.never rfl (pi_range1 (by rfl) T.z_range (pa_cons pe_int pa_nil)) (pg_name (i := 1) sc__law_right.nd rfl (.inl rfl)) (pss_cons (ps_set (i := 2) sc__law_right.nd rfl (.inl rfl) (pe_call (ok__law_lines T) (hr.mono (by decide)) (by rfl) T.g__law_lines T.f__law_lines.kp T.b__law_lines .nil pass0 (pa_cons (pv 0) (pa_cons pe_int pa_nil))))
        (pss_cons (ps_par (i := 3) (j := 4) (by rfl) sc__law_right.nd rfl rfl (by decide) rfl rfl (pa_cons (pe_call (ok__law_text T) (hr.mono (by decide)) (by rfl) T.g__law_text T.f__law_text.kp T.b__law_text .nil pass0 (pa_cons (pv 2) pa_nil)) (pa_cons (pe_call (ok__law_edit T) (hr.mono (by decide)) (by rfl) T.g__law_edit T.f__law_edit.kp T.b__law_edit .nil pass0 (pa_cons (pv 0) (pa_cons (pv 2) pa_nil))) pa_nil)) (by rfl))
        (pss_cons (ps_if (PW.pt (pw_and (pt_cmpR (op_neD hr.units) (pv 2) (pe_lst pa_nil) (nomark _)) (pw_and (pt_cmpR op_ne (pe_ix ix_list (pv 2) (pe_un un_neg pe_int) (fun _ _ => rfl)) pe_str (nomark _)) (pw_and1 (pt_cmpR op_eq (pe_call (ok__law_dip T) (hr.mono (by decide)) (by rfl) T.g__law_dip T.f__law_dip.kp T.b__law_dip .nil pass0 (pa_cons (pv 0) (pa_cons pe_int pa_nil))) pe_int (nomark _)))))) (pss_one (ps_set (i := 3) sc__law_right.nd rfl (.inl rfl) (pe_slice sl_str (pv 3) po_none (po_some (pe_un un_neg pe_int))))) pss_nil)
        (pss_cons (ps_set (i := 5) sc__law_right.nd rfl (.inl rfl) (pe_callB (call_repr_ed (g := g) rfl (room_20 hr)) (by rfl) T.z_repr (by decide +kernel) (pa_cons (pv 4) pa_nil)))
        (pss_cons (ps_set (i := 6) sc__law_right.nd rfl (.inl rfl) (pe_call (ok__law_done T) (hr.mono (by decide)) (by rfl) T.g__law_done T.f__law_done.kp T.b__law_done .nil pass0 (pa_cons (pv 2) (pa_cons (pv 4) pa_nil))))
        (pss_cons (ps_set (i := 7) sc__law_right.nd rfl (.inl rfl) (pe_call (ok_edited T) (hr.mono (by decide)) (by rfl) T.g_edited T.f_edited.kp T.b_edited .nil pass0 (pa_cons (pv 3) (pa_cons (pv 4) pa_nil))))
        (pss_cons (ps_if (PW.pt (pw_or (pt_cmpR op_ne (pv 7) (pe_call (ok__law_text T) (hr.mono (by decide)) (by rfl) T.g__law_text T.f__law_text.kp T.b__law_text .nil pass0 (pa_cons (pv 6) pa_nil)) (nomark _)) (pw_or (pt_cmpR op_ne (pe_call (ok_edited T) (hr.mono (by decide)) (by rfl) T.g_edited T.f_edited.kp T.b_edited .nil pass0 (pa_cons (pv 3) (pa_cons (pv 4) pa_nil))) (pv 7) (nomark _)) (pw_or1 (pt_cmpR op_ne (pe_callB (call_repr_ed (g := g) rfl (room_20 hr)) (by rfl) T.z_repr (by decide +kernel) (pa_cons (pv 4) pa_nil)) (pv 5) (nomark _)))))) (pss_one (ps_ret pe_bl)) pss_nil)
        (pss_cons (ps_par (i := 8) (j := 9) (by rfl) sc__law_right.nd rfl rfl (by decide) rfl rfl (pa_cons (pe_call (ok_back T) (hr.mono (by decide)) (by rfl) T.g_back T.f_back.kp T.b_back .nil pass0 (pa_cons (pv 3) (pa_cons (pv 4) pa_nil))) (pa_cons (pe_slice sl_list (pe_slice sl_list (pv 2) (po_some (pe_ix ix_tup (pv 4) pe_int (fun _ _ => rfl))) po_none) po_none (po_some (pe_ix ix_tup (pv 4) pe_int (fun _ _ => rfl)))) pa_nil)) (by rfl))
        (pss_cons (ps_if (pt_cmpR (op_neD hr.units) (pv 8) (pe_tup (pa_cons (pe_ix ix_tup (pv 4) pe_int (fun _ _ => rfl)) (pa_cons (pe_callB call_len_seq (by rfl) T.z_len PySem.boot_len (pa_cons (pe_ix ix_tup (pv 4) pe_int (fun _ _ => rfl)) pa_nil)) (pa_cons (pv 9) pa_nil)))) (nomark _)) (pss_one (ps_ret pe_bl)) pss_nil)
        (pss_cons (ps_set (i := 10) sc__law_right.nd rfl (.inl rfl) (pe_call (ok_back T) (hr.mono (by decide)) (by rfl) T.g_back T.f_back.kp T.b_back .nil pass0 (pa_cons (pv 7) (pa_cons (pv 8) pa_nil))))
        (pss_cons (ps_if (PW.pt (pw_or (pt_cmpR op_ne (pe_call (ok_edited T) (hr.mono (by decide)) (by rfl) T.g_edited T.f_edited.kp T.b_edited .nil pass0 (pa_cons (pv 7) (pa_cons (pv 8) pa_nil))) (pe_call (ok__law_text T) (hr.mono (by decide)) (by rfl) T.g__law_text T.f__law_text.kp T.b__law_text .nil pass0 (pa_cons (pv 2) pa_nil)) (nomark _)) (pw_or1 (pt_cmpR (op_neD hr.units) (pv 10) (pe_call (ok__law_plain T) (hr.mono (by decide)) (by rfl) T.g__law_plain T.f__law_plain.kp T.b__law_plain .nil pass0 (pa_cons (pv 4) pa_nil)) (nomark _))))) (pss_one (ps_ret pe_bl)) pss_nil)
        (pss_cons (ps_if (pt_cmpR (op_neD hr.units) (pe_call (ok_least_edit T) (hr.mono (by decide)) (by rfl) T.g_least_edit T.f_least_edit.kp T.b_least_edit .nil pass0 (pa_cons (pv 3) (pa_cons (pv 7) pa_nil))) (pe_call (ok__law_least T) (hr.mono (by decide)) (by rfl) T.g__law_least T.f__law_least.kp T.b__law_least .nil pass0 (pa_cons (pv 2) (pa_cons (pv 6) pa_nil))) (nomark _)) (pss_one (ps_ret pe_bl)) pss_nil)
        (pss_cons (ps_set (i := 11) sc__law_right.nd rfl (.inl rfl) (pe_call (ok__law_lines T) (hr.mono (by decide)) (by rfl) T.g__law_lines T.f__law_lines.kp T.b__law_lines .nil pass0 (pa_cons (pv 0) (pa_cons pe_int pa_nil))))
        (pss_cons (ps_set (i := 12) sc__law_right.nd rfl (.inl rfl) (pe_call (ok_least_edit T) (hr.mono (by decide)) (by rfl) T.g_least_edit T.f_least_edit.kp T.b_least_edit .nil pass0 (pa_cons (pv 3) (pa_cons (pe_call (ok__law_text T) (hr.mono (by decide)) (by rfl) T.g__law_text T.f__law_text.kp T.b__law_text .nil pass0 (pa_cons (pv 11) pa_nil)) pa_nil))))
        (pss_one (ps_if (PW.pt (pw_or (pt_cmpR (op_neD hr.units) (pv 12) (pe_call (ok__law_least T) (hr.mono (by decide)) (by rfl) T.g__law_least T.f__law_least.kp T.b__law_least .nil pass0 (pa_cons (pv 2) (pa_cons (pv 11) pa_nil))) (nomark _)) (pw_or1 (pt_cmpR op_ne (pe_call (ok_edited T) (hr.mono (by decide)) (by rfl) T.g_edited T.f_edited.kp T.b_edited .nil pass0 (pa_cons (pv 3) (pa_cons (pv 12) pa_nil))) (pe_call (ok__law_text T) (hr.mono (by decide)) (by rfl) T.g__law_text T.f__law_text.kp T.b__law_text .nil pass0 (pa_cons (pv 11) pa_nil)) (nomark _))))) (pss_one (ps_ret pe_bl)) pss_nil)))))))))))))))))
        (pss_one (ps_ret pe_bl)))), fun g => ?_⟩
    refine ⟨8, rfl, by decide, by decide, ?_⟩
    refine for_range (lo := 0) (n := 8) (fun i σ' H' => (∃ v1 v2 v3 v4 v5 v6 v7 v8 v9 va vb vc : Option V, σ' = [some (.ref L), v1, v2, v3, v4, v5, v6, v7, v8, v9, va, vb, vc]) ∧ Keeps L H H' ∧ JarOk H' L) ?_ ?_ ?_
    · exact ⟨⟨_, _, _, _, _, _, _, _, _, _, _, _, rfl⟩, .refl _, hW⟩
    · rintro i σ' H1 hi ⟨⟨v1, v2, v3, v4, v5, v6, v7, v8, v9, va, vb, vc, rfl⟩, k1, w1⟩
      refine ⟨_, rfl, L, 12, rfl, by decide, w1, fun H2 p rows k2 w2 np hp hn hw => ?_⟩
      have hw100 : ∀ l ∈ rows, l.length ≤ 100 := fun l hl => Nat.le_trans (hw l hl).2.1 (by decide)
      have h10 : ∀ l ∈ rows, 10 ∉ l := fun l hl => (hw l hl).1
      have tl := txt_len 100 hw100
      have tl2 : (100 + 1) * rows.length ≤ 101 * 12 := Nat.mul_le_mul_left _ hn
      refine ⟨_, rfl, p, rows, rfl, hp, by omega, hw100, fun H3 s3 => ⟨_, rfl, _, rfl, L, p, rows, rfl, s3 _ _ hp, by omega, hw, w2.same s3, fun H4 ve f m lst ls k4 w4 he hfm hls hn5 => ⟨_, _, rfl, ?_⟩⟩⟩
      have hp4 := k4 _ _ np (s3 _ _ hp)
      have hls100 : ∀ l ∈ ls, l.length ≤ 100 := fun l hl => Nat.le_trans (hls l hl).2.1 (by decide)
      have hl10 : ∀ l ∈ ls, 10 ∉ l := fun l hl => (hls l hl).1
      have k04 := (k1.trans k2).trans ((Keeps.of s3).trans k4)
      dsimp only
      refine if_MP (L := L) (∃ r x, rows = r ++ [x] ∧ x ≠ []) (fun σ' H' => ∃ t, σ' = [some (.ref L), some (.int (0 + (i : Int))), some (.ref p), some (.str (S t)), some ve, v5, v6, v7, v8, v9, va, vb, vc] ∧ Keeps L H4 H' ∧ JarOk H' L ∧ linesL t = rows ∧ t.length ≤ 10000) (fun Qb qb => ?_) (fun H5 k5 w5 hP D' go => ?_) (fun H5 k5 w5 => ⟨txtL rows, rfl, k5, w5, lines_txt h10, by omega⟩) ?_
      · refine ⟨_, rfl, (by show 0 ≤ sizeLine; decide), fun pz npz => ⟨_, .list [], dp_rows (SqL.of (same_new npz _ _ hp4)), .lst (SqL.of upd_same) .nil, shaped_strs fun l hl => line_low (hw l hl), rfl, _, rfl, ?_⟩⟩
        have w5 := w4.new (o := .lst []) npz
        have hp5 := same_new (o := .lst []) npz _ _ hp4
        have k5 : Keeps L H4 (upd H4 pz (.lst [])) := .new npz
        generalize (upd H4 pz (.lst [])) = H5 at w5 hp5 k5 ⊢
        rcases List.eq_nil_or_concat rows with e | ⟨r, x, e⟩
        · rw [e]
          exact ifF rfl (qb _ _ k5 w5 (fun e => nomatch e))
        · rw [List.concat_eq_append] at e
          have ene : (!PyData.eqv (.list (rows.map fun l => PyData.str (S l))) (.list [])) = true := by
            cases rows with
            | nil => simp at e
            | cons _ _ => rfl
          rw [ene]
          refine iteT ⟨_, rfl, _, rfl, p, _, _, V.str (S x), rfl, rfl, SqL.of hp5, ?_, rfl, _, rfl, ?_⟩
          · rw [e, ← rows_app]
            exact atLast
          by_cases hx : x = []
          · refine ifF ?_ (qb _ _ k5 w5 (fun e => nomatch e))
            subst hx
            decide +kernel
          · refine ifT ?_ ⟨_, rfl, L, 2, rfl, by decide, by decide, w5, fun H6 d6 k6 w6 _ _ => ⟨rfl, _, rfl, qb _ _ (k5.trans k6) w6 fun _ => ⟨r, x, e, hx⟩⟩⟩
            rw [show ("" : Str) = S [] by decide +kernel, dec_row, decide_eq_false hx]
            rfl
      · obtain ⟨r, x, e, hx⟩ := hP
        refine ⟨_, rfl, _, rfl, _, rfl, S (txtL rows), rfl, by rw [S_len, sizeLine_eq]; omega, ?_⟩
        have e3 : cutS (S (txtL rows)) none (some ((fun i : Int => -i) 1)) = S (txtL rows).dropLast := S_cut_last _
        rw [e3]
        refine go _ _ ⟨(txtL rows).dropLast, rfl, k5, w5, ?_, by rw [List.length_dropLast]; omega⟩
        rw [e]
        exact lines_cut (by rw [← e]; exact h10) hx
      rintro σ' H5 ⟨t, rfl, k5, w5, hlt, htl⟩
      have he5 := he.keep k5 w4
      have hp5 := k5 _ _ np hp4
      obtain ⟨e, b, rfl, heT, heB⟩ := he5
      have he5 : EdIs K H5 (.ref e) f m lst ls := ⟨e, b, rfl, heT, heB⟩
      have rep : ∀ {H' : Hp} {τ : L2.St} {Q : VK}, Same H5 H' → τ[4]? = some (some (.ref e)) → Q (.str (edT g e b lst (f : Int) (m : Int) (ls.map S))) H' → (tCB (rRepr K g) (tCons (tVar 4) tNil)) τ H' Q := fun {H' τ Q} s hs qq => ⟨_, hs, e, b, (f : Int), (m : Int), lst, ls.map S, rfl, same_tup s heT, by
        rw [← rows_S]
        exact heB.same s, by
        have h1 : (f : Int).natAbs = f := rfl
        rw [h1]
        have h2 : f < 2 ^ 10 := by omega
        by_cases h0 : f = 0
        · subst h0
          decide
        · have := (Nat.log2_lt h0).mpr h2
          omega, by
        have h1 : (m : Int).natAbs = m := rfl
        rw [h1]
        have h2 : m < 2 ^ 10 := by omega
        by_cases h0 : m = 0
        · subst h0
          decide
        · have := (Nat.log2_lt h0).mpr h2
          omega, fun z hz => by
        obtain ⟨l, hl, rfl⟩ := List.mem_map.mp hz
        have := rep_len (hls l hl)
        rw [sizeLine_eq]
        omega, edT_len hls hn5 (by omega) (by omega), qq⟩
      refine rep (Same.refl _) rfl ?_
      generalize edT g e b lst (f : Int) (m : Int) (ls.map S) = kept at rep ⊢
      refine ⟨_, rfl, _, rfl, p, .ref e, rows, ls, f, m, lst, rfl, hp5, he5, hfm, by omega, by omega, fun H6 p6 s6 hp6 => ?_⟩
      have hR : ∀ l ∈ edL rows ls f m, LineOk l := edL_mem hw hls
      have hRn : (edL rows ls f m).length ≤ 17 := by rw [edL_len hfm]; omega
      have tR := txt_len 100 (rows := edL rows ls f m) fun l hl => Nat.le_trans (hR l hl).2.1 (by decide)
      have tR2 : (100 + 1) * (edL rows ls f m).length ≤ 101 * 17 := Nat.mul_le_mul_left _ hRn
      have hRl : linesL (txtL (edL rows ls f m)) = edL rows ls f m := lines_txt fun l hl => (hR l hl).1
      have eRl := edL_len (ls := ls) hfm
      have eRm := ed_mid (ls := ls) hfm
      have eRb := ed_back (ls := ls) hfm
      have hgone : ∀ l ∈ (rows.drop f).take m, LineOk l := fun l hl => hw l (List.mem_of_mem_drop (List.mem_of_mem_take hl))
      have lgone : ((rows.drop f).take m).length = m := by rw [List.length_take, List.length_drop]; omega
      generalize hRR : edL rows ls f m = R at hp6 hR hRn tR tR2 hRl eRl eRm eRb
      dsimp only
      have S6 : Same H5 H6 := s6
      refine asg_sr_g (l := txtL R) [some (.ref L), some (.int (0 + (i : Int))), some (.ref p), some (.str (S t)), some (.ref e), some (.str kept), some (.ref p6), v7, v8, v9, va, vb, vc] rfl (by omega) (by rw [← hRR]; exact sr_edited (sr_var (i := 3) rfl) (i := 4) rfl (he5.same s6) hlt (by omega) hfm (by omega) (by omega) hw hls) fun H7 s7 => ?_
      have s57 := s6.trans s7
      refine if_gS [some (.ref L), some (.int (0 + (i : Int))), some (.ref p), some (.str (S t)), some (.ref e), some (.str kept), some (.ref p6), some (.str (S (txtL R))), v8, v9, va, vb, vc] rfl (ans_or (ne_sr (sr_var (i := 7) rfl) (sr_text (lr_var (i := 6) rfl (s7 _ _ hp6)) (by omega) hR) (by omega)) fun H8 s8 => ans_or (ne_sr (l := txtL R) (by rw [← hRR]; exact sr_edited (sr_var (i := 3) rfl) (i := 4) rfl (he5.same (s57.trans s8)) hlt (by omega) hfm (by omega) (by omega) hw hls) (sr_var (i := 7) rfl) (by omega)) fun H9 s9 => fun Q9 q9 => rep ((s57.trans s8).trans s9) rfl ⟨_, rfl, rfl, _, rfl, q9 _ H9 (Same.refl _) (by simp)⟩) fun H8 s8 => ?_
      have s58 := s57.trans s8
      have hp8 := s58 _ _ hp5
      refine par_el (K := K) (er_back (rows := rows) (sr_var (i := 3) rfl) (i := 4) rfl (he5.same s58) hlt (by omega) hfm (by omega) hls) (fun H9 s9 => lr_toS (lr_fromS (lr_var (i := 2) rfl (s9 _ _ hp8)) (nrs_ix (i := 4) (j := 0) rfl (same_tup (s58.trans s9) heT) rfl) (by omega)) (nrs_ix (i := 4) (j := 1) rfl (same_tup (s58.trans s9) heT) rfl)) fun H9 ts gn s9 hts hgn => ?_
      have s59 := s58.trans s9
      refine if_S (ne_er (K := K) (er_var (i := 8) rfl hts) (fun HA Qa sa qa => ⟨_, rfl, e, _, _, _, rfl, rfl, same_tup (s59.trans sa) heT, atI_nat (j := 0) rfl, _, rfl, e, _, _, _, rfl, rfl, same_tup (s59.trans sa) heT, atI_nat (j := 2) rfl, b, _, rfl, (heB.same (s59.trans sa)).or, _, rfl, (by show 3 ≤ sizeLine; decide), fun r nr => qa _ _ (same_new nr) ⟨r, gn, rfl, by rw [rows_len]; exact SqT.of upd_same, SqL.of (same_new nr _ _ (sa _ _ hgn))⟩⟩) hgone) fun HB sB => ?_
      have s5B := s59.trans sB
      refine asg_er (K := K) (er_back (rows := R) (sr_var (i := 7) rfl) (i := 8) rfl (hts.same sB) hRl (by omega) (by omega) (by omega) hgone) fun HC ag sC hag => ?_
      rw [eRm, lgone] at hag
      have s5C := s5B.trans sC
      refine if_gS [some (.ref L), some (.int (0 + (i : Int))), some (.ref p), some (.str (S t)), some (.ref e), some (.str kept), some (.ref p6), some (.str (S (txtL R))), some ts, some (.ref gn), some ag, vb, vc] rfl (ans_or (ne_sr (l := txtL rows) (SR.eq (sr_edited (rows := R) (sr_var (i := 7) rfl) (i := 8) rfl (hts.same (sB.trans sC)) hRl (by omega) (by omega) (by omega) (by omega) hR hgone) (by rw [eRb])) (sr_text (lr_var (i := 2) rfl (s5C _ _ hp5)) (by omega) hw) (by omega)) fun HD sD => ne_er (K := K) (er_var (i := 10) rfl (hag.same sD)) (er_plain (i := 4) rfl (he5.same (s5C.trans sD))) hls) fun HD sD => ?_
      have s5D := s5C.trans sD
      have hp6D := (((s7.trans s8).trans s9).trans ((sB.trans sC).trans sD)) _ _ hp6
      refine if_S (ne_er (K := K) (er_least (sr_var (i := 3) rfl) (sr_var (i := 7) rfl) hlt hRl (by omega) (by omega) (by omega) (by omega)) (er_lleast (lr_var (i := 2) rfl (s5D _ _ hp5)) (lr_var (i := 6) rfl hp6D) (by omega) (by omega)) (lls_mem hR)) fun HE sE => ?_
      have s5E := s5D.trans sE
      refine ⟨_, rfl, L, 12, rfl, by decide, w5.same s5E, fun HF pw W kF wF npw hpW hnW hwW => ?_⟩
      have hpF := kF _ _ np (s5E _ _ hp5)
      have hWl : linesL (txtL W) = W := lines_txt fun l hl => (hwW l hl).1
      have tW := txt_len 100 (rows := W) fun l hl => Nat.le_trans (hwW l hl).2.1 (by decide)
      have tW2 : (100 + 1) * W.length ≤ 101 * 12 := Nat.mul_le_mul_left _ hnW
      have hb := lb_le rows W
      have hcl := cpl_le rows W
      have hll := lls_len rows W
      dsimp only
      refine asg_er_g (K := K) [some (.ref L), some (.int (0 + (i : Int))), some (.ref p), some (.str (S t)), some (.ref e), some (.str kept), some (.ref p6), some (.str (S (txtL R))), some ts, some (.ref gn), some ag, some (.ref pw), vc] rfl (er_least (sr_var (i := 3) rfl) (sr_text (lr_var (i := 11) rfl hpW) (by omega) hwW) hlt hWl (by omega) (by omega) (by omega) (by omega)) fun HG vo sG hvo => ?_
      refine if_gL [some (.ref L), some (.int (0 + (i : Int))), some (.ref p), some (.str (S t)), some (.ref e), some (.str kept), some (.ref p6), some (.str (S (txtL R))), some ts, some (.ref gn), some ag, some (.ref pw), some vo] rfl (ans_or (ne_er (K := K) (er_var (i := 12) rfl hvo) (er_lleast (lr_var (i := 2) rfl (sG _ _ hpF)) (lr_var (i := 11) rfl (sG _ _ hpW)) (by omega) (by omega)) (lls_mem hwW)) fun HI sI => ne_sr (l := txtL W) (SR.eq (sr_edited (rows := rows) (sr_var (i := 3) rfl) (i := 12) rfl (hvo.same sI) hlt (by omega) (by unfold lm; omega) (by omega) (by omega) hw (lls_mem hwW)) (by rw [least_back])) (sr_text (lr_var (i := 11) rfl ((sG.trans sI) _ _ hpW)) (by omega) hwW) (by omega)) fun HI sI => ?_
      exact ⟨⟨_, _, _, _, _, _, _, _, _, _, _, _, rfl⟩, (k04.trans k5).trans (((Keeps.of s5E).trans kF).trans (.of (sG.trans sI))), wF.same (sG.trans sI)⟩
    · rintro σ' H1 ⟨_, k1, w1⟩
      exact q _ k1 w1

/-! ### the law: 0 _law_script, 1 _law_cell -/
def sp_law (K : PySem.W.Frag) : Sp := fun vs H Q _ => ∃ (a : Addr) (ns : List Int), vs = [.ref a] ∧ SqL K H a (ns.map V.int) ∧ ns.length ≤ 63 ∧ ∀ H', Q (.bl true) H'
theorem cut_script (ns : List Int) (k : Nat) (h : (ns.map V.int).length ≤ 1000) : cutV (ns.map V.int) none (some (k : Int)) ++ [V.int 0] = (ns.take k ++ [0]).map V.int ∧ (cutV (ns.map V.int) none (some (k : Int))).length + 1 ≤ sizeLine := by
  constructor
  · unfold cutV
    rw [HT.sIx_none, HT.sIx_nat, List.drop_zero, Nat.sub_zero, List.map_append, List.map_take]
    have e8 : (ns.map V.int).take (min k (ns.map V.int).length) = (ns.map V.int).take k := by
      by_cases h8 : k ≤ (ns.map V.int).length
      · rw [Nat.min_eq_left h8]
      · rw [Nat.min_eq_right (by omega), List.take_length, List.take_of_length_le (by omega)]
    rw [e8]
    rfl
  · have := cutV_length (ns.map V.int) none (some (k : Int))
    rw [sizeLine_eq]
    omega
def EDR (K : PySem.W.Frag) (G : Hp) (σ : L2.St) (te : TE) (f m : Nat) (lst : Bool) (ls : List (List Nat)) : Prop := ∀ H Q, Same G H → (∀ H' v, Same H H' → EdIs K H' v f m lst ls → Q v H') → te σ H Q
section
variable {K : PySem.W.Frag} {G : Hp} {σ : L2.St} {te ta tb : TE} {ls rows : List (List Nat)} {t u : List Nat} {f m i : Nat} {v : V} {lst : Bool}
theorem ER.eq {f' m' : Nat} {ls' : List (List Nat)} (h : ER K G σ te f m ls) (e1 : f = f') (e2 : m = m') (e3 : ls = ls') : ER K G σ te f' m' ls' := by
  subst e1
  subst e2
  subst e3
  exact h
theorem sr_editedE (h : SR G σ ta t) (he : EDR K G σ te f m lst ls) (hl : linesL t = rows) (ht : t.length ≤ 1000000) (hfm : f + m ≤ rows.length) (n1 : rows.length ≤ 1000) (n2 : ls.length ≤ 1000) (w1 : ∀ l ∈ rows, LineOk l) (w2 : ∀ l ∈ ls, LineOk l) : SR G σ (tCall (sp_edited K) [] E0 (tCons ta (tCons te tNil))) (txtL (edL rows ls f m)) := fun _ H Q s q => h (by omega) H _ s fun H1 s1 => he H1 _ (s.trans s1) fun H2 v s2 h2 => ⟨t, v, f, m, lst, ls, rfl, ht, h2, by rw [hl]; exact hfm, fun l hl2 => (w2 l hl2).1, n2, by rw [hl]; exact n1, by rw [hl]; exact fun l hl2 => Nat.le_trans (w1 l hl2).2.1 (by decide), fun l hl2 => Nat.le_trans (w2 l hl2).2.1 (by decide), fun H3 s3 => by
  rw [hl]
  exact q H3 ((s1.trans s2).trans s3)⟩
theorem er_backE (h : SR G σ ta t) (he : EDR K G σ te f m lst ls) (hl : linesL t = rows) (ht : t.length ≤ 1000000) (hfm : f + m ≤ rows.length) (n2 : ls.length ≤ 1000) (w2 : ∀ l ∈ ls, LineOk l) : ER K G σ (tCall (sp_back K) [] E0 (tCons ta (tCons te tNil))) f ls.length ((rows.drop f).take m) := fun H Q s q => h (by omega) H _ s fun H1 s1 => he H1 _ (s.trans s1) fun H2 v s2 h2 => ⟨t, v, f, m, lst, ls, rfl, ht, h2, by rw [hl]; exact hfm, fun l hl2 => (w2 l hl2).1, n2, fun H3 v2 s3 h3 => by
  rw [hl] at h3
  exact q H3 v2 ((s1.trans s2).trans s3) h3⟩
/-- a list or tuple of written texts -/
theorem edr_lst {ts : TA} {z1 z2 : Int} (e1 : z1 = (f : Int)) (e2 : z2 = (m : Int)) (h : ∀ H Q, Q (rowsV ls) H → ts σ H Q) (n : ls.length ≤ 1000) : EDR K G σ (tTup (tCons (tC (.int z1)) (tCons (tC (.int z2)) (tCons (tLst ts) tNil)))) f m true ls := fun H Q s q => by
  subst e1
  subst e2
  exact h H _ ⟨by rw [rows_len, sizeLine_eq]; omega, fun p np => ⟨(by show 3 ≤ sizeLine; decide), fun r nr => q _ _ ((same_new np).trans (same_new nr)) ⟨r, p, rfl, SqT.of upd_same, SqL.of (same_new nr _ _ upd_same)⟩⟩⟩
theorem edr_tup {ts : TA} {z1 z2 : Int} (e1 : z1 = (f : Int)) (e2 : z2 = (m : Int)) (h : ∀ H Q, Q (rowsV ls) H → ts σ H Q) (n : ls.length ≤ 1000) : EDR K G σ (tTup (tCons (tC (.int z1)) (tCons (tC (.int z2)) (tCons (tTup ts) tNil)))) f m false ls := fun H Q s q => by
  subst e1
  subst e2
  exact h H _ ⟨by rw [rows_len, sizeLine_eq]; omega, fun p np => ⟨(by show 3 ≤ sizeLine; decide), fun r nr => q _ _ ((same_new np).trans (same_new nr)) ⟨r, p, rfl, SqT.of upd_same, SqT.of (same_new nr _ _ upd_same)⟩⟩⟩
theorem EDR.er (h : EDR K G σ te f m true ls) : ER K G σ te f m ls := h
theorem eq_er {Q : VK} (h : ER K G σ ta f m ls) (g : ER K G σ tb f m ls) (w : ∀ l ∈ ls, LineOk l) (q : ∀ H', Q (.bl true) H') : tOp (rEqD K) ta tb σ G Q := h G _ same_refl80 fun H1 v1 s1 h1 => g H1 _ s1 fun H2 v2 s2 h2 => ⟨_, _, dp_ed (h1.same s2), dp_ed h2, shaped_ed w, shaped_ed w, by
  rw [PySem.SeqAt.eqv_refl _ (lay_ed w)]
  exact q _⟩
end
def okL (l : List Nat) : Bool := !l.contains 10 && decide (l.length ≤ 40) && l.all fun c => decide (c < 128)
theorem okL_of {ls : List (List Nat)} (h : ls.all okL = true) : ∀ l ∈ ls, LineOk l := fun l hl => by
  have h1 := List.all_eq_true.mp h l hl
  unfold okL at h1
  rw [Bool.and_eq_true, Bool.and_eq_true] at h1
  exact ⟨by simpa using h1.1.1, of_decide_eq_true h1.1.2, fun c hc => of_decide_eq_true (List.all_eq_true.mp h1.2 c hc)⟩
theorem ok_law {P : Program} {w : World} {K : PySem.W.Frag} {mg : Str → Option Value} {base : Heap} {f : Addr} {fd : FuncData} (T : Txt K mg) (F : Fun K "law" "law" s_law f fd) : FnOk P w K mg base CX0 7 f fd ["_law_script"] (sp_law K) := by
  refine F.ok sc_law (fun vs H Q E h => ?_) (fun cdv A outer s H vs Q E hr h => ?_)
  · obtain ⟨a, ns, rfl, _⟩ := h
    rfl
  · obtain ⟨a, ns, rfl, hS, hlen, q⟩ := h
    refine ⟨_, (pss_cons (ps_for PassesOwn.never rfl (pi_list (pe_op op_cat (pe_slice sl_list (pv 0) po_none (po_some pe_int)) (pe_lst (pa_cons pe_int pa_nil)))) (pg_name (i := 1) sc_law.nd rfl (.inl rfl)) (pss_one (ps_if (pt_not (pt_val (pe_call (ok__law_right T) (hr.mono (by decide)) (by rfl) T.g__law_right T.f__law_right.kp T.b__law_right .nil pass0 (pa_cons (pe_call (ok__law_jar T) (hr.mono (by decide)) (by rfl) T.g__law_jar T.f__law_jar.kp T.b__law_jar .nil pass0 (pa_cons (pv 1) pa_nil)) pa_nil)))) (pss_one (ps_ret pe_bl)) pss_nil)))
        (pss_cons (ps_if (PW.pt (pw_or (pt_cmpR (op_neD hr.units) (pe_call (ok_least_edit T) (hr.mono (by decide)) (by rfl) T.g_least_edit T.f_least_edit.kp T.b_least_edit .nil pass0 (pa_cons pe_str (pa_cons pe_str pa_nil))) (pe_tup (pa_cons pe_int (pa_cons pe_int (pa_cons (pe_lst pa_nil) pa_nil)))) (nomark _)) (pw_or1 (pt_cmpR (op_neD hr.units) (pe_call (ok_least_edit T) (hr.mono (by decide)) (by rfl) T.g_least_edit T.f_least_edit.kp T.b_least_edit .nil pass0 (pa_cons pe_str (pa_cons pe_str pa_nil))) (pe_tup (pa_cons pe_int (pa_cons pe_int (pa_cons (pe_lst pa_nil) pa_nil)))) (nomark _))))) (pss_one (ps_ret pe_bl)) pss_nil)
        (pss_cons (ps_if (PW.pt (pw_or (pt_cmpR op_ne (pe_call (ok_edited T) (hr.mono (by decide)) (by rfl) T.g_edited T.f_edited.kp T.b_edited .nil pass0 (pa_cons pe_str (pa_cons (pe_tup (pa_cons pe_int (pa_cons pe_int (pa_cons (pe_lst (pa_cons pe_str (pa_cons pe_str pa_nil))) pa_nil)))) pa_nil))) pe_str (nomark _)) (pw_or (pt_cmpR op_ne (pe_call (ok_edited T) (hr.mono (by decide)) (by rfl) T.g_edited T.f_edited.kp T.b_edited .nil pass0 (pa_cons pe_str (pa_cons (pe_tup (pa_cons pe_int (pa_cons pe_int (pa_cons (pe_tup pa_nil) pa_nil)))) pa_nil))) pe_str (nomark _)) (pw_or1 (pt_cmpR op_ne (pe_call (ok_edited T) (hr.mono (by decide)) (by rfl) T.g_edited T.f_edited.kp T.b_edited .nil pass0 (pa_cons pe_str (pa_cons (pe_tup (pa_cons pe_int (pa_cons pe_int (pa_cons (pe_lst pa_nil) pa_nil)))) pa_nil))) pe_str (nomark _)))))) (pss_one (ps_ret pe_bl)) pss_nil)
        (pss_one (ps_ret (pe_cmpR (op_eqD hr.units) (pe_call (ok_back T) (hr.mono (by decide)) (by rfl) T.g_back T.f_back.kp T.b_back .nil pass0 (pa_cons pe_str (pa_cons (pe_tup (pa_cons pe_int (pa_cons pe_int (pa_cons (pe_tup (pa_cons pe_str pa_nil)) pa_nil)))) pa_nil))) (pe_tup (pa_cons pe_int (pa_cons pe_int (pa_cons (pe_lst (pa_cons pe_str (pa_cons pe_str pa_nil))) pa_nil)))) (nomark _))))))), ?_⟩
    obtain ⟨ec, el⟩ := cut_script ns 6 (by rw [List.length_map]; omega)
    refine ⟨_, rfl, _, rfl, a, _, rfl, hS, fun p np => ⟨by show 1 ≤ sizeLine; decide, fun p2 np2 => ⟨p, p2, _, _, rfl, rfl, by rw [upd_ne (ne_of_none upd_same np2)]; exact upd_same, upd_same, el, fun p3 np3 => ?_⟩⟩⟩
    rw [ec]
    have h3 : (upd (upd (upd H p (.lst (cutV (ns.map V.int) none (some (6 : Nat))))) p2 (.lst [V.int 0])) p3 (.lst ((ns.take 6 ++ [0]).map V.int))) p3 = some (.lst ((ns.take 6 ++ [0]).map V.int)) := upd_same
    generalize upd (upd (upd H p (.lst (cutV (ns.map V.int) none (some (6 : Nat))))) p2 (.lst [V.int 0])) p3 (.lst ((ns.take 6 ++ [0]).map V.int)) = H0 at h3 ⊢
    generalize ns.take 6 ++ [0] = ms at h3 ⊢
    refine ⟨p3, rfl, ⟨_, SqL.of h3⟩, for_list (K := K) (a := p3) (xs := ms.map V.int) (fun i σ H' => (∃ v1 : Option V, σ = [some (.ref a), v1]) ∧ H' p3 = some (.lst (ms.map V.int))) ⟨⟨_, rfl⟩, h3⟩ (fun i σ H' _ h => SqL.of h.2) ?_ ?_⟩
    · rintro i x σ H' hi ⟨⟨v1, rfl⟩, hp⟩
      obtain ⟨z, hz, rfl⟩ : ∃ z, ms[i]? = some z ∧ x = V.int z := by
        rw [List.getElem?_map] at hi
        cases e : ms[i]? with
        | none => rw [e] at hi; cases hi
        | some z => rw [e] at hi; exact ⟨z, rfl, (Option.some.inj hi).symm⟩
      refine ⟨_, rfl, z, rfl, fun L x y nL => ?_⟩
      have hpL : p3 ≠ L := ne_of_none hp nL
      refine ⟨L, rfl, ⟨_, _, _, upd_same⟩, fun H2 k2 w2 => ⟨_, rfl, iteF ?_⟩⟩
      exact ⟨⟨_, rfl⟩, k2 _ _ hpL (same_new nL _ _ hp)⟩
    · rintro σ H2 ⟨⟨v1, rfl⟩, hp2⟩
      have nilT : ∀ (H : Hp) (Q : List V → Hp → Prop), Q (rowsV []) H → tNil [some (.ref a), v1] H Q := fun H Q q => q
      refine if_S (ans_or (ne_er (K := K) (ER.eq (er_least (A := [[97], [97], [97]]) (B := [[97], [97]]) sr_lit sr_lit (by decide +kernel) (by decide +kernel) (by decide +kernel) (by decide +kernel) (by decide) (by decide)) (show _ = 2 by decide +kernel) (show _ = 1 by decide +kernel) (show _ = [] by decide +kernel)) (EDR.er (edr_lst rfl rfl nilT (by decide))) (fun l hl => by cases hl)) fun H3 s3 => ne_er (K := K) (ER.eq (er_least (A := []) (B := []) sr_lit sr_lit (by decide +kernel) (by decide +kernel) (by decide +kernel) (by decide +kernel) (by decide) (by decide)) (show _ = 0 by decide +kernel) (show _ = 0 by decide +kernel) (show _ = [] by decide +kernel)) (EDR.er (edr_lst rfl rfl nilT (by decide))) (fun l hl => by cases hl)) fun H3 s3 => ?_
      refine if_S (ans_or (ne_sr (l := cs "a\n\nb\n") (SR.eq (sr_editedE (K := K) (lst := true) (ls := [[], [98]]) (rows := [[97]]) (f := 1) (m := 0) sr_lit (edr_lst rfl rfl (fun H Q q => ?_) (by decide)) (by decide +kernel) (by decide +kernel) (by decide) (by decide) (by decide) (okL_of (by decide +kernel)) (okL_of (by decide +kernel))) (by decide +kernel)) sr_lit (by decide +kernel)) fun H4 s4 => ans_or (ne_sr (l := cs "") (SR.eq (sr_editedE (K := K) (lst := false) (ls := []) (rows := [[97]]) (f := 0) (m := 1) sr_lit (edr_tup rfl rfl nilT (by decide)) (by decide +kernel) (by decide +kernel) (by decide) (by decide) (by decide) (okL_of (by decide +kernel)) (okL_of (by decide +kernel))) (by decide +kernel)) sr_lit (by decide +kernel)) fun H5 s5 => ne_sr (l := cs "") (SR.eq (sr_editedE (K := K) (lst := true) (ls := []) (rows := []) (f := 0) (m := 0) sr_lit (edr_lst rfl rfl nilT (by decide)) (by decide +kernel) (by decide +kernel) (by decide) (by decide) (by decide) (okL_of (by decide +kernel)) (okL_of (by decide +kernel))) (by decide +kernel)) sr_lit (by decide +kernel)) fun H4 s4 => ?_
      · have e : rowsV [[], [98]] = [V.str ("" : Str), .str ("b" : Str)] := by decide +kernel
        rw [e] at q
        exact q
      refine eq_er (K := K) (ls := [[97], [98]]) (f := 0) (m := 1) (ER.eq (er_backE (K := K) (lst := false) (ls := [[99]]) (rows := [[97], [98]]) (f := 0) (m := 2) sr_lit (edr_tup rfl rfl (fun H Q q => ?_) (by decide)) (by decide +kernel) (by decide +kernel) (by decide) (by decide) (okL_of (by decide +kernel))) rfl rfl rfl) (EDR.er (edr_lst rfl rfl (fun H Q q => ?_) (by decide))) (okL_of (by decide +kernel)) fun H' => q H'
      · have e : rowsV [[99]] = [V.str ("c" : Str)] := by decide +kernel
        rw [e] at q
        exact q
      · have e : rowsV [[97], [98]] = [V.str ("a" : Str), .str ("b" : Str)] := by decide +kernel
        rw [e] at q
        exact q

set_option maxHeartbeats 4000000 in
theorem all_mk {l : PySem.W.OpenLaw} {w : World} {K : PySem.W.Frag} {h : Heap} {mg : Str → Option Value} {fa : Addr} (X : K.In h) (G : h.Ns mainGlobals mg) (hfa : mg "law" = some (.ref fa))
    {f0 : Addr} {od0 an0 : Option Addr} {sl0 : Array (Option Value)} {oc0 kV0 dc0 pm0 cd0 ct0 : Value}
    (a0 : PySem.W.nsIn K mainGlobals "lines_of" = some (some (.ref f0))) (l0 : K.lookup f0 = some ⟨oc0, od0, .func (PySem.W.fnOf "lines_of" "lines_of" (defArgs s_lines_of) (defBody s_lines_of) (defScope s_lines_of) .none kV0 dc0 pm0 an0 cd0 ct0), sl0⟩) (c0 : PySem.W.codeIn K cd0 "lines_of" = true) (k0 : PySem.W.keepIn K (.ref f0) = true)
    {f1 : Addr} {od1 an1 : Option Addr} {sl1 : Array (Option Value)} {oc1 kV1 dc1 pm1 cd1 ct1 : Value}
    (a1 : PySem.W.nsIn K mainGlobals "check_source" = some (some (.ref f1))) (l1 : K.lookup f1 = some ⟨oc1, od1, .func (PySem.W.fnOf "check_source" "check_source" (defArgs s_check_source) (defBody s_check_source) (defScope s_check_source) .none kV1 dc1 pm1 an1 cd1 ct1), sl1⟩) (c1 : PySem.W.codeIn K cd1 "check_source" = true) (k1 : PySem.W.keepIn K (.ref f1) = true)
    {f2 : Addr} {od2 an2 : Option Addr} {sl2 : Array (Option Value)} {oc2 kV2 dc2 pm2 cd2 ct2 : Value}
    (a2 : PySem.W.nsIn K mainGlobals "is_integer_to" = some (some (.ref f2))) (l2 : K.lookup f2 = some ⟨oc2, od2, .func (PySem.W.fnOf "is_integer_to" "is_integer_to" (defArgs s_is_integer_to) (defBody s_is_integer_to) (defScope s_is_integer_to) .none kV2 dc2 pm2 an2 cd2 ct2), sl2⟩) (c2 : PySem.W.codeIn K cd2 "is_integer_to" = true) (k2 : PySem.W.keepIn K (.ref f2) = true)
    {f3 : Addr} {od3 an3 : Option Addr} {sl3 : Array (Option Value)} {oc3 kV3 dc3 pm3 cd3 ct3 : Value}
    (a3 : PySem.W.nsIn K mainGlobals "edited" = some (some (.ref f3))) (l3 : K.lookup f3 = some ⟨oc3, od3, .func (PySem.W.fnOf "edited" "edited" (defArgs s_edited) (defBody s_edited) (defScope s_edited) .none kV3 dc3 pm3 an3 cd3 ct3), sl3⟩) (c3 : PySem.W.codeIn K cd3 "edited" = true) (k3 : PySem.W.keepIn K (.ref f3) = true)
    {f4 : Addr} {od4 an4 : Option Addr} {sl4 : Array (Option Value)} {oc4 kV4 dc4 pm4 cd4 ct4 : Value}
    (a4 : PySem.W.nsIn K mainGlobals "back" = some (some (.ref f4))) (l4 : K.lookup f4 = some ⟨oc4, od4, .func (PySem.W.fnOf "back" "back" (defArgs s_back) (defBody s_back) (defScope s_back) .none kV4 dc4 pm4 an4 cd4 ct4), sl4⟩) (c4 : PySem.W.codeIn K cd4 "back" = true) (k4 : PySem.W.keepIn K (.ref f4) = true)
    {f5 : Addr} {od5 an5 : Option Addr} {sl5 : Array (Option Value)} {oc5 kV5 dc5 pm5 cd5 ct5 : Value}
    (a5 : PySem.W.nsIn K mainGlobals "least_edit" = some (some (.ref f5))) (l5 : K.lookup f5 = some ⟨oc5, od5, .func (PySem.W.fnOf "least_edit" "least_edit" (defArgs s_least_edit) (defBody s_least_edit) (defScope s_least_edit) .none kV5 dc5 pm5 an5 cd5 ct5), sl5⟩) (c5 : PySem.W.codeIn K cd5 "least_edit" = true) (k5 : PySem.W.keepIn K (.ref f5) = true)
    {f6 : Addr} {od6 an6 : Option Addr} {sl6 : Array (Option Value)} {oc6 kV6 dc6 pm6 cd6 ct6 : Value}
    (a6 : PySem.W.nsIn K mainGlobals "check_edit" = some (some (.ref f6))) (l6 : K.lookup f6 = some ⟨oc6, od6, .func (PySem.W.fnOf "check_edit" "check_edit" (defArgs s_check_edit) (defBody s_check_edit) (defScope s_check_edit) .none kV6 dc6 pm6 an6 cd6 ct6), sl6⟩) (c6 : PySem.W.codeIn K cd6 "check_edit" = true) (k6 : PySem.W.keepIn K (.ref f6) = true)
    {f7 : Addr} {od7 an7 : Option Addr} {sl7 : Array (Option Value)} {oc7 kV7 dc7 pm7 cd7 ct7 : Value}
    (a7 : PySem.W.nsIn K mainGlobals "wrong_index" = some (some (.ref f7))) (l7 : K.lookup f7 = some ⟨oc7, od7, .func (PySem.W.fnOf "wrong_index" "wrong_index" (defArgs s_wrong_index) (defBody s_wrong_index) (defScope s_wrong_index) .none kV7 dc7 pm7 an7 cd7 ct7), sl7⟩) (c7 : PySem.W.codeIn K cd7 "wrong_index" = true) (k7 : PySem.W.keepIn K (.ref f7) = true)
    {f8 : Addr} {od8 an8 : Option Addr} {sl8 : Array (Option Value)} {oc8 kV8 dc8 pm8 cd8 ct8 : Value}
    (a8 : PySem.W.nsIn K mainGlobals "is_line" = some (some (.ref f8))) (l8 : K.lookup f8 = some ⟨oc8, od8, .func (PySem.W.fnOf "is_line" "is_line" (defArgs s_is_line) (defBody s_is_line) (defScope s_is_line) .none kV8 dc8 pm8 an8 cd8 ct8), sl8⟩) (c8 : PySem.W.codeIn K cd8 "is_line" = true) (k8 : PySem.W.keepIn K (.ref f8) = true)
    {f9 : Addr} {od9 an9 : Option Addr} {sl9 : Array (Option Value)} {oc9 kV9 dc9 pm9 cd9 ct9 : Value}
    (a9 : PySem.W.nsIn K mainGlobals "number_alike" = some (some (.ref f9))) (l9 : K.lookup f9 = some ⟨oc9, od9, .func (PySem.W.fnOf "number_alike" "number_alike" (defArgs s_number_alike) (defBody s_number_alike) (defScope s_number_alike) .none kV9 dc9 pm9 an9 cd9 ct9), sl9⟩) (c9 : PySem.W.codeIn K cd9 "number_alike" = true) (k9 : PySem.W.keepIn K (.ref f9) = true)
    {f10 : Addr} {od10 an10 : Option Addr} {sl10 : Array (Option Value)} {oc10 kV10 dc10 pm10 cd10 ct10 : Value}
    (a10 : PySem.W.nsIn K mainGlobals "_law_jar" = some (some (.ref f10))) (l10 : K.lookup f10 = some ⟨oc10, od10, .func (PySem.W.fnOf "_law_jar" "_law_jar" (defArgs s__law_jar) (defBody s__law_jar) (defScope s__law_jar) .none kV10 dc10 pm10 an10 cd10 ct10), sl10⟩) (c10 : PySem.W.codeIn K cd10 "_law_jar" = true) (k10 : PySem.W.keepIn K (.ref f10) = true)
    {f11 : Addr} {od11 an11 : Option Addr} {sl11 : Array (Option Value)} {oc11 kV11 dc11 pm11 cd11 ct11 : Value}
    (a11 : PySem.W.nsIn K mainGlobals "_law_dip" = some (some (.ref f11))) (l11 : K.lookup f11 = some ⟨oc11, od11, .func (PySem.W.fnOf "_law_dip" "_law_dip" (defArgs s__law_dip) (defBody s__law_dip) (defScope s__law_dip) .none kV11 dc11 pm11 an11 cd11 ct11), sl11⟩) (c11 : PySem.W.codeIn K cd11 "_law_dip" = true) (k11 : PySem.W.keepIn K (.ref f11) = true)
    {f12 : Addr} {od12 an12 : Option Addr} {sl12 : Array (Option Value)} {oc12 kV12 dc12 pm12 cd12 ct12 : Value}
    (a12 : PySem.W.nsIn K mainGlobals "_law_one" = some (some (.ref f12))) (l12 : K.lookup f12 = some ⟨oc12, od12, .func (PySem.W.fnOf "_law_one" "_law_one" (defArgs s__law_one) (defBody s__law_one) (defScope s__law_one) .none kV12 dc12 pm12 an12 cd12 ct12), sl12⟩) (c12 : PySem.W.codeIn K cd12 "_law_one" = true) (k12 : PySem.W.keepIn K (.ref f12) = true)
    {f13 : Addr} {od13 an13 : Option Addr} {sl13 : Array (Option Value)} {oc13 kV13 dc13 pm13 cd13 ct13 : Value}
    (a13 : PySem.W.nsIn K mainGlobals "_law_line" = some (some (.ref f13))) (l13 : K.lookup f13 = some ⟨oc13, od13, .func (PySem.W.fnOf "_law_line" "_law_line" (defArgs s__law_line) (defBody s__law_line) (defScope s__law_line) .none kV13 dc13 pm13 an13 cd13 ct13), sl13⟩) (c13 : PySem.W.codeIn K cd13 "_law_line" = true) (k13 : PySem.W.keepIn K (.ref f13) = true)
    {f14 : Addr} {od14 an14 : Option Addr} {sl14 : Array (Option Value)} {oc14 kV14 dc14 pm14 cd14 ct14 : Value}
    (a14 : PySem.W.nsIn K mainGlobals "_law_lines" = some (some (.ref f14))) (l14 : K.lookup f14 = some ⟨oc14, od14, .func (PySem.W.fnOf "_law_lines" "_law_lines" (defArgs s__law_lines) (defBody s__law_lines) (defScope s__law_lines) .none kV14 dc14 pm14 an14 cd14 ct14), sl14⟩) (c14 : PySem.W.codeIn K cd14 "_law_lines" = true) (k14 : PySem.W.keepIn K (.ref f14) = true)
    {f15 : Addr} {od15 an15 : Option Addr} {sl15 : Array (Option Value)} {oc15 kV15 dc15 pm15 cd15 ct15 : Value}
    (a15 : PySem.W.nsIn K mainGlobals "_law_text" = some (some (.ref f15))) (l15 : K.lookup f15 = some ⟨oc15, od15, .func (PySem.W.fnOf "_law_text" "_law_text" (defArgs s__law_text) (defBody s__law_text) (defScope s__law_text) .none kV15 dc15 pm15 an15 cd15 ct15), sl15⟩) (c15 : PySem.W.codeIn K cd15 "_law_text" = true) (k15 : PySem.W.keepIn K (.ref f15) = true)
    {f16 : Addr} {od16 an16 : Option Addr} {sl16 : Array (Option Value)} {oc16 kV16 dc16 pm16 cd16 ct16 : Value}
    (a16 : PySem.W.nsIn K mainGlobals "_law_edit" = some (some (.ref f16))) (l16 : K.lookup f16 = some ⟨oc16, od16, .func (PySem.W.fnOf "_law_edit" "_law_edit" (defArgs s__law_edit) (defBody s__law_edit) (defScope s__law_edit) .none kV16 dc16 pm16 an16 cd16 ct16), sl16⟩) (c16 : PySem.W.codeIn K cd16 "_law_edit" = true) (k16 : PySem.W.keepIn K (.ref f16) = true)
    {f17 : Addr} {od17 an17 : Option Addr} {sl17 : Array (Option Value)} {oc17 kV17 dc17 pm17 cd17 ct17 : Value}
    (a17 : PySem.W.nsIn K mainGlobals "_law_done" = some (some (.ref f17))) (l17 : K.lookup f17 = some ⟨oc17, od17, .func (PySem.W.fnOf "_law_done" "_law_done" (defArgs s__law_done) (defBody s__law_done) (defScope s__law_done) .none kV17 dc17 pm17 an17 cd17 ct17), sl17⟩) (c17 : PySem.W.codeIn K cd17 "_law_done" = true) (k17 : PySem.W.keepIn K (.ref f17) = true)
    {f18 : Addr} {od18 an18 : Option Addr} {sl18 : Array (Option Value)} {oc18 kV18 dc18 pm18 cd18 ct18 : Value}
    (a18 : PySem.W.nsIn K mainGlobals "_law_least" = some (some (.ref f18))) (l18 : K.lookup f18 = some ⟨oc18, od18, .func (PySem.W.fnOf "_law_least" "_law_least" (defArgs s__law_least) (defBody s__law_least) (defScope s__law_least) .none kV18 dc18 pm18 an18 cd18 ct18), sl18⟩) (c18 : PySem.W.codeIn K cd18 "_law_least" = true) (k18 : PySem.W.keepIn K (.ref f18) = true)
    {f19 : Addr} {od19 an19 : Option Addr} {sl19 : Array (Option Value)} {oc19 kV19 dc19 pm19 cd19 ct19 : Value}
    (a19 : PySem.W.nsIn K mainGlobals "_law_plain" = some (some (.ref f19))) (l19 : K.lookup f19 = some ⟨oc19, od19, .func (PySem.W.fnOf "_law_plain" "_law_plain" (defArgs s__law_plain) (defBody s__law_plain) (defScope s__law_plain) .none kV19 dc19 pm19 an19 cd19 ct19), sl19⟩) (c19 : PySem.W.codeIn K cd19 "_law_plain" = true) (k19 : PySem.W.keepIn K (.ref f19) = true)
    {f20 : Addr} {od20 an20 : Option Addr} {sl20 : Array (Option Value)} {oc20 kV20 dc20 pm20 cd20 ct20 : Value}
    (a20 : PySem.W.nsIn K mainGlobals "_law_right" = some (some (.ref f20))) (l20 : K.lookup f20 = some ⟨oc20, od20, .func (PySem.W.fnOf "_law_right" "_law_right" (defArgs s__law_right) (defBody s__law_right) (defScope s__law_right) .none kV20 dc20 pm20 an20 cd20 ct20), sl20⟩) (c20 : PySem.W.codeIn K cd20 "_law_right" = true) (k20 : PySem.W.keepIn K (.ref f20) = true)
    {f21 : Addr} {od21 an21 : Option Addr} {sl21 : Array (Option Value)} {oc21 kV21 dc21 pm21 cd21 ct21 : Value}
    (a21 : PySem.W.nsIn K mainGlobals "law" = some (some (.ref f21))) (l21 : K.lookup f21 = some ⟨oc21, od21, .func (PySem.W.fnOf "law" "law" (defArgs s_law) (defBody s_law) (defScope s_law) .none kV21 dc21 pm21 an21 cd21 ct21), sl21⟩) (c21 : PySem.W.codeIn K cd21 "law" = true) (k21 : PySem.W.keepIn K (.ref f21) = true)
    (z_all : PySem.W.nsIn K mainGlobals "all" = some none)
    (z_bool : PySem.W.nsIn K mainGlobals "bool" = some none)
    (z_int : PySem.W.nsIn K mainGlobals "int" = some none)
    (z_isinstance : PySem.W.nsIn K mainGlobals "isinstance" = some none)
    (z_len : PySem.W.nsIn K mainGlobals "len" = some none)
    (z_list : PySem.W.nsIn K mainGlobals "list" = some none)
    (z_min : PySem.W.nsIn K mainGlobals "min" = some none)
    (z_range : PySem.W.nsIn K mainGlobals "range" = some none)
    (z_repr : PySem.W.nsIn K mainGlobals "repr" = some none)
    (z_str : PySem.W.nsIn K mainGlobals "str" = some none)
    (z_tuple : PySem.W.nsIn K mainGlobals "tuple" = some none)
    : ∃ fd : FuncData, (∀ (s : Shared) (v : Value), BindsTo s fd ⟨[v], []⟩ [("_law_script", v)]) ∧ ∀ base : Heap, K.In base → base.Ns mainGlobals mg → FnOk l.prog w K mg base CX0 7 fa fd ["_law_script"] (sp_law K) := by
  have e := hfa.symm.trans (PySem.W.mg_of X G a21)
  cases e
  have F0 := fun_mk (st := s_lines_of) l0 c0 k0
  have F1 := fun_mk (st := s_check_source) l1 c1 k1
  have F2 := fun_mk (st := s_is_integer_to) l2 c2 k2
  have F3 := fun_mk (st := s_edited) l3 c3 k3
  have F4 := fun_mk (st := s_back) l4 c4 k4
  have F5 := fun_mk (st := s_least_edit) l5 c5 k5
  have F6 := fun_mk (st := s_check_edit) l6 c6 k6
  have F7 := fun_mk (st := s_wrong_index) l7 c7 k7
  have F8 := fun_mk (st := s_is_line) l8 c8 k8
  have F9 := fun_mk (st := s_number_alike) l9 c9 k9
  have F10 := fun_mk (st := s__law_jar) l10 c10 k10
  have F11 := fun_mk (st := s__law_dip) l11 c11 k11
  have F12 := fun_mk (st := s__law_one) l12 c12 k12
  have F13 := fun_mk (st := s__law_line) l13 c13 k13
  have F14 := fun_mk (st := s__law_lines) l14 c14 k14
  have F15 := fun_mk (st := s__law_text) l15 c15 k15
  have F16 := fun_mk (st := s__law_edit) l16 c16 k16
  have F17 := fun_mk (st := s__law_done) l17 c17 k17
  have F18 := fun_mk (st := s__law_least) l18 c18 k18
  have F19 := fun_mk (st := s__law_plain) l19 c19 k19
  have F20 := fun_mk (st := s__law_right) l20 c20 k20
  have F21 := fun_mk (st := s_law) l21 c21 k21
  have b0 := F0.binds (ps := ["text"]) fun _ _ _ _ _ _ us hl => match us, hl with | [_], _ => rfl
  have b1 := F1.binds (ps := ["text"]) fun _ _ _ _ _ _ us hl => match us, hl with | [_], _ => rfl
  have b2 := F2.binds (ps := ["least", "most", "thing"]) fun _ _ _ _ _ _ us hl => match us, hl with | [_, _, _], _ => rfl
  have b3 := F3.binds (ps := ["text", "edit"]) fun _ _ _ _ _ _ us hl => match us, hl with | [_, _], _ => rfl
  have b4 := F4.binds (ps := ["text", "edit"]) fun _ _ _ _ _ _ us hl => match us, hl with | [_, _], _ => rfl
  have b5 := F5.binds (ps := ["text", "other"]) fun _ _ _ _ _ _ us hl => match us, hl with | [_, _], _ => rfl
  have b6 := F6.binds (ps := ["text", "edit"]) fun _ _ _ _ _ _ us hl => match us, hl with | [_, _], _ => rfl
  have b7 := F7.binds (ps := ["many_lines", "edit"]) fun _ _ _ _ _ _ us hl => match us, hl with | [_, _], _ => rfl
  have b8 := F8.binds (ps := ["thing"]) fun _ _ _ _ _ _ us hl => match us, hl with | [_], _ => rfl
  have b9 := F9.binds (ps := ["row", "other"]) fun _ _ _ _ _ _ us hl => match us, hl with | [_, _], _ => rfl
  have b10 := F10.binds (ps := ["_law_cell"]) fun _ _ _ _ _ _ us hl => match us, hl with | [_], _ => rfl
  have b11 := F11.binds (ps := ["_law_jar_here", "_law_many"]) fun _ _ _ _ _ _ us hl => match us, hl with | [_, _], _ => rfl
  have b12 := F12.binds (ps := ["_law_jar_here", "_law_some"]) fun _ _ _ _ _ _ us hl => match us, hl with | [_, _], _ => rfl
  have b13 := F13.binds (ps := ["_law_jar_here"]) fun _ _ _ _ _ _ us hl => match us, hl with | [_], _ => rfl
  have b14 := F14.binds (ps := ["_law_jar_here", "_law_most"]) fun _ _ _ _ _ _ us hl => match us, hl with | [_, _], _ => rfl
  have b15 := F15.binds (ps := ["_law_lines_here"]) fun _ _ _ _ _ _ us hl => match us, hl with | [_], _ => rfl
  have b16 := F16.binds (ps := ["_law_jar_here", "_law_lines_here"]) fun _ _ _ _ _ _ us hl => match us, hl with | [_, _], _ => rfl
  have b17 := F17.binds (ps := ["_law_lines_here", "_law_edit_here"]) fun _ _ _ _ _ _ us hl => match us, hl with | [_, _], _ => rfl
  have b18 := F18.binds (ps := ["_law_lines_here", "_law_others"]) fun _ _ _ _ _ _ us hl => match us, hl with | [_, _], _ => rfl
  have b19 := F19.binds (ps := ["_law_edit_here"]) fun _ _ _ _ _ _ us hl => match us, hl with | [_], _ => rfl
  have b20 := F20.binds (ps := ["_law_jar_here"]) fun _ _ _ _ _ _ us hl => match us, hl with | [_], _ => rfl
  have T : Txt K mg := {
    a_lines_of := f0, d_lines_of := _, f_lines_of := F0, g_lines_of := PySem.W.mg_of X G a0, b_lines_of := b0,
    a_check_source := f1, d_check_source := _, f_check_source := F1, g_check_source := PySem.W.mg_of X G a1, b_check_source := b1,
    a_is_integer_to := f2, d_is_integer_to := _, f_is_integer_to := F2, g_is_integer_to := PySem.W.mg_of X G a2, b_is_integer_to := b2,
    a_edited := f3, d_edited := _, f_edited := F3, g_edited := PySem.W.mg_of X G a3, b_edited := b3,
    a_back := f4, d_back := _, f_back := F4, g_back := PySem.W.mg_of X G a4, b_back := b4,
    a_least_edit := f5, d_least_edit := _, f_least_edit := F5, g_least_edit := PySem.W.mg_of X G a5, b_least_edit := b5,
    a_check_edit := f6, d_check_edit := _, f_check_edit := F6, g_check_edit := PySem.W.mg_of X G a6, b_check_edit := b6,
    a_wrong_index := f7, d_wrong_index := _, f_wrong_index := F7, g_wrong_index := PySem.W.mg_of X G a7, b_wrong_index := b7,
    a_is_line := f8, d_is_line := _, f_is_line := F8, g_is_line := PySem.W.mg_of X G a8, b_is_line := b8,
    a_number_alike := f9, d_number_alike := _, f_number_alike := F9, g_number_alike := PySem.W.mg_of X G a9, b_number_alike := b9,
    a__law_jar := f10, d__law_jar := _, f__law_jar := F10, g__law_jar := PySem.W.mg_of X G a10, b__law_jar := b10,
    a__law_dip := f11, d__law_dip := _, f__law_dip := F11, g__law_dip := PySem.W.mg_of X G a11, b__law_dip := b11,
    a__law_one := f12, d__law_one := _, f__law_one := F12, g__law_one := PySem.W.mg_of X G a12, b__law_one := b12,
    a__law_line := f13, d__law_line := _, f__law_line := F13, g__law_line := PySem.W.mg_of X G a13, b__law_line := b13,
    a__law_lines := f14, d__law_lines := _, f__law_lines := F14, g__law_lines := PySem.W.mg_of X G a14, b__law_lines := b14,
    a__law_text := f15, d__law_text := _, f__law_text := F15, g__law_text := PySem.W.mg_of X G a15, b__law_text := b15,
    a__law_edit := f16, d__law_edit := _, f__law_edit := F16, g__law_edit := PySem.W.mg_of X G a16, b__law_edit := b16,
    a__law_done := f17, d__law_done := _, f__law_done := F17, g__law_done := PySem.W.mg_of X G a17, b__law_done := b17,
    a__law_least := f18, d__law_least := _, f__law_least := F18, g__law_least := PySem.W.mg_of X G a18, b__law_least := b18,
    a__law_plain := f19, d__law_plain := _, f__law_plain := F19, g__law_plain := PySem.W.mg_of X G a19, b__law_plain := b19,
    a__law_right := f20, d__law_right := _, f__law_right := F20, g__law_right := PySem.W.mg_of X G a20, b__law_right := b20,
    z_all := PySem.W.mg_none_of X G z_all,
    z_bool := PySem.W.mg_none_of X G z_bool,
    z_int := PySem.W.mg_none_of X G z_int,
    z_isinstance := PySem.W.mg_none_of X G z_isinstance,
    z_len := PySem.W.mg_none_of X G z_len,
    z_list := PySem.W.mg_none_of X G z_list,
    z_min := PySem.W.mg_none_of X G z_min,
    z_range := PySem.W.mg_none_of X G z_range,
    z_repr := PySem.W.mg_none_of X G z_repr,
    z_str := PySem.W.mg_none_of X G z_str,
    z_tuple := PySem.W.mg_none_of X G z_tuple }
  exact ⟨PySem.W.fnOf "law" "law" (defArgs s_law) (defBody s_law) (defScope s_law) .none kV21 dc21 pm21 an21 cd21 ct21, fun s v => .of_eq rfl, fun base _ _ => ok_law T F21⟩
end K80
open PySem PySem.W PyProof.Rows
set_option maxHeartbeats 0 in
theorem PySem.Challenge.cw_plainmark_k80_edits_there_and_back_holds : PySem.Challenge.rw_plainmark_k80_edits_there_and_back.Holds := by
  w_on; o_law; k_head; (case hw => w_witness2)
  k_fill
  refine L2.walk_of (l := PySem.Challenge.rw_plainmark_k80_edits_there_and_back) (n := 63) (k := 7) (x := "_law_script") (CX := fun _ => L2.CX0) (sp := fun w => K80.sp_law _) rfl (by decide) rfl ⟨rfl, by decide, by decide⟩ (fun w h Y => PySem.W.kIn_of Y) ?F (fun _ _ a ns hl _ hS => ⟨a, ns, rfl, hS, hl, fun _ => rfl⟩) (fun _ _ _ _ _ h => h)
  case F =>
    intro w mg fa h KX G hmg
    refine' K80.all_mk KX G hmg ?a0 ?l0 ?c0 ?k0 ?a1 ?l1 ?c1 ?k1 ?a2 ?l2 ?c2 ?k2 ?a3 ?l3 ?c3 ?k3 ?a4 ?l4 ?c4 ?k4 ?a5 ?l5 ?c5 ?k5 ?a6 ?l6 ?c6 ?k6 ?a7 ?l7 ?c7 ?k7 ?a8 ?l8 ?c8 ?k8 ?a9 ?l9 ?c9 ?k9 ?a10 ?l10 ?c10 ?k10 ?a11 ?l11 ?c11 ?k11 ?a12 ?l12 ?c12 ?k12 ?a13 ?l13 ?c13 ?k13 ?a14 ?l14 ?c14 ?k14 ?a15 ?l15 ?c15 ?k15 ?a16 ?l16 ?c16 ?k16 ?a17 ?l17 ?c17 ?k17 ?a18 ?l18 ?c18 ?k18 ?a19 ?l19 ?c19 ?k19 ?a20 ?l20 ?c20 ?k20 ?a21 ?l21 ?c21 ?k21 ?z_all ?z_bool ?z_int ?z_isinstance ?z_len ?z_list ?z_min ?z_range ?z_repr ?z_str ?z_tuple
    (case a0 => k_is); (case l0 => k_is); (case c0 => k_is); (case k0 => k_is); (case a1 => k_is); (case l1 => k_is); (case c1 => k_is); (case k1 => k_is); (case a2 => k_is); (case l2 => k_is); (case c2 => k_is); (case k2 => k_is); (case a3 => k_is); (case l3 => k_is); (case c3 => k_is); (case k3 => k_is); (case a4 => k_is); (case l4 => k_is); (case c4 => k_is); (case k4 => k_is); (case a5 => k_is); (case l5 => k_is); (case c5 => k_is); (case k5 => k_is); (case a6 => k_is); (case l6 => k_is); (case c6 => k_is); (case k6 => k_is); (case a7 => k_is); (case l7 => k_is); (case c7 => k_is); (case k7 => k_is); (case a8 => k_is); (case l8 => k_is); (case c8 => k_is); (case k8 => k_is); (case a9 => k_is); (case l9 => k_is); (case c9 => k_is); (case k9 => k_is); (case a10 => k_is); (case l10 => k_is); (case c10 => k_is); (case k10 => k_is); (case a11 => k_is); (case l11 => k_is); (case c11 => k_is); (case k11 => k_is); (case a12 => k_is); (case l12 => k_is); (case c12 => k_is); (case k12 => k_is); (case a13 => k_is); (case l13 => k_is); (case c13 => k_is); (case k13 => k_is); (case a14 => k_is); (case l14 => k_is); (case c14 => k_is); (case k14 => k_is); (case a15 => k_is); (case l15 => k_is); (case c15 => k_is); (case k15 => k_is); (case a16 => k_is); (case l16 => k_is); (case c16 => k_is); (case k16 => k_is); (case a17 => k_is); (case l17 => k_is); (case c17 => k_is); (case k17 => k_is); (case a18 => k_is); (case l18 => k_is); (case c18 => k_is); (case k18 => k_is); (case a19 => k_is); (case l19 => k_is); (case c19 => k_is); (case k19 => k_is); (case a20 => k_is); (case l20 => k_is); (case c20 => k_is); (case k20 => k_is); (case a21 => k_is); (case l21 => k_is); (case c21 => k_is); (case k21 => k_is); (case z_all => k_is); (case z_bool => k_is); (case z_int => k_is); (case z_isinstance => k_is); (case z_len => k_is); (case z_list => k_is); (case z_min => k_is); (case z_range => k_is); (case z_repr => k_is); (case z_str => k_is); (case z_tuple => k_is)
