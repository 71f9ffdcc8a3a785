import PyProof.Rows.All
import Wide.All
import OpenK.AllK
import Wide.FinOn
import HandS.Base
import HandS.Call
import HandS.List
import HandS.Words
import HandS.WordsList
import HandS.Codes
import HandS.FStr
import PyProof.FString3
import PyProof.Rows.StrIntSpec
import PyProof.FactsAll.int_2
import KE.KxField
import HandS.Ends
import HandS.Exc
import HandS.ExcInit
import HandS.ExcField
import HandS.TryMany
import KE.KTryMore
import HandS.Lambda
import HandS.Defaults
import PyProof.DefMake
import PyProof.DefCall
import HandS.TupMul
import HandS.TupAny
import HandS.Zip
import HandS.Comp
import HandS.Iter
import KE.GoesMore
import HandS.SetFor
import HandS.Strs
import PyProof.CompFree
import PyProof.RaisesMany
import HandS.IsInst
import HandS.StrMore
import HandS.WordsExc
import HandS.Text
import PyProof.StrLaws
import PyProof.StrLawsAffix
import HandS.EndTab
import HandS.HeadWalk
import HandS.Deep
import HandS.SetKeys
import HandS.Conv
import HandS.Star
import HandS.Style
import HandS.RaiseMore
import HandS.Steps
import HandS.Walk
import PyProof.StrOps2
import HandS.Flow
import PyProof.ListStr
import HandS.More
import HandS.Head0
import HandS.Head1
import HandS.Head2
import HandS.HeadEnd
import HandS.HeadHook1
import HandS.HeadHook2
import HandS.HeadHook3
import HandS.HeadHook4
import HandS.Head4
import PySem.Challenge.RW_voidquilt_k23_texts_that_are_no_question
set_option Elab.async false
set_option linter.all false
set_option maxRecDepth 100000
set_option maxHeartbeats 3000000
namespace VQ
open PySem L2
def top (i : Nat) : Stmt := PySem.Challenge.pw_voidquilt_k23_texts_that_are_no_question.main.body.getD i (.Pass ⟨0, 0, 0, 0⟩)
abbrev sBag : Stmt := top 37
abbrev sPull : Stmt := top 38
abbrev sOf : Stmt := top 39
/-- a drawing bag stands at b -/
def Bag (H : Hp) (b : Addr) : Prop := ∃ (l : Addr) (ns : List Int) (i r x n : Int), l ≠ b ∧ H b = some (.lst [.ref l, .int i, .int r, .int x, .int n]) ∧ H l = some (.lst (ns.map V.int)) ∧ 0 ≤ i ∧ 0 ≤ x ∧ x < 2147483629
/-- all but b is as it was, and the list in b's first place is the same one -/
def Keep (b : Addr) (H H' : Hp) : Prop := (∀ a o, a ≠ b → H a = some o → H' a = some o) ∧ ∀ l r, H b = some (.lst (.ref l :: r)) → ∃ r', H' b = some (.lst (.ref l :: r'))
theorem Keep.refl (b : Addr) (H : Hp) : Keep b H H := ⟨fun _ _ _ h => h, fun _ r h => ⟨r, h⟩⟩
theorem Keep.trans {b : Addr} {H H1 H2 : Hp} (h1 : Keep b H H1) (h2 : Keep b H1 H2) : Keep b H H2 := ⟨fun a o n h => h2.1 a o n (h1.1 a o n h), fun l r h => let ⟨r1, e⟩ := h1.2 l r h; h2.2 l r1 e⟩
theorem Keep.upd {b l : Addr} {H : Hp} {r r' : List V} (h : H b = some (.lst (.ref l :: r))) : Keep b H (upd H b (.lst (.ref l :: r'))) := ⟨fun a u n h => by rw [upd_ne n]; exact h, fun l' r1 e => by
  rw [h] at e
  cases e
  exact ⟨r', upd_same⟩⟩
theorem Same.keep {b : Addr} {H H' : Hp} (h : Same H H') : Keep b H H' := ⟨fun a o _ e => h a o e, fun l r e => ⟨r, h _ _ e⟩⟩
theorem same_new {H : Hp} {p : Addr} {o : HO} (h : H p = none) : Same H (upd H p o) := fun a u e => by rw [upd_ne (ne_of_none e h)]; exact e
theorem Bag.here {H : Hp} {b : Addr} (h : Bag H b) : ∃ o, H b = some o := by
  obtain ⟨l, ns, i, r, x, n, _, h1, _⟩ := h
  exact ⟨_, h1⟩
theorem Bag.same {H H' : Hp} {b : Addr} (h : Bag H b) (s : Same H H') : Bag H' b := by
  obtain ⟨l, ns, i, r, x, n, nl, h1, h2, h3⟩ := h
  exact ⟨l, ns, i, r, x, n, nl, s _ _ h1, s _ _ h2, h3⟩
theorem Keep.free {b p : Addr} {H H' : Hp} (k : Keep b H H') (h : Bag H b) (h' : Bag H' b) (hp : H' p = none) : H p = none := by
  cases q : H p with
  | none => rfl
  | some o =>
    by_cases e : p = b
    · obtain ⟨o', z⟩ := h'.here
      rw [e, z] at hp
      cases hp
    · rw [k.1 p o e q] at hp
      cases hp
/-- something new is written while the bag is kept -/
theorem Bag.put {b D : Addr} {H0 H : Hp} {o : HO} (B0 : Bag H0 b) (hD : H0 D = none) (k : Keep b H0 H) (B : Bag H b) : Bag (upd H D o) b ∧ Keep b H0 (upd H D o) := by
  obtain ⟨l, ns, i, r, x, n, nl, h1, h2, h3⟩ := B0
  obtain ⟨l', ns', i', r', x', n', nl', g1, g2, g3⟩ := B
  obtain ⟨rr, e⟩ := k.2 l _ h1
  rw [g1] at e
  cases e
  have bD : b ≠ D := ne_of_none h1 hD
  have lD : l ≠ D := ne_of_none h2 hD
  refine ⟨⟨l, ns', i', r', x', n', nl', (upd_ne bD).trans g1, (upd_ne lD).trans g2, g3⟩, fun a u ne e => ?_, fun l2 r2 e => ?_⟩
  · rw [upd_ne (ne_of_none e hD)]
    exact k.1 a u ne e
  · rw [upd_ne bD]
    exact k.2 l2 r2 e
theorem Keep.tup {b a : Addr} {H H' : Hp} {xs : List V} (k : Keep b H H') (B : Bag H b) (h : H a = some (.tup xs)) : H' a = some (.tup xs) := by
  refine k.1 a _ (fun e => ?_) h
  obtain ⟨l, ns, i, r, x, n, nl, h1, _⟩ := B
  rw [e, h1] at h
  cases h
def spPull : Sp := fun vs H Q _ => ∃ (b : Addr) (s : Int), vs = [.ref b, .int s] ∧ Bag H b ∧ 1 ≤ s ∧ s < 1073741824 ∧
  ∀ (d : Int) (H' : Hp), 0 ≤ d → d < s → Bag H' b → Keep b H H' → Q (.int d) H'
section
variable {P : Program} {w : World} {K : PySem.W.Frag} {mg : Str → Option Value} {base : Heap}
theorem scPull : FnScope ["_law_bag_here", "_law_size", "_law_cell", "_law_digit"] ["_law_bag_here", "_law_size"] (defScope sPull) := ⟨rfl, rfl, rfl, by decide +kernel, rfl, by decide +kernel, by decide +kernel⟩
theorem ok_pull {f : Addr} {fd : FuncData} (F : Fun K "_law_pull" "_law_pull" sPull f fd) (len : mg "len" = none) : FnOk P w K mg base CX0 1 f fd ["_law_bag_here", "_law_size"] spPull := by
  refine F.ok scPull (fun vs H Q E h => ?_) (fun cdv A outer s H vs Q E hr h => ?_)
  · obtain ⟨b, s, rfl, _⟩ := h
    rfl
  · obtain ⟨b, z, rfl, B, z1, z2, k⟩ := h
    refine ⟨_, C8.pss_cut (ps_if (PW.pt (pw_and (pt_cmpR op_lt (pe_ix ix_list (pv 0) pe_int fun _ _ => rfl) (pv 1) (nomark _)) (pw_and1 (pt_cmpR op_lt (pe_ix ix_list (pv 0) pe_int fun _ _ => rfl)
          (pe_callB call_len_seq (by rfl) len PySem.boot_len (pa_cons (pe_ix ix_list (pv 0) pe_int fun _ _ => rfl) pa_nil)) (nomark _)))))
        (pss_cons (ps_set (i := 2) scPull.nd rfl (.inl rfl) (pe_ix ix_list (pe_ix ix_list (pv 0) pe_int fun _ _ => rfl) (pe_ix ix_list (pv 0) pe_int fun _ _ => rfl) fun _ _ => rfl))
        (pss_cons (ps_asg (pe_op op_add (pe_ix ix_list (pv 0) pe_int fun _ _ => rfl) pe_int) (pg_sub (pv 0) pe_int set_list))
        (pss_cons (ps_asg (pe_ifExp (pt_cmpR op_ge (pv 2) (pe_op op_pow pe_int pe_int) (nomark _)) (pe_op op_sub (pv 2) (pe_op op_pow pe_int pe_int)) pe_int) (pg_sub (pv 0) pe_int set_list))
        (pss_one (ps_asg (pe_op op_mod (pe_op op_add (pe_op op_add (pe_op op_mul (pe_ix ix_list (pv 0) pe_int fun _ _ => rfl) pe_int) (pe_op op_mul (pv 2) pe_int)) (pe_ix ix_list (pv 0) pe_int fun _ _ => rfl)) pe_int) (pg_sub (pv 0) pe_int set_list))))))
        pss_nil)
      (pss_cons (ps_if (pt_cmpR op_ge (pe_ix ix_list (pv 0) pe_int fun _ _ => rfl) (pv 1) (nomark _))
        (pss_cons (ps_set (i := 3) scPull.nd rfl (.inl rfl) (pe_op op_mod (pe_ix ix_list (pv 0) pe_int fun _ _ => rfl) (pv 1)))
        (pss_cons (ps_asg (pe_op op_fdiv (pe_ix ix_list (pv 0) pe_int fun _ _ => rfl) (pv 1)) (pg_sub (pv 0) pe_int set_list))
        (pss_one (ps_ret (pv 3)))))
        pss_nil)
      (pss_cons (ps_asg (pe_op op_add (pe_ix ix_list (pv 0) pe_int fun _ _ => rfl) pe_int) (pg_sub (pv 0) pe_int set_list))
      (pss_cons (ps_asg (pe_op op_mod (pe_op op_add (pe_op op_add (pe_op op_add (pe_op op_pow (pe_ix ix_list (pv 0) pe_int fun _ _ => rfl) pe_int) (pe_op op_mul pe_int (pe_ix ix_list (pv 0) pe_int fun _ _ => rfl))) (pe_op op_fdiv (pe_ix ix_list (pv 0) pe_int fun _ _ => rfl) pe_int)) pe_int) pe_int) (pg_sub (pv 0) pe_int set_list))
      (pss_one (ps_ret (pe_op op_mod (pe_op op_fdiv (pe_ix ix_list (pv 0) pe_int fun _ _ => rfl) pe_int) (pv 1)))))))
      , ?_⟩
    refine ⟨fun σ' H' => ∃ (c e : Option V), σ' = [some (.ref b), some (.int z), c, e] ∧ Bag H' b ∧ Keep b H H', ?_, ?_⟩
    · obtain ⟨l, ns, i, r, x, n, nl, h1, h2, i0, x0, x1⟩ := id B
      have m53 : ∀ y : Int, 0 ≤ y % 2147483629 ∧ y % 2147483629 < 2147483629 := fun y => ⟨Int.emod_nonneg _ (by decide), Int.emod_lt_of_pos _ (by decide)⟩
      refine ⟨_, rfl, _, _, _, _, rfl, rfl, SqL.of h1, (show atI [V.ref l, .int i, .int r, .int x, .int n] 2 = some (.int r) from rfl), _, rfl, _, _, rfl, rfl, _, rfl, ?_⟩
      refine ite2 (fun _ => ?_) (fun _ => ?_)
      · refine ⟨_, rfl, _, _, _, _, rfl, rfl, SqL.of h1, (show atI [V.ref l, .int i, .int r, .int x, .int n] 1 = some (.int i) from rfl), _, rfl, _, _, _, _, rfl, rfl, SqL.of h1, (show atI [V.ref l, .int i, .int r, .int x, .int n] 0 = some (.ref l) from rfl), l, _, rfl, .inl (SqL.of h2), _, _, rfl, rfl, _, rfl, ?_⟩
        refine ite2 (fun hlt => ?_) (fun _ => ?_)
        · have hi : i < (ns.length : Int) := by
            have q := of_decide_eq_true hlt
            rw [List.length_map] at q
            exact q
          obtain ⟨j, rfl⟩ := Int.eq_ofNat_of_zero_le i0
          have hj : j < ns.length := Int.ofNat_lt.mp hi
          have at1 : atI (ns.map V.int) (j : Int) = some (V.int (ns[j]'hj)) := atI_nat (by rw [List.getElem?_map, List.getElem?_eq_getElem hj]; rfl)
          generalize ns[j]'hj = cell at at1
          refine ⟨_, rfl, _, _, _, _, rfl, rfl, SqL.of h1, (show atI [V.ref l, .int j, .int r, .int x, .int n] 0 = some (.ref l) from rfl), _, rfl, _, _, _, _, rfl, rfl, SqL.of h1, (show atI [V.ref l, .int j, .int r, .int x, .int n] 1 = some (.int j) from rfl), l, _, _, _, rfl, rfl, SqL.of h2, at1, ?_⟩
          -- bag[1] = bag[1] + 1
          refine ⟨_, rfl, _, _, _, _, rfl, rfl, SqL.of h1, (show atI [V.ref l, .int j, .int r, .int x, .int n] 1 = some (.int j) from rfl), _, _, rfl, rfl, _, rfl, b, _, 1, 1, rfl, rfl, h1, rfl, ?_⟩
          -- bag[2] = ..
          refine ⟨_, rfl, 10, 18, rfl, rfl, ⟨by decide, by decide, by decide⟩, _, _, rfl, rfl, _, rfl, ?_⟩
          refine ite2 (fun _ => ?_) (fun _ => ?_)
          · refine ⟨_, rfl, 10, 18, rfl, rfl, ⟨by decide, by decide, by decide⟩, _, _, rfl, rfl, _, rfl, b, _, 2, 2, rfl, rfl, upd_same, rfl, ?_⟩
            refine ⟨_, rfl, b, _, _, _, rfl, rfl, SqL.of upd_same, rfl, _, 69069, rfl, rfl, .inr ⟨by decide, by decide⟩, _, rfl, _, 5, rfl, rfl, .inr ⟨by decide, by decide⟩, _, _, rfl, rfl, _, rfl, b, _, _, _, rfl, rfl, SqL.of upd_same, rfl, _, _, rfl, rfl, _, 2147483629, rfl, rfl, (show (0 : Int) < 2147483629 by decide), _, rfl, b, _, 3, 3, rfl, rfl, upd_same, rfl, ?_⟩
            refine ⟨_, _, rfl, ⟨l, ns, _, _, _, _, nl, upd_same, ?_, ?_, (m53 _).1, (m53 _).2⟩, ?_⟩
            · rw [upd_ne nl, upd_ne nl, upd_ne nl]
              exact h2
            · omega
            · exact Keep.trans (Keep.trans (Keep.upd h1) (Keep.upd upd_same)) (Keep.upd upd_same)
          · refine ⟨_, rfl, b, _, 2, 2, rfl, rfl, upd_same, rfl, ?_⟩
            refine ⟨_, rfl, b, _, _, _, rfl, rfl, SqL.of upd_same, rfl, _, 69069, rfl, rfl, .inr ⟨by decide, by decide⟩, _, rfl, _, 5, rfl, rfl, .inr ⟨by decide, by decide⟩, _, _, rfl, rfl, _, rfl, b, _, _, _, rfl, rfl, SqL.of upd_same, rfl, _, _, rfl, rfl, _, 2147483629, rfl, rfl, (show (0 : Int) < 2147483629 by decide), _, rfl, b, _, 3, 3, rfl, rfl, upd_same, rfl, ?_⟩
            refine ⟨_, _, rfl, ⟨l, ns, _, _, _, _, nl, upd_same, ?_, ?_, (m53 _).1, (m53 _).2⟩, ?_⟩
            · rw [upd_ne nl, upd_ne nl, upd_ne nl]
              exact h2
            · omega
            · exact Keep.trans (Keep.trans (Keep.upd h1) (Keep.upd upd_same)) (Keep.upd upd_same)
        · exact ⟨none, none, rfl, B, Keep.refl b H⟩
      · exact ⟨none, none, rfl, B, Keep.refl b H⟩
    · rintro σ' H' ⟨c, e, rfl, B', kp⟩
      obtain ⟨l, ns, i, r, x, n, nl, h1, h2, i0, x0, x1⟩ := id B'
      refine ⟨_, rfl, _, _, _, _, rfl, rfl, SqL.of h1, (show atI [V.ref l, .int i, .int r, .int x, .int n] 2 = some (.int r) from rfl), _, rfl, _, _, rfl, rfl, _, rfl, ?_⟩
      have m53 : ∀ y : Int, 0 ≤ y % 2147483629 ∧ y % 2147483629 < 2147483629 := fun y => ⟨Int.emod_nonneg _ (by decide), Int.emod_lt_of_pos _ (by decide)⟩
      have mz : ∀ y : Int, 0 ≤ y % z ∧ y % z < z := fun y => ⟨Int.emod_nonneg _ (by omega), Int.emod_lt_of_pos _ (by omega)⟩
      refine ite2 (fun _ => ?_) (fun _ => ?_)
      · refine ⟨_, rfl, b, _, _, _, rfl, rfl, SqL.of h1, rfl, _, rfl, _, _, rfl, rfl, (show (0 : Int) < z by omega), ?_⟩
        refine ⟨_, rfl, b, _, _, _, rfl, rfl, SqL.of h1, rfl, _, rfl, _, _, rfl, rfl, ⟨(show (0 : Int) < z by omega), z2⟩, _, rfl, b, _, 2, 2, rfl, rfl, h1, rfl, ?_⟩
        refine ⟨_, rfl, ?_⟩
        exact k _ _ (mz _).1 (mz _).2 ⟨l, ns, _, _, _, _, nl, upd_same, by rw [upd_ne nl]; exact h2, i0, x0, x1⟩ (kp.trans (Keep.upd h1))
      · refine ⟨_, rfl, b, _, _, _, rfl, rfl, SqL.of h1, rfl, _, _, rfl, rfl, _, rfl, b, _, 4, 4, rfl, rfl, h1, rfl, ?_⟩
        refine ⟨_, rfl, b, _, _, _, rfl, rfl, SqL.of upd_same, rfl, _, 3, rfl, rfl, ⟨by decide, by decide, by omega⟩, _, rfl, b, _, _, _, rfl, rfl, SqL.of upd_same, rfl, 40507, _, rfl, rfl, .inl ⟨by decide, by decide⟩, _, _, rfl, rfl, _, rfl, b, _, _, _, rfl, rfl, SqL.of upd_same, rfl, _, 101, rfl, rfl, ⟨by decide, by decide⟩, _, _, rfl, rfl, _, _, rfl, rfl, _, 2147483629, rfl, rfl, (show (0 : Int) < 2147483629 by decide), _, rfl, b, _, 3, 3, rfl, rfl, upd_same, rfl, ?_⟩
        refine ⟨_, rfl, b, _, _, _, rfl, rfl, SqL.of upd_same, rfl, _, 19, rfl, rfl, ⟨by decide, by decide⟩, _, rfl, _, _, rfl, rfl, (show (0 : Int) < z by omega), ?_⟩
        exact k _ _ (mz _).1 (mz _).2 ⟨l, ns, _, _, _, _, nl, upd_same, by rw [upd_ne nl, upd_ne nl]; exact h2, i0, (m53 _).1, (m53 _).2⟩ (kp.trans (Keep.trans (Keep.upd h1) (Keep.upd upd_same)))
/-- an item of a list that is read, drawn by the bag -/
def spOf (K : PySem.W.Frag) : Sp := fun vs H Q _ => ∃ (b p : Addr) (xs : List V), vs = [.ref b, .ref p] ∧ Bag H b ∧ p ≠ b ∧ SqL K H p xs ∧ 1 ≤ xs.length ∧ xs.length < 1000 ∧
  ∀ (v : V) (H' : Hp), v ∈ xs → Bag H' b → Keep b H H' → Q v H'
theorem Keep.seq {b a : Addr} {H H' : Hp} {xs : List V} (k : Keep b H H') (n : a ≠ b) (h : SqL K H a xs) : SqL K H' a xs := by
  rcases h with (z | ⟨o, z⟩) | z
  · exact .inl (.inl (k.1 _ _ n z))
  · exact .inl (.inr ⟨o, k.1 _ _ n z⟩)
  · exact .inr z
/-- where a def stands -/
structure At (K : PySem.W.Frag) (mg : Str → Option Value) (x : Str) (st : Stmt) (ps : List Str) (f : Addr) (fd : FuncData) : Prop where
  fn : Fun K x x st f fd
  gl : mg x = some (.ref f)
  bd : Binds K fd ps []
theorem scOf : FnScope ["_law_bag_here", "_law_some"] ["_law_bag_here", "_law_some"] (defScope sOf) := ⟨rfl, rfl, rfl, by decide +kernel, rfl, by decide +kernel, by decide +kernel⟩
theorem ok_of {f fP : Addr} {fd fdP : FuncData} (F : Fun K "_law_of" "_law_of" sOf f fd) (len : mg "len" = none) (P1 : At K mg "_law_pull" sPull ["_law_bag_here", "_law_size"] fP fdP) : FnOk P w K mg base CX0 2 f fd ["_law_bag_here", "_law_some"] (spOf K) := by
  have G : FnOk P w K mg base CX0 1 fP fdP ["_law_bag_here", "_law_size"] spPull := ok_pull P1.fn len
  refine F.ok scOf (fun vs H Q E h => ?_) (fun cdv A outer s H vs Q E hr h => ?_)
  · obtain ⟨b, p, xs, rfl, _⟩ := h
    rfl
  · obtain ⟨b, p, xs, rfl, B, np, hx, l1, l2, k⟩ := h
    refine ⟨_, pss_one (ps_ret (pe_ix ix_list (pv 1) (pe_call G hr rfl P1.gl P1.fn.kp P1.bd .nil pass0 (pa_cons (pv 0) (pa_cons (pe_callB call_len_seq (by rfl) len PySem.boot_len (pa_cons (pv 1) pa_nil)) pa_nil))) fun _ _ => rfl)), ?_⟩
    refine ⟨_, rfl, _, rfl, _, rfl, p, xs, rfl, .inl hx, b, _, rfl, B, by omega, by omega, fun d H' d0 d1 B' kp => ?_⟩
    obtain ⟨j, rfl⟩ := Int.eq_ofNat_of_zero_le d0
    have hj : j < xs.length := Int.ofNat_lt.mp d1
    exact ⟨p, xs, _, _, rfl, rfl, kp.seq np hx, atI_nat (List.getElem?_eq_getElem hj), k _ H' (List.getElem_mem hj) B' kp⟩
def spBag (K : PySem.W.Frag) : Sp := fun vs H Q _ => ∃ (a : Addr) (ns : List Int), vs = [.ref a] ∧ SqL K H a (ns.map V.int) ∧ ns.length ≤ 63 ∧ ∀ (b : Addr) (H' : Hp), H b = none → Bag H' b → Same H H' → Q (.ref b) H'
theorem scBag : FnScope ["_law_script"] ["_law_script"] (defScope sBag) := ⟨rfl, rfl, rfl, by decide +kernel, rfl, by decide +kernel, by decide +kernel⟩
theorem ok_bag {f : Addr} {fd : FuncData} (F : Fun K "_law_bag" "_law_bag" sBag f fd) (lst : mg "list" = none) : FnOk P w K mg base CX0 1 f fd ["_law_script"] (spBag K) := by
  refine F.ok scBag (fun vs H Q E h => ?_) (fun cdv A outer s H vs Q E hr h => ?_)
  · obtain ⟨a, ns, rfl, _⟩ := h
    rfl
  · obtain ⟨a, ns, rfl, hx, hl, k⟩ := h
    refine ⟨_, pss_one (ps_ret (pe_lst (pa_cons (pe_callTy call_list_of (by rfl) lst (by decide +kernel) (pa_cons (pe_slice sl_list (pv 0) po_none (po_some pe_int)) pa_nil)) (pa_cons pe_int (pa_cons pe_int (pa_cons pe_int (pa_cons pe_int pa_nil))))))), ?_⟩
    refine ⟨_, rfl, _, rfl, a, _, rfl, hx, fun p hp => ?_⟩
    refine ⟨p, _, rfl, .inl (SqL.of upd_same), fun l hl' => ?_⟩
    refine ⟨by show 5 ≤ sizeLine; decide, fun b hb => ?_⟩
    have e : cutV (ns.map V.int) none (some 63) = ns.map V.int := by
      unfold cutV
      rw [HT.sIx_none]
      show ((ns.map V.int).drop 0).take (HT.sIx _ _ (some ((63 : Nat) : Int)) - 0) = _
      rw [HT.sIx_nat, List.drop_zero, Nat.sub_zero]
      exact List.take_of_length_le (by rw [List.length_map]; omega)
    have nl : l ≠ b := fun z => by
      rw [z, upd_same] at hb
      cases hb
    have s1 : Same H (upd H p (.lst (cutV (ns.map V.int) none (some 63)))) := same_new hp
    have s2 : Same H (upd (upd H p (.lst (cutV (ns.map V.int) none (some 63)))) l (.lst (cutV (ns.map V.int) none (some 63)))) := s1.trans (same_new hl')
    refine k b _ (s2.free hb) ⟨l, ns, 0, 0, 1, 0, nl, upd_same, ?_, by decide, by decide, by decide⟩ (s2.trans (same_new hb))
    rw [upd_ne nl, upd_same, e]
end
end VQ
namespace VQ
open PySem PySem.W L2 PyProof.Rows
open Builtin Builtin.Float Builtin.Int Builtin.Str
def binS (n : Nat) : PySem.Str := ⟨((Nat.toDigits 2 n).map Char.toNat).toArray⟩
theorem ret_text2 {M : Model} {A : Around} {E : Value → Shared → Prop} {s : Shared} {X T : PySem.Str} {Q : PySem.Fin → Shared → Prop} (e : X = T) (hL : T.length ≤ sizeLine) (h : ∀ t k, Q (.done (.ret (.str T t))) { s with toks := k }) : wpAny M A (retStr X) Q E s := by
  subst e
  exact wpAny_bind (wpAny_mkStr (by exact wpAny_pure (h _ _)) hL)
theorem ite_no2 {c : Prop} [Decidable c] {X Y : Prop} (hc : ¬ c) (h : Y) : if c then X else Y := by
  rw [if_neg hc]
  exact h
theorem wpAny_eqn {α : Type} {M : Model} {A : Around} {E : Value → Shared → Prop} {s : Shared} {Q : α → Shared → Prop} {t t' : Sem α} (e : t = t') (h : wpAny M A t' Q E s) : wpAny M A t Q E s := by
  rw [e]
  exact h
theorem parse_b : parseFormatSpec [98] "int" 62 = .ok ⟨32, 62, none, false, false, none, none, none, some 98⟩ := by kernel_rfl
theorem fmtb_run {prog : Program} {w : World} {A : Around} {R : PySem.Fin → Shared → Prop} {E : Value → Shared → Prop} {s : Shared} {a : Int} {t u : Tok} (h0 : 0 ≤ a) (h1 : a < 32)
    (h : ∀ t' k, R (.done (.ret (.str (binS a.toNat) t'))) { s with toks := k }) : wpAny (model prog w) A (Builtin.«int.__format__» ⟨[.int a t, .str (⟨#[98]⟩ : PySem.Str) u], []⟩) R E s := by
  simp only [Builtin.«int.__format__», selfAndOne, noKeywords, Int.intOfSelf, asInt?, asStr?, List.isEmpty_nil, if_true, pure_bind, bind_pure, bind_assoc, Bool.false_eq_true, if_false,
    show (Value.str (⟨#[98]⟩ : PySem.Str) u == Value.none) = false from rfl, show ((⟨#[98]⟩ : PySem.Str).length == 0) = false from rfl]
  refine wpAny_bind (wpAny_typeNameOf (T := "str") (typeIs_str _ _ _) (by decide) fun kind => ?_)
  rw [if_neg (by decide)]
  apply wpAny_bind
  apply wpAny_typeNameOfCut_int
  simp only [parse_b]
  rw [if_pos (by decide)]
  refine wpAny_eqn (t' := retStr (intField' ⟨32, 62, none, false, false, none, none, none, some 98⟩ (decide (a < 0)) [] ((Nat.toDigits 2 a.natAbs).map fun c => (if (98 : Nat) == 88 then c.toUpper else c).toNat) [] 4)) ?eq ?_
  case eq => kernel_rfl
  refine ret_text2 ?e ?l h
  case e =>
    obtain ⟨m, rfl⟩ := Int.eq_ofNat_of_zero_le h0
    have hm : m < 32 := by omega
    clear h h0 h1
    revert m
    decide +kernel
  case l =>
    obtain ⟨m, rfl⟩ := Int.eq_ofNat_of_zero_le h0
    have hm : m < 32 := by omega
    clear h h0 h1
    revert m
    decide +kernel
theorem fmtb_meets {a : Int} {t : Tok} (h0 : 0 ≤ a) (h1 : a < 32) : ∀ u, Meets (Builtin.«int.__format__» ⟨[.int a t, .str (⟨#[98]⟩ : PySem.Str) u], []⟩) (fun _ R s => ∀ t' k, R (.ok (.ret (.str (binS a.toNat) t'))) { s with toks := k }) :=
  fun u prog w A R s h => fmtb_run h0 h1 fun t' k => h t' k
def tFmtB (te : TE) : TE := fun σ H Q => te σ H fun x H1 => ∃ i : Int, x = .int i ∧ 0 ≤ i ∧ i < 32 ∧ Q (.str (binS i.toNat)) H1
theorem pe_fmtB {X : Cx} {e : Expr} {te : TE} {j : Nat} {p1 p2 pos : Pos} (he : PE X e te) : PE X (.FormattedValue e (-1) (some (.JoinedStr [.Constant (.str "b") j p1] p2)) pos) (tFmtB te) := by
  refine ⟨fun pins s σ H Q I h => ?_⟩
  refine wpAny_FormattedValue_spec (thn (he.run pins s σ H _ I h) fun v s1 ⟨x, H1, I1, r1, i, ex, h0, h1, q⟩ => ?_)
  subst ex
  obtain ⟨t, rfl⟩ := r1
  refine thn ((pe_joined1 (pe_str (X := X) (x := "b") (j := j) (pos := p1)) (pos := p2)).run pins s1 σ H1 (fun v H2 => v = .str "b" ∧ H2 = H1) I1 ⟨rfl, rfl⟩) fun r s2 ⟨y, H2, I2, r2, ey, eH⟩ => ?_
  subst ey
  obtain ⟨tk, rfl⟩ := r2
  rw [eH] at I2
  refine ⟨"b", tk, rfl, ?_⟩
  exact KXf.field_int (spec' := ⟨#[98]⟩) (by decide +kernel) (by decide) (by decide) (fmtb_meets h0 h1) fun t' k => ⟨.str (binS i.toNat), H1, I2.tok _, ⟨_, rfl⟩, q⟩
end VQ
namespace VQ
open PySem PyProof.Rows L2
/-! ### an error made without things: C() -/
/-- the end of C(): a is the new error, d its dict -/
def MadeEnd (H : Hp) (C a : Addr) (Q : XK) : VK := fun v H2 => v = .non ∧ ∃ (d : Addr) (fs : List (Str × V)), H2 a = some (exo a C (some d)) ∧ H2 d = some (exd d fs) ∧ H d = none ∧ Q (.ref C) (some d) (upd (del H2 a) d (.xd fs))
def tMkO0 (C : Addr) (sp : Sp) : L2.St → Hp → XK → Prop := fun _ H Q => ∀ a, H a = none → sp [.ref a] (upd H a (exo a C none)) (MadeEnd H C a Q) E00
  where E00 : XK := fun _ _ _ => False
theorem pmk_oex0 {X : Cx} {CX : CXT} {x : Str} {C g : Addr} {k : Nat} {fd : FuncData} {ps : List Str} {sp : Sp} {p pos : Pos} (cl : OexC X.K C) (ini : PySem.W.findIn X.K (.ref C) "__init__" = some (some (.ref g))) (ity : PySem.W.typeIn X.K (.ref g) = some (.type "function"))
    (ok : FnOk X.prog X.w X.K X.mg X.base CX k g fd ps sp) (room : Room (k + 1) X.A) (bnd : Binds X.K fd ps []) (out : Passes CX X (fun _ _ _ => False)) (isG : Gl X x) (atG : X.mg x = some (.ref C)) (nodb : (x == ("__debug__" : Str)) = false := by decide) :
    PMk X (.Call (.Name x p) [] [] pos) (tMkO0 C sp) := by
  intro pn st sl H Q inv want
  refine wpAny_Call_Name_kw (ld_glob inv isG atG (PySem.W.callWith_K0 inv.kIn cl.kC ?_) nodb)
  obtain ⟨_, _, _, _, mro, _, _, _, _, _, _, _, _, _, _, here, tail⟩ := cl.cls
  obtain ⟨h0, gn, dw, tk, osx⟩ := st
  -- the new error stands behind its empty tuple of things
  generalize eA : h0.objs.size + 1 = a
  have above : h0.objs.size ≤ a := by omega
  have promise := want a (inv.hok.fresh above)
  generalize eN : (h0.push (PySem.W.kdv_tup [])).push (PySem.HandSPX.excO C h0.objs.size) = h1
  have stays : ∀ b o, h0.get? b = some o → h1.get? b = some o := fun b o z => by
    rw [← eN]
    exact Heap.get?_push_of_some _ (Heap.get?_push_of_some _ z)
  have stands : h1.get? a = some (PySem.HandSPX.excO C h0.objs.size) := by
    rw [← eN, ← eA]
    heap_get
  have inv1 : Inv X pn sl (upd H a (exo a C none)) ⟨h1, gn, dw, tk, osx⟩ := inv.laid (t' := tk) stays above (exo_ok stands)
  have self1 : Vals [V.ref a] [Value.ref a] := .cons rfl .nil
  have cnt : ([Value.ref a] ++ ([] : List Value)).length = ps.length := (ok.len _ _ _ _ promise).symm ▸ rfl
  have binds1 := bnd ⟨h1, gn, dw, tk, osx⟩ [Value.ref a] inv1.kIn cnt
  have runs := ok.run _ X.stack ⟨h1, gn, dw, tk, osx⟩ _ ⟨[Value.ref a], []⟩ [Value.ref a] [V.ref a] _ _ (room.make C [] []) (inv1.env0.make C [] []) binds1 self1 promise
  subst eN eA
  refine wpAny_call (PySem.HandSPX.call_own F.excBase_ValueError (fun Y => PySem.HandSPX.refsVE_contains Y mro tail) (inv.kIn _ _ here) (PySem.W.looks_findIn inv.kIn ini) (fun self => PySem.W.bind_fn inv.kIn self ity) (Nat.zero_le _) (codeAny_mono runs ?_))
  rintro (er | (_ | _ | _ | u)) st2 z
  · exact out pn sl _ _ er st2 inv1 z
  · exact z.elim
  · exact z.elim
  · exact z.elim
  · obtain ⟨v, H2, z1, z2, z3, z4, z5, rfl, d, fs, y1, y2, y3, y4⟩ := z
    obtain ⟨_, _, _, _, _⟩ := st2
    exact ⟨z5, mk_end (raises_own cl.exC cl.tyC) inv above stays z3 z4 z1 z2 y1 y2 y3 y4⟩
/-! ### a try with several clauses, each «as n» -/
/-- what a clause names: one class, or a tuple of two or three -/
inductive Cte (X : Cx) : Expr → List Value → Prop
  | one {x : Str} {c : Value} {np : Pos} (h : Names X x c) : Cte X (.Name x np) [c]
  | two {x y : Str} {c e : Value} {p q r : Pos} {k : Nat} (h : Names X x c) (h' : Names X y e) : Cte X (.Tuple [.Name x p, .Name y q] k r) [c, e]
  | three {x y z : Str} {c e f : Value} {p q r t : Pos} {k : Nat} (h : Names X x c) (h' : Names X y e) (h'' : Names X z f) : Cte X (.Tuple [.Name x p, .Name y q, .Name z r] k t) [c, e, f]
section
variable {X : Cx} {a : Addr} {around : List (Addr × Obj)}
theorem names_read {pn : List (Addr × Obj)} {sl : L2.St} {H : Hp} {st : Shared} {x : Str} {c : Value} {np : Pos} {Q E : Value → Shared → Prop} (nm : Names X x c) (inv : Inv (X.suite a around) pn sl H st) (q : Q c st) :
    wpAny (model X.prog X.w) (X.A.mark (some (.ref a))) (eval (.Name x np) X.env) Q E st := by
  rcases nm with ⟨n1, n2, n3 | ⟨n3, n4, n5⟩⟩
  · exact ld_glob (X := X.suite a around) inv n1 n3 q n2
  · exact ld_blt (X := X.suite a around) inv n1 n3 n4 q n5 n2
theorem cte_run {pn : List (Addr × Obj)} {sl : L2.St} {H : Hp} {st : Shared} {te : Expr} {cs : List Value} {cls : Value} {oe : Obj} {b : Bool} {Q : Bool → Shared → Prop} {E1 E2 : Value → Shared → Prop} (ct : Cte X te cs) (inv : Inv (X.suite a around) pn sl H st)
    (at_ : st.heap.get? a = some oe) (hc : oe.cls = cls) (ans : PySem.W.exmAny X.K cls cs = some b) (q : ∀ h', (∀ b o, st.heap.get? b = some o → h'.get? b = some o) → Q b { st with heap := h' }) :
    wpAny (model X.prog X.w) (X.A.mark (some (.ref a))) (eval te X.env) (fun c s1 => wpAny (model X.prog X.w) (X.A.mark (some (.ref a))) (excMatches (.ref a) c) Q E1 s1) E2 st := by
  have ty : PySem.W.Looks (model X.prog X.w) st.heap (typeOf (.ref a)) cls := fun _ _ _ _ kp z => wpAny_typeOf_ref (kp _ _ at_) (hc ▸ z)
  have grown : ∀ (us : List Value) (b : Addr) (o : Obj), st.heap.get? b = some o → (st.heap.push { cls := .type "tuple", data := .seq us.toArray }).get? b = some o := fun us b o z => Heap.get?_push_of_some _ z
  have kin : ∀ us : List Value, X.K.In (st.heap.push { cls := .type "tuple", data := .seq us.toArray }) := fun us => (show X.K.In st.heap from inv.kIn).keeps (grown us)
  cases ct with
  | one n1 =>
    obtain ⟨b1, d1, x1, y1, z1⟩ := PySem.W.exmAny_cons ans
    cases (show some false = some d1 from y1)
    rw [Bool.or_false] at z1
    subst z1
    exact names_read n1 inv ((PySem.W.exm_one (M := model X.prog X.w) inv.kIn ty x1).here (q st.heap fun _ _ z => z))
  | @two x y c e p' q' r' k n1 n2 =>
    refine wpAny_Tuple_spliced ?_
    show wpAny _ _ (spliced [(false, eval (.Name x p') X.env), (false, eval (.Name y q') X.env)]) _ _ _
    refine Calls.spliced_cons (names_read n1 inv (Calls.spliced_cons (names_read n2 inv (Calls.spliced_nil ⟨by show 2 ≤ sizeLine; decide, ?_⟩))))
    exact (PySem.W.exm_tup2 (M := model X.prog X.w) (kin [c, e]) (ty.keeps (grown [c, e])) (Heap.get?_push_size _ rfl) ans).here (q _ (grown [c, e]))
  | @three x y z c e f p' q' r' t' k n1 n2 n3 =>
    refine wpAny_Tuple_spliced ?_
    show wpAny _ _ (spliced [(false, eval (.Name x p') X.env), (false, eval (.Name y q') X.env), (false, eval (.Name z r') X.env)]) _ _ _
    refine Calls.spliced_cons (names_read n1 inv (Calls.spliced_cons (names_read n2 inv (Calls.spliced_cons (names_read n3 inv (Calls.spliced_nil ⟨by show 3 ≤ sizeLine; decide, ?_⟩))))))
    exact (PySem.W.exm_tup3 (M := model X.prog X.w) (kin [c, e, f]) (ty.keeps (grown [c, e, f])) (Heap.get?_push_size _ rfl) ans).here (q _ (grown [c, e, f]))
end
theorem fly_keeps {B h h' : Heap} {l : List Env} {a : Addr} {Z : Obj → Prop} (f : HandSPX.FlyingZ B l a Z h) (k : ∀ b o, h.get? b = some o → h'.get? b = some o) : HandSPX.FlyingZ B l a Z h' := by
  rcases f with ⟨f1, f2, f3, oe, vs, T, oT, ts, e1, e2, e3, e4, e5, e6, e7, e8, e9⟩
  exact ⟨fun b o z => k b o (f1 b o z), f2, f3.of_keeps fun b o z _ => ⟨o, k b o z, rfl⟩, oe, vs, T, oT, ts, k _ _ e1, e2, e3, e4, e5, e6, k _ _ e7, e8, e9⟩
/-- the ends of a suite whose name (slot i) goes behind it -/
def offName (i : Nat) (D : Ends) : Ends := { nx := fun σ' H' => D.nx (σ'.set i none) H', rt := D.rt, bk := fun σ' H' => D.bk (σ'.set i none) H', ct := fun σ' H' => D.ct (σ'.set i none) H' }
abbrev Suite := Addr → Value → Option Addr → TS
/-- what the clauses wish of an error of the body -/
def wManyA (K : PySem.W.Frag) (i : Nat) (Wout : WX) (D : Ends) : List (List Value × Suite) → WX
  | [] => Wout
  | (cs, ts) :: r => fun cls d σ H => ∃ b, PySem.W.exmAny K cls cs = some b ∧ (b = true → ∀ a, H a = none → ts a cls d (offName i D) (σ.set i (some (.ref a))) H) ∧ (b = false → wManyA K i Wout D r cls d σ H)
/-- a suite walked, whatever error it has caught -/
def Suited (X : Cx) (body : List Stmt) (ts : Suite) : Prop := ∀ (a : Addr) (oe : Obj) (cls : Value) (d : Option Addr) (pn : List (Addr × Obj)), Zc cls d oe → (∃ vs, oe.data = .fields vs) → PSs (X.suite a ((a, oe) :: pn)) body (ts a cls d)
inductive HdsA (X : Cx) (n : Str) : List ExceptHandler → List (List Value × Suite) → Prop
  | nil : HdsA X n [] []
  | cons {te : Expr} {cs : List Value} {ts : Suite} {b₀ : Stmt} {more : List Stmt} {pos' : Pos} {hds : List ExceptHandler} {l : List (List Value × Suite)} (hc : Cte X te cs) (hsu : Suited X (b₀ :: more) ts) (r : HdsA X n hds l) :
      HdsA X n (.ExceptHandler (some te) (some n) (b₀ :: more) pos' :: hds) ((cs, ts) :: l)
section
variable {X : Cx} {n : Str} {i : Nat} {Wout : WX} {pins : List (Addr × Obj)} {D : Ends}
/-- one after the other, from where the error at a has landed -/
theorem hds_run (two : X.stack = X.env :: X.outer) (fr : X.env.frame = some X.env.locals) (nd : X.N.Nodup) (slot : X.N[i]? = some n) (loc : X.env.kindOf n = some .local) (tk : Takes X Wout) {a : Addr} {B : Heap} {sI s' : Shared} {σ' : L2.St} {H' : Hp} {cls : Value} {d : Option Addr}
    (inv : Inv X pins σ' H' sI) (ground : ∀ b o, sI.heap.get? b = some o → b ∉ frs X.stack → B.get? b = some o) (free : H' a = none) (notL : a ≠ X.env.locals) (notF : a ∉ X.fs) (sameOs : s'.os = sI.os) (bare : AllBare s'.gens)
    {hds : List ExceptHandler} {l : List (List Value × Suite)} (H : HdsA X n hds l) : wManyA X.K i Wout D l cls d σ' H' → ∀ h : Heap, HandSPX.FlyingZ B (X.env :: X.outer) a (Zc cls d) h → sI.heap.UpToSlots h →
    wpAny (model X.prog X.w) X.A (handleBy (.ref a) X.env hds) (SP X pins D) X.xe { s' with heap := h } := by
  induction H with
  | nil =>
    intro wish h fl up
    refine wpAny_handleBy_nil ?_
    have goOn : wpAny (model X.prog X.w) X.A (setFlight (.ref a) X.env.frame) (fun _ s4 => wpAny (model X.prog X.w) X.A (throw (.ref a) : Sem Flow) (SP X pins D) X.xe s4) X.xe { s' with heap := h } := by
      rw [fr]
      exact HandSPX.setFlight_upZ fl fun h4 held up4 => wpAny_throw (tk _ _ ⟨a, B, sI, pins, σ', H', cls, d, rfl, inv, ground, up.trans up4, .inr (.inr (two ▸ held)), free, sameOs, bare, wish⟩)
    obtain ⟨_, _, _, oe, vs, T, _, _, t1, _, t3, t4, _⟩ := id fl
    unfold PySem.passOn
    refine wpAny_bind (wpAny_field t1 t3 t4 ?_)
    have isRef : ¬ ((Value.ref T == Value.none) = true) := by simp
    rw [if_neg isRef]
    first
      | exact wpAny_bind goOn
      | exact wpAny_bind (wpAny_pure (by exact wpAny_bind goOn))
  | @cons te cs ts b₀ more pos' hds2 l2 named suited _ ih =>
    rintro ⟨b, ans, yes, no⟩ h fl up
    have onGround : ∀ {g : Heap}, HandSPX.FlyingZ B (X.env :: X.outer) a (Zc cls d) g → sI.heap.UpToSlots g → Inv X pins σ' H' { s' with heap := g } := fun f u => inv.landed ground f.1 u sameOs bare
    obtain ⟨oe, vs, t1, t2, t3⟩ := fl.there
    refine wpAny_handleBy_cons (codeAny_handlers_test (cte_run named ((onGround fl up).suite t1 t3 free notL notF) t1 t2.1 ans fun g kp => ?_)) (fun z => by cases z)
    have fl2 := fly_keeps fl kp
    have up2 := up.trans (Heap.UpToSlots.of_keeps kp)
    cases b with
    | false =>
      show wpAny _ X.A (handleBy _ X.env hds2) _ _ _
      exact ih (no rfl) g fl2 up2
    | true =>
      refine codeAny_handlers_suite_as (HandSPX.lands_againZ fl2 fun g4 fl4 up4 => ?_)
      obtain ⟨o4, _, u1, u2, u3⟩ := fl4.there
      have inv4 := (onGround fl4 (up2.trans up4)).suite u1 u3 free notL notF
      refine store_ok (X := X.suite a ((a, o4) :: (X.pn ++ pins))) (v := .ref a) inv4 nd slot (.inl loc) rfl (fun s5 inv5 => ?_) (.inr loc)
      refine wpAny_mono ((suited a o4 cls d (X.pn ++ pins) u2 ⟨_, u3⟩).run [] s5 _ H' (offName i D) inv5 (yes rfl a free)) ?_ (fun _ _ z => False.elim z)
      have nameGoes : ∀ {s6 : Shared} {σ6 : L2.St} {H6 : Hp} {Q : Shared → Prop}, Inv (X.suite a ((a, o4) :: (X.pn ++ pins))) [] σ6 H6 s6 → (∀ s7, Inv X pins (σ6.set i none) H6 s7 → Q s7) →
          wpAny (model X.prog X.w) X.A (do bindName X.env n .none; unbindBehindTheSuite X.env n pos') (fun _ s7 => Q s7) X.xe s6 := fun j z => gone_ok (j.unsuite inv.ok) nd slot loc z
      rintro (_ | _ | _ | v) s6 z
      · obtain ⟨_, _, j, z⟩ := z
        exact nameGoes j fun _ j7 => ⟨_, _, j7, z⟩
      · obtain ⟨_, _, j, z⟩ := z
        exact nameGoes j fun _ j7 => ⟨_, _, j7, z⟩
      · obtain ⟨_, _, j, z⟩ := z
        exact nameGoes j fun _ j7 => ⟨_, _, j7, z⟩
      · obtain ⟨_, _, _, j, r, z⟩ := z
        exact nameGoes j fun _ j7 => ⟨_, _, _, j7, r, z⟩
/-- try: body / except .. as n: ..  (several clauses) -/
theorem ps_try_manyA {body : List Stmt} {h₀ : ExceptHandler} {hds : List ExceptHandler} {l : List (List Value × Suite)} {pos : Pos} {tb : WX → TS} (two : X.stack = X.env :: X.outer) (fr : X.env.frame = some X.env.locals) (nd : X.N.Nodup) (slot : X.N[i]? = some n) (loc : X.env.kindOf n = some .local) (tk : Takes X Wout)
    (inside : ∀ (W : WX) (pn : List (Addr × Obj)) (xe : Value → Shared → Prop), Takes (X.tr pn xe) W → PassesOwn (model X.prog X.w) X.A X.env xe → PSs (X.tr pn xe) body (tb W))
    (clauses : HdsA X n (h₀ :: hds) l) : PS X (.Try body (h₀ :: hds) [] [] pos) (fun D σ H => tb (wManyA X.K i Wout D l) D σ H) := by
  refine ⟨fun pins st sl H D inv want => wpAny_Try_except (wpAny_mono ((inside (wManyA X.K i Wout D l) (X.pn ++ pins) _ (fun u s' air => ?_) PassesOwn.looking).run [] st sl H D (inv.toTry _) want) ?_ fun e s1 z => z)⟩
  · obtain ⟨a, B, sI, _, σ', H', cls, d, rfl, j0, ground, up, sky, free, sameOs, bare, wish⟩ := air
    have frames : X.A.frames = some (X.env :: X.outer) := two ▸ inv.ok.frames
    refine Sky.land Zc.steady frames fr (show Sky B (X.env :: X.outer) a (Zc cls d) X.env.locals s'.heap from two ▸ sky) fun h3 fl up3 => ?_
    obtain ⟨oe, vs, t1, _, t3⟩ := fl.there
    have noFrame : a ∉ frs (X.env :: X.outer) := fun m => by
      obtain ⟨_, o2, e2, nf⟩ := fl.2.2.1.mem m
      rw [t1] at e2
      cases e2
      exact nf _ t3
    refine hds_run two fr nd slot loc tk (j0.ofTry inv.ok) ground free (fun z => noFrame (List.mem_filterMap.mpr ⟨X.env, List.mem_cons_self, z ▸ fr⟩)) (fun m => ?_) sameOs bare clauses wish h3 fl (up.trans up3)
    obtain ⟨ev, m1, m2⟩ := List.mem_filterMap.mp m
    exact noFrame (List.mem_filterMap.mpr ⟨ev, List.mem_cons_of_mem _ m1, m2⟩)
  · rintro (_ | _ | _ | v) s1 z
    · obtain ⟨_, _, j, z⟩ := z
      exact wpAny_execs_nil ⟨_, _, j.ofTry inv.ok, z⟩
    · obtain ⟨_, _, j, z⟩ := z
      exact ⟨_, _, j.ofTry inv.ok, z⟩
    · obtain ⟨_, _, j, z⟩ := z
      exact ⟨_, _, j.ofTry inv.ok, z⟩
    · obtain ⟨_, _, _, j, r, z⟩ := z
      exact ⟨_, _, _, j.ofTry inv.ok, r, z⟩
end
end VQ
namespace VQ
open PySem PyProof.Rows L2 LamX
/-- kept by one part of the run, then by another one over more frames, all of which are new to the first -/
theorem un_comp {fs1 fs2 : List Addr} {H H1 H2 : Hp} {h h1 h2 : Heap} (u1 : Un fs1 [] H H1 h h1) (u2 : Un fs2 [] H1 H2 h1 h2) (sub : ∀ b ∈ fs2, b ∈ fs1 ∨ h.get? b = none) : Un fs1 [] H H2 h h2 where
  keep := fun b o e n hb hx => u2.keep b o (u1.keep b o e n hb hx) (u1.free b o e n hx) (fun m => (sub b m).elim hb fun z => nomatch z.symm.trans e) hx
  slot := fun b o e n hb hx => by
    obtain ⟨sl1, e1⟩ := u1.slot b o e n hb hx
    obtain ⟨sl2, e2⟩ := u2.any e1 (u1.free b o e n hx) hx
    exact ⟨sl2, e2⟩
  free := fun b o e n hx => let ⟨o', e1⟩ := u1.there b o e hx; u2.free b o' e1 (u1.free b o e n hx) hx
  there := fun b o e hx => let ⟨o', e1⟩ := u1.there b o e hx; u2.there b o' e1 hx
  tups := fun b xs e => u2.tups b xs (u1.tups b xs e)
  frzs := fun b o u e => u2.frzs b o u (u1.frzs b o u e)
  tbls := fun b ps e => by
    obtain ⟨m1, e1⟩ := u1.tbls b ps e
    obtain ⟨m2, e2⟩ := u2.tbls b _ e1
    rw [Array.append_assoc] at e2
    exact ⟨_, e2⟩
/-- a lambda's names: captured ones, globals, and names of its own that the maker does not have -/
structure LamS2 (X : Cx) (scope : Scope) : Prop where
  kind : scope.kind = .function
  co : scope.isCoroutine = false
  gen : scope.isGenerator = false
  noCell : ∀ y ∈ scope.names, y.2 ≠ .cell
  own : ∀ y ∈ scope.names, y.2 = .local → y.1 ∉ X.N
  free : ∀ y ∈ scope.names, y.2 = .free → X.env.scope.names.lookup y.1 = some .cell ∨ X.env.scope.names.lookup y.1 = some .free
def lamS2B (N : List Str) (sc scope : Scope) : Bool := decide (scope.kind = .function) && !scope.isCoroutine && !scope.isGenerator &&
  scope.names.all fun y => !decide (y.2 = .cell) && (!decide (y.2 = .local) || !N.contains y.1) && (!decide (y.2 = .free) || decide (sc.names.lookup y.1 = some .cell) || decide (sc.names.lookup y.1 = some .free))
theorem lamS2_by {X : Cx} {N : List Str} {sc scope : Scope} (h : lamS2B N sc scope = true) (eN : X.N = N) (es : X.env.scope = sc) : LamS2 X scope := by
  subst eN es
  simp only [lamS2B, Bool.and_eq_true, Bool.or_eq_true, Bool.not_eq_true', decide_eq_true_eq, decide_eq_false_iff_not, List.all_eq_true] at h
  obtain ⟨⟨⟨h1, h2⟩, h3⟩, h4⟩ := h
  refine ⟨h1, h2, h3, fun y m => (h4 y m).1.1, fun y m e z => ?_, fun y m e => ?_⟩
  · rcases (h4 y m).1.2 with q | q
    · exact q e
    · rw [List.contains_iff_mem.mpr z] at q
      cases q
  · rcases (h4 y m).2 with (q | q) | q
    · exact absurd e q
    · exact .inl q
    · exact .inr q
/-- the lambda of X's frame at the state st: its object at f, its code object at c -/
structure LamAt (X : Cx) (sl : L2.St) (H : Hp) (st : Shared) (body : Expr) (scope : Scope) (f c : Addr) : Prop where
  inv : ∃ pins, Inv X pins sl H st
  lam : LamS2 X scope
  new : H f = none
  nofr : f ∉ frs X.stack
  fn : ∃ (fd : FuncData) (binds : List (Str × Value)), st.heap.get? f = some { cls := .type "function", data := .func fd } ∧ fd.scope = scope ∧ fd.body = .expr body ∧ fd.code = .ref c ∧ fd.qualname = X.env.qual ++ "<lambda>" ∧ fd.globals = mainGlobals ∧ fd.builtins = builtinsNs ∧
    fd.closure = cloFrom X.env.cells scope.names [] ∧ (∀ y ∈ binds, scope.names.lookup y.1 = some .local) ∧ ∀ s1 : Shared, (∀ b o, st.heap.get? b = some o → H b = none → b ∉ frs X.stack → s1.heap.get? b = some o) → BindsTo s1 fd ⟨[], []⟩ binds
/-- its body as a reading, wherever it is entered -/
abbrev LamBody (X : Cx) (scope : Scope) (body : Expr) (k : Nat) (f c : Addr) (E : XK) (tb : TE) : Prop :=
  ∀ (A : Around) (outer : List Env) (s : Shared) (H : Hp), Room k (A.deeper (lamEnv X scope s.heap.objs.size f c)) → PE (lamCx X A outer s H E scope f c) body tb
section
variable {X : Cx} {sl : L2.St} {H : Hp} {st : Shared} {body : Expr} {scope : Scope} {f c : Addr} {k : Nat} {E : XK} {tb : TE}
/-- the closure's cells are the maker's -/
theorem clo_cell {y : Str} {d : Addr} (has : ∀ z ∈ scope.names, z.2 = .free → ∃ c, X.env.cells.lookup z.1 = some c) (e : (cloFrom X.env.cells scope.names []).lookup y = some d) : X.env.cells.lookup y = some d := by
  rcases cloFrom_mem (PySem.mem_of_lookup e) with m | ⟨m1, m2⟩
  · cases m
  · obtain ⟨c1, e1⟩ := has _ m1 rfl
    have e1 : X.env.cells.lookup y = some c1 := e1
    rw [m2, e1]
    rfl
theorem lam_enter {pins : List (Addr × Obj)} {A : Around} {outer : List Env} {s1 : Shared} {H1 : Hp} {h2 : Heap} {tk : Nat} {m : Str → Option Value} (inv : Inv X pins sl H st) (L : LamS2 X scope) (e0 : Env0 X.prog X.w X.K X.mg X.base A outer s1 H1) (cool : A.handled = none)
    (un : Un (frs X.stack) [] H H1 st.heap s1.heap) (ns : h2.Ns s1.heap.objs.size m) (grown : ∀ b o, s1.heap.get? b = some o → h2.get? b = some o) : Inv (lamCx X A outer s1 H1 E scope f c) [] sl H1 { s1 with heap := h2, toks := tk } := by
  have has : ∀ z ∈ scope.names, z.2 = .free → ∃ c, X.env.cells.lookup z.1 = some c := fun z m e => (L.free z m e).elim (fun q => inv.ok.has _ (.inl q)) (fun q => inv.ok.has _ (.inr q))
  have own : ∀ {y : Str}, scope.names.lookup y = some .free → ∃ d, (cloFrom X.env.cells scope.names []).lookup y = some d := fun {y} q => mem_lookup (cloFrom_has (cells := X.env.cells) (acc := []) (PySem.mem_of_lookup q))
  have cellOn : ∀ {d : Addr} {v : Option Value}, H d = none → st.heap.IsCell d v → h2.IsCell d v := fun {d v} z ⟨o, q1, q2⟩ => by
    obtain ⟨sl', q⟩ := un.any q1 z (by simp)
    exact ⟨_, grown _ _ q, q2⟩
  have noCell : ∀ {y : Str}, scope.names.lookup y ≠ some .cell := fun {y} q => L.noCell _ (PySem.mem_of_lookup q) rfl
  have none_ : ∀ b : Addr, b ∉ (lamCx X A outer s1 H1 E scope f c).ex := fun b z => by cases (show b ∈ ([] : List Addr) from z)
  exact {
    ok := {
      mod := e0.mod
      kind := L.kind
      glob := rfl
      blt := rfl
      above := Nat.le_refl _
      inj := fun y z d q1 q2 => inv.ok.inj y z d (clo_cell has q1) (clo_cell has q2)
      has := fun y q => q.elim (fun z => absurd (show scope.names.lookup y = some .cell from z) noCell) (fun z => own z)
      cab := fun y d z _ => by cases (show false = true from z)
      hd := fun _ => cool
      frames := Around.frames_deeper e0.frames
      stk := .inr ⟨rfl, rfl⟩
      exf := fun b z => absurd z (none_ b)
      bs := e0.bs
      bsz := e0.bsz
      noex := fun b _ _ => none_ b
      exfs := fun b z => absurd z (none_ b)
      funs := e0.funs
      frf := e0.frf }
    os := rfl
    bare := e0.bare
    base := Un.kept grown
    loc := ⟨m, ns, fun i y v q1 q2 q3 => by
      rcases (show Vis scope y from q3) with q | q | q
      · exact absurd (List.mem_of_getElem? q1) (L.own _ (PySem.mem_of_lookup q) rfl)
      · exact absurd q noCell
      · obtain ⟨m0, _, look⟩ := inv.loc
        have there := L.free _ (PySem.mem_of_lookup q) rfl
        obtain ⟨u, rel, at_⟩ := look i y v q1 q2 (.inr there)
        obtain ⟨d, hd⟩ := own q
        refine ⟨u, rel, .inr ⟨.inr q, d, hd, ?_⟩⟩
        have hd' := clo_cell has hd
        rcases at_ with ⟨z, _⟩ | ⟨_, d2, z1, z2⟩
        · have z : X.env.scope.names.lookup y = some .local := z
          rcases there with t | t <;> rw [t] at z <;> cases z
        · cases z1.symm.trans hd'
          exact cellOn (inv.freeC y _ hd') z2⟩
    cell := fun y d q => by
      obtain ⟨v, z⟩ := inv.cell y d (clo_cell has q)
      exact ⟨v, cellOn (inv.freeC y d (clo_cell has q)) z⟩
    free := e0.hok.fresh (Nat.le_refl _)
    freeC := fun y d q => by
      obtain ⟨v, o, z, _⟩ := inv.cell y d (clo_cell has q)
      exact un.free d o z (inv.freeC y d (clo_cell has q)) (by simp)
    pin := fun q m => by cases (show q ∈ ([] : List (Addr × Obj)) from m)
    hok := e0.hok.kept grown
    len := inv.len }
/-- called from the frames outer, at a state that has kept what st had -/
theorem lam_runs (L : LamAt X sl H st body scope f c) (bd : LamBody X scope body k f c E tb) {A : Around} {outer : List Env} {s1 : Shared} {H1 : Hp} {Q : VK} (room : Room (k + 1) A) (e0 : Env0 X.prog X.w X.K X.mg X.base A outer s1 H1)
    (un : Un (frs X.stack) [] H H1 st.heap s1.heap) (code : H1 c = some (CodeO c (X.env.qual ++ "<lambda>"))) (want : tb sl H1 Q) :
    codeAny (model X.prog X.w) A (.call (.ref f) ⟨[], []⟩) (CR (L2.CX X.prog X.w) outer X.prog X.w H1 s1 Q E) s1 := by
  obtain ⟨pins, inv⟩ := L.inv
  obtain ⟨⟨oc, vs, t, c1, c2, c3⟩, _⟩ := e0.hok c _ code
  obtain ⟨fd, binds, o1, o2, o3, o4, o5, o6, o7, o8, o9, o10⟩ := L.fn
  have stands := un.keep f _ o1 L.new L.nofr (by simp)
  have lim : s1.heap.NoLimit := e0.mod.nolimit.keeps fun b o z => (e0.bs b o z).1
  refine PySem.W.kla_callFunE room.depth stands rfl (by rw [o2]; exact L.lam.co) (by rw [o2]; exact L.lam.gen) o3 ⟨c, oc, vs, t, o4, c1, c2, by rw [o5]; exact c3⟩ (o10 s1 (fun b o z1 z2 z3 => un.keep b o z1 z2 z3 (by simp)) _ _ _ _ ?_)
  rw [o2, o4, o5, o6, o7, o8]
  refine wpAny_newFunctionEnv L.lam.noCell o9 (fun h2 ns but => ⟨lim.fresh _ but, ?_⟩) L.lam.kind
  have grown : ∀ b o, s1.heap.get? b = some o → h2.get? b = some o := fun b o z => but.extBut b o (Nat.ne_of_lt (Heap.lt_size z)) (Heap.get?_push_of_some _ z)
  have entered := lam_enter (E := E) (f := f) (c := c) (tk := s1.toks + binds.length) inv L.lam e0 room.hd un ns grown
  refine PySem.W.kla_codeExpr (wpAny_mono ((bd A outer s1 H1 (room.deeper _)).run [] _ _ H1 Q entered want) ?_ fun _ _ z => z)
  rintro v s2 ⟨v', H2, j, rel, q⟩
  exact ⟨v', H2, j.os, j.bare, j.base, j.hok, rel, q⟩
/-- y(), y in the i-th slot of a def that was handed the lambda, entered at s2 from the frames outer2 -/
theorem pe_actG {CXg : CXT} {Eg : XK} {N : List Str} {q : Str} {sg : Scope} {g : Addr} {cd : Value} {i : Nat} {y : Str} {pn : List (Addr × Obj)} {xe : Value → Shared → Prop} {W : WX} {p1 p2 : Pos} {A2 : Around} {outer2 : List Env} {s2 : Shared} {H2 : Hp}
    (L : LamAt X sl H st body scope f c) (bd : LamBody X scope body k f c E tb) (un2 : Un (frs X.stack) [] H H2 st.heap s2.heap) (sub : ∀ b ∈ frs outer2, b ∈ frs X.stack ∨ st.heap.get? b = none)
    (tk : Takes ((cxOf CXg X.prog X.w X.K X.mg X.base N q sg g cd A2 outer2 s2 H2 Eg).tr pn xe) W) (hW : ∀ cls d σ' H', σ'.length = N.length → E cls d H' → W cls d σ' H') (room : Room (k + 1) (A2.deeper (envOfC q sg s2.heap.objs.size g cd)))
    (slot : N[i]? = some y) (vis : Vis sg y) (n1 : (y == ("__debug__" : Str)) = false := by decide) (n2 : (y == ("__classdict__" : Str)) = false := by decide) :
    PE ((cxOf CXg X.prog X.w X.K X.mg X.base N q sg g cd A2 outer2 s2 H2 Eg).tr pn xe) (.Call (.Name y p1) [] [] p2)
      (fun σ' H' Q => σ'[i]? = some (some (.ref f)) ∧ H' c = some (CodeO c (X.env.qual ++ "<lambda>")) ∧ tb sl H' Q) := by
  refine ⟨fun pz sz σz Hz Q jz ⟨w1, w2, w3⟩ => ?_⟩
  refine wpAny_Call_Name_kw (thn ((pe_var (pos := p1) (i := i) slot vis n1 n2).run pz sz σz Hz (fun v H1 => v = .ref f ∧ H1 = Hz) jz ⟨_, w1, rfl, rfl⟩) ?_)
  rintro u s1 ⟨_, _, j, rel, rfl, rfl⟩
  cases (show u = Value.ref f from rel)
  have un := un_comp un2 (show Un (frs outer2) [] H2 _ s2.heap s1.heap from j.base) sub
  obtain ⟨fd, _, o1, _⟩ := L.fn
  refine PySem.W.callWith_F0 ⟨_, _, _, _, un.keep f _ o1 L.new L.nofr (by simp)⟩ ?_
  refine wpAny_call (codeAny_mono (lam_runs (Q := Q) L bd room j.env0 un w2 w3) ?_)
  rintro (er | (_ | _ | _ | u)) s3 z
  · exact tk er s3 (XE.of_call j (fun cls d H' y => hW cls d σz H' j.len y) z)
  · exact z.elim
  · exact z.elim
  · exact z.elim
  · exact j.after z
end
/-- a def that calls what it got, from wherever it is called -/
def Gives2 (P : Program) (w : World) (K : PySem.W.Frag) (mg : Str → Option Value) (base : Heap) (N : List Str) (x : Str) (sg : Scope) (g : Addr) (cd : Value) (bg : List Stmt) (y : Str) (q : Str) (TT : (XK → Hp → VK → Prop) → Hp → VK → Prop) : Prop :=
  ∀ (A2 : Around) (outer2 : List Env) (f c : Addr) (s : Shared) (H : Hp) (Q : VK) (tl : XK → Hp → VK → Prop),
    (∀ (W : WX) (pn : List (Addr × Obj)) (xe : Value → Shared → Prop) (E : XK) (p1 p2 : Pos), Takes ((cxOf C8.CX0 P w K mg base N x sg g cd A2 outer2 s H C8.E0).tr pn xe) W → (∀ cls d σ' H', σ'.length = N.length → E cls d H' → W cls d σ' H') →
      PE ((cxOf C8.CX0 P w K mg base N x sg g cd A2 outer2 s H C8.E0).tr pn xe) (.Call (.Name y p1) [] [] p2) (fun σ' H' Q => σ'[0]? = some (some (.ref f)) ∧ H' c = some (CodeO c q) ∧ tl E H' Q)) →
    H c = some (CodeO c q) → TT tl H Q → ∃ t, PSs (cxOf C8.CX0 P w K mg base N x sg g cd A2 outer2 s H C8.E0).nox bg t ∧ t { nx := fun _ H' => Q .non H', rt := Q } (L2.start N [.ref f]) H
/-- err.f in a suite, whatever the error's class is -/
def tXfA (K : PySem.W.Frag) (a : Addr) (cls : Value) (d : Option Addr) (f : Str) (te : TE) : TE := fun σ H Q => ∃ C, XfC K C ∧ PySem.W.findIn K (.ref C) f = some none ∧ tXf a cls d C f te σ H Q
theorem pe_xfA {X : Cx} {a : Addr} {oe : Obj} {cls : Value} {d : Option Addr} {pn : List (Addr × Obj)} {e : Expr} {te : TE} {pos : Pos} {n : Str} (z : Zc cls d oe) (rec_ : ∃ vs, oe.data = .fields vs) (he : PE (X.suite a ((a, oe) :: pn)) e te)
    (plain : attributeBase e n X.env (eval e X.env) = eval e X.env := by rfl) : PE (X.suite a ((a, oe) :: pn)) (.Attribute e n pos) (tXfA X.K a cls d n te) :=
  ⟨fun pins s σ H Q I ⟨_, xc, no, h⟩ => (pe_xf xc no z rec_ he plain).run pins s σ H Q I h⟩
/-! ### x1(lambda: body), x1: return x2(a1)[0]; x2 calls what it got -/
/-- a def as it stands: its parameter, names by slot, body -/
structure One (K : PySem.W.Frag) (mg : Str → Option Value) (x : Str) (g : Addr) (cd : Value) (N : List Str) (y : Str) (sg : Scope) (bg : List Stmt) : Prop where
  at_ : mg x = some (.ref g)
  kp : PySem.W.keepIn K (.ref g) = true
  ex : ∃ (oc : Value) (od : Option Addr) (pa : Arguments) (dV kV doc pm : Value) (an : Option Addr) (ct : Value) (osl : Array (Option Value)),
    K.lookup g = some ⟨oc, od, .func (PySem.W.fnOf x x pa bg sg dV kV doc pm an cd ct), osl⟩ ∧ L2.Binds K (PySem.W.fnOf x x pa bg sg dV kV doc pm an cd ct) [y] []
  code : PySem.W.codeIn K cd x = true
  sc : FnScope N [y] sg
  slot : N[0]? = some y
  vis : Vis sg y
  n1 : (x == ("__debug__" : Str)) = false
  n2 : (y == ("__debug__" : Str)) = false
  n3 : (y == ("__classdict__" : Str)) = false
theorem start_slot {N : List Str} {y : Str} {v : V} (h : N[0]? = some y) : (L2.start N [v])[0]? = some (some v) := by
  match N, h with
  | _ :: _, _ => rfl
section
variable {X : Cx} {x1 x2 y1 y2 : Str} {g1 g2 : Addr} {cd1 cd2 : Value} {N1 N2 : List Str} {sg1 sg2 : Scope} {bg2 : List Stmt} {j0 : Nat} {q1 q2 q3 q4 q5 q6 : Pos} {TT : (XK → Hp → VK → Prop) → Hp → VK → Prop}
abbrev handsOn (x2 y1 : Str) (j0 : Nat) (q1 q2 q3 q4 q5 q6 : Pos) : List Stmt := [.Return (some (.Subscript (.Call (.Name x2 q1) [.Name y1 q2] [] q3) (.Constant (.int 0) j0 q4) q5)) q6]
/-- in x1's frame, entered at s1 from X: x2(y1) -/
theorem pe_hand (D1 : One X.K X.mg x1 g1 cd1 N1 y1 sg1 (handsOn x2 y1 j0 q1 q2 q3 q4 q5 q6)) (D2 : One X.K X.mg x2 g2 cd2 N2 y2 sg2 bg2) (isG : sg1.names.lookup x2 = some .globalImplicit) (gives : Gives2 X.prog X.w X.K X.mg X.base N2 x2 sg2 g2 cd2 bg2 y2 (X.env.qual ++ "<lambda>") TT)
    {sl : L2.St} {H : Hp} {s1 : Shared} {body : Expr} {scope : Scope} {f c : Addr} {k : Nat} {t : XK → TE} (L : LamAt X sl H s1 body scope f c) (bd : ∀ E, LamBody X scope body k f c E (t E)) (room : Room (k + 2) (X.A.deeper (envOfC x1 sg1 s1.heap.objs.size g1 cd1))) :
    PE (cxOf C8.CX0 X.prog X.w X.K X.mg X.base N1 x1 sg1 g1 cd1 X.A X.stack s1 H C8.E0) (.Call (.Name x2 q1) [.Name y1 q2] [] q3)
      (fun σ' H' Q => σ'[0]? = some (some (.ref f)) ∧ H' c = some (CodeO c (X.env.qual ++ "<lambda>")) ∧ TT (fun E H2 Q2 => t E sl H2 Q2) H' Q) := by
  refine ⟨fun pz sz σz Hz Q jz ⟨w1, w2, w3⟩ => ?_⟩
  refine wpAny_Call_Name_kw (ld_glob jz (show (envOfC x1 sg1 s1.heap.objs.size g1 cd1).kindOf x2 = some .globalImplicit from isG) D2.at_ ?_ D2.n1)
  have arg : PA (cxOf C8.CX0 X.prog X.w X.K X.mg X.base N1 x1 sg1 g1 cd1 X.A X.stack s1 H C8.E0) [.Name y1 q2] (tCons (tVar 0) tNil) := pa_cons (pe_var (i := 0) D1.slot D1.vis D1.n2 D1.n3) pa_nil
  refine PySem.W.callWith_K (h₀ := X.base) jz.ok.mod.kin D2.kp (thn (arg.run q3 pz sz σz Hz (fun vs H2 => vs = [.ref f] ∧ H2 = Hz) jz ⟨_, w1, rfl, rfl⟩) ?_) (by rfl) (by rfl)
  rintro us s2 ⟨_, _, j, rel, rfl, rfl⟩
  obtain ⟨oc, od, pa, dV, kV, doc, pm2, an, ct, osl, lk, bnd⟩ := D2.ex
  match us, rel with
  | [_], .cons r .nil =>
    cases r
    refine ⟨j.kIn, ?_⟩
    have sub : ∀ b ∈ frs (envOfC x1 sg1 s1.heap.objs.size g1 cd1 :: X.stack), b ∈ frs X.stack ∨ s1.heap.get? b = none := fun b m => by
      obtain ⟨ev, m1, m2⟩ := List.mem_filterMap.mp m
      rcases List.mem_cons.mp m1 with rfl | m1
      · cases m2
        refine .inr (Option.eq_none_iff_forall_ne_some.mpr fun o z => ?_)
        exact Nat.lt_irrefl _ (Heap.lt_size z)
      · exact .inl (List.mem_filterMap.mpr ⟨ev, m1, m2⟩)
    have inner : codeAny (model X.prog X.w) (X.A.deeper (envOfC x1 sg1 s1.heap.objs.size g1 cd1)) (.call (.ref g2) ⟨[.ref f], []⟩) (CR C8.CX0 (envOfC x1 sg1 s1.heap.objs.size g1 cd1 :: X.stack) X.prog X.w _ s2 Q C8.E0) s2 :=
      run_ofS (N := N2) (ps := [y2]) (us := [.ref f]) (vs := [.ref f]) lk D2.code D2.sc room j.env0 (bnd s2 [.ref f] j.kIn rfl) (.cons rfl .nil) rfl fun room2 => by
        obtain ⟨tt, d1, d2⟩ := gives (X.A.deeper (envOfC x1 sg1 s1.heap.objs.size g1 cd1)) (envOfC x1 sg1 s1.heap.objs.size g1 cd1 :: X.stack) f c s2 _ Q (fun E H2 Q2 => t E sl H2 Q2)
          (fun W pn xe E p1 p2 tk hW => pe_actG (i := 0) L (bd E) (show Un (frs X.stack) [] H _ s1.heap s2.heap from j.base) sub tk hW room2 D2.slot D2.vis D2.n2 D2.n3) w2 w3
        exact ⟨tt, d1.nox, d2⟩
    refine wpAny_call (codeAny_mono inner ?_)
    rintro (er | (_ | _ | _ | u)) s3 z
    · exact (show False from z).elim
    · exact z.elim
    · exact z.elim
    · exact z.elim
    · exact j.after z
/-- the lambda is made, with whatever defaults -/
def LamMk (X : Cx) (T : List (Addr × Str)) (params : Arguments) (body : Expr) (scope : Scope) (lpos : Pos) : Prop :=
  ∀ {pins : List (Addr × Obj)} {sl : L2.St} {H : Hp} {st : Shared} {Q : Value → Shared → Prop} {E : Value → Shared → Prop}, Inv X pins sl H st → Tabs T H →
    (∀ (f c : Addr) (H1 : Hp) (s1 : Shared), Inv X pins sl H1 s1 → LamAt X sl H1 s1 body scope f c → ExtN H H1 → Tabs T H1 → H1 c = some (CodeO c (X.env.qual ++ "<lambda>")) → Q (.ref f) s1) →
    wpAny (model X.prog X.w) X.A (eval (.Lambda params body scope lpos) X.env) Q E st
theorem pe_word {T : List (Addr × Str)} {k : Nat} {params : Arguments} {body : Expr} {scope : Scope} {t : XK → TE} {p lpos pos : Pos} (isG : Gl X x1) (D1 : One X.K X.mg x1 g1 cd1 N1 y1 sg1 (handsOn x2 y1 j0 q1 q2 q3 q4 q5 q6)) (isG2 : sg1.names.lookup x2 = some .globalImplicit)
    (D2 : One X.K X.mg x2 g2 cd2 N2 y2 sg2 bg2) (gives : Gives2 X.prog X.w X.K X.mg X.base N2 x2 sg2 g2 cd2 bg2 y2 (X.env.qual ++ "<lambda>") TT) (mk : LamMk X T params body scope lpos) (room : Room (k + 3) X.A) (bd : ∀ f c' E, LamBody X scope body k f c' E (t E)) :
    PE X (.Call (.Name x1 p) [.Lambda params body scope lpos] [] pos) (tLam T (fun tl H Q => TT tl H fun v H1 => rIxT X.K v (.int 0) H1 Q) t) := by
  refine ⟨fun pins st sl H Q inv ⟨tabs, want⟩ => ?_⟩
  refine wpAny_Call_Name_kw (ld_glob inv isG D1.at_ (PySem.W.callWith_K (h₀ := X.base) inv.ok.mod.kin D1.kp ?_ (by rfl) (by rfl)) D1.n1)
  refine Calls.spliced_cons (rest := backTo pos (starEach [] X.env)) (mk inv tabs fun f c' H1 s1 inv1 LA ext tabs1 co => ?_)
  refine Calls.spliced_nil ⟨inv1.kIn, ?_⟩
  obtain ⟨oc, od, pa, dV, kV, doc, pm1, an, ct, osl, lk, bnd⟩ := D1.ex
  have outerRun : codeAny (model X.prog X.w) X.A (.call (.ref g1) ⟨[.ref f], []⟩) (CR C8.CX0 X.stack X.prog X.w H1 s1 Q C8.E0) s1 :=
    run_ofS (N := N1) (ps := [y1]) (us := [.ref f]) (vs := [.ref f]) lk D1.code D1.sc room inv1.env0 (bnd s1 [.ref f] inv1.kIn rfl) (.cons rfl .nil) rfl fun room1 =>
      ⟨_, pss_one (ps_ret (pe_ix ix_tup (pe_hand D1 D2 isG2 gives LA (bd f c') room1) pe_int fun _ _ => rfl)), start_slot D1.slot, co, want H1 ext tabs1⟩
  refine wpAny_call (codeAny_mono outerRun ?_)
  rintro (er | (_ | _ | _ | u)) s3 z
  · exact (show False from z).elim
  · exact z.elim
  · exact z.elim
  · exact z.elim
  · exact inv1.after z
end
section
variable {X : Cx} {T : List (Addr × Str)} {c P : Addr} {params : Arguments} {body : Expr} {scope : Scope} {lpos : Pos}
/-- without defaults -/
theorem mk_plain (TB : TabB X.base X.mg c P) (code : X.env.code = .ref c) (mem : (P, X.env.qual ++ "<lambda>") ∈ T) (only : ∀ p ∈ T, p.1 = P → p.2 = X.env.qual ++ "<lambda>") (L : LamS2 X scope) (nodef : defaultsOf params X.env = ([], []))
    (noargs : ∀ (q : Str) (cl : List (Str × Addr)) (pm cv ctv : Value), bindArgs (PySem.W.kla_fn "<lambda>" q params body scope cl pm cv ctv) ⟨[], []⟩ = pure []) : LamMk X T params body scope lpos := by
  intro pins sl H st Q E inv tabs k
  have has : ∀ z ∈ scope.names, z.2 = .free → ∃ c, X.env.cells.lookup z.1 = some c := fun z m e => (L.free z m e).elim (fun q => inv.ok.has _ (.inl q)) (fun q => inv.ok.has _ (.inr q))
  refine lam_make2 inv TB code mem only tabs nodef has fun f c' pm ctv H1 s1 inv1 ext tabs1 obj new nofr co => ?_
  exact k f c' H1 s1 inv1 ⟨⟨pins, inv1⟩, L, new, nofr, _, [], obj, rfl, rfl, rfl, rfl, rfl, rfl, rfl, (fun y m => by cases m), (fun s2 _ => BindsTo.of_eq (noargs _ _ _ _ _))⟩ ext tabs1 co
end
end VQ
namespace VQ
open PySem PyProof.Rows L2 LamX
/-! ### a lambda with a default -/
theorem ct_step {M : Model} {A : Around} {E : Value → Shared → Prop} {s : Shared} {b : Bool} {items : List Value} {jp : Value → Sem Value} {Q : Value → Shared → Prop} (k : ∀ (ct : Value) (h1 : Heap), (∀ b o, s.heap.get? b = some o → h1.get? b = some o) → s.heap.objs.size ≤ h1.objs.size → wpAny M A (jp ct) Q E { s with heap := h1 }) :
    wpAny M A (if b = true then (do let ct ← pure Value.none; jp ct) else (do let ct ← newTextTuple items; jp ct)) Q E s := by
  cases b with
  | true => exact wpAny_bind (wpAny_pure (k .none s.heap (fun _ _ z => z) (Nat.le_refl _)))
  | false => exact wpAny_bind (wpAny_newTextTuple (k _ _ (fun _ _ z => Heap.get?_push_of_some _ z) (by rw [Heap.size_push]; omega)))
abbrev fnDfl (q : Str) (params : Arguments) (body : Expr) (scope : Scope) (cl : List (Str × Addr)) (pm : Value) (c : Addr) (ctv dV : Value) : FuncData := { PySem.W.kla_fn "<lambda>" q params body scope cl pm (.ref c) ctv with defaults := dV }
section
variable {X : Cx} {T : List (Addr × Str)} {c P : Addr} {params : Arguments} {body : Expr} {scope : Scope} {lpos : Pos}
theorem tail_run {pins : List (Addr × Obj)} {sl : L2.St} {H : Hp} {st : Shared} {Q : Value → Shared → Prop} {E : Value → Shared → Prop} {dV : Value} (inv : Inv X pins sl H st) (TB : TabB X.base X.mg c P) (code : X.env.code = .ref c) (mem : (P, X.env.qual ++ "<lambda>") ∈ T) (only : ∀ p ∈ T, p.1 = P → p.2 = X.env.qual ++ "<lambda>") (tabs : Tabs T H)
    (has : ∀ z ∈ scope.names, z.2 = .free → ∃ c, X.env.cells.lookup z.1 = some c)
    (k : ∀ (f c' : Addr) (pm ctv : Value) (H1 : Hp) (s1 : Shared), Inv X pins sl H1 s1 → ExtN H H1 → Tabs T H1 → (∀ b o, st.heap.get? b = some o → H b = none → s1.heap.get? b = some o ∧ H1 b = none) →
      s1.heap.get? f = some { cls := .type "function", data := .func (fnDfl (X.env.qual ++ "<lambda>") params body scope (cloFrom X.env.cells scope.names []) pm c' ctv dV) } → H1 f = none → f ∉ frs X.stack → H1 c' = some (CodeO c' (X.env.qual ++ "<lambda>")) → Q (.ref f) s1) :
    wpAny (model X.prog X.w) X.A (makeTail "<lambda>" (X.env.qual ++ "<lambda>") params (.expr body) scope X.env dV .none none lpos lpos.line) Q E st := by
  obtain ⟨ps, atP, trip, known⟩ := tabs _ mem
  have rawP : st.heap.get? P = some { cls := .none, data := .fields ps } := inv.hok P _ atP
  obtain ⟨bm, ob, b1, b2, b3, b4, b5, b6, b7, b8⟩ := TB.bm.keeps inv.bk
  have noFrame : ∀ f, st.heap.objs.size ≤ f → f ∉ frs X.stack := fun f above z => by
    rcases List.mem_cons.mp (inv.stkSub _ z) with e | e
    · exact absurd inv.lt (by rw [← e]; exact Nat.not_lt.mpr above)
    · exact inv.nofs above e
  have nsG : st.heap.Ns mainGlobals X.mg := inv.mod.glob.keeps inv.bk
  unfold makeTail
  rw [closure_ok has, inv.ok.glob]
  refine wpAny_bind (wpAny_pure (ct_step fun ct h1 grown sz1 => ?_))
  have hd1 := (TB.code.keeps inv.bk).keeps grown
  have rawP1 := grown _ _ rawP
  cases found : codeAmong lpos ps.toList with
  | none =>
    refine wpAny_bind (wpAny_functionCodeX code (hd1.code rawP1 trip) (hd1.tab rawP1) found fun c' h2 tk but above below _ rec_ tab2 _ => ?_)
    have nsG2 := (nsG.keeps grown).extBut but TB.gP
    refine wpAny_bind (wpAny_builtinsFor nsG2 b1 b2 (but _ _ b4 (grown _ _ b5)) b6 b7 b8 (wpAny_bind (wpAny_nsGet nsG2 (wpAny_bind (wpAny_pure (wpAny_newObj_type ?_ (by size_fits)))))))
    obtain ⟨c2, oc, vs, t, ec, r1, r2, r3⟩ := rec_
    cases ec
    have newC : H c' = none := inv.hok.fresh (Nat.le_trans sz1 above)
    have szf : st.heap.objs.size ≤ h2.objs.size := Nat.le_trans (Nat.le_trans sz1 above) (Nat.le_of_lt below)
    have old : ∀ b o, b ≠ P → st.heap.get? b = some o → h2.get? b = some o := fun b o n z => but b o n (grown b o z)
    have inv2 := inv_table (t' := tk) (more := #[rawInt lpos.line, rawInt lpos.col, .ref c']) (h' := h2.push { cls := .type "function", data := .func (fnDfl (X.env.qual ++ "<lambda>") params body scope (cloFrom X.env.cells scope.names []) ((X.mg "__name__").getD .none) c' ct dV) }) inv atP
      (fun b o n z => Heap.get?_push_of_some _ (old b o n z)) (Heap.get?_push_of_some _ tab2.2) (Nat.le_trans sz1 above) ⟨oc, vs, t, Heap.get?_push_of_some _ r1, r2, r3⟩
    have nP : ∀ b, H b = none → b ≠ P := fun b z e => by
      rw [e, atP] at z
      cases z
    have ext : ExtN H (upd (upd H P (.tbl (ps ++ #[rawInt lpos.line, rawInt lpos.col, .ref c']))) c' (CodeO c' (X.env.qual ++ "<lambda>"))) := fun b o z n => by
      have bP : b ≠ P := fun e => by
        rw [e] at z
        exact n ps (Option.some.inj (z.symm.trans atP))
      rw [upd_ne (ne_of_none z newC), upd_ne bP]
      exact z
    have glue : (ps ++ #[rawInt lpos.line, rawInt lpos.col, Value.ref c']).toList = ps.toList ++ [rawInt lpos.line, rawInt lpos.col, .ref c'] := by simp
    refine k h2.objs.size c' _ ct _ _ inv2 ext (fun p m => ?_) (fun b o z n => ⟨Heap.get?_push_of_some _ (old b o (nP b n) z), ?_⟩) (Heap.get?_push_size _ rfl) ?_ (noFrame _ szf) upd_same
    · by_cases e : p.1 = P
      · rw [only p m e, e]
        refine ⟨_, by rw [upd_ne (ne_of_none atP newC), upd_same], by rw [glue]; exact PySem.TriplesOk_snoc _ _ _ _ trip, fun p' cv hit => ?_⟩
        rw [glue] at hit
        rcases among_app _ trip hit with z | z
        · obtain ⟨c0, z1, z2⟩ := known p' cv z
          exact ⟨c0, z1, ext _ _ z2 codeO_ne⟩
        · exact ⟨c', z, upd_same⟩
      · obtain ⟨ps', a1, a2, a3⟩ := tabs p m
        refine ⟨ps', by rw [upd_ne (ne_of_none a1 newC), upd_ne e]; exact a1, a2, fun p' cv hit => ?_⟩
        obtain ⟨c0, z1, z2⟩ := a3 p' cv hit
        exact ⟨c0, z1, ext _ _ z2 codeO_ne⟩
    · have nc : b ≠ c' := Nat.ne_of_lt (Nat.lt_of_lt_of_le (Heap.lt_size z) (Nat.le_trans sz1 above))
      rw [upd_ne nc, upd_ne (nP b n)]
      exact n
    · rw [upd_ne (Nat.ne_of_gt below), upd_ne (Nat.ne_of_gt (Nat.lt_of_lt_of_le (Heap.lt_size rawP) szf))]
      exact inv.hok.fresh szf
  | some cv =>
    obtain ⟨c', e, stands⟩ := known lpos cv found
    subst e
    have nsG1 := nsG.keeps grown
    refine wpAny_bind (wpAny_functionCode_hit code (hd1.code rawP1 trip) found (wpAny_bind (wpAny_builtinsFor nsG1 b1 b2 (grown _ _ b5) b6 b7 b8 (wpAny_bind (wpAny_nsGet nsG1 (wpAny_bind (wpAny_pure (wpAny_newObj_type ?_ (by size_fits)))))))))
    have stays : ∀ b o, st.heap.get? b = some o → (h1.push { cls := .type "function", data := .func (fnDfl (X.env.qual ++ "<lambda>") params body scope (cloFrom X.env.cells scope.names []) ((X.mg "__name__").getD .none) c' ct dV) }).get? b = some o := fun b o z => Heap.get?_push_of_some _ (grown b o z)
    exact k h1.objs.size c' _ ct H _ (inv.kept stays) (ExtN.refl H) tabs (fun b o z n => ⟨stays b o z, n⟩) (Heap.get?_push_size _ rfl) (inv.hok.fresh sz1) (noFrame _ sz1) stands
/-- one default, an int -/
theorem mk_dflt {i : Int} {j : Nat} {dp : Pos} {y : Str} (TB : TabB X.base X.mg c P) (code : X.env.code = .ref c) (mem : (P, X.env.qual ++ "<lambda>") ∈ T) (only : ∀ p ∈ T, p.1 = P → p.2 = X.env.qual ++ "<lambda>") (L : LamS2 X scope)
    (defs : defaultsOf params X.env = ([eval (.Constant (.int i) j dp) X.env], [])) (nokw : params.kwonlyargs = []) (loc : scope.names.lookup y = some .local)
    (args : ∀ (q : Str) (cl : List (Str × Addr)) (pm ctv u : Value) (cv T0 : Addr), ∃ k, bindArgs (fnDfl q params body scope cl pm cv ctv (.ref T0)) ⟨[], []⟩ = seqItems? (.ref T0) >>= k ∧ k (some #[u]) = pure [(y, u)]) : LamMk X T params body scope lpos := by
  intro pins sl H st Q E inv tabs k
  have has : ∀ z ∈ scope.names, z.2 = .free → ∃ c, X.env.cells.lookup z.1 = some c := fun z m e => (L.free z m e).elim (fun q => inv.ok.has _ (.inl q)) (fun q => inv.ok.has _ (.inr q))
  rw [arm_eval_Lambda, defs]
  show wpAny _ _ (do let dv ← evalAll [eval (.Constant (.int i) j dp) X.env]; let kdv ← holding dv (evalAllOpt []); makeFunction "<lambda>" (X.env.qual ++ "<lambda>") params (.expr body) scope X.env dv kdv [] lpos lpos.line) _ _ _
  refine wpAny_bind (wpAny_evalAll_cons (wpAny_Constant_int (wpAny_evalAll_nil (wpAny_bind (wpAny_holding (wpAny_pure ?_))))))
  rw [makeFunction_eq, nokw]
  simp only [List.zip_nil_left, List.filterMap_nil, List.isEmpty_nil, List.isEmpty_cons, if_true, Bool.false_eq_true, if_false, pure_bind]
  refine wpAny_bind (wpAny_newTextTuple ?_)
  have old : ∀ b o, st.heap.get? b = some o → (st.heap.push { cls := .type "tuple", data := .seq [Value.int i st.toks].toArray }).get? b = some o := fun b o z => Heap.get?_push_of_some _ z
  have atT : (st.heap.push { cls := .type "tuple", data := .seq [Value.int i st.toks].toArray }).get? st.heap.objs.size = some { cls := .type "tuple", data := .seq [Value.int i st.toks].toArray } := Heap.get?_push_size _ rfl
  have inv1 : Inv X pins sl H { st with heap := st.heap.push { cls := .type "tuple", data := .seq [Value.int i st.toks].toArray }, toks := st.toks + 1 } := inv.kept old
  have newT : H st.heap.objs.size = none := inv.hok.fresh (Nat.le_refl _)
  have noT : st.heap.objs.size ∉ frs X.stack := fun z => by
    rcases List.mem_cons.mp (inv.stkSub _ z) with e | e
    · exact absurd inv.lt (by rw [← e]; exact Nat.lt_irrefl _)
    · exact inv.nofs (Nat.le_refl _) e
  refine tail_run inv1 TB code mem only tabs has fun f c' pm ctv H1 s1 inv2 ext tabs1 keep obj new nofr co => ?_
  obtain ⟨t1, t2⟩ := keep _ _ atT newT
  refine k f c' H1 s1 inv2 ⟨⟨pins, inv2⟩, L, new, nofr, _, [(y, Value.int i st.toks)], obj, rfl, rfl, rfl, rfl, rfl, rfl, rfl, fun z m => ?_, fun s2 stays => ?_⟩ ext tabs1 co
  · rw [List.mem_singleton.mp m]
    exact loc
  · obtain ⟨kk, e1, e2⟩ := args (X.env.qual ++ "<lambda>") (cloFrom X.env.cells scope.names []) pm ctv (.int i st.toks) c' st.heap.objs.size
    refine BindsTo.of_looks fun M => ?_
    rw [e1]
    intro A' Q' E' s3 kp q
    have there := kp _ _ (stays _ _ t1 t2 noT)
    exact wpAny_bind (wpAny_seqItems there rfl ((PySem.W.Looks.of_pure e2 : PySem.W.Looks M s2.heap _ _) A' Q' E' s3 kp q))
end
end VQ
namespace VQ
open PySem PySem.Spec PyProof.Rows L2 LamX
/-! ### a tuple times a number from 1 on -/
theorem once_mul (l : Addr) (its : Array Value) (n : Nat) (dd : Option Addr) (sl : Array (Option Value)) (u : Tok) :
    Meets (Builtin.«tuple.__mul__» ⟨[.ref l, .int 1 u], []⟩) (fun _ R s => s.heap.get? l = some ⟨.type "tuple", dd, .seq its n, sl⟩ ∧ R (.ok (.ret (.ref l))) s) :=
  .of_wp fun prog w A R s h => by
    obtain ⟨hp, g, d, tk, os⟩ := s
    obtain ⟨hl, h⟩ := h
    have f1 := AutoSeq1.idx_int
    wp_walk using wpAny_loadPart' hl
    exact ⟨_, rfl, h⟩
/-- once is the tuple itself -/
def rTimes (K : PySem.W.Frag) : R2 := fun x y H Q => ∃ (l : Addr) (k : Int) (xs : List V), x = .ref l ∧ y = .int k ∧ SqT K H l xs ∧ xs ≠ [] ∧ 1 ≤ k ∧ k ≤ 1000 ∧ xs.length ≤ 1000 ∧
  (k = 1 → Q (.ref l) H) ∧ (k ≠ 1 → ∀ p, H p = none → Q (.ref p) (upd H p (.tup (List.replicate k.toNat xs).flatten)))
theorem op_times {X : Cx} : OpR X (binaryOp .Mult) (rTimes X.K) := by
  intro pins s σ H x y v u Q I rx ry h
  obtain ⟨l, k, xs, rfl, rfl, sq, ne, k1, k2, hz, q1, q2⟩ := h
  by_cases e : k = 1
  · subst e
    cases rx
    obtain ⟨t, rfl⟩ := ry
    obtain ⟨its, r, ⟨⟨cls, dd, data, sl⟩, ho, hc, n, hd⟩, hs⟩ := I.tuple sq
    simp only at hc hd
    subst hc hd
    exact wpAny_binaryOp_repeat_ref (T := "tuple") (U := "int") (by decide) ⟨_, ho, rfl⟩ (fun s' => typeIs_int s' 1 t) noFill_tuple_mul F.fills_int_mul F.slot_int_rmul repeat_tuple F.slot_int_index.lookup
      (call_meets F.slot_int_rmul (typeIs_int s 1 t) F.entry_int_rmul (F.args_int_rmul_2 _ _) (int_rmul_tuple 1 t l its.toArray n dd sl)
        ⟨ho, rfl, ⟨_, ho, rfl⟩, call_meets F.slot_tuple_mul ⟨_, ho, rfl⟩ F.entry_tuple_mul (F.args_tuple_mul_2 _ _) (once_mul l its.toArray n dd sl t) ⟨ho, .ref l, H, I, rfl, q1 rfl⟩⟩)
  · exact op_repT pins s σ H _ _ v u Q I rx ry ⟨l, k, xs, rfl, rfl, sq, ne, by omega, k2, hz, q2 e⟩
/-! ### comprehensions over zip of two tuples -/
theorem lc_zipT {K : PySem.W.Frag} {a b : Addr} {xs ys : List V} {g : TG} {tt : TT} {te : TE} {vs : List Nat} {σ : L2.St} {H1 : Hp} {D : Addr} {Qd : Hp → Prop} (len : xs.length = ys.length) (Pv : Nat → Hp → Prop) (h0 : Pv 0 (upd H1 D (.lst []))) (both : ∀ i H, Pv i H → SqT K H a xs ∧ SqT K H b ys)
    (turn : ∀ (i : Nat) (x y : V) (T : Addr) (H : Hp), xs[i]? = some x → ys[i]? = some y → Pv i H → H T = none → g (.ref T) (wipe σ vs) (upd H T (.tup [x, y])) fun σ2 H2 => wipe σ2 vs = wipe σ vs ∧ tt σ2 H2 fun b H3 => if b = true then te σ2 H3 fun y H4 => ∃ acc, H4 D = some (.lst acc) ∧ acc.length < sizeLine ∧ Pv (i + 1) (upd H4 D (.lst (acc ++ [y]))) else Pv (i + 1) H3)
    (fin : ∀ H, Pv xs.length H → Qd H) :
    ∃ W : Nat → Nat → Hp → Prop, (∃ m, W 0 m (upd H1 D (.lst []))) ∧ ∀ i m H, W i m H → ((RZ.ItzT K a b).stop i H ∧ Qd H) ∨ ((RZ.ItzT K a b).go i H ∧ ∃ Nx : Hp → Prop, (∀ H', Nx H' → ∃ m', m' < m ∧ W (i + 1) m' H') ∧
      ∀ x H', (RZ.ItzT K a b).yld i H x H' → g x (wipe σ vs) H' fun σ2 H2 => wipe σ2 vs = wipe σ vs ∧ tt σ2 H2 fun b H3 => if b = true then te σ2 H3 fun y H4 => ∃ acc, H4 D = some (.lst acc) ∧ acc.length < sizeLine ∧ Nx (upd H4 D (.lst (acc ++ [y]))) else Nx H3) := by
  refine ⟨fun i m H => m + i = xs.length ∧ Pv i H, ⟨xs.length, by simp, h0⟩, ?_⟩
  rintro i m H ⟨em, p⟩
  obtain ⟨sx, sy⟩ := both i H p
  by_cases lt : i < xs.length
  · have lt' : i < ys.length := by rw [← len]; exact lt
    refine .inr ⟨⟨xs, ys, xs[i], ys[i], sx, sy, List.getElem?_eq_getElem lt, List.getElem?_eq_getElem lt'⟩, Pv (i + 1), fun H' p' => ⟨m - 1, by omega, by omega, p'⟩, ?_⟩
    rintro v H' ⟨T, x, y, rfl, nT, rfl, e1, e2⟩
    exact turn i x y T H (e1 xs sx) (e2 ys sy) p nT
  · have e : i = xs.length := by omega
    subst e
    exact .inl ⟨⟨xs, ys, sx, sy, .inl (Nat.le_refl _)⟩, fin H p⟩
end VQ
namespace VQ
open PySem PySem.Spec PyProof.Rows L2
/-! ### enumerate of a tuple -/
abbrev tiO (l : Addr) : Obj := { cls := .type "tuple_iterator", data := .fields #[.ref l, .int 0 0] }
abbrev enO (it : Addr) : Obj := { cls := .type "enumerate", data := .fields #[.none, .bool false, .ref it, rawInt 0, .none, .none] }
theorem enum_newT (l : Addr) (its : Array Value) (n : Nat) (dd : Option Addr) (sl : Array (Option Value)) :
    Meets (Builtin.«enumerate.__new__» ⟨[.type "enumerate", .ref l], []⟩) (fun _ R s => s.heap.get? l = some ⟨.type "tuple", dd, .seq its n, sl⟩ ∧
      R (.ok (.ret (.ref (s.heap.push (tiO l)).objs.size))) { s with heap := (s.heap.push (tiO l)).push (enO s.heap.objs.size) }) :=
  .of_wp fun prog w A R s z => by
    obtain ⟨hp, g, d, tk, os⟩ := s
    obtain ⟨hl, z⟩ := z
    have isSub := sub_enumerate
    have tupL : Heap.IsTuple (Shared.heap ⟨hp, g, d, tk, os⟩) l its := ⟨_, hl, rfl, n, rfl⟩
    wp_walk using AutoSeq1.wpAny_loadPart' hl
    refine wpAny_stack_any fun _ => wpAny_pure ?_
    split
    · rename_i c _ _ _ _ _
      cases (c == Value.type "enumerate") <;>
      · wp_walk using AutoSeq1.wpAny_loadPart' hl, wpAny_pyIter_tuple tupL
        exact ⟨_, rfl, z⟩
    · wp_walk using AutoSeq1.wpAny_loadPart' hl, wpAny_pyIter_tuple tupL
      exact ⟨_, rfl, z⟩
theorem enum_callT {prog : Program} {w : World} {A : Around} {E : Value → Shared → Prop} {s : Shared} {l : Addr} {its : Array Value} {Q : Value → Shared → Prop} (tupL : s.heap.IsTuple l its)
    (k : ∀ g : Heap, IsEnum g (s.heap.objs.size + 1) s.heap.objs.size 0 .none → g.IsTupleIter s.heap.objs.size l 0 → (∀ b o, s.heap.get? b = some o → g.get? b = some o) → Q (.ref (s.heap.objs.size + 1)) { s with heap := g }) :
    wpAny (model prog w) A (call (.type "enumerate") [.ref l]) Q E s := by
  obtain ⟨⟨c, dd, dt, sl⟩, hl, c1, n, c2⟩ := tupL
  have c1 : c = .type "tuple" := c1
  have c2 : dt = .seq its n := c2
  subst c1 c2
  refine callType_new F.called_enumerate (by decide) (F.typeCall_enumerate_1 _) (F.newCall_enumerate_1 _) (fun x => F.args_object_init_2 x _) F.entry_enumerate_new (enum_newT l its n dd sl) ⟨hl, ?_⟩
  have sz : (s.heap.push (tiO l)).objs.size = s.heap.objs.size + 1 := Heap.size_push ..
  show _ ∧ _
  rw [sz]
  have en : IsEnum ((s.heap.push (tiO l)).push (enO s.heap.objs.size)) (s.heap.objs.size + 1) s.heap.objs.size 0 .none := by
    have q := Heap.get?_push_size (s.heap.push (tiO l)) (o := enO s.heap.objs.size) rfl
    rw [sz] at q
    exact q
  exact ⟨⟨_, en, rfl⟩, k _ en ⟨_, Heap.get?_push_of_some _ (Heap.get?_push_size _ rfl), rfl, rfl⟩ fun b o q => Heap.get?_push_of_some _ (Heap.get?_push_of_some _ q)⟩
/-- the tuple at a, each item in a new pair with its place -/
def IteT (K : PySem.W.Frag) (a : Addr) : It :=
  ⟨fun i H => ∃ (xs : List V) (x : V), SqT K H a xs ∧ xs[i]? = some x, fun i H v H' => ∃ T x, v = .ref T ∧ H T = none ∧ H' = upd H T (.tup [.int (i : Nat), x]) ∧ ∀ xs, SqT K H a xs → xs[i]? = some x, fun i H => ∃ xs : List V, SqT K H a xs ∧ xs.length = i⟩
theorem turn_enumT {P : Program} {w : World} {K : PySem.W.Frag} {elts : List Expr} {kk : Nat} {tpos : Pos} (a e it : Addr) :
    Turn P w K (.Tuple elts kk tpos) (IteT K a) [e, it] e (fun i h => (∃ old, IsEnum h e it ((i : Nat) : Int) old) ∧ h.IsTupleIter it a i) where
  mem := by simp
  obj := fun i h ⟨⟨old, he⟩, o, ho, hc, hd⟩ b hb => by
    have z : b = e ∨ b = it := by simpa using hb
    rcases z with rfl | rfl
    · exact ⟨_, he, fun v q => nomatch q⟩
    · exact ⟨o, ho, fun v q => by rw [hd] at q; cases q⟩
  keep := fun i h h' ⟨⟨old, he⟩, ti⟩ k => ⟨⟨old, k e (by simp) _ he⟩, ti.at fun o q => k it (by simp) o q⟩
  item := by
    rintro X rfl rfl rfl calm i pins s σ H E inv fp ⟨⟨old, he⟩, ti⟩ ⟨xs, x, sq, hx⟩
    obtain ⟨its, rv, tp, _⟩ := inv.tuple sq
    obtain ⟨u, hu, ru⟩ := rv.get hx
    have tp' : s.heap.IsTuple a its.toArray := tp
    have le : e < s.heap.objs.size := Heap.lt_size he
    have li : it < s.heap.objs.size := by obtain ⟨_, q, _⟩ := ti; exact Heap.lt_size q
    have ea : e ≠ a := fun z => by
      obtain ⟨o, ho, hc, _⟩ := tp'
      rw [← z, he] at ho
      cases ho
      injection hc with q
      exact absurd q (by decide)
    have ai : a ≠ it := fun z => by
      obtain ⟨o, ho, hc, _⟩ := tp'
      obtain ⟨o', ho', hc', _⟩ := ti
      rw [z, ho'] at ho
      cases ho
      rw [hc'] at hc
      injection hc with q
      exact absurd q (by decide)
    have ei : e ≠ it := fun z => by
      obtain ⟨o', ho', hc', _⟩ := ti
      rw [← z, he] at ho'
      cases ho'
      injection hc' with q
      exact absurd q (by decide)
    have hi : i < its.toArray.size := by
      have := (List.getElem?_eq_some_iff.mp hu).1
      simpa using this
    refine wpAny_pyNext_enum_itemD (Draws.tuple (A := X.A.in1) (inv.ok.hd calm) it a ai its.toArray) he ⟨ti, tp'⟩ hi ei (by simp [ei, ea]) fun y h1 tk py eo st hT _ kp => ?_
    have eu : y = u := by
      have q : its[i]? = some y := by simpa using py
      rw [hu] at q
      exact (Option.some.inj q).symm
    subst eu
    refine ⟨_, rfl, wpAny_letOwnedTupleGo_enum (s := { s with heap := h1, toks := tk + 1 }) eo fun h2 he2 sb => ?_⟩
    have hT2 : h2.get? s.heap.objs.size = some { cls := .type "tuple", data := .seq #[.int i tk, y] } := (sb.2 _ (Nat.ne_of_gt le)).trans hT
    have new : ObjOk X.prog X.w (upd H s.heap.objs.size (.tup [.int (i : Nat), x])) h2 s.heap.objs.size (.tup [.int (i : Nat), x]) :=
      ⟨by show 2 ≤ sizeLine; decide, [.int i tk, y], .cons ⟨_, rfl⟩ (.cons ru .nil), ⟨_, hT2, rfl, _, rfl⟩⟩
    have inv1 : Inv X pins σ (upd H s.heap.objs.size (.tup [.int (i : Nat), x])) { s with heap := h2, toks := tk + 1 } :=
      inv.turnedNew (ch := [e, it]) (fun b ob hb q => (sb.2 b (fun z => hb (by simp [z]))).trans (kp b ob (fun z => hb (by simp [z])) (fun z => hb (by simp [z])) q)) fp (Nat.le_refl _) new
    refine ⟨.ref s.heap.objs.size, _, inv1, rfl, ⟨_, x, rfl, inv.hok.fresh (Nat.le_refl _), rfl, fun ys hy => by rw [inv.tuple_inj hy sq]; exact hx⟩, ⟨⟨y, ?_⟩, st.1.at fun o q => (sb.2 it (Ne.symm ei)).trans q⟩, fun b hb => ?_⟩
    · rw [show ((i + 1 : Nat) : Int) = (i : Int) + 1 by omega]
      exact he2
    · have lb : b < s.heap.objs.size := by
        have z : b = e ∨ b = it := by simpa using hb
        rcases z with rfl | rfl
        · exact le
        · exact li
      rw [upd_ne (Nat.ne_of_lt lb)]
      exact (fp b hb).1
  done := by
    rintro X rfl rfl rfl calm i pins s σ H E inv fp ⟨⟨old, he⟩, ti⟩ ⟨xs, sq, hx⟩
    obtain ⟨its, rv, tp, _⟩ := inv.tuple sq
    obtain ⟨f0, f1, f2, f3, f4, f5⟩ := fp it (by simp)
    have tp' : s.heap.IsTuple a its.toArray := tp
    have ai : a ≠ it := fun z => by
      obtain ⟨o, ho, hc, _⟩ := tp'
      obtain ⟨o', ho', hc', _⟩ := ti
      rw [z, ho'] at ho
      cases ho
      rw [hc'] at hc
      injection hc with q
      exact absurd q (by decide)
    have sz : its.toArray.size = i := by
      have := rv.length
      simp
      omega
    refine wpAny_pyNext_enum_endD (n := its.toArray.size) (Draws.tuple (A := X.A.in1) (inv.ok.hd calm) it a ai its.toArray) he ⟨by rw [sz]; exact ti, tp'⟩ fun h1 eb => ⟨rfl, inv.turned (t' := s.toks) (fun b o hb q => eb b o hb q) f0 f1 f3 f4 f5⟩
  self := fun A i s Q E ⟨⟨_, he⟩, _⟩ h => wpAny_pyIter_enum he h
def iEnumT (K : PySem.W.Frag) (ta : TA) : TI := fun σ H R => ta σ H fun vs H1 => ∃ a xs, vs = [.ref a] ∧ SqT K H1 a xs ∧ R (IteT K a) H1
theorem pi_enumT {X : Cx} {e : Expr} {ta : TA} {p pos tpos : Pos} {elts : List Expr} {kk : Nat} (isG : Gl X "enumerate") (atG : X.mg "enumerate" = none) (ha : PA X [e] ta) (hs : starEach [e] X.env = [(false, eval e X.env)] := by rfl) :
    PI X (.Tuple elts kk tpos) (.Call (.Name "enumerate" p) [e] [] pos) (iEnumT X.K ta) := by
  refine ⟨fun pins s σ H R inv h => Call_ (ld_blt inv isG atG boot_enumerate (callWith_type1 (thn (ha.run pos pins s σ H _ inv h) fun us s1 ⟨vs, H1, I1, r1, q1⟩ => ?_) hs rfl))⟩
  obtain ⟨a, xs, rfl, sq, q⟩ := q1
  cases r1 with
  | cons r rr =>
    cases rr
    cases r
    obtain ⟨its, rv, tp, _⟩ := I1.tuple sq
    refine enum_callT tp fun g he ti kp => wpAny_pyIter_enum he ?_
    refine ⟨s1.heap.objs.size + 1, [s1.heap.objs.size + 1, s1.heap.objs.size], _, _, H1, rfl, I1.kept (t' := s1.toks) kp, turn_enumT a (s1.heap.objs.size + 1) s1.heap.objs.size, ⟨⟨.none, he⟩, ti⟩, fun b hb => ?_, q⟩
    have le : s1.heap.objs.size ≤ b := by
      have z : b = s1.heap.objs.size + 1 ∨ b = s1.heap.objs.size := by simpa using hb
      rcases z with rfl | rfl
      · exact Nat.le_succ _
      · exact Nat.le_refl _
    exact I1.fpOk le (I1.hok.fresh le)
/-- a for over enumerate of a tuple, by what holds between two turns -/
theorem for_enumT {K : PySem.W.Frag} {a : Addr} {xs : List V} {g : TG} {tb : TS} {D : Ends} {σ : L2.St} {H : Hp} (Pv : Nat → L2.St → Hp → Prop) (h0 : Pv 0 σ H) (there : ∀ i σ H, Pv i σ H → SqT K H a xs)
    (turn : ∀ (i : Nat) (x : V) (T : Addr) (σ : L2.St) (H : Hp), xs[i]? = some x → Pv i σ H → H T = none → g (.ref T) σ (upd H T (.tup [.int (i : Nat), x])) fun σ2 H2 => tb { D with nx := Pv (i + 1), ct := Pv (i + 1), bk := D.nx } σ2 H2)
    (fin : ∀ σ H, Pv xs.length σ H → D.nx σ H) :
    ∃ W : Nat → Nat → L2.St → Hp → Prop, (∃ m, W 0 m σ H) ∧ ∀ i m σ H, W i m σ H →
      ((IteT K a).stop i H ∧ D.nx σ H) ∨ ((IteT K a).go i H ∧ ∃ N : L2.St → Hp → Prop, (∀ σ' H', N σ' H' → ∃ m', m' < m ∧ W (i + 1) m' σ' H') ∧ ∀ x H', (IteT K a).yld i H x H' → g x σ H' fun σ2 H2 => tb { D with nx := N, ct := N, bk := D.nx } σ2 H2) := by
  refine ⟨fun i m σ H => m + i = xs.length ∧ Pv i σ H, ⟨xs.length, rfl, h0⟩, ?_⟩
  rintro i m σ H ⟨em, p⟩
  have sq := there i σ H p
  by_cases lt : i < xs.length
  · refine .inr ⟨⟨xs, xs[i], sq, List.getElem?_eq_getElem lt⟩, Pv (i + 1), fun σ' H' p' => ⟨m - 1, by omega, by omega, p'⟩, ?_⟩
    rintro v H' ⟨T, x, rfl, nT, rfl, ex⟩
    exact turn i x T σ H (ex xs sq) p nT
  · have e : i = xs.length := by omega
    subst e
    exact .inl ⟨⟨xs, sq, rfl⟩, fin σ H p⟩
end VQ
namespace VQ
open PySem L2 LamX
section
variable {K : PySem.W.Frag}
/-! ### tuples put together, cut -/
theorem rd_cat {H : Hp} {a b : Addr} {xs ys : List V} {Q : VK} (ha : H a = some (.tup xs)) (hb : H b = some (.tup ys)) (hl : xs.length + ys.length ≤ 1000)
    (k : ∀ (p : Addr) (H' : Hp), Same H H' → H' p = some (.tup (xs ++ ys)) → Q (.ref p) H') : rCatA K (.ref a) (.ref b) H Q := by
  refine ⟨a, b, xs, ys, rfl, rfl, SqT.of ha, SqT.of hb, Nat.le_trans hl (by decide), fun e => ?_, fun _ e => ?_, fun _ _ p hp => k p _ (same_new hp) upd_same⟩
  · subst e
    exact k b H (Same.refl H) hb
  · subst e
    exact k a H (Same.refl H) (by rw [List.append_nil]; exact ha)
theorem rd_cut {H : Hp} {a : Addr} {xs : List V} {lo hi : Option Int} {Q : VK} (ha : H a = some (.tup xs)) (k : ∀ (p : Addr) (H' : Hp), Same H H' → H' p = some (.tup (cutV xs lo hi)) → Q (.ref p) H') : rSlA K (.ref a) lo hi H Q := by
  refine ⟨a, xs, rfl, SqT.of ha, fun e => k a H (Same.refl H) ?_, fun _ p hp => k p _ (same_new hp) upd_same⟩
  have q : cutV xs lo hi = xs := by
    unfold cutV
    rw [e.1, e.2, List.drop_zero, Nat.sub_zero, List.take_length]
  rw [q]
  exact ha
theorem cut_upto (xs : List V) {k : Nat} (h : k ≤ xs.length) : cutV xs none (some (k : Int)) = xs.take k := by
  unfold cutV
  rw [HT.sIx_nat, HT.sIx_none, Nat.min_eq_left h, List.drop_zero, Nat.sub_zero]
theorem cut_behind (xs : List V) {k : Nat} (h : k ≤ xs.length) : cutV xs (some (k : Int)) none = xs.drop k := by
  unfold cutV
  rw [HT.sIx_nat, HT.sIx_none, Nat.min_eq_left h]
  exact List.take_of_length_le (by rw [List.length_drop]; omega)
end
end VQ
namespace VQ
open PySem PySem.Spec PyProof.Rows L2 LamX
/-! ### a tuple times nought -/
abbrev noneO : Obj := { cls := .type "tuple", data := .seq #[] }
theorem nought_mul (l : Addr) (its : Array Value) (n : Nat) (dd : Option Addr) (sl : Array (Option Value)) (u : Tok) (ne : its.isEmpty = false) :
    Meets (Builtin.«tuple.__mul__» ⟨[.ref l, .int 0 u], []⟩) (fun _ R s => s.heap.get? l = some ⟨.type "tuple", dd, .seq its n, sl⟩ ∧ R (.ok (.ret (.ref s.heap.objs.size))) { s with heap := s.heap.push noneO }) :=
  .of_wp fun prog w A R s h => by
    obtain ⟨hp, g, d, tk, os⟩ := s
    obtain ⟨hl, h⟩ := h
    have f1 := AutoSeq1.idx_int
    have c1 : (its.isEmpty || ((0 : Int) == 1)) = false := by rw [ne]; rfl
    wp_walk using wpAny_loadPart' hl
    repeat (first
      | (refine wpAny_ite_false (decide_eq_false (by rw [c1]; exact Bool.false_ne_true)) ?_; wp_walk using wpAny_loadPart' hl))
    exact ⟨_, rfl, h⟩
def rTimes0 (K : PySem.W.Frag) : R2 := fun x y H Q => ∃ (l : Addr) (k : Int) (xs : List V), x = .ref l ∧ y = .int k ∧ SqT K H l xs ∧ xs ≠ [] ∧ 0 ≤ k ∧ k ≤ 1000 ∧ xs.length ≤ 1000 ∧
  (k = 1 → Q (.ref l) H) ∧ (k ≠ 1 → ∀ p, H p = none → Q (.ref p) (upd H p (.tup (List.replicate k.toNat xs).flatten)))
theorem op_times0 {X : Cx} : OpR X (binaryOp .Mult) (rTimes0 X.K) := by
  intro pins s σ H x y v u Q I rx ry h
  obtain ⟨l, k, xs, rfl, rfl, sq, ne, k1, k2, hz, q1, q2⟩ := h
  by_cases e : k = 0
  · subst e
    cases rx
    obtain ⟨t, rfl⟩ := ry
    obtain ⟨its, r, ⟨⟨cls, dd, data, sl⟩, ho, hc, n, hd⟩, hs⟩ := I.tuple sq
    simp only at hc hd
    subst hc hd
    have ni : its.toArray.isEmpty = false := by
      cases its with
      | nil => exact absurd (List.eq_nil_of_length_eq_zero r.length) ne
      | cons a b => rfl
    refine wpAny_binaryOp_repeat_ref (T := "tuple") (U := "int") (by decide) ⟨_, ho, rfl⟩ (fun s' => typeIs_int s' 0 t) noFill_tuple_mul F.fills_int_mul F.slot_int_rmul repeat_tuple F.slot_int_index.lookup
      (call_meets F.slot_int_rmul (typeIs_int s 0 t) F.entry_int_rmul (F.args_int_rmul_2 _ _) (int_rmul_tuple 0 t l its.toArray n dd sl)
        ⟨ho, rfl, ⟨_, ho, rfl⟩, call_meets F.slot_tuple_mul ⟨_, ho, rfl⟩ F.entry_tuple_mul (F.args_tuple_mul_2 _ _) (nought_mul l its.toArray n dd sl t ni) ⟨ho, ?_⟩⟩)
    have q : Q (.ref s.heap.objs.size) (upd H s.heap.objs.size (.tup [])) := q2 (by decide) _ (I.hok.fresh (Nat.le_refl _))
    exact ⟨.ref s.heap.objs.size, _, I.laid (t' := s.toks) (o := .tup []) (fun b ob z => Heap.get?_push_of_some _ z) (Nat.le_refl _) ⟨Nat.zero_le _, [], .nil, IsTup.new _ _⟩, rfl, q⟩
  · exact op_times pins s σ H _ _ v u Q I rx ry ⟨l, k, xs, rfl, rfl, sq, ne, by omega, k2, hz, q1, q2⟩
end VQ
namespace VQ
open PySem PySem.Spec PyProof.Rows L2
/-! ### set(xs) of a list of numbers -/
/-- a set as it is made, without members -/
abbrev bareSet (w : World) : Obj := { cls := .type "set", dict := none, data := .set #[] 0 (.fresh 0 0 (!w.params.followText "set-order")) }
/-- what stands when the list is gone through -/
abbrev SetDone (w : World) (s : Shared) (ns : List Int) (s2 : Shared) : Prop := ∃ g tk c, s2 = { s with heap := g, toks := tk } ∧ SetR w g s.heap.objs.size (fun j => decide (j ∈ ns)) c ∧ c ≤ ns.length ∧ ∀ b o, s.heap.get? b = some o → g.get? b = some o
section
variable {P : Program} {w : World} {A : Around} {E : Value → Shared → Prop} {s : Shared}
theorem set_filled {l : Addr} {its : Array Value} {ns : List Int} {Z : PySem.Fin → Shared → Prop} (calm : A.handled = none) (isl : s.heap.IsList l its) (are : IntsAre its.toList ns) (few : ns.length + 1 < scanBound)
    (fin : ∀ s2, SetDone w s ns s2 → Z (.done (.ret .none)) s2) :
    wpAny (model P w) A.in1 (Builtin.«set.__init__» ⟨[.ref s.heap.objs.size, .ref l], []⟩) Z E { s with heap := s.heap.push (bareSet w) } := by
  obtain ⟨⟨oc, od, ot, os'⟩, at_l, e1, nl, e2⟩ := isl
  dsimp only at e1 e2
  subst e1 e2
  have cnt : its.size = ns.length := (Array.length_toList).symm.trans (IntsAre.length are)
  have here : (s.heap.push (bareSet w)).get? s.heap.objs.size = some (bareSet w) := Heap.get?_push_size _ rfl
  have tyS : Shared.TypeIs { s with heap := s.heap.push (bareSet w) } (.ref s.heap.objs.size) "set" := ⟨_, here, rfl⟩
  have at_l' := Heap.get?_push_of_some (bareSet w) at_l
  have isl' : (s.heap.push (bareSet w)).IsList l its := ⟨_, at_l', rfl, nl, rfl⟩
  have n1 := F.sub_list_set
  have n2 := F.sub_list_frozenset
  have n3 : (Value.type "list" == Value.type "dict") = false := by decide
  unfold Builtin.«set.__init__» noKeywords Builtin.Frozenset.updateFrom
  generalize itE : pyIter = it
  wp_walk
  subst itE
  refine wpAny_pyIter_list isl' ?_
  refine wpAny_bind (wpAny_runValue ?_)
  have lt_l : l < s.heap.objs.size := Heap.lt_size at_l
  have calm3 : A.in1.in1.handled = none := by simp [calm]
  have size1 : (s.heap.push (bareSet w)).objs.size = s.heap.objs.size + 1 := Heap.size_push ..
  have ne_l : l ≠ (s.heap.push (bareSet w)).objs.size := by
    rw [size1]
    exact Nat.ne_of_lt (Nat.lt_succ_of_lt lt_l)
  have out : s.heap.objs.size ∉ [(s.heap.push (bareSet w)).objs.size, l] := fun m => by
    rcases List.mem_cons.mp m with q | q
    · rw [size1] at q
      exact Nat.ne_of_lt (Nat.lt_succ_self _) q
    · exact Nat.ne_of_gt lt_l (List.mem_singleton.mp q)
  have vals : ∀ (i : Nat) (v : Value), its[i]? = some v → ∃ k t, ns[i]? = some k ∧ v = .int k t := fun i v hv => by
    have hi : i < ns.length := by
      rw [← cnt]
      exact (Array.getElem?_eq_some_iff.mp hv).1
    obtain ⟨t, ht⟩ := are.get i _ (List.getElem?_eq_getElem hi)
    rw [Array.getElem?_toList, hv] at ht
    exact ⟨_, t, List.getElem?_eq_getElem hi, Option.some.inj ht⟩
  refine set_update_ints ((Walks.list calm3 _ l ne_l its).toS) s.heap.objs.size out ns cnt few vals (its.size - 0) 0 _ (by omega) (Nat.zero_le _) ?walk
    ⟨0, Nat.le_refl 0, ?fresh⟩ fun s2 c mv hc R => ?_
  case walk => exact ⟨⟨_, Heap.get?_push_size _ rfl, rfl, rfl⟩, isl'.push _⟩
  case fresh => exact setR_new_at (w := w) (Heap.get?_push_of_some _ here)
  obtain ⟨g, ge, dr, tk, os2⟩ := s2
  have q1 : ge = s.gens := mv.gens
  have q2 : dr = s.drawn := mv.drawn
  have q3 : os2 = s.os := mv.os
  subst q1 q2 q3
  show wpAny _ _ _ _ _ _
  refine wpAny_pure ?_
  show wpAny _ _ (ret Value.none) _ _ _
  refine wpAny_pure (fin _ ⟨g, tk, c, rfl, R, by omega, fun b o z => mv.heap b o (fun m => ?_) (Heap.get?_push_of_some _ (Heap.get?_push_of_some _ z))⟩)
  have lb := Heap.lt_size z
  rcases List.mem_cons.mp m with q | q
  · exact Nat.ne_of_lt lb q
  · have q := List.mem_singleton.mp q
    rw [size1] at q
    exact Nat.ne_of_lt (Nat.lt_succ_of_lt lb) q
theorem set_call {l : Addr} {its : Array Value} {ns : List Int} {Q : Value → Shared → Prop} (calm : A.handled = none) (isl : s.heap.IsList l its) (are : IntsAre its.toList ns) (few : ns.length + 1 < scanBound)
    (fin : ∀ s2, SetDone w s ns s2 → Q (.ref s.heap.objs.size) s2) : wpAny (model P w) A (call (.type "set") [.ref l]) Q E s := by
  obtain ⟨c0, tl, mro⟩ := F.called_set.mro
  have made := F.called_set.made
  have subt := F.called_set.sub
  have nty := F.called_set.notType
  have canc := F.called_set.canCreate
  have tyc := F.typeCall_set_1 (.ref l)
  have here : (s.heap.push (bareSet w)).get? s.heap.objs.size = some (bareSet w) := Heap.get?_push_size _ rfl
  have tyS : Shared.TypeIs { s with heap := s.heap.push (bareSet w) } (.ref s.heap.objs.size) "set" := ⟨_, here, rfl⟩
  have ini := F.called_set.init.lookup
  have inb := F.called_set.init.bind (.ref s.heap.objs.size)
  refine wpAny_call (codeAny_of_tree ?_)
  show wpAny _ _ (callAny (.type "set") _) _ _ _
  refine wpAny_pure ⟨Code.quiet_builtin _ (by decide +kernel), ?go⟩
  case go =>
  refine codeAny_builtin F.entry_type_call ?_
  rw [Around.under_plain (weight_type_call_type "set" [.ref l] []) rfl]
  repeat (any_goals (first | assumption | wp_step))
  refine codeAny_mono (code_set_led1 (w := w) (.ref l) (E := E) (Q₁ := fun v t => v = .ref s.heap.objs.size ∧ t = { s with heap := s.heap.push (bareSet w) }) ⟨rfl, rfl⟩) fun r t z => ?_
  match r, z with
  | .error e, z => exact z
  | .ok (.ret v), z =>
    obtain ⟨rfl, rfl⟩ := z
    repeat (any_goals (first | assumption | wp_step))
    refine codeAny_mono (codeAny_call_builtin (R := wants (fun v t => v = .none ∧ SetDone w s ns t) E) F.called_set.init.plain F.entry_set_init (check_set_init_1 tyS (set_filled (A := A.in1) (by simp [calm]) isl are few fun s2 d => ⟨rfl, d⟩))) fun r t z => ?_
    match r, z with
    | .error e, z => exact z
    | .ok (.ret v), z =>
      obtain ⟨rfl, d⟩ := z
      obtain ⟨g, tk, c, rfl, d'⟩ := id d
      repeat (any_goals (first | assumption | wp_step))
      exact fin _ d
end
/-- set(xs), xs a list of numbers -/
def rSetI (K : PySem.W.Frag) (w : World) : List V → Hp → VK → Prop := fun xs H Q => ∃ (l : Addr) (ns : List Int), xs = [V.ref l] ∧ SqL K H l (ns.map V.int) ∧ ns.length < 1000 ∧
  ∀ (a : Addr) (c : Nat), H a = none → c ≤ ns.length → Q (.ref a) (upd H a (SetO w a (fun j => decide (j ∈ ns)) c))
theorem cr_setI {X : Cx} (hc : X.calm = true) : CallR X (.type "set") (rSetI X.K X.w) := by
  intro pins s σ H xs us Q I r h
  obtain ⟨l, ns, rfl, hl, few, q⟩ := h
  rw [Vals.ref1 r]
  obtain ⟨its, rv, pl, hz⟩ := I.list hl
  have hn : H s.heap.objs.size = none := I.hok.fresh (Nat.le_refl _)
  refine set_call (P := X.prog) (w := X.w) (I.ok.hd hc) pl.isList (by simpa using ints_of_vals rv) (Nat.lt_of_lt_of_le (show ns.length + 1 < 1001 by omega) (by decide)) fun s2 d => ?_
  obtain ⟨g, tk, c, rfl, R, lc, k⟩ := d
  exact ⟨.ref s.heap.objs.size, _, I.laid (t' := tk) k (Nat.le_refl _) (setO_new R), rfl, q _ c hn lc⟩
end VQ
namespace VQ
open PySem PyProof.Rows L2 LamX
/-! ### x2(lambda: body), x2 calls what it got -/
theorem pe_tried {X : Cx} {x2 y2 : Str} {g2 : Addr} {cd2 : Value} {N2 : List Str} {sg2 : Scope} {bg2 : List Stmt} {TT : (XK → Hp → VK → Prop) → Hp → VK → Prop} {T : List (Addr × Str)} {k : Nat} {params : Arguments} {body : Expr} {scope : Scope} {t : XK → TE} {p lpos pos : Pos} (isG : Gl X x2)
    (D2 : One X.K X.mg x2 g2 cd2 N2 y2 sg2 bg2) (gives : Gives2 X.prog X.w X.K X.mg X.base N2 x2 sg2 g2 cd2 bg2 y2 (X.env.qual ++ "<lambda>") TT) (mk : LamMk X T params body scope lpos) (room : Room (k + 2) X.A) (bd : ∀ f c' E, LamBody X scope body k f c' E (t E)) :
    PE X (.Call (.Name x2 p) [.Lambda params body scope lpos] [] pos) (tLam T TT t) := by
  refine ⟨fun pins st sl H Q inv ⟨tabs, want⟩ => ?_⟩
  refine wpAny_Call_Name_kw (ld_glob inv isG D2.at_ (PySem.W.callWith_K (h₀ := X.base) inv.ok.mod.kin D2.kp ?_ (by rfl) (by rfl)) D2.n1)
  refine Calls.spliced_cons (rest := backTo pos (starEach [] X.env)) (mk inv tabs fun f c' H1 s1 inv1 LA ext tabs1 co => ?_)
  refine Calls.spliced_nil ⟨inv1.kIn, ?_⟩
  obtain ⟨oc, od, pa, dV, kV, doc, pm1, an, ct, osl, lk, bnd⟩ := D2.ex
  have run : codeAny (model X.prog X.w) X.A (.call (.ref g2) ⟨[.ref f], []⟩) (CR C8.CX0 X.stack X.prog X.w H1 s1 Q C8.E0) s1 :=
    run_ofS (N := N2) (ps := [y2]) (us := [.ref f]) (vs := [.ref f]) lk D2.code D2.sc room inv1.env0 (bnd s1 [.ref f] inv1.kIn rfl) (.cons rfl .nil) rfl fun room2 => by
      obtain ⟨tt, d1, d2⟩ := gives X.A X.stack f c' s1 H1 Q (fun E H2 Q2 => t E sl H2 Q2)
        (fun W pn xe E p1 p2 tk hW => pe_actG (i := 0) LA (bd f c' E) Un.refl (fun b m => .inl m) tk hW room2 D2.slot D2.vis D2.n2 D2.n3) co (want H1 ext tabs1)
      exact ⟨tt, d1.nox, d2⟩
  refine wpAny_call (codeAny_mono run ?_)
  rintro (er | (_ | _ | _ | u)) s3 z
  · exact (show False from z).elim
  · exact z.elim
  · exact z.elim
  · exact z.elim
  · exact inv1.after z
end VQ
namespace VQ
open PySem PyProof.Rows L2
/-! ### a comprehension out of whose element an exception may fly -/
theorem note_frame {x : Value} {env env' : Env} (h : env'.frame = env.frame) : noteFrame x env' = noteFrame x env := by
  unfold noteFrame PySem.frameOf
  rw [h]
/-- as compPost, but that the frame which the exception is handed on from is told -/
def cPost (M : Model) (A : Around) (E : Value → Shared → Prop) (use : Option (Value → Sem Unit)) (Q : Value → Shared → Prop) (acc : Value) (C : Addr) (fr : Option Addr) (r : Result) (s' : Shared) : Prop :=
  match r with
  | .ok f => compPost M A E use Q acc C (.ok f) s'
  | .error x => ∃ m, s'.heap.Ns C m ∧ ∀ h', Heap.SameBut C s'.heap h' → ∀ ev : Env, ev.frame = fr → wpAny M A (passOn "comprehension.variables-let-go" x ev : Sem Value) (fun _ _ => False) E { s' with heap := h' }
theorem comp_freeX {M : Model} {A : Around} {E : Value → Shared → Prop} {s : Shared} {env : Env} {e : Expr} {scope : Scope} {pos : Pos} {newAcc first : Sem Value} {g : Comprehension} {gs : List Comprehension} {cl : List (Str × Addr)} {use : Option (Value → Sem Unit)} {Q : Value → Shared → Prop}
    (clauses : clausesOf e = g :: gs) (folded : ∀ x, foldedSetIterable g.iter env x = pure x) (closes : closureFor scope env = pure cl) (kind : scope.kind = .function) (locals : ∀ x ∈ scope.names, x.2 = .local → scope.names.lookup x.1 = some .local)
    (h : wpAny M A first (fun x t1 => wpAny M A (pyIter x) (fun it t2 => wpAny M A newAcc (fun acc t3 => wpAny M A (newFunctionEnv scope env.globals cl [] env.qual none .none (some env)) (fun ev t4 =>
        codeAny M A (.compStart e 0 it acc { ev with scope := relabel scope env }) (cPost M A E use Q acc ev.locals ev.frame) t4) E t3) E t2) E t1) E s) : wpAny M A (comprehension e scope env pos newAcc false first use) Q E s := by
  unfold comprehension
  rw [closes, clauses]
  refine wpAny_bind (wpAny_mono h (fun x t1 g1 => wpAny_bind (wpAny_standAt (wpAny_bind (wpAny_of_eq (folded x) (wpAny_bind (wpAny_holding (wpAny_mono g1 (fun it t2 g2 =>
    wpAny_standIf (wpAny_bind (wpAny_mono g2 (fun acc t3 g3 => wpAny_bind (wpAny_pure (wpAny_bind (wpAny_mono g3 (fun ev t4 g4 => ?_) fun _ _ y => y)))) fun _ _ y => y))) fun _ _ y => y))))))) fun _ _ y => y)
  dsimp only
  have own : ∀ x ∈ (scope.names.filter fun x => (x.2 == .local || x.2 == .cell) && x.1 != (".0" : Str)).reverse, x.2 = .local → Env.kindOf { ev with scope := relabel scope env } x.1 = some .local := fun x m l => lookup_relabel_local (locals x (List.mem_filter.mp (List.mem_reverse.mp m)).1 l)
  have own2 : ∀ x ∈ (scope.names.filter fun x => (x.2 == .local || x.2 == .cell) && x.1 != (".0" : Str)).reverse.drop 1 ++ (scope.names.filter fun x => (x.2 == .local || x.2 == .cell) && x.1 != (".0" : Str)).reverse.take 1, x.2 = .local → Env.kindOf { ev with scope := relabel scope env } x.1 = some .local := fun x m l => by
    rcases List.mem_append.mp m with m | m
    · exact own x (List.mem_of_mem_drop m) l
    · exact own x (List.mem_of_mem_take m) l
  refine wpAny_holding (wpAny_bind (wpAny_attempt (wpAny_holding (wpAny_run (codeAny_mono g4 fun r t5 g5 => ?_)))))
  cases r with
  | ok f =>
    cases use with
    | none =>
      obtain ⟨m, ns, g6⟩ := g5
      exact wpAny_bind (wpAny_holding (wpAny_comp_letGo (cenv := { ev with scope := relabel scope env }) kind _ t5 m own ns fun k _ _ sb => wpAny_pure (g6 k sb)))
    | some u =>
      refine wpAny_bind (wpAny_rule (wpAny_bind (wpAny_holding (wpAny_mono g5 (fun _ t6 g6 => ?_) fun _ _ y => y))))
      obtain ⟨m, ns, g7⟩ := g6
      exact wpAny_bind (wpAny_comp_letGo (cenv := { ev with scope := relabel scope env }) kind _ t6 m own2 ns fun k _ _ sb => wpAny_pure (g7 k sb))
  | error x =>
    obtain ⟨m, ns, g6⟩ := g5
    exact wpAny_bind (wpAny_holding (wpAny_comp_letGo (cenv := { ev with scope := relabel scope env }) kind _ t5 m own ns fun k _ _ sb => wpAny_mono (g6 k sb _ rfl) (fun _ _ z => z.elim) fun _ _ y => y))
theorem frames_on {h h' B B' : Heap} (k : ∀ L o, B.get? L = none → h.get? L = some o → h'.get? L = some o ∧ B'.get? L = none) : ∀ {l : List Env}, h.FunFrames B l → h'.FunFrames B' l
  | [], _ => trivial
  | _ :: _, ⟨a1, ⟨L, o, a2, a3, a4, a5⟩, a6⟩ => ⟨a1, ⟨L, o, a2, (k L o a3 a4).2, (k L o a3 a4).1, a5⟩, frames_on k a6⟩
/-- the exception of a call within the block, led to the def's own air -/
theorem comp_air {X : Cx} {pins : List (Addr × Obj)} {σ : L2.St} {H3 H9 H' : Hp} {s3 s9 s10 : Shared} {ce : Env} {fp : List Addr} {C a : Addr} {B : Heap} {cls : Value} {d : Option Addr} {W : WX} {use : Option (Value → Sem Unit)} {Qf : Value → Shared → Prop} {acc : Value} {m9 : Str → Option Value}
    (two : X.stack = X.env :: X.outer) (fr : X.env.frame = some X.env.locals) (tk : Takes X W) (eF : ce.frame = X.env.frame) (I3 : Inv X pins σ H3 s3) (newC : s3.heap.get? C = none) (okC : FpOk X pins H9 C) (okF : ∀ b ∈ fp, FpOk X pins H3 b)
    (un : Un (frs X.stack) fp H3 H9 s3.heap s9.heap) (os9 : s9.os = s3.os) (ns9 : s9.heap.Ns C m9) (fl : HandSPX.FlyingZ B X.stack a (Zc cls d) s10.heap) (hok : HOk X.prog X.w H' B) (ub : UB (frs X.stack) H9 H' s9.heap B s10.heap) (na : H' a = none) (os10 : s10.os = s9.os) (ag : AllBare s10.gens)
    (w : W cls d σ H') : notedBy (model X.prog X.w) X.A ce (fun e s' => cPost (model X.prog X.w) X.A X.xe use Qf acc C ce.frame (.error e) s') (.ref a) s10 := by
  have frames : X.A.frames = some (X.env :: X.outer) := by rw [I3.ok.frames, two]
  obtain ⟨oC, es, ep, atC, dC, keysC, findC⟩ := ns9
  have offC : C ∉ frs X.stack := fun z => by
    rcases List.mem_cons.mp (I3.stkSub C z) with q | q
    · exact okC.2.1 q
    · exact okC.2.2.1 q
  have inB : B.get? C = some oC := ub.keep C oC atC okC.1 offC
  have freeC : H' C = none := ub.free C oC atC okC.1
  unfold notedBy
  rw [note_frame eF]
  refine HandSPX.looks_onZ Zc.steady frames fr (two ▸ fl) fun h11 held up => ?_
  have at11 : h11.get? C = some oC := held.1 C oC inB
  refine ⟨m9, ⟨oC, es, ep, at11, dC, keysC, findC⟩, fun h12 sb ev efr => ?_⟩
  obtain ⟨B2, b1, b2⟩ := L2.restrict B fun b => decide (b ≠ C)
  have inB2 : ∀ b o, B2.get? b = some o → b ≠ C ∧ B.get? b = some o := fun b o e => by
    by_cases q : b = C
    · rw [b2 b (by simp [q])] at e
      cases e
    · rw [b1 b (by simp [q])] at e
      exact ⟨q, e⟩
  have toB2 : ∀ b o, b ≠ C → B.get? b = some o → B2.get? b = some o := fun b o q e => by
    rw [b1 b (by simp [q])]
    exact e
  have noB2 : ∀ b, B.get? b = none → B2.get? b = none := fun b e => by
    by_cases q : b = C
    · exact b2 b (by simp [q])
    · rw [b1 b (by simp [q])]
      exact e
  have stay2 : B2.StaysIn h12 := fun b o e => by
    obtain ⟨q, e⟩ := inB2 b o e
    exact (sb.2 b q).trans (held.1 b o e)
  have neC : ∀ (b : Addr) (o : Obj) (vs : Array Value), h11.get? b = some o → o.data = .fields vs → b ≠ C := fun b o vs e dd q => by
    rw [q, at11] at e
    cases e
    rw [dC] at dd
    cases dd
  obtain ⟨k1, k2, k3, oe, vs, T, oT, ts, t1, t2, t3, t4, t5, t6, t7, t8, t9⟩ := id held
  have aC := neC a oe vs t1 t3
  have TC := neC T oT ts t7 t8
  have e12 : h12.get? a = some oe := (sb.2 a aC).trans t1
  have held2 : HandSPX.HeldZ B2 (X.env :: X.outer) a (Zc cls d) X.env.locals h12 := by
    refine ⟨stay2, noB2 a k2, frames_on (fun L o e1 e2 => ⟨(sb.2 L fun q => by rw [q, inB] at e1; cases e1).trans e2, noB2 L e1⟩) k3, oe, vs, T, oT, ts, e12, t2, t3, t4, noB2 T t5, t6, (sb.2 T TC).trans t7, t8, t9⟩
  unfold PySem.passOn
  refine wpAny_bind (wpAny_field e12 t3 t4 ?_)
  have isRef : ¬ ((Value.ref T == Value.none) = true) := by simp
  rw [if_neg isRef, efr, eF, fr]
  refine wpAny_bind (HandSPX.setFlight_onZ held2 fun h13 held3 up3 => wpAny_throw (tk _ _ ?_))
  obtain ⟨G, g1, g2⟩ := L2.restrict h13 fun b => (B2.get? b).isSome || decide (b ∈ frs X.stack)
  have gB : ∀ b o, B2.get? b = some o → G.get? b = some o := fun b o e => by
    rw [g1 b (by simp [e])]
    exact held3.1 b o e
  have gF : ∀ b, b ∈ frs X.stack → G.get? b = h13.get? b := fun b hb => g1 b (by simp [hb])
  have gO : ∀ b o, G.get? b = some o → h13.get? b = some o ∧ ((B2.get? b).isSome = true ∨ b ∈ frs X.stack) := fun b o e => by
    cases q : ((B2.get? b).isSome || decide (b ∈ frs X.stack)) with
    | false =>
      rw [g2 b q] at e
      cases e
    | true =>
      rw [g1 b q] at e
      exact ⟨e, by simpa [Bool.or_eq_true] using q⟩
  have old : ∀ b o, s3.heap.get? b = some o → b ≠ C := fun b o e q => by
    rw [q, newC] at e
    cases e
  have hok2 : HOk X.prog X.w H' B2 := fun b o q => (hok b o q).stay (fun c u hc r => toB2 c u (fun z => by
    rcases hc with hc | hc
    · rw [← hc, z, freeC] at q
      cases q
    · rw [z, freeC] at hc
      cases hc) r) (fun _ r => r) fun _ _ r => r
  have slots : ∀ b o, s3.heap.get? b = some o → b ∈ frs X.stack → b ∉ fp → ∃ sl, G.get? b = some { o with slots := sl } := fun b o e hb hx => by
    obtain ⟨_, o', e', nf⟩ := I3.stack.mem hb
    rw [e] at e'
    cases e'
    obtain ⟨sl1, e1⟩ := un.slot b o e (I3.stkFree b hb) hb hx
    obtain ⟨sl2, e2⟩ := ub.slot b _ e1 hb
    obtain ⟨sl3, e3⟩ := up b _ e2 nf
    obtain ⟨sl4, e4⟩ := up3 b _ ((sb.2 b (old b o e)).trans e3) nf
    exact ⟨sl4, by rw [gF b hb]; exact e4⟩
  refine ⟨a, B2, { s3 with heap := G, gens := s10.gens, drawn := s10.drawn, toks := s10.toks }, pins, σ, H', cls, d, rfl, ?_, fun b o e hb => ?_, Heap.UpToSlots.of_keeps fun b o e => (gO b o e).1, .inr (.inr (two ▸ held3)), na, os10.trans os9, ag, w⟩
  · refine I3.call (ch := fp) ⟨fun b o e n hb hx => gB b o (toB2 b o (old b o e) (ub.keep b o (un.keep b o e n hb hx) (un.free b o e n hx) hb)), fun b o e n hb hx => slots b o e hb hx, fun b o e n hx => ?_, fun b o e hx => ?_, fun b xs e => ub.tups b xs (un.tups b xs e), fun b o u e => ub.frzs b o u (un.frzs b o u e), fun b ps e => ?_⟩ (hok2.kept gB) ag fun b hb => ?_
    · obtain ⟨o', e'⟩ := un.there b o e hx
      exact ub.free b o' e' (un.free b o e n hx)
    · by_cases hb : b ∈ frs X.stack
      · obtain ⟨sl, q⟩ := slots b o e hb hx
        exact ⟨_, q⟩
      · obtain ⟨o', e'⟩ := un.there b o e hx
        obtain ⟨o2, q⟩ := ub.there b o' e' hb
        exact ⟨o2, gB b o2 (toB2 b o2 (old b o e) q)⟩
    · obtain ⟨m1, e1⟩ := un.tbls b ps e
      obtain ⟨m2, e2⟩ := ub.tbls b _ e1
      rw [Array.append_assoc] at e2
      exact ⟨_, e2⟩
    · have z := okF b hb
      exact ⟨z.2.2.2.1, z.2.1, z.2.2.2.2.1, z.2.2.2.2.2⟩
  · obtain ⟨e', q⟩ := gO b o e
    rcases q with q | q
    · obtain ⟨o', q⟩ := Option.isSome_iff_exists.mp q
      have z := held3.1 b o' q
      rw [e'] at z
      cases z
      exact q
    · exact absurd q hb
theorem Inv.air {X : Cx} {pins : List (Addr × Obj)} {σ : L2.St} {H : Hp} {s : Shared} (xe : Value → Shared → Prop) (I : Inv X pins σ H s) : Inv { X with xe := xe } pins σ H s where
  ok := ⟨I.ok.mod, I.ok.kind, I.ok.glob, I.ok.blt, I.ok.above, I.ok.inj, I.ok.has, I.ok.cab, I.ok.hd, I.ok.frames, I.ok.stk, I.ok.exf, I.ok.bs, I.ok.bsz, I.ok.noex, I.ok.exfs, I.ok.funs, I.ok.frf⟩
  os := I.os
  bare := I.bare
  base := I.base
  loc := I.loc
  cell := I.cell
  free := I.free
  freeC := I.freeC
  pin := I.pin
  hok := I.hok
  len := I.len
/-- the element, wherever the block stands: what its calls let out is taken -/
abbrev EltX (X : Cx) (scope : Scope) (elt : Expr) (te : TE) (E : XK) : Prop := ∀ (s : Shared) (H : Hp) (C : Addr) (cl : List (Str × Addr)) (fp : List Addr) (xe : Value → Shared → Prop), Passes (L2.CX X.prog X.w) { X.blk s H scope (compEnvC scope cl C X.env) fp with xe := xe } E → PE { X.blk s H scope (compEnvC scope cl C X.env) fp with xe := xe } elt te
theorem lcX_core {X : Cx} {pins : List (Addr × Obj)} {s : Shared} {σ : L2.St} {H : Hp} {Q : VK} {elt tg iter : Expr} {ifs : List Expr} {scope : Scope} {own : List (Str × Nat)} {pos pos' : Pos} {wi : TI} {g : TG} {tt : TT} {te : TE} {use : Option (Value → Sem Unit)} {Qf : Value → Shared → Prop} {W : WX} {E : XK}
    (two : X.stack = X.env :: X.outer) (fr : X.env.frame = some X.env.locals) (tk : Takes X W) (wish : ∀ cls d H', E cls d H' → W cls d σ H') (calm : X.calm = true) (nd : X.N.Nodup) (inv : Inv X pins σ H s) (hi : PI X tg iter wi) (ok : BlkOk X.N X.env.scope scope own)
    (hg : ∀ (s : Shared) (H : Hp) (C : Addr) (cl : List (Str × Addr)) (fp : List Addr), PG (X.blk s H scope (compEnvC scope cl C X.env) fp) tg g) (ht : ∀ (s : Shared) (H : Hp) (C : Addr) (cl : List (Str × Addr)) (fp : List Addr), PTs (X.blk s H scope (compEnvC scope cl C X.env) fp) ifs tt)
    (he : EltX X scope elt te E) (folded : ∀ x, foldedSetIterable iter X.env x = pure x) (want : tLc wi g tt te (own.map (·.2)) σ H Q)
    (ends : ∀ D C s' m H', Inv X pins σ H' s' → Q (.ref D) H' → s'.heap.Ns C m → FpOk X pins H' C → compPost (model X.prog X.w) X.A X.xe use Qf (.ref D) C (.ok .next) s') :
    wpAny (model X.prog X.w) X.A (comprehension (.ListComp elt [⟨tg, iter, ifs, 0⟩] scope pos) scope X.env pos' (newList []) false (eval iter X.env) use) Qf X.xe s := by
  have frees : ∀ y ∈ scope.names, y.2 = .free → ∃ c, X.env.cells.lookup y.1 = some c := fun y m e => by
    rcases ok.free y m e with k | k
    · exact inv.ok.has _ (.inl k)
    · exact inv.ok.has _ (.inr k)
  refine comp_freeX (use := use) rfl folded (closure_ok frees) ok.kind (fun y m e => by rw [ok.uniq y m, e]) (thn (hi.run pins s σ H _ inv want) fun xv t1 hx => thn hx fun itv t2 h2 => ?_)
  obtain ⟨it, fp, tn, J, H2, e, J2, T, st2, f2, q⟩ := h2
  subst e
  refine wpAny_newObj_type (newEnv_comp ?_) (by show 0 ≤ sizeLine; decide)
  generalize eD : t2.heap.objs.size = D
  have newD : H2 D = none := J2.hok.fresh (Nat.le_of_eq eD)
  obtain ⟨Wt, ⟨m0, w0⟩, turn⟩ := q D newD
  generalize e3 : ({ t2 with heap := t2.heap.push { cls := .type "list", data := .seq ([] : List Value).toArray } } : Shared) = t3
  have J3 : Inv X pins σ (upd H2 D (.lst [])) t3 := by
    rw [← e3]
    refine J2.laid (t' := t2.toks) (fun b o z => Heap.get?_push_of_some _ z) (Nat.le_of_eq eD) ⟨Nat.zero_le _, [], 0, .nil, ?_⟩
    rw [← eD]
    exact Heap.get?_push_size _ rfl
  have p3 : t3.heap = t2.heap.push { cls := .type "list", data := .seq ([] : List Value).toArray } := by rw [← e3]
  have below : ∀ b ∈ fp, b < t2.heap.objs.size := fun b hb => by
    obtain ⟨o, z, _⟩ := T.obj _ _ st2 b hb
    exact Heap.lt_size z
  have f3 : ∀ b ∈ fp, FpOk X pins (upd H2 D (.lst [])) b ∧ b < t3.heap.objs.size := fun b hb => by
    have lt := below b hb
    refine ⟨⟨?_, (f2 b hb).2⟩, by rw [p3, Heap.size_push]; exact Nat.lt_succ_of_lt lt⟩
    rw [upd_ne (by rw [← eD]; exact Nat.ne_of_lt lt)]
    exact (f2 b hb).1
  have st3 : tn 0 t3.heap := T.keep _ _ _ st2 fun b _ o z => by rw [p3]; exact Heap.get?_push_of_some _ z
  have J4 := block_start J3 ok nd f3
  have pg := hg t3 (upd H2 D (.lst [])) t3.heap.objs.size (cellsFrom (t3.heap.objs.size + 1) scope.names (cloFrom X.env.cells scope.names [])) fp
  have pt := ht t3 (upd H2 D (.lst [])) t3.heap.objs.size (cellsFrom (t3.heap.objs.size + 1) scope.names (cloFrom X.env.cells scope.names [])) fp
  have pe := he t3 (upd H2 D (.lst [])) t3.heap.objs.size (cellsFrom (t3.heap.objs.size + 1) scope.names (cloFrom X.env.cells scope.names [])) fp
  show codeAny _ _ (.compStart (.ListComp elt [⟨tg, iter, ifs, 0⟩] scope pos) 0 (.ref it) (.ref D) (compEnvC scope (cellsFrom (t3.heap.objs.size + 1) scope.names (cloFrom X.env.cells scope.names [])) t3.heap.objs.size X.env)) (cPost (model X.prog X.w) X.A X.xe use Qf (.ref D) t3.heap.objs.size X.env.frame) { t3 with heap := pushCells (t3.heap.push { cls := .type "dict", data := .dict #[] }) scope.names }
  have nfp : ∀ b ∈ fp, (upd H2 D (.lst [])) b = none := fun b hb => (f3 b hb).1.1
  generalize ece : compEnvC scope (cellsFrom (t3.heap.objs.size + 1) scope.names (cloFrom X.env.cells scope.names [])) t3.heap.objs.size X.env = ce at J4 pg pt pe ⊢
  have cL : ce.locals = t3.heap.objs.size := by subst ece; rfl
  have cF : ce.frame = X.env.frame := by subst ece; rfl
  generalize eH3 : upd H2 D (.lst []) = H3 at J3 J4 pg pt pe w0 nfp f3
  generalize e4 : ({ t3 with heap := pushCells (t3.heap.push { cls := .type "dict", data := .dict #[] }) scope.names } : Shared) = t4 at J4 ⊢
  have st4 : tn 0 t4.heap := T.keep _ _ _ st3 fun b _ o z => by rw [← e4]; exact pushCells_keeps _ _ _ _ (Heap.get?_push_of_some _ z)
  have newC : t3.heap.get? t3.heap.objs.size = none := by
    cases z : t3.heap.get? t3.heap.objs.size with
    | none => rfl
    | some o => exact absurd (Heap.lt_size z) (Nat.lt_irrefl _)
  -- what flies out of the element
  have passes : Passes (L2.CX X.prog X.w) { X.blk t3 H3 scope ce fp with xe := notedBy (model X.prog X.w) X.A ce (fun e s' => cPost (model X.prog X.w) X.A X.xe use Qf (.ref D) t3.heap.objs.size X.env.frame (.error e) s') } E := by
    intro pz σz Hz sz u sz' Ix cx
    obtain ⟨a, B, H', cls, d, rfl, fl, hok, ub, na, os, ag, hE⟩ := cx
    have Ib : Inv (X.blk t3 H3 scope ce fp) pz σz Hz sz := Inv.air (fun _ _ => False) Ix
    have nC : Hz t3.heap.objs.size = none := by
      have z : Hz ce.locals = none := Ib.free
      rw [cL] at z
      exact z
    obtain ⟨m, hn, _⟩ := Ib.loc
    have hn : sz.heap.Ns ce.locals m := hn
    rw [cL] at hn
    have z := comp_air (use := use) (Qf := Qf) (acc := .ref D) (ce := ce) two fr tk cF J3 newC (J3.fpOk (Nat.le_refl _) nC) (fun b hb => (f3 b hb).1) Ib.base Ib.os hn fl hok ub na os ag (wish cls d H' hE)
    rw [cF] at z
    exact z
  have pe := pe _ passes
  have stat : ∀ {σ' : L2.St} {H' : Hp} {s' : Shared}, Inv (X.blk t3 H3 scope ce fp) [] σ' H' s' → (∀ b ∈ fp, H' b = none) → ∀ b ∈ fp, FpOk (X.blk t3 H3 scope ce fp) [] H' b := fun {σ' H' s'} I' none_ b hb =>
    ⟨none_ b hb, (I'.ok.exf b hb).1, I'.ok.exfs b hb, .inl hb, fun x c z => (I'.ok.exf b hb).2 x c z, fun p hp => absurd (show p ∈ ([] : List (Addr × Obj)) ++ [] from hp) (by simp)⟩
  have loop : codeAny (model X.prog X.w) X.A (.compLoop (.ListComp elt [⟨tg, iter, ifs, 0⟩] scope pos) 0 (.ref it) (.ref D) ce) (cPost (model X.prog X.w) X.A X.xe use Qf (.ref D) t3.heap.objs.size X.env.frame) t4 := by
    refine compLoop_any (fun n s' => ∃ i H', Inv (X.blk t3 H3 scope ce fp) [] (wipe σ (own.map (·.2))) H' s' ∧ tn i s'.heap ∧ (∀ b ∈ fp, H' b = none) ∧ Wt i n H') ?_ m0 ⟨0, H3, J4, st4, nfp, w0⟩
    rintro n t5 ⟨i, H5, J5, st5, n5, w5⟩
    rcases turn i n H5 w5 with ⟨stop, qq⟩ | ⟨go, Nx, less, step⟩
    · have over := T.done (X.blk t3 H3 scope ce fp) rfl rfl rfl calm i [] t5 _ H5 (fun _ _ => False) J5 (stat J5 n5) st5 stop
      refine thnF over fun r t6 ⟨er, J6⟩ => ?_
      subst er
      have J7 : Inv X pins σ H5 t6 := J3.call' (ch := fp) J6.os J6.base J6.hok J6.bare fun b hb => ⟨(f3 b hb).1.2.2.2.1, (f3 b hb).1.2.1, (f3 b hb).1.2.2.2.2.1, (f3 b hb).1.2.2.2.2.2⟩
      have nC : H5 t3.heap.objs.size = none := by
        have z : H5 ce.locals = none := J6.free
        rw [cL] at z
        exact z
      obtain ⟨m, hn, _⟩ := J6.loc
      have hn : t6.heap.Ns ce.locals m := hn
      rw [cL] at hn
      exact ends D t3.heap.objs.size t6 m H5 J7 qq hn (J3.fpOk (Nat.le_refl _) nC)
    · have next := T.item (X.blk t3 H3 scope ce fp) rfl rfl rfl calm i [] t5 _ H5 (fun _ _ => False) J5 (stat J5 n5) st5 go
      refine thnF next fun r t6 ⟨u, er, h6⟩ => ?_
      subst er
      refine thnF h6 fun _ t7 ⟨x, H7, J7, r7, y7, st7, n7⟩ => ?_
      have J7' := J7.pinned (stat J7 n7) (T.obj _ _ st7)
      refine thnF (pg.run _ t7 _ H7 x u _ J7' r7 (step x H7 y7)) fun _ t8 ⟨σ8, H8, J8, hw8, q8⟩ => ?_
      refine thnF (pt.run _ t8 σ8 H8 _ J8 q8) fun b t9 ⟨H9, J9, q9⟩ => ?_
      have fin : ∀ {s' : Shared} {H' : Hp}, Inv (X.blk t3 H3 scope ce fp) ([] ++ pinsAt fp t7.heap) σ8 H' s' → Nx H' → ∃ m, m < n ∧ ∃ i H', Inv (X.blk t3 H3 scope ce fp) [] (wipe σ (own.map (·.2))) H' s' ∧ tn i s'.heap ∧ (∀ b ∈ fp, H' b = none) ∧ Wt i m H' := fun {s' H'} I' nx => by
        obtain ⟨m', lm, w'⟩ := less H' nx
        have pinned : ∀ b ∈ fp, ∀ o, t7.heap.get? b = some o → s'.heap.get? b = some o ∧ H' b = none := fun b hb o z =>
          let y := I'.pin (b, o) (List.mem_append_right _ (List.mem_append_right _ (mem_pinsAt hb z)))
          ⟨y.1, y.2.1⟩
        have el : (wipe σ (own.map (·.2))).length = σ8.length := by rw [← hw8, wipe_length]
        refine ⟨m', lm, i + 1, H', (I'.unpinned (pins := [])).weak el (fun j v z => ?_), T.keep _ _ _ st7 fun b hb o z => (pinned b hb o z).1, fun b hb => ?_, w'⟩
        · rw [← hw8] at z
          exact (wipe_some z).1
        · obtain ⟨o, z, _⟩ := T.obj _ _ st7 b hb
          exact (pinned b hb o z).2
      cases b with
      | false =>
        simp only [Bool.false_eq_true, if_false] at q9 ⊢
        exact fin J9 q9
      | true =>
        simp only [if_true] at q9 ⊢
        refine wpAny_mono (pe.run _ t9 σ8 H9 _ (Inv.air _ J9) q9) (fun z t10 ⟨yv, H10, J10, r10, acc, d10, z10, nx⟩ => ?_) fun _ _ y => y
        have J10' : Inv (X.blk t3 H3 scope ce fp) ([] ++ pinsAt fp t7.heap) σ8 H10 t10 := Inv.air (fun _ _ => False) J10
        exact app_ok (X := X.blk t3 H3 scope ce fp) J10' d10 z10 r10 fun t11 J11 => fin J11 nx
  exact codeAny_compStart_list loop (T.self X.A 0 _ _ _ st4 loop)
/-- name = [..] on one line, the name a local; the element's calls may refuse -/
theorem ps_setLcX {X : Cx} {i : Nat} {y : Str} {py : Pos} {elt tg iter : Expr} {ifs : List Expr} {scope : Scope} {own : List (Str × Nat)} {pos spos : Pos} {wi : TI} {g : TG} {tt : TT} {te : TE} {E : XK} (two : X.stack = X.env :: X.outer) (fr : X.env.frame = some X.env.locals) (tk : Takes X (fun cls d _ H => E cls d H))
    (calm : X.calm = true) (nd : X.N.Nodup) (slot : X.N[i]? = some y) (loc : X.env.scope.names.lookup y = some .local) (sw : swapsWith (.ListComp elt [⟨tg, iter, ifs, 0⟩] scope pos) (some (.Name y py)) spos.line X.env = pure true) (hi : PI X tg iter wi) (ok : BlkOk X.N X.env.scope scope own)
    (hg : ∀ (s : Shared) (H : Hp) (C : Addr) (cl : List (Str × Addr)) (fp : List Addr), PG (X.blk s H scope (compEnvC scope cl C X.env) fp) tg g) (ht : ∀ (s : Shared) (H : Hp) (C : Addr) (cl : List (Str × Addr)) (fp : List Addr), PTs (X.blk s H scope (compEnvC scope cl C X.env) fp) ifs tt)
    (he : EltX X scope elt te E) (folded : ∀ x, foldedSetIterable iter X.env x = pure x := by intro _; rfl) : PS X (.Assign [.Name y py] (.ListComp elt [⟨tg, iter, ifs, 0⟩] scope pos) spos) (tAsg (tLc wi g tt te (own.map (·.2))) (gName i)) := by
  refine ⟨fun pins s σ H D inv want => ?_⟩
  rw [exec_Assign_Name_used _ _ _ _ sw]
  refine wpAny_bind (wpAny_standAt (wpAny_bind ?_))
  show wpAny _ X.A (do let _ ← comprehension (.ListComp elt [⟨tg, iter, ifs, 0⟩] scope pos) scope X.env (firstIterPos [⟨tg, iter, ifs, 0⟩] pos) (newList []) false (eval iter X.env) (some (assign (.Name y py) X.env))) _ _ s
  have want : tLc wi g tt te (own.map (·.2)) σ H (fun x H1 => gName i x σ H1 D.nx) := want
  refine wpAny_bind (thn (lcX_core (Qf := fun _ s' => SP X pins D .next s') two fr tk (fun _ _ _ z => z) calm nd inv hi ok hg ht he folded want fun L C s' m H' I' q hn f => ?_) fun _ s' z => wpAny_pure (wpAny_pure z))
  show wpAny _ _ (assign (.Name y py) X.env (.ref L)) _ _ _
  refine wpAny_assign_Name (store_ok2 (v := V.ref L) I' nd slot (.inl loc) rfl (fun s2 J2 ⟨a, sb, ha⟩ => ?_) (.inr loc))
  obtain ⟨f0, f1, f2, f3, f4, f5⟩ := f
  have aC : C ≠ a := by
    rcases ha with z | z
    · rw [z]
      exact f1
    · exact fun e => f4 y a z e.symm
  exact ⟨m, hn.sameBut sb aC, fun h3 sb3 => ⟨_, H', J2.turned (t' := s2.toks) (fun b o hb e => (sb3.2 b hb).trans e) f0 f1 f3 f4 f5, q⟩⟩
end VQ
namespace VQ
open PySem L2 LamX
abbrev sTried : Stmt := top 42
/-- where the error classes stand that the law names -/
structure Errs (mg : Str → Option Value) (Ta NT NR BT Uf Fu TM QE No : Addr) : Prop where
  ta : mg "Taken" = some (.ref Ta)
  nt : mg "NoTable" = some (.ref NT)
  nr : mg "NoRow" = some (.ref NR)
  bt : mg "BadText" = some (.ref BT)
  uf : mg "Unfit" = some (.ref Uf)
  fu : mg "Full" = some (.ref Fu)
  tm : mg "TooMany" = some (.ref TM)
  qe : mg "QuiltError" = some (.ref QE)
  no : mg "Nothing" = some (.ref No)
/-- a refusal without a field: the last clause takes it -/
structure Plain (K : PySem.W.Frag) (Ta NT NR BT Uf Fu TM QE No C : Addr) : Prop where
  n1 : PySem.W.exmAny K (.ref C) [.ref Ta, .ref NT, .ref NR] = some false
  n2 : PySem.W.exmAny K (.ref C) [.ref BT, .ref Uf] = some false
  n3 : PySem.W.exmAny K (.ref C) [.ref Fu] = some false
  n4 : PySem.W.exmAny K (.ref C) [.ref TM] = some false
  y5 : PySem.W.exmAny K (.ref C) [.ref QE, .ref No] = some true
  xf : XfC K C
  nc : PySem.W.findIn K (.ref C) "called" = some none
/-- what is wished of an error: the tuple of its name and a blank -/
def Caught (K : PySem.W.Frag) (Ta NT NR BT Uf Fu TM QE No : Addr) (Q : VK) : XK := fun cls d H => ∃ (C dd : Addr) (fs : List (Str × V)) (nm : Str), cls = .ref C ∧ d = some dd ∧ Plain K Ta NT NR BT Uf Fu TM QE No C ∧ H dd = some (.xd fs) ∧ fs.lookup ("called" : Str) = some (V.str nm) ∧
  ∀ p, H p = none → Q (.ref p) (upd H p (.tup [.str nm, .str ""]))
def TTried (K : PySem.W.Frag) (Ta NT NR BT Uf Fu TM QE No : Addr) : (XK → Hp → VK → Prop) → Hp → VK → Prop := fun tl H Q =>
  tl (Caught K Ta NT NR BT Uf Fu TM QE No Q) H fun v H1 => [V.str "told", v].length ≤ sizeLine ∧ ∀ p, H1 p = none → Q (.ref p) (upd H1 p (.tup [.str "told", v]))
/-- a def of one parameter as it stands -/
theorem one_of {K : PySem.W.Frag} {mg : Str → Option Value} {x y : Str} {st : Stmt} {f : Addr} {fd : FuncData} {N : List Str} (A1 : At K mg x st [y] f fd) (sc : FnScope N [y] (defScope st)) (slot : N[0]? = some y) (vis : Vis (defScope st) y) (n1 : (x == ("__debug__" : Str)) = false) (n2 : (y == ("__debug__" : Str)) = false) (n3 : (y == ("__classdict__" : Str)) = false) :
    ∃ cd, One K mg x f cd N y (defScope st) (defBody st) := by
  obtain ⟨oc, od, kV, doc, pm, an, cdv, ct, osl, e, lk, code⟩ := A1.fn.ex
  have bd := A1.bd
  rw [e] at lk bd
  exact ⟨cdv, A1.gl, A1.fn.kp, ⟨oc, od, _, _, kV, doc, pm, an, ct, osl, lk, bd⟩, code, sc, slot, vis, n1, n2, n3⟩
theorem scTried : FnScope ["_law_ask", "e"] ["_law_ask"] (defScope sTried) := ⟨rfl, rfl, rfl, by decide +kernel, rfl, by decide +kernel, by decide +kernel⟩
section
variable {P : Program} {w : World} {K : PySem.W.Frag} {mg : Str → Option Value} {base : Heap} {Ta NT NR BT Uf Fu TM QE No : Addr}
theorem tried_gives {g : Addr} {cdg : Value} {q : Str} (G : Errs mg Ta NT NR BT Uf Fu TM QE No) : Gives2 P w K mg base ["_law_ask", "e"] "_law_tried" (defScope sTried) g cdg (defBody sTried) "_law_ask" q (TTried K Ta NT NR BT Uf Fu TM QE No) := by
  intro A2 outer2 f c' s H Q tl act hc h
  refine ⟨_, pss_one (ps_try_manyA (X := (cxOf C8.CX0 P w K mg base ["_law_ask", "e"] "_law_tried" (defScope sTried) g cdg A2 outer2 s H C8.E0).nox) (i := 1) (n := "e")
      (tb := fun W D σ H => ∃ Ech : XK, (∀ cls d σ' H', σ'.length = 2 → Ech cls d H' → W cls d σ' H') ∧ σ[0]? = some (some (.ref f)) ∧ H c' = some (CodeO c' q) ∧ tl Ech H fun v H1 => [V.str "told", v].length ≤ sizeLine ∧ ∀ p, H1 p = none → D.rt (.ref p) (upd H1 p (.tup [.str "told", v])))
      rfl rfl scTried.nd rfl rfl LamX.takes0 (fun W pn xe tk _ => ?_)
      (HdsA.cons (Cte.three ⟨rfl, by decide, .inl G.ta⟩ ⟨rfl, by decide, .inl G.nt⟩ ⟨rfl, by decide, .inl G.nr⟩) (fun a oe cls d pn hz hf => pss_one (ps_ret (pe_tup (pa_cons (pe_xfA hz hf (pv 1)) (pa_cons (pe_xfA hz hf (pv 1)) pa_nil)))))
      (HdsA.cons (Cte.two ⟨rfl, by decide, .inl G.bt⟩ ⟨rfl, by decide, .inl G.uf⟩) (fun a oe cls d pn hz hf => pss_one (ps_ret (pe_tup (pa_cons (pe_xfA hz hf (pv 1)) (pa_cons (pe_xfA hz hf (pv 1)) pa_nil)))))
      (HdsA.cons (Cte.one ⟨rfl, by decide, .inl G.fu⟩) (fun a oe cls d pn hz hf => pss_one (ps_ret (pe_tup (pa_cons (pe_xfA hz hf (pv 1)) (pa_cons (pe_xfA hz hf (pv 1)) pa_nil)))))
      (HdsA.cons (Cte.one ⟨rfl, by decide, .inl G.tm⟩) (fun a oe cls d pn hz hf => pss_one (ps_ret (pe_tup (pa_cons (pe_xfA hz hf (pv 1)) (pa_cons (pe_xfA hz hf (pv 1)) pa_nil)))))
      (HdsA.cons (Cte.two ⟨rfl, by decide, .inl G.qe⟩ ⟨rfl, by decide, .inl G.no⟩) (fun a oe cls d pn hz hf => pss_one (ps_ret (pe_tup (pa_cons (pe_xfA hz hf (pv 1)) (pa_cons pe_str pa_nil)))))
      HdsA.nil)))))), ?_⟩
  · refine ⟨fun pins s' σ H' D I ⟨Ech, hW, h1, h2, h3⟩ => ?_⟩
    exact (pss_one (ps_ret (pe_tup (pa_cons pe_str (pa_cons (act W pn xe Ech _ _ tk hW) pa_nil))))).run pins s' σ H' D I ⟨h1, h2, h3⟩
  · refine ⟨Caught K Ta NT NR BT Uf Fu TM QE No Q, fun cls d σ' H' hlen hC => ?_, rfl, hc, h⟩
    obtain ⟨C, dd, fs, nm, rfl, rfl, pl, hdd, hl, hq⟩ := hC
    refine ⟨false, pl.n1, fun z => Bool.noConfusion z, fun _ => ⟨false, pl.n2, fun z => Bool.noConfusion z, fun _ => ⟨false, pl.n3, fun z => Bool.noConfusion z, fun _ => ⟨false, pl.n4, fun z => Bool.noConfusion z, fun _ => ⟨true, pl.y5, fun _ a na => ?_, fun z => Bool.noConfusion z⟩⟩⟩⟩⟩
    have e1 : (σ'.set 1 (some (V.ref a)))[1]? = some (some (V.ref a)) := List.getElem?_set_self (by rw [hlen]; decide)
    exact ⟨C, pl.xf, pl.nc, _, e1, rfl, rfl, dd, fs, _, rfl, hdd, hl, by show 2 ≤ sizeLine; decide, fun p hp => hq p hp⟩
end
end VQ
namespace VQ
open PySem L2 LamX
abbrev sWorth : Stmt := top 43
/-! ### figures -/
def figLow (w : Nat) : Nat → Str
  | 0 => ⟨#[]⟩
  | i + 1 => (⟨#[48 + w / 2 ^ i % 2]⟩ : Str) ++ figLow w i
def fig (w : Nat) : Str := figLow w 5
theorem figLow_len (w : Nat) : ∀ i, (figLow w i).length = i
  | 0 => rfl
  | i + 1 => by
    show ((⟨#[48 + w / 2 ^ i % 2]⟩ : Str) ++ figLow w i).length = i + 1
    show (#[48 + w / 2 ^ i % 2] ++ (figLow w i).cps).size = i + 1
    rw [Array.size_append]
    have := figLow_len w i
    show 1 + (figLow w i).length = i + 1
    omega
theorem str_bit (n : Nat) : (toString ((n % 2 : Nat) : Int) : Str) = ⟨#[48 + n % 2]⟩ := by
  rcases Nat.mod_two_eq_zero_or_one n with h | h
  · rw [h]; decide +kernel
  · rw [h]; decide +kernel
section
variable {P : Program} {w : World} {K : PySem.W.Frag} {mg : Str → Option Value} {base : Heap}
def spFigs : Sp := fun vs H Q _ => ∃ (n : Nat), vs = [.int (n : Int)] ∧ Q (.str (fig n)) H
/-! ### drawn worths -/
/-- a number drawn by the bag, of which R is true -/
def spDraw (R : Int → Prop) : Sp := fun vs H Q _ => ∃ (b : Addr), vs = [.ref b] ∧ Bag H b ∧ ∀ (i : Int) (H' : Hp), R i → Bag H' b → Keep b H H' → Q (.int i) H'
theorem scWorth : FnScope ["_law_bag_here"] ["_law_bag_here"] (defScope sWorth) := ⟨rfl, rfl, rfl, by decide +kernel, rfl, by decide +kernel, by decide +kernel⟩
theorem Bag.ne {H : Hp} {b p : Addr} (h : Bag H b) (n : H p = none) : p ≠ b := fun e => by
  obtain ⟨o, z⟩ := h.here
  rw [e, z] at n
  cases n
theorem ok_worth {f fO fP : Addr} {fd fdO fdP : FuncData} (F : Fun K "_law_worth" "_law_worth" sWorth f fd) (len : mg "len" = none) (P1 : At K mg "_law_pull" sPull ["_law_bag_here", "_law_size"] fP fdP) (P2 : At K mg "_law_of" sOf ["_law_bag_here", "_law_some"] fO fdO) :
    FnOk P w K mg base CX0 3 f fd ["_law_bag_here"] (spDraw fun i => 0 ≤ i ∧ i < 32) := by
  have G1 : FnOk P w K mg base CX0 1 fP fdP ["_law_bag_here", "_law_size"] spPull := ok_pull P1.fn len
  have G2 : FnOk P w K mg base CX0 2 fO fdO ["_law_bag_here", "_law_some"] (spOf K) := ok_of P2.fn len P1
  refine F.ok scWorth (fun vs H Q E h => ?_) (fun cdv A outer s H vs Q E hr h => ?_)
  · obtain ⟨b, rfl, _⟩ := h
    rfl
  · obtain ⟨b, rfl, B, k⟩ := h
    have hr1 : Room 1 _ := hr.mono (by decide)
    refine ⟨_, pss_one (ps_ret (pe_call G2 hr rfl P2.gl P2.fn.kp P2.bd .nil pass0 (pa_cons (pv 0) (pa_cons (pe_lst
      (pa_cons (pe_call G1 hr1 rfl P1.gl P1.fn.kp P1.bd .nil pass0 (pa_cons (pv 0) (pa_cons pe_int pa_nil)))
      (pa_cons (pe_call G1 hr1 rfl P1.gl P1.fn.kp P1.bd .nil pass0 (pa_cons (pv 0) (pa_cons pe_int pa_nil)))
      (pa_cons (pe_call G1 hr1 rfl P1.gl P1.fn.kp P1.bd .nil pass0 (pa_cons (pv 0) (pa_cons pe_int pa_nil)))
      (pa_cons pe_int (pa_cons pe_int pa_nil)))))) pa_nil)))), ?_⟩
    refine ⟨_, rfl, _, rfl, b, 32, rfl, B, by decide, by decide, fun d1 H1 a1 c1 B1 k1 => ?_⟩
    refine ⟨_, rfl, b, 32, rfl, B1, by decide, by decide, fun d2 H2 a2 c2 B2 k2 => ?_⟩
    refine ⟨_, rfl, b, 4, rfl, B2, by decide, by decide, fun d3 H3 a3 c3 B3 k3 => ?_⟩
    refine ⟨by show 5 ≤ sizeLine; decide, fun p hp => ?_⟩
    have sm := same_new (o := HO.lst [.int d1, .int d2, .int d3, .int 0, .int 31]) hp
    refine ⟨b, p, _, rfl, B3.same sm, B3.ne hp, SqL.of upd_same, by show 1 ≤ 5; decide, by show 5 < 1000; decide, fun v H' mem B' k' => ?_⟩
    have kk : Keep b H H' := ((k1.trans k2).trans k3).trans (Keep.trans (Same.keep sm) k')
    rcases List.mem_cons.mp mem with rfl | mem
    · exact k _ _ ⟨a1, c1⟩ B' kk
    rcases List.mem_cons.mp mem with rfl | mem
    · exact k _ _ ⟨a2, c2⟩ B' kk
    rcases List.mem_cons.mp mem with rfl | mem
    · exact k _ _ ⟨a3, by omega⟩ B' kk
    rcases List.mem_cons.mp mem with rfl | mem
    · exact k _ _ ⟨by decide, by decide⟩ B' kk
    rcases List.mem_cons.mp mem with rfl | mem
    · exact k _ _ ⟨by decide, by decide⟩ B' kk
    · cases mem
end
end VQ
namespace VQ
open PySem L2 LamX
/-! ### things of the plain kinds -/
def worthB : V → Bool
  | .int i => decide (0 ≤ i) && decide (i < 32)
  | _ => false
def basics : List String := ["NoneType", "bool", "int", "str", "list", "tuple"]
theorem basic_cases {K : PySem.W.Frag} {H : Hp} {x : V} {t : String} (h : TyX K H x (.type t)) (m : t ∈ basics) :
    (x = .non ∧ t = "NoneType") ∨ (∃ b, x = .bl b ∧ t = "bool") ∨ (∃ i, x = .int i ∧ t = "int") ∨ (∃ z, x = .str z ∧ t = "str") ∨ (∃ a, x = .ref a ∧ (t = "list" ∨ t = "tuple")) := by
  generalize e : Value.type t = tv at h
  cases h with
  | base b =>
    cases b with
    | non => cases e; exact .inl ⟨rfl, rfl⟩
    | bl y => cases e; exact .inr (.inl ⟨y, rfl, rfl⟩)
    | int i => cases e; exact .inr (.inr (.inl ⟨i, rfl, rfl⟩))
    | str y => cases e; exact .inr (.inr (.inr (.inl ⟨y, rfl, rfl⟩)))
    | flt y => cases e; exact absurd m (by decide)
    | lst _ => cases e; exact .inr (.inr (.inr (.inr ⟨_, rfl, .inl rfl⟩)))
    | frz _ => cases e; exact .inr (.inr (.inr (.inr ⟨_, rfl, .inl rfl⟩)))
    | tup _ => cases e; exact .inr (.inr (.inr (.inr ⟨_, rfl, .inr rfl⟩)))
    | dK _ => cases e; exact absurd m (by decide)
    | dT _ => cases e; exact absurd m (by decide)
    | ins _ _ _ _ _ _ => cases e
  | byt _ => cases e; exact absurd m (by decide)
  | set _ => cases e; exact absurd m (by decide)
  | kList _ _ => cases e; exact .inr (.inr (.inr (.inr ⟨_, rfl, .inl rfl⟩)))
  | kTuple _ _ => cases e; exact .inr (.inr (.inr (.inr ⟨_, rfl, .inr rfl⟩)))
  | kDict _ _ => cases e; exact absurd m (by decide)
  | fTuple _ => cases e; exact .inr (.inr (.inr (.inr ⟨_, rfl, .inr rfl⟩)))
  | fDict _ => cases e; exact absurd m (by decide)
section
variable {P : Program} {w : World} {K : PySem.W.Frag} {mg : Str → Option Value} {base : Heap}
/-- what the program's own modules ask of the names -/
structure Blt (mg : Str → Option Value) : Prop where
  isi : mg "isinstance" = none
  int : mg "int" = none
  bool : mg "bool" = none
  str : mg "str" = none
  list : mg "list" = none
  tuple : mg "tuple" = none
  len : mg "len" = none
  all : mg "all" = none
  range : mg "range" = none
/-! ### a refusal without a field -/
def spErr (K : PySem.W.Frag) (C : Addr) (nm : Str) : Sp := fun vs H Q _ => ∃ a : Addr, vs = [.ref a] ∧ H a = some (exo a C none) ∧ ∀ d, H d = none → d ≠ a → Q .non (upd (upd H d (exd d [(("called" : Str), .str nm)])) a (exo a C (some d)))
/-- the class at C, its __init__ at fI -/
structure ErrC (K : PySem.W.Frag) (mg : Str → Option Value) (x : Str) (C fI : Addr) (fd : FuncData) (qual : Str) (st : Stmt) : Prop where
  gl : mg x = some (.ref C)
  ox : OexC K C
  it : PySem.W.findIn K (.ref C) "__init__" = some (some (.ref fI))
  ty : PySem.W.typeIn K (.ref fI) = some (.type "function")
  nc : PySem.W.findIn K (.ref C) "called" = some none
  fn : Fun K "__init__" qual st fI fd
  bd : Binds K fd ["self"] []
theorem ok_err {x qual nm : Str} {st : Stmt} {C fI : Addr} {fd : FuncData} {p1 p2 p3 p4 : Pos} {j : Nat} (Er : ErrC K mg x C fI fd qual st) (sc : FnScope ["self"] ["self"] (defScope st)) (v : Vis (defScope st) "self")
    (hb : defBody st = [.Assign [.Attribute (.Name "self" p1) "called" p2] (.Constant (.str nm) j p3) p4]) : FnOk P w K mg base CX0 1 fI fd ["self"] (spErr K C nm) := by
  refine Er.fn.ok sc (fun vs H Q E h => ?_) (fun cdv A outer s H vs Q E' hr h => ?_)
  · obtain ⟨a, rfl, _⟩ := h
    rfl
  · obtain ⟨a, rfl, ha, k⟩ := h
    rw [hb]
    refine ⟨_, pss_one (ps_ost (pe_var (i := 0) rfl v) pe_str), ?_⟩
    exact ⟨_, rfl, a, C, rfl, Er.ox, Er.nc, .inl ⟨ha, fun dx hd ne => k dx hd ne⟩⟩
theorem raise_plain {C : Addr} {nm : Str} {σ : L2.St} {H : Hp} {W : XK} (h : ∀ d, H d = none → W (.ref C) (some d) (upd H d (.xd [(("called" : Str), .str nm)]))) : tMkO0 C (spErr K C nm) σ H W := by
  intro a ha
  refine ⟨a, rfl, upd_same, fun d hd ne => ⟨rfl, d, [(("called" : Str), V.str nm)], upd_same, ?_, ?_, ?_⟩⟩
  · rw [upd_ne ne, upd_same]
  · rw [upd_ne ne] at hd
    exact hd
  · have hd' : H d = none := by
      rw [upd_ne ne] at hd
      exact hd
    have e : upd (del (upd (upd (upd H a (exo a C none)) d (exd d [(("called" : Str), V.str nm)])) a (exo a C (some d))) a) d (.xd [(("called" : Str), V.str nm)]) = upd H d (.xd [(("called" : Str), V.str nm)]) := by
      funext b
      by_cases hb : b = d
      · rw [hb, upd_same, upd_same]
      · rw [upd_ne hb, upd_ne hb]
        by_cases hba : b = a
        · rw [hba, del_same, ha]
        · rw [del_ne hba, upd_ne hba, upd_ne hb, upd_ne hba]
    rw [e]
    exact h d hd'
end
end VQ
namespace VQ
open PySem L2 LamX
theorem zfill_bin : ∀ n, n < 32 → Txt.zfill (binS n) 5 = fig n := by decide +kernel
section
variable {P : Program} {w : World} {K : PySem.W.Frag} {mg : Str → Option Value} {base : Heap}
def numB (lo hi : Int) : V → Bool
  | .int i => decide (lo ≤ i) && decide (i < hi)
  | _ => false
/-- whether a thing is a number from one bound to below another -/
def spIsNumber (K : PySem.W.Frag) : Sp := fun vs H Q _ => ∃ (x : V) (t : String) (lo hi : Int), vs = [x, .int lo, .int hi] ∧ TyX K H x (.type t) ∧ t ∈ basics ∧ Q (.bl (numB lo hi x)) H
theorem numB_worth (x : V) : numB 0 32 x = worthB x := by
  cases x <;> rfl
def spIsWorth (K : PySem.W.Frag) : Sp := fun vs H Q _ => ∃ (x : V) (t : String), vs = [x] ∧ TyX K H x (.type t) ∧ t ∈ basics ∧ Q (.bl (worthB x)) H
def spFigures (K : PySem.W.Frag) (C : Addr) : Sp := fun vs H Q E => ∃ (x : V) (t : String), vs = [x] ∧ TyX K H x (.type t) ∧ t ∈ basics ∧
  (∀ n : Nat, n < 32 → x = .int (n : Int) → Q (.str (fig n)) H) ∧ (worthB x = false → ∀ d, H d = none → E (.ref C) (some d) (upd H d (.xd [(("called" : Str), .str "BadWorth")])))
end
end VQ
namespace VQ
open PySem L2 LamX
/-- two things that are the same all through, to a depth -/
inductive Alike (H : Hp) : Nat → V → V → Prop
  | non (n : Nat) : Alike H n .non .non
  | bl (n : Nat) (b : Bool) : Alike H n (.bl b) (.bl b)
  | int (n : Nat) (i : Int) : Alike H n (.int i) (.int i)
  | str (n : Nat) (z : Str) : Alike H n (.str z) (.str z)
  | lst {n : Nat} {a b : Addr} {xs ys : List V} (ha : H a = some (.lst xs)) (hb : H b = some (.lst ys)) (hl : xs.length = ys.length) (hz : ys.length ≤ 1000) (h : ∀ (i : Nat) (x y : V), xs[i]? = some x → ys[i]? = some y → Alike H n x y) : Alike H (n + 1) (.ref a) (.ref b)
  | tup {n : Nat} {a b : Addr} {xs ys : List V} (ha : H a = some (.tup xs)) (hb : H b = some (.tup ys)) (hl : xs.length = ys.length) (hz : ys.length ≤ 1000) (h : ∀ (i : Nat) (x y : V), xs[i]? = some x → ys[i]? = some y → Alike H n x y) : Alike H (n + 1) (.ref a) (.ref b)
theorem Alike.same {H H' : Hp} (s : Same H H') {n : Nat} {x y : V} (h : Alike H n x y) : Alike H' n x y := by
  induction h with
  | non n => exact .non n
  | bl n b => exact .bl n b
  | int n i => exact .int n i
  | str n z => exact .str n z
  | lst ha hb hl hz _ ih => exact .lst (s _ _ ha) (s _ _ hb) hl hz ih
  | tup ha hb hl hz _ ih => exact .tup (s _ _ ha) (s _ _ hb) hl hz ih
def spSame (n : Nat) : Sp := fun vs H Q _ => ∃ x y, vs = [x, y] ∧ Alike H n x y ∧ ∀ H', Same H H' → Q (.bl true) H'
section
variable {P : Program} {w : World} {K : PySem.W.Frag} {mg : Str → Option Value} {base : Heap}
section
variable {X : Cx} {p p0 p1 p2 p3 pos : Pos} {i k : Nat} {y : Str}
/-- isinstance(y, n) -/
theorem pe_isi {n : Str} {c : String} (he : PE X (.Name y p0) (tVar i)) (g : Gl X "isinstance") (hm : X.mg "isinstance" = none) (gn : Gl X n) (hn : X.mg n = none) (hv : bootBuiltins n = some (.type c)) (n1 : n ≠ "__name__" := by decide) (n2 : (n == ("__debug__" : Str)) = false := by decide) :
    PE X (.Call (.Name "isinstance" p) [.Name y p0, .Name n p1] [] pos) (tCB (rIsi X.K) (tCons (tVar i) (tCons (tC (.ty c)) tNil))) :=
  pe_callB call_isi g hm (by decide +kernel) (pa_cons he (pa_cons (pe_bltn (v := .ty c) gn hn hv rfl n1 n2) pa_nil))
/-- isinstance(y, (int, str)) -/
theorem pe_isiT (he : PE X (.Name y p0) (tVar i)) (g : Gl X "isinstance") (hm : X.mg "isinstance" = none) (gi : Gl X "int") (hi : X.mg "int" = none) (gs : Gl X "str") (hs : X.mg "str" = none) :
    PE X (.Call (.Name "isinstance" p) [.Name y p0, .Tuple [.Name "int" p1, .Name "str" p2] k p3] [] pos) (tCB (rIsiT X.K) (tCons (tVar i) (tCons (tTup (tCons (tC (.ty "int")) (tCons (tC (.ty "str")) tNil))) tNil))) :=
  pe_callB call_isiT g hm (by decide +kernel) (pa_cons he (pa_cons (pe_tup (pa_cons (pe_bltn (v := .ty "int") gi hi (by decide +kernel) rfl) (pa_cons (pe_bltn (v := .ty "str") gs hs (by decide +kernel) rfl) pa_nil))) pa_nil))
end
theorem rd_isi {σ : L2.St} {H : Hp} {Q : VK} {i : Nat} {x : V} {t c : String} {b : Bool} (hx : σ[i]? = some (some x)) (ty : TyX K H x (.type t)) (kb : kitB t c = some b) (h : Q (.bl b) H) : tCB (rIsi K) (tCons (tVar i) (tCons (tC (.ty c)) tNil)) σ H Q :=
  ⟨x, hx, _, _, _, _, b, rfl, .ty c, ty, kit_ty kb, h⟩
theorem TyX.basic_same {H H' : Hp} {x : V} {t : String} (s : Same H H') (ty : TyX K H x (.type t)) (m : t ∈ basics) : TyX K H' x (.type t) := by
  generalize e : Value.type t = tv at ty
  cases ty with
  | base b =>
    cases b with
    | non => exact .base .non
    | bl y => exact .base (.bl y)
    | int i => exact .base (.int i)
    | str y => exact .base (.str y)
    | flt y => exact .base (.flt y)
    | lst q => exact .base (.lst (s _ _ q))
    | frz q => exact .base (.frz (s _ _ q))
    | tup q => exact .base (.tup (s _ _ q))
    | dK q => exact .base (.dK (s _ _ q))
    | dT q => exact .base (.dT (s _ _ q))
    | ins _ _ _ _ _ _ => cases e
  | byt y => exact .byt y
  | set q => exact .set (s _ _ q)
  | kList q c => exact .kList q c
  | kTuple q c => exact .kTuple q c
  | kDict q c => exact .kDict q c
  | fTuple q => exact .fTuple (s _ _ q)
  | fDict q => exact .fDict (s _ _ q)
end
end VQ
namespace VQ
open PySem L2 LamX
abbrev sSame : Stmt := top 41
section
variable {P : Program} {w : World} {K : PySem.W.Frag} {mg : Str → Option Value} {base : Heap}
theorem scSame : FnScope ["_law_found", "_law_due", "_law_at"] ["_law_found", "_law_due"] (defScope sSame) := ⟨rfl, rfl, rfl, by decide +kernel, rfl, by decide +kernel, by decide +kernel⟩
def anyIS (t : String) : Bool := t == "int" || t == "str" || t == "bool"
theorem rd_isiT {σ : L2.St} {H : Hp} {Q : VK} {i : Nat} {x : V} {t : String} {b : Bool} (hx : σ[i]? = some (some x)) (ty : TyX K H x (.type t)) (m : t ∈ basics) (kb : PySem.W.kitAny K (.type t) [.type "int", .type "str"] = some b) (h : ∀ H', Same H H' → Q (.bl b) H') :
    tCB (rIsiT K) (tCons (tVar i) (tCons (tTup (tCons (tC (.ty "int")) (tCons (tC (.ty "str")) tNil))) tNil)) σ H Q :=
  ⟨x, hx, (by show 2 ≤ sizeLine; decide), fun p hp => ⟨x, p, _, _, _, b, rfl, upd_same, .cons (.ty "int") (.cons (.ty "str") .nil), TyX.basic_same (same_new hp) ty m, kb, h _ (same_new hp)⟩⟩
theorem kIS {t : String} {b b' : Bool} (h1 : kitB t "int" = some b) (h2 : kitB t "str" = some b') : PySem.W.kitAny K (.type t) [.type "int", .type "str"] = some (b || b') := by
  refine kitAny_cons (kit_ty h1) (fun e => ?_) (fun e => by rw [e]; rfl)
  subst e
  refine kitAny_cons (kit_ty h2) (fun e => ?_) (fun e => by rw [e]; rfl)
  subst e
  rfl
/-- the scalars' three clauses: from the first to the third -/
theorem ok_same0 {f : Addr} {fd : FuncData} (F : Fun K "_law_same" "_law_same" sSame f fd) (b : Blt mg) : FnOk P w K mg base CX0 1 f fd ["_law_found", "_law_due"] (spSame 0) := by
  refine F.ok scSame (fun vs H Q E h => ?_) (fun cdv A outer s H vs Q E hr h => ?_)
  · obtain ⟨x, y, rfl, _⟩ := h
    rfl
  · obtain ⟨x, y, rfl, al, k⟩ := h
    refine ⟨_, pss_cons (ps_if (pt_cmp (pc_isN (pv 1))) (pss_one (ps_ret (pe_cmp (pc_isN (pv 0))))) pss_nil)
      (pss_cons (ps_if (PW.pt (pw_or (pt_val (pe_isi (pv 1) rfl b.isi rfl b.bool (c := "bool") (by decide +kernel))) (pw_or1 (pt_val (pe_isi (pv 0) rfl b.isi rfl b.bool (c := "bool") (by decide +kernel))))))
        (pss_one (ps_ret (pe_and (pe_isi (pv 1) rfl b.isi rfl b.bool (c := "bool") (by decide +kernel)) (pe_and (pe_isi (pv 0) rfl b.isi rfl b.bool (c := "bool") (by decide +kernel)) (pe_one (pe_cmpR op_eq (pv 0) (pv 1) (nomark _))))))) pss_nil)
      (pss_cons (ps_if (pt_val (pe_isiT (pv 1) rfl b.isi rfl b.int rfl b.str))
        (pss_one (ps_ret (pe_and (pe_cmpR op_eq (pe_isi (pv 0) rfl b.isi rfl b.int (c := "int") (by decide +kernel)) (pe_isi (pv 1) rfl b.isi rfl b.int (c := "int") (by decide +kernel)) (nomark _)) (pe_and (pe_isiT (pv 0) rfl b.isi rfl b.int rfl b.str) (pe_one (pe_cmpR op_eq (pv 0) (pv 1) (nomark _))))))) pss_nil)
      pss_never)), ?_⟩
    cases al with
    | non => exact ⟨_, rfl, _, rfl, iteT ⟨_, rfl, k H (Same.refl H)⟩⟩
    | bl _ c =>
      refine ⟨_, rfl, _, rfl, iteF ?_⟩
      refine rd_isi rfl (.base (.bl c)) (b := true) (by decide +kernel) ⟨_, rfl, iteT ?_⟩
      refine rd_isi rfl (.base (.bl c)) (b := true) (by decide +kernel) ⟨_, rfl, iteT ?_⟩
      refine rd_isi rfl (.base (.bl c)) (b := true) (by decide +kernel) ⟨_, rfl, iteT ?_⟩
      refine ⟨_, rfl, _, rfl, rfl, ?_⟩
      rw [decide_eq_true rfl]
      exact k H (Same.refl H)
    | int _ i =>
      refine ⟨_, rfl, _, rfl, iteF ?_⟩
      refine rd_isi rfl (.base (.int i)) (b := false) (by decide +kernel) ⟨_, rfl, iteF ?_⟩
      refine rd_isi rfl (.base (.int i)) (b := false) (by decide +kernel) ⟨_, rfl, iteF ?_⟩
      refine rd_isiT rfl (.base (.int i)) (by decide) (kIS (b := true) (b' := false) (by decide +kernel) (by decide +kernel)) fun H1 s1 => ⟨_, rfl, iteT ?_⟩
      refine rd_isi rfl (.base (.int i)) (b := true) (by decide +kernel) ?_
      refine rd_isi rfl (.base (.int i)) (b := true) (by decide +kernel) ⟨rfl, _, rfl, iteT ?_⟩
      refine rd_isiT rfl (.base (.int i)) (by decide) (kIS (b := true) (b' := false) (by decide +kernel) (by decide +kernel)) fun H2 s2 => ⟨_, rfl, iteT ?_⟩
      refine ⟨_, rfl, _, rfl, rfl, ?_⟩
      rw [decide_eq_true rfl]
      exact k H2 (s1.trans s2)
    | str _ z =>
      refine ⟨_, rfl, _, rfl, iteF ?_⟩
      refine rd_isi rfl (.base (.str z)) (b := false) (by decide +kernel) ⟨_, rfl, iteF ?_⟩
      refine rd_isi rfl (.base (.str z)) (b := false) (by decide +kernel) ⟨_, rfl, iteF ?_⟩
      refine rd_isiT rfl (.base (.str z)) (by decide) (kIS (b := false) (b' := true) (by decide +kernel) (by decide +kernel)) fun H1 s1 => ⟨_, rfl, iteT ?_⟩
      refine rd_isi rfl (.base (.str z)) (b := false) (by decide +kernel) ?_
      refine rd_isi rfl (.base (.str z)) (b := false) (by decide +kernel) ⟨rfl, _, rfl, iteT ?_⟩
      refine rd_isiT rfl (.base (.str z)) (by decide) (kIS (b := false) (b' := true) (by decide +kernel) (by decide +kernel)) fun H2 s2 => ⟨_, rfl, iteT ?_⟩
      refine ⟨_, rfl, _, rfl, rfl, ?_⟩
      rw [decide_eq_true rfl]
      exact k H2 (s1.trans s2)
theorem ok_sameS {f : Addr} {fd : FuncData} {n lv : Nat} (A1 : At K mg "_law_same" sSame ["_law_found", "_law_due"] f fd) (b : Blt mg) (G : FnOk P w K mg base CX0 lv f fd ["_law_found", "_law_due"] (spSame n)) : FnOk P w K mg base CX0 (lv + 1) f fd ["_law_found", "_law_due"] (spSame (n + 1)) := by
  have F := A1.fn
  refine F.ok scSame (fun vs H Q E h => ?_) (fun cdv A outer s H vs Q E hr h => ?_)
  · obtain ⟨x, y, rfl, _⟩ := h
    rfl
  · obtain ⟨x, y, rfl, al, k⟩ := h
    refine ⟨_, pss_cons (ps_if (pt_cmp (pc_isN (pv 1))) (pss_one (ps_ret (pe_cmp (pc_isN (pv 0))))) pss_nil)
      (pss_cons (ps_if (PW.pt (pw_or (pt_val (pe_isi (pv 1) rfl b.isi rfl b.bool (c := "bool") (by decide +kernel))) (pw_or1 (pt_val (pe_isi (pv 0) rfl b.isi rfl b.bool (c := "bool") (by decide +kernel))))))
        (pss_one (ps_ret (pe_and (pe_isi (pv 1) rfl b.isi rfl b.bool (c := "bool") (by decide +kernel)) (pe_and (pe_isi (pv 0) rfl b.isi rfl b.bool (c := "bool") (by decide +kernel)) (pe_one (pe_cmpR op_eq (pv 0) (pv 1) (nomark _))))))) pss_nil)
      (pss_cons (ps_if (pt_val (pe_isiT (pv 1) rfl b.isi rfl b.int rfl b.str))
        (pss_one (ps_ret (pe_and (pe_cmpR op_eq (pe_isi (pv 0) rfl b.isi rfl b.int (c := "int") (by decide +kernel)) (pe_isi (pv 1) rfl b.isi rfl b.int (c := "int") (by decide +kernel)) (nomark _)) (pe_and (pe_isiT (pv 0) rfl b.isi rfl b.int rfl b.str) (pe_one (pe_cmpR op_eq (pv 0) (pv 1) (nomark _))))))) pss_nil)
      (pss_cons (ps_if (PW.pt (pw_or (pt_cmpR op_ne (pe_isi (pv 0) rfl b.isi rfl b.list (c := "list") (by decide +kernel)) (pe_isi (pv 1) rfl b.isi rfl b.list (c := "list") (by decide +kernel)) (nomark _))
          (pw_or1 (pt_cmpR op_ne (pe_isi (pv 0) rfl b.isi rfl b.tuple (c := "tuple") (by decide +kernel)) (pe_isi (pv 1) rfl b.isi rfl b.tuple (c := "tuple") (by decide +kernel)) (nomark _)))))
        (pss_one (ps_ret pe_bl)) pss_nil)
      (pss_one (ps_ret (pe_and (pe_cmpR op_eq (pe_callB call_len_seq (by rfl) b.len PySem.boot_len (pa_cons (pv 0) pa_nil)) (pe_callB call_len_seq (by rfl) b.len PySem.boot_len (pa_cons (pv 1) pa_nil)) (nomark _))
        (pe_one (pe_callB (cr_all rfl) (by rfl) b.all (by decide +kernel) (pa_cons
          (pe_lc (own := [("_law_at", 2)]) (g := gName 2) (tt := tYes) (te := tCall (spSame n) [] E0 (tCons (tOp (rIx K) (tVar 0) (tVar 2)) (tCons (tOp (rIx K) (tVar 1) (tVar 2)) tNil))) rfl scSame.nd (pi_range1 rfl b.range (pa_cons (pe_callB call_len_seq (by rfl) b.len PySem.boot_len (pa_cons (pv 1) pa_nil)) pa_nil))
            (blkOk_by (N := ["_law_found", "_law_due", "_law_at"]) (sc := defScope sSame) (by decide +kernel)) (fun _ _ _ _ _ => pg_name (i := 2) scSame.nd rfl (.inl rfl)) (fun _ _ _ _ _ => pts_nil)
            (fun _ _ _ _ _ => pe_call G hr rfl A1.gl A1.fn.kp A1.bd .nil pass0 (pa_cons (pe_ix ix_seq (pv 0) (pv 2) fun _ _ => rfl) (pa_cons (pe_ix ix_seq (pv 1) (pv 2) fun _ _ => rfl) pa_nil)))) pa_nil)))))))))
      , ?_⟩
    cases al with
    | non => exact ⟨_, rfl, _, rfl, iteT ⟨_, rfl, k H (Same.refl H)⟩⟩
    | bl _ c =>
      refine ⟨_, rfl, _, rfl, iteF ?_⟩
      refine rd_isi rfl (.base (.bl c)) (b := true) (by decide +kernel) ⟨_, rfl, iteT ?_⟩
      refine rd_isi rfl (.base (.bl c)) (b := true) (by decide +kernel) ⟨_, rfl, iteT ?_⟩
      refine rd_isi rfl (.base (.bl c)) (b := true) (by decide +kernel) ⟨_, rfl, iteT ?_⟩
      refine ⟨_, rfl, _, rfl, rfl, ?_⟩
      rw [decide_eq_true rfl]
      exact k H (Same.refl H)
    | int _ i =>
      refine ⟨_, rfl, _, rfl, iteF ?_⟩
      refine rd_isi rfl (.base (.int i)) (b := false) (by decide +kernel) ⟨_, rfl, iteF ?_⟩
      refine rd_isi rfl (.base (.int i)) (b := false) (by decide +kernel) ⟨_, rfl, iteF ?_⟩
      refine rd_isiT rfl (.base (.int i)) (by decide) (kIS (b := true) (b' := false) (by decide +kernel) (by decide +kernel)) fun H1 s1 => ⟨_, rfl, iteT ?_⟩
      refine rd_isi rfl (.base (.int i)) (b := true) (by decide +kernel) ?_
      refine rd_isi rfl (.base (.int i)) (b := true) (by decide +kernel) ⟨rfl, _, rfl, iteT ?_⟩
      refine rd_isiT rfl (.base (.int i)) (by decide) (kIS (b := true) (b' := false) (by decide +kernel) (by decide +kernel)) fun H2 s2 => ⟨_, rfl, iteT ?_⟩
      refine ⟨_, rfl, _, rfl, rfl, ?_⟩
      rw [decide_eq_true rfl]
      exact k H2 (s1.trans s2)
    | str _ z =>
      refine ⟨_, rfl, _, rfl, iteF ?_⟩
      refine rd_isi rfl (.base (.str z)) (b := false) (by decide +kernel) ⟨_, rfl, iteF ?_⟩
      refine rd_isi rfl (.base (.str z)) (b := false) (by decide +kernel) ⟨_, rfl, iteF ?_⟩
      refine rd_isiT rfl (.base (.str z)) (by decide) (kIS (b := false) (b' := true) (by decide +kernel) (by decide +kernel)) fun H1 s1 => ⟨_, rfl, iteT ?_⟩
      refine rd_isi rfl (.base (.str z)) (b := false) (by decide +kernel) ?_
      refine rd_isi rfl (.base (.str z)) (b := false) (by decide +kernel) ⟨rfl, _, rfl, iteT ?_⟩
      refine rd_isiT rfl (.base (.str z)) (by decide) (kIS (b := false) (b' := true) (by decide +kernel) (by decide +kernel)) fun H2 s2 => ⟨_, rfl, iteT ?_⟩
      refine ⟨_, rfl, _, rfl, rfl, ?_⟩
      rw [decide_eq_true rfl]
      exact k H2 (s1.trans s2)
    | @lst _ a c xs ys ha hc hl hz hh =>
      have tyA : ∀ H', Same H H' → TyX K H' (.ref a) (.type "list") := fun H' s' => .base (.lst (s' _ _ ha))
      have tyC : ∀ H', Same H H' → TyX K H' (.ref c) (.type "list") := fun H' s' => .base (.lst (s' _ _ hc))
      refine ⟨_, rfl, _, rfl, iteF ?_⟩
      refine rd_isi rfl (tyC H (Same.refl H)) (b := false) (by decide +kernel) ⟨_, rfl, iteF ?_⟩
      refine rd_isi rfl (tyA H (Same.refl H)) (b := false) (by decide +kernel) ⟨_, rfl, iteF ?_⟩
      refine rd_isiT rfl (tyC H (Same.refl H)) (by decide) (kIS (b := false) (b' := false) (by decide +kernel) (by decide +kernel)) fun H1 s1 => ⟨_, rfl, iteF ?_⟩
      refine rd_isi rfl (tyA H1 s1) (b := true) (by decide +kernel) ?_
      refine rd_isi rfl (tyC H1 s1) (b := true) (by decide +kernel) ⟨rfl, _, rfl, iteF ?_⟩
      refine rd_isi rfl (tyA H1 s1) (b := false) (by decide +kernel) ?_
      refine rd_isi rfl (tyC H1 s1) (b := false) (by decide +kernel) ⟨rfl, _, rfl, iteF ?_⟩
      refine ⟨_, rfl, a, xs, rfl, .inl (SqL.of (s1 _ _ ha)), _, rfl, c, ys, rfl, .inl (SqL.of (s1 _ _ hc)), rfl, _, rfl, ?_⟩
      rw [hl, decide_eq_true rfl]
      refine iteT ?_
      refine ⟨_, rfl, c, ys, rfl, .inl (SqL.of (s1 _ _ hc)), (ys.length : Int), rfl, by omega, by omega, fun D hD => ?_⟩
      rw [Int.toNat_natCast]
      refine lc_range (lo := 0) (n := ys.length) (fun i H' => Same H1 H' ∧ H' D = some (.lst ((List.replicate i true).map V.bl))) ⟨same_new hD, upd_same⟩ ?_ ?_
      · rintro i H2 hi ⟨s2, h2⟩
        refine ⟨rfl, ?_⟩
        refine iteT (B := Same H1 H2 ∧ H2 D = some (HO.lst ((List.replicate (i + 1) true).map V.bl))) ?_
        have hx : xs[i]? = some (xs[i]'(by omega)) := List.getElem?_eq_getElem _
        have hy : ys[i]? = some (ys[i]'hi) := List.getElem?_eq_getElem _
        have e00 : (0 : Int) + (i : Int) = (i : Int) := Int.zero_add _
        refine ⟨_, rfl, _, rfl, .inl ⟨a, xs, _, _, rfl, rfl, SqL.of (s2 _ _ (s1 _ _ ha)), (by rw [e00]; exact atI_nat hx), ?_⟩⟩
        refine ⟨_, rfl, _, rfl, .inl ⟨c, ys, _, _, rfl, rfl, SqL.of (s2 _ _ (s1 _ _ hc)), (by rw [e00]; exact atI_nat hy), ?_⟩⟩
        refine ⟨_, _, rfl, (hh i _ _ hx hy).same (s1.trans s2), fun H3 s3 => ?_⟩
        refine ⟨_, s3 _ _ h2, ?_, ?_, ?_⟩
        · rw [List.length_map, List.length_replicate]
          exact Nat.lt_of_lt_of_le (by omega : i < 1001) (by decide)
        · intro q o e
          have nq : q ≠ D := fun z => by
            rw [z, hD] at e
            cases e
          rw [upd_ne nq]
          exact s3 _ _ (s2 _ _ e)
        · rw [upd_same, List.replicate_succ', List.map_append]
          rfl
      · rintro H2 ⟨s2, h2⟩
        refine ⟨D, _, rfl, SqL.of h2, ?_⟩
        rw [show (List.replicate ys.length true).all id = true by simp]
        exact k H2 (s1.trans s2)
    | @tup _ a c xs ys ha hc hl hz hh =>
      have tyA : ∀ H', Same H H' → TyX K H' (.ref a) (.type "tuple") := fun H' s' => .base (.tup (s' _ _ ha))
      have tyC : ∀ H', Same H H' → TyX K H' (.ref c) (.type "tuple") := fun H' s' => .base (.tup (s' _ _ hc))
      refine ⟨_, rfl, _, rfl, iteF ?_⟩
      refine rd_isi rfl (tyC H (Same.refl H)) (b := false) (by decide +kernel) ⟨_, rfl, iteF ?_⟩
      refine rd_isi rfl (tyA H (Same.refl H)) (b := false) (by decide +kernel) ⟨_, rfl, iteF ?_⟩
      refine rd_isiT rfl (tyC H (Same.refl H)) (by decide) (kIS (b := false) (b' := false) (by decide +kernel) (by decide +kernel)) fun H1 s1 => ⟨_, rfl, iteF ?_⟩
      refine rd_isi rfl (tyA H1 s1) (b := false) (by decide +kernel) ?_
      refine rd_isi rfl (tyC H1 s1) (b := false) (by decide +kernel) ⟨rfl, _, rfl, iteF ?_⟩
      refine rd_isi rfl (tyA H1 s1) (b := true) (by decide +kernel) ?_
      refine rd_isi rfl (tyC H1 s1) (b := true) (by decide +kernel) ⟨rfl, _, rfl, iteF ?_⟩
      refine ⟨_, rfl, a, xs, rfl, .inr (SqT.of (s1 _ _ ha)), _, rfl, c, ys, rfl, .inr (SqT.of (s1 _ _ hc)), rfl, _, rfl, ?_⟩
      rw [hl, decide_eq_true rfl]
      refine iteT ?_
      refine ⟨_, rfl, c, ys, rfl, .inr (SqT.of (s1 _ _ hc)), (ys.length : Int), rfl, by omega, by omega, fun D hD => ?_⟩
      rw [Int.toNat_natCast]
      refine lc_range (lo := 0) (n := ys.length) (fun i H' => Same H1 H' ∧ H' D = some (.lst ((List.replicate i true).map V.bl))) ⟨same_new hD, upd_same⟩ ?_ ?_
      · rintro i H2 hi ⟨s2, h2⟩
        refine ⟨rfl, ?_⟩
        refine iteT (B := Same H1 H2 ∧ H2 D = some (HO.lst ((List.replicate (i + 1) true).map V.bl))) ?_
        have hx : xs[i]? = some (xs[i]'(by omega)) := List.getElem?_eq_getElem _
        have hy : ys[i]? = some (ys[i]'hi) := List.getElem?_eq_getElem _
        have e00 : (0 : Int) + (i : Int) = (i : Int) := Int.zero_add _
        refine ⟨_, rfl, _, rfl, .inr (.inl ⟨a, xs, _, _, rfl, rfl, SqT.of (s2 _ _ (s1 _ _ ha)), (by rw [e00]; exact atI_nat hx), ?_⟩)⟩
        refine ⟨_, rfl, _, rfl, .inr (.inl ⟨c, ys, _, _, rfl, rfl, SqT.of (s2 _ _ (s1 _ _ hc)), (by rw [e00]; exact atI_nat hy), ?_⟩)⟩
        refine ⟨_, _, rfl, (hh i _ _ hx hy).same (s1.trans s2), fun H3 s3 => ?_⟩
        refine ⟨_, s3 _ _ h2, ?_, ?_, ?_⟩
        · rw [List.length_map, List.length_replicate]
          exact Nat.lt_of_lt_of_le (by omega : i < 1001) (by decide)
        · intro q o e
          have nq : q ≠ D := fun z => by
            rw [z, hD] at e
            cases e
          rw [upd_ne nq]
          exact s3 _ _ (s2 _ _ e)
        · rw [upd_same, List.replicate_succ', List.map_append]
          rfl
      · rintro H2 ⟨s2, h2⟩
        refine ⟨D, _, rfl, SqL.of h2, ?_⟩
        rw [show (List.replicate ys.length true).all id = true by simp]
        exact k H2 (s1.trans s2)
/-- to any depth -/
theorem ok_same {f : Addr} {fd : FuncData} (A1 : At K mg "_law_same" sSame ["_law_found", "_law_due"] f fd) (b : Blt mg) : ∀ n : Nat, FnOk P w K mg base CX0 (n + 1) f fd ["_law_found", "_law_due"] (spSame n)
  | 0 => ok_same0 A1.fn b
  | n + 1 => ok_sameS A1 b (ok_same A1 b n)
end
end VQ
namespace VQ
open PySem L2 LamX
/-! ### walks over a text -/
theorem lc_text {z : Str} {g : TG} {tt : TT} {te : TE} {vs : List Nat} {σ : L2.St} {H1 : Hp} {D : Addr} {Qd : Hp → Prop} (Pv : Nat → Hp → Prop) (h0 : Pv 0 (upd H1 D (.lst [])))
    (turn : ∀ (i c : Nat) (H : Hp), z.cps[i]? = some c → Pv i H → g (.str ⟨#[c]⟩) (wipe σ vs) H fun σ2 H2 => wipe σ2 vs = wipe σ vs ∧ tt σ2 H2 fun b H3 => if b = true then te σ2 H3 fun y H4 => ∃ acc, H4 D = some (.lst acc) ∧ acc.length < sizeLine ∧ Pv (i + 1) (upd H4 D (.lst (acc ++ [y]))) else Pv (i + 1) H3)
    (fin : ∀ H, Pv z.cps.size H → Qd H) :
    ∃ W : Nat → Nat → Hp → Prop, (∃ m, W 0 m (upd H1 D (.lst []))) ∧ ∀ i m H, W i m H → ((Its z).stop i H ∧ Qd H) ∨ ((Its z).go i H ∧ ∃ Nx : Hp → Prop, (∀ H', Nx H' → ∃ m', m' < m ∧ W (i + 1) m' H') ∧
      ∀ x H', (Its z).yld i H x H' → g x (wipe σ vs) H' fun σ2 H2 => wipe σ2 vs = wipe σ vs ∧ tt σ2 H2 fun b H3 => if b = true then te σ2 H3 fun y H4 => ∃ acc, H4 D = some (.lst acc) ∧ acc.length < sizeLine ∧ Nx (upd H4 D (.lst (acc ++ [y]))) else Nx H3) := by
  refine ⟨fun i m H => m + i = z.cps.size ∧ Pv i H, ⟨z.cps.size, by simp, h0⟩, ?_⟩
  rintro i m H ⟨em, p⟩
  by_cases lt : i < z.cps.size
  · refine .inr ⟨lt, Pv (i + 1), fun H' p' => ⟨m - 1, by omega, by omega, p'⟩, ?_⟩
    rintro x H' ⟨rfl, c, ec, rfl⟩
    exact turn i c H' ec p
  · have e : i = z.cps.size := by omega
    subst e
    exact .inl ⟨Nat.le_refl _, fin H p⟩
theorem for_text {z : Str} {g : TG} {tb : TS} {D : Ends} {σ : L2.St} {H : Hp} (Pv : Nat → L2.St → Hp → Prop) (h0 : Pv 0 σ H)
    (turn : ∀ (i c : Nat) σ H, z.cps[i]? = some c → Pv i σ H → g (.str ⟨#[c]⟩) σ H fun σ2 H2 => tb { D with nx := Pv (i + 1), ct := Pv (i + 1), bk := D.nx } σ2 H2) (fin : ∀ σ H, Pv z.cps.size σ H → D.nx σ H) :
    ∃ W : Nat → Nat → L2.St → Hp → Prop, (∃ m, W 0 m σ H) ∧ ∀ i m σ H, W i m σ H → ((Its z).stop i H ∧ D.nx σ H) ∨ ((Its z).go i H ∧ ∃ Nx : L2.St → Hp → Prop, (∀ σ' H', Nx σ' H' → ∃ m', m' < m ∧ W (i + 1) m' σ' H') ∧
      ∀ x H', (Its z).yld i H x H' → g x σ H' fun σ2 H2 => tb { D with nx := Nx, ct := Nx, bk := D.nx } σ2 H2) := by
  refine ⟨fun i m σ H => m + i = z.cps.size ∧ Pv i σ H, ⟨z.cps.size, by simp, h0⟩, ?_⟩
  rintro i m σ H ⟨em, p⟩
  by_cases lt : i < z.cps.size
  · refine .inr ⟨lt, Pv (i + 1), fun σ' H' p' => ⟨m - 1, by omega, by omega, p'⟩, ?_⟩
    rintro x H' ⟨rfl, c, ec, rfl⟩
    exact turn i c σ H' ec p
  · have e : i = z.cps.size := by omega
    subst e
    exact .inl ⟨Nat.le_refl _, fin σ H p⟩
/-! ### beginnings: the sixty-three of them -/
def tk (z : Str) (k : Nat) : Str := ⟨(z.cps.toList.take k).toArray⟩
def begs : List Str := (List.range 6).flatMap fun k => (List.range (2 ^ k)).map fun j => tk (fig (j * 2 ^ (5 - k))) k
theorem tk_in : ∀ w, w < 32 → ∀ k, k < 6 → tk (fig w) k ∈ begs := by decide +kernel
def signB (c : Nat) : Bool := decide (c ∈ [48, 49])
def begB : V → Bool
  | .str z => decide (z.length ≤ 5) && z.cps.toList.all signB
  | _ => false
theorem begs_yes : ∀ z ∈ begs, begB (.str z) = true := by decide +kernel
theorem begs_len : ∀ z ∈ begs, z.length ≤ 5 := by decide +kernel
abbrev calledAs (nm : Str) : HO := .xd [(("called" : Str), .str nm)]
/-- a comprehension without a test -/
theorem yes_turn {σ : L2.St} {H : Hp} {A B : Hp → Prop} (h : A H) : tYes σ H fun b H3 => if b = true then A H3 else B H3 := by
  show if true = true then A H else B H
  rw [if_pos rfl]
  exact h
end VQ
namespace VQ
open PySem L2 LamX
section
variable {P : Program} {w : World} {K : PySem.W.Frag} {mg : Str → Option Value} {base : Heap}
/-- a text is no longer than can be read -/
def Short : V → Prop
  | .str z => z.length ≤ 1000
  | _ => True
def spIsBeg (K : PySem.W.Frag) : Sp := fun vs H Q _ => ∃ (x : V) (t : String), vs = [x] ∧ TyX K H x (.type t) ∧ t ∈ basics ∧ Short x ∧ ∀ H', Same H H' → Q (.bl (begB x)) H'
end
end VQ
namespace VQ
open PySem L2 LamX
def lastC (z : Str) : Nat := z.cps.toList.getLastD 0
def dropL (z : Str) : Str := ⟨z.cps.toList.dropLast.toArray⟩
def flip (c : Nat) : Str := if c = 48 then "1" else "0"
def bro (z : Str) : Str := dropL z ++ flip (lastC z)
theorem bro_cut : ∀ z ∈ begs, z ≠ ("" : Str) → atI z.cps.toList (-1) = some (lastC z) ∧ cutS z none (some (-1)) = dropL z ∧ (dropL z).length ≤ 5 ∧ (lastC z = 48 ∨ lastC z = 49) := by decide +kernel
theorem bro_in : ∀ z ∈ begs, z ≠ ("" : Str) → bro z ∈ begs ∧ bro z ≠ ("" : Str) ∧ bro (bro z) = z := by decide +kernel
theorem cut_to (z : Str) (k : Nat) : cutS z none (some (k : Int)) = tk z k := by
  unfold cutS tk
  rw [HT.sIx_none, HT.sIx_nat, List.drop_zero, Nat.sub_zero, show z.length = z.cps.toList.length by simp [Str.length]]
  by_cases le : k ≤ z.cps.toList.length
  · rw [Nat.min_eq_left le]
  · have le' : z.cps.toList.length ≤ k := by omega
    rw [Nat.min_eq_right le', List.take_of_length_le (Nat.le_refl _), List.take_of_length_le le']
end VQ
namespace VQ
open PySem L2 LamX
/-! ### beginnings by their signs -/
theorem begB_iff {z : Str} : begB (.str z) = true ↔ z.length ≤ 5 ∧ ∀ c ∈ z.cps.toList, signB c = true := by
  show (decide (z.length ≤ 5) && z.cps.toList.all signB) = true ↔ _
  rw [Bool.and_eq_true, decide_eq_true_eq, List.all_eq_true]
theorem sign_two {c : Nat} (h : signB c = true) : c = 48 ∨ c = 49 := by
  have := of_decide_eq_true h
  simpa using this
theorem begs_list : ∀ l : List Nat, l.length ≤ 5 → (∀ c ∈ l, signB c = true) → (⟨l.toArray⟩ : Str) ∈ begs
  | [], _, _ => by decide +kernel
  | [a], _, h => by
    rcases sign_two (h a (by simp)) with rfl | rfl <;> decide +kernel
  | [a, b], _, h => by
    rcases sign_two (h a (by simp)) with rfl | rfl <;> rcases sign_two (h b (by simp)) with rfl | rfl <;> decide +kernel
  | [a, b, c], _, h => by
    rcases sign_two (h a (by simp)) with rfl | rfl <;> rcases sign_two (h b (by simp)) with rfl | rfl <;> rcases sign_two (h c (by simp)) with rfl | rfl <;> decide +kernel
  | [a, b, c, d], _, h => by
    rcases sign_two (h a (by simp)) with rfl | rfl <;> rcases sign_two (h b (by simp)) with rfl | rfl <;> rcases sign_two (h c (by simp)) with rfl | rfl <;> rcases sign_two (h d (by simp)) with rfl | rfl <;> decide +kernel
  | [a, b, c, d, e], _, h => by
    rcases sign_two (h a (by simp)) with rfl | rfl <;> rcases sign_two (h b (by simp)) with rfl | rfl <;> rcases sign_two (h c (by simp)) with rfl | rfl <;> rcases sign_two (h d (by simp)) with rfl | rfl <;> rcases sign_two (h e (by simp)) with rfl | rfl <;> decide +kernel
  | _ :: _ :: _ :: _ :: _ :: _ :: _, h, _ => absurd h (by simp)
theorem beg_mem {z : Str} (h1 : z.length ≤ 5) (h2 : ∀ c ∈ z.cps.toList, signB c = true) : z ∈ begs := by
  have e : z = ⟨z.cps.toList.toArray⟩ := StrLaws.mk_of_toList rfl
  rw [e]
  exact begs_list _ (by simpa [Str.length] using h1) h2
theorem beg_signs {z : Str} (h : z ∈ begs) : ∀ c ∈ z.cps.toList, signB c = true := (begB_iff.mp (begs_yes z h)).2
theorem sign_bit (n : Nat) : signB (48 + n % 2) = true := by
  rcases Nat.mod_two_eq_zero_or_one n with h | h <;> rw [h] <;> rfl
theorem figLow_signs (w : Nat) : ∀ i, ∀ c ∈ (figLow w i).cps.toList, signB c = true
  | 0, c, m => by cases m
  | i + 1, c, m => by
    have m' : c ∈ (#[48 + w / 2 ^ i % 2] ++ (figLow w i).cps).toList := m
    rw [Array.toList_append] at m'
    rcases List.mem_append.mp m' with m | m
    · have e : c = 48 + w / 2 ^ i % 2 := by simpa using m
      rw [e]
      exact sign_bit _
    · exact figLow_signs w i c m
theorem fig_signs (w : Nat) : ∀ c ∈ (fig w).cps.toList, signB c = true := figLow_signs w 5
theorem fig_len (w : Nat) : (fig w).length = 5 := figLow_len w 5
theorem fig_in (w : Nat) : fig w ∈ begs := beg_mem (by rw [fig_len]; decide) (fig_signs w)
theorem tk_list (z : Str) (k : Nat) : (tk z k).cps.toList = z.cps.toList.take k := by simp [tk]
theorem tk_len (z : Str) (k : Nat) : (tk z k).length = min k z.length := by simp [tk, Str.length]
theorem tk_beg {z : Str} (h : ∀ c ∈ z.cps.toList, signB c = true) {k : Nat} (hk : k ≤ 5) : tk z k ∈ begs := by
  refine beg_mem (by rw [tk_len]; omega) fun c m => ?_
  rw [tk_list] at m
  exact h c (List.mem_of_mem_take m)
theorem app_signs {a b : Str} (ha : ∀ c ∈ a.cps.toList, signB c = true) (hb : ∀ c ∈ b.cps.toList, signB c = true) : ∀ c ∈ (a ++ b).cps.toList, signB c = true := fun c m => by
  rw [Str.cps_append, Array.toList_append] at m
  rcases List.mem_append.mp m with m | m
  · exact ha c m
  · exact hb c m
theorem m_tk (z : Str) (h : z ∈ begs) (k : Nat) (hk : k < 6) : tk z k ∈ begs := tk_beg (beg_signs h) (by omega)
theorem m_more (z : Str) (h : z ∈ begs) (w : Nat) (_ : w < 32) : tk (z ++ fig w) 5 ∈ begs ∧ (z ++ fig w).length ≤ 10 := by
  refine ⟨tk_beg (app_signs (beg_signs h) (fig_signs w)) (Nat.le_refl 5), ?_⟩
  rw [Str.length_append, fig_len]
  have := begs_len z h
  omega
/-- z begins with u, by the law -/
def beginsB (z u : Str) : Bool := decide (tk z u.length = u)
theorem st_eq (a b : Str) : Txt.startswith a b = beginsB a b := by
  unfold Txt.startswith beginsB
  rw [StrLaws.subAt_eq, List.drop_zero, Bool.eq_iff_iff, Bool.and_eq_true, decide_eq_true_eq, decide_eq_true_eq, beq_iff_eq]
  constructor
  · rintro ⟨_, e⟩
    have q : (tk a b.length).cps.toList = b.cps.toList := by rw [tk_list]; exact e
    exact Str.ext' (Array.toList_inj.mp q)
  · intro e
    have q : (tk a b.length).cps.toList = b.cps.toList := by rw [e]
    rw [tk_list] at q
    refine ⟨?_, q⟩
    have l := congrArg List.length q
    rw [List.length_take] at l
    have l1 : b.cps.toList.length = b.length := by simp [Str.length]
    have l2 : a.cps.toList.length = a.length := by simp [Str.length]
    omega
theorem begins_len {a b : Str} (h : beginsB a b = true) : b.length ≤ a.length := by
  have e := congrArg Str.length (of_decide_eq_true h)
  rw [tk_len] at e
  omega
theorem tk_all (a : Str) : tk a a.length = a := by
  refine Str.ext' (Array.toList_inj.mp ?_)
  rw [tk_list]
  exact List.take_of_length_le (by simp [Str.length])
theorem begins_eq {a b : Str} (h : beginsB a b = true) (l : a.length ≤ b.length) : a = b := by
  have e := of_decide_eq_true h
  rw [show b.length = a.length by have := begins_len h; omega, tk_all] at e
  exact e
theorem begins_self (a : Str) : beginsB a a = true := decide_eq_true (tk_all a)
end VQ
namespace VQ
open PySem L2 LamX
/-- the worths under a beginning -/
def underN (z : Str) : List Nat := (List.range 32).filter fun w => decide (tk (fig w) z.length = z)
def underL (z : Str) : List Int := (underN z).map Int.ofNat
theorem cut_any (z : Str) (k : Nat) : cutS z none (some (k : Int)) = tk z k := by
  unfold cutS tk
  rw [HT.sIx_none, HT.sIx_nat, List.drop_zero, Nat.sub_zero]
  have e : z.length = z.cps.toList.length := by simp [Str.length]
  rw [e]
  by_cases le : k ≤ z.cps.toList.length
  · rw [Nat.min_eq_left le]
  · rw [Nat.min_eq_right (by omega), List.take_of_length_le (Nat.le_refl _), List.take_of_length_le (by omega)]
section
variable {P : Program} {w : World} {K : PySem.W.Frag} {mg : Str → Option Value} {base : Heap}
def spUnder : Sp := fun vs H Q _ => ∃ z : Str, vs = [.str z] ∧ z.length ≤ 1000 ∧ ∀ (p : Addr) (H' : Hp), H p = none → Same H H' → H' p = some (.lst ((underL z).map V.int)) → Q (.ref p) H'
end
end VQ
namespace VQ
open PySem L2 LamX
/-! ### what the laws' own bodies share -/
theorem Tabs.keep {T : List (Addr × Str)} {H H' : Hp} {b : Addr} (t : Tabs T H) (B : Bag H b) (k : Keep b H H') : Tabs T H' := fun p hp => by
  obtain ⟨l, ns, i, r, x, n, nl, h1, _⟩ := B
  obtain ⟨ps, a1, a2, a3⟩ := t p hp
  refine ⟨ps, k.1 _ _ (fun z => ?_) a1, a2, fun pos cv hc => ?_⟩
  · rw [z, h1] at a1
    cases a1
  · obtain ⟨c, e1, e2⟩ := a3 pos cv hc
    refine ⟨c, e1, k.1 _ _ (fun z => ?_) e2⟩
    rw [z, h1] at e2
    cases e2
theorem Bag.extN {H H' : Hp} {b : Addr} (B : Bag H b) (e : ExtN H H') : Bag H' b := by
  obtain ⟨l, ns, i, r, x, n, nl, h1, h2, h3⟩ := B
  exact ⟨l, ns, i, r, x, n, nl, e _ _ h1 (fun ps z => by cases z), e _ _ h2 (fun ps z => by cases z), h3⟩
theorem passCX {X : Cx} : Passes (L2.CX X.prog X.w) X E0 := fun _ _ _ _ _ _ _ ⟨_, _, _, _, _, _, _, _, _, _, _, _, z⟩ => z.elim
/-- law's promise: a list of at most 63 ints is handed in, True comes out; Pt: the table of its code object -/
def spLaw (K : PySem.W.Frag) (Pt : Addr) : Sp := fun vs H Q _ => ∃ (a : Addr) (ns : List Int), vs = [.ref a] ∧ SqL K H a (ns.map V.int) ∧ ns.length ≤ 63 ∧ H Pt = some (.tbl #[]) ∧ ∀ H', Q (.bl true) H'
theorem extN_same {H H' : Hp} (s : Same H H') : ExtN H H' := fun b o h _ => s b o h
end VQ
namespace VQ
open PySem L2 LamX
/-! ### data that is compared -/
def Lay (n : Nat) (d : PyData) : Prop := d.canLay0 = true ∧ d.depth ≤ n
theorem lay_all {n : Nat} : ∀ {ds : List PyData}, (∀ d ∈ ds, Lay n d) → PyData.canLayAll0 ds = true ∧ PyData.depthAll ds ≤ n
  | [], _ => by
    unfold PyData.canLayAll0 PyData.depthAll
    exact ⟨rfl, Nat.zero_le _⟩
  | d :: ds, h => by
    obtain ⟨a, c⟩ := h d List.mem_cons_self
    obtain ⟨a', c'⟩ := lay_all (ds := ds) fun e m => h e (List.mem_cons_of_mem _ m)
    unfold PyData.canLayAll0 PyData.depthAll
    exact ⟨by rw [a, a']; rfl, Nat.max_le.mpr ⟨c, c'⟩⟩
theorem Lay.list {n : Nat} {ds : List PyData} (h : ∀ d ∈ ds, Lay n d) : Lay (n + 1) (.list ds) := by
  obtain ⟨a, c⟩ := lay_all h
  unfold Lay PyData.canLay0 PyData.depth
  exact ⟨a, Nat.succ_le_succ c⟩
theorem Lay.tuple {n : Nat} {ds : List PyData} (h : ∀ d ∈ ds, Lay n d) : Lay (n + 1) (.tuple ds) := by
  obtain ⟨a, c⟩ := lay_all h
  unfold Lay PyData.canLay0 PyData.depth
  exact ⟨a, Nat.succ_le_succ c⟩
theorem Lay.int (n : Nat) (i : Int) : Lay n (.int i) := by
  unfold Lay PyData.canLay0 PyData.depth
  exact ⟨rfl, Nat.zero_le _⟩
theorem Lay.str (n : Nat) {z : Str} (h : ∀ c ∈ z.cps.toList, c < 1114112) : Lay n (.str z) := by
  unfold Lay PyData.canLay0 PyData.depth
  refine ⟨?_, Nat.zero_le _⟩
  show z.cps.all (· < 0x110000) = true
  rw [← Array.all_toList, List.all_eq_true]
  exact fun c m => decide_eq_true (h c m)
theorem Lay.shaped {n : Nat} {d : PyData} (h : Lay n d) (hn : n ≤ 64) : SeqAt.shaped d = true := by
  unfold SeqAt.shaped
  rw [h.1, decide_eq_true (Nat.le_trans h.2 hn)]
  rfl
theorem lay_ints (ks : List Int) : Lay 1 (.list (ks.map PyData.int)) := .list fun d m => by
  obtain ⟨k, _, rfl⟩ := List.mem_map.mp m
  exact .int _ _
theorem dp_ints {K : PySem.W.Frag} {H : Hp} : ∀ ks : List Int, DpAll K H (ks.map V.int) (ks.map PyData.int)
  | [] => .nil
  | k :: ks => .cons (.int k) (dp_ints ks)
theorem dp_strs {K : PySem.W.Frag} {H : Hp} : ∀ zs : List Str, DpAll K H (zs.map V.str) (zs.map PyData.str)
  | [] => .nil
  | z :: zs => .cons (.str z) (dp_strs zs)
theorem eqv_nil (ds : List PyData) : PyData.eqv (.list ds) (.list []) = ds.isEmpty := by
  cases ds with
  | nil => rfl
  | cons d ds => rfl
end VQ
namespace VQ
open PySem L2 LamX
/-! ### things, rooms, boxes -/
/-- something of the plain kinds -/
def Part (K : PySem.W.Frag) (H : Hp) (x : V) : Prop := ∃ t, TyX K H x (.type t) ∧ t ∈ basics ∧ Short x
/-- a thing, and its items where it is a tuple -/
inductive Thing (K : PySem.W.Frag) (H : Hp) : V → Option (List V) → Prop
  | tup {a : Addr} {xs : List V} (h : H a = some (.tup xs)) (hp : ∀ x ∈ xs, Part K H x) (hl : xs.length ≤ 1000) : Thing K H (.ref a) (some xs)
  | oth {x : V} {t : String} (ty : TyX K H x (.type t)) (m : t ∈ basics) (nt : t ≠ "tuple") : Thing K H x none
def placesO : Option (List V) → Bool
  | none => false
  | some xs => decide (1 ≤ xs.length) && decide (xs.length ≤ 5)
def allO (p : V → Bool) : Option (List V) → Bool
  | none => false
  | some xs => placesO (some xs) && xs.all p
section
variable {P : Program} {w : World} {K : PySem.W.Frag} {mg : Str → Option Value} {base : Heap}
theorem Part.same {H H' : Hp} {x : V} (s : Same H H') (h : Part K H x) : Part K H' x := by
  obtain ⟨t, a, b, c⟩ := h
  exact ⟨t, TyX.basic_same s a b, b, c⟩
theorem Part.str {H : Hp} (z : Str) (h : z.length ≤ 1000) : Part K H (.str z) := ⟨"str", .base (.str z), by decide, h⟩
theorem Part.int {H : Hp} (i : Int) : Part K H (.int i) := ⟨"int", .base (.int i), by decide, trivial⟩
theorem Thing.same {H H' : Hp} {x : V} {o : Option (List V)} (s : Same H H') (h : Thing K H x o) : Thing K H' x o := by
  cases h with
  | tup h hp hl => exact .tup (s _ _ h) (fun x m => Part.same s (hp x m)) hl
  | oth ty m nt => exact .oth (TyX.basic_same s ty m) m nt
def spIsPlaces (K : PySem.W.Frag) : Sp := fun vs H Q _ => ∃ (x : V) (o : Option (List V)), vs = [x] ∧ Thing K H x o ∧ Q (.bl (placesO o)) H
/-- is_box, is_point -/
def spIs (K : PySem.W.Frag) (p : V → Bool) : Sp := fun vs H Q _ => ∃ (x : V) (o : Option (List V)), vs = [x] ∧ Thing K H x o ∧ ∀ H', Same H H' → Q (.bl (allO p o)) H'
/-- what a comprehension over a tuple that asks each item collects -/
theorem take_snoc {α β : Type} (g : α → β) {xs : List α} {i : Nat} {x : α} (h : xs[i]? = some x) : (xs.take i).map g ++ [g x] = (xs.take (i + 1)).map g := by
  rw [List.take_add_one, h, List.map_append]
  rfl
/-- need_box, need_point -/
def spNeedT (K : PySem.W.Frag) (p : V → Bool) (C : Addr) (nm : Str) : Sp := fun vs H Q E => ∃ (x : V) (o : Option (List V)), vs = [x] ∧ Thing K H x o ∧
  (allO p o = true → ∀ H', Same H H' → Q .non H') ∧ (allO p o = false → ∀ H' d, Same H H' → H' d = none → E (.ref C) (some d) (upd H' d (calledAs nm)))
theorem map_get {zs : List Str} {i : Nat} {x : V} (h : (zs.map V.str)[i]? = some x) : ∃ z, zs[i]? = some z ∧ x = .str z := by
  rw [List.getElem?_map] at h
  cases e : zs[i]? with
  | none => rw [e] at h; cases h
  | some z =>
    rw [e] at h
    exact ⟨z, rfl, (Option.some.inj h).symm⟩
end
end VQ
namespace VQ
open PySem L2 LamX
/-! ### names of a comprehension that the def's own state leaves out -/
theorem Inv.more {X : Cx} {pins : List (Addr × Obj)} {σ : L2.St} {H : Hp} {s : Shared} (ys : List Str) (I : Inv X pins σ H s) : Inv { X with N := X.N ++ ys } pins (σ ++ List.replicate ys.length none) H s where
  ok := ⟨I.ok.mod, I.ok.kind, I.ok.glob, I.ok.blt, I.ok.above, I.ok.inj, I.ok.has, I.ok.cab, I.ok.hd, I.ok.frames, I.ok.stk, I.ok.exf, I.ok.bs, I.ok.bsz, I.ok.noex, I.ok.exfs, I.ok.funs, I.ok.frf⟩
  os := I.os
  bare := I.bare
  base := I.base
  loc := by
    obtain ⟨m, h1, h2⟩ := I.loc
    refine ⟨m, h1, fun i x v e1 e2 e3 => ?_⟩
    by_cases lt : i < σ.length
    · rw [List.getElem?_append_left lt] at e2
      have e1 : (X.N ++ ys)[i]? = some x := e1
      rw [List.getElem?_append_left (by rw [← I.len]; exact lt)] at e1
      exact h2 i x v e1 e2 e3
    · rw [List.getElem?_append_right (by omega), List.getElem?_replicate] at e2
      split at e2 <;> cases e2
  cell := I.cell
  free := I.free
  freeC := I.freeC
  pin := I.pin
  hok := I.hok
  len := by
    show _ = (X.N ++ ys).length
    rw [List.length_append, List.length_append, List.length_replicate, I.len]
theorem Inv.less {X : Cx} {pins : List (Addr × Obj)} {σ : L2.St} {H : Hp} {s : Shared} {ys : List Str} (len : σ.length = X.N.length) (I : Inv { X with N := X.N ++ ys } pins (σ ++ List.replicate ys.length none) H s) : Inv X pins σ H s where
  ok := ⟨I.ok.mod, I.ok.kind, I.ok.glob, I.ok.blt, I.ok.above, I.ok.inj, I.ok.has, I.ok.cab, I.ok.hd, I.ok.frames, I.ok.stk, I.ok.exf, I.ok.bs, I.ok.bsz, I.ok.noex, I.ok.exfs, I.ok.funs, I.ok.frf⟩
  os := I.os
  bare := I.bare
  base := I.base
  loc := by
    obtain ⟨m, h1, h2⟩ := I.loc
    refine ⟨m, h1, fun i x v e1 e2 e3 => h2 i x v ?_ ?_ e3⟩
    · show (X.N ++ ys)[i]? = some x
      rw [List.getElem?_append_left (List.getElem?_eq_some_iff.mp e1).1]
      exact e1
    · rw [List.getElem?_append_left (List.getElem?_eq_some_iff.mp e2).1]
      exact e2
  cell := I.cell
  free := I.free
  freeC := I.freeC
  pin := I.pin
  hok := I.hok
  len := len
def tMore (n : Nat) (t : TE) : TE := fun σ H Q => t (σ ++ List.replicate n none) H Q
theorem pe_more {X : Cx} {e : Expr} {t : TE} (ys : List Str) (h : PE { X with N := X.N ++ ys } e t) : PE X e (tMore ys.length t) := by
  refine ⟨fun pins s σ H Q I hw => ?_⟩
  refine wpAny_mono (h.run pins s _ H Q (Inv.more ys I) hw) ?_ fun _ _ z => z
  rintro v s1 ⟨x, H1, I1, r1, q1⟩
  exact ⟨x, H1, Inv.less I.len I1, r1, q1⟩
end VQ
namespace VQ
open PySem L2 LamX
section
variable {P : Program} {w : World} {K : PySem.W.Frag} {mg : Str → Option Value} {base : Heap}
def spAlikeT (K : PySem.W.Frag) (C : Addr) : Sp := fun vs H Q E => ∃ (a b : Addr) (xs ys : List V), vs = [.ref a, .ref b] ∧ H a = some (.tup xs) ∧ H b = some (.tup ys) ∧
  (xs.length = ys.length → Q .non H) ∧ (xs.length ≠ ys.length → ∀ d, H d = none → E (.ref C) (some d) (upd H d (calledAs "Unlike")))
end
end VQ
namespace VQ
open PySem L2 LamX
/-! ### what two boxes are asked -/
/-- the places of a box -/
structure IsBoxS (zs : List Str) : Prop where
  beg : ∀ z ∈ zs, begB (.str z) = true
  lo : 1 ≤ zs.length
  hi : zs.length ≤ 5
theorem allO_box {o : Option (List V)} (h : allO begB o = true) : ∃ zs : List Str, o = some (zs.map V.str) ∧ IsBoxS zs := by
  cases o with
  | none => cases h
  | some xs =>
    have h' : (placesO (some xs) && xs.all begB) = true := h
    rw [Bool.and_eq_true] at h'
    obtain ⟨h1, h2⟩ := h'
    have h1' : (decide (1 ≤ xs.length) && decide (xs.length ≤ 5)) = true := h1
    rw [Bool.and_eq_true, decide_eq_true_eq, decide_eq_true_eq] at h1'
    have key : ∀ l : List V, l.all begB = true → ∃ zs : List Str, l = zs.map V.str ∧ ∀ z ∈ zs, begB (.str z) = true := by
      intro l
      induction l with
      | nil => exact fun _ => ⟨[], rfl, fun z m => by cases m⟩
      | cons x l ih =>
        intro q
        rw [List.all_cons, Bool.and_eq_true] at q
        obtain ⟨zs, e, a⟩ := ih q.2
        cases x with
        | str z =>
          refine ⟨z :: zs, by rw [e]; rfl, fun u m => ?_⟩
          rcases List.mem_cons.mp m with rfl | m
          · exact q.1
          · exact a u m
        | _ => exact absurd q.1 (by intro z; cases z)
    obtain ⟨zs, rfl, a⟩ := key xs h2
    rw [List.length_map] at h1'
    exact ⟨zs, rfl, a, h1'.1, h1'.2⟩
theorem box_allO {zs : List Str} (h : IsBoxS zs) : allO begB (some (zs.map V.str)) = true := by
  show ((decide (1 ≤ (zs.map V.str).length) && decide ((zs.map V.str).length ≤ 5)) && (zs.map V.str).all begB) = true
  rw [List.length_map, decide_eq_true h.lo, decide_eq_true h.hi, List.all_map, Bool.true_and, Bool.true_and]
  exact List.all_eq_true.mpr fun z m => h.beg z m
theorem beg_len {z : Str} (h : begB (.str z) = true) : z.length ≤ 5 := by
  have h' : (decide (z.length ≤ 5) && z.cps.toList.all signB) = true := h
  rw [Bool.and_eq_true, decide_eq_true_eq] at h'
  exact h'.1
/-- a.startswith(b) -/
def rStarts : V → List V → Hp → VK → Prop := fun x xs H Q => ∃ a b, x = .str a ∧ xs = [.str b] ∧ Q (.bl (Txt.startswith a b)) H
/-- a turn of a comprehension over zip: the lists so far -/
theorem zip_snoc {α β γ : Type} (g : α → β → γ) {zs : List α} {ws : List β} {i : Nat} {z : α} {w : β} (hz : zs[i]? = some z) (hw : ws[i]? = some w) : List.zipWith g (zs.take i) (ws.take i) ++ [g z w] = List.zipWith g (zs.take (i + 1)) (ws.take (i + 1)) := by
  have lz : i < zs.length := (List.getElem?_eq_some_iff.mp hz).1
  have lw : i < ws.length := (List.getElem?_eq_some_iff.mp hw).1
  rw [List.take_add_one, List.take_add_one, hz, hw, List.zipWith_append (by rw [List.length_take, List.length_take]; omega)]
  rfl
end VQ
namespace VQ
open PySem L2 LamX
section
variable {P : Program} {w : World} {K : PySem.W.Frag} {mg : Str → Option Value} {base : Heap}
/-- a new tuple whose items are drawn -/
def spTupDraw (ok : V → Prop) : Sp := fun vs H Q _ => ∃ (b : Addr) (n : Nat), vs = [.ref b, .int (n : Int)] ∧ Bag H b ∧ n ≤ 5 ∧ ∀ (a : Addr) (xs : List V) (H' : Hp), xs.length = n → (∀ x ∈ xs, ok x) → H a = none → H' a = some (.tup xs) → Bag H' b → Keep b H H' → Q (.ref a) H'
/-- is a text of begs -/
def IsBeg (x : V) : Prop := ∃ z, x = .str z ∧ z ∈ begs
end
end VQ
namespace VQ
open PySem L2 LamX
/-- a tuple of begs -/
def BoxAt (H : Hp) (a : Addr) (zs : List Str) : Prop := H a = some (.tup (zs.map V.str)) ∧ (∀ z ∈ zs, z ∈ begs) ∧ zs.length ≤ 5
theorem begs_of : ∀ {xs : List V}, (∀ x ∈ xs, IsBeg x) → ∃ zs : List Str, xs = zs.map V.str ∧ ∀ z ∈ zs, z ∈ begs
  | [], _ => ⟨[], rfl, fun z m => by cases m⟩
  | x :: xs, h => by
    obtain ⟨z, rfl, hz⟩ := h x List.mem_cons_self
    obtain ⟨zs, rfl, a⟩ := begs_of (xs := xs) fun y m => h y (List.mem_cons_of_mem _ m)
    refine ⟨z :: zs, rfl, fun u m => ?_⟩
    rcases List.mem_cons.mp m with rfl | m
    · exact hz
    · exact a u m
section
variable {K : PySem.W.Frag} {H H' : Hp}
theorem BoxAt.same {a : Addr} {zs : List Str} (h : BoxAt H a zs) (s : Same H H') : BoxAt H' a zs := ⟨s _ _ h.1, h.2⟩
theorem BoxAt.keep {a b : Addr} {zs : List Str} (h : BoxAt H a zs) (B : Bag H b) (k : Keep b H H') : BoxAt H' a zs := ⟨k.tup B h.1, h.2⟩
theorem BoxAt.extN {a : Addr} {zs : List Str} (h : BoxAt H a zs) (e : ExtN H H') : BoxAt H' a zs := ⟨e _ _ h.1 (fun ps z => by cases z), h.2⟩
theorem BoxAt.thing {a : Addr} {zs : List Str} (h : BoxAt H a zs) : Thing K H (.ref a) (some (zs.map V.str)) := by
  refine .tup h.1 (fun x m => ?_) (by rw [List.length_map]; exact Nat.le_trans h.2.2 (by decide))
  obtain ⟨z, mz, rfl⟩ := List.mem_map.mp m
  exact Part.str z (Nat.le_trans (begs_len z (h.2.1 z mz)) (by decide))
theorem BoxAt.is {a : Addr} {zs : List Str} (h : BoxAt H a zs) (h1 : 1 ≤ zs.length) : IsBoxS zs := ⟨fun z m => begs_yes z (h.2.1 z m), h1, h.2.2⟩
theorem strs_inj : ∀ {zs ws : List Str}, zs.map V.str = ws.map V.str → zs = ws
  | [], [], _ => rfl
  | [], _ :: _, h => by cases h
  | _ :: _, [], h => by cases h
  | z :: zs, w :: ws, h => by
    rw [List.map_cons, List.map_cons] at h
    injection h with h1 h2
    injection h1 with h1
    rw [h1, strs_inj h2]
/-! ### likeness -/
inductive Alikes (H : Hp) (n : Nat) : List V → List V → Prop
  | nil : Alikes H n [] []
  | cons {x y : V} {xs ys : List V} (h : Alike H n x y) (t : Alikes H n xs ys) : Alikes H n (x :: xs) (y :: ys)
theorem alike_strs {n : Nat} {a b : Addr} {us : List Str} (ha : H a = some (.tup (us.map V.str))) (hb : H b = some (.tup (us.map V.str))) (hl : us.length ≤ 1000) : Alike H (n + 1) (.ref a) (.ref b) := by
  refine .tup ha hb rfl (by rw [List.length_map]; exact hl) fun i x y hx hy => ?_
  rw [hx] at hy
  cases hy
  obtain ⟨z, _, rfl⟩ := map_get hx
  exact .str n z
theorem alike_list {n : Nat} {a b : Addr} {xs ys : List V} (ha : H a = some (.lst xs)) (hb : H b = some (.lst ys)) (hl : ys.length ≤ 1000) (h : Alikes H n xs ys) : Alike H (n + 1) (.ref a) (.ref b) := by
  have key : ∀ {xs ys : List V}, Alikes H n xs ys → xs.length = ys.length ∧ ∀ (i : Nat) (x y : V), xs[i]? = some x → ys[i]? = some y → Alike H n x y := by
    intro xs ys h
    induction h with
    | nil => exact ⟨rfl, fun i x y hx => by cases hx⟩
    | cons r _ ih =>
      refine ⟨by rw [List.length_cons, List.length_cons, ih.1], fun i x y hx hy => ?_⟩
      cases i with
      | zero =>
        cases hx
        cases hy
        exact r
      | succ i => exact ih.2 i x y hx hy
  obtain ⟨e, g⟩ := key h
  exact .lst ha hb e hl g
/-! ### a tuple from a place on -/
theorem cut_from (xs : List V) {k : Nat} (h : k ≤ xs.length) : cutV xs (some (k : Int)) none = xs.drop k := by
  unfold cutV
  rw [HT.sIx_nat, HT.sIx_none, Nat.min_eq_left h]
  exact List.take_of_length_le (by rw [List.length_drop]; omega)
theorem from_part {n k : Nat} (h1 : 1 ≤ k) (h2 : k ≤ n) : ¬ (HT.sIx n 0 (some (k : Int)) = 0 ∧ HT.sIx n n none = n) := fun z => by
  rw [HT.sIx_nat, Nat.min_eq_left h2] at z
  omega
end
end VQ
namespace VQ
open PySem L2 LamX
/-! ### things that are neither boxes nor points -/
/-- what a plain thing's kind lives on -/
def Held (H H' : Hp) : Prop := ∀ a o, H a = some o → (∀ ps, o ≠ .tbl ps) → H' a = some o ∨ ∃ xs ys, o = .lst xs ∧ H' a = some (.lst ys)
theorem Same.held {H H' : Hp} (s : Same H H') : Held H H' := fun a o h _ => .inl (s a o h)
theorem ExtN.held {H H' : Hp} (s : ExtN H H') : Held H H' := fun a o h n => .inl (s a o h n)
theorem Keep.held {b : Addr} {H H' : Hp} (k : Keep b H H') (B : Bag H b) (B' : Bag H' b) : Held H H' := fun a o h _ => by
  by_cases e : a = b
  · obtain ⟨l, ns, i, r, x, n, nl, h1, _⟩ := B
    obtain ⟨l', ns', i', r', x', n', nl', g1, _⟩ := B'
    rw [e, h1] at h
    exact .inr ⟨_, _, (Option.some.inj h).symm, by rw [e]; exact g1⟩
  · exact .inl (k.1 a o e h)
section
variable {P : Program} {w : World} {K : PySem.W.Frag} {mg : Str → Option Value} {base : Heap}
theorem TyX.basic_held {H H' : Hp} {x : V} {t : String} (s : Held H H') (ty : TyX K H x (.type t)) (m : t ∈ basics) : TyX K H' x (.type t) := by
  generalize e : Value.type t = tv at ty
  cases ty with
  | base b =>
    cases b with
    | non => exact .base .non
    | bl y => exact .base (.bl y)
    | int i => exact .base (.int i)
    | str y => exact .base (.str y)
    | flt y => exact .base (.flt y)
    | lst q =>
      rcases s _ _ q (fun ps z => by cases z) with q' | ⟨_, _, _, q'⟩
      · exact .base (.lst q')
      · exact .base (.lst q')
    | frz q =>
      rcases s _ _ q (fun ps z => by cases z) with q' | ⟨_, _, z, _⟩
      · exact .base (.frz q')
      · cases z
    | tup q =>
      rcases s _ _ q (fun ps z => by cases z) with q' | ⟨_, _, z, _⟩
      · exact .base (.tup q')
      · cases z
    | dK q => cases e; exact absurd m (by decide)
    | dT q => cases e; exact absurd m (by decide)
    | ins _ _ _ _ _ _ => cases e
  | byt y => exact .byt y
  | set q => cases e; exact absurd m (by decide)
  | kList q c => exact .kList q c
  | kTuple q c => exact .kTuple q c
  | kDict q c => exact .kDict q c
  | fTuple q =>
    rcases s _ _ q (fun ps z => by cases z) with q' | ⟨_, _, z, _⟩
    · exact .fTuple q'
    · cases z
  | fDict q => cases e; exact absurd m (by decide)
theorem Part.held {H H' : Hp} {x : V} (s : Held H H') (h : Part K H x) : Part K H' x := by
  obtain ⟨t, a, b, c⟩ := h
  exact ⟨t, TyX.basic_held s a b, b, c⟩
theorem Thing.held {H H' : Hp} {x : V} {o : Option (List V)} (s : Held H H') (h : Thing K H x o) : Thing K H' x o := by
  cases h with
  | tup h hp hl =>
    rcases s _ _ h (fun ps z => by cases z) with q' | ⟨_, _, z, _⟩
    · exact .tup q' (fun x m => Part.held s (hp x m)) hl
    · cases z
  | oth ty m nt => exact .oth (TyX.basic_held s ty m) m nt
/-- no box and no point -/
def Bad (K : PySem.W.Frag) (H : Hp) (v : V) : Prop := ∃ o, Thing K H v o ∧ allO begB o = false ∧ allO worthB o = false
theorem Bad.held {H H' : Hp} {x : V} (s : Held H H') (h : Bad K H x) : Bad K H' x := by
  obtain ⟨o, a, b, c⟩ := h
  exact ⟨o, a.held s, b, c⟩
theorem Bad.same {H H' : Hp} {x : V} (s : Same H H') (h : Bad K H x) : Bad K H' x := h.held (Same.held s)
theorem Bad.oth {H : Hp} {x : V} {t : String} (ty : TyX K H x (.type t)) (m : t ∈ basics) (nt : t ≠ "tuple") : Bad K H x := ⟨none, .oth ty m nt, rfl, rfl⟩
theorem Bad.tup {H : Hp} {a : Addr} {xs : List V} (h : H a = some (.tup xs)) (hp : ∀ x ∈ xs, Part K H x) (hl : xs.length ≤ 1000) (n1 : allO begB (some xs) = false) (n2 : allO worthB (some xs) = false) : Bad K H (.ref a) := ⟨_, .tup h hp hl, n1, n2⟩
/-- as many times the same -/
theorem allO_rep {p : V → Bool} {x : V} {n : Nat} (h : p x = false) (hn : 1 ≤ n) : allO p (some (List.replicate n x)) = false := by
  show (_ && (List.replicate n x).all p) = false
  obtain ⟨m, rfl⟩ : ∃ m, n = m + 1 := ⟨n - 1, by omega⟩
  rw [List.replicate_succ, List.all_cons, h, Bool.false_and, Bool.and_false]
theorem allO_len {p : V → Bool} {xs : List V} (h : ¬ (1 ≤ xs.length ∧ xs.length ≤ 5)) : allO p (some xs) = false := by
  show ((decide (1 ≤ xs.length) && decide (xs.length ≤ 5)) && _) = false
  by_cases q : 1 ≤ xs.length
  · rw [decide_eq_false (show ¬ xs.length ≤ 5 from fun z => h ⟨q, z⟩), Bool.and_false, Bool.false_and]
  · rw [decide_eq_false q, Bool.false_and, Bool.false_and]
theorem Bad.rep {H : Hp} {a : Addr} {x : V} {n : Nat} (h : H a = some (.tup (List.replicate n x))) (hp : Part K H x) (h1 : 1 ≤ n) (h2 : n ≤ 1000) (n1 : begB x = false) (n2 : worthB x = false) : Bad K H (.ref a) :=
  .tup h (fun y m => by rw [List.eq_of_mem_replicate m]; exact hp) (by rw [List.length_replicate]; exact h2) (allO_rep n1 h1) (allO_rep n2 h1)
theorem flat_one {n : Nat} {x : V} : (List.replicate n [x]).flatten = List.replicate n x := by
  induction n with
  | zero => rfl
  | succ n ih => rw [List.replicate_succ, List.flatten_cons, ih, List.replicate_succ]; rfl
/-- (x,) * n -/
theorem rd_times {x : V} {n : Nat} {Q : VK} {H : Hp} {σ : L2.St} {i : Nat} (hσ : σ[i]? = some (some (.int (n : Int)))) (n1 : 1 ≤ n) (n2 : n ≤ 1000)
    (k : ∀ (p : Addr) (H' : Hp), Same H H' → H p = none → H' p = some (.tup (List.replicate n x)) → Q (.ref p) H') : tOp (rTimes K) (tTup (tCons (tC x) tNil)) (tVar i) σ H Q := by
  refine ⟨by show 1 ≤ sizeLine; decide, fun p hp => ⟨_, hσ, p, n, [x], rfl, rfl, SqT.of upd_same, by simp, by omega, by omega, by show 1 ≤ 1000; decide, fun e => ?_, fun _ q hq => ?_⟩⟩
  · have e' : n = 1 := by omega
    subst e'
    exact k p _ (same_new hp) hp upd_same
  · have s2 := (same_new (o := .tup [x]) hp).trans (same_new (o := .tup (List.replicate (n : Int).toNat [x]).flatten) hq)
    refine k q _ s2 ((same_new (o := .tup [x]) hp).free hq) ?_
    rw [upd_same, flat_one]
    rfl
theorem rd_six {x : V} {Q : VK} {H : Hp} {σ : L2.St} (k : ∀ (p : Addr) (H' : Hp), Same H H' → H p = none → H' p = some (.tup (List.replicate 6 x)) → Q (.ref p) H') : tOp (rTimes K) (tTup (tCons (tC x) tNil)) (tC (.int 6)) σ H Q := by
  obtain ⟨a, c⟩ := rd_times (K := K) (x := x) (σ := [some (.int ((6 : Nat) : Int))]) (i := 0) rfl (by decide) (by decide) k
  refine ⟨a, fun p hp => ?_⟩
  obtain ⟨v, e, r⟩ := c p hp
  cases e
  exact r
def spOddThing (K : PySem.W.Frag) : Sp := fun vs H Q _ => ∃ (b : Addr) (n : Nat), vs = [.ref b, .int (n : Int)] ∧ Bag H b ∧ 1 ≤ n ∧ n ≤ 5 ∧ ∀ (v : V) (H' : Hp), Bad K H' v → Bag H' b → Keep b H H' → Q v H'
end
end VQ
namespace VQ
open PySem L2 LamX
/-- a worth -/
def IsW (x : V) : Prop := ∃ n : Nat, x = .int (n : Int) ∧ n < 32
abbrev numV (n : Nat) : V := .int (n : Int)
theorem worths_of : ∀ {xs : List V}, (∀ x ∈ xs, IsW x) → ∃ ns : List Nat, xs = ns.map numV ∧ ∀ n ∈ ns, n < 32
  | [], _ => ⟨[], rfl, fun z m => by cases m⟩
  | x :: xs, h => by
    obtain ⟨n, rfl, hn⟩ := h x List.mem_cons_self
    obtain ⟨ns, rfl, a⟩ := worths_of (xs := xs) fun y m => h y (List.mem_cons_of_mem _ m)
    refine ⟨n :: ns, rfl, fun u m => ?_⟩
    rcases List.mem_cons.mp m with rfl | m
    · exact hn
    · exact a u m
theorem num_get {ns : List Nat} {i : Nat} {x : V} (h : (ns.map numV)[i]? = some x) : ∃ n, ns[i]? = some n ∧ x = numV n := by
  rw [List.getElem?_map] at h
  cases e : ns[i]? with
  | none => rw [e] at h; cases h
  | some z =>
    rw [e] at h
    exact ⟨z, rfl, (Option.some.inj h).symm⟩
end VQ
namespace VQ
open PySem L2 LamX
section
variable {P : Program} {w : World} {K : PySem.W.Frag} {mg : Str → Option Value} {base : Heap}
/-- the box of a point, by the law -/
def spBoxOf : Sp := fun vs H Q _ => ∃ (a : Addr) (ns : List Nat), vs = [.ref a] ∧ H a = some (.tup (ns.map numV)) ∧ ns.length ≤ 1000 ∧ ∀ (p : Addr) (H' : Hp), H p = none → Same H H' → H' p = some (.tup ((ns.map fig).map V.str)) → Q (.ref p) H'
end
end VQ
namespace VQ
open PySem L2 LamX
/-! ### the shortest beginning -/
/-- none of the worths lies under the first k signs of n -/
def sfree (n : Nat) (ms : List Nat) (k : Nat) : Bool := !(ms.any fun m => beginsB (fig m) (tk (fig n) k))
/-- the least one of 0 .. 5 of which f is true, from above -/
def dueF (f : Nat → Bool) (v : Nat → V) : Nat → V
  | 0 => .non
  | i + 1 => if f (5 - i) = true then v (5 - i) else dueF f v i
theorem due_first {f : Nat → Bool} {v : Nat → V} {i : Nat} (no : ∀ j, j < i → f j = false) (yes : f i = true) (h : i < 6) : dueF f v 6 = v i := by
  have e : dueF f v 6 = if f 0 = true then v 0 else if f 1 = true then v 1 else if f 2 = true then v 2 else if f 3 = true then v 3 else if f 4 = true then v 4 else if f 5 = true then v 5 else .non := rfl
  rw [e]
  have six : i = 0 ∨ i = 1 ∨ i = 2 ∨ i = 3 ∨ i = 4 ∨ i = 5 := by omega
  rcases six with rfl | rfl | rfl | rfl | rfl | rfl
  · rw [yes]; rfl
  · rw [no 0 (by decide), yes]; rfl
  · rw [no 0 (by decide), no 1 (by decide), yes]; rfl
  · rw [no 0 (by decide), no 1 (by decide), no 2 (by decide), yes]; rfl
  · rw [no 0 (by decide), no 1 (by decide), no 2 (by decide), no 3 (by decide), yes]; rfl
  · rw [no 0 (by decide), no 1 (by decide), no 2 (by decide), no 3 (by decide), no 4 (by decide), yes]; rfl
theorem due_none {f : Nat → Bool} {v : Nat → V} (no : ∀ j, j < 6 → f j = false) : dueF f v 6 = .non := by
  have e : dueF f v 6 = if f 0 = true then v 0 else if f 1 = true then v 1 else if f 2 = true then v 2 else if f 3 = true then v 3 else if f 4 = true then v 4 else if f 5 = true then v 5 else .non := rfl
  rw [e, no 0 (by decide), no 1 (by decide), no 2 (by decide), no 3 (by decide), no 4 (by decide), no 5 (by decide)]
  rfl
def shortV (n : Nat) (ms : List Nat) : V := dueF (sfree n ms) (fun k => .str (tk (fig n) k)) 6
def NoW (y : Int) : Prop := ¬ (0 ≤ y ∧ y < 32)
theorem worths_ints : ∀ {ys : List Int}, (∀ y ∈ ys, 0 ≤ y ∧ y < 32) → ∃ ms : List Nat, ys = ms.map Int.ofNat ∧ ∀ m ∈ ms, m < 32
  | [], _ => ⟨[], rfl, fun m h => by cases h⟩
  | y :: ys, h => by
    obtain ⟨a, b⟩ := h y List.mem_cons_self
    obtain ⟨n, rfl⟩ := Int.eq_ofNat_of_zero_le a
    obtain ⟨ms, rfl, c⟩ := worths_ints (ys := ys) fun x m => h x (List.mem_cons_of_mem _ m)
    refine ⟨n :: ms, rfl, fun x m => ?_⟩
    rcases List.mem_cons.mp m with rfl | m
    · omega
    · exact c x m
section
variable {P : Program} {w : World} {K : PySem.W.Frag} {mg : Str → Option Value} {base : Heap}
def spShortest (K : PySem.W.Frag) (CW : Addr) : Sp := fun vs H Q E => ∃ (x : Int) (l : Addr) (ys : List Int), vs = [.int x, .ref l] ∧ H l = some (.lst (ys.map V.int)) ∧ ys.length ≤ 1000 ∧
  (∀ (n : Nat) (ms : List Nat), x = (n : Int) → n < 32 → ys = ms.map Int.ofNat → (∀ m ∈ ms, m < 32) → ∀ H', Same H H' → Q (shortV n ms) H') ∧
  ((NoW x ∨ ∃ y ∈ ys, NoW y) → ∀ H' d, Same H H' → H' d = none → E (.ref CW) (some d) (upd H' d (calledAs "BadWorth")))
abbrev nShort : List Str := ["worth", "worths", "own", "others", "count", "beginning", "other"]
abbrev rStartsT : V → List V → Hp → VK → Prop := fun x xs H Q => ∃ a b, x = .str a ∧ xs = [.str b] ∧ Q (.bl (Txt.startswith a b)) H
theorem noW_worthB {y : Int} (h : worthB (.int y) = false) : NoW y := fun ⟨a, b⟩ => by
  have e : worthB (.int y) = true := by
    show (decide (0 ≤ y) && decide (y < 32)) = true
    rw [decide_eq_true a, decide_eq_true b]
    rfl
  rw [h] at e
  cases e
end
end VQ
namespace VQ
open PySem L2 LamX
/-! ### rows: a list of tuples of numbers -/
inductive Rows (H : Hp) : List V → List (List Nat) → Prop
  | nil : Rows H [] []
  | cons {a : Addr} {r : List Nat} {vs : List V} {rs : List (List Nat)} (h : H a = some (.tup (r.map numV))) (t : Rows H vs rs) : Rows H (.ref a :: vs) (r :: rs)
section
variable {K : PySem.W.Frag} {H H' : Hp}
theorem Rows.same (s : Same H H') : ∀ {vs : List V} {rs : List (List Nat)}, Rows H vs rs → Rows H' vs rs
  | _, _, .nil => .nil
  | _, _, .cons h t => .cons (s _ _ h) (Rows.same s t)
theorem Rows.keep {b : Addr} (B : Bag H b) (k : Keep b H H') : ∀ {vs : List V} {rs : List (List Nat)}, Rows H vs rs → Rows H' vs rs
  | _, _, .nil => .nil
  | _, _, .cons h t => .cons (k.tup B h) (Rows.keep B k t)
theorem Rows.len : ∀ {vs : List V} {rs : List (List Nat)}, Rows H vs rs → vs.length = rs.length
  | _, _, .nil => rfl
  | _, _, .cons _ t => by rw [List.length_cons, List.length_cons, Rows.len t]
theorem Rows.get {vs : List V} {rs : List (List Nat)} (h : Rows H vs rs) : ∀ {i : Nat} {v : V}, vs[i]? = some v → ∃ a r, v = .ref a ∧ rs[i]? = some r ∧ H a = some (.tup (r.map numV)) := by
  induction h with
  | nil => exact fun h => by cases h
  | cons h t ih =>
    intro i v e
    cases i with
    | zero =>
      cases e
      exact ⟨_, _, rfl, rfl, h⟩
    | succ i => exact ih e
theorem Rows.mem {vs : List V} {rs : List (List Nat)} (h : Rows H vs rs) {v : V} (m : v ∈ vs) : ∃ a r, v = .ref a ∧ r ∈ rs ∧ H a = some (.tup (r.map numV)) := by
  obtain ⟨i, e⟩ := List.getElem?_of_mem m
  obtain ⟨a, r, e1, e2, e3⟩ := h.get e
  exact ⟨a, r, e1, List.mem_of_getElem? e2, e3⟩
theorem Rows.snoc {a : Addr} {r : List Nat} (ha : H a = some (.tup (r.map numV))) : ∀ {vs : List V} {rs : List (List Nat)}, Rows H vs rs → Rows H (vs ++ [.ref a]) (rs ++ [r])
  | _, _, .nil => .cons ha .nil
  | _, _, .cons h t => .cons h (Rows.snoc ha t)
theorem Rows.perm {ws vs : List V} (p : ws.Perm vs) : ∀ {rs : List (List Nat)}, Rows H ws rs → ∃ ss : List (List Nat), rs.Perm ss ∧ Rows H vs ss := by
  induction p with
  | nil =>
    intro rs h
    exact ⟨rs, .refl _, h⟩
  | cons x _ ih =>
    intro rs h
    cases h with
    | cons h t =>
      obtain ⟨ss, p1, r1⟩ := ih t
      exact ⟨_ :: ss, p1.cons _, .cons h r1⟩
  | swap x y l =>
    intro rs h
    cases h with
    | cons h t =>
      cases t with
      | cons h2 t2 => exact ⟨_, .swap _ _ _, .cons h2 (.cons h t2)⟩
  | trans _ _ ih1 ih2 =>
    intro rs h
    obtain ⟨ss, p1, r1⟩ := ih1 h
    obtain ⟨ts, p2, r2⟩ := ih2 r1
    exact ⟨ts, p1.trans p2, r2⟩
/-! ### rows compared -/
abbrev numD (n : Nat) : PyData := .int (n : Int)
abbrev rowD (r : List Nat) : PyData := .tuple (r.map numD)
theorem dp_nums : ∀ r : List Nat, DpAll K H (r.map numV) (r.map numD)
  | [] => .nil
  | n :: r => .cons (.int _) (dp_nums r)
theorem Rows.dp : ∀ {vs : List V} {rs : List (List Nat)}, Rows H vs rs → DpAll K H vs (rs.map rowD)
  | _, _, .nil => .nil
  | _, _, .cons h t => .cons (.tup (SqT.of h) (dp_nums _)) (Rows.dp t)
theorem lay_nums (r : List Nat) : ∀ d ∈ r.map numD, Lay 0 d := fun d m => by
  obtain ⟨k, _, rfl⟩ := List.mem_map.mp m
  exact .int _ _
theorem lay_row (r : List Nat) : Lay 1 (rowD r) := .tuple (lay_nums r)
theorem lay_rows (rs : List (List Nat)) : Lay 2 (.list (rs.map rowD)) := .list fun d m => by
  obtain ⟨k, _, rfl⟩ := List.mem_map.mp m
  exact lay_row k
theorem eqv_nums : ∀ r q : List Nat, PyData.eqvAll (r.map numD) (q.map numD) = decide (r = q)
  | [], [] => rfl
  | [], _ :: _ => rfl
  | _ :: _, [] => rfl
  | n :: r, m :: q => by
    have ih := eqv_nums r q
    show (((n : Int) == (m : Int)) && PyData.eqvAll (r.map numD) (q.map numD)) = _
    rw [ih]
    by_cases e : n = m
    · subst e
      rw [beq_self_eq_true, Bool.true_and]
      by_cases g : r = q
      · rw [decide_eq_true g, decide_eq_true (by rw [g])]
      · rw [decide_eq_false g, decide_eq_false (fun z => g (List.cons.inj z).2)]
    · rw [show ((n : Int) == (m : Int)) = false from beq_eq_false_iff_ne.mpr (fun z => e (Int.ofNat.inj z)), Bool.false_and, decide_eq_false (fun z => e (List.cons.inj z).1)]
theorem eqv_row (r q : List Nat) : PyData.eqv (rowD r) (rowD q) = decide (r = q) := eqv_nums r q
theorem eqv_rows_any (rs : List (List Nat)) (q : List Nat) : ((rs.map rowD).any fun z => PyData.eqv z (rowD q)) = decide (q ∈ rs) := by
  rw [Bool.eq_iff_iff, List.any_eq_true, decide_eq_true_eq]
  constructor
  · rintro ⟨d, m, e⟩
    obtain ⟨r, mr, rfl⟩ := List.mem_map.mp m
    rw [eqv_row, decide_eq_true_eq] at e
    rw [← e]
    exact mr
  · intro m
    exact ⟨rowD q, List.mem_map.mpr ⟨q, m, rfl⟩, by rw [eqv_row]; exact decide_eq_true rfl⟩
end
/-! ### gaps -/
/-- what hangs behind the first c things of a point -/
def hang (rs : List (List Nat)) (c : Nat) (pt : List Nat) : List Nat := (rs.filter fun r => decide (r.take c = pt.take c)).map fun r => r.getD c 0
theorem mem_hang {rs : List (List Nat)} {c : Nat} {pt : List Nat} {n : Nat} : n ∈ hang rs c pt ↔ ∃ r ∈ rs, r.take c = pt.take c ∧ r.getD c 0 = n := by
  unfold hang
  rw [List.mem_map]
  constructor
  · rintro ⟨r, m, e⟩
    obtain ⟨m1, m2⟩ := List.mem_filter.mp m
    exact ⟨r, m1, of_decide_eq_true m2, e⟩
  · rintro ⟨r, m, e1, e2⟩
    exact ⟨r, List.mem_filter.mpr ⟨m, decide_eq_true e1⟩, e2⟩
/-- the gap parts from the rows at place i, behind k signs -/
structure GapAt (rs : List (List Nat)) (pt : List Nat) (i k : Nat) : Prop where
  lt : i < pt.length
  before : ∀ j, j < i → pt.getD j 0 ∈ hang rs j pt
  few : k < 6
  yes : ∀ m ∈ hang rs i pt, beginsB (fig m) (tk (fig (pt.getD i 0)) k) = false
  no : ∀ j, j < k → ∃ m ∈ hang rs i pt, beginsB (fig m) (tk (fig (pt.getD i 0)) j) = true
def gapBox (pt : List Nat) (i k : Nat) : List Str := ((pt.take i).map fig ++ [tk (fig (pt.getD i 0)) k]) ++ List.replicate (pt.length - i - 1) ("" : Str)
theorem sfree_iff {n : Nat} {ms : List Nat} {k : Nat} : sfree n ms k = true ↔ ∀ m ∈ ms, beginsB (fig m) (tk (fig n) k) = false := by
  unfold sfree
  rw [Bool.not_eq_true', ← Bool.not_eq_true, List.any_eq_true]
  constructor
  · intro h m mm
    rw [← Bool.not_eq_true]
    exact fun e => h ⟨m, mm, e⟩
  · rintro h ⟨m, mm, e⟩
    rw [h m mm] at e
    cases e
theorem sfree_not {n : Nat} {ms : List Nat} {k : Nat} : sfree n ms k = false ↔ ∃ m ∈ ms, beginsB (fig m) (tk (fig n) k) = true := by
  unfold sfree
  rw [Bool.not_eq_false', List.any_eq_true]
theorem begins_tk (z : Str) {k : Nat} (h : k ≤ z.length) : beginsB z (tk z k) = true := by
  unfold beginsB
  rw [tk_len, Nat.min_eq_left h]
  exact decide_eq_true rfl
theorem own_begins (n : Nat) {k : Nat} (h : k < 6) : beginsB (fig n) (tk (fig n) k) = true := begins_tk _ (by rw [fig_len]; omega)
theorem GapAt.out {rs : List (List Nat)} {pt : List Nat} {i k : Nat} (g : GapAt rs pt i k) : pt.getD i 0 ∉ hang rs i pt := fun m => by
  have := g.yes _ m
  rw [own_begins _ g.few] at this
  cases this
theorem GapAt.one {rs : List (List Nat)} {pt : List Nat} {i k i' k' : Nat} (g : GapAt rs pt i k) (g' : GapAt rs pt i' k') : i = i' ∧ k = k' := by
  have e : i = i' := by
    rcases Nat.lt_trichotomy i i' with h | h | h
    · exact absurd (g'.before i h) g.out
    · exact h
    · exact absurd (g.before i' h) g'.out
  subst e
  refine ⟨rfl, ?_⟩
  rcases Nat.lt_trichotomy k k' with h | h | h
  · obtain ⟨m, mm, q⟩ := g'.no k h
    rw [g.yes m mm] at q
    cases q
  · exact h
  · obtain ⟨m, mm, q⟩ := g.no k' h
    rw [g'.yes m mm] at q
    cases q
theorem hang_perm {rs ss : List (List Nat)} (p : rs.Perm ss) {c : Nat} {pt : List Nat} {n : Nat} : n ∈ hang rs c pt ↔ n ∈ hang ss c pt := by
  rw [mem_hang, mem_hang]
  constructor
  · rintro ⟨r, m, q⟩
    exact ⟨r, p.mem_iff.mp m, q⟩
  · rintro ⟨r, m, q⟩
    exact ⟨r, p.mem_iff.mpr m, q⟩
theorem GapAt.perm {rs ss : List (List Nat)} (p : rs.Perm ss) {pt : List Nat} {i k : Nat} (g : GapAt rs pt i k) : GapAt ss pt i k :=
  ⟨g.lt, fun j h => (hang_perm p).mp (g.before j h), g.few, fun m h => g.yes m ((hang_perm p).mpr h), fun j h => let ⟨m, a, b⟩ := g.no j h; ⟨m, (hang_perm p).mp a, b⟩⟩
theorem hang_snoc {rs : List (List Nat)} {c j : Nat} {pt r : List Nat} (h : rs[j]? = some r) : hang (rs.take (j + 1)) c pt = hang (rs.take j) c pt ++ if r.take c = pt.take c then [r.getD c 0] else [] := by
  unfold hang
  rw [List.take_add_one, h, Option.toList_some, List.filter_append, List.map_append]
  congr 1
  by_cases e : r.take c = pt.take c
  · simp [e]
  · simp [e]
theorem hang_len (rs : List (List Nat)) (c : Nat) (pt : List Nat) : (hang rs c pt).length ≤ rs.length := by
  unfold hang
  rw [List.length_map]
  exact List.length_filter_le _ _
theorem nat_ints (ms : List Nat) : ms.map numV = (ms.map Int.ofNat).map V.int := by
  rw [List.map_map]
  rfl
theorem ints_nat : ∀ {ms ks : List Nat}, ms.map Int.ofNat = ks.map Int.ofNat → ms = ks
  | [], [], _ => rfl
  | [], _ :: _, h => by cases h
  | _ :: _, [], h => by cases h
  | m :: ms, k :: ks, h => by
    rw [List.map_cons, List.map_cons] at h
    injection h with h1 h2
    rw [Int.ofNat.inj h1, ints_nat h2]
theorem getD_of {α : Type} {l : List α} {i : Nat} {x d : α} (h : l[i]? = some x) : l.getD i d = x := by
  rw [List.getD_eq_getElem?_getD, h]
  rfl
theorem getD_get {α : Type} {l : List α} {i : Nat} {d : α} (h : i < l.length) : l[i]? = some (l.getD i d) := by
  rw [List.getD_eq_getElem?_getD, List.getElem?_eq_getElem h]
  rfl
end VQ
namespace VQ
open PySem L2 LamX
abbrev sLawMixed : Stmt := top 40
abbrev rLen (K : PySem.W.Frag) : List V → Hp → VK → Prop := fun xs H Q => ∃ p ys, xs = [.ref p] ∧ (SqL K H p ys ∨ SqT K H p ys) ∧ Q (.int ys.length) H
theorem erase_perm : ∀ {ls : List V} {j : Nat} {y : V}, ls[j]? = some y → (y :: ls.eraseIdx j).Perm ls
  | [], _, _, h => by cases h
  | x :: ls, 0, y, h => by
    cases h
    exact .refl _
  | x :: ls, j + 1, y, h => ((List.Perm.swap x y _)).trans ((erase_perm (ls := ls) h).cons x)
theorem Rows.moved {H H' : Hp} (s : ∀ (a : Addr) (xs : List V), H a = some (.tup xs) → H' a = some (.tup xs)) : ∀ {vs : List V} {rs : List (List Nat)}, Rows H vs rs → Rows H' vs rs
  | _, _, .nil => .nil
  | _, _, .cons h t => .cons (s _ _ h) (Rows.moved s t)
theorem nodup_snoc {α : Type} {l : List α} {x : α} (h : l.Nodup) (n : x ∉ l) : (l ++ [x]).Nodup := by
  rw [List.nodup_append]
  refine ⟨h, List.nodup_cons.mpr ⟨by simp, List.nodup_nil⟩, fun a ma b mb e => n ?_⟩
  rw [← List.mem_singleton.mp mb, ← e]
  exact ma
section
variable {P : Program} {w : World} {K : PySem.W.Frag} {mg : Str → Option Value} {base : Heap}
/-! ### a list in another order -/
def spMixed : Sp := fun vs H Q _ => ∃ (b p : Addr) (xs : List V), vs = [.ref b, .ref p] ∧ Bag H b ∧ p ≠ b ∧ H p = some (.lst xs) ∧ xs.length < 1000 ∧
  ∀ (q : Addr) (ys : List V) (H' : Hp), ys.Perm xs → H q = none → H' q = some (.lst ys) → Bag H' b → Keep b H H' → Q (.ref q) H'
abbrev nLawMixed : List Str := ["_law_bag_here", "_law_some", "_law_left", "_law_one"]
theorem scLawMixed : FnScope nLawMixed ["_law_bag_here", "_law_some"] (defScope sLawMixed) := ⟨rfl, rfl, rfl, by decide +kernel, rfl, by decide +kernel, by decide +kernel⟩
theorem ok_mixed {f fP : Addr} {fd fdP : FuncData} (F : Fun K "_law_mixed" "_law_mixed" sLawMixed f fd) (b : Blt mg) (aP : At K mg "_law_pull" sPull ["_law_bag_here", "_law_size"] fP fdP) : FnOk P w K mg base CX0 2 f fd ["_law_bag_here", "_law_some"] spMixed := by
  have GP : FnOk P w K mg base CX0 1 fP fdP ["_law_bag_here", "_law_size"] spPull := ok_pull aP.fn b.len
  refine F.ok scLawMixed (fun vs H Q E h => ?_) (fun cdv A outer s H vs Q E hr h => ?_)
  · obtain ⟨bg, p, xs, rfl, _⟩ := h
    rfl
  · obtain ⟨bg, p, xs, rfl, B, pb, hp, lx, k⟩ := h
    refine ⟨_,
    (pss_cons (ps_set (i := 2) scLawMixed.nd rfl (.inr rfl) (pe_callTy call_list_of (by rfl) b.list (by decide +kernel) (pa_cons (pv 1) pa_nil)))
    (pss_one (ps_ret (pe_lc (own := [("_law_one", 3)]) (g := (gName 3)) (tt := tYes) (te := (tBM K "list" rPopAt (tVar 2) (tCons (tCall spPull [] E0 (tCons (tVar 0) (tCons (tCB (rLen K) (tCons (tVar 2) tNil)) tNil))) tNil))) rfl scLawMixed.nd (pi_list (pv 1)) (blkOk_by (N := nLawMixed) (sc := defScope sLawMixed) (by decide +kernel)) (fun _ _ _ _ _ => (pg_name (i := 3) scLawMixed.nd rfl (.inl rfl))) (fun _ _ _ _ _ => pts_nil) (fun _ _ _ _ _ => (pe_bm PySem.F.plainAttrs_list PySem.F.slot_list_pop PySem.F.type_list_pop mt_popAt (pv 2) (pa_cons (pe_call GP hr rfl aP.gl aP.fn.kp aP.bd .nil pass0 (pa_cons (pv 0) (pa_cons (pe_callB call_len_seq (by rfl) b.len PySem.boot_len (pa_cons (pv 2) pa_nil)) pa_nil))) pa_nil))))))), ?_⟩
    refine ⟨_, rfl, p, _, rfl, .inl (SqL.of hp), fun L nL => ?_⟩
    obtain ⟨B1, K1⟩ := Bag.put (o := .lst xs) B nL (Keep.refl bg H) B
    have Lb : L ≠ bg := B.ne nL
    have pL : p ≠ L := ne_of_none hp nL
    refine ⟨_, rfl, p, rfl, ⟨_, SqL.of ((upd_ne pL).trans hp)⟩, fun D nD => ?_⟩
    have DL : D ≠ L := fun e => by
      rw [e, upd_same] at nD
      cases nD
    have nD0 : H D = none := K1.free B B1 nD
    have Db : D ≠ bg := B.ne nD0
    obtain ⟨B2, K2⟩ := Bag.put (o := .lst []) B nD0 K1 B1
    refine lc_list (xs := xs) (fun i H' => Bag H' bg ∧ Keep bg H H' ∧ ∃ ls acc : List V, H' L = some (.lst ls) ∧ H' D = some (.lst acc) ∧ (acc ++ ls).Perm xs ∧ ls.length + i = xs.length) ⟨B2, K2, xs, [], (upd_ne DL.symm).trans upd_same, upd_same, .refl _, rfl⟩ (fun i H' _ q => SqL.of (q.2.1.1 _ _ pb hp)) ?_ ?_
    · rintro i v H3 hv ⟨B3, K3, ls, acc, h3, g3, pm, ln⟩
      have li : i < xs.length := (List.getElem?_eq_some_iff.mp hv).1
      refine ⟨rfl, yes_turn ?_⟩
      refine ⟨_, rfl, .inl ⟨rfl, _, SqL.of h3⟩, _, rfl, _, rfl, L, _, rfl, .inl (SqL.of h3), bg, _, rfl, B3, by omega, by omega, fun d H4 d0 d1 B4 k4 => ?_⟩
      obtain ⟨j, rfl⟩ := Int.eq_ofNat_of_zero_le d0
      have lj : j < ls.length := by omega
      have h4 := k4.1 _ _ Lb h3
      have g4 := k4.1 _ _ Db g3
      obtain ⟨j', e1, e2, lj', _⟩ := atI_get (atI_nat (List.getElem?_eq_getElem lj))
      generalize ls[j] = y at e2
      obtain ⟨B5, K5⟩ := Bag.put (o := .lst (ls.eraseIdx j')) B nL (K3.trans k4) B4
      obtain ⟨B6, K6⟩ := Bag.put (o := .lst (acc ++ [y])) B nD0 K5 B5
      have la : acc.length + ls.length = xs.length := by
        rw [← List.length_append]
        exact pm.length_eq
      refine ⟨L, ls, j, j', y, rfl, rfl, h4, by omega, by omega, e1, e2, acc, (upd_ne DL).trans g4, Nat.lt_of_le_of_lt (show acc.length ≤ 1000 by omega) (by decide), B6, K6, ls.eraseIdx j', acc ++ [y], (upd_ne DL.symm).trans upd_same, upd_same, ?_, ?_⟩
      · rw [List.append_assoc]
        refine (List.Perm.append_left acc ?_).trans pm
        exact erase_perm e2
      · rw [List.length_eraseIdx_of_lt lj']
        omega
    · rintro H3 ⟨B3, K3, ls, acc, h3, g3, pm, ln⟩
      have e : ls = [] := List.eq_nil_of_length_eq_zero (by omega)
      subst e
      rw [List.append_nil] at pm
      exact k D acc H3 pm nD0 g3 B3 K3
/-! ### rows drawn -/
def spRows : Sp := fun vs H Q _ => ∃ (b : Addr) (wd mo : Nat), vs = [.ref b, .int (wd : Int), .int (mo : Int)] ∧ Bag H b ∧ wd ≤ 5 ∧ mo ≤ 500 ∧
  ∀ (l : Addr) (us : List V) (rs : List (List Nat)) (H' : Hp), H l = none → H' l = some (.lst us) → Rows H' us rs → rs.length ≤ mo → (∀ r ∈ rs, r.length = wd ∧ ∀ n ∈ r, n < 32) → rs.Nodup → Bag H' b → Keep b H H' → Q (.ref l) H'
abbrev nLawRows : List Str := ["_law_bag_here", "_law_width", "_law_most", "_law_found", "_law_few", "_law_k", "_law_row", "_law_at"]
end
end VQ
namespace VQ
open PySem PySem.Spec PyProof.Rows L2
/-! ### how many unlike texts a tuple has -/
/-- texts gone through: those met so far are in, and as many as were gone through just where they are unlike -/
def TextsIn (P : Program) (w : World) (h : Heap) (S : Addr) (zs : List PySem.Str) : Prop := ∃ c, c ≤ zs.length ∧ (c = zs.length ↔ zs.Nodup) ∧ h.SetOf (PySem.strKind P w) S (fun z => decide (z ∈ zs)) c
theorem snoc_nodup {α : Type} {l : List α} {x : α} : (l ++ [x]).Nodup ↔ l.Nodup ∧ x ∉ l := by
  rw [List.nodup_append]
  constructor
  · rintro ⟨h1, _, h3⟩
    exact ⟨h1, fun m => h3 x m x (List.mem_singleton.mpr rfl) rfl⟩
  · rintro ⟨h1, h2⟩
    refine ⟨h1, by simp, fun a ma b mb e => h2 ?_⟩
    rw [← List.mem_singleton.mp mb, ← e]
    exact ma
section
variable {P : Program} {w : World} {A : Around} {E : Value → Shared → Prop} {s : Shared}
theorem TextsIn.moved {h h' : Heap} {S : Addr} {zs : List PySem.Str} (t : TextsIn P w h S zs) (k : ∀ o, h.get? S = some o → h'.get? S = some o) : TextsIn P w h' S zs := by
  obtain ⟨c, lc, ec, o, es, ep, tb, ho, rest⟩ := t
  exact ⟨c, lc, ec, o, es, ep, tb, k _ ho, rest⟩
theorem texts_update {I : Addr} {fp wr : List Addr} {G : Array GenState → Array GenState → Prop} {n : Nat} {Pv : Nat → Value → Prop} {St : Nat → Shared → Prop} {R : Result → Shared → Prop}
    (W : WalksS P w A.in1 I fp wr G n Pv St) (S : Addr) (off : S ∉ fp) (zs : List PySem.Str) (en : n = zs.length) (few : zs.length + 1 < scanBound) (are : ∀ i v, Pv i v → ∃ z t, zs[i]? = some z ∧ v = .str z t) :
    ∀ (left i : Nat) (s : Shared), n - i = left → i ≤ n → St i s → TextsIn P w s.heap S (zs.take i) →
      (∀ s', Moved (S :: wr) G s s' → TextsIn P w s'.heap S zs → R (.ok (.ret .none)) s') →
      codeAny (model P w) A (.builtin "set.update.loop" ⟨[.ref S, .ref I], []⟩) R s := by
  have offw : S ∉ wr := fun m => off (W.sub _ m)
  have more : ∀ b ∈ wr, b ∈ S :: wr := fun b m => List.mem_cons_of_mem _ m
  intro left
  induction left with
  | zero =>
    intro i s el li st tx fin
    obtain rfl : i = n := by omega
    refine codeAny_builtin F.entry_set_update_loop ?_
    rw [Around.under_plainId F.plain_set_update_loop _]
    show wpAny _ A.in1 (pyNext (.ref I) >>= _) _ _ s
    refine wpAny_bind (W.done s _ _ st fun s1 mv => ?_)
    show wpAny _ A.in1 (ret Value.none) _ _ s1
    rw [List.take_of_length_le (show zs.length ≤ i by omega)] at tx
    exact wpAny_pure (fin s1 (mv.mono more) (tx.moved fun o e => mv.heap S o offw e))
  | succ left ih =>
    intro i s el li st tx fin
    have lt : i < n := by omega
    refine codeAny_builtin F.entry_set_update_loop ?_
    rw [Around.under_plainId F.plain_set_update_loop _]
    show wpAny _ A.in1 (pyNext (.ref I) >>= _) _ _ s
    refine wpAny_bind (W.item i s _ _ lt st fun v s1 pv st1 mv => ?_)
    obtain ⟨z, t, hz, rfl⟩ := are i v pv
    obtain ⟨c, lc, ec, so⟩ := tx.moved (h' := s1.heap) fun o e => mv.heap S o offw e
    have ln : (zs.take i).length = i := by rw [List.length_take]; omega
    rw [ln] at lc ec
    show wpAny _ A.in1 (holding [Value.str z t] (setAdd S (.str z t)) >>= _) _ _ s1
    refine wpAny_bind (wpAny_holding ?_)
    unfold setAdd
    refine wpAny_holding (wpAny_bind ((PySem.strKind P w).pyHash (k := z) (strKind_is _ _ _ _) ?_))
    refine wpAny_setAddHashed_of (knd := PySem.strKind P w) (s := { s1 with toks := s1.toks + 1 }) (strKind_is _ _ _ _) rfl so (by omega) fun h2 sb so2 => ?_
    have et : zs.take (i + 1) = zs.take i ++ [z] := by rw [List.take_add_one, hz]; rfl
    have ln1 : (zs.take (i + 1)).length = i + 1 := by rw [et, List.length_append, ln]; rfl
    have tx2 : TextsIn P w h2 S (zs.take (i + 1)) := by
      refine ⟨_, ?_, ?_, SetOf_congr so2 (fun k' => ?_) rfl⟩
      · rw [ln1]
        split <;> omega
      · rw [ln1, et, snoc_nodup, ← ec]
        by_cases q : z ∈ zs.take i
        · rw [if_pos (decide_eq_true q)]
          exact ⟨fun e => by omega, fun e => absurd q e.2⟩
        · rw [if_neg (by rw [decide_eq_false q]; exact Bool.false_ne_true)]
          exact ⟨fun e => ⟨by omega, q⟩, fun e => by omega⟩
      · rw [et]
        by_cases q : k' ∈ zs.take i <;> by_cases e : k' = z <;> simp [q, e]
    refine wpAny_pure ⟨plainId_quiet F.plain_set_update_loop _, ih (i + 1) _ (by omega) lt (W.frame _ s1 _ _ st1 (Nat.le_succ _) fun b mb o e => ?_) tx2 fun s2 mv2 tx3 => ?_⟩
    · rw [sb.2 b (fun q => off (by rw [← q]; exact mb))]
      exact e
    · refine fin s2 (Moved.trans W.gtrans ((mv.mono more).then_heap (Nat.le_succ _) fun b o nb e => ?_) mv2) tx3
      rw [sb.2 b (fun q => nb (by rw [q]; exact List.mem_cons_self))]
      exact e
/-- what stands when the tuple is gone through -/
abbrev TextsDone (P : Program) (w : World) (s : Shared) (zs : List PySem.Str) (s2 : Shared) : Prop := ∃ g tk, s2 = { s with heap := g, toks := tk } ∧ TextsIn P w g s.heap.objs.size zs ∧ ∀ b o, s.heap.get? b = some o → g.get? b = some o
theorem texts_filled {l : Addr} {its : Array Value} {zs : List PySem.Str} {Z : PySem.Fin → Shared → Prop} (calm : A.handled = none) (isl : s.heap.IsTuple l its) (are : StrsAre its.toList zs) (few : zs.length + 1 < scanBound)
    (fin : ∀ s2, TextsDone P w s zs s2 → Z (.done (.ret .none)) s2) :
    wpAny (model P w) A.in1 (Builtin.«set.__init__» ⟨[.ref s.heap.objs.size, .ref l], []⟩) Z E { s with heap := s.heap.push (bareSet w) } := by
  obtain ⟨⟨oc, od, ot, os'⟩, at_l, e1, nl, e2⟩ := isl
  dsimp only at e1 e2
  subst e1 e2
  have cnt : its.size = zs.length := by rw [← StrsAre.len_eq are, Array.length_toList]
  have here : (s.heap.push (bareSet w)).get? s.heap.objs.size = some (bareSet w) := Heap.get?_push_size _ rfl
  have tyS : Shared.TypeIs { s with heap := s.heap.push (bareSet w) } (.ref s.heap.objs.size) "set" := ⟨_, here, rfl⟩
  have at_l' := Heap.get?_push_of_some (bareSet w) at_l
  have isl' : (s.heap.push (bareSet w)).IsTuple l its := ⟨_, at_l', rfl, nl, rfl⟩
  have n1 := PySem.F.sub_tuple_set
  have n2 := PySem.F.sub_tuple_frozenset
  have n3 : (Value.type "tuple" == Value.type "dict") = false := by decide
  unfold Builtin.«set.__init__» noKeywords Builtin.Frozenset.updateFrom
  generalize itE : pyIter = it
  wp_walk
  subst itE
  refine wpAny_pyIter_tuple isl' ?_
  refine wpAny_bind (wpAny_runValue ?_)
  have lt_l : l < s.heap.objs.size := Heap.lt_size at_l
  have calm3 : A.in1.in1.handled = none := by simp [calm]
  have size1 : (s.heap.push (bareSet w)).objs.size = s.heap.objs.size + 1 := Heap.size_push ..
  have ne_l : l ≠ (s.heap.push (bareSet w)).objs.size := by
    rw [size1]
    exact Nat.ne_of_lt (Nat.lt_succ_of_lt lt_l)
  have out : s.heap.objs.size ∉ [(s.heap.push (bareSet w)).objs.size, l] := fun m => by
    rcases List.mem_cons.mp m with q | q
    · rw [size1] at q
      exact Nat.ne_of_lt (Nat.lt_succ_self _) q
    · exact Nat.ne_of_gt lt_l (List.mem_singleton.mp q)
  have vals : ∀ (i : Nat) (v : Value), its[i]? = some v → ∃ z t, zs[i]? = some z ∧ v = .str z t := fun i v hv => by
    have hi : i < zs.length := by
      rw [← cnt]
      exact (Array.getElem?_eq_some_iff.mp hv).1
    obtain ⟨t, rfl⟩ := SS.strs_at are i v (by rw [Array.getElem?_toList]; exact hv)
    refine ⟨zs.getD i Str.empty, t, ?_, rfl⟩
    rw [List.getD_eq_getElem?_getD, List.getElem?_eq_getElem hi]
    rfl
  refine texts_update ((Walks.tuple calm3 _ l ne_l its).toS) s.heap.objs.size out zs cnt few vals (its.size - 0) 0 _ (by omega) (Nat.zero_le _) ?walk ?fresh fun s2 mv R => ?_
  case walk => exact ⟨⟨_, Heap.get?_push_size _ rfl, rfl, rfl⟩, isl'.push _⟩
  case fresh =>
    refine ⟨0, Nat.zero_le _, ⟨fun _ => List.nodup_nil, fun _ => rfl⟩, _, #[], 0, _, Heap.get?_push_of_some _ here, ⟨rfl, rfl, rfl⟩, rfl, (fun e he => by simp at he), (fun k => by simp), (by decide), (by rfl), rfl⟩
  obtain ⟨g, ge, dr, tk, os2⟩ := s2
  have q1 : ge = s.gens := mv.gens
  have q2 : dr = s.drawn := mv.drawn
  have q3 : os2 = s.os := mv.os
  subst q1 q2 q3
  show wpAny _ _ _ _ _ _
  refine wpAny_pure ?_
  show wpAny _ _ (ret Value.none) _ _ _
  refine wpAny_pure (fin _ ⟨g, tk, rfl, R, fun b o z => mv.heap b o (fun m => ?_) (Heap.get?_push_of_some _ (Heap.get?_push_of_some _ z))⟩)
  have lb := Heap.lt_size z
  rcases List.mem_cons.mp m with q | q
  · exact Nat.ne_of_lt lb q
  · have q := List.mem_singleton.mp q
    rw [size1] at q
    exact Nat.ne_of_lt (Nat.lt_succ_of_lt lb) q
theorem texts_call {l : Addr} {its : Array Value} {zs : List PySem.Str} {Q : Value → Shared → Prop} (calm : A.handled = none) (isl : s.heap.IsTuple l its) (are : StrsAre its.toList zs) (few : zs.length + 1 < scanBound)
    (fin : ∀ s2, TextsDone P w s zs s2 → Q (.ref s.heap.objs.size) s2) : wpAny (model P w) A (call (.type "set") [.ref l]) Q E s := by
  obtain ⟨c0, tl, mro⟩ := F.called_set.mro
  have made := F.called_set.made
  have subt := F.called_set.sub
  have nty := F.called_set.notType
  have canc := F.called_set.canCreate
  have tyc := F.typeCall_set_1 (.ref l)
  have here : (s.heap.push (bareSet w)).get? s.heap.objs.size = some (bareSet w) := Heap.get?_push_size _ rfl
  have tyS : Shared.TypeIs { s with heap := s.heap.push (bareSet w) } (.ref s.heap.objs.size) "set" := ⟨_, here, rfl⟩
  have ini := F.called_set.init.lookup
  have inb := F.called_set.init.bind (.ref s.heap.objs.size)
  refine wpAny_call (codeAny_of_tree ?_)
  show wpAny _ _ (callAny (.type "set") _) _ _ _
  refine wpAny_pure ⟨Code.quiet_builtin _ (by decide +kernel), ?go⟩
  case go =>
  refine codeAny_builtin F.entry_type_call ?_
  rw [Around.under_plain (weight_type_call_type "set" [.ref l] []) rfl]
  repeat (any_goals (first | assumption | wp_step))
  refine codeAny_mono (code_set_led1 (w := w) (.ref l) (E := E) (Q₁ := fun v t => v = .ref s.heap.objs.size ∧ t = { s with heap := s.heap.push (bareSet w) }) ⟨rfl, rfl⟩) fun r t z => ?_
  match r, z with
  | .error e, z => exact z
  | .ok (.ret v), z =>
    obtain ⟨rfl, rfl⟩ := z
    repeat (any_goals (first | assumption | wp_step))
    refine codeAny_mono (codeAny_call_builtin (R := wants (fun v t => v = .none ∧ TextsDone P w s zs t) E) F.called_set.init.plain F.entry_set_init (check_set_init_1 tyS (texts_filled (A := A.in1) (by simp [calm]) isl are few fun s2 d => ⟨rfl, d⟩))) fun r t z => ?_
    match r, z with
    | .error e, z => exact z
    | .ok (.ret v), z =>
      obtain ⟨rfl, d⟩ := z
      obtain ⟨g, tk, rfl, d'⟩ := id d
      repeat (any_goals (first | assumption | wp_step))
      exact fin _ d
end
/-- len(set(t)), t a tuple of texts: some count, that of the tuple just where they are unlike -/
def tLenTexts (K : PySem.W.Frag) (ta : TE) : TE := fun σ H Q => ta σ H fun x H1 => ∃ (l : Addr) (zs : List PySem.Str), x = .ref l ∧ SqT K H1 l (zs.map V.str) ∧ zs.length < 1000 ∧ ∀ c : Nat, (c = zs.length ↔ zs.Nodup) → Q (.int c) H1
theorem pe_lenTexts {X : Cx} {a : Expr} {ta : TE} {p p2 q pos : Pos} (ha : PE X a ta) (hg : Gl X "len") (hm : X.mg "len" = none) (hg2 : Gl X "set") (hm2 : X.mg "set" = none) (hc : X.calm = true := by rfl)
    (na : starEach [a] X.env = (false, eval a X.env) :: starEach [] X.env := by rfl) : PE X (.Call (.Name "len" p) [.Call (.Name "set" p2) [a] [] q] [] pos) (tLenTexts X.K ta) := by
  refine ⟨fun pins s σ H Q I h => Call_ (ld_blt I hg hm boot_len (callWith_builtin1 (args_cons (Call_ (ld_blt I hg2 hm2 boot_set ?_)) rfl) rfl rfl))⟩
  refine callWith_type1 (args_cons (thn (ha.run pins s σ H _ I h) fun v s1 ⟨x, H1, I1, r1, q1⟩ => args_nil ?_) na) na rfl
  obtain ⟨l, zs, rfl, sq, few, k⟩ := q1
  cases r1
  obtain ⟨its, rv, pl, hz⟩ := I1.tuple sq
  refine texts_call (P := X.prog) (w := X.w) (I1.ok.hd hc) pl (by simpa using strsAre_of rv) (Nat.lt_of_lt_of_le (show zs.length + 1 < 1001 by omega) (by decide)) fun s2 d => args_nil ?_
  obtain ⟨g, tk, rfl, ⟨c, lc, ec, o, es, ep, tb, ho, hex, hd, _, _, _, hf, hn⟩, kk⟩ := d
  have I2 : Inv X pins σ H1 { s1 with heap := g, toks := tk } := I1.kept kk
  exact call_len_set ho hex hd hf (by rw [hn]; have : zs.length < 1000 := few; omega) ⟨.int (c : Nat), H1, I2.tok _, ⟨_, by rw [hn]⟩, k c ec⟩
end VQ
namespace VQ
open PySem L2 LamX
/-! ### comprehensions, by what they have collected -/
/-- all but one place stands as it was -/
def Off (D : Addr) (H H' : Hp) : Prop := ∀ p o, p ≠ D → H p = some o → H' p = some o
theorem Off.of {D : Addr} {H H' : Hp} (s : Same H H') : Off D H H' := fun p o _ h => s p o h
theorem Off.upd {D : Addr} {H : Hp} {o : HO} : Off D H (upd H D o) := fun p u n h => (upd_ne n).trans h
theorem sqT_same {K : PySem.W.Frag} {H H' : Hp} {a : Addr} {xs : List V} (s : Same H H') (h : SqT K H a xs) : SqT K H' a xs := by
  rcases h with (z | ⟨o, z⟩) | z
  · exact .inl (.inl (s _ _ z))
  · exact .inl (.inr ⟨o, s _ _ z⟩)
  · exact .inr z
theorem same_put {H H' : Hp} {D : Addr} {o : HO} (s : Same H H') (n : H D = none) : Same H (upd H' D o) := fun p u z => by
  rw [upd_ne (fun e => by rw [e, n] at z; cases z)]
  exact s p u z
/-- a turn of a comprehension, with what is to hold where an item is kept, and where none is -/
abbrev Trn (g : TG) (tt : TT) (te : TE) (vs : List Nat) (σ : L2.St) (x : V) (H : Hp) (k1 : VK) (k2 : Hp → Prop) : Prop := g x (wipe σ vs) H fun σ2 H2 => wipe σ2 vs = wipe σ vs ∧ tt σ2 H2 fun c H3 => if c = true then te σ2 H3 k1 else k2 H3
abbrev rInSign : R2 := fun x y H Q => ∃ (c : Nat) (z : Str), x = .str ⟨#[c]⟩ ∧ y = .str z ∧ Q (.bl (decide (c ∈ z.cps.toList))) H
abbrev rIsN1 : R2 := fun x y H Q => y = .non ∧ Q (.bl (decide (x = .non))) H
abbrev rNotN1 : R2 := fun x y H Q => y = .non ∧ Q (.bl (!decide (x = .non))) H
theorem getF {α : Type} {f : α → V} {xs : List α} {i : Nat} {v : V} (h : (xs.map f)[i]? = some v) : ∃ x, xs[i]? = some x ∧ v = f x := by
  rw [List.getElem?_map] at h
  cases e : xs[i]? with
  | none => rw [e] at h; cases h
  | some x =>
    rw [e] at h
    cases h
    exact ⟨x, rfl, rfl⟩
theorem lt_line {n : Nat} (h : n < 1000) : n < sizeLine := Nat.lt_of_lt_of_le h (by decide)
theorem lc_tupS {K : PySem.W.Frag} {a : Addr} {xs : List V} {g : TG} {tt : TT} {te : TE} {vs : List Nat} {σ : L2.St} {H1 : Hp} {D : Addr} {Qd : Hp → Prop} (A : Nat → List V → Hp → Prop) (new : H1 D = none) (sq : SqT K H1 a xs) (few : xs.length < 1000) (off : ∀ i acc H H', Off D H H' → A i acc H → A i acc H') (h0 : A 0 [] H1)
    (turn : ∀ (i : Nat) (x : V) (acc : List V) (H : Hp), xs[i]? = some x → Same H1 H → H D = some (.lst acc) → A i acc H → ∀ (k1 : VK) (k2 : Hp → Prop), (∀ y H4, Same H H4 → A (i + 1) (acc ++ [y]) H4 → k1 y H4) → (∀ H4, Same H H4 → A (i + 1) acc H4 → k2 H4) → Trn g tt te vs σ x H k1 k2)
    (fin : ∀ acc H, Same H1 H → H D = some (.lst acc) → A xs.length acc H → Qd H) :
    ∃ W : Nat → Nat → Hp → Prop, (∃ m, W 0 m (upd H1 D (.lst []))) ∧ ∀ i m H, W i m H → ((Itt K a).stop i H ∧ Qd H) ∨ ((Itt K a).go i H ∧ ∃ Nx : Hp → Prop, (∀ H', Nx H' → ∃ m', m' < m ∧ W (i + 1) m' H') ∧
      ∀ x H', (Itt K a).yld i H x H' → Trn g tt te vs σ x H' (fun y H4 => ∃ acc, H4 D = some (.lst acc) ∧ acc.length < sizeLine ∧ Nx (upd H4 D (.lst (acc ++ [y])))) Nx) := by
  refine lc_tup (xs := xs) (fun i H => Same H1 H ∧ ∃ acc, H D = some (.lst acc) ∧ acc.length ≤ i ∧ A i acc H) ⟨same_put (Same.refl H1) new, [], upd_same, Nat.zero_le _, off _ _ _ _ Off.upd h0⟩ (fun i H _ q => sqT_same q.1 sq) ?_ ?_
  · rintro i x H hx ⟨s, acc, hd, la, a⟩
    refine turn i x acc H hx s hd a _ _ (fun y H4 s4 a4 => ⟨acc, s4 _ _ hd, lt_line (Nat.lt_of_le_of_lt la (Nat.lt_trans (List.getElem?_eq_some_iff.mp hx).1 few)), same_put (s.trans s4) new, acc ++ [y], upd_same, by rw [List.length_append]; exact Nat.succ_le_succ la, off _ _ _ _ Off.upd a4⟩) fun H4 s4 a4 => ⟨s.trans s4, acc, s4 _ _ hd, Nat.le_succ_of_le la, a4⟩
  · rintro H ⟨s, acc, hd, la, a⟩
    exact fin acc H s hd a
theorem lc_listS {K : PySem.W.Frag} {a : Addr} {xs : List V} {g : TG} {tt : TT} {te : TE} {vs : List Nat} {σ : L2.St} {H1 : Hp} {D : Addr} {Qd : Hp → Prop} (A : Nat → List V → Hp → Prop) (new : H1 D = none) (sq : SqL K H1 a xs) (few : xs.length < 1000) (off : ∀ i acc H H', Off D H H' → A i acc H → A i acc H') (h0 : A 0 [] H1)
    (turn : ∀ (i : Nat) (x : V) (acc : List V) (H : Hp), xs[i]? = some x → Same H1 H → H D = some (.lst acc) → A i acc H → ∀ (k1 : VK) (k2 : Hp → Prop), (∀ y H4, Same H H4 → A (i + 1) (acc ++ [y]) H4 → k1 y H4) → (∀ H4, Same H H4 → A (i + 1) acc H4 → k2 H4) → Trn g tt te vs σ x H k1 k2)
    (fin : ∀ acc H, Same H1 H → H D = some (.lst acc) → A xs.length acc H → Qd H) :
    ∃ W : Nat → Nat → Hp → Prop, (∃ m, W 0 m (upd H1 D (.lst []))) ∧ ∀ i m H, W i m H → ((Itl K a).stop i H ∧ Qd H) ∨ ((Itl K a).go i H ∧ ∃ Nx : Hp → Prop, (∀ H', Nx H' → ∃ m', m' < m ∧ W (i + 1) m' H') ∧
      ∀ x H', (Itl K a).yld i H x H' → Trn g tt te vs σ x H' (fun y H4 => ∃ acc, H4 D = some (.lst acc) ∧ acc.length < sizeLine ∧ Nx (upd H4 D (.lst (acc ++ [y])))) Nx) := by
  refine lc_list (xs := xs) (fun i H => Same H1 H ∧ ∃ acc, H D = some (.lst acc) ∧ acc.length ≤ i ∧ A i acc H) ⟨same_put (Same.refl H1) new, [], upd_same, Nat.zero_le _, off _ _ _ _ Off.upd h0⟩ (fun i H _ q => Same.seq q.1 sq) ?_ ?_
  · rintro i x H hx ⟨s, acc, hd, la, a⟩
    refine turn i x acc H hx s hd a _ _ (fun y H4 s4 a4 => ⟨acc, s4 _ _ hd, lt_line (Nat.lt_of_le_of_lt la (Nat.lt_trans (List.getElem?_eq_some_iff.mp hx).1 few)), same_put (s.trans s4) new, acc ++ [y], upd_same, by rw [List.length_append]; exact Nat.succ_le_succ la, off _ _ _ _ Off.upd a4⟩) fun H4 s4 a4 => ⟨s.trans s4, acc, s4 _ _ hd, Nat.le_succ_of_le la, a4⟩
  · rintro H ⟨s, acc, hd, la, a⟩
    exact fin acc H s hd a
theorem lc_rangeS {lo : Int} {n : Nat} {g : TG} {tt : TT} {te : TE} {vs : List Nat} {σ : L2.St} {H1 : Hp} {D : Addr} {Qd : Hp → Prop} (A : Nat → List V → Hp → Prop) (new : H1 D = none)  (few : n < 1000) (off : ∀ i acc H H', Off D H H' → A i acc H → A i acc H') (h0 : A 0 [] H1)
    (turn : ∀ (i : Nat) (acc : List V) (H : Hp), i < n → Same H1 H → H D = some (.lst acc) → A i acc H → ∀ (k1 : VK) (k2 : Hp → Prop), (∀ y H4, Same H H4 → A (i + 1) (acc ++ [y]) H4 → k1 y H4) → (∀ H4, Same H H4 → A (i + 1) acc H4 → k2 H4) → Trn g tt te vs σ (.int (lo + i)) H k1 k2)
    (fin : ∀ acc H, Same H1 H → H D = some (.lst acc) → A n acc H → Qd H) :
    ∃ W : Nat → Nat → Hp → Prop, (∃ m, W 0 m (upd H1 D (.lst []))) ∧ ∀ i m H, W i m H → ((Itr lo n).stop i H ∧ Qd H) ∨ ((Itr lo n).go i H ∧ ∃ Nx : Hp → Prop, (∀ H', Nx H' → ∃ m', m' < m ∧ W (i + 1) m' H') ∧
      ∀ x H', (Itr lo n).yld i H x H' → Trn g tt te vs σ x H' (fun y H4 => ∃ acc, H4 D = some (.lst acc) ∧ acc.length < sizeLine ∧ Nx (upd H4 D (.lst (acc ++ [y])))) Nx) := by
  refine lc_range (lo := lo) (n := n) (fun i H => Same H1 H ∧ ∃ acc, H D = some (.lst acc) ∧ acc.length ≤ i ∧ A i acc H) ⟨same_put (Same.refl H1) new, [], upd_same, Nat.zero_le _, off _ _ _ _ Off.upd h0⟩ ?_ ?_
  · rintro i H hx ⟨s, acc, hd, la, a⟩
    refine turn i acc H hx s hd a _ _ (fun y H4 s4 a4 => ⟨acc, s4 _ _ hd, lt_line (Nat.lt_of_le_of_lt la (Nat.lt_trans hx few)), same_put (s.trans s4) new, acc ++ [y], upd_same, by rw [List.length_append]; exact Nat.succ_le_succ la, off _ _ _ _ Off.upd a4⟩) fun H4 s4 a4 => ⟨s.trans s4, acc, s4 _ _ hd, Nat.le_succ_of_le la, a4⟩
  · rintro H ⟨s, acc, hd, la, a⟩
    exact fin acc H s hd a
theorem lc_textS {z : Str} {g : TG} {tt : TT} {te : TE} {vs : List Nat} {σ : L2.St} {H1 : Hp} {D : Addr} {Qd : Hp → Prop} (A : Nat → List V → Hp → Prop) (new : H1 D = none)  (few : z.cps.size < 1000) (off : ∀ i acc H H', Off D H H' → A i acc H → A i acc H') (h0 : A 0 [] H1)
    (turn : ∀ (i c : Nat) (acc : List V) (H : Hp), z.cps[i]? = some c → Same H1 H → H D = some (.lst acc) → A i acc H → ∀ (k1 : VK) (k2 : Hp → Prop), (∀ y H4, Same H H4 → A (i + 1) (acc ++ [y]) H4 → k1 y H4) → (∀ H4, Same H H4 → A (i + 1) acc H4 → k2 H4) → Trn g tt te vs σ (.str ⟨#[c]⟩) H k1 k2)
    (fin : ∀ acc H, Same H1 H → H D = some (.lst acc) → A z.cps.size acc H → Qd H) :
    ∃ W : Nat → Nat → Hp → Prop, (∃ m, W 0 m (upd H1 D (.lst []))) ∧ ∀ i m H, W i m H → ((Its z).stop i H ∧ Qd H) ∨ ((Its z).go i H ∧ ∃ Nx : Hp → Prop, (∀ H', Nx H' → ∃ m', m' < m ∧ W (i + 1) m' H') ∧
      ∀ x H', (Its z).yld i H x H' → Trn g tt te vs σ x H' (fun y H4 => ∃ acc, H4 D = some (.lst acc) ∧ acc.length < sizeLine ∧ Nx (upd H4 D (.lst (acc ++ [y])))) Nx) := by
  refine lc_text  (fun i H => Same H1 H ∧ ∃ acc, H D = some (.lst acc) ∧ acc.length ≤ i ∧ A i acc H) ⟨same_put (Same.refl H1) new, [], upd_same, Nat.zero_le _, off _ _ _ _ Off.upd h0⟩ ?_ ?_
  · rintro i c H hx ⟨s, acc, hd, la, a⟩
    refine turn i c acc H hx s hd a _ _ (fun y H4 s4 a4 => ⟨acc, s4 _ _ hd, lt_line (Nat.lt_of_le_of_lt la (Nat.lt_trans (Array.getElem?_eq_some_iff.mp hx).1 few)), same_put (s.trans s4) new, acc ++ [y], upd_same, by rw [List.length_append]; exact Nat.succ_le_succ la, off _ _ _ _ Off.upd a4⟩) fun H4 s4 a4 => ⟨s.trans s4, acc, s4 _ _ hd, Nat.le_succ_of_le la, a4⟩
  · rintro H ⟨s, acc, hd, la, a⟩
    exact fin acc H s hd a
/-- a comprehension over enumerate of a tuple -/
theorem lc_enumT {K : PySem.W.Frag} {a : Addr} {xs : List V} {g : TG} {tt : TT} {te : TE} {vs : List Nat} {σ : L2.St} {H1 : Hp} {D : Addr} {Qd : Hp → Prop} (Pv : Nat → Hp → Prop) (h0 : Pv 0 (upd H1 D (.lst []))) (there : ∀ i H, Pv i H → SqT K H a xs)
    (turn : ∀ (i : Nat) (x : V) (T : Addr) (H : Hp), xs[i]? = some x → Pv i H → H T = none → Trn g tt te vs σ (.ref T) (upd H T (.tup [.int (i : Nat), x])) (fun y H4 => ∃ acc, H4 D = some (.lst acc) ∧ acc.length < sizeLine ∧ Pv (i + 1) (upd H4 D (.lst (acc ++ [y])))) (Pv (i + 1)))
    (fin : ∀ H, Pv xs.length H → Qd H) :
    ∃ W : Nat → Nat → Hp → Prop, (∃ m, W 0 m (upd H1 D (.lst []))) ∧ ∀ i m H, W i m H → ((IteT K a).stop i H ∧ Qd H) ∨ ((IteT K a).go i H ∧ ∃ Nx : Hp → Prop, (∀ H', Nx H' → ∃ m', m' < m ∧ W (i + 1) m' H') ∧
      ∀ x H', (IteT K a).yld i H x H' → Trn g tt te vs σ x H' (fun y H4 => ∃ acc, H4 D = some (.lst acc) ∧ acc.length < sizeLine ∧ Nx (upd H4 D (.lst (acc ++ [y])))) Nx) := by
  refine ⟨fun i m H => m + i = xs.length ∧ Pv i H, ⟨xs.length, rfl, h0⟩, ?_⟩
  rintro i m H ⟨em, p⟩
  have sq := there i H p
  by_cases lt : i < xs.length
  · refine .inr ⟨⟨xs, xs[i], sq, List.getElem?_eq_getElem lt⟩, Pv (i + 1), fun H' p' => ⟨m - 1, by omega, by omega, p'⟩, ?_⟩
    rintro v H' ⟨T, x, rfl, nT, rfl, ex⟩
    exact turn i x T H (ex xs sq) p nT
  · have e : i = xs.length := by omega
    subst e
    exact .inl ⟨⟨xs, sq, rfl⟩, fin H p⟩
theorem lc_enumTS {K : PySem.W.Frag} {a : Addr} {xs : List V} {g : TG} {tt : TT} {te : TE} {vs : List Nat} {σ : L2.St} {H1 : Hp} {D : Addr} {Qd : Hp → Prop} (A : Nat → List V → Hp → Prop) (new : H1 D = none) (sq : SqT K H1 a xs) (few : xs.length < 1000) (off : ∀ i acc H H', Off D H H' → A i acc H → A i acc H') (h0 : A 0 [] H1)
    (turn : ∀ (i : Nat) (x : V) (T : Addr) (acc : List V) (H : Hp), xs[i]? = some x → Same H1 H → H T = some (.tup [.int (i : Nat), x]) → H D = some (.lst acc) → A i acc H → ∀ (k1 : VK) (k2 : Hp → Prop), (∀ y H4, Same H H4 → A (i + 1) (acc ++ [y]) H4 → k1 y H4) → (∀ H4, Same H H4 → A (i + 1) acc H4 → k2 H4) → Trn g tt te vs σ (.ref T) H k1 k2)
    (fin : ∀ acc H, Same H1 H → H D = some (.lst acc) → A xs.length acc H → Qd H) :
    ∃ W : Nat → Nat → Hp → Prop, (∃ m, W 0 m (upd H1 D (.lst []))) ∧ ∀ i m H, W i m H → ((IteT K a).stop i H ∧ Qd H) ∨ ((IteT K a).go i H ∧ ∃ Nx : Hp → Prop, (∀ H', Nx H' → ∃ m', m' < m ∧ W (i + 1) m' H') ∧
      ∀ x H', (IteT K a).yld i H x H' → Trn g tt te vs σ x H' (fun y H4 => ∃ acc, H4 D = some (.lst acc) ∧ acc.length < sizeLine ∧ Nx (upd H4 D (.lst (acc ++ [y])))) Nx) := by
  refine lc_enumT (xs := xs) (fun i H => Same H1 H ∧ ∃ acc, H D = some (.lst acc) ∧ acc.length ≤ i ∧ A i acc H) ⟨same_put (Same.refl H1) new, [], upd_same, Nat.zero_le _, off _ _ _ _ Off.upd h0⟩ (fun i H q => sqT_same q.1 sq) ?_ ?_
  · rintro i x T H hx ⟨s, acc, hd, la, a⟩ nT
    have TD : D ≠ T := fun e => by
      rw [e, nT] at hd
      cases hd
    have sT := same_new (o := HO.tup [.int (i : Nat), x]) nT
    refine turn i x T acc _ hx (s.trans sT) upd_same (sT _ _ hd) (off _ _ _ _ (Off.of sT) a) _ _ (fun y H4 s4 a4 => ⟨acc, (sT.trans s4) _ _ hd, lt_line (Nat.lt_of_le_of_lt la (Nat.lt_trans (List.getElem?_eq_some_iff.mp hx).1 few)), same_put (s.trans (sT.trans s4)) new, acc ++ [y], upd_same, by rw [List.length_append]; exact Nat.succ_le_succ la, off _ _ _ _ Off.upd a4⟩) fun H4 s4 a4 => ⟨s.trans (sT.trans s4), acc, (sT.trans s4) _ _ hd, Nat.le_succ_of_le la, a4⟩
  · rintro H ⟨s, acc, hd, la, a⟩
    exact fin acc H s hd a
/-- .. that keeps of each item what f tells -/
theorem lc_tupF {K : PySem.W.Frag} {a : Addr} {xs : List V} {g : TG} {tt : TT} {te : TE} {vs : List Nat} {σ : L2.St} {H1 : Hp} {D : Addr} {Qd : Hp → Prop} (f : V → Option V) (new : H1 D = none) (sq : SqT K H1 a xs) (few : xs.length < 1000)
    (turn : ∀ (i : Nat) (x : V) (H : Hp), xs[i]? = some x → Same H1 H → ∀ (k1 : VK) (k2 : Hp → Prop), (∀ y H4, f x = some y → Same H H4 → k1 y H4) → (∀ H4, f x = none → Same H H4 → k2 H4) → Trn g tt te vs σ x H k1 k2)
    (fin : ∀ H, Same H1 H → H D = some (.lst (xs.filterMap f)) → Qd H) :
    ∃ W : Nat → Nat → Hp → Prop, (∃ m, W 0 m (upd H1 D (.lst []))) ∧ ∀ i m H, W i m H → ((Itt K a).stop i H ∧ Qd H) ∨ ((Itt K a).go i H ∧ ∃ Nx : Hp → Prop, (∀ H', Nx H' → ∃ m', m' < m ∧ W (i + 1) m' H') ∧
      ∀ x H', (Itt K a).yld i H x H' → Trn g tt te vs σ x H' (fun y H4 => ∃ acc, H4 D = some (.lst acc) ∧ acc.length < sizeLine ∧ Nx (upd H4 D (.lst (acc ++ [y])))) Nx) := by
  refine lc_tupS (xs := xs) (fun i acc _ => acc = (xs.take i).filterMap f) new sq few (fun _ _ _ _ _ h => h) rfl ?_ ?_
  · rintro i x acc H hx s hd rfl k1 k2 y1 y2
    have et : (xs.take (i + 1)).filterMap f = (xs.take i).filterMap f ++ (f x).toList := by
      rw [List.take_add_one, hx, List.filterMap_append]
      cases q : f x <;> simp [q]
    refine turn i x H hx s k1 k2 (fun y H4 e s4 => y1 y H4 s4 ?_) fun H4 e s4 => y2 H4 s4 ?_
    · rw [et, e]
      rfl
    · rw [et, e]
      exact (List.append_nil _).symm
  · rintro acc H s hd rfl
    rw [List.take_of_length_le (Nat.le_refl _)] at hd
    exact fin H s hd
/-- .. that tells g of each item -/
theorem lc_tupV {K : PySem.W.Frag} {a : Addr} {xs : List V} {g : TG} {tt : TT} {te : TE} {vs : List Nat} {σ : L2.St} {H1 : Hp} {D : Addr} {Qd : Hp → Prop} (f : V → V) (new : H1 D = none) (sq : SqT K H1 a xs) (few : xs.length < 1000)
    (turn : ∀ (i : Nat) (x : V) (H : Hp), xs[i]? = some x → Same H1 H → ∀ (k1 : VK) (k2 : Hp → Prop), (∀ H4, Same H H4 → k1 (f x) H4) → Trn g tt te vs σ x H k1 k2)
    (fin : ∀ H, Same H1 H → H D = some (.lst (xs.map f)) → Qd H) :
    ∃ W : Nat → Nat → Hp → Prop, (∃ m, W 0 m (upd H1 D (.lst []))) ∧ ∀ i m H, W i m H → ((Itt K a).stop i H ∧ Qd H) ∨ ((Itt K a).go i H ∧ ∃ Nx : Hp → Prop, (∀ H', Nx H' → ∃ m', m' < m ∧ W (i + 1) m' H') ∧
      ∀ x H', (Itt K a).yld i H x H' → Trn g tt te vs σ x H' (fun y H4 => ∃ acc, H4 D = some (.lst acc) ∧ acc.length < sizeLine ∧ Nx (upd H4 D (.lst (acc ++ [y])))) Nx) :=
  lc_tupF (xs := xs) (fun x => some (f x)) new sq few (fun i x H hx s k1 k2 y1 _ => turn i x H hx s k1 k2 fun H4 s4 => y1 _ H4 rfl s4) fun H s hd => fin H s (by
    have e : xs.filterMap (fun x => some (f x)) = xs.map f := by
      rw [← List.filterMap_eq_map]
      rfl
    rw [← e]
    exact hd)
/-- .. that keeps of each item what f tells -/
theorem lc_listF {K : PySem.W.Frag} {a : Addr} {xs : List V} {g : TG} {tt : TT} {te : TE} {vs : List Nat} {σ : L2.St} {H1 : Hp} {D : Addr} {Qd : Hp → Prop} (f : V → Option V) (new : H1 D = none) (sq : SqL K H1 a xs) (few : xs.length < 1000)
    (turn : ∀ (i : Nat) (x : V) (H : Hp), xs[i]? = some x → Same H1 H → ∀ (k1 : VK) (k2 : Hp → Prop), (∀ y H4, f x = some y → Same H H4 → k1 y H4) → (∀ H4, f x = none → Same H H4 → k2 H4) → Trn g tt te vs σ x H k1 k2)
    (fin : ∀ H, Same H1 H → H D = some (.lst (xs.filterMap f)) → Qd H) :
    ∃ W : Nat → Nat → Hp → Prop, (∃ m, W 0 m (upd H1 D (.lst []))) ∧ ∀ i m H, W i m H → ((Itl K a).stop i H ∧ Qd H) ∨ ((Itl K a).go i H ∧ ∃ Nx : Hp → Prop, (∀ H', Nx H' → ∃ m', m' < m ∧ W (i + 1) m' H') ∧
      ∀ x H', (Itl K a).yld i H x H' → Trn g tt te vs σ x H' (fun y H4 => ∃ acc, H4 D = some (.lst acc) ∧ acc.length < sizeLine ∧ Nx (upd H4 D (.lst (acc ++ [y])))) Nx) := by
  refine lc_listS (xs := xs) (fun i acc _ => acc = (xs.take i).filterMap f) new sq few (fun _ _ _ _ _ h => h) rfl ?_ ?_
  · rintro i x acc H hx s hd rfl k1 k2 y1 y2
    have et : (xs.take (i + 1)).filterMap f = (xs.take i).filterMap f ++ (f x).toList := by
      rw [List.take_add_one, hx, List.filterMap_append]
      cases q : f x <;> simp [q]
    refine turn i x H hx s k1 k2 (fun y H4 e s4 => y1 y H4 s4 ?_) fun H4 e s4 => y2 H4 s4 ?_
    · rw [et, e]
      rfl
    · rw [et, e]
      exact (List.append_nil _).symm
  · rintro acc H s hd rfl
    rw [List.take_of_length_le (Nat.le_refl _)] at hd
    exact fin H s hd
/-- .. that tells g of each item -/
theorem lc_listV {K : PySem.W.Frag} {a : Addr} {xs : List V} {g : TG} {tt : TT} {te : TE} {vs : List Nat} {σ : L2.St} {H1 : Hp} {D : Addr} {Qd : Hp → Prop} (f : V → V) (new : H1 D = none) (sq : SqL K H1 a xs) (few : xs.length < 1000)
    (turn : ∀ (i : Nat) (x : V) (H : Hp), xs[i]? = some x → Same H1 H → ∀ (k1 : VK) (k2 : Hp → Prop), (∀ H4, Same H H4 → k1 (f x) H4) → Trn g tt te vs σ x H k1 k2)
    (fin : ∀ H, Same H1 H → H D = some (.lst (xs.map f)) → Qd H) :
    ∃ W : Nat → Nat → Hp → Prop, (∃ m, W 0 m (upd H1 D (.lst []))) ∧ ∀ i m H, W i m H → ((Itl K a).stop i H ∧ Qd H) ∨ ((Itl K a).go i H ∧ ∃ Nx : Hp → Prop, (∀ H', Nx H' → ∃ m', m' < m ∧ W (i + 1) m' H') ∧
      ∀ x H', (Itl K a).yld i H x H' → Trn g tt te vs σ x H' (fun y H4 => ∃ acc, H4 D = some (.lst acc) ∧ acc.length < sizeLine ∧ Nx (upd H4 D (.lst (acc ++ [y])))) Nx) :=
  lc_listF (xs := xs) (fun x => some (f x)) new sq few (fun i x H hx s k1 k2 y1 _ => turn i x H hx s k1 k2 fun H4 s4 => y1 _ H4 rfl s4) fun H s hd => fin H s (by
    have e : xs.filterMap (fun x => some (f x)) = xs.map f := by
      rw [← List.filterMap_eq_map]
      rfl
    rw [← e]
    exact hd)
end VQ
namespace VQ
open PySem L2 LamX
/-! ### questions -/
abbrev letters : Str := "abcdefghijklmnopqrstuvwxyz"
def letB (c : Nat) : Bool := decide (c ∈ letters.cps.toList)
/-- a name of at most m letters -/
structure NameS (m : Nat) (z : Str) : Prop where
  lo : 1 ≤ z.length
  hi : z.length ≤ m
  nf : z ≠ "find"
  ns : z ≠ "some"
  lt : ∀ c ∈ z.cps.toList, letB c = true
inductive Term where
  | wo (n : Nat)
  | nm (z : Str)
  deriving DecidableEq
def termV : Term → V
  | .wo n => numV n
  | .nm z => .str z
theorem termV_flat (t : Term) : flatV (termV t) = true := by cases t <;> rfl
theorem terms_flat (ts : List Term) : (ts.map termV).all flatV = true := by
  rw [List.all_map]
  exact List.all_eq_true.mpr fun t _ => termV_flat t
theorem strs_flat (zs : List Str) : (zs.map V.str).all flatV = true := by
  rw [List.all_map]
  exact List.all_eq_true.mpr fun t _ => rfl
structure Qn where
  names : List Str
  many : Nat
  ties : List (Str × List Term)
  less : List (Str × Str)
/-- values and what they stand for, one by one -/
inductive Each {α : Type} (R : V → α → Prop) : List V → List α → Prop
  | nil : Each R [] []
  | cons {v : V} {x : α} {vs : List V} {xs : List α} (h : R v x) (t : Each R vs xs) : Each R (v :: vs) (x :: xs)
theorem Each.len {α : Type} {R : V → α → Prop} : ∀ {vs : List V} {xs : List α}, Each R vs xs → vs.length = xs.length
  | _, _, .nil => rfl
  | _, _, .cons _ t => congrArg (· + 1) t.len
theorem Each.get {α : Type} {R : V → α → Prop} : ∀ {vs : List V} {xs : List α}, Each R vs xs → ∀ {i : Nat} {v : V}, vs[i]? = some v → ∃ x, xs[i]? = some x ∧ R v x
  | _, _, .nil, _, _, h => by simp at h
  | _, _, .cons h t, 0, _, e => by
    cases e
    exact ⟨_, rfl, h⟩
  | _, _, .cons h t, i + 1, _, e => t.get (i := i) e
theorem Each.at_ {α : Type} {R : V → α → Prop} : ∀ {vs : List V} {xs : List α}, Each R vs xs → ∀ {i : Nat} {x : α}, xs[i]? = some x → ∃ v, vs[i]? = some v ∧ R v x
  | _, _, .nil, _, _, h => by simp at h
  | _, _, .cons h t, 0, _, e => by
    cases e
    exact ⟨_, rfl, h⟩
  | _, _, .cons h t, i + 1, _, e => t.at_ (i := i) e
theorem Each.mono {α : Type} {R S : V → α → Prop} (f : ∀ v x, R v x → S v x) : ∀ {vs : List V} {xs : List α}, Each R vs xs → Each S vs xs
  | _, _, .nil => .nil
  | _, _, .cons h t => .cons (f _ _ h) (t.mono f)
theorem Each.snoc {α : Type} {R : V → α → Prop} : ∀ {vs : List V} {xs : List α}, Each R vs xs → ∀ {v : V} {x : α}, R v x → Each R (vs ++ [v]) (xs ++ [x])
  | _, _, .nil, _, _, h => .cons h .nil
  | _, _, .cons h t, _, _, h' => .cons h (t.snoc h')
/-- tuples stand as they stood -/
def Tups (H H' : Hp) : Prop := ∀ a xs, H a = some (.tup xs) → H' a = some (.tup xs)
theorem same_tups {H H' : Hp} (s : Same H H') : Tups H H' := fun a xs h => s _ _ h
theorem Tups.trans {H H1 H2 : Hp} (a : Tups H H1) (b : Tups H1 H2) : Tups H H2 := fun p xs h => b _ _ (a _ _ h)
def TieAt (H : Hp) (v : V) (t : Str × List Term) : Prop := ∃ a c, v = .ref a ∧ H a = some (.tup [.str t.1, .ref c]) ∧ H c = some (.tup (t.2.map termV))
def PairAt (H : Hp) (v : V) (p : Str × Str) : Prop := ∃ a, v = .ref a ∧ H a = some (.tup [.str p.1, .str p.2])
theorem TieAt.moved {H H' : Hp} (s : Tups H H') {v : V} {t : Str × List Term} (h : TieAt H v t) : TieAt H' v t := by
  obtain ⟨a, c, e, h1, h2⟩ := h
  exact ⟨a, c, e, s _ _ h1, s _ _ h2⟩
theorem PairAt.moved {H H' : Hp} (s : Tups H H') {v : V} {t : Str × Str} (h : PairAt H v t) : PairAt H' v t := by
  obtain ⟨a, e, h1⟩ := h
  exact ⟨a, e, s _ _ h1⟩
def NmAt (H : Hp) (a : Addr) (zs : List Str) : Prop := H a = some (.tup (zs.map V.str))
structure QParts (H : Hp) (n t l : Addr) (q : Qn) : Prop where
  nm : NmAt H n q.names
  ti : ∃ ts, H t = some (.tup ts) ∧ Each (TieAt H) ts q.ties
  le : ∃ ls, H l = some (.tup ls) ∧ Each (PairAt H) ls q.less
def QAt (H : Hp) (a : Addr) (q : Qn) : Prop := ∃ n t l, H a = some (.tup [.ref n, .int (q.many : Nat), .ref t, .ref l]) ∧ QParts H n t l q
theorem QParts.moved {H H' : Hp} (s : Tups H H') {n t l : Addr} {q : Qn} (h : QParts H n t l q) : QParts H' n t l q := by
  obtain ⟨h1, ⟨ts, h2, h3⟩, ls, h4, h5⟩ := h
  exact ⟨s _ _ h1, ⟨ts, s _ _ h2, h3.mono fun _ _ z => z.moved s⟩, ls, s _ _ h4, h5.mono fun _ _ z => z.moved s⟩
theorem QAt.moved {H H' : Hp} (s : Tups H H') {a : Addr} {q : Qn} (h : QAt H a q) : QAt H' a q := by
  obtain ⟨n, t, l, h1, h2⟩ := h
  exact ⟨n, t, l, s _ _ h1, h2.moved s⟩
def TermOk (names : List Str) : Term → Prop
  | .wo n => n < 32
  | .nm z => z ∈ names
structure TieOk (names : List Str) (t : Str × List Term) : Prop where
  nm : NameS 8 t.1
  lo : 1 ≤ t.2.length
  hi : t.2.length ≤ 4
  tm : ∀ x ∈ t.2, TermOk names x
structure QOk (q : Qn) : Prop where
  n1 : 1 ≤ q.names.length
  n5 : q.names.length ≤ 5
  nm : ∀ z ∈ q.names, NameS 4 z
  nd : q.names.Nodup
  m1 : 1 ≤ q.many
  mn : q.many ≤ q.names.length
  t1 : 1 ≤ q.ties.length
  t6 : q.ties.length ≤ 6
  tt : ∀ t ∈ q.ties, TieOk q.names t
  l3 : q.less.length ≤ 3
  ll : ∀ p ∈ q.less, p.1 ∈ q.names ∧ p.2 ∈ q.names ∧ p.1 ≠ p.2
  all : ∀ z ∈ q.names, ∃ t ∈ q.ties, Term.nm z ∈ t.2
theorem inV_str {z : Str} {zs : List Str} : inV (.str z) (zs.map V.str) = decide (z ∈ zs) := by
  unfold inV
  rw [List.any_map]
  by_cases h : z ∈ zs
  · rw [decide_eq_true h, List.any_eq_true]
    exact ⟨z, h, beq_self_eq_true z⟩
  · rw [decide_eq_false h, List.any_eq_false]
    intro y m e
    have e' : (y == z) = true := e
    exact h (by rw [← beq_iff_eq.mp e']; exact m)
theorem inV_term {z : Str} {ts : List Term} : inV (.str z) (ts.map termV) = decide (Term.nm z ∈ ts) := by
  unfold inV
  rw [List.any_map]
  by_cases h : Term.nm z ∈ ts
  · rw [decide_eq_true h, List.any_eq_true]
    exact ⟨_, h, beq_self_eq_true z⟩
  · rw [decide_eq_false h, List.any_eq_false]
    intro y m e
    cases y with
    | wo n => cases e
    | nm y =>
      have e' : (y == z) = true := e
      exact h (by rw [← beq_iff_eq.mp e']; exact m)
/-- where a def stands, wherever -/
def AtE (K : PySem.W.Frag) (mg : Str → Option Value) (x : Str) (st : Stmt) (ps : List Str) : Prop := ∃ f fd, At K mg x st ps f fd
/-- a def that stands and keeps a promise -/
def Has (P : Program) (w : World) (K : PySem.W.Frag) (mg : Str → Option Value) (base : Heap) (C : CXT) (k : Nat) (x : Str) (st : Stmt) (ps : List Str) (sp : Sp) : Prop := ∃ f fd, At K mg x st ps f fd ∧ FnOk P w K mg base C k f fd ps sp
abbrev nIsTuple : List Str := ["thing", "least", "most"]
abbrev sIsName : Stmt := top 17
abbrev nIsName : List Str := ["thing", "most", "sign"]
theorem scIsName : FnScope nIsName ["thing", "most"] (defScope sIsName) := ⟨rfl, rfl, rfl, by decide +kernel, rfl, by decide +kernel, by decide +kernel⟩
abbrev nAreNames : List Str := ["thing", "part"]
abbrev nIsTie : List Str := ["thing", "names", "table", "terms", "term"]
abbrev nIsPair : List Str := ["thing", "names", "part"]
abbrev sAllTied : Stmt := top 24
abbrev nAllTied : List Str := ["names", "ties", "terms", "tie", "term", "name"]
theorem scAllTied : FnScope nAllTied ["names", "ties"] (defScope sAllTied) := ⟨rfl, rfl, rfl, by decide +kernel, rfl, by decide +kernel, by decide +kernel⟩
abbrev nIsQuestion : List Str := ["thing", "names", "many", "ties", "less", "tie", "pair"]
abbrev nNeedQuestion : List Str := ["question"]
structure Wq (K : PySem.W.Frag) (mg : Str → Option Value) (aB : Addr) : Prop where
  mp : ∃ t, mg "MOST_PLACES" = some (.int 5 t)
  mw : ∃ t, mg "MOST_WIDTH" = some (.int 4 t)
  ml : ∃ t, mg "MOST_LETTERS" = some (.int 8 t)
  mn : ∃ t, mg "MOST_NAME" = some (.int 4 t)
  mt : ∃ t, mg "MOST_TIES" = some (.int 6 t)
  mr : ∃ t, mg "MOST_PAIRS" = some (.int 3 t)
  wo : ∃ t, mg "WORTHS" = some (.int 32 t)
  le : ∃ t, mg "LETTERS" = some (.str letters t)
  ba : mg "BARRED" = some (.ref aB)
  bt : ∀ H, SqT K H aB [.str "find", .str "some"]
  set : mg "set" = none
section
variable {P : Program} {w : World} {K : PySem.W.Frag} {mg : Str → Option Value} {base : Heap} {aB : Addr}
/-- a thing that is no tuple, or the items of one -/
inductive TupO (K : PySem.W.Frag) (H : Hp) : V → Option (List V) → Prop
  | tup {a : Addr} {xs : List V} (h : H a = some (.tup xs)) : TupO K H (.ref a) (some xs)
  | oth {x : V} {t : String} (ty : TyX K H x (.type t)) (m : t ∈ basics) (nt : t ≠ "tuple") : TupO K H x none
def lenO (lo hi : Int) : Option (List V) → Bool
  | none => false
  | some xs => decide (lo ≤ xs.length) && decide ((xs.length : Int) ≤ hi)
def spIsTuple (K : PySem.W.Frag) : Sp := fun vs H Q _ => ∃ (x : V) (o : Option (List V)) (lo hi : Int), vs = [x, .int lo, .int hi] ∧ TupO K H x o ∧ Q (.bl (lenO lo hi o)) H
def spIsName : Sp := fun vs H Q _ => ∃ (z : Str) (m : Nat), vs = [.str z, .int (m : Nat)] ∧ NameS m z ∧ m ≤ 8 ∧ ∀ H', Same H H' → Q (.bl true) H'
theorem has_isname (b : Blt mg) (W : Wq K mg aB) (a : AtE K mg "is_name" sIsName ["thing", "most"]) : Has P w K mg base CX0 1 "is_name" sIsName ["thing", "most"] spIsName := by
  obtain ⟨f, fd, a⟩ := a
  obtain ⟨tle, Wle⟩ := W.le
  refine ⟨f, fd, a, a.fn.ok scIsName (fun vs H Q E h => ?_) (fun cdv A outer s H vs Q E hr h => ?_)⟩
  · obtain ⟨z, m, rfl, _⟩ := h
    rfl
  · obtain ⟨z, m, rfl, nz, m8, k⟩ := h
    refine ⟨_,
    (pss_cons (ps_if (PW.pt (pw_or (pt_not (pt_val (pe_isi (pv 0) rfl b.isi rfl b.str (c := "str") (by decide +kernel)))) (pw_or1 (pt_not (pt_chain op_le op_le pe_int (pe_callB call_len_str (by rfl) b.len PySem.boot_len (pa_cons (pv 0) pa_nil)) (pv 1))))))
      (pss_one (ps_ret pe_bl))
      pss_nil)
    (pss_one (ps_ret (pe_and (pe_cmpR op_notIn_seq (pv 0) (pe_glob (v := .ref aB) rfl W.ba rfl) rfl) (pe_one (pe_callB (cr_all rfl) (by rfl) b.all (by decide +kernel) (pa_cons (pe_lc (own := [("sign", 2)]) (g := (gName 2)) (tt := tYes) (te := (tOp rInSign (tVar 2) (tC (.str letters)))) rfl scIsName.nd (pi_str (pv 0)) (blkOk_by (N := nIsName) (sc := defScope sIsName) (by decide +kernel)) (fun _ _ _ _ _ => (pg_name (i := 2) scIsName.nd rfl (.inl rfl))) (fun _ _ _ _ _ => pts_nil) (fun _ _ _ _ _ => (pe_cmpR op_in_sign (pv 2) (pe_glob (v := .str letters) rfl Wle ⟨_, rfl⟩) rfl))) pa_nil))))))), ?_⟩
    have l8 := nz.hi
    refine rd_isi rfl (.base (.str z)) (b := true) (by decide +kernel) ⟨_, rfl, iteF ?_⟩
    refine ⟨_, rfl, z, rfl, Nat.le_trans (show z.length ≤ 1000 by omega) (by decide), 1, _, rfl, rfl, _, rfl, ?_⟩
    rw [if_pos (decide_eq_true (show (1 : Int) ≤ (z.length : Int) by have := nz.lo; omega))]
    refine ⟨_, rfl, _, _, rfl, rfl, _, rfl, ?_⟩
    rw [decide_eq_true (show (z.length : Int) ≤ (m : Int) by omega)]
    refine iteF ?_
    refine ⟨_, rfl, aB, _, rfl, .inr (W.bt H), rfl, rfl, _, rfl, ?_⟩
    have e1 : inV (.str z) [.str "find", .str "some"] = false := by
      have e := inV_str (z := z) (zs := ["find", "some"])
      rw [show ([.str "find", .str "some"] : List V) = (["find", "some"] : List Str).map V.str from rfl, e]
      refine decide_eq_false fun m => ?_
      rcases List.mem_cons.mp m with q | q
      · exact nz.nf q
      · exact nz.ns (List.mem_singleton.mp q)
    rw [e1]
    refine iteT ?_
    refine ⟨_, rfl, z, rfl, fun D hD => ?_⟩
    refine lc_textS (fun i acc _ => acc = ((z.cps.toList.take i).map letB).map V.bl) hD (show z.cps.size < 1000 by have : z.cps.size = z.length := rfl; omega) (fun _ _ _ _ _ h => h) rfl ?_ ?_
    · rintro i c acc H2 hc s2 h2 rfl k1 k2 y1 y2
      refine ⟨rfl, yes_turn ?_⟩
      refine ⟨_, rfl, c, letters, rfl, rfl, y1 _ _ (Same.refl _) ?_⟩
      rw [List.take_add_one, show z.cps.toList[i]? = some c by rw [Array.getElem?_toList]; exact hc, List.map_append, List.map_append]
      rfl
    · rintro acc H2 s2 h2 rfl
      refine ⟨D, _, rfl, SqL.of h2, ?_⟩
      have e2 : ((z.cps.toList.take z.cps.size).map letB).all id = true := by
        rw [List.take_of_length_le (by simp), List.all_map]
        exact List.all_eq_true.mpr fun c m => nz.lt c m
      rw [e2]
      exact k H2 s2
def spAreNames : Sp := fun vs H Q _ => ∃ (a : Addr) (zs : List Str), vs = [.ref a] ∧ NmAt H a zs ∧ 1 ≤ zs.length ∧ zs.length ≤ 5 ∧ (∀ z ∈ zs, NameS 4 z) ∧ zs.Nodup ∧ ∀ H', Same H H' → Q (.bl true) H'
def spIsTie (K : PySem.W.Frag) : Sp := fun vs H Q _ => ∃ (v : V) (a : Addr) (zs : List Str) (t : Str × List Term), vs = [v, .ref a] ∧ TieAt H v t ∧ NmAt H a zs ∧ TieOk zs t ∧ ∀ H', Same H H' → Q (.bl true) H'
def spIsPair (K : PySem.W.Frag) : Sp := fun vs H Q _ => ∃ (v : V) (a : Addr) (zs : List Str) (p : Str × Str), vs = [v, .ref a] ∧ PairAt H v p ∧ NmAt H a zs ∧ zs.length ≤ 5 ∧ p.1 ∈ zs ∧ p.2 ∈ zs ∧ p.1 ≠ p.2 ∧ ∀ H', Same H H' → Q (.bl true) H'
end
end VQ
namespace VQ
open PySem L2 LamX
/-! ### comprehensions with two clauses -/
theorem lc2_tup {K : PySem.W.Frag} {a : Addr} {xs : List V} {g g1 : TG} {tt tt1 : TT} {wi1 : TI} {te : TE} {vs vs1 : List Nat} {σ : L2.St} {H1 : Hp} {D : Addr} {Qd : Hp → Prop} (Pv : Nat → Hp → Prop) (h0 : Pv 0 (upd H1 D (.lst []))) (there : ∀ i H, Pv i H → SqT K H a xs)
    (turn : ∀ (i : Nat) (x : V) (H : Hp), xs[i]? = some x → Pv i H → g x (wipe σ vs) H fun σ2 H2 => wipe σ2 vs = wipe σ vs ∧ tt σ2 H2 fun c H3 =>
      if c = true then wi1 σ2 H3 fun J1 H4 => ∃ W1 : Nat → Nat → Hp → Prop, (∃ m, W1 0 m H4) ∧ ∀ j k H, W1 j k H →
        (J1.stop j H ∧ Pv (i + 1) H) ∨ (J1.go j H ∧ ∃ Nx1 : Hp → Prop, (∀ H', Nx1 H' → ∃ k', k' < k ∧ W1 (j + 1) k' H') ∧ ∀ x H', J1.yld j H x H' → g1 x (wipe σ2 vs1) H' fun σ3 H5 => wipe σ3 vs1 = wipe σ2 vs1 ∧ tt1 σ3 H5 fun c H6 =>
          if c = true then te σ3 H6 fun y H7 => ∃ acc, H7 D = some (.lst acc) ∧ acc.length < sizeLine ∧ Nx1 (upd H7 D (.lst (acc ++ [y]))) else Nx1 H6)
      else Pv (i + 1) H3) (fin : ∀ H, Pv xs.length H → Qd H) :
    ∃ W : Nat → Nat → Hp → Prop, (∃ m, W 0 m (upd H1 D (.lst []))) ∧ ∀ i m H, W i m H →
      ((Itt K a).stop i H ∧ Qd H) ∨ ((Itt K a).go i H ∧ ∃ Nx : Hp → Prop, (∀ H', Nx H' → ∃ m', m' < m ∧ W (i + 1) m' H') ∧ ∀ x H', (Itt K a).yld i H x H' → g x (wipe σ vs) H' fun σ2 H2 => wipe σ2 vs = wipe σ vs ∧ tt σ2 H2 fun c H3 =>
        if c = true then wi1 σ2 H3 fun J1 H4 => ∃ W1 : Nat → Nat → Hp → Prop, (∃ m, W1 0 m H4) ∧ ∀ j k H, W1 j k H →
          (J1.stop j H ∧ Nx H) ∨ (J1.go j H ∧ ∃ Nx1 : Hp → Prop, (∀ H', Nx1 H' → ∃ k', k' < k ∧ W1 (j + 1) k' H') ∧ ∀ x H', J1.yld j H x H' → g1 x (wipe σ2 vs1) H' fun σ3 H5 => wipe σ3 vs1 = wipe σ2 vs1 ∧ tt1 σ3 H5 fun c H6 =>
            if c = true then te σ3 H6 fun y H7 => ∃ acc, H7 D = some (.lst acc) ∧ acc.length < sizeLine ∧ Nx1 (upd H7 D (.lst (acc ++ [y]))) else Nx1 H6)
        else Nx H3) := by
  refine ⟨fun i m H => m + i = xs.length ∧ Pv i H, ⟨xs.length, rfl, h0⟩, ?_⟩
  rintro i m H ⟨em, p⟩
  have sq := there i H p
  by_cases lt : i < xs.length
  · refine .inr ⟨⟨xs, xs[i], sq, List.getElem?_eq_getElem lt⟩, Pv (i + 1), fun H' p' => ⟨m - 1, by omega, by omega, p'⟩, ?_⟩
    rintro x H' ⟨rfl, ex⟩
    exact turn i x _ (ex xs sq) p
  · obtain rfl : i = xs.length := by omega
    exact .inl ⟨⟨xs, sq, Nat.le_refl _⟩, fin H p⟩
theorem in_tup {K : PySem.W.Frag} {a : Addr} {ys : List V} {g1 : TG} {tt1 : TT} {te : TE} {vs1 : List Nat} {σ2 : L2.St} {H4 : Hp} {D : Addr} {Nx : Hp → Prop} (Pw : Nat → Hp → Prop) (h0 : Pw 0 H4) (there : ∀ i H, Pw i H → SqT K H a ys)
    (turn : ∀ (j : Nat) (y : V) (H : Hp), ys[j]? = some y → Pw j H → Trn g1 tt1 te vs1 σ2 y H (fun y H7 => ∃ acc, H7 D = some (.lst acc) ∧ acc.length < sizeLine ∧ Pw (j + 1) (upd H7 D (.lst (acc ++ [y])))) (Pw (j + 1))) (fin : ∀ H, Pw ys.length H → Nx H) :
    ∃ W1 : Nat → Nat → Hp → Prop, (∃ m, W1 0 m H4) ∧ ∀ j k H, W1 j k H →
      ((Itt K a).stop j H ∧ Nx H) ∨ ((Itt K a).go j H ∧ ∃ Nx1 : Hp → Prop, (∀ H', Nx1 H' → ∃ k', k' < k ∧ W1 (j + 1) k' H') ∧ ∀ x H', (Itt K a).yld j H x H' → Trn g1 tt1 te vs1 σ2 x H' (fun y H7 => ∃ acc, H7 D = some (.lst acc) ∧ acc.length < sizeLine ∧ Nx1 (upd H7 D (.lst (acc ++ [y])))) Nx1) := by
  refine ⟨fun i m H => m + i = ys.length ∧ Pw i H, ⟨ys.length, rfl, h0⟩, ?_⟩
  rintro i m H ⟨em, p⟩
  have sq := there i H p
  by_cases lt : i < ys.length
  · refine .inr ⟨⟨ys, ys[i], sq, List.getElem?_eq_getElem lt⟩, Pw (i + 1), fun H' p' => ⟨m - 1, by omega, by omega, p'⟩, ?_⟩
    rintro x H' ⟨rfl, ex⟩
    exact turn i x _ (ex ys sq) p
  · obtain rfl : i = ys.length := by omega
    exact .inl ⟨⟨ys, sq, Nat.le_refl _⟩, fin H p⟩
abbrev nOwnPlaces : List Str := ["question", "tie", "terms", "at", "name"]
abbrev nOwnNames : List Str := ["question", "tie", "at"]
section
variable {P : Program} {w : World} {K : PySem.W.Frag} {mg : Str → Option Value} {base : Heap} {aB : Addr}
def spAllTied (K : PySem.W.Frag) : Sp := fun vs H Q _ => ∃ (n t l : Addr) (q : Qn), vs = [.ref n, .ref t] ∧ QParts H n t l q ∧ QOk q ∧ ∀ H', Same H H' → Q (.bl true) H'
theorem has_alltied (b : Blt mg) (a : AtE K mg "all_tied" sAllTied ["names", "ties"]) : Has P w K mg base CX0 1 "all_tied" sAllTied ["names", "ties"] (spAllTied K) := by
  obtain ⟨f, fd, a⟩ := a
  refine ⟨f, fd, a, a.fn.ok scAllTied (fun vs H Q E h => ?_) (fun cdv A outer s H vs Q E hr1 h => ?_)⟩
  · obtain ⟨n, t, l, q, rfl, _⟩ := h
    rfl
  · obtain ⟨n, t, l, q, rfl, qp, ok, k⟩ := h
    obtain ⟨hn, ⟨ts, ht, et⟩, _⟩ := qp
    refine ⟨_,
    (pss_cons (ps_set (i := 2) scAllTied.nd rfl (.inr rfl) (pe_lc2 (own := [("tie", 3), ("term", 4)]) (vs1 := [4]) (g := (gName 3)) (tt := tYes) (wi1 := (iTup K (tOp (rIxT K) (tVar 3) (tC (.int 1))))) (g1 := (gName 4)) (tt1 := tYes) (te := (tVar 4)) rfl scAllTied.nd (pi_tup (pv 1)) (blkOk_by (N := nAllTied) (sc := defScope sAllTied) (by decide +kernel)) (by decide) (fun _ _ _ _ _ => (pg_name (i := 3) scAllTied.nd rfl (.inl rfl))) (fun _ _ _ _ _ => pts_nil) (fun _ _ _ _ _ => (pi_tup (pe_ix ix_tup (pv 3) pe_int fun _ _ => rfl))) (fun _ _ _ _ _ => (pg_name (i := 4) scAllTied.nd rfl (.inl rfl))) (fun _ _ _ _ _ => pts_nil) (fun _ _ _ _ _ => (pv 4))))
    (pss_one (ps_ret (pe_callB (cr_all rfl) (by rfl) b.all (by decide +kernel) (pa_cons (pe_lc (own := [("name", 5)]) (g := (gName 5)) (tt := tYes) (te := (tOp (rIn K false) (tVar 5) (tVar 2))) rfl scAllTied.nd (pi_tup (pv 0)) (blkOk_by (N := nAllTied) (sc := defScope sAllTied) (by decide +kernel)) (fun _ _ _ _ _ => (pg_name (i := 5) scAllTied.nd rfl (.inl rfl))) (fun _ _ _ _ _ => pts_nil) (fun _ _ _ _ _ => (pe_cmpR op_in_seq (pv 5) (pv 2) rfl))) pa_nil))))), ?_⟩
    refine ⟨_, rfl, t, rfl, ⟨_, SqT.of ht⟩, fun D hD => ?_⟩
    have lts : ts.length ≤ 6 := by rw [et.len]; exact ok.t6
    have few : ∀ i, (((q.ties.take i).flatMap (·.2)).map termV).length ≤ 4 * i := by
      intro i
      rw [List.length_map]
      induction i with
      | zero => simp
      | succ i ih =>
        rw [List.take_add_one, List.flatMap_append, List.length_append]
        cases e : q.ties[i]? with
        | none =>
          show _ + 0 ≤ _
          omega
        | some tie =>
          have h4 := (ok.tt tie (List.mem_of_getElem? e)).hi
          show _ + (List.flatMap (·.2) [tie]).length ≤ _
          rw [List.flatMap_cons, List.flatMap_nil, List.append_nil]
          omega
    refine lc2_tup (xs := ts) (fun i H' => Same H H' ∧ i ≤ ts.length ∧ H' D = some (.lst (((q.ties.take i).flatMap (·.2)).map termV))) ⟨same_new hD, Nat.zero_le _, upd_same⟩ (fun i H' z => SqT.of (z.1 _ _ ht)) ?_ ?_
    · rintro i x H2 hx ⟨s2, li, h2⟩
      obtain ⟨tie, etie, a, c, rfl, ha, hc⟩ := et.get hx
      have tok := ok.tt tie (List.mem_of_getElem? etie)
      have l4 := tok.hi
      have li' : i < ts.length := (List.getElem?_eq_some_iff.mp hx).1
      refine ⟨rfl, yes_turn ?_⟩
      refine ⟨_, rfl, a, _, _, _, rfl, rfl, SqT.of (s2 _ _ ha), atI_nat (j := 1) rfl, c, rfl, ⟨_, SqT.of (s2 _ _ hc)⟩, ?_⟩
      refine in_tup (ys := tie.2.map termV) (fun j H' => Same H H' ∧ H' D = some (.lst (((q.ties.take i).flatMap (·.2)).map termV ++ (tie.2.take j).map termV))) ⟨s2, by simpa using h2⟩ (fun i H' z => SqT.of (z.1 _ _ hc)) ?_ ?_
      · rintro j y H3 hy ⟨s3, h3⟩
        obtain ⟨u, eu, rfl⟩ := getF hy
        refine ⟨rfl, yes_turn ⟨_, rfl, _, h3, ?_, same_put s3 hD, ?_⟩⟩
        · have := few i
          rw [List.length_append, List.length_map (as := tie.2.take j), List.length_take]
          exact lt_line (by omega)
        · rw [upd_same, List.append_assoc, ← take_snoc termV eu]
      · rintro H3 ⟨s3, h3⟩
        refine ⟨s3, by omega, ?_⟩
        rw [h3, List.take_add_one, etie, List.length_map, List.take_of_length_le (Nat.le_refl _)]
        simp
    · rintro H2 ⟨s2, _, h2⟩
      rw [et.len, List.take_of_length_le (Nat.le_refl _)] at h2
      refine ⟨_, rfl, n, rfl, ⟨_, SqT.of (s2 _ _ hn)⟩, fun D2 hD2 => ?_⟩
      have z5 := ok.n5
      refine lc_tupV (xs := q.names.map V.str) (fun _ => .bl true) hD2 (SqT.of (s2 _ _ hn)) (by rw [List.length_map]; omega) ?_ ?_
      · rintro i x H3 hx s3 k1 k2 y1
        obtain ⟨z, ez, rfl⟩ := map_get hx
        refine ⟨rfl, yes_turn ?_⟩
        refine ⟨_, rfl, _, rfl, D, _, rfl, .inl (SqL.of (s3 _ _ h2)), rfl, terms_flat _, ?_⟩
        obtain ⟨tie, mt, mz⟩ := ok.all z (List.mem_of_getElem? ez)
        rw [inV_term, decide_eq_true (List.mem_flatMap.mpr ⟨tie, mt, mz⟩)]
        exact y1 _ (Same.refl _)
      · intro H3 s3 h3
        refine ⟨D2, q.names.map fun _ => true, rfl, SqL.of (by rw [h3, List.map_map, List.map_map]; rfl), ?_⟩
        have e2 : (q.names.map fun _ => true).all id = true := by
          rw [List.all_map]
          exact List.all_eq_true.mpr fun _ _ => rfl
        rw [e2]
        exact k H3 (s2.trans s3)
def spIsQn : Sp := fun vs H Q _ => ∃ (a : Addr) (q : Qn), vs = [.ref a] ∧ QAt H a q ∧ QOk q ∧ ∀ H', Same H H' → Q (.bl true) H'
theorem all_true {α : Type} (xs : List α) : (xs.map fun _ => true).all id = true := by
  rw [List.all_map]
  exact List.all_eq_true.mpr fun _ _ => rfl
def spNeedQn : Sp := fun vs H Q _ => ∃ (a : Addr) (q : Qn), vs = [.ref a] ∧ QAt H a q ∧ QOk q ∧ ∀ H', Same H H' → Q .non H'
/-! ### a tie's own names -/
def ownZ (q : Qn) (t : Nat) : List Str := q.names.filter fun z => decide (Term.nm z ∈ (q.ties.getD t ("", [])).2)
def placesM (names : List Str) (ts : List Term) : Nat → List Nat
  | 0 => []
  | i + 1 => placesM names ts i ++ (if Term.nm (names.getD i "") ∈ ts then [i] else [])
theorem placesM_names (names : List Str) (ts : List Term) : ∀ i, i ≤ names.length → (placesM names ts i).map (fun j => names.getD j "") = (names.take i).filter fun z => decide (Term.nm z ∈ ts)
  | 0, _ => rfl
  | i + 1, h => by
    have lt : i < names.length := h
    have e : names[i]? = some names[i] := List.getElem?_eq_getElem lt
    have e2 : names.getD i "" = names[i] := by rw [List.getD_eq_getElem?_getD, e]; rfl
    rw [List.take_add_one, e, List.filter_append, ← placesM_names names ts i (by omega)]
    show (placesM names ts i ++ _).map _ = _
    rw [List.map_append, e2]
    congr 1
    show _ = List.filter _ [names[i]]
    by_cases m : Term.nm names[i] ∈ ts
    · rw [if_pos m, List.filter_cons_of_pos (by rw [decide_eq_true m])]
      show [names.getD i ""] = _
      rw [e2]
      rfl
    · rw [if_neg m, List.filter_cons_of_neg (by rw [decide_eq_false m]; exact Bool.false_ne_true)]
      rfl
theorem placesM_lt (names : List Str) (ts : List Term) : ∀ i, ∀ j ∈ placesM names ts i, j < i
  | 0, j, m => by cases m
  | i + 1, j, m => by
    rcases List.mem_append.mp m with m | m
    · exact Nat.lt_succ_of_lt (placesM_lt names ts i j m)
    · by_cases c : Term.nm (names.getD i "") ∈ ts
      · rw [if_pos c] at m
        rw [List.mem_singleton.mp m]
        exact Nat.lt_succ_self i
      · rw [if_neg c] at m
        cases m
theorem placesM_len (names : List Str) (ts : List Term) : ∀ i, (placesM names ts i).length ≤ i
  | 0 => Nat.le_refl 0
  | i + 1 => by
    have := placesM_len names ts i
    show (placesM names ts i ++ _).length ≤ _
    rw [List.length_append]
    split <;> simp <;> omega
def spOwnP : Sp := fun vs H Q _ => ∃ (a : Addr) (q : Qn) (t : Nat) (tie : Str × List Term), vs = [.ref a, .int (t : Nat)] ∧ QAt H a q ∧ QOk q ∧ q.ties[t]? = some tie ∧
  ∀ (p : Addr) (H' : Hp), H p = none → Same H H' → H' p = some (.lst ((placesM q.names tie.2 q.names.length).map numV)) → Q (.ref p) H'
def spOwnN : Sp := fun vs H Q _ => ∃ (a : Addr) (q : Qn) (t : Nat), vs = [.ref a, .int (t : Nat)] ∧ QAt H a q ∧ QOk q ∧ t < q.ties.length ∧
  ∀ (p : Addr) (H' : Hp), H p = none → Same H H' → NmAt H' p (ownZ q t) → Q (.ref p) H'
end
end VQ
namespace VQ
open PySem L2 LamX
/-! ### ties taken off, one by one -/
def othersM (left : List Nat) (t : Nat) : List Nat := left.filter fun o => o != t
def hasM (N : List (List Str)) (o : Nat) (z : Str) : Bool := decide (z ∈ N.getD o [])
def commonM (N : List (List Str)) (left : List Nat) (t : Nat) : List Str := (N.getD t []).filter fun z => (othersM left t).any fun o => hasM N o z
def offM (N : List (List Str)) (left : List Nat) (t : Nat) : List (Option Nat) := if (commonM N left t).isEmpty then [none] else ((othersM left t).filter fun o => (commonM N left t).all fun z => hasM N o z).map some
def earM (N : List (List Str)) (left : List Nat) : Option (Nat × Option Nat) := match left.filter fun t => !(offM N left t).isEmpty with
  | [] => none
  | t :: _ => some (t, (offM N left t).headD none)
def goM (N : List (List Str)) : Nat → List Nat → List (Nat × Option Nat) → List Nat × List (Nat × Option Nat)
  | 0, left, acc => (left, acc)
  | n + 1, left, acc => match earM N left with
    | none => (left, acc)
    | some (t, o) => goM N n (othersM left t) (acc ++ [(t, o)])
def optV : Option Nat → V
  | none => .non
  | some o => numV o
theorem ear_first {N : List (List Str)} {left : List Nat} {i t : Nat} (ht : left[i]? = some t) (no : ∀ j u, j < i → left[j]? = some u → offM N left u = []) (yes : offM N left t ≠ []) : earM N left = some (t, (offM N left t).headD none) := by
  have key : ∀ (l : List Nat) (i : Nat), l[i]? = some t → (∀ j u, j < i → l[j]? = some u → offM N left u = []) → ∃ r, l.filter (fun t => !(offM N left t).isEmpty) = t :: r := by
    intro l
    induction l with
    | nil => intro i h; simp at h
    | cons x l ih =>
      intro i h nn
      cases i with
      | zero =>
        cases h
        refine ⟨_, List.filter_cons_of_pos ?_⟩
        cases e : offM N left t with
        | nil => exact absurd e yes
        | cons a b => rfl
      | succ i =>
        have e := nn 0 x (Nat.succ_pos i) rfl
        obtain ⟨r, er⟩ := ih i h fun j u lj hj => nn (j + 1) u (Nat.succ_lt_succ lj) hj
        exact ⟨r, by rw [List.filter_cons_of_neg (by rw [e]; exact Bool.false_ne_true), er]⟩
  obtain ⟨r, er⟩ := key left i ht no
  unfold earM
  rw [er]
theorem ear_none {N : List (List Str)} {left : List Nat} (no : ∀ u ∈ left, offM N left u = []) : earM N left = none := by
  have e : left.filter (fun t => !(offM N left t).isEmpty) = [] := List.filter_eq_nil_iff.mpr fun u m => by
    rw [no u m]
    exact Bool.false_ne_true
  unfold earM
  rw [e]
theorem ear_mem {N : List (List Str)} {left : List Nat} {t : Nat} {o : Option Nat} (h : earM N left = some (t, o)) : t ∈ left ∧ offM N left t ≠ [] ∧ o = (offM N left t).headD none := by
  unfold earM at h
  cases e : left.filter (fun t => !(offM N left t).isEmpty) with
  | nil =>
    rw [e] at h
    cases h
  | cons u r =>
    rw [e] at h
    cases h
    have m : t ∈ left.filter (fun t => !(offM N left t).isEmpty) := by rw [e]; exact List.mem_cons_self
    obtain ⟨m1, m2⟩ := List.mem_filter.mp m
    refine ⟨m1, fun z => ?_, rfl⟩
    rw [z] at m2
    cases m2
theorem others_at {left : List Nat} {t : Nat} : ∀ {j : Nat}, left.Nodup → left[j]? = some t → left.eraseIdx j = othersM left t := by
  induction left with
  | nil => intro j _ h; simp at h
  | cons x l ih =>
    intro j nd h
    obtain ⟨nx, nl⟩ := List.nodup_cons.mp nd
    cases j with
    | zero =>
      cases h
      show l = List.filter _ _
      rw [List.filter_cons_of_neg (by simp)]
      exact (List.filter_eq_self.mpr fun y m => bne_iff_ne.mpr fun e => nx (by rw [← e]; exact m)).symm
    | succ j =>
      have h' : l[j]? = some t := h
      have ne : x ≠ t := fun e => nx (by rw [e]; exact List.mem_of_getElem? h')
      show x :: l.eraseIdx j = List.filter _ _
      rw [List.filter_cons_of_pos (by simpa using ne), ih nl h']
      rfl
theorem others_len {left : List Nat} {t : Nat} (nd : left.Nodup) (m : t ∈ left) : (othersM left t).length + 1 = left.length := by
  obtain ⟨j, hj, e⟩ := List.getElem_of_mem m
  have h : left[j]? = some t := by rw [List.getElem?_eq_getElem hj, e]
  rw [← others_at nd h, List.length_eraseIdx]
  rw [if_pos hj]
  omega
theorem others_nd {left : List Nat} {t : Nat} (nd : left.Nodup) : (othersM left t).Nodup := nd.filter _
theorem others_sub {left : List Nat} {t u : Nat} (m : u ∈ othersM left t) : u ∈ left ∧ u ≠ t := by
  obtain ⟨m1, m2⟩ := List.mem_filter.mp m
  exact ⟨m1, bne_iff_ne.mp m2⟩
theorem num_inj {m n : Nat} (h : numV m = numV n) : m = n := by
  injection h with h
  exact Int.ofNat.inj h
theorem others_V (left : List Nat) (t : Nat) : ((left.map numV).filterMap fun v => if v = numV t then none else some v) = (othersM left t).map numV := by
  induction left with
  | nil => rfl
  | cons x l ih =>
    by_cases e : x = t
    · subst e
      show List.filterMap _ (numV x :: l.map numV) = List.map numV (List.filter _ _)
      rw [List.filterMap_cons, if_pos rfl, List.filter_cons_of_neg (by simp)]
      exact ih
    · show List.filterMap _ (numV x :: l.map numV) = List.map numV (List.filter _ _)
      rw [List.filterMap_cons, if_neg (fun z => e (num_inj z)), List.filter_cons_of_pos (by simpa using e)]
      show _ :: _ = _ :: _
      rw [ih]
      rfl
/-- lists of names stand in a list -/
def NsAt (H : Hp) (a : Addr) (N : List (List Str)) : Prop := ∃ vs, H a = some (.lst vs) ∧ Each (fun v zs => ∃ p, v = .ref p ∧ NmAt H p zs) vs N
theorem NsAt.same {H H' : Hp} (s : Same H H') {a : Addr} {N : List (List Str)} (h : NsAt H a N) : NsAt H' a N := by
  obtain ⟨vs, h1, h2⟩ := h
  exact ⟨vs, s _ _ h1, h2.mono fun v zs ⟨p, e, q⟩ => ⟨p, e, s _ _ q⟩⟩
theorem NsAt.at_ {H : Hp} {a : Addr} {N : List (List Str)} (h : NsAt H a N) {t : Nat} (lt : t < N.length) : ∃ vs p, H a = some (.lst vs) ∧ vs[t]? = some (.ref p) ∧ NmAt H p (N.getD t []) := by
  obtain ⟨vs, h1, h2⟩ := h
  obtain ⟨v, e, p, rfl, q⟩ := h2.at_ (List.getElem?_eq_getElem lt)
  refine ⟨vs, p, h1, e, ?_⟩
  rw [List.getD_eq_getElem?_getD, List.getElem?_eq_getElem lt]
  exact q
/-- what the three defs are handed -/
structure EarIn (H : Hp) (a l : Addr) (N : List (List Str)) (left : List Nat) : Prop where
  ns : NsAt H a N
  lf : H l = some (.lst (left.map numV))
  lt : ∀ o ∈ left, o < N.length
  l6 : left.length ≤ 6
  n5 : ∀ t, (N.getD t []).length ≤ 5
theorem EarIn.same {H H' : Hp} (s : Same H H') {a l : Addr} {N : List (List Str)} {left : List Nat} (h : EarIn H a l N left) : EarIn H' a l N left := ⟨h.ns.same s, s _ _ h.lf, h.lt, h.l6, h.n5⟩
theorem common_len {H : Hp} {a l : Addr} {N : List (List Str)} {left : List Nat} (h : EarIn H a l N left) (t : Nat) : (commonM N left t).length ≤ 5 := Nat.le_trans (List.length_filter_le _ _) (h.n5 t)
abbrev nCommonNames : List Str := ["names", "left", "tie", "others", "other", "name"]
abbrev nNextEar : List Str := ["names", "left", "tie", "common", "other", "name"]
abbrev nEars : List Str := ["question", "left", "names", "taken", "ear", "tie"]
section
variable {P : Program} {w : World} {K : PySem.W.Frag} {mg : Str → Option Value} {base : Heap} {aB : Addr}
def spCommon (K : PySem.W.Frag) : Sp := fun vs H Q _ => ∃ (a l : Addr) (N : List (List Str)) (left : List Nat) (t : Nat), vs = [.ref a, .ref l, .int (t : Nat)] ∧ EarIn H a l N left ∧ t < N.length ∧
  ∀ (p : Addr) (H' : Hp), H p = none → Same H H' → H' p = some (.lst ((commonM N left t).map V.str)) → Q (.ref p) H'
def EarV (H : Hp) (o : Option (Nat × Option Nat)) (v : V) : Prop := match o with
  | none => v = .non
  | some (t, u) => ∃ p, v = .ref p ∧ H p = some (.tup [numV t, optV u])
def spNextEar (K : PySem.W.Frag) : Sp := fun vs H Q _ => ∃ (a l : Addr) (N : List (List Str)) (left : List Nat), vs = [.ref a, .ref l] ∧ EarIn H a l N left ∧ ∀ (v : V) (H' : Hp), Same H H' → EarV H' (earM N left) v → Q v H'
end
end VQ
namespace VQ
open PySem L2 LamX
theorem tups_lst {H : Hp} {a : Addr} {xs ys : List V} (h : H a = some (.lst xs)) : Tups H (upd H a (.lst ys)) := fun p zs hp => by
  rw [upd_ne (fun e => by rw [e, h] at hp; cases hp)]
  exact hp
theorem NsAt.moved {H H' : Hp} {a : Addr} {N : List (List Str)} (h : NsAt H a N) (t : Tups H H') (k : ∀ vs, H a = some (.lst vs) → H' a = some (.lst vs)) : NsAt H' a N := by
  obtain ⟨vs, h1, h2⟩ := h
  exact ⟨vs, k vs h1, h2.mono fun v zs ⟨p, e, q⟩ => ⟨p, e, t _ _ q⟩⟩
def PrAt (H : Hp) (v : V) (p : Nat × Option Nat) : Prop := ∃ a, v = .ref a ∧ H a = some (.tup [numV p.1, optV p.2])
theorem PrAt.moved {H H' : Hp} (s : Tups H H') {v : V} {t : Nat × Option Nat} (h : PrAt H v t) : PrAt H' v t := by
  obtain ⟨a, e, h1⟩ := h
  exact ⟨a, e, s _ _ h1⟩
/-- the names of each tie -/
def nmsQ (q : Qn) : List (List Str) := (List.range q.ties.length).map (ownZ q)
def earsM (N : List (List Str)) : List Nat × List (Nat × Option Nat) := goM N N.length (List.range N.length) []
def EarsAt (H : Hp) (p l : Addr) (r : List Nat × List (Nat × Option Nat)) : Prop := (r.1 = [] ∧ H p = some (.tup [.str "tree", .ref l]) ∧ ∃ vs, H l = some (.lst vs) ∧ Each (PrAt H) vs r.2) ∨ (r.1 ≠ [] ∧ H p = some (.tup [.str "knot", .ref l]) ∧ H l = some (.lst (r.1.map numV)))
theorem rg_nums (n : Nat) : rgV 0 (n : Int) = (List.range n).map numV := by
  unfold rgV
  rw [Int.sub_zero, Int.toNat_natCast]
  exact List.map_congr_left fun i _ => by
    show V.int (0 + _) = V.int _
    rw [Int.zero_add]
theorem own_len {q : Qn} (ok : QOk q) (t : Nat) : (ownZ q t).length ≤ 5 := Nat.le_trans (List.length_filter_le _ _) ok.n5
theorem nms_len (q : Qn) : (nmsQ q).length = q.ties.length := by
  unfold nmsQ
  rw [List.length_map, List.length_range]
theorem nms_get {q : Qn} {t : Nat} (h : t < q.ties.length) : (nmsQ q).getD t [] = ownZ q t := by
  unfold nmsQ
  rw [List.getD_eq_getElem?_getD, List.getElem?_map, List.getElem?_range h]
  rfl
theorem nms_5 {q : Qn} (ok : QOk q) (t : Nat) : ((nmsQ q).getD t []).length ≤ 5 := by
  by_cases h : t < q.ties.length
  · rw [nms_get h]
    exact own_len ok t
  · rw [List.getD_eq_getElem?_getD, List.getElem?_eq_none (by rw [nms_len]; omega)]
    exact Nat.zero_le _
theorem nums_ints (xs : List Nat) : xs.map numV = (xs.map fun n => ((n : Nat) : Int)).map V.int := by
  rw [List.map_map]
  rfl
theorem erase_map {α β : Type} (g : α → β) : ∀ (xs : List α) (j : Nat), (xs.map g).eraseIdx j = (xs.eraseIdx j).map g
  | [], _ => rfl
  | _ :: _, 0 => rfl
  | x :: xs, j + 1 => by
    show g x :: (xs.map g).eraseIdx j = g x :: (xs.eraseIdx j).map g
    rw [erase_map g xs j]
section
variable {P : Program} {w : World} {K : PySem.W.Frag} {mg : Str → Option Value} {base : Heap} {aB : Addr}
def spEars : Sp := fun vs H Q _ => ∃ (a : Addr) (q : Qn), vs = [.ref a] ∧ QAt H a q ∧ QOk q ∧ ∀ (p l : Addr) (H' : Hp), H p = none → H l = none → Same H H' → EarsAt H' p l (earsM (nmsQ q)) → Q (.ref p) H'
end
end VQ
namespace VQ
open PySem L2 LamX
/-! ### names drawn -/
def chV (c : Nat) : V := .str ⟨#[c]⟩
theorem letters_at {d : Int} (h0 : 0 ≤ d) (h1 : d < 26) : ∃ c, atI letters.cps.toList d = some c ∧ letB c = true := by
  obtain ⟨n, rfl⟩ := Int.eq_ofNat_of_zero_le h0
  have hn : n < letters.cps.toList.length := by
    have e : letters.cps.toList.length = 26 := by decide +kernel
    omega
  exact ⟨_, atI_nat (List.getElem?_eq_getElem hn), decide_eq_true (List.getElem_mem hn)⟩
theorem joinL_nil : ∀ ps : List (List Nat), TL.joinL [] ps = ps.flatten
  | [] => rfl
  | [p] => by simp [TL.joinL]
  | p :: q :: r => by
    show p ++ ([] ++ TL.joinL [] (q :: r)) = _
    rw [joinL_nil (q :: r)]
    rfl
theorem join_chs (cs : List Nat) : Txt.join "" (cs.map fun c => (⟨#[c]⟩ : Str)) = ⟨cs.toArray⟩ := by
  have e : TL.tl (Txt.join "" (cs.map fun c => (⟨#[c]⟩ : Str))) = cs := by
    rw [TL.join_eq, TL.tl_join]
    show TL.joinL [] _ = _
    rw [joinL_nil, List.map_map]
    induction cs with
    | nil => rfl
    | cons c cs ih =>
      show [c] ++ (List.map _ cs).flatten = _
      rw [ih]
      rfl
  generalize Txt.join "" (cs.map fun c => (⟨#[c]⟩ : Str)) = z at e
  obtain ⟨a⟩ := z
  have e' : a.toList = cs := e
  rw [← e', Array.toArray_toList]
theorem chs_sum (cs : List Nat) : ((cs.map fun c => (⟨#[c]⟩ : Str)).map (·.length)).sum + (cs.map fun c => (⟨#[c]⟩ : Str)).length * ("" : Str).length = cs.length := by
  show _ + _ * 0 = _
  rw [Nat.mul_zero, Nat.add_zero]
  induction cs with
  | nil => rfl
  | cons c cs ih =>
    rw [List.map_cons, List.map_cons, List.sum_cons, ih]
    show 1 + cs.length = cs.length + 1
    omega
theorem name_chs {m : Nat} {cs : List Nat} (h1 : 1 ≤ cs.length) (hm : cs.length ≤ m) (hl : ∀ c ∈ cs, letB c = true) (nf : (⟨cs.toArray⟩ : Str) ≠ "find") (ns : (⟨cs.toArray⟩ : Str) ≠ "some") : NameS m ⟨cs.toArray⟩ :=
  ⟨h1, hm, nf, ns, fun c m => hl c (by simpa using m)⟩
theorem NameS.of_len {m : Nat} {cs : List Nat} (h1 : 1 ≤ cs.length) (hm : cs.length ≤ m) (h4 : cs.length ≠ 4) (hl : ∀ c ∈ cs, letB c = true) : NameS m ⟨cs.toArray⟩ :=
  name_chs h1 hm hl (fun e => h4 (by have := congrArg PySem.Str.length e; exact this)) fun e => h4 (by have := congrArg PySem.Str.length e; exact this)
theorem NameS.mono {m n : Nat} {z : Str} (h : NameS m z) (l : m ≤ n) : NameS n z := ⟨h.lo, Nat.le_trans h.hi l, h.nf, h.ns, h.lt⟩
abbrev sLawPool : Stmt := top 44
abbrev nLawPool : List Str := ["_law_bag_here", "_law_many", "_law_most", "_law_letters", "_law_size", "_law_place", "_law_begin", "_law_same_here", "_law_found", "_law_k", "_law_row", "_law_word", "_law_at"]
theorem scLawPool : FnScope nLawPool ["_law_bag_here", "_law_many", "_law_most"] (defScope sLawPool) := ⟨rfl, rfl, rfl, by decide +kernel, rfl, by decide +kernel, by decide +kernel⟩
abbrev sLawTerm : Stmt := top 46
abbrev nLawTerm : List Str := ["_law_bag_here", "_law_names_here"]
theorem scLawTerm : FnScope nLawTerm ["_law_bag_here", "_law_names_here"] (defScope sLawTerm) := ⟨rfl, rfl, rfl, by decide +kernel, rfl, by decide +kernel, by decide +kernel⟩
abbrev sLawTerms : Stmt := top 47
abbrev nLawTerms : List Str := ["_law_bag_here", "_law_names_here", "_law_width", "_law_k"]
theorem scLawTerms : FnScope nLawTerms ["_law_bag_here", "_law_names_here", "_law_width"] (defScope sLawTerms) := ⟨rfl, rfl, rfl, by decide +kernel, rfl, by decide +kernel, by decide +kernel⟩
abbrev sLawNames : Stmt := top 48
abbrev nLawNames : List Str := ["_law_bag_here", "_law_many"]
theorem scLawNames : FnScope nLawNames ["_law_bag_here", "_law_many"] (defScope sLawNames) := ⟨rfl, rfl, rfl, by decide +kernel, rfl, by decide +kernel, by decide +kernel⟩
abbrev sLawPairs : Stmt := top 49
abbrev nLawPairs : List Str := ["_law_bag_here", "_law_names_here", "_law_most", "_law_found", "_law_k", "_law_one", "_law_other"]
theorem scLawPairs : FnScope nLawPairs ["_law_bag_here", "_law_names_here", "_law_most"] (defScope sLawPairs) := ⟨rfl, rfl, rfl, by decide +kernel, rfl, by decide +kernel, by decide +kernel⟩
abbrev sLawUnlikeNames : Stmt := top 50
abbrev nLawUnlikeNames : List Str := ["_law_bag_here", "_law_many", "_law_found", "_law_one"]
theorem scLawUnlikeNames : FnScope nLawUnlikeNames ["_law_bag_here", "_law_many"] (defScope sLawUnlikeNames) := ⟨rfl, rfl, rfl, by decide +kernel, rfl, by decide +kernel, by decide +kernel⟩
section
variable {P : Program} {w : World} {K : PySem.W.Frag} {mg : Str → Option Value} {base : Heap} {aB : Addr}
/-- an item of a list or a tuple, drawn -/
def spOfA (K : PySem.W.Frag) : Sp := fun vs H Q _ => ∃ (b p : Addr) (xs : List V), vs = [.ref b, .ref p] ∧ Bag H b ∧ (H p = some (.lst xs) ∨ H p = some (.tup xs)) ∧ p ≠ b ∧ 1 ≤ xs.length ∧ xs.length < 1000 ∧
  ∀ (v : V) (H' : Hp), v ∈ xs → Bag H' b → Keep b H H' → Q v H'
theorem has_ofA (b : Blt mg) (hP : Has P w K mg base CX0 1 "_law_pull" sPull ["_law_bag_here", "_law_size"] spPull) (a : AtE K mg "_law_of" sOf ["_law_bag_here", "_law_some"]) : Has P w K mg base CX0 2 "_law_of" sOf ["_law_bag_here", "_law_some"] (spOfA K) := by
  obtain ⟨f, fd, a⟩ := a
  obtain ⟨fP, fdP, aP, GP⟩ := hP
  refine ⟨f, fd, a, a.fn.ok scOf (fun vs H Q E h => ?_) (fun cdv A outer s H vs Q E hr h => ?_)⟩
  · obtain ⟨b, p, xs, rfl, _⟩ := h
    rfl
  · obtain ⟨bg, p, xs, rfl, B, hp, np, l1, l2, k⟩ := h
    refine ⟨_, pss_one (ps_ret (pe_ix ix_seq (pv 1) (pe_call GP hr rfl aP.gl aP.fn.kp aP.bd .nil pass0 (pa_cons (pv 0) (pa_cons (pe_callB call_len_seq (by rfl) b.len PySem.boot_len (pa_cons (pv 1) pa_nil)) pa_nil))) fun _ _ => rfl)), ?_⟩
    have sq : SqL K H p xs ∨ SqT K H p xs := hp.imp SqL.of SqT.of
    refine ⟨_, rfl, _, rfl, _, rfl, p, xs, rfl, sq, bg, _, rfl, B, by omega, by omega, fun d H' d0 d1 B' kp => ?_⟩
    obtain ⟨j, rfl⟩ := Int.eq_ofNat_of_zero_le d0
    have hj : j < xs.length := Int.ofNat_lt.mp d1
    have kk := k _ H' (List.getElem_mem hj) B' kp
    rcases hp with hp | hp
    · exact .inl ⟨p, xs, _, _, rfl, rfl, SqL.of (kp.1 _ _ np hp), atI_nat (List.getElem?_eq_getElem hj), kk⟩
    · exact .inr (.inl ⟨p, xs, _, _, rfl, rfl, SqT.of (kp.1 _ _ np hp), atI_nat (List.getElem?_eq_getElem hj), kk⟩)
def spPool : Sp := fun vs H Q _ => ∃ (b : Addr) (many most : Nat), vs = [.ref b, .int (many : Nat), .int (most : Nat)] ∧ Bag H b ∧ many ≤ 5 ∧ 1 ≤ most ∧ most ≤ 8 ∧
  ∀ (p : Addr) (zs : List Str) (H' : Hp), zs.length = many → (∀ z ∈ zs, NameS most z) → H p = none → H' p = some (.lst (zs.map V.str)) → Bag H' b → Keep b H H' → Q (.ref p) H'
theorem has_pool (b : Blt mg) (hP : Has P w K mg base CX0 1 "_law_pull" sPull ["_law_bag_here", "_law_size"] spPull) (a : AtE K mg "_law_pool" sLawPool ["_law_bag_here", "_law_many", "_law_most"]) : Has P w K mg base CX0 2 "_law_pool" sLawPool ["_law_bag_here", "_law_many", "_law_most"] spPool := by
  obtain ⟨f, fd, a⟩ := a
  obtain ⟨fP, fdP, aP, GP⟩ := hP
  refine ⟨f, fd, a, a.fn.ok scLawPool (fun vs H Q E h => ?_) (fun cdv A outer s H vs Q E hr1 h => ?_)⟩
  · obtain ⟨b, many, most, rfl, _⟩ := h
    rfl
  · obtain ⟨bg, many, most, rfl, B, m5, q1, q8, k⟩ := h
    refine ⟨_,
    (pss_cons (ps_set (i := 3) scLawPool.nd rfl (.inr rfl) pe_str)
    (pss_cons (ps_set (i := 4) scLawPool.nd rfl (.inl rfl) (pe_op op_add pe_int (pe_call GP hr1 rfl aP.gl aP.fn.kp aP.bd .nil pass0 (pa_cons (pv 0) (pa_cons (pv 2) pa_nil)))))
    (pss_cons (ps_par (i := 5) (j := 6) rfl scLawPool.nd rfl rfl (by decide) rfl rfl (pa_cons (pe_call GP hr1 rfl aP.gl aP.fn.kp aP.bd .nil pass0 (pa_cons (pv 0) (pa_cons (pv 4) pa_nil))) (pa_cons (pe_call GP hr1 rfl aP.gl aP.fn.kp aP.bd .nil pass0 (pa_cons (pv 0) (pa_cons pe_int pa_nil))) pa_nil)) rfl)
    (pss_cons (ps_setLc (i := 7) (own := [("_law_k", 9)]) (g := (gName 9)) (tt := tYes) (te := (tOp rIxS (tVar 3) (tCall spPull [] E0 (tCons (tVar 0) (tCons (tC (.int 26)) tNil))))) rfl scLawPool.nd rfl rfl (sw_true rfl rfl rfl (by decide +kernel)) (pi_range1 rfl b.range (pa_cons (pv 4) pa_nil)) (blkOk_by (N := nLawPool) (sc := defScope sLawPool) (by decide +kernel)) (fun _ _ _ _ _ => (pg_name (i := 9) scLawPool.nd rfl (.inl rfl))) (fun _ _ _ _ _ => pts_nil) (fun _ _ _ _ _ => (pe_ix ix_str (pv 3) (pe_call GP hr1 rfl aP.gl aP.fn.kp aP.bd .nil pass0 (pa_cons (pv 0) (pa_cons pe_int pa_nil))) fun _ _ => rfl)))
    (pss_cons (ps_set (i := 8) scLawPool.nd rfl (.inl rfl) (pe_lst pa_nil))
    (pss_cons (ps_for PassesOwn.never rfl (pi_range1 rfl b.range (pa_cons (pv 1) pa_nil)) (pg_name (i := 9) scLawPool.nd rfl (.inl rfl))
      (pss_cons (ps_set (i := 10) scLawPool.nd rfl (.inl rfl) (pe_callTy call_list_of (by rfl) b.list (by decide +kernel) (pa_cons (pv 7) pa_nil)))
      (C8.pss_cut (ps_if (pt_cmpR op_eq (pe_call GP hr1 rfl aP.gl aP.fn.kp aP.bd .nil pass0 (pa_cons (pv 0) (pa_cons pe_int pa_nil))) pe_int (nomark _))
        (pss_one (ps_set (i := 10) scLawPool.nd rfl (.inl rfl) (pe_op op_cat (pv 10) (pe_lc (own := [("_law_at", 12)]) (g := (gName 12)) (tt := tYes) (te := (tOp rIxS (tVar 3) (tCall spPull [] E0 (tCons (tVar 0) (tCons (tC (.int 26)) tNil))))) rfl scLawPool.nd (pi_range1 rfl b.range (pa_cons (pe_call GP hr1 rfl aP.gl aP.fn.kp aP.bd .nil pass0 (pa_cons (pv 0) (pa_cons (pe_op op_add (pe_op op_sub (pv 2) (pv 4)) pe_int) pa_nil))) pa_nil)) (blkOk_by (N := nLawPool) (sc := defScope sLawPool) (by decide +kernel)) (fun _ _ _ _ _ => (pg_name (i := 12) scLawPool.nd rfl (.inl rfl))) (fun _ _ _ _ _ => pts_nil) (fun _ _ _ _ _ => (pe_ix ix_str (pv 3) (pe_call GP hr1 rfl aP.gl aP.fn.kp aP.bd .nil pass0 (pa_cons (pv 0) (pa_cons pe_int pa_nil))) fun _ _ => rfl))))))
        pss_nil)
      (pss_cons (ps_asg (pe_ix ix_str (pv 3) (pe_op op_mod (pe_op op_add (pv 6) (pe_op op_mul pe_int (pv 9))) pe_int) fun _ _ => rfl) (pg_sub (pv 10) (pv 5) set_list))
      (pss_cons (ps_set (i := 11) scLawPool.nd rfl (.inl rfl) (pe_join pe_str (pv 10)))
      (pss_one (ps_expr (pe_bm PySem.F.plainAttrs_list PySem.F.slot_list_append PySem.F.type_list_append mt_append (pv 8) (pa_cons (pe_ifExp (pt_cmpR op_notIn_seq (pv 11) (pe_tup (pa_cons pe_str (pa_cons pe_str pa_nil))) rfl) (pv 11) (pe_join pe_str (pe_slice sl_list (pv 10) po_none (po_some pe_int)))) pa_nil)))))))))
    (pss_one (ps_ret (pv 8))))))))), ?_⟩
    refine ⟨_, rfl, _, rfl, bg, _, rfl, B, by omega, by omega, fun d H1 d0 d1 B1 k1 => ⟨_, _, rfl, rfl, ?_⟩⟩
    obtain ⟨dn, rfl⟩ := Int.eq_ofNat_of_zero_le d0
    obtain ⟨sz, es⟩ : ∃ sz : Nat, sz = 1 + dn := ⟨_, rfl⟩
    have es' : (1 : Int) + (dn : Int) = ((sz : Nat) : Int) := by omega
    show gName 4 (V.int ((1 : Int) + (dn : Int))) _ _ _
    rw [es']
    have sz8 : sz ≤ most := by omega
    refine ⟨_, rfl, _, rfl, bg, _, rfl, B1, by omega, by omega, fun e H2 e0 e1 B2 k2 => ?_⟩
    refine ⟨_, rfl, bg, _, rfl, B2, by omega, by omega, fun g H3 g0 g1 B3 k3 => ⟨_, _, rfl, ?_⟩⟩
    obtain ⟨en, rfl⟩ := Int.eq_ofNat_of_zero_le e0
    have le : en < sz := Int.ofNat_lt.mp e1
    have K3 := (k1.trans k2).trans k3
    refine ⟨_, rfl, _, rfl, by omega, by omega, fun D hD => ?_⟩
    have hD0 := K3.free B B3 hD
    have Db : D ≠ bg := B.ne hD0
    obtain ⟨B4, K4⟩ := Bag.put (o := .lst []) B hD0 K3 B3
    have low : ("abcdefghijklmnopqrstuvwxyz" : Str).length ≤ sizeLine := by decide +kernel
    refine lc_range (lo := 0) (n := sz) (fun i H' => Bag H' bg ∧ Keep bg H H' ∧ ∃ cs : List Nat, cs.length = i ∧ (∀ c ∈ cs, letB c = true) ∧ H' D = some (.lst (cs.map chV))) ⟨B4, K4, [], rfl, (fun x m => by cases m), upd_same⟩ ?_ ?_
    · rintro i H5 hi ⟨B5, K5, cs, el, ec, h5⟩
      refine ⟨rfl, yes_turn ?_⟩
      refine ⟨_, rfl, _, rfl, bg, _, rfl, B5, by omega, by omega, fun x H6 x0 x1 B6 k6 => ?_⟩
      obtain ⟨c, ac, lc⟩ := letters_at x0 x1
      obtain ⟨B7, K7⟩ := Bag.put (o := .lst (cs.map chV ++ [chV c])) B hD0 (K5.trans k6) B6
      refine ⟨_, _, c, rfl, rfl, low, ac, _, k6.1 _ _ Db h5, by rw [List.length_map]; exact lt_line (by omega), B7, K7, cs ++ [c], by rw [List.length_append, el]; rfl, fun y m => ?_, ?_⟩
      · rcases List.mem_append.mp m with m | m
        · exact ec y m
        · rw [List.mem_singleton.mp m]
          exact lc
      · rw [List.map_append]
        exact upd_same
    · rintro H5 ⟨B5, K5, cs, el, ec, h5⟩
      refine ⟨by show 0 ≤ sizeLine; decide, fun F hF => ?_⟩
      have hF0 := K5.free B B5 hF
      have Fb : F ≠ bg := B.ne hF0
      have FD : D ≠ F := ne_of_none h5 hF
      obtain ⟨B6, K6⟩ := Bag.put (o := .lst []) B hF0 K5 B5
      refine ⟨_, rfl, _, rfl, by omega, by omega, ?_⟩
      refine for_range (lo := 0) (n := many) (fun i σ H' => ∃ x y z : Option V, σ = [some (.ref bg), some (.int (many : Nat)), some (.int (most : Nat)), some (.str letters), some (.int (sz : Nat)), some (.int (en : Nat)), some (.int g), some (.ref D), some (.ref F), x, y, z, none] ∧
          Bag H' bg ∧ Keep bg H H' ∧ H' D = some (.lst (cs.map chV)) ∧ ∃ zs : List Str, zs.length = i ∧ (∀ z ∈ zs, NameS most z) ∧ H' F = some (.lst (zs.map V.str)))
        ⟨none, none, none, rfl, B6, K6, (upd_ne FD).trans h5, [], rfl, (fun z m => by cases m), upd_same⟩ ?_ ?_
      · rintro i σ H7 hi ⟨x, y, z, rfl, B7, K7, h7, zs, lz, nz, f7⟩
        refine ⟨_, rfl, D, _, rfl, .inl (SqL.of h7), fun R hR => ?_⟩
        have hR0 := K7.free B B7 hR
        have RD : D ≠ R := ne_of_none h7 hR
        have RF : F ≠ R := ne_of_none f7 hR
        have Rb : R ≠ bg := B.ne hR0
        obtain ⟨B8, K8⟩ := Bag.put (o := .lst (cs.map chV)) B hR0 K7 B7
        have h8 := (upd_ne (H := H7) (o := .lst (cs.map chV)) RD).trans h7
        have f8 := (upd_ne (H := H7) (o := .lst (cs.map chV)) RF).trans f7
        refine ⟨fun σ' H' => ∃ (R' : Addr) (us : List Nat), σ' = [some (.ref bg), some (.int (many : Nat)), some (.int (most : Nat)), some (.str letters), some (.int (sz : Nat)), some (.int (en : Nat)), some (.int g), some (.ref D), some (.ref F), some (.int (0 + (i : Nat))), some (.ref R'), z, none] ∧
            H R' = none ∧ R' ≠ D ∧ R' ≠ F ∧ sz ≤ us.length ∧ us.length ≤ most ∧ (∀ c ∈ us, letB c = true) ∧ H' R' = some (.lst (us.map chV)) ∧ H' D = some (.lst (cs.map chV)) ∧ H' F = some (.lst (zs.map V.str)) ∧ Bag H' bg ∧ Keep bg H H', ?_, ?_⟩
        · refine ⟨_, rfl, bg, _, rfl, B8, by omega, by omega, fun u H9 u0 u1 B9 k9 => ⟨rfl, _, rfl, ?_⟩⟩
          have r9 := k9.1 _ _ Rb (upd_same (H := H7) (a := R) (o := .lst (cs.map chV)))
          have h9 := k9.1 _ _ Db h8
          have f9 := k9.1 _ _ Fb f8
          have K9 := K8.trans k9
          by_cases c0 : u = 0
          · rw [decide_eq_true (by rw [c0])]
            refine iteT ?_
            refine ⟨_, rfl, _, rfl, _, rfl, _, rfl, _, _, rfl, rfl, _, _, rfl, rfl, bg, _, rfl, B9, by omega, by omega, fun v H10 v0 v1 B10 k10 => ?_⟩
            obtain ⟨vn, rfl⟩ := Int.eq_ofNat_of_zero_le v0
            have r10 := k10.1 _ _ Rb r9
            have h10 := k10.1 _ _ Db h9
            have f10 := k10.1 _ _ Fb f9
            have K10 := K9.trans k10
            refine ⟨_, rfl, by omega, by omega, fun G hG => ?_⟩
            have hG0 := K10.free B B10 hG
            have Gb : G ≠ bg := B.ne hG0
            have GR : R ≠ G := ne_of_none r10 hG
            have GD : D ≠ G := ne_of_none h10 hG
            have GF : F ≠ G := ne_of_none f10 hG
            obtain ⟨B11, K11⟩ := Bag.put (o := .lst []) B hG0 K10 B10
            refine lc_range (lo := 0) (n := vn) (fun i H' => Bag H' bg ∧ Keep bg H H' ∧ H' R = some (.lst (cs.map chV)) ∧ H' D = some (.lst (cs.map chV)) ∧ H' F = some (.lst (zs.map V.str)) ∧ ∃ ds : List Nat, ds.length = i ∧ (∀ c ∈ ds, letB c = true) ∧ H' G = some (.lst (ds.map chV)))
              ⟨B11, K11, (upd_ne GR).trans r10, (upd_ne GD).trans h10, (upd_ne GF).trans f10, [], rfl, (fun x m => by cases m), upd_same⟩ ?_ ?_
            · rintro i2 H12 hi2 ⟨B12, K12, r12, h12, f12, ds, ed, ec', g12⟩
              refine ⟨rfl, yes_turn ?_⟩
              refine ⟨_, rfl, _, rfl, bg, _, rfl, B12, by omega, by omega, fun x H13 x0 x1 B13 k13 => ?_⟩
              obtain ⟨c, ac, lc⟩ := letters_at x0 x1
              obtain ⟨B14, K14⟩ := Bag.put (o := .lst (ds.map chV ++ [chV c])) B hG0 (K12.trans k13) B13
              refine ⟨_, _, c, rfl, rfl, low, ac, _, k13.1 _ _ Gb g12, by rw [List.length_map]; exact lt_line (by omega), B14, K14, (upd_ne GR).trans (k13.1 _ _ Rb r12), (upd_ne GD).trans (k13.1 _ _ Db h12), (upd_ne GF).trans (k13.1 _ _ Fb f12), ds ++ [c], by rw [List.length_append, ed]; rfl, fun y m => ?_, ?_⟩
              · rcases List.mem_append.mp m with m | m
                · exact ec' y m
                · rw [List.mem_singleton.mp m]
                  exact lc
              · rw [List.map_append]
                exact upd_same
            · rintro H12 ⟨B12, K12, r12, h12, f12, ds, ed, ec', g12⟩
              refine ⟨R, G, _, _, rfl, rfl, r12, g12, Nat.le_of_lt (lt_line (by rw [List.length_map, List.length_map]; omega)), fun S hS => ?_⟩
              have hS0 := K12.free B B12 hS
              obtain ⟨B13, K13⟩ := Bag.put (o := .lst (cs.map chV ++ ds.map chV)) B hS0 K12 B12
              refine ⟨S, cs ++ ds, rfl, hS0, (ne_of_none h12 hS).symm, (ne_of_none f12 hS).symm, by rw [List.length_append]; omega, by rw [List.length_append]; omega, fun c m => ?_, ?_, (upd_ne (ne_of_none h12 hS)).trans h12, (upd_ne (ne_of_none f12 hS)).trans f12, B13, K13⟩
              · rcases List.mem_append.mp m with m | m
                · exact ec c m
                · exact ec' c m
              · rw [List.map_append]
                exact upd_same
          · rw [decide_eq_false (fun q => c0 (by injection q))]
            exact iteF ⟨R, cs, rfl, hR0, RD.symm, RF.symm, by omega, by omega, ec, r9, h9, f9, B9, K9⟩
        · rintro σ' H9 ⟨R', us, rfl, hR', RD', RF', u1, u8, lu, r9, h9, f9, B9, K9⟩
          have Rb' : R' ≠ bg := B.ne hR'
          obtain ⟨c, ac, lc⟩ := letters_at (d := (g + 7 * (0 + (i : Nat))) % 26) (Int.emod_nonneg _ (by decide)) (Int.emod_lt_of_pos _ (by decide))
          refine ⟨_, rfl, _, rfl, _, rfl, _, _, rfl, rfl, .inl ⟨by decide, by decide⟩, _, _, rfl, rfl, _, _, rfl, rfl, by show (0 : Int) < 26; decide, _, _, c, rfl, rfl, low, ac, ?_⟩
          refine ⟨_, rfl, _, rfl, R', _, _, en, rfl, rfl, r9, ?_, ?_⟩
          · unfold ixN
            rw [List.length_map, if_pos (by omega), if_pos (by omega)]
            rfl
          have e1 : (us.map chV).set en (chV c) = (us.set en c).map chV := by rw [List.map_set]
          rw [show (V.str ⟨#[c]⟩ : V) = chV c from rfl, e1]
          have lu' : ∀ c' ∈ us.set en c, letB c' = true := fun c' m => by
            rcases List.mem_or_eq_of_mem_set m with m | m
            · exact lu c' m
            · rw [m]
              exact lc
          have ll : (us.set en c).length = us.length := List.length_set
          generalize us.set en c = ts at lu' ll ⊢
          obtain ⟨B10, K10⟩ := Bag.put (o := .lst (ts.map chV)) B hR' K9 B9
          have ech : ∀ xs : List Nat, xs.map chV = (xs.map fun c => (⟨#[c]⟩ : Str)).map V.str := fun xs => by
            rw [List.map_map]
            rfl
          refine ⟨⟨_, rfl⟩, _, rfl, "", R', ts.map (fun c => (⟨#[c]⟩ : Str)), rfl, rfl, .inl (SqL.of (by rw [upd_same, ech])), by rw [chs_sum]; omega, ?_⟩
          rw [join_chs]
          have h10 := (upd_ne (H := H9) (o := .lst (ts.map chV)) RD'.symm).trans h9
          have f10 := (upd_ne (H := H9) (o := .lst (ts.map chV)) RF'.symm).trans f9
          refine ⟨_, rfl, .inl ⟨rfl, _, SqL.of f10⟩, _, rfl, by show 2 ≤ sizeLine; decide, fun T hT => ?_⟩
          have hT0 := K10.free B B10 hT
          obtain ⟨B11, K11⟩ := Bag.put (o := .tup [.str "find", .str "some"]) B hT0 K10 B10
          have h11 := (upd_ne (o := .tup [.str "find", .str "some"]) (ne_of_none h10 hT)).trans h10
          have f11 := (upd_ne (o := .tup [.str "find", .str "some"]) (ne_of_none f10 hT)).trans f10
          refine ⟨T, _, rfl, .inr (SqT.of upd_same), rfl, rfl, _, rfl, ?_⟩
          have ein := inV_str (z := (⟨ts.toArray⟩ : Str)) (zs := ["find", "some"])
          rw [show ([.str "find", .str "some"] : List V) = (["find", "some"] : List Str).map V.str from rfl, ein]
          by_cases bad : (⟨ts.toArray⟩ : Str) ∈ (["find", "some"] : List Str)
          · rw [decide_eq_true bad]
            refine iteF ?_
            have l4 : ts.length = 4 := by
              have e4 : ∀ z ∈ (["find", "some"] : List Str), z.length = 4 := by decide +kernel
              exact e4 _ bad
            have r11 := (upd_ne (o := .tup [.str "find", .str "some"]) (ne_of_none (upd_same (H := H9) (a := R') (o := .lst (ts.map chV))) hT)).trans (upd_same (H := H9) (a := R') (o := .lst (ts.map chV)))
            refine ⟨⟨_, rfl⟩, _, rfl, _, rfl, R', _, rfl, SqL.of r11, fun U hU => ?_⟩
            have hU0 := K11.free B B11 hU
            have e5 : cutV (ts.map chV) none (some 3) = (ts.take 3).map chV := by
              have e6 := cut_upto (ts.map chV) (k := 3) (by rw [List.length_map]; omega)
              rw [List.map_take]
              exact e6
            rw [show cutV (ts.map chV) (none : Option Int) (some 3) = (ts.take 3).map chV from e5]
            obtain ⟨B12, K12⟩ := Bag.put (o := .lst ((ts.take 3).map chV)) B hU0 K11 B11
            have h12 := (upd_ne (o := .lst ((ts.take 3).map chV)) (ne_of_none h11 hU)).trans h11
            have f12 := (upd_ne (o := .lst ((ts.take 3).map chV)) (ne_of_none f11 hU)).trans f11
            refine ⟨"", U, (ts.take 3).map (fun c => (⟨#[c]⟩ : Str)), rfl, rfl, .inl (SqL.of (by rw [upd_same, ech])), by rw [chs_sum, List.length_take]; omega, ?_⟩
            rw [join_chs]
            obtain ⟨B13, K13⟩ := Bag.put (o := .lst (zs.map V.str ++ [.str ⟨(ts.take 3).toArray⟩])) B hF0 K12 B12
            refine ⟨F, _, _, rfl, rfl, f12, by rw [List.length_map]; exact lt_line (by omega), _, _, _, rfl, B13, K13, (upd_ne FD).trans h12, zs ++ [⟨(ts.take 3).toArray⟩], by rw [List.length_append, lz]; rfl, fun z m => ?_, ?_⟩
            · rcases List.mem_append.mp m with m | m
              · exact nz z m
              · rw [List.mem_singleton.mp m]
                have l3 : (ts.take 3).length = 3 := by rw [List.length_take]; omega
                exact NameS.of_len (by omega) (by omega) (by omega) fun c' m => lu' c' (List.mem_of_mem_take m)
            · rw [List.map_append]
              exact upd_same
          · rw [decide_eq_false bad]
            refine iteT ?_
            obtain ⟨B13, K13⟩ := Bag.put (o := .lst (zs.map V.str ++ [.str ⟨ts.toArray⟩])) B hF0 K11 B11
            refine ⟨_, rfl, F, _, _, rfl, rfl, f11, by rw [List.length_map]; exact lt_line (by omega), _, _, _, rfl, B13, K13, (upd_ne FD).trans h11, zs ++ [⟨ts.toArray⟩], by rw [List.length_append, lz]; rfl, fun z m => ?_, ?_⟩
            · rcases List.mem_append.mp m with m | m
              · exact nz z m
              · rw [List.mem_singleton.mp m]
                exact name_chs (by omega) (by omega) lu' (fun e => bad (by rw [e]; exact List.mem_cons_self)) fun e => bad (by rw [e]; exact List.mem_cons_of_mem _ List.mem_cons_self)
            · rw [List.map_append]
              exact upd_same
      · rintro σ H7 ⟨x, y, z, rfl, B7, K7, h7, zs, lz, nz, f7⟩
        exact ⟨_, rfl, k F zs H7 lz nz hF0 f7 B7 K7⟩
end
end VQ
namespace VQ
open PySem L2 LamX
theorem keep_tups {b : Addr} {H H' : Hp} (k : Keep b H H') (B : Bag H b) : Tups H H' := fun _ _ h => k.tup B h
theorem perm_each {α : Type} {R : V → α → Prop} : ∀ {ys vs : List V}, ys.Perm vs → ∀ {ts : List α}, Each R vs ts → ∃ us, us.Perm ts ∧ Each R ys us := by
  intro ys vs p
  induction p with
  | nil =>
    intro ts h
    exact ⟨ts, .refl _, h⟩
  | cons x _ ih =>
    intro ts h
    cases h with
    | cons h t =>
      obtain ⟨us, pu, eu⟩ := ih t
      exact ⟨_, pu.cons _, .cons h eu⟩
  | swap x y l =>
    intro ts h
    cases h with
    | cons h1 t =>
      cases t with
      | cons h2 t => exact ⟨_, .swap _ _ _, .cons h2 (.cons h1 t)⟩
  | trans _ _ ih1 ih2 =>
    intro ts h
    obtain ⟨us, pu, eu⟩ := ih2 h
    obtain ⟨us', pu', eu'⟩ := ih1 eu
    exact ⟨us', pu'.trans pu, eu'⟩
section
variable {P : Program} {w : World} {K : PySem.W.Frag} {mg : Str → Option Value} {base : Heap} {aB : Addr}
/-- what the drawing of questions asks -/
structure GDefs (P : Program) (w : World) (K : PySem.W.Frag) (mg : Str → Option Value) (base : Heap) : Prop where
  b : Blt mg
  pl : Has P w K mg base CX0 1 "_law_pull" sPull ["_law_bag_here", "_law_size"] spPull
  of_ : Has P w K mg base CX0 2 "_law_of" sOf ["_law_bag_here", "_law_some"] (spOfA K)
  mx : Has P w K mg base CX0 2 "_law_mixed" sLawMixed ["_law_bag_here", "_law_some"] spMixed
  wo : Has P w K mg base CX0 3 "_law_worth" sWorth ["_law_bag_here"] (spDraw fun i => 0 ≤ i ∧ i < 32)
  po : Has P w K mg base CX0 2 "_law_pool" sLawPool ["_law_bag_here", "_law_many", "_law_most"] spPool
def spTerm (K : PySem.W.Frag) : Sp := fun vs H Q _ => ∃ (b n : Addr) (zs : List Str), vs = [.ref b, .ref n] ∧ Bag H b ∧ NmAt H n zs ∧ 1 ≤ zs.length ∧ zs.length ≤ 5 ∧ ∀ (t : Term) (H' : Hp), TermOk zs t → Bag H' b → Keep b H H' → Q (termV t) H'
theorem NmAt.ne {H : Hp} {b n : Addr} {zs : List Str} (h : NmAt H n zs) (B : Bag H b) : n ≠ b := fun e => by
  obtain ⟨l, ns, i, r, x, m, nl, h1, _⟩ := B
  have h' : H n = _ := h
  rw [e, h1] at h'
  cases h'
theorem has_term (G : GDefs P w K mg base) (a : AtE K mg "_law_term" sLawTerm ["_law_bag_here", "_law_names_here"]) : Has P w K mg base CX0 4 "_law_term" sLawTerm ["_law_bag_here", "_law_names_here"] (spTerm K) := by
  obtain ⟨f, fd, a⟩ := a
  obtain ⟨b, ⟨fP, fdP, aP, GP⟩, ⟨fO, fdO, aO, GO⟩, _, ⟨fW, fdW, aW, GW⟩, _⟩ := G
  refine ⟨f, fd, a, a.fn.ok scLawTerm (fun vs H Q E h => ?_) (fun cdv A outer s H vs Q E hr3 h => ?_)⟩
  · obtain ⟨b, n, zs, rfl, _⟩ := h
    rfl
  · obtain ⟨bg, n, zs, rfl, B, hn, z1, z5, k⟩ := h
    have hr1 : Room 1 _ := hr3.mono (by decide)
    have hr2 : Room 2 _ := hr3.mono (by decide)
    refine ⟨_,
    (pss_one (ps_ret (pe_ifExp (pt_cmpR op_eq (pe_call GP hr1 rfl aP.gl aP.fn.kp aP.bd .nil pass0 (pa_cons (pv 0) (pa_cons pe_int pa_nil))) pe_int (nomark _)) (pe_call GW hr3 rfl aW.gl aW.fn.kp aW.bd .nil pass0 (pa_cons (pv 0) pa_nil)) (pe_call GO hr2 rfl aO.gl aO.fn.kp aO.bd .nil pass0 (pa_cons (pv 0) (pa_cons (pv 1) pa_nil)))))), ?_⟩
    refine ⟨_, rfl, bg, _, rfl, B, by omega, by omega, fun u H1 u0 u1 B1 k1 => ⟨rfl, _, rfl, ?_⟩⟩
    by_cases c0 : u = 0
    · rw [decide_eq_true (by rw [c0])]
      refine iteT ⟨_, rfl, bg, rfl, B1, fun i H2 hi B2 k2 => ?_⟩
      obtain ⟨m, rfl⟩ := Int.eq_ofNat_of_zero_le hi.1
      exact k (.wo m) H2 (by show m < 32; omega) B2 (k1.trans k2)
    · rw [decide_eq_false (fun q => c0 (by injection q))]
      refine iteF ⟨_, rfl, _, rfl, bg, n, _, rfl, B1, .inr (k1.tup B hn), hn.ne B, by rw [List.length_map]; omega, by rw [List.length_map]; omega, fun v H2 mv B2 k2 => ?_⟩
      obtain ⟨z, mz, rfl⟩ := List.mem_map.mp mv
      exact k (.nm z) H2 mz B2 (k1.trans k2)
def spTerms (K : PySem.W.Frag) : Sp := fun vs H Q _ => ∃ (b n : Addr) (zs : List Str) (m : Nat), vs = [.ref b, .ref n, .int (m : Nat)] ∧ Bag H b ∧ NmAt H n zs ∧ 1 ≤ zs.length ∧ zs.length ≤ 5 ∧ m ≤ 4 ∧
  ∀ (p : Addr) (ts : List Term) (H' : Hp), ts.length = m → (∀ t ∈ ts, TermOk zs t) → H p = none → H' p = some (.tup (ts.map termV)) → Bag H' b → Keep b H H' → Q (.ref p) H'
theorem has_terms (b : Blt mg) (hT : Has P w K mg base CX0 4 "_law_term" sLawTerm ["_law_bag_here", "_law_names_here"] (spTerm K)) (a : AtE K mg "_law_terms" sLawTerms ["_law_bag_here", "_law_names_here", "_law_width"]) :
    Has P w K mg base CX0 5 "_law_terms" sLawTerms ["_law_bag_here", "_law_names_here", "_law_width"] (spTerms K) := by
  obtain ⟨f, fd, a⟩ := a
  obtain ⟨fTe, fdTe, aTe, GTe⟩ := hT
  refine ⟨f, fd, a, a.fn.ok scLawTerms (fun vs H Q E h => ?_) (fun cdv A outer s H vs Q E hr4 h => ?_)⟩
  · obtain ⟨b, n, zs, m, rfl, _⟩ := h
    rfl
  · obtain ⟨bg, n, zs, m, rfl, B, hn, z1, z5, m4, k⟩ := h
    refine ⟨_,
    (pss_one (ps_ret (pe_callTy call_tuple_of (by rfl) b.tuple (by decide +kernel) (pa_cons (pe_lc (own := [("_law_k", 3)]) (g := (gName 3)) (tt := tYes) (te := (tCall (spTerm K) [] E0 (tCons (tVar 0) (tCons (tVar 1) tNil)))) rfl scLawTerms.nd (pi_range1 rfl b.range (pa_cons (pv 2) pa_nil)) (blkOk_by (N := nLawTerms) (sc := defScope sLawTerms) (by decide +kernel)) (fun _ _ _ _ _ => (pg_name (i := 3) scLawTerms.nd rfl (.inl rfl))) (fun _ _ _ _ _ => pts_nil) (fun _ _ _ _ _ => (pe_call GTe hr4 rfl aTe.gl aTe.fn.kp aTe.bd .nil pass0 (pa_cons (pv 0) (pa_cons (pv 1) pa_nil))))) pa_nil)))), ?_⟩
    refine ⟨_, rfl, _, rfl, by omega, by omega, fun D hD => ?_⟩
    obtain ⟨B1, K1⟩ := Bag.put (o := .lst []) B hD (Keep.refl bg H) B
    have Db : D ≠ bg := B.ne hD
    refine lc_range (lo := 0) (n := m) (fun i H' => Bag H' bg ∧ Keep bg H H' ∧ ∃ ts : List Term, ts.length = i ∧ (∀ t ∈ ts, TermOk zs t) ∧ H' D = some (.lst (ts.map termV))) ⟨B1, K1, [], rfl, (fun x m => by cases m), upd_same⟩ ?_ ?_
    · rintro i H2 hi ⟨B2, K2, ts, el, et, h2⟩
      refine ⟨rfl, yes_turn ?_⟩
      refine ⟨_, rfl, _, rfl, bg, n, zs, rfl, B2, K2.tup B hn, z1, z5, fun t H3 ht B3 k3 => ?_⟩
      obtain ⟨B4, K4⟩ := Bag.put (o := .lst (ts.map termV ++ [termV t])) B hD (K2.trans k3) B3
      refine ⟨_, k3.1 _ _ Db h2, by rw [List.length_map]; exact lt_line (by omega), B4, K4, ts ++ [t], by rw [List.length_append, el]; rfl, fun x m => ?_, ?_⟩
      · rcases List.mem_append.mp m with m | m
        · exact et x m
        · rw [List.mem_singleton.mp m]
          exact ht
      · rw [List.map_append]
        exact upd_same
    · rintro H2 ⟨B2, K2, ts, el, et, h2⟩
      refine ⟨D, _, rfl, .inl ⟨SqL.of h2, fun l hl => ?_⟩⟩
      have hl0 : H l = none := K2.free B B2 hl
      obtain ⟨B3, K3⟩ := Bag.put (o := .tup (ts.map termV)) B hl0 K2 B2
      exact k l ts _ el et hl0 upd_same B3 K3
def spNames : Sp := fun vs H Q _ => ∃ (b : Addr) (many : Nat), vs = [.ref b, .int (many : Nat)] ∧ Bag H b ∧ many ≤ 5 ∧
  ∀ (p : Addr) (zs : List Str) (H' : Hp), zs.length = many → (∀ z ∈ zs, NameS 4 z) → H p = none → NmAt H' p zs → Bag H' b → Keep b H H' → Q (.ref p) H'
theorem has_names (b : Blt mg) (hP : Has P w K mg base CX0 2 "_law_pool" sLawPool ["_law_bag_here", "_law_many", "_law_most"] spPool) (a : AtE K mg "_law_names" sLawNames ["_law_bag_here", "_law_many"]) : Has P w K mg base CX0 3 "_law_names" sLawNames ["_law_bag_here", "_law_many"] spNames := by
  obtain ⟨f, fd, a⟩ := a
  obtain ⟨fPo, fdPo, aPo, GPo⟩ := hP
  refine ⟨f, fd, a, a.fn.ok scLawNames (fun vs H Q E h => ?_) (fun cdv A outer s H vs Q E hr2 h => ?_)⟩
  · obtain ⟨b, m, rfl, _⟩ := h
    rfl
  · obtain ⟨bg, m, rfl, B, m5, k⟩ := h
    refine ⟨_,
    (pss_one (ps_ret (pe_callTy call_tuple_of (by rfl) b.tuple (by decide +kernel) (pa_cons (pe_call GPo hr2 rfl aPo.gl aPo.fn.kp aPo.bd .nil pass0 (pa_cons (pv 0) (pa_cons (pv 1) (pa_cons pe_int pa_nil)))) pa_nil)))), ?_⟩
    refine ⟨_, rfl, _, rfl, bg, m, 4, rfl, B, m5, by decide, by decide, fun p zs H1 lz nz np hp B1 k1 => ?_⟩
    refine ⟨p, _, rfl, .inl ⟨SqL.of hp, fun l hl => ?_⟩⟩
    have hl0 := k1.free B B1 hl
    obtain ⟨B2, K2⟩ := Bag.put (o := .tup (zs.map V.str)) B hl0 k1 B1
    exact k l zs _ lz nz hl0 upd_same B2 K2
def PairOk (zs : List Str) (p : Str × Str) : Prop := p.1 ∈ zs ∧ p.2 ∈ zs ∧ p.1 ≠ p.2
def spPairs : Sp := fun vs H Q _ => ∃ (b n : Addr) (zs : List Str) (m : Nat), vs = [.ref b, .ref n, .int (m : Nat)] ∧ Bag H b ∧ NmAt H n zs ∧ zs.length ≤ 5 ∧ zs.Nodup ∧ m ≤ 3 ∧
  ∀ (p : Addr) (ls : List V) (ps : List (Str × Str)) (H' : Hp), ps.length ≤ m → (∀ x ∈ ps, PairOk zs x) → H p = none → H' p = some (.tup ls) → Each (PairAt H') ls ps → Bag H' b → Keep b H H' → Q (.ref p) H'
theorem has_pairs (b : Blt mg) (hP : Has P w K mg base CX0 1 "_law_pull" sPull ["_law_bag_here", "_law_size"] spPull) (a : AtE K mg "_law_pairs" sLawPairs ["_law_bag_here", "_law_names_here", "_law_most"]) :
    Has P w K mg base CX0 2 "_law_pairs" sLawPairs ["_law_bag_here", "_law_names_here", "_law_most"] spPairs := by
  obtain ⟨f, fd, a⟩ := a
  obtain ⟨fP, fdP, aP, GP⟩ := hP
  refine ⟨f, fd, a, a.fn.ok scLawPairs (fun vs H Q E h => ?_) (fun cdv A outer s H vs Q E hr1 h => ?_)⟩
  · obtain ⟨b, n, zs, m, rfl, _⟩ := h
    rfl
  · obtain ⟨bg, n, zs, m, rfl, B, hn, z5, nd, m3, k⟩ := h
    refine ⟨_,
    (pss_cons (ps_if (pt_cmpR op_lt (pe_callB call_len_seq (by rfl) b.len PySem.boot_len (pa_cons (pv 1) pa_nil)) pe_int (nomark _))
      (pss_one (ps_ret (pe_tup pa_nil)))
      pss_nil)
    (pss_cons (ps_set (i := 3) scLawPairs.nd rfl (.inl rfl) (pe_lst pa_nil))
    (pss_cons (ps_for PassesOwn.never rfl (pi_range1 rfl b.range (pa_cons (pe_call GP hr1 rfl aP.gl aP.fn.kp aP.bd .nil pass0 (pa_cons (pv 0) (pa_cons (pe_op op_add (pv 2) pe_int) pa_nil))) pa_nil)) (pg_name (i := 4) scLawPairs.nd rfl (.inl rfl))
      (pss_cons (ps_set (i := 5) scLawPairs.nd rfl (.inl rfl) (pe_call GP hr1 rfl aP.gl aP.fn.kp aP.bd .nil pass0 (pa_cons (pv 0) (pa_cons (pe_callB call_len_seq (by rfl) b.len PySem.boot_len (pa_cons (pv 1) pa_nil)) pa_nil))))
      (pss_cons (ps_set (i := 6) scLawPairs.nd rfl (.inl rfl) (pe_op op_mod (pe_op op_add (pe_op op_add (pv 5) pe_int) (pe_call GP hr1 rfl aP.gl aP.fn.kp aP.bd .nil pass0 (pa_cons (pv 0) (pa_cons (pe_op op_sub (pe_callB call_len_seq (by rfl) b.len PySem.boot_len (pa_cons (pv 1) pa_nil)) pe_int) pa_nil)))) (pe_callB call_len_seq (by rfl) b.len PySem.boot_len (pa_cons (pv 1) pa_nil))))
      (pss_one (ps_expr (pe_bm PySem.F.plainAttrs_list PySem.F.slot_list_append PySem.F.type_list_append mt_append (pv 3) (pa_cons (pe_tup (pa_cons (pe_ix ix_tup (pv 1) (pv 5) fun _ _ => rfl) (pa_cons (pe_ix ix_tup (pv 1) (pv 6) fun _ _ => rfl) pa_nil))) pa_nil)))))))
    (pss_one (ps_ret (pe_callTy call_tuple_of (by rfl) b.tuple (by decide +kernel) (pa_cons (pv 3) pa_nil))))))), ?_⟩
    refine ⟨_, rfl, n, _, rfl, .inr (SqT.of hn), _, _, rfl, rfl, _, rfl, ?_⟩
    by_cases c2 : zs.length < 2
    · rw [decide_eq_true (show ((zs.map V.str).length : Int) < 2 by rw [List.length_map]; omega)]
      refine iteT ⟨by show 0 ≤ sizeLine; decide, fun p hp => ?_⟩
      obtain ⟨B1, K1⟩ := Bag.put (o := .tup []) B hp (Keep.refl bg H) B
      exact k p [] [] _ (Nat.zero_le _) (fun x m => by cases m) hp upd_same .nil B1 K1
    · rw [decide_eq_false (show ¬ ((zs.map V.str).length : Int) < 2 by rw [List.length_map]; omega)]
      refine iteF ⟨by show 0 ≤ sizeLine; decide, fun F hF => ?_⟩
      obtain ⟨B1, K1⟩ := Bag.put (o := .lst []) B hF (Keep.refl bg H) B
      have Fb : F ≠ bg := B.ne hF
      refine ⟨_, rfl, _, rfl, _, _, rfl, rfl, bg, _, rfl, B1, by omega, by omega, fun u H2 u0 u1 B2 k2 => ?_⟩
      obtain ⟨un, rfl⟩ := Int.eq_ofNat_of_zero_le u0
      have f2 := k2.1 _ _ Fb (upd_same (H := H) (a := F) (o := .lst []))
      have K2 := K1.trans k2
      refine ⟨_, rfl, by omega, by omega, ?_⟩
      refine for_range (lo := 0) (n := un) (fun i σ H' => ∃ x y z : Option V, σ = [some (.ref bg), some (.ref n), some (.int (m : Nat)), some (.ref F), x, y, z] ∧ Bag H' bg ∧ Keep bg H H' ∧ ∃ (ls : List V) (ps : List (Str × Str)), ps.length = i ∧ (∀ x ∈ ps, PairOk zs x) ∧ H' F = some (.lst ls) ∧ Each (PairAt H') ls ps)
        ⟨none, none, none, rfl, B2, K2, [], [], rfl, (fun x m => by cases m), f2, .nil⟩ ?_ ?_
      · rintro i σ H3 hi ⟨x, y, z, rfl, B3, K3, ls, ps, lp, okp, f3, ep⟩
        have n3 := K3.tup B hn
        refine ⟨_, rfl, _, rfl, n, _, rfl, .inr (SqT.of n3), bg, _, rfl, B3, by rw [List.length_map]; omega, by rw [List.length_map]; omega, fun o H4 o0 o1 B4 k4 => ?_⟩
        obtain ⟨on, rfl⟩ := Int.eq_ofNat_of_zero_le o0
        rw [List.length_map] at o1
        have K4 := K3.trans k4
        have n4 := K4.tup B hn
        refine ⟨_, rfl, _, _, rfl, rfl, _, rfl, _, rfl, n, _, rfl, .inr (SqT.of n4), _, _, rfl, rfl, bg, _, rfl, B4, by rw [List.length_map]; omega, by rw [List.length_map]; omega, fun t H5 t0 t1 B5 k5 => ⟨_, _, rfl, rfl, ?_⟩⟩
        obtain ⟨tn, rfl⟩ := Int.eq_ofNat_of_zero_le t0
        rw [List.length_map] at t1
        have K5 := K4.trans k5
        have n5 := K5.tup B hn
        refine ⟨_, rfl, n, _, rfl, .inr (SqT.of n5), _, _, rfl, rfl, by rw [List.length_map]; omega, ?_⟩
        obtain ⟨r, er⟩ : ∃ r : Nat, r = (on + 1 + tn) % zs.length := ⟨_, rfl⟩
        have er' : ((on : Int) + 1 + (tn : Int)) % (((zs.map V.str).length : Nat) : Int) = ((r : Nat) : Int) := by
          rw [List.length_map, er]
          norm_cast
        have lr : r < zs.length := by rw [er]; exact Nat.mod_lt _ (by omega)
        have lo : on < zs.length := by omega
        have rne : zs[on] ≠ zs[r] := fun e => by
          have q := (List.getElem_inj nd).mp e
          by_cases w : on + 1 + tn < zs.length
          · rw [Nat.mod_eq_of_lt w] at er
            omega
          · have : (on + 1 + tn) % zs.length = on + 1 + tn - zs.length := by
              rw [Nat.mod_eq_sub_mod (by omega), Nat.mod_eq_of_lt (by omega)]
            omega
        have f5 := k5.1 _ _ Fb (k4.1 _ _ Fb f3)
        have ep5 : Each (PairAt H5) ls ps := ep.mono fun v p z => z.moved ((keep_tups k4 B3).trans (keep_tups k5 B4))
        show gName 6 (V.int (((on : Int) + 1 + (tn : Int)) % (((zs.map V.str).length : Nat) : Int))) _ _ _
        rw [er']
        refine ⟨_, rfl, .inl ⟨rfl, _, SqL.of f5⟩, ?_⟩
        refine ⟨_, rfl, _, rfl, n, _, _, _, rfl, rfl, SqT.of n5, atI_nat (j := on) (by rw [List.getElem?_map, List.getElem?_eq_getElem lo]; rfl), ?_⟩
        refine ⟨_, rfl, _, rfl, n, _, _, _, rfl, rfl, SqT.of n5, atI_nat (j := r) (by rw [List.getElem?_map, List.getElem?_eq_getElem lr]; rfl), by show 2 ≤ sizeLine; decide, fun T hT => ?_⟩
        have hT0 := K5.free B B5 hT
        obtain ⟨B6, K6⟩ := Bag.put (o := .tup [.str zs[on], .str zs[r]]) B hT0 K5 B5
        have s6 := same_new (o := HO.tup [.str zs[on], .str zs[r]]) hT
        have f6 := s6 _ _ f5
        obtain ⟨B7, K7⟩ := Bag.put (o := .lst (ls ++ [.ref T])) B hF K6 B6
        have t7 := tups_lst (ys := ls ++ [.ref T]) f6
        refine ⟨F, _, _, rfl, rfl, f6, by rw [ep.len]; exact lt_line (by omega), _, _, _, rfl, B7, K7, _, ps ++ [(zs[on], zs[r])], by rw [List.length_append, lp]; rfl, fun x mx => ?_, upd_same, ?_⟩
        · rcases List.mem_append.mp mx with mx | mx
          · exact okp x mx
          · rw [List.mem_singleton.mp mx]
            exact ⟨List.getElem_mem lo, List.getElem_mem lr, rne⟩
        · exact (ep5.mono fun v p z => z.moved ((same_tups s6).trans t7)).snoc ⟨T, rfl, t7 _ _ upd_same⟩
      · rintro σ H3 ⟨x, y, z, rfl, B3, K3, ls, ps, lp, okp, f3, ep⟩
        refine ⟨_, rfl, F, _, rfl, .inl ⟨SqL.of f3, fun p hp => ?_⟩⟩
        have hp0 := K3.free B B3 hp
        obtain ⟨B4, K4⟩ := Bag.put (o := .tup ls) B hp0 K3 B3
        exact k p ls ps _ (by omega) okp hp0 upd_same (ep.mono fun v p z => z.moved (same_tups (same_new hp))) B4 K4
def spUnlike : Sp := fun vs H Q _ => ∃ (b : Addr) (many : Nat), vs = [.ref b, .int (many : Nat)] ∧ Bag H b ∧ 1 ≤ many ∧ many ≤ 5 ∧
  ∀ (p : Addr) (zs : List Str) (H' : Hp), 1 ≤ zs.length → zs.length ≤ many → zs.Nodup → (∀ z ∈ zs, NameS 4 z) → H p = none → NmAt H' p zs → Bag H' b → Keep b H H' → Q (.ref p) H'
abbrev sixN : List Str := ["ab", "ba", "abc", "b", "zzzz", "yx"]
theorem six_names : ∀ z ∈ (["ab", "ba", "abc", "b", "zzzz", "yx"] : List Str), NameS 4 z := by
  intro z m
  have h : ∀ z ∈ (["ab", "ba", "abc", "b", "zzzz", "yx"] : List Str), (1 ≤ z.length ∧ z.length ≤ 4) ∧ z ≠ "find" ∧ z ≠ "some" ∧ ∀ c ∈ z.cps.toList, letB c = true := by decide +kernel
  obtain ⟨⟨a, b⟩, c, d, e⟩ := h z m
  exact ⟨a, b, c, d, e⟩
theorem has_unlike (b : Blt mg) (hN : Has P w K mg base CX0 3 "_law_names" sLawNames ["_law_bag_here", "_law_many"] spNames) (a : AtE K mg "_law_unlike_names" sLawUnlikeNames ["_law_bag_here", "_law_many"]) :
    Has P w K mg base CX0 4 "_law_unlike_names" sLawUnlikeNames ["_law_bag_here", "_law_many"] spUnlike := by
  obtain ⟨f, fd, a⟩ := a
  obtain ⟨fNa, fdNa, aNa, GNa⟩ := hN
  refine ⟨f, fd, a, a.fn.ok scLawUnlikeNames (fun vs H Q E h => ?_) (fun cdv A outer s H vs Q E hr3 h => ?_)⟩
  · obtain ⟨b, m, rfl, _⟩ := h
    rfl
  · obtain ⟨bg, m, rfl, B, m1, m5, k⟩ := h
    refine ⟨_,
    (pss_cons (ps_set (i := 2) scLawUnlikeNames.nd rfl (.inl rfl) (pe_lst pa_nil))
    (pss_cons (ps_for PassesOwn.never rfl (pi_tup (pe_op op_catA (pe_call GNa hr3 rfl aNa.gl aNa.fn.kp aNa.bd .nil pass0 (pa_cons (pv 0) (pa_cons (pv 1) pa_nil))) (pe_tup (pa_cons pe_str (pa_cons pe_str (pa_cons pe_str (pa_cons pe_str (pa_cons pe_str (pa_cons pe_str pa_nil))))))))) (pg_name (i := 3) scLawUnlikeNames.nd rfl (.inl rfl))
      (pss_one (ps_if (PW.pt (pw_and (pt_cmpR op_notIn_seq (pv 3) (pv 2) rfl) (pw_and1 (pt_cmpR op_lt (pe_callB call_len_seq (by rfl) b.len PySem.boot_len (pa_cons (pv 2) pa_nil)) (pv 1) (nomark _)))))
        (pss_one (ps_expr (pe_bm PySem.F.plainAttrs_list PySem.F.slot_list_append PySem.F.type_list_append mt_append (pv 2) (pa_cons (pv 3) pa_nil))))
        pss_nil)))
    (pss_one (ps_ret (pe_callTy call_tuple_of (by rfl) b.tuple (by decide +kernel) (pa_cons (pv 2) pa_nil)))))), ?_⟩
    refine ⟨by show 0 ≤ sizeLine; decide, fun F hF => ?_⟩
    obtain ⟨B1, K1⟩ := Bag.put (o := .lst []) B hF (Keep.refl bg H) B
    have Fb : F ≠ bg := B.ne hF
    refine ⟨_, rfl, _, rfl, bg, m, rfl, B1, m5, fun p zs H2 lz nz np hp B2 k2 => ?_⟩
    have f2 := k2.1 _ _ Fb (upd_same (H := H) (a := F) (o := .lst []))
    have K2 := K1.trans k2
    refine ⟨by show 6 ≤ sizeLine; decide, fun T hT => ?_⟩
    have hT0 := K2.free B B2 hT
    obtain ⟨B3, K3⟩ := Bag.put (o := .tup [.str "ab", .str "ba", .str "abc", .str "b", .str "zzzz", .str "yx"]) B hT0 K2 B2
    have s3 := same_new (o := HO.tup [.str "ab", .str "ba", .str "abc", .str "b", .str "zzzz", .str "yx"]) hT
    refine rd_cat (s3 _ _ hp) upd_same (by rw [List.length_map]; show zs.length + 6 ≤ 1000; omega) fun U H4 s4 hU => ?_
    have f4 := s4 _ _ (s3 _ _ f2)
    have K4 := K3.trans (Same.keep s4)
    have B4 := B3.same s4
    have eU : (zs.map V.str ++ [.str "ab", .str "ba", .str "abc", .str "b", .str "zzzz", .str "yx"] : List V) = (zs ++ sixN).map V.str := by
      rw [List.map_append]
      rfl
    rw [eU] at hU
    have allN : ∀ z ∈ zs ++ sixN, NameS 4 z := fun z mz => by
      rcases List.mem_append.mp mz with mz | mz
      · exact nz z mz
      · exact six_names z mz
    have long : 1 ≤ (zs ++ sixN).length := by
      rw [List.length_append]
      show 1 ≤ zs.length + 6
      omega
    generalize (zs ++ sixN) = us at hU allN long
    refine ⟨U, rfl, ⟨_, SqT.of hU⟩, ?_⟩
    refine for_tup (xs := us.map V.str) (fun i σ H' => ∃ (x : Option V) (ws : List Str), σ = [some (.ref bg), some (.int (m : Nat)), some (.ref F), x] ∧ Bag H' bg ∧ Keep bg H H' ∧ H' U = some (.tup (us.map V.str)) ∧ H' F = some (.lst (ws.map V.str)) ∧ ws.Nodup ∧ ws.length ≤ m ∧ (1 ≤ i → 1 ≤ ws.length) ∧ ∀ z ∈ ws, NameS 4 z)
      ⟨none, [], rfl, B4, K4, hU, f4, List.nodup_nil, Nat.zero_le _, fun h => by omega, fun z m => by cases m⟩ (fun i σ H' _ ⟨_, _, _, _, _, z, _⟩ => SqT.of z) ?_ ?_
    · rintro i v σ H5 hv ⟨x, ws, rfl, B5, K5, u5, f5, nd, lw, l1, nw⟩
      obtain ⟨z, ez, rfl⟩ := map_get hv
      refine ⟨_, rfl, _, rfl, F, _, rfl, .inl (SqL.of f5), rfl, strs_flat _, _, rfl, ?_⟩
      rw [inV_str]
      by_cases mz : z ∈ ws
      · rw [decide_eq_true mz]
        refine iteF ⟨_, ws, rfl, B5, K5, u5, f5, nd, lw, fun _ => ?_, nw⟩
        exact List.length_pos_of_mem mz
      · rw [decide_eq_false mz]
        refine iteT ⟨_, rfl, F, _, rfl, .inl (SqL.of f5), _, rfl, _, _, rfl, rfl, _, rfl, ?_⟩
        by_cases c : ws.length < m
        · rw [decide_eq_true (show (((ws.map V.str).length : Nat) : Int) < (m : Int) by rw [List.length_map]; omega)]
          refine iteT ⟨_, rfl, .inl ⟨rfl, _, SqL.of f5⟩, _, rfl, F, _, _, rfl, rfl, f5, by rw [List.length_map]; exact lt_line (by omega), ?_⟩
          obtain ⟨B6, K6⟩ := Bag.put (o := .lst (ws.map V.str ++ [.str z])) B hF K5 B5
          refine ⟨_, ws ++ [z], rfl, B6, K6, (tups_lst f5) _ _ u5, by rw [List.map_append]; exact upd_same, snoc_nodup.mpr ⟨nd, mz⟩, by rw [List.length_append]; exact c, fun _ => by rw [List.length_append]; exact Nat.succ_le_succ (Nat.zero_le _), fun y my => ?_⟩
          rcases List.mem_append.mp my with my | my
          · exact nw y my
          · rw [List.mem_singleton.mp my]
            exact allN z (List.mem_of_getElem? ez)
        · rw [decide_eq_false (show ¬ (((ws.map V.str).length : Nat) : Int) < (m : Int) by rw [List.length_map]; omega)]
          exact iteF ⟨_, ws, rfl, B5, K5, u5, f5, nd, lw, fun _ => by omega, nw⟩
    · rintro σ H5 ⟨x, ws, rfl, B5, K5, u5, f5, nd, lw, l1, nw⟩
      refine ⟨_, rfl, F, _, rfl, .inl ⟨SqL.of f5, fun p hp => ?_⟩⟩
      have hp0 := K5.free B B5 hp
      obtain ⟨B6, K6⟩ := Bag.put (o := .tup (ws.map V.str)) B hp0 K5 B5
      exact k p ws _ (l1 (by rw [List.length_map]; exact long)) lw nd nw hp0 upd_same B6 K6
end
end VQ
namespace VQ
open PySem L2 LamX
abbrev sLawFreeQuestion : Stmt := top 51
abbrev nLawFreeQuestion : List Str := ["_law_bag_here", "_law_names_here", "_law_tables", "_law_ties", "_law_k", "_law_left", "_law_name", "_law_table", "_law_terms_here"]
theorem scLawFreeQuestion : FnScope nLawFreeQuestion ["_law_bag_here"] (defScope sLawFreeQuestion) := ⟨rfl, rfl, rfl, by decide +kernel, rfl, by decide +kernel, by decide +kernel⟩
abbrev nLawRing : List Str := ["_law_bag_here", "_law_names_here", "_law_ties", "_law_k"]
theorem name_edge : NameS 8 "edge" := by
  have h : (1 ≤ ("edge" : Str).length ∧ ("edge" : Str).length ≤ 8) ∧ ("edge" : Str) ≠ "find" ∧ ("edge" : Str) ≠ "some" ∧ ∀ c ∈ ("edge" : Str).cps.toList, letB c = true := by decide +kernel
  exact ⟨h.1.1, h.1.2, h.2.1, h.2.2.1, h.2.2.2⟩
theorem name_tri : NameS 8 "tri" := by
  have h : (1 ≤ ("tri" : Str).length ∧ ("tri" : Str).length ≤ 8) ∧ ("tri" : Str) ≠ "find" ∧ ("tri" : Str) ≠ "some" ∧ ∀ c ∈ ("tri" : Str).cps.toList, letB c = true := by decide +kernel
  exact ⟨h.1.1, h.1.2, h.2.1, h.2.2.1, h.2.2.2⟩
/-- ties in a list, all of them good ones -/
structure TiesIn (H : Hp) (T : Addr) (zs : List Str) (ts : List (Str × List Term)) : Prop where
  at_ : ∃ vs, H T = some (.lst vs) ∧ Each (TieAt H) vs ts
  ok : ∀ t ∈ ts, TieOk zs t
theorem TiesIn.moved {H H' : Hp} {T : Addr} {zs : List Str} {ts : List (Str × List Term)} (h : TiesIn H T zs ts) (t : Tups H H') (k : ∀ vs, H T = some (.lst vs) → H' T = some (.lst vs)) : TiesIn H' T zs ts := by
  obtain ⟨⟨vs, h1, h2⟩, h3⟩ := h
  exact ⟨⟨vs, k vs h1, h2.mono fun _ _ z => z.moved t⟩, h3⟩
theorem TiesIn.keep {H H' : Hp} {b T : Addr} {zs : List Str} {ts : List (Str × List Term)} (h : TiesIn H T zs ts) (k : Keep b H H') (B : Bag H b) (ne : T ≠ b) : TiesIn H' T zs ts := h.moved (keep_tups k B) fun _ z => k.1 _ _ ne z
theorem TiesIn.same {H H' : Hp} {T : Addr} {zs : List Str} {ts : List (Str × List Term)} (h : TiesIn H T zs ts) (s : Same H H') : TiesIn H' T zs ts := h.moved (same_tups s) fun _ z => s _ _ z
theorem TiesIn.snoc {H : Hp} {T p c : Addr} {zs : List Str} {ts : List (Str × List Term)} (h : TiesIn H T zs ts) {t : Str × List Term} (hp : H p = some (.tup [.str t.1, .ref c])) (hc : H c = some (.tup (t.2.map termV))) (ok : TieOk zs t) {vs : List V} (hT : H T = some (.lst vs)) :
    TiesIn (upd H T (.lst (vs ++ [.ref p]))) T zs (ts ++ [t]) := by
  obtain ⟨⟨vs', h1, h2⟩, h3⟩ := h
  rw [hT] at h1
  cases h1
  have tt := tups_lst (ys := vs ++ [.ref p]) hT
  refine ⟨⟨_, upd_same, (h2.mono fun _ _ z => z.moved tt).snoc ⟨p, c, rfl, tt _ _ hp, tt _ _ hc⟩⟩, fun u m => ?_⟩
  rcases List.mem_append.mp m with m | m
  · exact h3 u m
  · rw [List.mem_singleton.mp m]
    exact ok
theorem TiesIn.few {H : Hp} {T : Addr} {zs : List Str} {ts : List (Str × List Term)} (h : TiesIn H T zs ts) : ∃ vs, H T = some (.lst vs) ∧ vs.length = ts.length := by
  obtain ⟨⟨vs, h1, h2⟩, _⟩ := h
  exact ⟨vs, h1, h2.len⟩
theorem lay_strs {zs : List Str} (h : ∀ z ∈ zs, NameS 4 z) : Lay 1 (.list (zs.map PyData.str)) := .list fun d m => by
  obtain ⟨z, mz, rfl⟩ := List.mem_map.mp m
  refine .str _ fun c mc => ?_
  have q : ∀ c ∈ letters.cps.toList, c < 1114112 := by decide +kernel
  exact q c (of_decide_eq_true ((h z mz).lt c mc))
def leftM (zs : List Str) (ts : List (Str × List Term)) : List Str := zs.filter fun z => !ts.any fun t => decide (Term.nm z ∈ t.2)
theorem left_V (zs : List Str) (ts : List (Str × List Term)) : (zs.map V.str).filterMap (fun v => match v with | .str z => if ts.any (fun t => decide (Term.nm z ∈ t.2)) = true then none else some (V.str z) | _ => none) = (leftM zs ts).map V.str := by
  unfold leftM
  induction zs with
  | nil => rfl
  | cons z zs ih =>
    by_cases c : ts.any (fun t => decide (Term.nm z ∈ t.2)) = true
    · rw [List.filter_cons_of_neg (p := fun z => !ts.any fun t => decide (Term.nm z ∈ t.2)) (by rw [c]; exact Bool.false_ne_true), List.map_cons, List.filterMap_cons]
      simp only [c, if_true]
      exact ih
    · rw [List.filter_cons_of_pos (p := fun z => !ts.any fun t => decide (Term.nm z ∈ t.2)) (by rw [Bool.eq_false_iff.mpr c]; rfl), List.map_cons, List.map_cons, List.filterMap_cons]
      simp only [c, if_false]
      rw [ih]
      rfl
theorem left_sub {zs : List Str} {ts : List (Str × List Term)} {z : Str} (m : z ∈ leftM zs ts) : z ∈ zs := (List.mem_filter.mp m).1
theorem left_not {zs : List Str} {ts : List (Str × List Term)} {z : Str} (m : z ∈ zs) (n : z ∉ leftM zs ts) : ∃ t ∈ ts, Term.nm z ∈ t.2 := by
  by_cases c : ts.any (fun t => decide (Term.nm z ∈ t.2)) = true
  · obtain ⟨t, mt, e⟩ := List.any_eq_true.mp c
    exact ⟨t, mt, of_decide_eq_true e⟩
  · exact absurd (List.mem_filter.mpr ⟨m, by rw [Bool.eq_false_iff.mpr c]; rfl⟩) n
theorem nm_map (us : List Str) : us.map V.str = (us.map Term.nm).map termV := by
  rw [List.map_map]
  rfl
section
variable {P : Program} {w : World} {K : PySem.W.Frag} {mg : Str → Option Value} {base : Heap} {aB : Addr}
/-- what a question's drawing asks further -/
structure FDefs (P : Program) (w : World) (K : PySem.W.Frag) (mg : Str → Option Value) (base : Heap) : Prop where
  g : GDefs P w K mg base
  any : mg "any" = none
  ts : Has P w K mg base CX0 5 "_law_terms" sLawTerms ["_law_bag_here", "_law_names_here", "_law_width"] (spTerms K)
  pr : Has P w K mg base CX0 2 "_law_pairs" sLawPairs ["_law_bag_here", "_law_names_here", "_law_most"] spPairs
  un : Has P w K mg base CX0 4 "_law_unlike_names" sLawUnlikeNames ["_law_bag_here", "_law_many"] spUnlike
/-- a question is drawn -/
def spQuest : Sp := fun vs H Q _ => ∃ (b : Addr), vs = [.ref b] ∧ Bag H b ∧ ∀ (p : Addr) (q : Qn) (H' : Hp), QAt H' p q → QOk q → Bag H' b → Keep b H H' → Q (.ref p) H'
theorem has_free (D : FDefs P w K mg base) (a : AtE K mg "_law_free_question" sLawFreeQuestion ["_law_bag_here"]) : Has P w K mg base CX0 6 "_law_free_question" sLawFreeQuestion ["_law_bag_here"] spQuest := by
  obtain ⟨f, fd, a⟩ := a
  obtain ⟨⟨b, ⟨fP, fdP, aP, GP⟩, ⟨fO, fdO, aO, GO⟩, ⟨fMx, fdMx, aMx, GMx⟩, _, ⟨fPo, fdPo, aPo, GPo⟩⟩, any, ⟨fTs, fdTs, aTs, GTs⟩, ⟨fPr, fdPr, aPr, GPr⟩, ⟨fUn, fdUn, aUn, GUn⟩⟩ := D
  refine ⟨f, fd, a, a.fn.ok scLawFreeQuestion (fun vs H Q E h => ?_) (fun cdv A outer s H vs Q E hr5 h => ?_)⟩
  · obtain ⟨b, rfl, _⟩ := h
    rfl
  · obtain ⟨bg, rfl, B, k⟩ := h
    have hr1 : Room 1 _ := hr5.mono (by decide)
    have hr2 : Room 2 _ := hr5.mono (by decide)
    have hr4 : Room 4 _ := hr5.mono (by decide)
    have hu : (A.deeper (PyProof.Rows.envOfC "_law_free_question" (defScope sLawFreeQuestion) s.heap.objs.size f cdv)).units + 64 < cLine := hr5.units
    refine ⟨_,
    (pss_cons (ps_set (i := 1) scLawFreeQuestion.nd rfl (.inl rfl) (pe_call GUn hr4 rfl aUn.gl aUn.fn.kp aUn.bd .nil pass0 (pa_cons (pv 0) (pa_cons (pe_op op_add pe_int (pe_call GP hr1 rfl aP.gl aP.fn.kp aP.bd .nil pass0 (pa_cons (pv 0) (pa_cons pe_int pa_nil)))) pa_nil))))
    (pss_cons (ps_set (i := 2) scLawFreeQuestion.nd rfl (.inl rfl) (pe_op op_cat (pe_call GPo hr2 rfl aPo.gl aPo.fn.kp aPo.bd .nil pass0 (pa_cons (pv 0) (pa_cons pe_int (pa_cons pe_int pa_nil)))) (pe_lst (pa_cons (pe_ix ix_tup (pv 1) pe_int fun _ _ => rfl) (pa_cons pe_str pa_nil)))))
    (pss_cons (ps_set (i := 3) scLawFreeQuestion.nd rfl (.inr rfl) (pe_lst pa_nil))
    (pss_cons (ps_for PassesOwn.never rfl (pi_range1 rfl b.range (pa_cons (pe_op op_add pe_int (pe_call GP hr1 rfl aP.gl aP.fn.kp aP.bd .nil pass0 (pa_cons (pv 0) (pa_cons pe_int pa_nil)))) pa_nil)) (pg_name (i := 4) scLawFreeQuestion.nd rfl (.inl rfl))
      (pss_one (ps_expr (pe_bm PySem.F.plainAttrs_list PySem.F.slot_list_append PySem.F.type_list_append mt_append (pv 3) (pa_cons (pe_tup (pa_cons (pe_call GO hr2 rfl aO.gl aO.fn.kp aO.bd .nil pass0 (pa_cons (pv 0) (pa_cons (pv 2) pa_nil))) (pa_cons (pe_call GTs hr5 rfl aTs.gl aTs.fn.kp aTs.bd .nil pass0 (pa_cons (pv 0) (pa_cons (pv 1) (pa_cons (pe_op op_add pe_int (pe_call GP hr1 rfl aP.gl aP.fn.kp aP.bd .nil pass0 (pa_cons (pv 0) (pa_cons pe_int pa_nil)))) pa_nil)))) pa_nil))) pa_nil)))))
    (pss_cons (ps_setLc (i := 5) (own := [("_law_name", 6)]) (g := (gName 6)) (tt := (tNot (tTest (tCB (rAny K) (tCons (tLc (iList K (tVar 3)) (gTup K 2 (gCons (gName 7) (gCons (gName 8) gNil))) tYes (tOp (rIn K false) (tVar 6) (tVar 8)) [7, 8]) tNil))))) (te := (tVar 6)) rfl scLawFreeQuestion.nd rfl rfl (sw_true rfl rfl rfl (by decide +kernel)) (pi_tup (pv 1)) (blkOk_by (N := nLawFreeQuestion) (sc := defScope sLawFreeQuestion) (by decide +kernel)) (fun _ _ _ _ _ => (pg_name (i := 6) scLawFreeQuestion.nd rfl (.inr rfl))) (fun _ _ _ _ _ => pts_one (pt_not (pt_val (pe_callB (cr_any rfl) (by rfl) any (by decide +kernel) (pa_cons (pe_lc (own := [("_law_table", 7), ("_law_terms_here", 8)]) (g := (gTup K 2 (gCons (gName 7) (gCons (gName 8) gNil)))) (tt := tYes) (te := (tOp (rIn K false) (tVar 6) (tVar 8))) rfl scLawFreeQuestion.nd (pi_list (pv 3)) (blkOk_by (N := nLawFreeQuestion) (sc := ({ kind := .function, names := [(".0", .local), ("_law_name", .cell), ("any", .globalImplicit), ("_law_ties", .cell)], isGenerator := false, isCoroutine := false } : Scope)) (by decide +kernel)) (fun _ _ _ _ _ => (pg_tup rfl (pgs_cons (pg_name (i := 7) scLawFreeQuestion.nd rfl (.inl rfl)) (pgs_cons (pg_name (i := 8) scLawFreeQuestion.nd rfl (.inl rfl)) pgs_nil)))) (fun _ _ _ _ _ => pts_nil) (fun _ _ _ _ _ => (pe_cmpR op_in_seq (pv 6) (pv 8) rfl))) pa_nil))))) (fun _ _ _ _ _ => (pv 6)))
    (C8.pss_cut (ps_if (pt_cmpR (op_neD hu) (pv 5) (pe_lst pa_nil) (nomark _))
      (pss_one (ps_expr (pe_bm PySem.F.plainAttrs_list PySem.F.slot_list_append PySem.F.type_list_append mt_append (pv 3) (pa_cons (pe_tup (pa_cons (pe_call GO hr2 rfl aO.gl aO.fn.kp aO.bd .nil pass0 (pa_cons (pv 0) (pa_cons (pv 2) pa_nil))) (pa_cons (pe_callTy call_tuple_of (by rfl) b.tuple (by decide +kernel) (pa_cons (pe_slice sl_list (pv 5) po_none (po_some pe_int)) pa_nil)) pa_nil))) pa_nil))))
      pss_nil)
    (C8.pss_cut (ps_if (pt_cmpR op_gt (pe_callB call_len_seq (by rfl) b.len PySem.boot_len (pa_cons (pv 5) pa_nil)) pe_int (nomark _))
      (pss_one (ps_expr (pe_bm PySem.F.plainAttrs_list PySem.F.slot_list_append PySem.F.type_list_append mt_append (pv 3) (pa_cons (pe_tup (pa_cons (pe_call GO hr2 rfl aO.gl aO.fn.kp aO.bd .nil pass0 (pa_cons (pv 0) (pa_cons (pv 2) pa_nil))) (pa_cons (pe_tup (pa_cons pe_int (pa_cons (pe_ix ix_list (pv 5) pe_int fun _ _ => rfl) pa_nil))) pa_nil))) pa_nil))))
      pss_nil)
    (pss_one (ps_ret (pe_tup (pa_cons (pv 1) (pa_cons (pe_op op_add pe_int (pe_call GP hr1 rfl aP.gl aP.fn.kp aP.bd .nil pass0 (pa_cons (pv 0) (pa_cons (pe_callB call_len_seq (by rfl) b.len PySem.boot_len (pa_cons (pv 1) pa_nil)) pa_nil)))) (pa_cons (pe_callTy call_tuple_of (by rfl) b.tuple (by decide +kernel) (pa_cons (pe_call GMx hr2 rfl aMx.gl aMx.fn.kp aMx.bd .nil pass0 (pa_cons (pv 0) (pa_cons (pv 3) pa_nil))) pa_nil)) (pa_cons (pe_call GPr hr2 rfl aPr.gl aPr.fn.kp aPr.bd .nil pass0 (pa_cons (pv 0) (pa_cons (pv 1) (pa_cons pe_int pa_nil)))) pa_nil)))))))))))))), ?_⟩
    refine ⟨_, rfl, _, rfl, bg, _, rfl, B, by omega, by omega, fun u H1 u0 u1 B1 k1 => ?_⟩
    obtain ⟨un, rfl⟩ := Int.eq_ofNat_of_zero_le u0
    refine ⟨_, _, rfl, rfl, bg, 1 + un, by show [V.ref bg, V.int ((1 : Int) + (un : Int))] = _; rw [show ((1 : Int) + (un : Int)) = ((1 + un : Nat) : Int) by omega], B1, by omega, by omega, fun n zs H2 z1 zm nd nz nn hn B2 k2 => ?_⟩
    have K2 := k1.trans k2
    have nb : n ≠ bg := hn.ne B2
    refine ⟨_, rfl, bg, 3, 8, rfl, B2, by decide, by decide, by decide, fun L ws H3 lw nw nL hL B3 k3 => ?_⟩
    have n3 := k3.tup B2 hn
    have K3 := K2.trans k3
    have ge0 : (zs.map V.str)[0]? = some (.str zs[0]) := by
      rw [List.getElem?_map, List.getElem?_eq_getElem (by omega)]
      rfl
    refine ⟨_, rfl, n, _, _, _, rfl, rfl, SqT.of n3, atI_nat (j := 0) ge0, by show 2 ≤ sizeLine; decide, fun M hM => ?_⟩
    have sM := same_new (o := HO.lst [.str zs[0], .str "edge"]) hM
    have hM0 := K3.free B B3 hM
    obtain ⟨B4, K4⟩ := Bag.put (o := .lst [.str zs[0], .str "edge"]) B hM0 K3 B3
    refine ⟨L, M, _, _, rfl, rfl, sM _ _ hL, upd_same, Nat.le_of_lt (lt_line (by rw [List.length_map]; show ws.length + 2 < 1000; omega)), fun TB hTB => ?_⟩
    have hTB0 := K4.free B B4 hTB
    obtain ⟨B5, K5⟩ := Bag.put (o := .lst (ws.map V.str ++ [.str zs[0], .str "edge"])) B hTB0 K4 B4
    have sTB := same_new (o := HO.lst (ws.map V.str ++ [.str zs[0], .str "edge"])) hTB
    have etb : (ws.map V.str ++ [.str zs[0], .str "edge"] : List V) = (ws ++ [zs[0], ("edge" : Str)]).map V.str := by
      rw [List.map_append]
      rfl
    have n5 := sTB _ _ (sM _ _ n3)
    have okt : ∀ z ∈ ws ++ [zs[0], ("edge" : Str)], NameS 8 z := fun z mz => by
      rcases List.mem_append.mp mz with mz | mz
      · exact nw z mz
      · rcases List.mem_cons.mp mz with mz | mz
        · rw [mz]
          exact (nz _ (List.getElem_mem _)).mono (by decide)
        · rw [List.mem_singleton.mp mz]
          exact name_edge
    have ltb : (ws ++ [zs[0], ("edge" : Str)]).length = 5 := by
      rw [List.length_append, lw]
      rfl
    have htb : (upd (upd H3 M (.lst [.str zs[0], .str "edge"])) TB (.lst (ws.map V.str ++ [.str zs[0], .str "edge"]))) TB = some (.lst ((ws ++ [zs[0], ("edge" : Str)]).map V.str)) := by
      rw [upd_same, etb]
    generalize (upd (upd H3 M (.lst [.str zs[0], .str "edge"])) TB (.lst (ws.map V.str ++ [.str zs[0], .str "edge"]))) = H5 at B5 K5 n5 htb
    generalize ws ++ [zs[0], ("edge" : Str)] = tb at okt ltb htb
    have TBb : TB ≠ bg := B.ne hTB0
    refine ⟨by show 0 ≤ sizeLine; decide, fun T hT => ?_⟩
    have hT0 := K5.free B B5 hT
    have Tb : T ≠ bg := B.ne hT0
    have TTB : TB ≠ T := ne_of_none htb hT
    obtain ⟨B6, K6⟩ := Bag.put (o := .lst []) B hT0 K5 B5
    have sT := same_new (o := HO.lst []) hT
    have n6 := sT _ _ n5
    have tb6 := sT _ _ htb
    refine ⟨_, rfl, bg, _, rfl, B6, by omega, by omega, fun v H7 v0 v1 B7 k7 => ⟨_, _, rfl, rfl, ?_⟩⟩
    obtain ⟨vn, rfl⟩ := Int.eq_ofNat_of_zero_le v0
    have ev : (1 : Int) + (vn : Int) = ((1 + vn : Nat) : Int) := by omega
    have K7 := K6.trans k7
    refine ⟨_, rfl, by omega, by omega, ?_⟩
    rw [show (1 + (vn : Int)).toNat = 1 + vn by omega]
    -- a tie more, from a table drawn and its terms
    refine for_range (lo := 0) (n := 1 + vn) (fun i σ H' => ∃ x : Option V, σ = [some (.ref bg), some (.ref n), some (.ref TB), some (.ref T), x, none, none, none, none] ∧ Bag H' bg ∧ Keep bg H H' ∧ NmAt H' n zs ∧ H' TB = some (.lst (tb.map V.str)) ∧ ∃ ts, ts.length = i ∧ TiesIn H' T zs ts)
      ⟨none, rfl, B7, K7, k7.tup B6 n6, k7.1 _ _ TBb tb6, [], rfl, ⟨[], k7.1 _ _ Tb upd_same, .nil⟩, fun t m => by cases m⟩ ?_ ?_
    · rintro i σ H8 hi ⟨x, rfl, B8, K8, n8, tb8, ts, lt, ti⟩
      obtain ⟨vs, hT8, lv⟩ := ti.few
      refine ⟨_, rfl, .inl ⟨rfl, _, SqL.of hT8⟩, ?_⟩
      refine ⟨_, rfl, _, rfl, bg, TB, _, rfl, B8, .inl tb8, TBb, by rw [List.length_map]; omega, by rw [List.length_map]; omega, fun y H9 my B9 k9 => ?_⟩
      obtain ⟨z, mz, rfl⟩ := List.mem_map.mp my
      refine ⟨_, rfl, _, rfl, _, rfl, bg, _, rfl, B9, by omega, by omega, fun c H10 c0 c1 B10 k10 => ?_⟩
      obtain ⟨cn, rfl⟩ := Int.eq_ofNat_of_zero_le c0
      have n10 := k10.tup B9 (k9.tup B8 n8)
      refine ⟨_, _, rfl, rfl, bg, n, zs, 1 + cn, by show [V.ref bg, V.ref n, V.int ((1 : Int) + (cn : Int))] = _; rw [show ((1 : Int) + (cn : Int)) = ((1 + cn : Nat) : Int) by omega], B10, n10, z1, by omega, by omega, fun p us H11 lu ou np hp B11 k11 => ?_⟩
      refine ⟨by show 2 ≤ sizeLine; decide, fun r hr => ?_⟩
      have K11 := ((K8.trans k9).trans k10).trans k11
      have hr0 := K11.free B B11 hr
      have sr := same_new (o := HO.tup [.str z, .ref p]) hr
      obtain ⟨B12, K12⟩ := Bag.put (o := .tup [.str z, .ref p]) B hr0 K11 B11
      have k811 := (k9.trans k10).trans k11
      have ti12 := (ti.keep k811 B8 Tb).same sr
      have hT12 := sr _ _ (k811.1 _ _ Tb hT8)
      obtain ⟨B13, K13⟩ := Bag.put (o := .lst (vs ++ [.ref r])) B hT0 K12 B12
      refine ⟨T, _, _, rfl, rfl, hT12, lt_line (by omega), _, rfl, B13, K13, (tups_lst hT12) _ _ (sr _ _ (k11.tup B10 n10)), (upd_ne TTB).trans (sr _ _ (k811.1 _ _ TBb tb8)), ts ++ [(z, us)], by rw [List.length_append, lt]; rfl, ?_⟩
      exact ti12.snoc (t := (z, us)) upd_same (sr _ _ hp) ⟨okt z mz, by show 1 ≤ us.length; omega, by show us.length ≤ 4; omega, ou⟩ hT12
    · rintro σ H8 ⟨x, rfl, B8, K8, n8, tb8, ts, lt, ti⟩
      obtain ⟨vs, hT8, lv⟩ := ti.few
      refine ⟨_, rfl, n, rfl, ⟨_, SqT.of n8⟩, fun D hD => ?_⟩
      have lz5 : zs.length ≤ 5 := by omega
      refine lc_tupF (xs := zs.map V.str) (fun v => match v with | .str z => if ts.any (fun t => decide (Term.nm z ∈ t.2)) = true then none else some (.str z) | _ => none) hD (SqT.of n8) (by rw [List.length_map]; omega) ?_ ?_
      · rintro i v H9 hv s9 k1' k2' y1 y2
        obtain ⟨z, ez, rfl⟩ := map_get hv
        have hT9 := s9 _ _ hT8
        obtain ⟨vs', q1, et⟩ := (ti.same s9).at_
        rw [hT9] at q1
        cases q1
        refine ⟨rfl, _, rfl, T, rfl, ⟨_, SqL.of hT9⟩, fun D3 hD3 => ?_⟩
        refine lc_listS (xs := vs) (fun i acc _ => acc = ((ts.take i).map fun t => decide (Term.nm z ∈ t.2)).map V.bl) hD3 (SqL.of hT9) (by omega) (fun _ _ _ _ _ h => h) rfl ?_ ?_
        · rintro j y acc H10 hy s10 h10 rfl k3 k4 y3 y4
          obtain ⟨t, e1, pa, c, rfl, hpa, hc⟩ := et.get hy
          refine ⟨pa, _, rfl, SqT.of (s10 _ _ hpa), rfl, _, _, rfl, _, _, rfl, rfl, rfl, yes_turn ?_⟩
          refine ⟨_, rfl, _, rfl, c, _, rfl, .inr (SqT.of (s10 _ _ hc)), rfl, terms_flat _, ?_⟩
          rw [inV_term]
          refine y3 _ _ (Same.refl _) ?_
          rw [← take_snoc (fun t : Str × List Term => decide (Term.nm z ∈ t.2)) e1, List.map_append]
          rfl
        · rintro acc H10 s10 h10 rfl
          rw [List.take_of_length_le (by omega)] at h10
          refine ⟨D3, _, rfl, SqL.of h10, _, rfl, ?_⟩
          have e2 : (ts.map fun t => decide (Term.nm z ∈ t.2)).any id = ts.any fun t => decide (Term.nm z ∈ t.2) := by
            rw [List.any_map]
            rfl
          rw [e2]
          by_cases c : ts.any (fun t => decide (Term.nm z ∈ t.2)) = true
          · rw [c]
            exact iteF (y2 _ (if_pos c) s10)
          · rw [Bool.eq_false_iff.mpr c]
            exact iteT ⟨_, rfl, y1 _ _ (if_neg c) s10⟩
      · intro H9 s9 h9
        rw [left_V] at h9
        have ll : (leftM zs ts).length ≤ 5 := Nat.le_trans (List.length_filter_le _ _) lz5
        have lsub : ∀ z ∈ leftM zs ts, z ∈ zs := fun z m => left_sub m
        have lnot : ∀ z ∈ zs, z ∉ leftM zs ts → ∃ t ∈ ts, Term.nm z ∈ t.2 := fun z m n => left_not m n
        generalize leftM zs ts = lf at h9 ll lsub lnot
        have hD0 := K8.free B B8 hD
        have Db : D ≠ bg := B.ne hD0
        have DT : T ≠ D := ne_of_none hT8 hD
        refine ⟨fun σ' H' => ∃ ts', σ' = [some (.ref bg), some (.ref n), some (.ref TB), some (.ref T), x, some (.ref D), none, none, none] ∧ Bag H' bg ∧ Keep bg H H' ∧ NmAt H' n zs ∧ H' TB = some (.lst (tb.map V.str)) ∧ H' D = some (.lst (lf.map V.str)) ∧ TiesIn H' T zs ts' ∧ 1 ≤ ts'.length ∧ ts'.length ≤ 5 ∧ (∀ t ∈ ts, t ∈ ts') ∧ ∀ z ∈ lf.take 4, ∃ t ∈ ts', Term.nm z ∈ t.2, ?_, ?_⟩
        · refine ⟨_, rfl, by show 0 ≤ sizeLine; decide, fun e he => ?_⟩
          have se := same_new (o := HO.lst []) he
          have s10 := s9.trans se
          have h10 := se _ _ h9
          have B10 := B8.same s10
          have K10 := K8.trans (Same.keep s10)
          refine ⟨_, .list [], .lst (SqL.of h10) (dp_strs _), .lst (SqL.of upd_same) .nil, (lay_strs fun z m => nz z (lsub z m)).shaped (by decide), by decide +kernel, _, rfl, ?_⟩
          rw [eqv_nil]
          cases lf with
          | nil =>
            exact iteF ⟨ts, rfl, B10, K10, s10 _ _ n8, s10 _ _ tb8, h10, ti.same s10, by omega, by omega, fun t m => m, fun z m => by cases m⟩
          | cons z0 lf0 =>
            refine iteT ?_
            generalize elf : z0 :: lf0 = lf at *
            have l1 : 1 ≤ lf.length := by rw [← elf]; exact Nat.succ_le_succ (Nat.zero_le _)
            have hT10 := s10 _ _ hT8
            refine ⟨_, rfl, .inl ⟨rfl, _, SqL.of hT10⟩, ?_⟩
            refine ⟨_, rfl, _, rfl, bg, TB, _, rfl, B10, .inl (s10 _ _ tb8), TBb, by rw [List.length_map]; omega, by rw [List.length_map]; omega, fun y H11 my B11 k11 => ?_⟩
            obtain ⟨z, mz, rfl⟩ := List.mem_map.mp my
            have h11 := k11.1 _ _ Db h10
            refine ⟨_, rfl, _, rfl, D, _, rfl, SqL.of h11, fun U hU => ?_⟩
            have sU := same_new (o := HO.lst ((lf.map V.str).take 4)) hU
            have ecut : cutV (lf.map V.str) none (some 4) = (lf.map V.str).take 4 := by
              by_cases c4 : 4 ≤ lf.length
              · exact cut_upto (lf.map V.str) (k := 4) (by rw [List.length_map]; exact c4)
              · unfold cutV
                rw [show (some (4 : Int)) = some ((4 : Nat) : Int) from rfl, HT.sIx_nat, HT.sIx_none, List.drop_zero, Nat.sub_zero, List.length_map, Nat.min_eq_right (by omega), List.take_of_length_le (by rw [List.length_map]; omega), List.take_of_length_le (by rw [List.length_map]; omega)]
            rw [show cutV (lf.map V.str) (none : Option Int) (some 4) = (lf.map V.str).take 4 from ecut]
            refine ⟨U, _, rfl, .inl ⟨SqL.of upd_same, fun c hc => ?_⟩⟩
            have sc' := same_new (o := HO.tup ((lf.map V.str).take 4)) hc
            refine ⟨by show 2 ≤ sizeLine; decide, fun r hr => ?_⟩
            have sr := same_new (o := HO.tup [.str z, .ref c]) hr
            have s14 := (sU.trans sc').trans sr
            have K11 := K10.trans k11
            have K14 := K11.trans (Same.keep s14)
            have B14 := B11.same s14
            have ti14 := (((ti.same s10).keep k11 B10 Tb).same s14)
            have hT14 := s14 _ _ (k11.1 _ _ Tb hT10)
            obtain ⟨B15, K15⟩ := Bag.put (o := .lst (vs ++ [.ref r])) B hT0 K14 B14
            have lt4 : (lf.take 4).length ≤ 4 := by rw [List.length_take]; omega
            have lt1 : 1 ≤ (lf.take 4).length := by rw [List.length_take]; omega
            refine ⟨T, _, _, rfl, rfl, hT14, lt_line (by omega), ts ++ [(z, (lf.take 4).map Term.nm)], rfl, B15, K15, (tups_lst hT14) _ _ (s14 _ _ (k11.tup B10 (s10 _ _ n8))), (upd_ne TTB).trans (s14 _ _ (k11.1 _ _ TBb (s10 _ _ tb8))), (upd_ne DT.symm).trans (s14 _ _ h11), ?_, by rw [List.length_append]; exact Nat.le_trans (show 1 ≤ ts.length by omega) (Nat.le_add_right _ _), by rw [List.length_append]; show ts.length + 1 ≤ 5; omega, fun t m => List.mem_append.mpr (.inl m), fun z' m => ⟨_, List.mem_append.mpr (.inr (List.mem_singleton.mpr rfl)), List.mem_map.mpr ⟨z', m, rfl⟩⟩⟩
            refine ti14.snoc (t := (z, (lf.take 4).map Term.nm)) (c := c) upd_same ?_ ⟨okt z mz, by show 1 ≤ (List.map _ _).length; rw [List.length_map]; exact lt1, by show (List.map _ _).length ≤ 4; rw [List.length_map]; exact lt4, fun x mx => ?_⟩ hT14
            · rw [← nm_map, List.map_take]
              exact sr _ _ upd_same
            · obtain ⟨z', mz', rfl⟩ := List.mem_map.mp mx
              exact lsub z' (List.mem_of_mem_take mz')
        · rintro σ' H10 ⟨ts', rfl, B10, K10, n10, tb10, h10, ti10, t1, t5, inc, cov⟩
          refine ⟨fun σ' H' => ∃ ts', σ' = [some (.ref bg), some (.ref n), some (.ref TB), some (.ref T), x, some (.ref D), none, none, none] ∧ Bag H' bg ∧ Keep bg H H' ∧ NmAt H' n zs ∧ TiesIn H' T zs ts' ∧ 1 ≤ ts'.length ∧ ts'.length ≤ 6 ∧ ∀ z ∈ zs, ∃ t ∈ ts', Term.nm z ∈ t.2, ?_, ?_⟩
          · refine ⟨_, rfl, D, _, rfl, .inl (SqL.of h10), _, _, rfl, rfl, _, rfl, ?_⟩
            by_cases c4 : 4 < lf.length
            · rw [decide_eq_true (show (4 : Int) < (((lf.map V.str).length : Nat) : Int) by rw [List.length_map]; omega)]
              refine iteT ?_
              obtain ⟨vs', hT10, lv'⟩ := ti10.few
              refine ⟨_, rfl, .inl ⟨rfl, _, SqL.of hT10⟩, ?_⟩
              refine ⟨_, rfl, _, rfl, bg, TB, _, rfl, B10, .inl tb10, TBb, by rw [List.length_map]; omega, by rw [List.length_map]; omega, fun y H11 my B11 k11 => ?_⟩
              obtain ⟨z, mz, rfl⟩ := List.mem_map.mp my
              have h11 := k11.1 _ _ Db h10
              refine ⟨_, rfl, D, _, _, _, rfl, rfl, SqL.of h11, atI_nat (j := 4) (by rw [List.getElem?_map, List.getElem?_eq_getElem c4]; rfl), by show 2 ≤ sizeLine; decide, fun c hc => ?_⟩
              have sc' := same_new (o := HO.tup [.int 3, .str lf[4]]) hc
              refine ⟨by show 2 ≤ sizeLine; decide, fun r hr => ?_⟩
              have sr := same_new (o := HO.tup [.str z, .ref c]) hr
              have s14 := sc'.trans sr
              have K11 := K10.trans k11
              have K14 := K11.trans (Same.keep s14)
              have B14 := B11.same s14
              have ti14 := ((ti10.keep k11 B10 Tb).same s14)
              have hT14 := s14 _ _ (k11.1 _ _ Tb hT10)
              obtain ⟨B15, K15⟩ := Bag.put (o := .lst (vs' ++ [.ref r])) B hT0 K14 B14
              refine ⟨T, _, _, rfl, rfl, hT14, lt_line (by omega), ts' ++ [(z, [.wo 3, .nm lf[4]])], rfl, B15, K15, (tups_lst hT14) _ _ (s14 _ _ (k11.tup B10 n10)), ?_, by rw [List.length_append]; exact Nat.le_trans t1 (Nat.le_add_right _ _), by rw [List.length_append]; show ts'.length + 1 ≤ 6; omega, fun z' m => ?_⟩
              · refine ti14.snoc (t := (z, [.wo 3, .nm lf[4]])) (c := c) upd_same (sr _ _ upd_same) ⟨okt z mz, by show 1 ≤ 2; decide, by show 2 ≤ 4; decide, fun x mx => ?_⟩ hT14
                rcases List.mem_cons.mp mx with rfl | mx
                · show 3 < 32
                  decide
                · rw [List.mem_singleton.mp mx]
                  exact lsub _ (List.getElem_mem _)
              · by_cases ml : z' ∈ lf
                · obtain ⟨j, hj, ej⟩ := List.getElem_of_mem ml
                  by_cases j4 : j < 4
                  · obtain ⟨t, mt, e⟩ := cov z' (by rw [← ej]; exact List.mem_take_iff_getElem.mpr ⟨j, by omega, rfl⟩)
                    exact ⟨t, List.mem_append.mpr (.inl mt), e⟩
                  · obtain rfl : j = 4 := by omega
                    exact ⟨_, List.mem_append.mpr (.inr (List.mem_singleton.mpr rfl)), List.mem_cons_of_mem _ (List.mem_singleton.mpr (by rw [ej]))⟩
                · obtain ⟨t, mt, e⟩ := lnot z' m ml
                  exact ⟨t, List.mem_append.mpr (.inl (inc t mt)), e⟩
            · rw [decide_eq_false (show ¬ (4 : Int) < (((lf.map V.str).length : Nat) : Int) by rw [List.length_map]; omega)]
              refine iteF ⟨ts', rfl, B10, K10, n10, ti10, t1, by omega, fun z' m => ?_⟩
              by_cases ml : z' ∈ lf
              · exact cov z' (by rw [List.take_of_length_le (by omega)]; exact ml)
              · obtain ⟨t, mt, e⟩ := lnot z' m ml
                exact ⟨t, inc t mt, e⟩
          · rintro σ' H11 ⟨ts2, rfl, B11, K11, n11, ti11, t1', t6', cov'⟩
            refine ⟨_, rfl, _, rfl, _, rfl, n, _, rfl, .inr (SqT.of n11), bg, _, rfl, B11, by rw [List.length_map]; omega, by rw [List.length_map]; omega, fun m H12 m0 m1 B12 k12 => ?_⟩
            obtain ⟨mn, rfl⟩ := Int.eq_ofNat_of_zero_le m0
            rw [List.length_map] at m1
            refine ⟨_, _, rfl, rfl, ?_⟩
            have ti12 := ti11.keep k12 B11 Tb
            obtain ⟨vs2, hT12, et2⟩ := ti12.at_
            have lv2 := et2.len
            refine ⟨_, rfl, _, rfl, bg, T, _, rfl, B12, Tb, hT12, by omega, fun q ys H13 pm nq hq B13 k13 => ?_⟩
            refine ⟨q, _, rfl, .inl ⟨SqL.of hq, fun tt htt => ?_⟩⟩
            have stt := same_new (o := HO.tup ys) htt
            have n14 := stt _ _ (k13.tup B12 (k12.tup B11 n11))
            have K13 := (K11.trans k12).trans k13
            have K14 := K13.trans (Same.keep stt)
            have B14 := B13.same stt
            refine ⟨_, rfl, _, rfl, bg, n, zs, 3, rfl, B14, n14, lz5, nd, by decide, fun lp ls ps H15 l3 okp nlp hlp elp B15 k15 => ?_⟩
            refine ⟨by show 4 ≤ sizeLine; decide, fun p hp => ?_⟩
            have sp := same_new (o := HO.tup [.ref n, .int (1 + (mn : Int)), .ref tt, .ref lp]) hp
            have K15 := K14.trans k15
            have B16 := B15.same sp
            obtain ⟨us2, pu, eu⟩ := perm_each pm et2
            have tall : Tups H12 (upd H15 p (.tup [.ref n, .int (1 + (mn : Int)), .ref tt, .ref lp])) := (((keep_tups k13 B12).trans (same_tups stt)).trans (keep_tups k15 B14)).trans (same_tups sp)
            refine k p ⟨zs, 1 + mn, us2, ps⟩ _ ⟨n, tt, lp, ?_, sp _ _ (k15.tup B14 n14), ⟨ys, sp _ _ (k15.tup B14 upd_same), eu.mono fun _ _ z => z.moved tall⟩, ⟨ls, sp _ _ hlp, elp.mono fun _ _ z => z.moved (same_tups sp)⟩⟩
              ⟨z1, lz5, nz, nd, by show 1 ≤ 1 + mn; omega, by show 1 + mn ≤ zs.length; omega, by show 1 ≤ us2.length; rw [pu.length_eq]; exact t1', by show us2.length ≤ 6; rw [pu.length_eq]; exact t6', fun t m => ti11.ok t (pu.mem_iff.mp m), l3, fun x m => okp x m, fun z m => ?_⟩ B16 (K15.trans (Same.keep sp))
            · rw [upd_same]
              show some (HO.tup [V.ref n, V.int (1 + (mn : Int)), V.ref tt, V.ref lp]) = some (HO.tup [V.ref n, V.int ((1 + mn : Nat) : Int), V.ref tt, V.ref lp])
              rw [show (1 + (mn : Int)) = ((1 + mn : Nat) : Int) by omega]
            · obtain ⟨t, mt, e⟩ := cov' z m
              exact ⟨t, pu.mem_iff.mpr mt, e⟩
end
end VQ
namespace VQ
open PySem L2 LamX
/-! ### words, numbers and signs of a text -/
abbrev digs : Str := "0123456789"
def digB (c : Nat) : Bool := decide (c ∈ digs.cps.toList)
def spanLen (p : Nat → Bool) : List Nat → Nat
  | [] => 0
  | c :: cs => if p c = true then spanLen p cs + 1 else 0
def partLen : List Nat → Nat
  | [] => 0
  | c :: cs => if letB c = true then spanLen letB (c :: cs) else if digB c = true then spanLen digB (c :: cs) else 1
theorem spanLen_le (p : Nat → Bool) : ∀ cs, spanLen p cs ≤ cs.length
  | [] => Nat.le_refl _
  | c :: cs => by
    unfold spanLen
    split
    · exact Nat.succ_le_succ (spanLen_le p cs)
    · exact Nat.zero_le _
theorem spanLen_run (p : Nat → Bool) : ∀ (w cs : List Nat), (∀ c ∈ w, p c = true) → (∀ c, cs.head? = some c → p c = false) → spanLen p (w ++ cs) = w.length
  | [], cs, _, h => by
    cases cs with
    | nil => rfl
    | cons c cs =>
      show (if p c = true then _ else 0) = 0
      rw [if_neg (by rw [h c rfl]; exact Bool.false_ne_true)]
  | c :: w, cs, hw, h => by
    show (if p c = true then spanLen p (w ++ cs) + 1 else 0) = _
    rw [if_pos (hw c List.mem_cons_self), spanLen_run p w cs (fun x m => hw x (List.mem_cons_of_mem _ m)) h]
    rfl
/-- a word, a number, or a sign -/
inductive Tok : List Nat → List Nat → Prop
  | word {w cs : List Nat} (ne : w ≠ []) (all : ∀ c ∈ w, letB c = true) (end_ : ∀ c, cs.head? = some c → letB c = false) : Tok w cs
  | num {w cs : List Nat} (ne : w ≠ []) (all : ∀ c ∈ w, digB c = true) (end_ : ∀ c, cs.head? = some c → digB c = false) : Tok w cs
  | sign {c : Nat} {cs : List Nat} (n1 : letB c = false) (n2 : digB c = false) (n3 : c ≠ 32) : Tok [c] cs
/-- a text spells these, with blanks between -/
inductive Spell : List Nat → List Str → Prop
  | nil : Spell [] []
  | blank {cs : List Nat} {ts : List Str} (h : Spell cs ts) : Spell (32 :: cs) ts
  | tok {w cs : List Nat} {ts : List Str} (t : Tok w cs) (h : Spell cs ts) : Spell (w ++ cs) (⟨w.toArray⟩ :: ts)
theorem dig_let : ∀ c, digB c = true → letB c = false := by
  intro c h
  have q : ∀ c ∈ digs.cps.toList, letB c = false := by decide +kernel
  exact q c (of_decide_eq_true h)
theorem Tok.ne {w cs : List Nat} (t : Tok w cs) : w ≠ [] := by
  cases t with
  | word ne _ _ => exact ne
  | num ne _ _ => exact ne
  | sign _ _ _ => exact List.cons_ne_nil _ _
theorem Tok.len {w cs : List Nat} (t : Tok w cs) : partLen (w ++ cs) = w.length := by
  cases t with
  | word ne all end_ =>
    cases w with
    | nil => exact absurd rfl ne
    | cons c w =>
      show (if letB c = true then _ else _) = _
      rw [if_pos (all c List.mem_cons_self)]
      exact spanLen_run letB (c :: w) cs all end_
  | num ne all end_ =>
    cases w with
    | nil => exact absurd rfl ne
    | cons c w =>
      show (if letB c = true then _ else if digB c = true then _ else _) = _
      have hd := all c List.mem_cons_self
      rw [if_neg (by rw [dig_let c hd]; exact Bool.false_ne_true), if_pos hd]
      exact spanLen_run digB (c :: w) cs all end_
  | sign n1 n2 n3 =>
    show (if letB _ = true then _ else if digB _ = true then _ else _) = _
    rw [if_neg (by rw [n1]; exact Bool.false_ne_true), if_neg (by rw [n2]; exact Bool.false_ne_true)]
    rfl
theorem Tok.first {w cs : List Nat} (t : Tok w cs) : ∃ c r, w = c :: r ∧ c ≠ 32 := by
  have h : letB 32 = false ∧ digB 32 = false := by decide +kernel
  cases t with
  | word ne all _ =>
    cases w with
    | nil => exact absurd rfl ne
    | cons c w =>
      refine ⟨c, w, rfl, fun e => ?_⟩
      have q := all c List.mem_cons_self
      rw [e, h.1] at q
      cases q
  | num ne all _ =>
    cases w with
    | nil => exact absurd rfl ne
    | cons c w =>
      refine ⟨c, w, rfl, fun e => ?_⟩
      have q := all c List.mem_cons_self
      rw [e, h.2] at q
      cases q
  | sign _ _ n3 => exact ⟨_, [], rfl, n3⟩
theorem blank_len (cs : List Nat) : partLen (32 :: cs) = 1 := by
  have h : letB 32 = false ∧ digB 32 = false := by decide +kernel
  show (if letB 32 = true then spanLen letB (32 :: cs) else if digB 32 = true then spanLen digB (32 :: cs) else 1) = 1
  rw [if_neg (by rw [h.1]; exact Bool.false_ne_true), if_neg (by rw [h.2]; exact Bool.false_ne_true)]
theorem text_at {z : Str} {i : Nat} (h : i < z.length) : ∃ c, z.cps.toList[i]? = some c ∧ z.cps.toList.drop i = c :: z.cps.toList.drop (i + 1) := by
  have h' : i < z.cps.toList.length := by
    rw [Array.length_toList]
    exact h
  exact ⟨_, List.getElem?_eq_getElem h', List.drop_eq_getElem_cons h'⟩
abbrev sPartEnd : Stmt := top 25
abbrev nPartEnd : List Str := ["text", "at", "kind"]
theorem scPartEnd : FnScope nPartEnd ["text", "at"] (defScope sPartEnd) := ⟨rfl, rfl, rfl, by decide +kernel, rfl, by decide +kernel, by decide +kernel⟩
abbrev sPartsOf : Stmt := top 26
abbrev nPartsOf : List Str := ["text", "parts", "at", "behind"]
theorem scPartsOf : FnScope nPartsOf ["text"] (defScope sPartsOf) := ⟨rfl, rfl, rfl, by decide +kernel, rfl, by decide +kernel, by decide +kernel⟩
section
variable {P : Program} {w : World} {K : PySem.W.Frag} {mg : Str → Option Value} {base : Heap} {aB : Addr}
def spPartEnd : Sp := fun vs H Q _ => ∃ (z : Str) (i : Nat), vs = [.str z, .int (i : Nat)] ∧ z.length ≤ 900 ∧ i < z.length ∧ ∀ H', Same H H' → Q (.int ((i + partLen (z.cps.toList.drop i) : Nat) : Int)) H'
theorem has_partend (b : Blt mg) (Le : ∃ t, mg "LETTERS" = some (.str letters t)) (Di : ∃ t, mg "DIGITS" = some (.str digs t)) (a : AtE K mg "part_end" sPartEnd ["text", "at"]) : Has P w K mg base CX0 1 "part_end" sPartEnd ["text", "at"] spPartEnd := by
  obtain ⟨f, fd, a⟩ := a
  obtain ⟨tle, Wle⟩ := Le
  obtain ⟨tdi, Wdi⟩ := Di
  refine ⟨f, fd, a, a.fn.ok scPartEnd (fun vs H Q E h => ?_) (fun cdv A outer s H vs Q E hr h => ?_)⟩
  · obtain ⟨z, i, rfl, _⟩ := h
    rfl
  · obtain ⟨z, i, rfl, z1, lt, k⟩ := h
    refine ⟨_,
    (pss_cons (ps_for PassesOwn.never rfl (pi_tup (pe_tup (pa_cons (pe_glob (v := .str letters) rfl Wle ⟨_, rfl⟩) (pa_cons (pe_glob (v := .str digs) rfl Wdi ⟨_, rfl⟩) pa_nil)))) (pg_name (i := 2) scPartEnd.nd rfl (.inl rfl))
      (pss_one (ps_if (pt_cmpR op_in_sign (pe_ix ix_str (pv 0) (pv 1) fun _ _ => rfl) (pv 2) rfl)
        (pss_cons (ps_while PassesOwn.never (PW.pt (pw_and (pt_cmpR op_lt (pv 1) (pe_callB call_len_str (by rfl) b.len PySem.boot_len (pa_cons (pv 0) pa_nil)) (nomark _)) (pw_and1 (pt_cmpR op_in_sign (pe_ix ix_str (pv 0) (pv 1) fun _ _ => rfl) (pv 2) rfl))))
          (pss_one (ps_aug (i := 1) scPartEnd.nd rfl (.inl rfl) pe_int ip_add)))
        (pss_one (ps_ret (pv 1))))
        pss_nil)))
    (pss_one (ps_ret (pe_op op_add (pv 1) pe_int)))), ?_⟩
    have zl : z.length ≤ sizeLine := Nat.le_trans z1 (by decide)
    obtain ⟨c, gc, dc⟩ := text_at lt
    refine ⟨by show 2 ≤ sizeLine; decide, fun T hT => ?_⟩
    have sT := same_new (o := HO.tup [.str letters, .str digs]) hT
    have hTT := upd_same (H := H) (a := T) (o := .tup [.str letters, .str digs])
    generalize upd H T (.tup [.str letters, .str digs]) = H1 at sT hTT ⊢
    have kk := fun H' (s' : Same H1 H') => k H' (sT.trans s')
    -- the run of one kind
    refine ⟨T, rfl, ⟨_, SqT.of hTT⟩, ?_⟩
    refine for_tup (xs := [.str letters, .str digs]) (fun j σ H' => (∃ x : Option V, σ = [some (.str z), some (.int (i : Nat)), x]) ∧ H' = H1 ∧ (1 ≤ j → letB c = false) ∧ (2 ≤ j → digB c = false)) ⟨⟨_, rfl⟩, rfl, fun h => by omega, fun h => by omega⟩ (fun j σ H' _ ⟨_, e, _⟩ => by rw [e]; exact SqT.of hTT) ?_ ?_
    · rintro j v σ H2 hv ⟨⟨x, rfl⟩, rfl, n1, n2⟩
      obtain ⟨kd, p, rfl, ep, epl⟩ : ∃ (kd : Str) (p : Nat → Bool), v = .str kd ∧ (∀ c, p c = decide (c ∈ kd.cps.toList)) ∧ ((j = 0 ∧ p = letB) ∨ (j = 1 ∧ p = digB)) := by
        match j, hv with
        | 0, hv =>
          cases hv
          exact ⟨letters, letB, rfl, fun _ => rfl, .inl ⟨rfl, rfl⟩⟩
        | 1, hv =>
          cases hv
          exact ⟨digs, digB, rfl, fun _ => rfl, .inr ⟨rfl, rfl⟩⟩
        | j + 2, hv => simp at hv
      refine ⟨_, rfl, _, rfl, _, _, c, rfl, rfl, zl, atI_nat gc, _, rfl, c, kd, rfl, rfl, _, rfl, ?_⟩
      rw [← ep c]
      cases pc : p c with
      | false =>
        refine iteF ⟨⟨_, rfl⟩, rfl, fun _ => ?_, fun h2 => ?_⟩
        · rcases epl with ⟨rfl, rfl⟩ | ⟨rfl, rfl⟩
          · exact pc
          · exact n1 (by omega)
        · rcases epl with ⟨rfl, rfl⟩ | ⟨rfl, rfl⟩
          · omega
          · exact pc
      | true =>
        refine iteT ?_
        have fin : partLen (z.cps.toList.drop i) = spanLen p (z.cps.toList.drop i) := by
          rw [dc]
          rcases epl with ⟨rfl, rfl⟩ | ⟨rfl, rfl⟩
          · show (if letB c = true then _ else _) = _
            rw [if_pos pc]
          · show (if letB c = true then _ else if digB c = true then _ else _) = _
            rw [if_neg (by rw [n1 (by omega)]; exact Bool.false_ne_true), if_pos pc]
        dsimp only [tSeq]
        refine while_by (fun σ H' => H' = H2 ∧ ∃ m : Nat, σ = [some (.str z), some (.int (m : Nat)), some (.str kd)] ∧ m ≤ z.length ∧ m + spanLen p (z.cps.toList.drop m) = i + spanLen p (z.cps.toList.drop i))
          (fun σ _ => match σ with | [_, some (.int m), _] => z.length - m.toNat | _ => 0) ⟨rfl, i, rfl, by omega, rfl⟩ ?_ ?_
        · rintro σ H3 ⟨rfl, m, rfl, lm, em⟩
          refine ⟨_, rfl, _, rfl, z, rfl, zl, _, _, rfl, rfl, _, rfl, ?_⟩
          by_cases q : m < z.length
          · rw [decide_eq_true (show ((m : Nat) : Int) < ((z.length : Nat) : Int) by omega)]
            obtain ⟨c', gc', dc'⟩ := text_at q
            refine iteT ⟨_, rfl, _, rfl, _, _, c', rfl, rfl, zl, atI_nat gc', _, rfl, c', kd, rfl, rfl, _, rfl, ?_⟩
            rw [← ep c']
            cases pc' : p c' with
            | true =>
              refine iteT ⟨_, rfl, _, _, rfl, rfl, ⟨rfl, m + 1, ?_, by omega, ?_⟩, ?_⟩
              · show [some (V.str z), some (V.int ((m : Int) + 1)), some (V.str kd)] = _
                rw [show ((m : Int) + 1) = ((m + 1 : Nat) : Int) by omega]
              · rw [← em, dc']
                show _ = m + (if p c' = true then _ else 0)
                rw [if_pos pc']
                omega
              · show z.length - ((m : Int) + 1).toNat < z.length - ((m : Nat) : Int).toNat
                omega
            | false =>
              refine iteF ⟨_, rfl, ?_⟩
              have e0 : spanLen p (z.cps.toList.drop m) = 0 := by
                rw [dc']
                show (if p c' = true then _ else 0) = 0
                rw [if_neg (by rw [pc']; exact Bool.false_ne_true)]
              have kq := kk _ (Same.refl _)
              rw [fin, ← em, e0, Nat.add_zero] at kq
              exact kq
          · rw [decide_eq_false (show ¬ ((m : Nat) : Int) < ((z.length : Nat) : Int) by omega)]
            refine iteF ⟨_, rfl, ?_⟩
            have e0 : spanLen p (z.cps.toList.drop m) = 0 := by
              rw [List.drop_of_length_le (by rw [Array.length_toList]; exact Nat.le_of_not_lt q)]
              rfl
            have kq := kk _ (Same.refl _)
            rw [fin, ← em, e0, Nat.add_zero] at kq
            exact kq
        · intro σ H Q Q' im h
          obtain ⟨v, e, v2, e2, z', e3, l', i', j', e4, e5, kk', e6, rest⟩ := h
          refine ⟨v, e, v2, e2, z', e3, l', i', j', e4, e5, kk', e6, ?_⟩
          cases kk' with
          | false => exact iteF (im _ _ (by simpa using rest))
          | true =>
            have rest := (if_pos rfl : (if true = true then _ else _) = _) ▸ rest
            obtain ⟨a1, a2, a3, a4, a5, a6, a7, a8, a9, a10, a11, a12, a13, a14, a15, a16, a17, a18, a19, a20⟩ := rest
            exact iteT ⟨a1, a2, a3, a4, a5, a6, a7, a8, a9, a10, a11, a12, a13, a14, a15, a16, a17, a18, a19, im _ _ a20⟩
    · rintro σ H2 ⟨⟨x, rfl⟩, rfl, n1, n2⟩
      refine ⟨_, rfl, _, _, rfl, rfl, ?_⟩
      have e1 : partLen (z.cps.toList.drop i) = 1 := by
        rw [dc]
        show (if letB c = true then _ else if digB c = true then _ else 1) = 1
        rw [if_neg (by rw [n1 (by decide)]; exact Bool.false_ne_true), if_neg (by rw [n2 (by decide)]; exact Bool.false_ne_true)]
      have kq := kk H2 (Same.refl _)
      rw [e1] at kq
      exact kq
end
end VQ
namespace VQ
open PySem L2 LamX
def TokAt (H : Hp) (v : V) (z : Str) : Prop := ∃ (a : Addr) (n : Int), v = .ref a ∧ H a = some (.tup [.int n, .str z])
theorem TokAt.moved {H H' : Hp} (s : Tups H H') {v : V} {t : Str} (h : TokAt H v t) : TokAt H' v t := by
  obtain ⟨a, n, e, h1⟩ := h
  exact ⟨a, n, e, s _ _ h1⟩
theorem cut_mid (z : Str) {i j : Nat} (h1 : i ≤ j) (h2 : j ≤ z.length) : cutS z (some (i : Int)) (some (j : Int)) = ⟨((z.cps.toList.drop i).take (j - i)).toArray⟩ := by
  unfold cutS
  rw [HT.sIx_nat, HT.sIx_nat, Nat.min_eq_left h2, Nat.min_eq_left (Nat.le_trans h1 h2)]
section
variable {P : Program} {w : World} {K : PySem.W.Frag} {mg : Str → Option Value} {base : Heap} {aB : Addr}
def spPartsOf : Sp := fun vs H Q _ => ∃ (z : Str) (ts : List Str), vs = [.str z] ∧ z.length ≤ 900 ∧ Spell z.cps.toList ts ∧
  ∀ (l : Addr) (us : List V) (H' : Hp), H l = none → Same H H' → H' l = some (.lst us) → Each (TokAt H') us (ts ++ [("" : Str)]) → Q (.ref l) H'
theorem spell_few {cs : List Nat} {ts : List Str} (h : Spell cs ts) : ts.length ≤ cs.length := by
  induction h with
  | nil => exact Nat.le_refl _
  | blank h ih => exact Nat.le_succ_of_le ih
  | @tok w cs ts t h ih =>
    have := List.length_pos_iff.mpr t.ne
    rw [List.length_append]
    show ts.length + 1 ≤ _
    omega
theorem has_partsof (b : Blt mg) (hP : Has P w K mg base CX0 1 "part_end" sPartEnd ["text", "at"] spPartEnd) (a : AtE K mg "parts_of" sPartsOf ["text"]) : Has P w K mg base CX0 2 "parts_of" sPartsOf ["text"] spPartsOf := by
  obtain ⟨f, fd, a⟩ := a
  obtain ⟨fPe, fdPe, aPe, GPe⟩ := hP
  refine ⟨f, fd, a, a.fn.ok scPartsOf (fun vs H Q E h => ?_) (fun cdv A outer s H vs Q E hr1 h => ?_)⟩
  · obtain ⟨z, ts, rfl, _⟩ := h
    rfl
  · obtain ⟨z, ts, rfl, z1, sp, k⟩ := h
    refine ⟨_,
    (pss_cons (ps_set (i := 1) scPartsOf.nd rfl (.inl rfl) (pe_lst pa_nil))
    (pss_cons (ps_set (i := 2) scPartsOf.nd rfl (.inl rfl) pe_int)
    (pss_cons (ps_while PassesOwn.never (pt_cmpR op_lt (pv 2) (pe_callB call_len_str (by rfl) b.len PySem.boot_len (pa_cons (pv 0) pa_nil)) (nomark _))
      (pss_cons (ps_set (i := 3) scPartsOf.nd rfl (.inl rfl) (pe_call GPe hr1 rfl aPe.gl aPe.fn.kp aPe.bd .nil pass0 (pa_cons (pv 0) (pa_cons (pv 2) pa_nil))))
      (pss_cons (ps_if (pt_cmpR op_ne (pe_ix ix_str (pv 0) (pv 2) fun _ _ => rfl) pe_str (nomark _))
        (pss_one (ps_expr (pe_bm PySem.F.plainAttrs_list PySem.F.slot_list_append PySem.F.type_list_append mt_append (pv 1) (pa_cons (pe_tup (pa_cons (pv 2) (pa_cons (pe_slice sl_str (pv 0) (po_some (pv 2)) (po_some (pv 3))) pa_nil))) pa_nil))))
        pss_nil)
      (pss_one (ps_set (i := 2) scPartsOf.nd rfl (.inl rfl) (pv 3))))))
    (pss_cons (ps_expr (pe_bm PySem.F.plainAttrs_list PySem.F.slot_list_append PySem.F.type_list_append mt_append (pv 1) (pa_cons (pe_tup (pa_cons (pe_callB call_len_str (by rfl) b.len PySem.boot_len (pa_cons (pv 0) pa_nil)) (pa_cons pe_str pa_nil))) pa_nil)))
    (pss_one (ps_ret (pv 1))))))), ?_⟩
    have zl : z.length ≤ sizeLine := Nat.le_trans z1 (by decide)
    have lts := spell_few sp
    rw [Array.length_toList] at lts
    have lts' : ts.length ≤ z.length := lts
    refine ⟨by show 0 ≤ sizeLine; decide, fun L hL => ?_⟩
    dsimp only [gName, tSeq]
    refine while_by (fun σ H' => ∃ (x : Option V) (m : Nat) (us : List V) (done rest : List Str), σ = [some (.str z), some (.ref L), some (.int (m : Nat)), x] ∧ Same H H' ∧ m ≤ z.length ∧ H' L = some (.lst us) ∧ Each (TokAt H') us done ∧ done ++ rest = ts ∧ Spell (z.cps.toList.drop m) rest)
      (fun σ _ => match σ with | [_, _, some (.int m), _] => z.length - m.toNat | _ => 0) ⟨none, 0, [], [], ts, rfl, same_new hL, Nat.zero_le _, upd_same, .nil, rfl, sp⟩ ?_ ?_
    · rintro σ H1 ⟨x, m, us, done, rest, rfl, s1, lm, h1, eu, ed, sm⟩
      have ldone : done.length ≤ 900 := by
        have := congrArg List.length ed
        rw [List.length_append] at this
        omega
      refine ⟨_, rfl, _, rfl, z, rfl, zl, _, _, rfl, rfl, _, rfl, ?_⟩
      by_cases q : m < z.length
      · rw [decide_eq_true (show ((m : Nat) : Int) < ((z.length : Nat) : Int) by omega)]
        obtain ⟨c, gc, dc⟩ := text_at q
        refine iteT ⟨_, rfl, _, rfl, z, m, rfl, z1, q, fun H2 s2 => ?_⟩
        have h2 := s2 _ _ h1
        have eu2 : Each (TokAt H2) us done := eu.mono fun _ _ y => y.moved (same_tups s2)
        have s12 := s1.trans s2
        refine ⟨_, rfl, _, rfl, _, _, c, rfl, rfl, zl, atI_nat gc, rfl, _, rfl, ?_⟩
        rw [dc] at sm
        generalize ecs : z.cps.toList.drop (m + 1) = cs at dc sm
        have dl : (c :: cs).length = z.length - m := by
          rw [← dc, List.length_drop, Array.length_toList]
          rfl
        generalize eall : c :: cs = all at sm
        cases sm with
        | nil => cases eall
        | @blank cs' ts' sm' =>
          cases eall
          have e1 : partLen (z.cps.toList.drop m) = 1 := by rw [dc]; exact blank_len _
          rw [show decide (V.str (⟨#[32]⟩ : Str) = V.str " ") = true by decide +kernel, e1]
          refine iteF ⟨_, rfl, ⟨_, m + 1, us, done, rest, rfl, s12, q, h2, eu2, ed, ?_⟩, ?_⟩
          · rw [ecs]
            exact sm'
          · show z.length - ((m + 1 : Nat) : Int).toNat < z.length - ((m : Nat) : Int).toNat
            omega
        | @tok w cs' ts' tk sm' =>
          have e1 : partLen (z.cps.toList.drop m) = w.length := by rw [dc, eall]; exact tk.len
          obtain ⟨c', r, ew, nc⟩ := tk.first
          have ec : c = c' := by
            rw [ew] at eall
            cases eall
            rfl
          rw [decide_eq_false (fun e => by
            injection e with e
            rw [show (" " : Str) = ⟨#[32]⟩ by decide +kernel] at e
            have e' : (#[c] : Array Nat) = #[32] := congrArg PySem.Str.cps e
            have e2 : [c] = [32] := congrArg Array.toList e'
            injection e2 with e2
            exact nc (by rw [← ec]; exact e2)), e1]
          refine iteT ?_
          have lw : m + w.length ≤ z.length := by
            have : (c :: cs).length = w.length + cs'.length := by rw [eall, List.length_append]
            omega
          have ecut : cutS z (some ((m : Nat) : Int)) (some ((m + w.length : Nat) : Int)) = ⟨w.toArray⟩ := by
            rw [cut_mid z (Nat.le_add_right _ _) lw, Nat.add_sub_cancel_left, dc, eall, List.take_left' rfl]
          refine ⟨_, rfl, .inl ⟨rfl, _, SqL.of h2⟩, ?_⟩
          refine ⟨_, rfl, _, rfl, _, rfl, _, rfl, _, rfl, _, rfl, z, rfl, zl, by show 2 ≤ sizeLine; decide, fun T hT => ?_⟩
          rw [ecut]
          have sT := same_new (o := HO.tup [.int (m : Nat), .str ⟨w.toArray⟩]) hT
          have h3 := sT _ _ h2
          have t4 := tups_lst (ys := us ++ [.ref T]) h3
          refine ⟨L, _, _, rfl, rfl, h3, lt_line (by rw [eu.len]; omega), ?_⟩
          refine ⟨_, rfl, ⟨_, m + w.length, us ++ [.ref T], done ++ [⟨w.toArray⟩], ts', rfl, same_put (s12.trans sT) hL, lw, upd_same, ?_, by rw [List.append_assoc]; exact ed, ?_⟩, ?_⟩
          · exact (eu2.mono fun _ _ y => y.moved ((same_tups sT).trans t4)).snoc ⟨T, _, rfl, t4 _ _ upd_same⟩
          · rw [← List.drop_drop, dc, eall, List.drop_left' rfl]
            exact sm'
          · have := List.length_pos_iff.mpr tk.ne
            show z.length - ((m + w.length : Nat) : Int).toNat < z.length - ((m : Nat) : Int).toNat
            omega
      · rw [decide_eq_false (show ¬ ((m : Nat) : Int) < ((z.length : Nat) : Int) by omega)]
        refine iteF ?_
        have em : rest = [] := by
          rw [List.drop_of_length_le (by rw [Array.length_toList]; exact Nat.le_of_not_lt q)] at sm
          generalize e0 : ([] : List Nat) = xs at sm
          cases sm with
          | nil => rfl
          | blank _ => cases e0
          | tok tk _ => exact absurd (List.append_eq_nil_iff.mp e0.symm).1 tk.ne
        rw [em, List.append_nil] at ed
        subst ed
        refine ⟨_, rfl, .inl ⟨rfl, _, SqL.of h1⟩, ?_⟩
        refine ⟨_, rfl, z, rfl, zl, by show 2 ≤ sizeLine; decide, fun T hT => ?_⟩
        have sT := same_new (o := HO.tup [.int (z.length : Nat), .str ""]) hT
        have h3 := sT _ _ h1
        have t4 := tups_lst (ys := us ++ [.ref T]) h3
        refine ⟨L, _, _, rfl, rfl, h3, lt_line (by rw [eu.len]; omega), ?_⟩
        refine ⟨_, rfl, k L _ _ hL (same_put (s1.trans sT) hL) upd_same ?_⟩
        exact (eu.mono fun _ _ y => y.moved ((same_tups sT).trans t4)).snoc ⟨T, _, rfl, t4 _ _ upd_same⟩
    · intro σ H Q Q' im h
      obtain ⟨v, e, v2, e2, z', e3, l', i', j', e4, e5, kk', e6, rest⟩ := h
      exact ⟨v, e, v2, e2, z', e3, l', i', j', e4, e5, kk', e6, im _ _ rest⟩
end
end VQ
namespace VQ
open PySem L2 LamX
/-! ### the parts of a text, read one by one -/
abbrev cParts : Stmt := top 27
abbrev sPartsInit : Stmt := inClass cParts 0
abbrev sPartsThis : Stmt := inClass cParts 1
abbrev sPartsBehind : Stmt := inClass cParts 2
abbrev sPartsNeed : Stmt := inClass cParts 3
abbrev sPartsRead : Stmt := inClass cParts 4
abbrev sPartsReadSign : Stmt := inClass cParts 5
theorem scPartsInit : FnScope ["self", "text"] ["self", "text"] (defScope sPartsInit) := ⟨rfl, rfl, rfl, by decide +kernel, rfl, by decide +kernel, by decide +kernel⟩
theorem scPartsThis : FnScope ["self"] ["self"] (defScope sPartsThis) := ⟨rfl, rfl, rfl, by decide +kernel, rfl, by decide +kernel, by decide +kernel⟩
theorem scPartsBehind : FnScope ["self"] ["self"] (defScope sPartsBehind) := ⟨rfl, rfl, rfl, by decide +kernel, rfl, by decide +kernel, by decide +kernel⟩
theorem scPartsNeed : FnScope ["self", "fits"] ["self", "fits"] (defScope sPartsNeed) := ⟨rfl, rfl, rfl, by decide +kernel, rfl, by decide +kernel, by decide +kernel⟩
theorem scPartsRead : FnScope ["self", "fits", "part"] ["self", "fits"] (defScope sPartsRead) := ⟨rfl, rfl, rfl, by decide +kernel, rfl, by decide +kernel, by decide +kernel⟩
theorem scPartsReadSign : FnScope ["self", "sign"] ["self", "sign"] (defScope sPartsReadSign) := ⟨rfl, rfl, rfl, by decide +kernel, rfl, by decide +kernel, by decide +kernel⟩
theorem putF_few (f : Str) (v : V) : ∀ fs : List (Str × V), (putF f v fs).length ≤ fs.length + 1
  | [] => Nat.le_refl _
  | (g, x) :: r => by
    show (if g = f then (g, v) :: r else (g, x) :: putF f v r).length ≤ _
    split
    · exact Nat.le_succ _
    · exact Nat.succ_le_succ (putF_few f v r)
def pf (l : Addr) (k : Int) : List (Str × V) := putF "passed" (.int k) (putF "found" (.ref l) [])
theorem pf_found (l : Addr) (k : Int) : (pf l k).lookup ("found" : Str) = some (.ref l) := by
  unfold pf
  rw [lookup_putF, if_neg (by decide +kernel), lookup_putF, if_pos rfl]
theorem pf_passed (l : Addr) (k : Int) : (pf l k).lookup ("passed" : Str) = some (.int k) := by
  unfold pf
  rw [lookup_putF, if_pos rfl]
theorem pf_no (l : Addr) (k : Int) {m : Str} (h1 : ¬ m = "passed") (h2 : ¬ m = "found") : (pf l k).lookup m = none := by
  unfold pf
  rw [lookup_putF, if_neg h1, lookup_putF, if_neg h2]
  rfl
theorem pf_put (l : Addr) (k j : Int) : putF "passed" (.int j) (pf l k) = pf l j := by
  unfold pf
  have e : ∀ v : V, putF ("passed" : Str) v (putF "found" (.ref l) []) = [(("found" : Str), V.ref l), (("passed" : Str), v)] := by
    intro v
    show (if ("found" : Str) = "passed" then _ else _) = _
    rw [if_neg (by decide +kernel)]
    rfl
  rw [e, e]
  show (if ("found" : Str) = "passed" then _ else (("found" : Str), V.ref l) :: (if ("passed" : Str) = "passed" then _ else _)) = _
  rw [if_neg (by decide +kernel), if_pos rfl]
structure PId where
  x : Addr
  dx : Addr
  l : Addr
/-- parts that are read, so many of them passed -/
structure PAt (C : Addr) (H : Hp) (p : PId) (ts : List Str) (k : Nat) : Prop where
  ob : H p.x = some (.ins C p.dx (pf p.l k))
  li : ∃ us, H p.l = some (.lst us) ∧ Each (TokAt H) us ts
  lt : k < ts.length
theorem PAt.same {C : Addr} {H H' : Hp} {p : PId} {ts : List Str} {k : Nat} (h : PAt C H p ts k) (s : Same H H') : PAt C H' p ts k := by
  obtain ⟨us, h1, h2⟩ := h.li
  exact ⟨s _ _ h.ob, ⟨us, s _ _ h1, h2.mono fun _ _ z => z.moved (same_tups s)⟩, h.lt⟩
theorem PAt.upd {C : Addr} {H : Hp} {p : PId} {ts : List Str} {k : Nat} {a : Addr} {xs ys : List V} (h : PAt C H p ts k) (ha : H a = some (.lst xs)) (al : a ≠ p.l) : PAt C (upd H a (.lst ys)) p ts k := by
  obtain ⟨us, h1, h2⟩ := h.li
  refine ⟨?_, ⟨us, ?_, h2.mono fun _ _ z => z.moved (tups_lst ha)⟩, h.lt⟩
  · rw [upd_ne (fun e => by rw [← e, h.ob] at ha; cases ha)]
    exact h.ob
  · rw [upd_ne al.symm]
    exact h1
theorem PAt.at_ {C : Addr} {H : Hp} {p : PId} {ts : List Str} {k j : Nat} (h : PAt C H p ts k) (lt : j < ts.length) : ∃ us a n, H p.l = some (.lst us) ∧ us[j]? = some (.ref a) ∧ H a = some (.tup [.int n, .str (ts.getD j "")]) := by
  obtain ⟨us, h1, h2⟩ := h.li
  obtain ⟨v, e, a, n, rfl, ha⟩ := h2.at_ (List.getElem?_eq_getElem lt)
  refine ⟨us, a, n, h1, e, ?_⟩
  rw [List.getD_eq_getElem?_getD, List.getElem?_eq_getElem lt]
  exact ha
/-- what the methods ask of the class -/
structure PCls (K : PySem.W.Frag) (C : Addr) : Prop where
  cl : Cls K C
  nF : NoAttr K C "found"
  nP : NoAttr K C "passed"
/-- a method that stands and keeps a promise -/
def HasM (P : Program) (w : World) (K : PySem.W.Frag) (mg : Str → Option Value) (base : Heap) (k : Nat) (C : Addr) (m : Str) (ps : List Str) (sp : Sp) : Prop := ∃ f fd, Meth K C m f ∧ Binds K fd ps [] ∧ FnOk P w K mg base CX0 k f fd ps sp
section
variable {P : Program} {w : World} {K : PySem.W.Frag} {mg : Str → Option Value} {base : Heap} {C : Addr}
def spThis (C : Addr) : Sp := fun vs H Q _ => ∃ (p : PId) (ts : List Str) (k : Nat), vs = [.ref p.x] ∧ PAt C H p ts k ∧ Q (.str (ts.getD k "")) H
theorem ok_this {f : Addr} {fd : FuncData} (F : Fun K "this" "Parts.this" sPartsThis f fd) (T : PCls K C) : FnOk P w K mg base CX0 1 f fd ["self"] (spThis C) := by
  refine F.ok scPartsThis (fun vs H Q E h => ?_) (fun cdv A outer s H vs Q E hr h => ?_)
  · obtain ⟨p, ts, k, rfl, _⟩ := h
    rfl
  · obtain ⟨p, ts, k, rfl, pa, q⟩ := h
    obtain ⟨us, a, n, h1, e, ha⟩ := pa.at_ pa.lt
    refine ⟨_, (pss_one (ps_ret (pe_ix ix_tup (pe_ix ix_list (pe_fld (pv 0) rfl) (pe_fld (pv 0) rfl) fun _ _ => rfl) pe_int fun _ _ => rfl))), ?_⟩
    refine ⟨_, rfl, p.x, C, p.dx, _, _, rfl, pa.ob, T.cl, T.nF, pf_found _ _, ?_⟩
    refine ⟨_, rfl, p.x, C, p.dx, _, _, rfl, pa.ob, T.cl, T.nP, pf_passed _ _, ?_⟩
    exact ⟨p.l, _, _, _, rfl, rfl, SqL.of h1, atI_nat e, a, _, _, _, rfl, rfl, SqT.of ha, atI_nat (j := 1) rfl, q⟩
def spBehind (C : Addr) : Sp := fun vs H Q _ => ∃ (p : PId) (ts : List Str) (k : Nat), vs = [.ref p.x] ∧ PAt C H p ts k ∧ (ts.getD k "" ≠ "" → k + 1 < ts.length) ∧ Q (.str (if ts.getD k "" = "" then "" else ts.getD (k + 1) "")) H
theorem ok_behind {f fTh : Addr} {fd fdTh : FuncData} (F : Fun K "behind" "Parts.behind" sPartsBehind f fd) (T : PCls K C) (mTh : Meth K C "this" fTh) (bTh : Binds K fdTh ["self"] []) (GTh : FnOk P w K mg base CX0 1 fTh fdTh ["self"] (spThis C)) : FnOk P w K mg base CX0 2 f fd ["self"] (spBehind C) := by
  refine F.ok scPartsBehind (fun vs H Q E h => ?_) (fun cdv A outer s H vs Q E hr1 h => ?_)
  · obtain ⟨p, ts, k, rfl, _⟩ := h
    rfl
  · obtain ⟨p, ts, k, rfl, pa, more, q⟩ := h
    refine ⟨_, (pss_one (ps_ret (pe_ifExp (pt_cmpR op_eq (pe_meth0 (pv 0) T.cl mTh GTh hr1 bTh .nil pass0) pe_str (nomark _)) pe_str (pe_ix ix_tup (pe_ix ix_list (pe_fld (pv 0) rfl) (pe_op op_add (pe_fld (pv 0) rfl) pe_int) fun _ _ => rfl) pe_int fun _ _ => rfl)))), ?_⟩
    refine ⟨_, rfl, p.x, p.dx, _, rfl, pa.ob, pf_no _ _ (by decide +kernel) (by decide +kernel), p, ts, k, rfl, pa, rfl, _, rfl, ?_⟩
    by_cases e : ts.getD k "" = ""
    · rw [decide_eq_true (by rw [e])]
      rw [if_pos e] at q
      exact iteT q
    · rw [decide_eq_false (fun z => e (by injection z))]
      rw [if_neg e] at q
      obtain ⟨us, a, n, h1, e1, ha⟩ := pa.at_ (more e)
      refine iteF ⟨_, rfl, p.x, C, p.dx, _, _, rfl, pa.ob, T.cl, T.nF, pf_found _ _, ?_⟩
      refine ⟨_, rfl, p.x, C, p.dx, _, _, rfl, pa.ob, T.cl, T.nP, pf_passed _ _, _, _, rfl, rfl, ?_⟩
      exact ⟨p.l, _, _, _, rfl, rfl, SqL.of h1, atI_nat (j := k + 1) e1, a, _, _, _, rfl, rfl, SqT.of ha, atI_nat (j := 1) rfl, q⟩
def spNeed : Sp := fun vs H Q _ => ∃ (x : V), vs = [x, .bl true] ∧ Q .non H
theorem ok_need {f : Addr} {fd : FuncData} (F : Fun K "need" "Parts.need" sPartsNeed f fd) : FnOk P w K mg base CX0 1 f fd ["self", "fits"] spNeed := by
  refine F.ok scPartsNeed (fun vs H Q E h => ?_) (fun cdv A outer s H vs Q E hr h => ?_)
  · obtain ⟨x, rfl, _⟩ := h
    rfl
  · obtain ⟨x, rfl, q⟩ := h
    refine ⟨_, (pss_one (ps_if (pt_not (pt_val (pv 1))) (pss_one ps_never) pss_nil)), ?_⟩
    exact ⟨_, rfl, _, rfl, iteF q⟩
def spRead (C : Addr) : Sp := fun vs H Q _ => ∃ (p : PId) (ts : List Str) (k : Nat), vs = [.ref p.x, .bl true] ∧ PAt C H p ts k ∧ k + 1 < ts.length ∧ ∀ H', Off p.x H H' → PAt C H' p ts (k + 1) → Q (.str (ts.getD k "")) H'
theorem ok_read {f fTh fNe : Addr} {fd fdTh fdNe : FuncData} (F : Fun K "read" "Parts.read" sPartsRead f fd) (T : PCls K C) (mTh : Meth K C "this" fTh) (bTh : Binds K fdTh ["self"] []) (GTh : FnOk P w K mg base CX0 1 fTh fdTh ["self"] (spThis C))
    (mNe : Meth K C "need" fNe) (bNe : Binds K fdNe ["self", "fits"] []) (GNe : FnOk P w K mg base CX0 1 fNe fdNe ["self", "fits"] spNeed) : FnOk P w K mg base CX0 2 f fd ["self", "fits"] (spRead C) := by
  refine F.ok scPartsRead (fun vs H Q E h => ?_) (fun cdv A outer s H vs Q E hr1 h => ?_)
  · obtain ⟨p, ts, k, rfl, _⟩ := h
    rfl
  · obtain ⟨p, ts, k, rfl, pa, more, q⟩ := h
    refine ⟨_, (pss_cons (ps_expr (pe_meth (pv 0) T.cl mNe GNe hr1 bNe .nil pass0 (pa_cons (pv 1) pa_nil)))
      (pss_cons (ps_set (i := 2) scPartsRead.nd rfl (.inl rfl) (pe_meth0 (pv 0) T.cl mTh GTh hr1 bTh .nil pass0))
      (pss_cons (ps_fldaug (pv 0) pe_int in_add) (pss_one (ps_ret (pv 2)))))), ?_⟩
    refine ⟨_, rfl, p.x, p.dx, _, rfl, pa.ob, pf_no _ _ (by decide +kernel) (by decide +kernel), _, rfl, _, rfl, ?_⟩
    refine ⟨_, rfl, p.x, p.dx, _, rfl, pa.ob, pf_no _ _ (by decide +kernel) (by decide +kernel), p, ts, k, rfl, pa, ?_⟩
    refine ⟨_, rfl, p.x, C, p.dx, _, _, rfl, pa.ob, T.cl, T.nP, pf_passed _ _, _, _, rfl, rfl, _, _, pa.ob, Nat.lt_of_le_of_lt (Nat.le_trans (putF_few _ _ _) (Nat.succ_le_succ (putF_few _ _ _))) (by decide), ?_⟩
    rw [pf_put]
    refine ⟨_, rfl, q _ Off.upd ?_⟩
    obtain ⟨us, h1, h2⟩ := pa.li
    have tt : Tups H (upd H p.x (.ins C p.dx (pf p.l ((k : Nat) + 1)))) := fun a xs ha => by
      rw [upd_ne (fun e => by rw [e, pa.ob] at ha; cases ha)]
      exact ha
    refine ⟨upd_same, ⟨us, ?_, h2.mono fun _ _ z => z.moved tt⟩, more⟩
    rw [upd_ne (fun e => by rw [e, pa.ob] at h1; cases h1)]
    exact h1
def spReadSign (C : Addr) : Sp := fun vs H Q _ => ∃ (p : PId) (ts : List Str) (k : Nat), vs = [.ref p.x, .str (ts.getD k "")] ∧ PAt C H p ts k ∧ k + 1 < ts.length ∧ ∀ H', Off p.x H H' → PAt C H' p ts (k + 1) → Q (.str (ts.getD k "")) H'
theorem ok_readsign {f fTh fRd : Addr} {fd fdTh fdRd : FuncData} (F : Fun K "read_sign" "Parts.read_sign" sPartsReadSign f fd) (T : PCls K C) (mTh : Meth K C "this" fTh) (bTh : Binds K fdTh ["self"] []) (GTh : FnOk P w K mg base CX0 1 fTh fdTh ["self"] (spThis C))
    (mRd : Meth K C "read" fRd) (bRd : Binds K fdRd ["self", "fits"] []) (GRd : FnOk P w K mg base CX0 2 fRd fdRd ["self", "fits"] (spRead C)) : FnOk P w K mg base CX0 3 f fd ["self", "sign"] (spReadSign C) := by
  refine F.ok scPartsReadSign (fun vs H Q E h => ?_) (fun cdv A outer s H vs Q E hr2 h => ?_)
  · obtain ⟨p, ts, k, rfl, _⟩ := h
    rfl
  · obtain ⟨p, ts, k, rfl, pa, more, q⟩ := h
    have hr1 : Room 1 _ := hr2.mono (by decide)
    refine ⟨_, (pss_one (ps_ret (pe_meth (pv 0) T.cl mRd GRd hr2 bRd .nil pass0 (pa_cons (pe_cmpR op_eq (pe_meth0 (pv 0) T.cl mTh GTh hr1 bTh .nil pass0) (pv 1) (nomark _)) pa_nil)))), ?_⟩
    refine ⟨_, rfl, p.x, p.dx, _, rfl, pa.ob, pf_no _ _ (by decide +kernel) (by decide +kernel), ?_⟩
    refine ⟨_, rfl, p.x, p.dx, _, rfl, pa.ob, pf_no _ _ (by decide +kernel) (by decide +kernel), p, ts, k, rfl, pa, _, rfl, rfl, ?_⟩
    rw [decide_eq_true rfl]
    exact ⟨p, ts, k, rfl, pa, more, q⟩
/-- the methods, put together -/
structure PMeth (P : Program) (w : World) (K : PySem.W.Frag) (mg : Str → Option Value) (base : Heap) (C : Addr) : Prop where
  T : PCls K C
  th : HasM P w K mg base 1 C "this" ["self"] (spThis C)
  be : HasM P w K mg base 2 C "behind" ["self"] (spBehind C)
  ne : HasM P w K mg base 1 C "need" ["self", "fits"] spNeed
  rd : HasM P w K mg base 2 C "read" ["self", "fits"] (spRead C)
  rg : HasM P w K mg base 3 C "read_sign" ["self", "sign"] (spReadSign C)
def spPInit (C : Addr) : Sp := fun vs H Q _ => ∃ (x dx : Addr) (z : Str) (ts : List Str), vs = [.ref x, .str z] ∧ H x = some (.ins C dx []) ∧ z.length ≤ 900 ∧ Spell z.cps.toList ts ∧ ∀ (l : Addr) (H' : Hp), Off x H H' → H l = none → PAt C H' ⟨x, dx, l⟩ (ts ++ [("" : Str)]) 0 → Q .non H'
theorem ok_pinit {f : Addr} {fd : FuncData} (F : Fun K "__init__" "Parts.__init__" sPartsInit f fd) (T : PCls K C) (hP : Has P w K mg base CX0 2 "parts_of" sPartsOf ["text"] spPartsOf) : FnOk P w K mg base CX0 3 f fd ["self", "text"] (spPInit C) := by
  obtain ⟨fPf, fdPf, aPf, GPf⟩ := hP
  refine F.ok scPartsInit (fun vs H Q E h => ?_) (fun cdv A outer s H vs Q E hr2 h => ?_)
  · obtain ⟨x, dx, z, ts, rfl, _⟩ := h
    rfl
  · obtain ⟨x, dx, z, ts, rfl, hx, z9, sp, k⟩ := h
    refine ⟨_, (pss_cons (ps_fld (pv 0) (pe_call GPf hr2 rfl aPf.gl aPf.fn.kp aPf.bd .nil pass0 (pa_cons (pv 1) pa_nil)) rfl) (pss_one (ps_fld (pv 0) pe_int rfl))), ?_⟩
    refine ⟨_, rfl, z, ts, rfl, z9, sp, fun l us H1 nl s1 hl eu => ?_⟩
    have hx1 := s1 _ _ hx
    refine ⟨_, rfl, x, C, dx, [], rfl, hx1, T.cl, T.nF, by decide, ?_⟩
    refine ⟨_, rfl, x, C, dx, _, rfl, upd_same, T.cl, T.nP, Nat.lt_of_le_of_lt (putF_few _ _ _) (by decide), ?_⟩
    have xl : l ≠ x := (ne_of_none hx nl).symm
    have tt : Tups H1 (upd (upd H1 x (.ins C dx (putF "found" (.ref l) []))) x (.ins C dx (putF "passed" (.int 0) (putF "found" (.ref l) [])))) := fun a xs ha => by
      have ne : a ≠ x := fun e => by
        rw [e, hx1] at ha
        cases ha
      rw [upd_ne ne, upd_ne ne]
      exact ha
    refine k l _ (fun a o ne ha => ?_) nl ⟨upd_same, ⟨us, ?_, eu.mono fun _ _ y => y.moved tt⟩, by rw [List.length_append]; exact Nat.succ_pos _⟩
    · rw [upd_ne ne, upd_ne ne]
      exact s1 _ _ ha
    · rw [upd_ne xl, upd_ne xl]
      exact hl
end
end VQ
namespace VQ
open PySem L2 LamX
/-! ### questions read, where the text is a question's -/
theorem Off.trans {D : Addr} {H H1 H2 : Hp} (a : Off D H H1) (b : Off D H1 H2) : Off D H H2 := fun p o n h => b p o n (a p o n h)
theorem Off.free {D p : Addr} {H H' : Hp} (a : Off D H H') (n : p ≠ D) (h : H' p = none) : H p = none := by
  cases e : H p with
  | none => rfl
  | some o =>
    rw [a p o n e] at h
    cases h
theorem off_put {D a : Addr} {H H' : Hp} {o : HO} (k : Off D H H') (n : H a = none) : Off D H (upd H' a o) := fun p u ne h => by
  rw [upd_ne (fun e => by rw [e, n] at h; cases h)]
  exact k p u ne h
abbrev rStrI : List V → Hp → VK → Prop := fun xs H Q => ∃ i, xs = [.int i] ∧ i.natAbs.log2 < 1920 ∧ Q (.str (toString i)) H
def numS (n : Nat) : Str := toString (n : Int)
def tokT : Term → Str
  | .wo n => numS n
  | .nm z => z
theorem nums_dig : ∀ n, n < 32 → (numS n).length ≤ 2 ∧ (numS n).cps.toList ≠ [] ∧ (∀ c ∈ (numS n).cps.toList, digB c = true) ∧ PySem.intText? (numS n) = some (n : Int) := by decide +kernel
theorem NameS.ne {m : Nat} {z : Str} (h : NameS m z) : z.cps.toList ≠ [] := fun e => by
  have l := h.lo
  have e2 : z.length = 0 := by
    show z.cps.size = 0
    rw [← Array.length_toList, e]
    rfl
  omega
theorem num_no_name {m n : Nat} {z : Str} (h : NameS m z) (ln : n < 32) : numS n ≠ z := fun e => by
  obtain ⟨_, ne, all, _⟩ := nums_dig n ln
  cases q : (numS n).cps.toList with
  | nil => exact ne q
  | cons c cs =>
    have d := all c (by rw [q]; exact List.mem_cons_self)
    have l := h.lt c (by rw [← e, q]; exact List.mem_cons_self)
    rw [dig_let c d] at l
    cases l
theorem drop_at {ts : List Str} {k : Nat} {w : Str} {r : List Str} (h : ts.drop k = w :: r) : ts.getD k "" = w ∧ k < ts.length ∧ ts.drop (k + 1) = r := by
  have lt : k < ts.length := by
    apply Nat.lt_of_not_le
    intro q
    rw [List.drop_of_length_le q] at h
    cases h
  rw [List.drop_eq_getElem_cons lt] at h
  injection h with h1 h2
  refine ⟨?_, lt, h2⟩
  rw [List.getD_eq_getElem?_getD, List.getElem?_eq_getElem lt, ← h1]
  rfl
theorem drop_more {ts : List Str} {k : Nat} {w v : Str} {r : List Str} (h : ts.drop k = w :: v :: r) : k + 1 < ts.length := (drop_at (drop_at h).2.2).2.1
abbrev sIsWord : Stmt := top 28
abbrev nIsWord : List Str := ["part"]
theorem scIsWord : FnScope nIsWord ["part"] (defScope sIsWord) := ⟨rfl, rfl, rfl, by decide +kernel, rfl, by decide +kernel, by decide +kernel⟩
abbrev sReadName : Stmt := top 29
abbrev nReadName : List Str := ["parts", "names", "fits"]
theorem scReadName : FnScope nReadName ["parts", "names"] (defScope sReadName) := ⟨rfl, rfl, rfl, by decide +kernel, rfl, by decide +kernel, by decide +kernel⟩
abbrev sReadNames : Stmt := top 30
abbrev nReadNames : List Str := ["parts", "names"]
theorem scReadNames : FnScope nReadNames ["parts", "names"] (defScope sReadNames) := ⟨rfl, rfl, rfl, by decide +kernel, rfl, by decide +kernel, by decide +kernel⟩
abbrev sReadTerm : Stmt := top 31
abbrev nReadTerm : List Str := ["parts", "names", "worth"]
theorem scReadTerm : FnScope nReadTerm ["parts", "names"] (defScope sReadTerm) := ⟨rfl, rfl, rfl, by decide +kernel, rfl, by decide +kernel, by decide +kernel⟩
abbrev sReadTie : Stmt := top 32
abbrev nReadTie : List Str := ["parts", "names", "table", "terms"]
theorem scReadTie : FnScope nReadTie ["parts", "names"] (defScope sReadTie) := ⟨rfl, rfl, rfl, by decide +kernel, rfl, by decide +kernel, by decide +kernel⟩
abbrev sReadPair : Stmt := top 33
abbrev nReadPair : List Str := ["parts", "names", "first", "second"]
theorem scReadPair : FnScope nReadPair ["parts", "names"] (defScope sReadPair) := ⟨rfl, rfl, rfl, by decide +kernel, rfl, by decide +kernel, by decide +kernel⟩
section
variable {P : Program} {w : World} {K : PySem.W.Frag} {mg : Str → Option Value} {base : Heap} {C aB : Addr}
def wordB (z : Str) : Bool := match z.cps.toList with
  | [] => false
  | c :: _ => letB c
def spIsWord : Sp := fun vs H Q _ => ∃ z : Str, vs = [.str z] ∧ z.length ≤ 900 ∧ Q (.bl (wordB z)) H
theorem has_isword (Le : ∃ t, mg "LETTERS" = some (.str letters t)) (a : AtE K mg "is_word" sIsWord ["part"]) : Has P w K mg base CX0 1 "is_word" sIsWord ["part"] spIsWord := by
  obtain ⟨f, fd, a⟩ := a
  obtain ⟨tle, Wle⟩ := Le
  refine ⟨f, fd, a, a.fn.ok scIsWord (fun vs H Q E h => ?_) (fun cdv A outer s H vs Q E hr h => ?_)⟩
  · obtain ⟨z, rfl, _⟩ := h
    rfl
  · obtain ⟨z, rfl, z9, q⟩ := h
    refine ⟨_, (pss_one (ps_ret (pe_and (pe_cmpR op_ne (pv 0) pe_str (nomark _)) (pe_one (pe_cmpR op_in_sign (pe_ix ix_str (pv 0) pe_int fun _ _ => rfl) (pe_glob (v := .str letters) rfl Wle ⟨_, rfl⟩) rfl))))), ?_⟩
    refine ⟨_, rfl, rfl, _, rfl, ?_⟩
    unfold wordB at q
    cases e : z.cps.toList with
    | nil =>
      have ez : z = "" := by
        obtain ⟨a⟩ := z
        have e' : a.toList = [] := e
        show (⟨a⟩ : Str) = ⟨#[]⟩
        rw [← Array.toArray_toList (xs := a), e']
      rw [decide_eq_true (by rw [ez])]
      rw [e] at q
      exact iteF q
    | cons c cs =>
      rw [e] at q
      rw [decide_eq_false (fun y => by
        injection y with y
        rw [y] at e
        cases e)]
      exact iteT ⟨_, rfl, _, _, c, rfl, rfl, Nat.le_trans z9 (by decide), atI_nat (j := 0) (by rw [e]; rfl), c, letters, rfl, rfl, q⟩
def spReadName (C : Addr) : Sp := fun vs H Q _ => ∃ (p : PId) (ts : List Str) (k : Nat) (n : Addr) (zs : List Str) (x y : Str) (r : List Str), vs = [.ref p.x, .ref n] ∧ PAt C H p ts k ∧ H n = some (.lst (zs.map V.str)) ∧ ts.drop k = x :: y :: r ∧ NameS 4 x ∧ x ∉ zs ∧ zs.length < 5 ∧
  ∀ (q : Addr) (H' : Hp), Off p.x H H' → H q = none → H' q = some (.lst ((zs ++ [x]).map V.str)) → PAt C H' p ts (k + 1) → Q (.ref q) H'
theorem has_readname (b : Blt mg) (W : Wq K mg aB) (M : PMeth P w K mg base C) (hNm : Has P w K mg base CX0 1 "is_name" sIsName ["thing", "most"] spIsName) (a : AtE K mg "read_name" sReadName ["parts", "names"]) : Has P w K mg base CX0 4 "read_name" sReadName ["parts", "names"] (spReadName C) := by
  obtain ⟨f, fd, a⟩ := a
  obtain ⟨T, ⟨fTh, fdTh, mTh, bTh, GTh⟩, _, _, ⟨fRd, fdRd, mRd, bRd, GRd⟩, _⟩ := M
  obtain ⟨fNm, fdNm, aNm, GNm⟩ := hNm
  obtain ⟨tmn, Wmn⟩ := W.mn
  obtain ⟨tmp, Wmp⟩ := W.mp
  refine ⟨f, fd, a, a.fn.ok scReadName (fun vs H Q E h => ?_) (fun cdv A outer s H vs Q E hr3 h => ?_)⟩
  · obtain ⟨p, ts, k, n, zs, x, y, r, rfl, _⟩ := h
    rfl
  · obtain ⟨p, ts, k, n, zs, x, y, r, rfl, pa, hn, ed, nx, nin, z5, q⟩ := h
    have hr1 : Room 1 _ := hr3.mono (by decide)
    have hr2 : Room 2 _ := hr3.mono (by decide)
    obtain ⟨ex, lk, _⟩ := drop_at ed
    have no : ∀ {l : Addr} {j : Int}, (pf l j).lookup ("this" : Str) = none := pf_no _ _ (by decide +kernel) (by decide +kernel)
    have no2 : ∀ {l : Addr} {j : Int}, (pf l j).lookup ("read" : Str) = none := pf_no _ _ (by decide +kernel) (by decide +kernel)
    refine ⟨_,
    (pss_cons (ps_set (i := 2) scReadName.nd rfl (.inl rfl) (pe_and (pe_call GNm hr1 rfl aNm.gl aNm.fn.kp aNm.bd .nil pass0 (pa_cons (pe_meth0 (pv 0) T.cl mTh GTh hr1 bTh .nil pass0) (pa_cons (pe_glob (v := .int 4) rfl Wmn ⟨_, rfl⟩) pa_nil))) (pe_and (pe_cmpR op_notIn_seq (pe_meth0 (pv 0) T.cl mTh GTh hr1 bTh .nil pass0) (pv 1) rfl) (pe_one (pe_cmpR op_lt (pe_callB call_len_seq (by rfl) b.len PySem.boot_len (pa_cons (pv 1) pa_nil)) (pe_glob (v := .int 5) rfl Wmp ⟨_, rfl⟩) (nomark _))))))
    (pss_one (ps_ret (pe_lst (StX.pa_star (pv 1) (pa_cons (pe_meth (pv 0) T.cl mRd GRd hr2 bRd .nil pass0 (pa_cons (pv 2) pa_nil)) pa_nil)))))), ?_⟩
    refine ⟨_, rfl, p.x, p.dx, _, rfl, pa.ob, no, p, ts, k, rfl, pa, ?_⟩
    rw [ex]
    refine ⟨x, 4, rfl, nx, by decide, fun H1 s1 => ⟨_, rfl, iteT ?_⟩⟩
    have pa1 := pa.same s1
    have hn1 := s1 _ _ hn
    refine ⟨_, rfl, p.x, p.dx, _, rfl, pa1.ob, no, p, ts, k, rfl, pa1, ?_⟩
    rw [ex]
    refine ⟨_, rfl, n, _, rfl, .inl (SqL.of hn1), rfl, strs_flat _, _, rfl, ?_⟩
    rw [inV_str, decide_eq_false nin]
    refine iteT ⟨_, rfl, n, _, rfl, .inl (SqL.of hn1), _, _, rfl, rfl, ?_⟩
    have l5 : decide ((((zs.map V.str).length : Nat) : Int) < 5) = true := decide_eq_true (by rw [List.length_map]; omega)
    dsimp only
    rw [l5]
    refine ⟨_, rfl, n, _, rfl, .inr (SqL.of hn1), ?_⟩
    refine ⟨_, rfl, p.x, p.dx, _, rfl, pa1.ob, no2, _, rfl, p, ts, k, rfl, pa1, drop_more ed, fun H2 o2 pa2 => ?_⟩
    rw [ex]
    refine ⟨by rw [List.length_append, List.length_map]; exact Nat.le_of_lt (lt_line (by show zs.length + 1 < 1000; omega)), fun D hD => ?_⟩
    have sD := same_new (o := HO.lst (zs.map V.str ++ [.str x])) hD
    have nxD : D ≠ p.x := (ne_of_none pa2.ob hD).symm
    refine q D _ (fun a o ne h => sD _ _ (o2 _ _ ne (s1 _ _ h))) (s1.free (o2.free nxD hD)) ?_ (pa2.same sD)
    rw [List.map_append]
    exact upd_same
def spReadNames (C : Addr) : Sp := fun vs H Q _ => ∃ (p : PId) (ts : List Str) (k : Nat) (n : Addr) (zs ws : List Str) (y : Str) (r : List Str), vs = [.ref p.x, .ref n] ∧ PAt C H p ts k ∧ H n = some (.lst (zs.map V.str)) ∧ ts.drop k = ws ++ y :: r ∧ ws ≠ [] ∧ (∀ x ∈ ws, NameS 4 x) ∧ (zs ++ ws).Nodup ∧ (zs ++ ws).length ≤ 5 ∧ (y = ":" ∨ y = "some") ∧
  ∀ (q : Addr) (H' : Hp), Off p.x H H' → H q = none → H' q = some (.lst ((zs ++ ws).map V.str)) → PAt C H' p ts (k + ws.length) → Q (.ref q) H'
theorem word_name {m : Nat} {z : Str} (h : NameS m z) : wordB z = true := by
  unfold wordB
  cases e : z.cps.toList with
  | nil => exact absurd e h.ne
  | cons c cs => exact h.lt c (by rw [e]; exact List.mem_cons_self)
theorem has_readnames (b : Blt mg) (M : PMeth P w K mg base C) (hIw : Has P w K mg base CX0 1 "is_word" sIsWord ["part"] spIsWord) (hRn : Has P w K mg base CX0 4 "read_name" sReadName ["parts", "names"] (spReadName C)) (a : AtE K mg "read_names" sReadNames ["parts", "names"]) : Has P w K mg base CX0 5 "read_names" sReadNames ["parts", "names"] (spReadNames C) := by
  obtain ⟨f, fd, a⟩ := a
  obtain ⟨T, ⟨fTh, fdTh, mTh, bTh, GTh⟩, _, _, _, _⟩ := M
  obtain ⟨fIw, fdIw, aIw, GIw⟩ := hIw
  obtain ⟨fRn, fdRn, aRn, GRn⟩ := hRn
  refine ⟨f, fd, a, a.fn.ok scReadNames (fun vs H Q E h => ?_) (fun cdv A outer s H vs Q E hr4 h => ?_)⟩
  · obtain ⟨p, ts, k, n, zs, ws, y, r, rfl, _⟩ := h
    rfl
  · obtain ⟨p, ts, k, n, zs, ws, y, r, rfl, pa, hn, ed, ne, nw, nd, z5, ey, q⟩ := h
    have hr1 : Room 1 _ := hr4.mono (by decide)
    have no : ∀ {l : Addr} {j : Int}, (pf l j).lookup ("this" : Str) = none := pf_no _ _ (by decide +kernel) (by decide +kernel)
    refine ⟨_,
    (pss_cons (ps_set (i := 1) scReadNames.nd rfl (.inl rfl) (pe_call GRn hr4 rfl aRn.gl aRn.fn.kp aRn.bd .nil pass0 (pa_cons (pv 0) (pa_cons (pv 1) pa_nil))))
    (pss_cons (ps_while PassesOwn.never (PW.pt (pw_and (pt_val (pe_call GIw hr1 rfl aIw.gl aIw.fn.kp aIw.bd .nil pass0 (pa_cons (pe_meth0 (pv 0) T.cl mTh GTh hr1 bTh .nil pass0) pa_nil))) (pw_and1 (pt_cmpR op_ne (pe_meth0 (pv 0) T.cl mTh GTh hr1 bTh .nil pass0) pe_str (nomark _)))))
      (pss_one (ps_set (i := 1) scReadNames.nd rfl (.inl rfl) (pe_call GRn hr4 rfl aRn.gl aRn.fn.kp aRn.bd .nil pass0 (pa_cons (pv 0) (pa_cons (pv 1) pa_nil))))))
    (pss_one (ps_ret (pv 1))))), ?_⟩
    cases ws with
    | nil => exact absurd rfl ne
    | cons w0 ws =>
      have nd' := nd
      rw [List.nodup_append] at nd
      obtain ⟨nd1, nd2, nd3⟩ := nd
      rw [List.length_append] at z5
      have z5' : zs.length + (ws.length + 1) ≤ 5 := z5
      obtain ⟨y2, r2, ed2⟩ : ∃ y2 r2, ts.drop k = w0 :: y2 :: r2 := by
        cases ws with
        | nil => exact ⟨y, r, ed⟩
        | cons w1 ws => exact ⟨w1, ws ++ y :: r, ed⟩
      refine ⟨_, rfl, _, rfl, p, ts, k, n, zs, w0, y2, r2, rfl, pa, hn, ed2, nw w0 List.mem_cons_self, fun m => nd3 w0 m w0 List.mem_cons_self rfl, by omega, fun D H1 o1 nD hD pa1 => ?_⟩
      dsimp only [gName, tSeq]
      refine ⟨fun m σ' H' => ∃ (D' : Addr) (done rest : List Str), m = rest.length ∧ σ' = [some (.ref p.x), some (.ref D')] ∧ Off p.x H H' ∧ H D' = none ∧ H' D' = some (.lst ((zs ++ done).map V.str)) ∧ done ++ rest = w0 :: ws ∧ PAt C H' p ts (k + done.length), ⟨_, D, [w0], ws, rfl, rfl, o1, nD, hD, rfl, pa1⟩, ?_⟩
      rintro m σ' H2 ⟨D', done, rest, rfl, rfl, o2, nD', hD', er, pa2⟩
      have edr : ts.drop (k + done.length) = rest ++ y :: r := by
        rw [← List.drop_drop, ed, ← er, List.append_assoc, List.drop_left' rfl]
      cases rest with
      | nil =>
        rw [List.append_nil] at er
        obtain ⟨e1, _, _⟩ := drop_at (show ts.drop (k + done.length) = y :: r from edr)
        have fin : Q (.ref D') H2 := by
          refine q D' H2 o2 nD' ?_ ?_
          · rw [← er]
            exact hD'
          · rw [← er]
            exact pa2
        refine ⟨_, rfl, p.x, p.dx, _, rfl, pa2.ob, no, p, ts, _, rfl, pa2, ?_⟩
        rw [e1]
        rcases ey with rfl | rfl
        · refine ⟨":", rfl, by decide +kernel, _, rfl, ?_⟩
          rw [show wordB ":" = false by decide +kernel]
          exact iteF ⟨_, rfl, fin⟩
        · refine ⟨"some", rfl, by decide +kernel, _, rfl, ?_⟩
          rw [show wordB "some" = true by decide +kernel]
          refine iteT ⟨_, rfl, p.x, p.dx, _, rfl, pa2.ob, no, p, ts, _, rfl, pa2, ?_⟩
          rw [e1]
          refine ⟨rfl, _, rfl, ?_⟩
          rw [decide_eq_true rfl]
          exact iteF ⟨_, rfl, fin⟩
      | cons w1 rest =>
        obtain ⟨e1, _, _⟩ := drop_at (show ts.drop (k + done.length) = w1 :: (rest ++ y :: r) from edr)
        have m1 : w1 ∈ w0 :: ws := by
          rw [← er]
          exact List.mem_append.mpr (.inr List.mem_cons_self)
        have n1 := nw w1 m1
        have l1 := n1.hi
        refine ⟨_, rfl, p.x, p.dx, _, rfl, pa2.ob, no, p, ts, _, rfl, pa2, ?_⟩
        rw [e1]
        refine ⟨w1, rfl, by omega, _, rfl, ?_⟩
        rw [word_name n1]
        refine iteT ⟨_, rfl, p.x, p.dx, _, rfl, pa2.ob, no, p, ts, _, rfl, pa2, ?_⟩
        rw [e1]
        refine ⟨rfl, _, rfl, ?_⟩
        rw [decide_eq_false (fun z => n1.ns (by injection z))]
        refine iteT ⟨_, fun _ _ h => h, ?_⟩
        obtain ⟨y2, r2, ed2⟩ : ∃ y2 r2, ts.drop (k + done.length) = w1 :: y2 :: r2 := by
          cases rest with
          | nil => exact ⟨y, r, edr⟩
          | cons w2 rest => exact ⟨w2, rest ++ y :: r, edr⟩
        have hl : done.length + (rest.length + 1) = ws.length + 1 := by
          have := congrArg List.length er
          rw [List.length_append] at this
          exact this
        have nin : w1 ∉ zs ++ done := fun mm => by
          rw [← er, ← List.append_assoc, List.nodup_append] at nd'
          exact nd'.2.2 w1 mm w1 List.mem_cons_self rfl
        refine ⟨_, rfl, _, rfl, p, ts, _, D', zs ++ done, w1, y2, r2, rfl, pa2, hD', ed2, n1, nin, by rw [List.length_append]; omega, fun D2 H3 o3 nD2 hD2 pa3 => ?_⟩
        have nx : D2 ≠ p.x := (ne_of_none pa2.ob nD2).symm
        refine ⟨rest.length, Nat.lt_succ_self _, D2, done ++ [w1], rest, rfl, rfl, o2.trans o3, o2.free nx nD2, ?_, ?_, ?_⟩
        · rw [← List.append_assoc]
          exact hD2
        · rw [List.append_assoc]
          exact er
        · rw [List.length_append]
          exact pa3
def spReadTerm (C : Addr) : Sp := fun vs H Q _ => ∃ (p : PId) (ts : List Str) (k : Nat) (n : Addr) (zs : List Str) (t : Term) (y : Str) (r : List Str), vs = [.ref p.x, .ref n] ∧ PAt C H p ts k ∧ H n = some (.lst (zs.map V.str)) ∧ (∀ z ∈ zs, NameS 4 z) ∧ TermOk zs t ∧ ts.drop k = tokT t :: y :: r ∧
  ∀ (H' : Hp), Off p.x H H' → PAt C H' p ts (k + 1) → Q (termV t) H'
theorem has_readterm (b : Blt mg) (W : Wq K mg aB) (M : PMeth P w K mg base C) (a : AtE K mg "read_term" sReadTerm ["parts", "names"]) : Has P w K mg base CX0 3 "read_term" sReadTerm ["parts", "names"] (spReadTerm C) := by
  obtain ⟨f, fd, a⟩ := a
  obtain ⟨T, ⟨fTh, fdTh, mTh, bTh, GTh⟩, _, _, ⟨fRd, fdRd, mRd, bRd, GRd⟩, _⟩ := M
  obtain ⟨two, Wwo⟩ := W.wo
  refine ⟨f, fd, a, a.fn.ok scReadTerm (fun vs H Q E h => ?_) (fun cdv A outer s H vs Q E hr2 h => ?_)⟩
  · obtain ⟨p, ts, k, n, zs, t, y, r, rfl, _⟩ := h
    rfl
  · obtain ⟨p, ts, k, n, zs, t, y, r, rfl, pa, hn, nz, ok, ed, q⟩ := h
    have hr1 : Room 1 _ := hr2.mono (by decide)
    have no : ∀ {l : Addr} {j : Int}, (pf l j).lookup ("this" : Str) = none := pf_no _ _ (by decide +kernel) (by decide +kernel)
    have no2 : ∀ {l : Addr} {j : Int}, (pf l j).lookup ("read" : Str) = none := pf_no _ _ (by decide +kernel) (by decide +kernel)
    obtain ⟨ex, lk, _⟩ := drop_at ed
    refine ⟨_,
    (pss_cons (ps_if (pt_cmpR op_in_seq (pe_meth0 (pv 0) T.cl mTh GTh hr1 bTh .nil pass0) (pv 1) rfl)
      (pss_one (ps_ret (pe_meth (pv 0) T.cl mRd GRd hr2 bRd .nil pass0 (pa_cons pe_bl pa_nil))))
      pss_nil)
    (pss_one (ps_ret (pe_callTy call_int_str (by rfl) b.int (by decide +kernel) (pa_cons (pe_meth (pv 0) T.cl mRd GRd hr2 bRd .nil pass0 (pa_cons (pe_cmpR op_in_seq (pe_meth0 (pv 0) T.cl mTh GTh hr1 bTh .nil pass0) (pe_lc (own := [("worth", 2)]) (g := (gName 2)) (tt := tYes) (te := (tCB rStrI (tCons (tVar 2) tNil))) rfl scReadTerm.nd (pi_range1 rfl b.range (pa_cons (pe_glob (v := .int 32) rfl Wwo ⟨_, rfl⟩) pa_nil)) (blkOk_by (N := nReadTerm) (sc := defScope sReadTerm) (by decide +kernel)) (fun _ _ _ _ _ => (pg_name (i := 2) scReadTerm.nd rfl (.inl rfl))) (fun _ _ _ _ _ => pts_nil) (fun _ _ _ _ _ => (pe_callTy call_str_int (by rfl) b.str (by decide +kernel) (pa_cons (pv 2) pa_nil)))) rfl) pa_nil)) pa_nil))))), ?_⟩
    refine ⟨_, rfl, p.x, p.dx, _, rfl, pa.ob, no, p, ts, k, rfl, pa, ?_⟩
    rw [ex]
    refine ⟨_, rfl, n, _, rfl, .inl (SqL.of hn), rfl, strs_flat _, _, rfl, ?_⟩
    rw [inV_str]
    cases t with
    | nm z =>
      rw [decide_eq_true (show tokT (.nm z) ∈ zs from ok)]
      refine iteT ⟨_, rfl, p.x, p.dx, _, rfl, pa.ob, no2, p, ts, k, rfl, pa, drop_more ed, fun H1 o1 pa1 => ?_⟩
      rw [ex]
      exact q H1 o1 pa1
    | wo m =>
      have lm : m < 32 := ok
      obtain ⟨l2, _, _, it⟩ := nums_dig m lm
      rw [decide_eq_false (show ¬ tokT (.wo m) ∈ zs from fun mm => num_no_name (nz _ mm) lm rfl)]
      refine iteF ?_
      refine ⟨_, rfl, p.x, p.dx, _, rfl, pa.ob, no2, ?_⟩
      refine ⟨_, rfl, p.x, p.dx, _, rfl, pa.ob, no, p, ts, k, rfl, pa, ?_⟩
      rw [ex]
      refine ⟨_, rfl, by omega, by omega, fun D hD => ?_⟩
      refine lc_rangeS (lo := 0) (n := 32) (fun i acc _ => acc = ((List.range i).map numS).map V.str) hD (by decide) (fun _ _ _ _ _ h => h) rfl ?_ ?_
      · rintro j acc H1 hj s1 h1 rfl k1 k2 y1 y2
        refine ⟨rfl, yes_turn ⟨_, rfl, _, rfl, ?_, y1 _ _ (Same.refl _) ?_⟩⟩
        · have : ∀ j, j < 32 → ((0 : Int) + ((j : Nat) : Int)).natAbs.log2 < 1920 := by decide +kernel
          exact this j hj
        · rw [List.range_succ, List.map_append, List.map_append]
          show _ ++ [V.str (toString ((0 : Int) + ((j : Nat) : Int)))] = _
          rw [Int.zero_add]
          rfl
      · rintro acc H1 s1 h1 rfl
        have pa1 := pa.same s1
        refine ⟨D, _, rfl, .inl (SqL.of h1), rfl, strs_flat _, ?_⟩
        rw [inV_str, decide_eq_true (show tokT (.wo m) ∈ (List.range 32).map numS from List.mem_map.mpr ⟨m, List.mem_range.mpr lm, rfl⟩)]
        refine ⟨p, ts, k, rfl, pa1, drop_more ed, fun H2 o2 pa2 => ?_⟩
        rw [ex]
        exact ⟨numS m, _, rfl, it, by omega, q H2 (fun a o ne h => o2 _ _ ne (s1 _ _ h)) pa2⟩
def spReadPair (C : Addr) : Sp := fun vs H Q _ => ∃ (p : PId) (ts : List Str) (k : Nat) (n : Addr) (zs : List Str) (pr : Str × Str) (y : Str) (r : List Str), vs = [.ref p.x, .ref n] ∧ PAt C H p ts k ∧ H n = some (.lst (zs.map V.str)) ∧ PairOk zs pr ∧ ts.drop k = pr.1 :: "<" :: pr.2 :: y :: r ∧
  ∀ (v : V) (H' : Hp), Off p.x H H' → PAt C H' p ts (k + 3) → PairAt H' v pr → Q v H'
theorem has_readpair (b : Blt mg) (M : PMeth P w K mg base C) (a : AtE K mg "read_pair" sReadPair ["parts", "names"]) : Has P w K mg base CX0 4 "read_pair" sReadPair ["parts", "names"] (spReadPair C) := by
  obtain ⟨f, fd, a⟩ := a
  obtain ⟨T, ⟨fTh, fdTh, mTh, bTh, GTh⟩, _, _, ⟨fRd, fdRd, mRd, bRd, GRd⟩, ⟨fRg, fdRg, mRg, bRg, GRg⟩⟩ := M
  refine ⟨f, fd, a, a.fn.ok scReadPair (fun vs H Q E h => ?_) (fun cdv A outer s H vs Q E hr3 h => ?_)⟩
  · obtain ⟨p, ts, k, n, zs, t, y, r, rfl, _⟩ := h
    rfl
  · obtain ⟨p, ts, k, n, zs, ⟨x1, x2⟩, y, r, rfl, pa, hn, ⟨m1, m2, ne⟩, ed, q⟩ := h
    have hr1 : Room 1 _ := hr3.mono (by decide)
    have hr2 : Room 2 _ := hr3.mono (by decide)
    have no : ∀ {l : Addr} {j : Int}, (pf l j).lookup ("this" : Str) = none := pf_no _ _ (by decide +kernel) (by decide +kernel)
    have no2 : ∀ {l : Addr} {j : Int}, (pf l j).lookup ("read" : Str) = none := pf_no _ _ (by decide +kernel) (by decide +kernel)
    have no3 : ∀ {l : Addr} {j : Int}, (pf l j).lookup ("read_sign" : Str) = none := pf_no _ _ (by decide +kernel) (by decide +kernel)
    obtain ⟨e1, _, ed1⟩ := drop_at ed
    obtain ⟨e2, _, ed2⟩ := drop_at ed1
    obtain ⟨e3, _, ed3⟩ := drop_at ed2
    have nn : n ≠ p.x := fun z => by
      rw [z, pa.ob] at hn
      cases hn
    refine ⟨_,
    (pss_cons (ps_set (i := 2) scReadPair.nd rfl (.inl rfl) (pe_meth (pv 0) T.cl mRd GRd hr2 bRd .nil pass0 (pa_cons (pe_cmpR op_in_seq (pe_meth0 (pv 0) T.cl mTh GTh hr1 bTh .nil pass0) (pv 1) rfl) pa_nil)))
    (pss_cons (ps_expr (pe_meth (pv 0) T.cl mRg GRg hr3 bRg .nil pass0 (pa_cons pe_str pa_nil)))
    (pss_cons (ps_set (i := 3) scReadPair.nd rfl (.inl rfl) (pe_meth (pv 0) T.cl mRd GRd hr2 bRd .nil pass0 (pa_cons (pe_and (pe_cmpR op_in_seq (pe_meth0 (pv 0) T.cl mTh GTh hr1 bTh .nil pass0) (pv 1) rfl) (pe_one (pe_cmpR op_ne (pe_meth0 (pv 0) T.cl mTh GTh hr1 bTh .nil pass0) (pv 2) (nomark _)))) pa_nil)))
    (pss_one (ps_ret (pe_tup (pa_cons (pv 2) (pa_cons (pv 3) pa_nil)))))))), ?_⟩
    refine ⟨_, rfl, p.x, p.dx, _, rfl, pa.ob, no2, ?_⟩
    refine ⟨_, rfl, p.x, p.dx, _, rfl, pa.ob, no, p, ts, k, rfl, pa, ?_⟩
    rw [e1]
    refine ⟨_, rfl, n, _, rfl, .inl (SqL.of hn), rfl, strs_flat _, ?_⟩
    rw [inV_str, decide_eq_true m1]
    refine ⟨p, ts, k, rfl, pa, drop_more ed, fun H1 o1 pa1 => ?_⟩
    rw [e1]
    have hn1 := o1 _ _ nn hn
    refine ⟨_, rfl, p.x, p.dx, _, rfl, pa1.ob, no3, p, ts, k + 1, congrArg (fun z => [V.ref p.x, V.str z]) e2.symm, pa1, drop_more ed1, fun H2 o2 pa2 => ?_⟩
    have hn2 := o2 _ _ nn hn1
    refine ⟨_, rfl, p.x, p.dx, _, rfl, pa2.ob, no2, ?_⟩
    refine ⟨_, rfl, p.x, p.dx, _, rfl, pa2.ob, no, p, ts, k + 1 + 1, rfl, pa2, ?_⟩
    rw [e3]
    refine ⟨_, rfl, n, _, rfl, .inl (SqL.of hn2), rfl, strs_flat _, _, rfl, ?_⟩
    rw [inV_str, decide_eq_true m2]
    refine iteT ⟨_, rfl, p.x, p.dx, _, rfl, pa2.ob, no, p, ts, k + 1 + 1, rfl, pa2, ?_⟩
    rw [e3]
    refine ⟨_, rfl, rfl, ?_⟩
    rw [decide_eq_false (show ¬ V.str x2 = V.str x1 from fun z => ne (by injection z with z; exact z.symm))]
    refine ⟨p, ts, k + 1 + 1, rfl, pa2, drop_more ed2, fun H3 o3 pa3 => ?_⟩
    rw [e3]
    refine ⟨_, rfl, _, rfl, by show 2 ≤ sizeLine; decide, fun D hD => ?_⟩
    have sD := same_new (o := HO.tup [.str x1, .str x2]) hD
    exact q _ _ (fun a o ne h => sD _ _ (o3 _ _ ne (o2 _ _ ne (o1 _ _ ne h)))) (pa3.same sD) ⟨D, rfl, upd_same⟩
end
end VQ
namespace VQ
open PySem L2 LamX
/-! ### ties read, clauses read -/
def sepT (t : Term) : List Str := [",", tokT t]
def commaT : List Term → List Str
  | [] => []
  | x :: xs => tokT x :: xs.flatMap sepT
def tieToks (t : Str × List Term) : List Str := t.1 :: ("(" : Str) :: (commaT t.2 ++ [(")" : Str)])
section
variable {P : Program} {w : World} {K : PySem.W.Frag} {mg : Str → Option Value} {base : Heap} {C aB : Addr}
def spReadTie (C : Addr) : Sp := fun vs H Q _ => ∃ (p : PId) (ts : List Str) (k : Nat) (n : Addr) (zs : List Str) (t : Str × List Term) (y : Str) (r : List Str), vs = [.ref p.x, .ref n] ∧ PAt C H p ts k ∧ H n = some (.lst (zs.map V.str)) ∧ (∀ z ∈ zs, NameS 4 z) ∧ TieOk zs t ∧ ts.drop k = tieToks t ++ y :: r ∧
  ∀ (v : V) (H' : Hp), Off p.x H H' → PAt C H' p ts (k + (tieToks t).length) → TieAt H' v t → Q v H'
theorem has_readtie (b : Blt mg) (W : Wq K mg aB) (M : PMeth P w K mg base C) (hNm : Has P w K mg base CX0 1 "is_name" sIsName ["thing", "most"] spIsName) (hRt : Has P w K mg base CX0 3 "read_term" sReadTerm ["parts", "names"] (spReadTerm C)) (a : AtE K mg "read_tie" sReadTie ["parts", "names"]) : Has P w K mg base CX0 4 "read_tie" sReadTie ["parts", "names"] (spReadTie C) := by
  obtain ⟨f, fd, a⟩ := a
  obtain ⟨T, ⟨fTh, fdTh, mTh, bTh, GTh⟩, _, _, ⟨fRd, fdRd, mRd, bRd, GRd⟩, ⟨fRg, fdRg, mRg, bRg, GRg⟩⟩ := M
  obtain ⟨fNm, fdNm, aNm, GNm⟩ := hNm
  obtain ⟨fRt, fdRt, aRt, GRt⟩ := hRt
  obtain ⟨tml, Wml⟩ := W.ml
  obtain ⟨tmw, Wmw⟩ := W.mw
  refine ⟨f, fd, a, a.fn.ok scReadTie (fun vs H Q E h => ?_) (fun cdv A outer s H vs Q E hr3 h => ?_)⟩
  · obtain ⟨p, ts, k, n, zs, t, y, r, rfl, _⟩ := h
    rfl
  · obtain ⟨p, ts, k, n, zs, ⟨tb, us⟩, y, r, rfl, pa, hn, nz, ok, ed, q⟩ := h
    have hr1 : Room 1 _ := hr3.mono (by decide)
    have hr2 : Room 2 _ := hr3.mono (by decide)
    have no : ∀ {l : Addr} {j : Int}, (pf l j).lookup ("this" : Str) = none := pf_no _ _ (by decide +kernel) (by decide +kernel)
    have no2 : ∀ {l : Addr} {j : Int}, (pf l j).lookup ("read" : Str) = none := pf_no _ _ (by decide +kernel) (by decide +kernel)
    have no3 : ∀ {l : Addr} {j : Int}, (pf l j).lookup ("read_sign" : Str) = none := pf_no _ _ (by decide +kernel) (by decide +kernel)
    have nn : n ≠ p.x := fun z => by
      rw [z, pa.ob] at hn
      cases hn
    have u4 : us.length ≤ 4 := ok.hi
    cases us with
    | nil => exact absurd ok.lo (Nat.not_succ_le_zero 0)
    | cons t0 us =>
    have el : (tieToks (tb, t0 :: us)).length = 3 + (us.flatMap sepT).length + 1 := by
      show ((us.flatMap sepT ++ [(")" : Str)]).length + 1) + 1 + 1 = _
      rw [List.length_append]
      show (us.flatMap sepT).length + 1 + 1 + 1 + 1 = _
      omega
    have ed' : ts.drop k = tb :: ("(" : Str) :: tokT t0 :: (us.flatMap sepT ++ (")" : Str) :: y :: r) := by
      rw [ed]
      show tb :: ("(" : Str) :: tokT t0 :: ((us.flatMap sepT ++ [(")" : Str)]) ++ y :: r) = _
      rw [List.append_assoc]
      rfl
    obtain ⟨e1, _, ed1⟩ := drop_at ed'
    obtain ⟨e2, _, ed2⟩ := drop_at ed1
    obtain ⟨e3, _, ed3⟩ := drop_at ed2
    refine ⟨_,
    (pss_cons (ps_set (i := 2) scReadTie.nd rfl (.inl rfl) (pe_meth (pv 0) T.cl mRd GRd hr2 bRd .nil pass0 (pa_cons (pe_call GNm hr1 rfl aNm.gl aNm.fn.kp aNm.bd .nil pass0 (pa_cons (pe_meth0 (pv 0) T.cl mTh GTh hr1 bTh .nil pass0) (pa_cons (pe_glob (v := .int 8) rfl Wml ⟨_, rfl⟩) pa_nil))) pa_nil)))
    (pss_cons (ps_expr (pe_meth (pv 0) T.cl mRg GRg hr3 bRg .nil pass0 (pa_cons pe_str pa_nil)))
    (pss_cons (ps_set (i := 3) scReadTie.nd rfl (.inl rfl) (pe_lst (pa_cons (pe_call GRt hr3 rfl aRt.gl aRt.fn.kp aRt.bd .nil pass0 (pa_cons (pv 0) (pa_cons (pv 1) pa_nil))) pa_nil)))
    (pss_cons (ps_while PassesOwn.never (PW.pt (pw_and (pt_cmpR op_eq (pe_meth0 (pv 0) T.cl mTh GTh hr1 bTh .nil pass0) pe_str (nomark _)) (pw_and1 (pt_cmpR op_lt (pe_callB call_len_seq (by rfl) b.len PySem.boot_len (pa_cons (pv 3) pa_nil)) (pe_glob (v := .int 4) rfl Wmw ⟨_, rfl⟩) (nomark _)))))
      (pss_cons (ps_expr (pe_meth (pv 0) T.cl mRg GRg hr3 bRg .nil pass0 (pa_cons pe_str pa_nil)))
      (pss_one (ps_expr (pe_bm PySem.F.plainAttrs_list PySem.F.slot_list_append PySem.F.type_list_append mt_append (pv 3) (pa_cons (pe_call GRt hr3 rfl aRt.gl aRt.fn.kp aRt.bd .nil pass0 (pa_cons (pv 0) (pa_cons (pv 1) pa_nil))) pa_nil))))))
    (pss_cons (ps_expr (pe_meth (pv 0) T.cl mRg GRg hr3 bRg .nil pass0 (pa_cons pe_str pa_nil)))
    (pss_one (ps_ret (pe_tup (pa_cons (pv 2) (pa_cons (pe_callTy call_tuple_of (by rfl) b.tuple (by decide +kernel) (pa_cons (pv 3) pa_nil)) pa_nil)))))))))), ?_⟩
    refine ⟨_, rfl, p.x, p.dx, _, rfl, pa.ob, no2, ?_⟩
    refine ⟨_, rfl, p.x, p.dx, _, rfl, pa.ob, no, p, ts, k, rfl, pa, ?_⟩
    rw [e1]
    refine ⟨tb, 8, rfl, ok.nm, by decide, fun H1 s1 => ?_⟩
    have pa1 := pa.same s1
    refine ⟨p, ts, k, rfl, pa1, drop_more ed', fun H2 o2 pa2 => ?_⟩
    rw [e1]
    have o02 : Off p.x H H2 := (Off.of s1).trans o2
    refine ⟨_, rfl, p.x, p.dx, _, rfl, pa2.ob, no3, p, ts, k + 1, congrArg (fun z => [V.ref p.x, V.str z]) e2.symm, pa2, drop_more ed1, fun H3 o3 pa3 => ?_⟩
    have o03 := o02.trans o3
    obtain ⟨y2, r2, er⟩ : ∃ y2 r2, us.flatMap sepT ++ (")" : Str) :: y :: r = y2 :: r2 := by
      cases us with
      | nil => exact ⟨_, _, rfl⟩
      | cons t1 us => exact ⟨_, _, rfl⟩
    refine ⟨_, rfl, _, rfl, p, ts, k + 1 + 1, n, zs, t0, y2, r2, rfl, pa3, o03 _ _ nn hn, nz, ok.tm t0 List.mem_cons_self, by rw [ed2, er], fun H4 o4 pa4 => ?_⟩
    have o04 := o03.trans o4
    refine ⟨by show 1 ≤ sizeLine; decide, fun L hL => ?_⟩
    have Lx : L ≠ p.x := (ne_of_none pa4.ob hL).symm
    have hL0 : H L = none := o04.free Lx hL
    have Ln : L ≠ n := (ne_of_none hn hL0).symm
    have Ll : L ≠ p.l := by
      obtain ⟨_, h1, _⟩ := pa.li
      exact (ne_of_none h1 hL0).symm
    dsimp only [gName, tSeq]
    refine ⟨fun m σ' H' => ∃ (done rest : List Term) (j : Nat), m = rest.length ∧ σ' = [some (.ref p.x), some (.ref n), some (.str tb), some (.ref L)] ∧ Off p.x H H' ∧ H' L = some (.lst (done.map termV)) ∧ done ++ rest = t0 :: us ∧ PAt C H' p ts j ∧ ts.drop j = rest.flatMap sepT ++ (")" : Str) :: y :: r ∧ j + (rest.flatMap sepT).length + 1 = k + (tieToks (tb, t0 :: us)).length,
      ⟨_, [t0], us, k + 1 + 1 + 1, rfl, rfl, off_put o04 hL0, upd_same, rfl, pa4.same (same_new hL), ed3, by rw [el]; omega⟩, ?_⟩
    rintro m σ' H5 ⟨done, rest, j, rfl, rfl, o5, h5, er5, pa5, ed5, ej⟩
    have ld : done.length + rest.length = us.length + 1 := by
      have := congrArg List.length er5
      rw [List.length_append] at this
      exact this
    have u4' : us.length + 1 ≤ 4 := u4
    cases rest with
    | nil =>
      rw [List.append_nil] at er5
      subst er5
      have ed5' : ts.drop j = (")" : Str) :: y :: r := ed5
      obtain ⟨f1, _, _⟩ := drop_at ed5'
      refine ⟨_, rfl, p.x, p.dx, _, rfl, pa5.ob, no, p, ts, j, rfl, pa5, ?_⟩
      rw [f1]
      refine ⟨rfl, _, rfl, ?_⟩
      rw [show decide (V.str (")" : Str) = V.str ("," : Str)) = false by decide +kernel]
      refine iteF ?_
      refine ⟨_, rfl, p.x, p.dx, _, rfl, pa5.ob, no3, p, ts, j, congrArg (fun z => [V.ref p.x, V.str z]) f1.symm, pa5, drop_more ed5', fun H6 o6 pa6 => ?_⟩
      refine ⟨_, rfl, _, rfl, L, _, rfl, .inl ⟨SqL.of (o6 _ _ Lx h5), fun D hD => ?_⟩⟩
      have Dx : D ≠ p.x := (ne_of_none pa6.ob hD).symm
      have sD := same_new (o := HO.tup ((t0 :: us).map termV)) hD
      refine ⟨by show 2 ≤ sizeLine; decide, fun E' hE => ?_⟩
      have sE := same_new (o := HO.tup [.str tb, .ref D]) hE
      refine q _ _ (((o5.trans o6).trans (Off.of sD)).trans (Off.of sE)) ?_ ⟨E', D, rfl, upd_same, sE _ _ upd_same⟩
      have := (pa6.same sD).same sE
      rw [← ej]
      exact this
    | cons t1 rest =>
      have ed5' : ts.drop j = ("," : Str) :: tokT t1 :: (rest.flatMap sepT ++ (")" : Str) :: y :: r) := ed5
      obtain ⟨f1, _, g1⟩ := drop_at ed5'
      obtain ⟨f2, _, g2⟩ := drop_at g1
      refine ⟨_, rfl, p.x, p.dx, _, rfl, pa5.ob, no, p, ts, j, rfl, pa5, ?_⟩
      rw [f1]
      refine ⟨rfl, _, rfl, ?_⟩
      rw [decide_eq_true rfl]
      have l4 : decide ((((done.map termV).length : Nat) : Int) < 4) = true := decide_eq_true (by rw [List.length_map]; have : done.length + (rest.length + 1) = us.length + 1 := ld; omega)
      refine iteT ⟨_, rfl, L, _, rfl, .inl (SqL.of h5), _, _, rfl, rfl, _, rfl, ?_⟩
      rw [l4]
      refine iteT ⟨_, fun _ _ h => h, ?_⟩
      refine ⟨_, rfl, p.x, p.dx, _, rfl, pa5.ob, no3, p, ts, j, congrArg (fun z => [V.ref p.x, V.str z]) f1.symm, pa5, drop_more ed5', fun H6 o6 pa6 => ?_⟩
      have h6 := o6 _ _ Lx h5
      refine ⟨_, rfl, .inl ⟨rfl, _, SqL.of h6⟩, ?_⟩
      obtain ⟨y3, r3, er3⟩ : ∃ y3 r3, rest.flatMap sepT ++ (")" : Str) :: y :: r = y3 :: r3 := by
        cases rest with
        | nil => exact ⟨_, _, rfl⟩
        | cons t1 us => exact ⟨_, _, rfl⟩
      have m1 : t1 ∈ t0 :: us := by
        rw [← er5]
        exact List.mem_append.mpr (.inr List.mem_cons_self)
      refine ⟨_, rfl, _, rfl, p, ts, j + 1, n, zs, t1, y3, r3, rfl, pa6, o6 _ _ nn (o5 _ _ nn hn), nz, ok.tm t1 m1, by rw [g1, er3], fun H7 o7 pa7 => ?_⟩
      have h7 := o7 _ _ Lx h6
      refine ⟨L, _, _, rfl, rfl, h7, lt_line (by rw [List.length_map]; have : done.length + (rest.length + 1) = us.length + 1 := ld; omega), ?_⟩
      refine ⟨rest.length, Nat.lt_succ_self _, done ++ [t1], rest, j + 1 + 1, rfl, rfl, off_put ((o5.trans o6).trans o7) hL0, ?_, by rw [List.append_assoc]; exact er5, pa7.upd h7 Ll, g2, ?_⟩
      · rw [List.map_append]
        exact upd_same
      · rw [← ej]
        show _ = j + ((rest.flatMap sepT).length + 1 + 1) + 1
        omega
end
end VQ
namespace VQ
open PySem L2 LamX
/-! ### the clauses -/
def pairToks (p : Str × Str) : List Str := [p.1, "<", p.2]
def comC (c : List Str) : List Str := ("," : Str) :: c
def joinC : List (List Str) → List Str
  | [] => []
  | c :: cs => c ++ cs.flatMap comC
theorem off_tups {D c dx : Addr} {H H' : Hp} {fs : List (Str × V)} (o : Off D H H') (h : H D = some (.ins c dx fs)) : Tups H H' := fun a xs ha => o _ _ (fun e => by rw [e, h] at ha; cases ha) ha
abbrev sReadClauses : Stmt := top 34
abbrev nReadClauses : List Str := ["parts", "names", "ties", "less"]
theorem scReadClauses : FnScope nReadClauses ["parts", "names"] (defScope sReadClauses) := ⟨rfl, rfl, rfl, by decide +kernel, rfl, by decide +kernel, by decide +kernel⟩
section
variable {P : Program} {w : World} {K : PySem.W.Frag} {mg : Str → Option Value} {base : Heap} {C aB : Addr}
def spReadCl (C : Addr) : Sp := fun vs H Q _ => ∃ (p : PId) (ts : List Str) (k : Nat) (n : Addr) (zs : List Str) (ties : List (Str × List Term)) (less : List (Str × Str)), vs = [.ref p.x, .ref n] ∧ PAt C H p ts k ∧ H n = some (.lst (zs.map V.str)) ∧ (∀ z ∈ zs, NameS 4 z) ∧ 1 ≤ ties.length ∧ ties.length ≤ 6 ∧ (∀ t ∈ ties, TieOk zs t) ∧ less.length ≤ 3 ∧ (∀ p ∈ less, PairOk zs p) ∧ ts.drop k = joinC (ties.map tieToks ++ less.map pairToks) ++ [("" : Str)] ∧
  ∀ (a t l : Addr) (us ws : List V) (H' : Hp), Off p.x H H' → H' a = some (.tup [.ref t, .ref l]) → H' t = some (.lst us) → H' l = some (.lst ws) → Each (TieAt H') us ties → Each (PairAt H') ws less → Q (.ref a) H'
theorem has_readcl (b : Blt mg) (W : Wq K mg aB) (M : PMeth P w K mg base C) (hRp : Has P w K mg base CX0 4 "read_pair" sReadPair ["parts", "names"] (spReadPair C)) (hRi : Has P w K mg base CX0 4 "read_tie" sReadTie ["parts", "names"] (spReadTie C)) (a : AtE K mg "read_clauses" sReadClauses ["parts", "names"]) : Has P w K mg base CX0 5 "read_clauses" sReadClauses ["parts", "names"] (spReadCl C) := by
  obtain ⟨f, fd, a⟩ := a
  obtain ⟨T, ⟨fTh, fdTh, mTh, bTh, GTh⟩, ⟨fBe, fdBe, mBe, bBe, GBe⟩, ⟨fNe, fdNe, mNe, bNe, GNe⟩, ⟨fRd, fdRd, mRd, bRd, GRd⟩, ⟨fRg, fdRg, mRg, bRg, GRg⟩⟩ := M
  obtain ⟨fRp, fdRp, aRp, GRp⟩ := hRp
  obtain ⟨fRi, fdRi, aRi, GRi⟩ := hRi
  obtain ⟨tmr, Wmr⟩ := W.mr
  obtain ⟨tmt, Wmt⟩ := W.mt
  refine ⟨f, fd, a, a.fn.ok scReadClauses (fun vs H Q E h => ?_) (fun cdv A outer s H vs Q E hr4 h => ?_)⟩
  · obtain ⟨p, ts, k, n, zs, ties, less, rfl, _⟩ := h
    rfl
  · obtain ⟨p, ts, k, n, zs, ties, less, rfl, pa, hn, nz, t1, t6, okt, l3, okl, ed, q⟩ := h
    have hr1 : Room 1 _ := hr4.mono (by decide)
    have hr2 : Room 2 _ := hr4.mono (by decide)
    have hr3 : Room 3 _ := hr4.mono (by decide)
    have no : ∀ {l : Addr} {j : Int}, (pf l j).lookup ("this" : Str) = none := pf_no _ _ (by decide +kernel) (by decide +kernel)
    have no1 : ∀ {l : Addr} {j : Int}, (pf l j).lookup ("behind" : Str) = none := pf_no _ _ (by decide +kernel) (by decide +kernel)
    have no2 : ∀ {l : Addr} {j : Int}, (pf l j).lookup ("need" : Str) = none := pf_no _ _ (by decide +kernel) (by decide +kernel)
    have no3 : ∀ {l : Addr} {j : Int}, (pf l j).lookup ("read_sign" : Str) = none := pf_no _ _ (by decide +kernel) (by decide +kernel)
    have nn : n ≠ p.x := fun z => by
      rw [z, pa.ob] at hn
      cases hn
    obtain ⟨us0, hl0, _⟩ := pa.li
    refine ⟨_,
    (pss_cons (ps_set (i := 2) scReadClauses.nd rfl (.inl rfl) (pe_lst pa_nil))
    (pss_cons (ps_set (i := 3) scReadClauses.nd rfl (.inl rfl) (pe_lst pa_nil))
    (pss_one (ps_while PassesOwn.never (pt_val pe_bl)
      (C8.pss_cut (ps_if (pt_cmpR op_eq (pe_meth0 (pv 0) T.cl mBe GBe hr2 bBe .nil pass0) pe_str (nomark _))
        (pss_cons (ps_expr (pe_meth (pv 0) T.cl mNe GNe hr1 bNe .nil pass0 (pa_cons (pe_and (pe_cmpR op_gt (pe_callB call_len_seq (by rfl) b.len PySem.boot_len (pa_cons (pv 2) pa_nil)) pe_int (nomark _)) (pe_one (pe_cmpR op_lt (pe_callB call_len_seq (by rfl) b.len PySem.boot_len (pa_cons (pv 3) pa_nil)) (pe_glob (v := .int 3) rfl Wmr ⟨_, rfl⟩) (nomark _)))) pa_nil)))
        (pss_one (ps_expr (pe_bm PySem.F.plainAttrs_list PySem.F.slot_list_append PySem.F.type_list_append mt_append (pv 3) (pa_cons (pe_call GRp hr4 rfl aRp.gl aRp.fn.kp aRp.bd .nil pass0 (pa_cons (pv 0) (pa_cons (pv 1) pa_nil))) pa_nil)))))
        (pss_cons (ps_expr (pe_meth (pv 0) T.cl mNe GNe hr1 bNe .nil pass0 (pa_cons (pe_and (pe_cmpR op_eq (pe_callB call_len_seq (by rfl) b.len PySem.boot_len (pa_cons (pv 3) pa_nil)) pe_int (nomark _)) (pe_one (pe_cmpR op_lt (pe_callB call_len_seq (by rfl) b.len PySem.boot_len (pa_cons (pv 2) pa_nil)) (pe_glob (v := .int 6) rfl Wmt ⟨_, rfl⟩) (nomark _)))) pa_nil)))
        (pss_one (ps_expr (pe_bm PySem.F.plainAttrs_list PySem.F.slot_list_append PySem.F.type_list_append mt_append (pv 2) (pa_cons (pe_call GRi hr4 rfl aRi.gl aRi.fn.kp aRi.bd .nil pass0 (pa_cons (pv 0) (pa_cons (pv 1) pa_nil))) pa_nil))))))
      (pss_cons (ps_if (pt_cmpR op_eq (pe_meth0 (pv 0) T.cl mTh GTh hr1 bTh .nil pass0) pe_str (nomark _))
        (pss_one (ps_ret (pe_tup (pa_cons (pv 2) (pa_cons (pv 3) pa_nil)))))
        pss_nil)
      (pss_one (ps_expr (pe_meth (pv 0) T.cl mRg GRg hr3 bRg .nil pass0 (pa_cons pe_str pa_nil)))))))))), ?_⟩
    refine ⟨by show 0 ≤ sizeLine; decide, fun TL hT => ?_⟩
    have sT := same_new (o := HO.lst []) hT
    refine ⟨by show 0 ≤ sizeLine; decide, fun L hL => ?_⟩
    have sL := same_new (o := HO.lst []) hL
    have hL0 : H L = none := sT.free hL
    have TLL : TL ≠ L := ne_of_none upd_same hL
    have Tx : TL ≠ p.x := (ne_of_none pa.ob hT).symm
    have Lx : L ≠ p.x := (ne_of_none pa.ob hL0).symm
    have Tl : TL ≠ p.l := (ne_of_none hl0 hT).symm
    have Ll : L ≠ p.l := (ne_of_none hl0 hL0).symm
    have Tn : TL ≠ n := (ne_of_none hn hT).symm
    have Ln : L ≠ n := (ne_of_none hn hL0).symm
    dsimp only [gName, tSeq]
    refine ⟨fun m σ' H' => ∃ (dt rt : List (Str × List Term)) (dp rp : List (Str × Str)) (us ws : List V) (j : Nat), m = rt.length + rp.length ∧ 0 < m ∧ σ' = [some (.ref p.x), some (.ref n), some (.ref TL), some (.ref L)] ∧ Off p.x H H' ∧ H' TL = some (.lst us) ∧ H' L = some (.lst ws) ∧ Each (TieAt H') us dt ∧ Each (PairAt H') ws dp ∧ dt ++ rt = ties ∧ dp ++ rp = less ∧ (rt = [] ∨ dp = []) ∧ PAt C H' p ts j ∧ ts.drop j = joinC (rt.map tieToks ++ rp.map pairToks) ++ [("" : Str)],
      ⟨_, [], ties, [], less, [], [], k, rfl, by omega, rfl, Off.of (sT.trans sL), sL _ _ upd_same, upd_same, .nil, .nil, rfl, rfl, .inr rfl, pa.same (sT.trans sL), ed⟩, ?_⟩
    rintro m σ' H1 ⟨dt, rt, dp, rp, us, ws, j, em, m0, rfl, o1, h1T, h1L, eT, eL, et, el, side, pa1, ed1⟩
    have ltie : dt.length + rt.length = ties.length := by
      have := congrArg List.length et
      rw [List.length_append] at this
      exact this
    have lles : dp.length + rp.length = less.length := by
      have := congrArg List.length el
      rw [List.length_append] at this
      exact this
    have hn1 := o1 _ _ nn hn
    refine ⟨_, rfl, iteT ⟨_, fun _ _ h => h, ?_⟩⟩
    refine ⟨fun σ' H' => ∃ (dt rt : List (Str × List Term)) (dp rp : List (Str × Str)) (us ws : List V) (j : Nat), rt.length + rp.length < m ∧ σ' = [some (.ref p.x), some (.ref n), some (.ref TL), some (.ref L)] ∧ Off p.x H H' ∧ H' TL = some (.lst us) ∧ H' L = some (.lst ws) ∧ Each (TieAt H') us dt ∧ Each (PairAt H') ws dp ∧ dt ++ rt = ties ∧ dp ++ rp = less ∧ (rt = [] ∨ dp = []) ∧ PAt C H' p ts j ∧ ts.drop j = (rt.map tieToks ++ rp.map pairToks).flatMap comC ++ [("" : Str)], ?_, ?_⟩
    · cases rt with
      | cons t rt =>
        have hd : dp = [] := side.resolve_left (List.cons_ne_nil _ _)
        subst hd
        have mt : t ∈ ties := by
          rw [← et]
          exact List.mem_append.mpr (.inr List.mem_cons_self)
        have okt' := okt t mt
        have ed2 : ts.drop j = tieToks t ++ ((rt.map tieToks ++ rp.map pairToks).flatMap comC ++ [("" : Str)]) := by
          rw [ed1]
          show (tieToks t ++ (rt.map tieToks ++ rp.map pairToks).flatMap comC) ++ [("" : Str)] = _
          rw [List.append_assoc]
        have ed3 : ts.drop j = t.1 :: ("(" : Str) :: ((commaT t.2 ++ [(")" : Str)]) ++ ((rt.map tieToks ++ rp.map pairToks).flatMap comC ++ [("" : Str)])) := ed2
        obtain ⟨e1, _, ed4⟩ := drop_at ed3
        obtain ⟨e2, lt2, _⟩ := drop_at ed4
        have ne1 : ts.getD j "" ≠ "" := by
          rw [e1]
          intro e
          exact okt'.nm.ne (by rw [e]; decide +kernel)
        obtain ⟨y, r, er⟩ : ∃ y r, (rt.map tieToks ++ rp.map pairToks).flatMap comC ++ [("" : Str)] = y :: r := by
          cases h : (rt.map tieToks ++ rp.map pairToks).flatMap comC ++ [("" : Str)] with
          | nil => exact absurd h (List.append_ne_nil_of_right_ne_nil _ (List.cons_ne_nil _ _))
          | cons y r => exact ⟨y, r, rfl⟩
        refine ⟨_, rfl, p.x, p.dx, _, rfl, pa1.ob, no1, p, ts, j, rfl, pa1, fun _ => lt2, ?_⟩
        rw [if_neg ne1, e2]
        refine ⟨rfl, _, rfl, ?_⟩
        rw [show decide (V.str ("(" : Str) = V.str ("<" : Str)) = false by decide +kernel]
        refine iteF ?_
        refine ⟨_, rfl, p.x, p.dx, _, rfl, pa1.ob, no2, ?_⟩
        refine ⟨_, rfl, L, _, rfl, .inl (SqL.of h1L), rfl, _, rfl, ?_⟩
        have w0 : ws = [] := List.length_eq_zero_iff.mp (by rw [eL.len]; rfl)
        subst w0
        refine iteT ⟨_, rfl, TL, _, rfl, .inl (SqL.of h1T), _, _, rfl, rfl, ?_⟩
        have l6 : decide (((us.length : Nat) : Int) < 6) = true := decide_eq_true (by rw [eT.len]; have : dt.length + (rt.length + 1) = ties.length := ltie; omega)
        dsimp only
        rw [l6]
        refine ⟨_, rfl, _, rfl, .inl ⟨rfl, _, SqL.of h1T⟩, ?_⟩
        refine ⟨_, rfl, _, rfl, p, ts, j, n, zs, t, y, r, rfl, pa1, hn1, nz, okt', by rw [ed2, er], fun v H2 o2 pa2 tv => ?_⟩
        have tt2 := off_tups o2 pa1.ob
        have h2T := o2 _ _ Tx h1T
        have h2L := o2 _ _ Lx h1L
        have tt3 := tups_lst (ys := us ++ [v]) h2T
        refine ⟨TL, _, _, rfl, rfl, h2T, lt_line (by rw [eT.len]; have : dt.length + (rt.length + 1) = ties.length := ltie; omega), ?_⟩
        refine ⟨dt ++ [t], rt, [], rp, us ++ [v], [], j + (tieToks t).length, ?_, rfl, off_put (o1.trans o2) hT, upd_same, (upd_ne TLL.symm).trans h2L, ?_, .nil, by rw [List.append_assoc]; exact et, el, .inr rfl, pa2.upd h2T Tl, ?_⟩
        · rw [em]
          show _ < (rt.length + 1) + rp.length
          omega
        · exact (eT.mono fun _ _ y => y.moved (tt2.trans tt3)).snoc (tv.moved tt3)
        · rw [← List.drop_drop, ed2, List.drop_left' rfl]
      | nil =>
        cases rp with
        | nil =>
          rw [em] at m0
          exact absurd m0 (Nat.lt_irrefl 0)
        | cons x rp =>
          have mx : x ∈ less := by
            rw [← el]
            exact List.mem_append.mpr (.inr List.mem_cons_self)
          have okx := okl x mx
          have ed3 : ts.drop j = x.1 :: ("<" : Str) :: x.2 :: ((rp.map pairToks).flatMap comC ++ [("" : Str)]) := ed1
          obtain ⟨e1, _, ed4⟩ := drop_at ed3
          obtain ⟨e2, lt2, ed5⟩ := drop_at ed4
          obtain ⟨e3, lt3, ed6⟩ := drop_at ed5
          have ne1 : ts.getD j "" ≠ "" := by
            rw [e1]
            intro e
            exact (nz _ okx.1).ne (by rw [e]; decide +kernel)
          obtain ⟨y, r, er⟩ : ∃ y r, (rp.map pairToks).flatMap comC ++ [("" : Str)] = y :: r := by
            cases h : (rp.map pairToks).flatMap comC ++ [("" : Str)] with
            | nil => exact absurd h (List.append_ne_nil_of_right_ne_nil _ (List.cons_ne_nil _ _))
            | cons y r => exact ⟨y, r, rfl⟩
          refine ⟨_, rfl, p.x, p.dx, _, rfl, pa1.ob, no1, p, ts, j, rfl, pa1, fun _ => lt2, ?_⟩
          rw [if_neg ne1, e2]
          refine ⟨rfl, _, rfl, ?_⟩
          rw [decide_eq_true rfl]
          refine iteT ?_
          refine ⟨_, rfl, p.x, p.dx, _, rfl, pa1.ob, no2, ?_⟩
          have ltie' : dt.length + 0 = ties.length := ltie
          have lles' : dp.length + (rp.length + 1) = less.length := lles
          have l0 : decide ((0 : Int) < ((us.length : Nat) : Int)) = true := decide_eq_true (by rw [eT.len]; omega)
          have l3' : decide (((ws.length : Nat) : Int) < 3) = true := decide_eq_true (by rw [eL.len]; omega)
          refine ⟨_, rfl, TL, _, rfl, .inl (SqL.of h1T), _, _, rfl, rfl, _, rfl, ?_⟩
          rw [l0]
          refine iteT ⟨_, rfl, L, _, rfl, .inl (SqL.of h1L), _, _, rfl, rfl, ?_⟩
          dsimp only
          rw [l3']
          refine ⟨_, rfl, _, rfl, .inl ⟨rfl, _, SqL.of h1L⟩, ?_⟩
          refine ⟨_, rfl, _, rfl, p, ts, j, n, zs, x, y, r, rfl, pa1, hn1, okx, by rw [ed3, er], fun v H2 o2 pa2 tv => ?_⟩
          have tt2 := off_tups o2 pa1.ob
          have h2T := o2 _ _ Tx h1T
          have h2L := o2 _ _ Lx h1L
          have tt3 := tups_lst (ys := ws ++ [v]) h2L
          refine ⟨L, _, _, rfl, rfl, h2L, lt_line (by rw [eL.len]; omega), ?_⟩
          refine ⟨dt, [], dp ++ [x], rp, us, ws ++ [v], j + 3, ?_, rfl, off_put (o1.trans o2) hL0, (upd_ne TLL).trans h2T, upd_same, eT.mono fun _ _ y => y.moved (tt2.trans tt3), ?_, et, by rw [List.append_assoc]; exact el, .inl rfl, pa2.upd h2L Ll, ed6⟩
          · rw [em]
            show 0 + rp.length < 0 + (rp.length + 1)
            omega
          · exact (eL.mono fun _ _ y => y.moved (tt2.trans tt3)).snoc (tv.moved tt3)
    · rintro σ' H2 ⟨dt', rt', dp', rp', us', ws', j', lm, rfl, o2, h2T, h2L, eT2, eL2, et2, el2, side2, pa2, ed2⟩
      refine ⟨_, rfl, p.x, p.dx, _, rfl, pa2.ob, no, p, ts, j', rfl, pa2, ?_⟩
      cases h : rt'.map tieToks ++ rp'.map pairToks with
      | nil =>
        rw [h] at ed2
        obtain ⟨e1, _, _⟩ := drop_at (show ts.drop j' = ("" : Str) :: [] from ed2)
        obtain ⟨n1, n2⟩ := List.append_eq_nil_iff.mp h
        have n1' := List.map_eq_nil_iff.mp n1
        have n2' := List.map_eq_nil_iff.mp n2
        subst n1' n2'
        rw [List.append_nil] at et2 el2
        subst et2 el2
        rw [e1]
        refine ⟨rfl, _, rfl, ?_⟩
        rw [decide_eq_true rfl]
        refine iteT ⟨_, rfl, _, rfl, by show 2 ≤ sizeLine; decide, fun D hD => ?_⟩
        have sD := same_new (o := HO.tup [.ref TL, .ref L]) hD
        exact q D TL L us' ws' _ (o2.trans (Off.of sD)) upd_same (sD _ _ h2T) (sD _ _ h2L) (eT2.mono fun _ _ y => y.moved (same_tups sD)) (eL2.mono fun _ _ y => y.moved (same_tups sD))
      | cons c cs =>
        have ed3 : ts.drop j' = ("," : Str) :: (joinC (rt'.map tieToks ++ rp'.map pairToks) ++ [("" : Str)]) := by
          rw [ed2, h]
          show (("," : Str) :: (c ++ cs.flatMap comC)) ++ [("" : Str)] = _
          rfl
        obtain ⟨e1, _, ed4⟩ := drop_at ed3
        have pos : 0 < rt'.length + rp'.length := by
          have := congrArg List.length h
          rw [List.length_append, List.length_map, List.length_map] at this
          rw [this]
          exact Nat.succ_pos _
        rw [e1]
        refine ⟨rfl, _, rfl, ?_⟩
        rw [show decide (V.str ("," : Str) = V.str ("" : Str)) = false by decide +kernel]
        refine iteF ?_
        obtain ⟨y, r, er⟩ : ∃ y r, joinC (rt'.map tieToks ++ rp'.map pairToks) ++ [("" : Str)] = y :: r := by
          cases h : joinC (rt'.map tieToks ++ rp'.map pairToks) ++ [("" : Str)] with
          | nil => exact absurd h (List.append_ne_nil_of_right_ne_nil _ (List.cons_ne_nil _ _))
          | cons y r => exact ⟨y, r, rfl⟩
        refine ⟨_, rfl, p.x, p.dx, _, rfl, pa2.ob, no3, p, ts, j', congrArg (fun z => [V.ref p.x, V.str z]) e1.symm, pa2, drop_more (ed3.trans (congrArg _ er)), fun H3 o3 pa3 => ?_⟩
        have tt3 := off_tups o3 pa2.ob
        exact ⟨_, lm, dt', rt', dp', rp', us', ws', j' + 1, rfl, pos, rfl, o2.trans o3, o3 _ _ Tx h2T, o3 _ _ Lx h2L, eT2.mono fun _ _ y => y.moved tt3, eL2.mono fun _ _ y => y.moved tt3, et2, el2, side2, pa3, ed4⟩
end
end VQ
namespace VQ
open PySem L2 LamX
/-! ### a question read -/
theorem lc2_list {K : PySem.W.Frag} {a : Addr} {xs : List V} {g g1 : TG} {tt tt1 : TT} {wi1 : TI} {te : TE} {vs vs1 : List Nat} {σ : L2.St} {H1 : Hp} {D : Addr} {Qd : Hp → Prop} (Pv : Nat → Hp → Prop) (h0 : Pv 0 (upd H1 D (.lst []))) (there : ∀ i H, Pv i H → SqL K H a xs)
    (turn : ∀ (i : Nat) (x : V) (H : Hp), xs[i]? = some x → Pv i H → g x (wipe σ vs) H fun σ2 H2 => wipe σ2 vs = wipe σ vs ∧ tt σ2 H2 fun c H3 =>
      if c = true then wi1 σ2 H3 fun J1 H4 => ∃ W1 : Nat → Nat → Hp → Prop, (∃ m, W1 0 m H4) ∧ ∀ j k H, W1 j k H →
        (J1.stop j H ∧ Pv (i + 1) H) ∨ (J1.go j H ∧ ∃ Nx1 : Hp → Prop, (∀ H', Nx1 H' → ∃ k', k' < k ∧ W1 (j + 1) k' H') ∧ ∀ x H', J1.yld j H x H' → g1 x (wipe σ2 vs1) H' fun σ3 H5 => wipe σ3 vs1 = wipe σ2 vs1 ∧ tt1 σ3 H5 fun c H6 =>
          if c = true then te σ3 H6 fun y H7 => ∃ acc, H7 D = some (.lst acc) ∧ acc.length < sizeLine ∧ Nx1 (upd H7 D (.lst (acc ++ [y]))) else Nx1 H6)
      else Pv (i + 1) H3) (fin : ∀ H, Pv xs.length H → Qd H) :
    ∃ W : Nat → Nat → Hp → Prop, (∃ m, W 0 m (upd H1 D (.lst []))) ∧ ∀ i m H, W i m H →
      ((Itl K a).stop i H ∧ Qd H) ∨ ((Itl K a).go i H ∧ ∃ Nx : Hp → Prop, (∀ H', Nx H' → ∃ m', m' < m ∧ W (i + 1) m' H') ∧ ∀ x H', (Itl K a).yld i H x H' → g x (wipe σ vs) H' fun σ2 H2 => wipe σ2 vs = wipe σ vs ∧ tt σ2 H2 fun c H3 =>
        if c = true then wi1 σ2 H3 fun J1 H4 => ∃ W1 : Nat → Nat → Hp → Prop, (∃ m, W1 0 m H4) ∧ ∀ j k H, W1 j k H →
          (J1.stop j H ∧ Nx H) ∨ (J1.go j H ∧ ∃ Nx1 : Hp → Prop, (∀ H', Nx1 H' → ∃ k', k' < k ∧ W1 (j + 1) k' H') ∧ ∀ x H', J1.yld j H x H' → g1 x (wipe σ2 vs1) H' fun σ3 H5 => wipe σ3 vs1 = wipe σ2 vs1 ∧ tt1 σ3 H5 fun c H6 =>
            if c = true then te σ3 H6 fun y H7 => ∃ acc, H7 D = some (.lst acc) ∧ acc.length < sizeLine ∧ Nx1 (upd H7 D (.lst (acc ++ [y]))) else Nx1 H6)
        else Nx H3) := by
  refine ⟨fun i m H => m + i = xs.length ∧ Pv i H, ⟨xs.length, rfl, h0⟩, ?_⟩
  rintro i m H ⟨em, p⟩
  have sq := there i H p
  by_cases lt : i < xs.length
  · refine .inr ⟨⟨xs, xs[i], sq, List.getElem?_eq_getElem lt⟩, Pv (i + 1), fun H' p' => ⟨m - 1, by omega, by omega, p'⟩, ?_⟩
    rintro x H' ⟨rfl, ex⟩
    exact turn i x _ (ex xs sq) p
  · obtain rfl : i = xs.length := by omega
    exact .inl ⟨⟨xs, sq, Nat.le_refl _⟩, fin H p⟩
section
variable {P : Program} {w : World} {K : PySem.W.Frag} {mg : Str → Option Value} {base : Heap} {C aB : Addr}
def spAllTiedL : Sp := fun vs H Q _ => ∃ (n t : Addr) (ts : List V) (q : Qn), vs = [.ref n, .ref t] ∧ H n = some (.lst (q.names.map V.str)) ∧ H t = some (.lst ts) ∧ Each (TieAt H) ts q.ties ∧ QOk q ∧ ∀ H', Same H H' → Q (.bl true) H'
theorem has_alltiedL (b : Blt mg) (a : AtE K mg "all_tied" sAllTied ["names", "ties"]) : Has P w K mg base CX0 1 "all_tied" sAllTied ["names", "ties"] (spAllTiedL) := by
  obtain ⟨f, fd, a⟩ := a
  refine ⟨f, fd, a, a.fn.ok scAllTied (fun vs H Q E h => ?_) (fun cdv A outer s H vs Q E hr1 h => ?_)⟩
  · obtain ⟨n, t, ts, q, rfl, _⟩ := h
    rfl
  · obtain ⟨n, t, ts, q, rfl, hn, ht, et, ok, k⟩ := h
    refine ⟨_,
    (pss_cons (ps_set (i := 2) scAllTied.nd rfl (.inr rfl) (pe_lc2 (own := [("tie", 3), ("term", 4)]) (vs1 := [4]) (g := (gName 3)) (tt := tYes) (wi1 := (iTup K (tOp (rIxT K) (tVar 3) (tC (.int 1))))) (g1 := (gName 4)) (tt1 := tYes) (te := (tVar 4)) rfl scAllTied.nd (pi_list (pv 1)) (blkOk_by (N := nAllTied) (sc := defScope sAllTied) (by decide +kernel)) (by decide) (fun _ _ _ _ _ => (pg_name (i := 3) scAllTied.nd rfl (.inl rfl))) (fun _ _ _ _ _ => pts_nil) (fun _ _ _ _ _ => (pi_tup (pe_ix ix_tup (pv 3) pe_int fun _ _ => rfl))) (fun _ _ _ _ _ => (pg_name (i := 4) scAllTied.nd rfl (.inl rfl))) (fun _ _ _ _ _ => pts_nil) (fun _ _ _ _ _ => (pv 4))))
    (pss_one (ps_ret (pe_callB (cr_all rfl) (by rfl) b.all (by decide +kernel) (pa_cons (pe_lc (own := [("name", 5)]) (g := (gName 5)) (tt := tYes) (te := (tOp (rIn K false) (tVar 5) (tVar 2))) rfl scAllTied.nd (pi_list (pv 0)) (blkOk_by (N := nAllTied) (sc := defScope sAllTied) (by decide +kernel)) (fun _ _ _ _ _ => (pg_name (i := 5) scAllTied.nd rfl (.inl rfl))) (fun _ _ _ _ _ => pts_nil) (fun _ _ _ _ _ => (pe_cmpR op_in_seq (pv 5) (pv 2) rfl))) pa_nil))))), ?_⟩
    refine ⟨_, rfl, t, rfl, ⟨_, SqL.of ht⟩, fun D hD => ?_⟩
    have lts : ts.length ≤ 6 := by rw [et.len]; exact ok.t6
    have few : ∀ i, (((q.ties.take i).flatMap (·.2)).map termV).length ≤ 4 * i := by
      intro i
      rw [List.length_map]
      induction i with
      | zero => simp
      | succ i ih =>
        rw [List.take_add_one, List.flatMap_append, List.length_append]
        cases e : q.ties[i]? with
        | none =>
          show _ + 0 ≤ _
          omega
        | some tie =>
          have h4 := (ok.tt tie (List.mem_of_getElem? e)).hi
          show _ + (List.flatMap (·.2) [tie]).length ≤ _
          rw [List.flatMap_cons, List.flatMap_nil, List.append_nil]
          omega
    refine lc2_list (xs := ts) (fun i H' => Same H H' ∧ i ≤ ts.length ∧ H' D = some (.lst (((q.ties.take i).flatMap (·.2)).map termV))) ⟨same_new hD, Nat.zero_le _, upd_same⟩ (fun i H' z => SqL.of (z.1 _ _ ht)) ?_ ?_
    · rintro i x H2 hx ⟨s2, li, h2⟩
      obtain ⟨tie, etie, a, c, rfl, ha, hc⟩ := et.get hx
      have tok := ok.tt tie (List.mem_of_getElem? etie)
      have l4 := tok.hi
      have li' : i < ts.length := (List.getElem?_eq_some_iff.mp hx).1
      refine ⟨rfl, yes_turn ?_⟩
      refine ⟨_, rfl, a, _, _, _, rfl, rfl, SqT.of (s2 _ _ ha), atI_nat (j := 1) rfl, c, rfl, ⟨_, SqT.of (s2 _ _ hc)⟩, ?_⟩
      refine in_tup (ys := tie.2.map termV) (fun j H' => Same H H' ∧ H' D = some (.lst (((q.ties.take i).flatMap (·.2)).map termV ++ (tie.2.take j).map termV))) ⟨s2, by simpa using h2⟩ (fun i H' z => SqT.of (z.1 _ _ hc)) ?_ ?_
      · rintro j y H3 hy ⟨s3, h3⟩
        obtain ⟨u, eu, rfl⟩ := getF hy
        refine ⟨rfl, yes_turn ⟨_, rfl, _, h3, ?_, same_put s3 hD, ?_⟩⟩
        · have := few i
          rw [List.length_append, List.length_map (as := tie.2.take j), List.length_take]
          exact lt_line (by omega)
        · rw [upd_same, List.append_assoc, ← take_snoc termV eu]
      · rintro H3 ⟨s3, h3⟩
        refine ⟨s3, by omega, ?_⟩
        rw [h3, List.take_add_one, etie, List.length_map, List.take_of_length_le (Nat.le_refl _)]
        simp
    · rintro H2 ⟨s2, _, h2⟩
      rw [et.len, List.take_of_length_le (Nat.le_refl _)] at h2
      refine ⟨_, rfl, n, rfl, ⟨_, SqL.of (s2 _ _ hn)⟩, fun D2 hD2 => ?_⟩
      have z5 := ok.n5
      refine lc_listV (xs := q.names.map V.str) (fun _ => .bl true) hD2 (SqL.of (s2 _ _ hn)) (by rw [List.length_map]; omega) ?_ ?_
      · rintro i x H3 hx s3 k1 k2 y1
        obtain ⟨z, ez, rfl⟩ := map_get hx
        refine ⟨rfl, yes_turn ?_⟩
        refine ⟨_, rfl, _, rfl, D, _, rfl, .inl (SqL.of (s3 _ _ h2)), rfl, terms_flat _, ?_⟩
        obtain ⟨tie, mt, mz⟩ := ok.all z (List.mem_of_getElem? ez)
        rw [inV_term, decide_eq_true (List.mem_flatMap.mpr ⟨tie, mt, mz⟩)]
        exact y1 _ (Same.refl _)
      · intro H3 s3 h3
        refine ⟨D2, q.names.map fun _ => true, rfl, SqL.of (by rw [h3, List.map_map, List.map_map]; rfl), ?_⟩
        have e2 : (q.names.map fun _ => true).all id = true := by
          rw [List.all_map]
          exact List.all_eq_true.mpr fun _ _ => rfl
        rw [e2]
        exact k H3 (s2.trans s3)
end
abbrev sReadQuestion : Stmt := top 35
abbrev nReadQuestion : List Str := ["text", "parts", "names", "many", "ties", "less"]
theorem scReadQuestion : FnScope nReadQuestion ["text"] (defScope sReadQuestion) := ⟨rfl, rfl, rfl, by decide +kernel, rfl, by decide +kernel, by decide +kernel⟩
section
variable {P : Program} {w : World} {K : PySem.W.Frag} {mg : Str → Option Value} {base : Heap} {C aB : Addr}
def clauses (q : Qn) : List (List Str) := q.ties.map tieToks ++ q.less.map pairToks
def someToks (q : Qn) : List Str := if q.many < q.names.length then ("some" : Str) :: q.names.drop q.many else []
def qToks (q : Qn) : List Str := ("find" : Str) :: (q.names.take q.many ++ (someToks q ++ (":" : Str) :: joinC (clauses q)))
/-- the class, as it is made -/
def PMake (P : Program) (w : World) (K : PySem.W.Frag) (mg : Str → Option Value) (base : Heap) (C : Addr) : Prop := ∃ f fd, Mk K C f ∧ mg "Parts" = some (.ref C) ∧ Binds K fd ["self", "text"] [] ∧ FnOk P w K mg base CX0 3 f fd ["self", "text"] (spPInit C)
def spReadQ : Sp := fun vs H Q _ => ∃ (z : Str) (q : Qn), vs = [.str z] ∧ z.length ≤ 900 ∧ Spell z.cps.toList (qToks q) ∧ QOk q ∧ ∀ (a : Addr) (H' : Hp), Same H H' → QAt H' a q → Q (.ref a) H'
theorem has_readq (b : Blt mg) (M : PMeth P w K mg base C) (Mp : PMake P w K mg base C) (hRs : Has P w K mg base CX0 5 "read_names" sReadNames ["parts", "names"] (spReadNames C)) (hRc : Has P w K mg base CX0 5 "read_clauses" sReadClauses ["parts", "names"] (spReadCl C)) (hAt : Has P w K mg base CX0 1 "all_tied" sAllTied ["names", "ties"] spAllTiedL) (a : AtE K mg "read_question" sReadQuestion ["text"]) : Has P w K mg base CX0 6 "read_question" sReadQuestion ["text"] spReadQ := by
  obtain ⟨f, fd, a⟩ := a
  obtain ⟨T, ⟨fTh, fdTh, mTh, bTh, GTh⟩, _, _, _, ⟨fRg, fdRg, mRg, bRg, GRg⟩⟩ := M
  obtain ⟨fPi, fdPi, Mp, gP, bPi, GPi⟩ := Mp
  obtain ⟨fRs, fdRs, aRs, GRs⟩ := hRs
  obtain ⟨fRc, fdRc, aRc, GRc⟩ := hRc
  obtain ⟨fAt, fdAt, aAt, GAt⟩ := hAt
  refine ⟨f, fd, a, a.fn.ok scReadQuestion (fun vs H Q E h => ?_) (fun cdv A outer s H vs Q E hr5 h => ?_)⟩
  · obtain ⟨z, q, rfl, _⟩ := h
    rfl
  · obtain ⟨z, q, rfl, z9, sp, ok, k⟩ := h
    have hr1 : Room 1 _ := hr5.mono (by decide)
    have hr3 : Room 3 _ := hr5.mono (by decide)
    have hr4 : Room 4 _ := hr5.mono (by decide)
    have no : ∀ {l : Addr} {j : Int}, (pf l j).lookup ("this" : Str) = none := pf_no _ _ (by decide +kernel) (by decide +kernel)
    have no3 : ∀ {l : Addr} {j : Int}, (pf l j).lookup ("read_sign" : Str) = none := pf_no _ _ (by decide +kernel) (by decide +kernel)
    refine ⟨_,
    (pss_cons (ps_set (i := 1) scReadQuestion.nd rfl (.inl rfl) (pe_make Mp GPi hr4 rfl gP bPi .nil pass0 (pa_cons (pv 0) pa_nil)))
    (pss_cons (ps_expr (pe_meth (pv 1) T.cl mRg GRg hr3 bRg .nil pass0 (pa_cons pe_str pa_nil)))
    (pss_cons (ps_set (i := 2) scReadQuestion.nd rfl (.inl rfl) (pe_call GRs hr5 rfl aRs.gl aRs.fn.kp aRs.bd .nil pass0 (pa_cons (pv 1) (pa_cons (pe_lst pa_nil) pa_nil))))
    (pss_cons (ps_set (i := 3) scReadQuestion.nd rfl (.inl rfl) (pe_callB call_len_seq (by rfl) b.len PySem.boot_len (pa_cons (pv 2) pa_nil)))
    (C8.pss_cut (ps_if (pt_cmpR op_eq (pe_meth0 (pv 1) T.cl mTh GTh hr1 bTh .nil pass0) pe_str (nomark _))
      (pss_cons (ps_expr (pe_meth (pv 1) T.cl mRg GRg hr3 bRg .nil pass0 (pa_cons pe_str pa_nil)))
      (pss_one (ps_set (i := 2) scReadQuestion.nd rfl (.inl rfl) (pe_call GRs hr5 rfl aRs.gl aRs.fn.kp aRs.bd .nil pass0 (pa_cons (pv 1) (pa_cons (pv 2) pa_nil))))))
      pss_nil)
    (pss_cons (ps_expr (pe_meth (pv 1) T.cl mRg GRg hr3 bRg .nil pass0 (pa_cons pe_str pa_nil)))
    (pss_cons (ps_asg (pe_call GRc hr5 rfl aRc.gl aRc.fn.kp aRc.bd .nil pass0 (pa_cons (pv 1) (pa_cons (pv 2) pa_nil))) (pg_tup rfl (pgs_cons (pg_name (i := 4) scReadQuestion.nd rfl (.inl rfl)) (pgs_cons (pg_name (i := 5) scReadQuestion.nd rfl (.inl rfl)) pgs_nil))))
    (pss_cons (ps_if (pt_not (pt_val (pe_call GAt hr1 rfl aAt.gl aAt.fn.kp aAt.bd .nil pass0 (pa_cons (pv 2) (pa_cons (pv 4) pa_nil)))))
      (pss_one ps_never)
      pss_nil)
    (pss_one (ps_ret (pe_tup (pa_cons (pe_callTy call_tuple_of (by rfl) b.tuple (by decide +kernel) (pa_cons (pv 2) pa_nil)) (pa_cons (pv 3) (pa_cons (pe_callTy call_tuple_of (by rfl) b.tuple (by decide +kernel) (pa_cons (pv 4) pa_nil)) (pa_cons (pe_callTy call_tuple_of (by rfl) b.tuple (by decide +kernel) (pa_cons (pv 5) pa_nil)) pa_nil))))))))))))))), ?_⟩
    generalize ets : qToks q ++ [("" : Str)] = ts
    generalize ecl : joinC (clauses q) ++ [("" : Str)] = cl
    have clne : cl ≠ [] := by
      rw [← ecl]
      exact List.append_ne_nil_of_right_ne_nil _ (List.cons_ne_nil _ _)
    obtain ⟨c0, cl0, ecl0⟩ := List.exists_cons_of_ne_nil clne
    obtain ⟨y, r, et, cs⟩ : ∃ (y : Str) (r : List Str), ts.drop 0 = ("find" : Str) :: (q.names.take q.many ++ y :: r) ∧ ((y = "some" ∧ q.many < q.names.length ∧ r = q.names.drop q.many ++ (":" : Str) :: cl) ∨ (y = ":" ∧ q.many = q.names.length ∧ r = cl)) := by
      by_cases c : q.many < q.names.length
      · refine ⟨"some", _, ?_, .inl ⟨rfl, c, rfl⟩⟩
        rw [← ets, ← ecl]
        show ("find" : Str) :: ((q.names.take q.many ++ (someToks q ++ (":" : Str) :: joinC (clauses q))) ++ [("" : Str)]) = _
        unfold someToks
        rw [if_pos c]
        simp
      · refine ⟨":", _, ?_, .inr ⟨rfl, Nat.le_antisymm ok.mn (Nat.le_of_not_lt c), rfl⟩⟩
        rw [← ets, ← ecl]
        show ("find" : Str) :: ((q.names.take q.many ++ (someToks q ++ (":" : Str) :: joinC (clauses q))) ++ [("" : Str)]) = _
        unfold someToks
        rw [if_neg c]
        simp
    obtain ⟨e0, _, et1⟩ := drop_at et
    have n5 := ok.n5
    have wl : (q.names.take q.many).length = q.many := by rw [List.length_take]; exact Nat.min_eq_left ok.mn
    have wne : q.names.take q.many ≠ [] := fun e => by
      have := ok.m1
      rw [e] at wl
      rw [← wl] at this
      exact absurd this (by decide)
    obtain ⟨w0, wr, ew⟩ := List.exists_cons_of_ne_nil wne
    have et2 : ts.drop (0 + 1 + (q.names.take q.many).length) = y :: r := by
      rw [← List.drop_drop, et1, List.drop_left' rfl]
    refine ⟨_, rfl, fun x dx nx ndx nex => ?_⟩
    have new : ∀ q o, H q = some o → upd (upd H dx (.own x)) x (.ins C dx []) q = some o := fun q o e => by
      rw [upd_ne (ne_of_none e nx), upd_ne (ne_of_none e ndx)]
      exact e
    refine ⟨x, dx, z, qToks q, rfl, upd_same, z9, sp, fun l H1 o1 nl pa1 => ⟨rfl, ?_⟩⟩
    rw [ets] at pa1
    have o01 : Off x H H1 := fun q o ne e => o1 q o ne (new q o e)
    refine ⟨_, rfl, x, dx, _, rfl, pa1.ob, no3, ⟨x, dx, l⟩, ts, 0, congrArg (fun z => [V.ref x, V.str z]) e0.symm, pa1, drop_more (et.trans (by rw [ew]; rfl)), fun H2 o2 pa2 => ?_⟩
    have o02 := o01.trans o2
    refine ⟨_, rfl, by show 0 ≤ sizeLine; decide, fun N hN => ?_⟩
    have sN := same_new (o := HO.lst []) hN
    have pa2' := pa2.same sN
    have o02' := o02.trans (Off.of sN)
    refine ⟨⟨x, dx, l⟩, ts, 0 + 1, N, [], q.names.take q.many, y, r, rfl, pa2', upd_same, et1, wne, fun z m => ok.nm z (List.mem_of_mem_take m), ok.nd.sublist (List.take_sublist _ _), ?_, ?_, fun D H3 o3 nD hD pa3 => ?_⟩
    · show (q.names.take q.many).length ≤ 5
      have := ok.mn
      omega
    · rcases cs with ⟨rfl, _⟩ | ⟨rfl, _⟩
      · exact .inr rfl
      · exact .inl rfl
    have o03 := o02'.trans o3
    have hD' : H3 D = some (.lst ((q.names.take q.many).map V.str)) := hD
    refine ⟨_, rfl, D, _, rfl, .inl (SqL.of hD'), ?_⟩
    rw [List.length_map, wl]
    obtain ⟨e2, _, _⟩ := drop_at et2
    refine ⟨fun σ' H' => ∃ (D' : Addr) (j : Nat), σ' = [some (.str z), some (.ref x), some (.ref D'), some (.int (q.many : Nat)), none, none] ∧ Off x H H' ∧ H' D' = some (.lst (q.names.map V.str)) ∧ PAt C H' ⟨x, dx, l⟩ ts j ∧ ts.drop j = (":" : Str) :: cl, ?_, ?_⟩
    · refine ⟨_, rfl, x, dx, _, rfl, pa3.ob, no, ⟨x, dx, l⟩, ts, _, rfl, pa3, ?_⟩
      rw [e2]
      refine ⟨rfl, _, rfl, ?_⟩
      rcases cs with ⟨rfl, lm, er⟩ | ⟨rfl, em, er⟩
      · rw [decide_eq_true rfl]
        refine iteT ?_
        have dl : (q.names.drop q.many).length = q.names.length - q.many := List.length_drop
        have dne : q.names.drop q.many ≠ [] := fun e => by
          rw [e] at dl
          have dl' : 0 = q.names.length - q.many := dl
          omega
        obtain ⟨d0, dr, edr⟩ := List.exists_cons_of_ne_nil dne
        refine ⟨_, rfl, x, dx, _, rfl, pa3.ob, no3, ⟨x, dx, l⟩, ts, _, congrArg (fun z => [V.ref x, V.str z]) e2.symm, pa3, drop_more (et2.trans (by rw [er, edr]; rfl)), fun H4 o4 pa4 => ?_⟩
        have Dx : D ≠ x := fun e => by
          have := pa3.ob
          rw [← e] at this
          rw [hD'] at this
          cases this
        obtain ⟨_, _, et3⟩ := drop_at et2
        refine ⟨_, rfl, _, rfl, ⟨x, dx, l⟩, ts, _, D, q.names.take q.many, q.names.drop q.many, ":", cl, rfl, pa4, o4 _ _ Dx hD', by rw [et3, er], dne, fun z m => ok.nm z (List.mem_of_mem_drop m), by rw [List.take_append_drop]; exact ok.nd, by rw [List.take_append_drop]; exact n5, .inl rfl, fun D2 H5 o5 nD2 hD2 pa5 => ?_⟩
        rw [List.take_append_drop] at hD2
        refine ⟨D2, _, rfl, (o03.trans o4).trans o5, hD2, pa5, ?_⟩
        rw [← List.drop_drop, et3, er, List.drop_left' rfl]
      · rw [show decide (V.str (":" : Str) = V.str ("some" : Str)) = false by decide +kernel]
        refine iteF ⟨D, _, rfl, o03, ?_, pa3, by rw [et2, er]⟩
        rw [hD', em, List.take_of_length_le (Nat.le_refl _)]
    · rintro σ' H6 ⟨D', j, rfl, o6, h6, pa6, ed6⟩
      obtain ⟨e3, _, ed7⟩ := drop_at ed6
      have Dx : D' ≠ x := fun e => by
        have := pa6.ob
        rw [← e] at this
        rw [h6] at this
        cases this
      refine ⟨_, rfl, x, dx, _, rfl, pa6.ob, no3, ⟨x, dx, l⟩, ts, j, congrArg (fun z => [V.ref x, V.str z]) e3.symm, pa6, drop_more (ed6.trans (by rw [ecl0])), fun H7 o7 pa7 => ?_⟩
      have h7 := o7 _ _ Dx h6
      refine ⟨_, rfl, _, rfl, ⟨x, dx, l⟩, ts, j + 1, D', q.names, q.ties, q.less, rfl, pa7, h7, ok.nm, ok.t1, ok.t6, ok.tt, ok.l3, fun p m => ok.ll p m, by rw [ed7, ← ecl]; rfl, fun a t l2 us ws H8 o8 ha ht hl et8 el8 => ?_⟩
      refine ⟨a, _, rfl, SqT.of ha, rfl, _, _, rfl, _, _, rfl, rfl, ?_⟩
      have h8 := o8 _ _ Dx h7
      refine ⟨_, rfl, _, rfl, D', t, us, q, rfl, h8, ht, et8, ok, fun H9 s9 => ⟨_, rfl, iteF ?_⟩⟩
      refine ⟨_, rfl, D', _, rfl, .inl ⟨SqL.of (s9 _ _ h8), fun n hn => ?_⟩⟩
      have sn := same_new (o := HO.tup (q.names.map V.str)) hn
      have s10 := s9.trans sn
      refine ⟨_, rfl, _, rfl, t, _, rfl, .inl ⟨SqL.of (s10 _ _ ht), fun t' ht' => ?_⟩⟩
      have st := same_new (o := HO.tup us) ht'
      have s11 := s10.trans st
      refine ⟨_, rfl, l2, _, rfl, .inl ⟨SqL.of (s11 _ _ hl), fun l' hl' => ?_⟩⟩
      have sl := same_new (o := HO.tup ws) hl'
      have s12 := s11.trans sl
      refine ⟨by show 4 ≤ sizeLine; decide, fun A' hA => ?_⟩
      have sA := same_new (o := HO.tup [.ref n, .int (q.many : Nat), .ref t', .ref l']) hA
      have s13 := s12.trans sA
      have oall : Off x H _ := ((o6.trans o7).trans o8).trans (Off.of s13)
      refine k A' _ (fun a o h => oall a o (ne_of_none h nx) h) ⟨n, t', l', upd_same, (st.trans (sl.trans sA)) _ _ upd_same, ⟨us, (sl.trans sA) _ _ upd_same, et8.mono fun _ _ y => y.moved (same_tups s13)⟩, ⟨ws, sA _ _ upd_same, el8.mono fun _ _ y => y.moved (same_tups s13)⟩⟩
end
end VQ
namespace VQ
open PySem L2 LamX
/-! ### what the text of a question spells -/
def SepL (cs : List Nat) : Prop := ∀ c, cs.head? = some c → letB c = false ∧ digB c = false
theorem sep_cons {c : Nat} {cs : List Nat} (h : letB c = false ∧ digB c = false) : SepL (c :: cs) := fun d e => by
  cases e
  exact h
theorem sep_nil : SepL [] := fun d e => by cases e
theorem Spell.app {a b : List Nat} {ts us : List Str} (h : Spell a ts) (g : Spell b us) (s : SepL b) : Spell (a ++ b) (ts ++ us) := by
  induction h with
  | nil => exact g
  | blank _ ih => exact .blank ih
  | @tok w cs ts t _ ih =>
    rw [List.append_assoc]
    refine .tok ?_ ih
    cases cs with
    | nil =>
      cases t with
      | word ne all _ => exact .word ne all fun c e => (s c e).1
      | num ne all _ => exact .num ne all fun c e => (s c e).2
      | sign n1 n2 n3 => exact .sign n1 n2 n3
    | cons d cs =>
      cases t with
      | word ne all end_ => exact .word ne all fun c e => end_ c e
      | num ne all end_ => exact .num ne all fun c e => end_ c e
      | sign n1 n2 n3 => exact .sign n1 n2 n3
theorem str_tl (z : Str) : (⟨(TL.tl z).toArray⟩ : Str) = z := TL.ext_tl rfl
theorem spell_one {z : Str} (t : Tok (TL.tl z) []) : Spell (TL.tl z) [z] := by
  have h := Spell.tok t .nil
  rw [List.append_nil, str_tl] at h
  exact h
theorem spell_word {z : Str} (ne : TL.tl z ≠ []) (all : ∀ c ∈ TL.tl z, letB c = true) : Spell (TL.tl z) [z] := spell_one (.word ne all fun c e => by cases e)
theorem spell_name {m : Nat} {z : Str} (h : NameS m z) : Spell (TL.tl z) [z] := spell_word h.ne h.lt
theorem spell_num {n : Nat} (h : n < 32) : Spell (TL.tl (numS n)) [numS n] := by
  obtain ⟨_, ne, all, _⟩ := nums_dig n h
  exact spell_one (.num ne all fun c e => by cases e)
theorem spell_sign {c : Nat} {z : Str} (e : TL.tl z = [c]) (h : letB c = false ∧ digB c = false) (n : c ≠ 32) : Spell (TL.tl z) [z] := by
  refine spell_one ?_
  rw [e]
  exact .sign h.1 h.2 n
theorem s32 : letB 32 = false ∧ digB 32 = false := by decide +kernel
theorem s44 : letB 44 = false ∧ digB 44 = false := by decide +kernel
theorem s40 : letB 40 = false ∧ digB 40 = false := by decide +kernel
theorem s41 : letB 41 = false ∧ digB 41 = false := by decide +kernel
theorem s58 : letB 58 = false ∧ digB 58 = false := by decide +kernel
theorem s60 : letB 60 = false ∧ digB 60 = false := by decide +kernel
theorem t32 : TL.tl (" " : Str) = [32] := by decide +kernel
theorem t44 : TL.tl ("," : Str) = [44] := by decide +kernel
theorem t40 : TL.tl ("(" : Str) = [40] := by decide +kernel
theorem t41 : TL.tl (")" : Str) = [41] := by decide +kernel
theorem t58 : TL.tl (":" : Str) = [58] := by decide +kernel
theorem t60 : TL.tl ("<" : Str) = [60] := by decide +kernel
theorem tcs : TL.tl (", " : Str) = [44, 32] := by decide +kernel
theorem tle : TL.tl (" < " : Str) = [32, 60, 32] := by decide +kernel
theorem tco : TL.tl (" : " : Str) = [32, 58, 32] := by decide +kernel
theorem tl_join' (y : Str) (ps : List Str) : TL.tl (Txt.join y ps) = TL.joinL (TL.tl y) (ps.map TL.tl) := by
  rw [TL.join_eq]
  exact TL.tl_join y ps
def tieTx (t : Str × List Term) : Str := t.1 ++ "(" ++ Txt.join "," (t.2.map tokT) ++ ")"
def pairTx (p : Str × Str) : Str := p.1 ++ " < " ++ p.2
def wordsQ (q : Qn) : List Str := ("find" : Str) :: (q.names.take q.many ++ someToks q)
def clTx (q : Qn) : List Str := q.ties.map tieTx ++ q.less.map pairTx
def qTx (q : Qn) : Str := Txt.join " " (wordsQ q) ++ " : " ++ Txt.join ", " (clTx q)
theorem spell_term {zs : List Str} (nz : ∀ z ∈ zs, NameS 4 z) {t : Term} (ok : TermOk zs t) : Spell (TL.tl (tokT t)) [tokT t] := by
  cases t with
  | wo n => exact spell_num ok
  | nm z => exact spell_name (nz z ok)
theorem spell_terms {zs : List Str} (nz : ∀ z ∈ zs, NameS 4 z) : ∀ {ts : List Term}, (∀ t ∈ ts, TermOk zs t) → Spell (TL.joinL [44] ((ts.map tokT).map TL.tl)) (commaT ts)
  | [], _ => .nil
  | [t], ok => spell_term nz (ok t List.mem_cons_self)
  | t :: u :: r, ok => by
    have ih := spell_terms nz (ts := u :: r) fun x m => ok x (List.mem_cons_of_mem _ m)
    have h1 := spell_term nz (ok t List.mem_cons_self)
    have hc : Spell [44] [("," : Str)] := by
      have := spell_sign t44 s44 (by decide)
      rw [t44] at this
      exact this
    have s2 : ∀ {b : List Nat} {us : List Str}, Spell b us → Spell ([44] ++ b) ([("," : Str)] ++ us) := fun {b us} g => by
      have e : (⟨#[44]⟩ : Str) = "," := TL.ext_tl (by rw [t44])
      have := Spell.tok (Tok.sign (cs := b) s44.1 s44.2 (by decide)) g
      rw [show (⟨[44].toArray⟩ : Str) = "," from e] at this
      exact this
    exact h1.app (s2 ih) (sep_cons s44)
theorem sign_on {c : Nat} {z : Str} (e : TL.tl z = [c]) (h : letB c = false ∧ digB c = false) (n : c ≠ 32) {b : List Nat} {us : List Str} (g : Spell b us) : Spell (c :: b) (z :: us) := by
  have e' : (⟨[c].toArray⟩ : Str) = z := TL.ext_tl (by rw [e])
  have := Spell.tok (Tok.sign (cs := b) h.1 h.2 n) g
  rw [e'] at this
  exact this
theorem spell_tie {zs : List Str} (nz : ∀ z ∈ zs, NameS 4 z) {t : Str × List Term} (ok : TieOk zs t) : Spell (TL.tl (tieTx t)) (tieToks t) := by
  unfold tieTx tieToks
  rw [TL.tl_append, TL.tl_append, TL.tl_append, tl_join', t40, t41, t44, List.append_assoc, List.append_assoc]
  exact (spell_name ok.nm).app (sign_on t40 s40 (by decide) ((spell_terms nz ok.tm).app (sign_on t41 s41 (by decide) .nil) (sep_cons s41))) (sep_cons s40)
theorem spell_pair {zs : List Str} (nz : ∀ z ∈ zs, NameS 4 z) {p : Str × Str} (h1 : p.1 ∈ zs) (h2 : p.2 ∈ zs) : Spell (TL.tl (pairTx p)) (pairToks p) := by
  unfold pairTx pairToks
  rw [TL.tl_append, TL.tl_append, tle, List.append_assoc]
  exact (spell_name (nz _ h1)).app (.blank (sign_on t60 s60 (by decide) (.blank (spell_name (nz _ h2))))) (sep_cons s32)
theorem spell_clauses : ∀ (cs : List (Str × List Str)), (∀ c ∈ cs, Spell (TL.tl c.1) c.2) → Spell (TL.joinL [44, 32] ((cs.map (·.1)).map TL.tl)) (joinC (cs.map (·.2)))
  | [], _ => .nil
  | [c], h => by
    show Spell (TL.tl c.1) (c.2 ++ [])
    rw [List.append_nil]
    exact h c List.mem_cons_self
  | c :: d :: r, h => (h c List.mem_cons_self).app (sign_on t44 s44 (by decide) (.blank (spell_clauses (d :: r) fun x m => h x (List.mem_cons_of_mem _ m)))) (sep_cons s44)
theorem spell_words : ∀ (ws : List Str), (∀ z ∈ ws, Spell (TL.tl z) [z]) → Spell (TL.joinL [32] (ws.map TL.tl)) ws
  | [], _ => .nil
  | [z], h => h z List.mem_cons_self
  | z :: y :: r, h => (h z List.mem_cons_self).app (us := y :: r) (.blank (spell_words (y :: r) fun x m => h x (List.mem_cons_of_mem _ m))) (sep_cons s32)
theorem spell_some : Spell (TL.tl ("some" : Str)) [("some" : Str)] := spell_word (by decide +kernel) (by decide +kernel)
theorem spell_find : Spell (TL.tl ("find" : Str)) [("find" : Str)] := spell_word (by decide +kernel) (by decide +kernel)
theorem spell_q {q : Qn} (ok : QOk q) : Spell (TL.tl (qTx q)) (qToks q) := by
  have hw : Spell (TL.joinL [32] ((wordsQ q).map TL.tl)) (wordsQ q) := by
    refine spell_words _ fun z m => ?_
    unfold wordsQ someToks at m
    rcases List.mem_cons.mp m with rfl | m
    · exact spell_find
    rcases List.mem_append.mp m with m | m
    · exact spell_name (ok.nm z (List.mem_of_mem_take m))
    split at m
    · rcases List.mem_cons.mp m with rfl | m
      · exact spell_some
      · exact spell_name (ok.nm z (List.mem_of_mem_drop m))
    · cases m
  have hc : Spell (TL.joinL [44, 32] ((clTx q).map TL.tl)) (joinC (clauses q)) := by
    have h := spell_clauses (q.ties.map (fun t => (tieTx t, tieToks t)) ++ q.less.map (fun p => (pairTx p, pairToks p))) fun c m => by
      rcases List.mem_append.mp m with m | m
      · obtain ⟨t, mt, rfl⟩ := List.mem_map.mp m
        exact spell_tie ok.nm (ok.tt t mt)
      · obtain ⟨p, mp, rfl⟩ := List.mem_map.mp m
        exact spell_pair ok.nm (ok.ll p mp).1 (ok.ll p mp).2.1
    have e1 : (q.ties.map (fun t => (tieTx t, tieToks t)) ++ q.less.map (fun p => (pairTx p, pairToks p))).map (·.1) = clTx q := by
      rw [List.map_append, List.map_map, List.map_map]
      rfl
    have e2 : (q.ties.map (fun t => (tieTx t, tieToks t)) ++ q.less.map (fun p => (pairTx p, pairToks p))).map (·.2) = clauses q := by
      rw [List.map_append, List.map_map, List.map_map]
      rfl
    rw [e1, e2] at h
    exact h
  unfold qTx
  rw [TL.tl_append, TL.tl_append, tl_join', tl_join', tco, t32, tcs, List.append_assoc]
  have := hw.app (.blank (sign_on t58 s58 (by decide) (.blank hc))) (sep_cons s32)
  have e : wordsQ q ++ (":" : Str) :: joinC (clauses q) = qToks q := by
    unfold wordsQ qToks
    show ("find" : Str) :: ((q.names.take q.many ++ someToks q) ++ (":" : Str) :: joinC (clauses q)) = _
    rw [List.append_assoc]
  rw [← e]
  exact this
/-! how long they are -/
theorem join_few (y : Str) {b : Nat} : ∀ (ps : List Str), (∀ p ∈ ps, p.length ≤ b) → (Txt.join y ps).length ≤ ps.length * (b + y.length)
  | [], _ => by
    rw [TL.join_eq]
    exact Nat.zero_le _
  | [p], h => by
    have e : Txt.join y [p] = p := by rw [TL.join_eq]; rfl
    rw [e]
    have := h p List.mem_cons_self
    show p.length ≤ 1 * _
    omega
  | p :: q :: r, h => by
    have e : TL.tl (Txt.join y (p :: q :: r)) = TL.tl p ++ (TL.tl y ++ TL.tl (Txt.join y (q :: r))) := by rw [tl_join', tl_join']; rfl
    have e2 : (Txt.join y (p :: q :: r)) = p ++ (y ++ Txt.join y (q :: r)) := TL.ext_tl (by rw [e, TL.tl_append, TL.tl_append])
    have ih := join_few y (q :: r) fun x m => h x (List.mem_cons_of_mem _ m)
    have hp := h p List.mem_cons_self
    rw [e2, Str.length_append, Str.length_append]
    rw [show (p :: q :: r).length = (q :: r).length + 1 from rfl, Nat.add_mul, Nat.one_mul]
    omega
theorem sum_few {b : Nat} : ∀ (ps : List Str), (∀ p ∈ ps, p.length ≤ b) → (ps.map (·.length)).sum ≤ ps.length * b
  | [], _ => Nat.zero_le _
  | p :: r, h => by
    have ih := sum_few r fun x m => h x (List.mem_cons_of_mem _ m)
    have hp := h p List.mem_cons_self
    rw [List.map_cons, List.sum_cons, show (p :: r).length = r.length + 1 from rfl, Nat.add_mul, Nat.one_mul]
    omega
theorem tok_few {zs : List Str} (nz : ∀ z ∈ zs, NameS 4 z) {t : Term} (ok : TermOk zs t) : (tokT t).length ≤ 4 := by
  cases t with
  | wo n => exact Nat.le_trans (nums_dig n ok).1 (by decide)
  | nm z => exact (nz z ok).hi
theorem tie_few {zs : List Str} (nz : ∀ z ∈ zs, NameS 4 z) {t : Str × List Term} (ok : TieOk zs t) : (tieTx t).length ≤ 40 := by
  unfold tieTx
  have h := join_few ("," : Str) (b := 4) (t.2.map tokT) fun p m => by
    obtain ⟨u, mu, rfl⟩ := List.mem_map.mp m
    exact tok_few nz (ok.tm u mu)
  have h8 := ok.nm.hi
  have h4 := ok.hi
  rw [List.length_map] at h
  have e1 : ("," : Str).length = 1 := by decide +kernel
  have e2 : ("(" : Str).length = 1 := by decide +kernel
  have e3 : (")" : Str).length = 1 := by decide +kernel
  rw [e1] at h
  rw [Str.length_append, Str.length_append, Str.length_append, e2, e3]
  omega
theorem pair_few {zs : List Str} (nz : ∀ z ∈ zs, NameS 4 z) {p : Str × Str} (h1 : p.1 ∈ zs) (h2 : p.2 ∈ zs) : (pairTx p).length ≤ 40 := by
  unfold pairTx
  have l1 := (nz _ h1).hi
  have l2 := (nz _ h2).hi
  have e2 : (" < " : Str).length = 3 := by decide +kernel
  rw [Str.length_append, Str.length_append, e2]
  omega
theorem words_few {q : Qn} (ok : QOk q) : ∀ z ∈ wordsQ q, z.length ≤ 4 := by
  intro z m
  unfold wordsQ someToks at m
  rcases List.mem_cons.mp m with rfl | m
  · decide +kernel
  rcases List.mem_append.mp m with m | m
  · exact (ok.nm z (List.mem_of_mem_take m)).hi
  split at m
  · rcases List.mem_cons.mp m with rfl | m
    · decide +kernel
    · exact (ok.nm z (List.mem_of_mem_drop m)).hi
  · cases m
theorem words_len {q : Qn} (ok : QOk q) : (wordsQ q).length ≤ 7 := by
  unfold wordsQ someToks
  have := ok.n5
  have := ok.mn
  rw [List.length_cons, List.length_append, List.length_take]
  split
  · rw [List.length_cons, List.length_drop]
    omega
  · rw [List.length_nil]
    omega
theorem cl_few {q : Qn} (ok : QOk q) : ∀ z ∈ clTx q, z.length ≤ 40 := by
  intro z m
  rcases List.mem_append.mp m with m | m
  · obtain ⟨t, mt, rfl⟩ := List.mem_map.mp m
    exact tie_few ok.nm (ok.tt t mt)
  · obtain ⟨p, mp, rfl⟩ := List.mem_map.mp m
    exact pair_few ok.nm (ok.ll p mp).1 (ok.ll p mp).2.1
theorem cl_len {q : Qn} (ok : QOk q) : (clTx q).length ≤ 9 := by
  unfold clTx
  have := ok.t6
  have := ok.l3
  rw [List.length_append, List.length_map, List.length_map]
  omega
theorem head_few {q : Qn} (ok : QOk q) : (Txt.join " " (wordsQ q)).length ≤ 35 := by
  have h := join_few (" " : Str) (b := 4) (wordsQ q) (words_few ok)
  have l := words_len ok
  have e1 : (" " : Str).length = 1 := by decide +kernel
  rw [e1] at h
  omega
theorem tail_few {q : Qn} (ok : QOk q) : (Txt.join ", " (clTx q)).length ≤ 378 := by
  have h := join_few (", " : Str) (b := 40) (clTx q) (cl_few ok)
  have l := cl_len ok
  have e1 : (", " : Str).length = 2 := by decide +kernel
  rw [e1] at h
  omega
theorem q_few {q : Qn} (ok : QOk q) : (qTx q).length ≤ 900 := by
  unfold qTx
  have h1 := head_few ok
  have h2 := tail_few ok
  have e1 : (" : " : Str).length = 3 := by decide +kernel
  rw [Str.length_append, Str.length_append, e1]
  omega
/-! the law's own way to say it -/
theorem join_two (y : Str) : ∀ (a b : List Str), a ≠ [] → b ≠ [] → Txt.join y (a ++ b) = Txt.join y a ++ (y ++ Txt.join y b)
  | [], _, h, _ => absurd rfl h
  | [p], b, _, h => by
    obtain ⟨q, r, rfl⟩ := List.exists_cons_of_ne_nil h
    apply TL.ext_tl
    rw [TL.tl_append, TL.tl_append, tl_join', tl_join', tl_join']
    rfl
  | p :: q :: r, b, _, h => by
    have ih := congrArg TL.tl (join_two y (q :: r) b (List.cons_ne_nil _ _) h)
    apply TL.ext_tl
    rw [TL.tl_append, TL.tl_append] at ih ⊢
    rw [tl_join'] at ih ⊢
    have e : TL.tl (Txt.join y (p :: q :: r)) = TL.tl p ++ (TL.tl y ++ TL.tl (Txt.join y (q :: r))) := by rw [tl_join', tl_join']; rfl
    show TL.tl p ++ (TL.tl y ++ TL.joinL (TL.tl y) ((q :: (r ++ b)).map TL.tl)) = _
    rw [e, List.append_assoc, List.append_assoc, ← ih]
    rfl
def headTx (q : Qn) : Str := if q.many < q.names.length then ("find " : Str) ++ Txt.join " " (q.names.take q.many) ++ " some " ++ Txt.join " " (q.names.drop q.many) ++ " : " else ("find " : Str) ++ Txt.join " " (q.names.take q.many) ++ " : "
theorem head_same {q : Qn} (ok : QOk q) : headTx q = Txt.join " " (wordsQ q) ++ " : " := by
  have wl : (q.names.take q.many).length = q.many := by rw [List.length_take]; exact Nat.min_eq_left ok.mn
  have wne : q.names.take q.many ≠ [] := fun e => by
    have := ok.m1
    rw [e] at wl
    rw [← wl] at this
    exact absurd this (by decide)
  have e1 : Txt.join (" " : Str) [("find" : Str)] = "find" := by rw [TL.join_eq]; rfl
  have e2 : Txt.join (" " : Str) [("some" : Str)] = "some" := by rw [TL.join_eq]; rfl
  have f1 : ("find " : Str) = ("find" : Str) ++ (" " : Str) := by decide +kernel
  have f2 : (" some " : Str) = (" " : Str) ++ (("some" : Str) ++ (" " : Str)) := by decide +kernel
  have as : ∀ a b c : Str, (a ++ b) ++ c = a ++ (b ++ c) := fun a b c => TL.ext_tl (by rw [TL.tl_append, TL.tl_append, TL.tl_append, TL.tl_append, List.append_assoc])
  unfold headTx wordsQ someToks
  split
  · rename_i c
    have dne : q.names.drop q.many ≠ [] := fun e => by
      have := congrArg List.length e
      rw [List.length_drop] at this
      have : q.names.length - q.many = 0 := this
      omega
    rw [show ("find" : Str) :: (q.names.take q.many ++ ("some" : Str) :: q.names.drop q.many) = [("find" : Str)] ++ (q.names.take q.many ++ ([("some" : Str)] ++ q.names.drop q.many)) from rfl,
      join_two _ _ _ (List.cons_ne_nil _ _) (List.append_ne_nil_of_left_ne_nil wne _), join_two _ _ _ wne (List.append_ne_nil_of_left_ne_nil (List.cons_ne_nil _ _) _), join_two _ _ _ (List.cons_ne_nil _ _) dne, e1, e2, f1, f2]
    simp only [as]
  · rw [List.append_nil, show ("find" : Str) :: q.names.take q.many = [("find" : Str)] ++ q.names.take q.many from rfl, join_two _ _ _ (List.cons_ne_nil _ _) wne, e1, f1]
    simp only [as]
end VQ
namespace VQ
open PySem L2 LamX
/-! ### questions written -/
abbrev rStrT : List V → Hp → VK → Prop := fun xs H Q => (∃ i, xs = [.int i] ∧ i.natAbs.log2 < 1920 ∧ Q (.str (toString i)) H) ∨ (∃ a, xs = [.str a] ∧ Q (.str a) H)
theorem call_str_term {X : Cx} : CallR X (.type "str") rStrT := by
  intro pins s σ H xs us Q I r h
  rcases h with h | h
  · exact call_str_int pins s σ H xs us Q I r h
  · exact SkE.call_str_str pins s σ H xs us Q I r h
theorem empty_add (z : Str) : Str.empty ++ z = z := TL.ext_tl (by rw [TL.tl_append]; rfl)
def tokV : V → V
  | .int i => .str (toString i)
  | v => v
theorem tokV_term (t : Term) : tokV (termV t) = .str (tokT t) := by cases t <;> rfl
theorem tokV_terms (ts : List Term) : (ts.map termV).map tokV = (ts.map tokT).map V.str := by
  rw [List.map_map, List.map_map]
  exact List.map_congr_left fun t _ => tokV_term t
theorem str_term {t : Term} {zs : List Str} (ok : TermOk zs t) {H : Hp} {Q : VK} (q : Q (tokV (termV t)) H) : rStrT [termV t] H Q := by
  cases t with
  | wo n =>
    refine .inl ⟨_, rfl, ?_, q⟩
    have : ∀ j, j < 32 → ((j : Nat) : Int).natAbs.log2 < 1920 := by decide +kernel
    exact this n ok
  | nm z => exact .inr ⟨_, rfl, q⟩
abbrev nTieText : List Str := ["tie", "table", "terms", "inner", "term"]
abbrev nQuestionText : List Str := ["question", "names", "many", "ties", "less", "words", "clauses", "tie", "first", "second"]
abbrev sLawTieText : Stmt := top 52
abbrev nLawTieText : List Str := ["_law_tie", "_law_term_here"]
theorem scLawTieText : FnScope nLawTieText ["_law_tie"] (defScope sLawTieText) := ⟨rfl, rfl, rfl, by decide +kernel, rfl, by decide +kernel, by decide +kernel⟩
abbrev sLawHeadText : Stmt := top 53
abbrev nLawHeadText : List Str := ["_law_question", "_law_names_here", "_law_many", "_law_found"]
theorem scLawHeadText : FnScope nLawHeadText ["_law_question"] (defScope sLawHeadText) := ⟨rfl, rfl, rfl, by decide +kernel, rfl, by decide +kernel, by decide +kernel⟩
abbrev sLawText : Stmt := top 54
abbrev nLawText : List Str := ["_law_question", "_law_parts", "_law_tie", "_law_one", "_law_other"]
theorem scLawText : FnScope nLawText ["_law_question"] (defScope sLawText) := ⟨rfl, rfl, rfl, by decide +kernel, rfl, by decide +kernel, by decide +kernel⟩
section
variable {P : Program} {w : World} {K : PySem.W.Frag} {mg : Str → Option Value} {base : Heap} {C aB : Addr}
def spTieText : Sp := fun vs H Q _ => ∃ (v : V) (t : Str × List Term) (zs : List Str), vs = [v] ∧ TieAt H v t ∧ (∀ z ∈ zs, NameS 4 z) ∧ TieOk zs t ∧ ∀ H', Same H H' → Q (.str (tieTx t)) H'
def spQText : Sp := fun vs H Q _ => ∃ (a : Addr) (q : Qn), vs = [.ref a] ∧ QAt H a q ∧ QOk q ∧ ∀ H', Same H H' → Q (.str (qTx q)) H'
end
end VQ
namespace VQ
open PySem L2 LamX
/-! ### the law's own text of a question -/
section
variable {P : Program} {w : World} {K : PySem.W.Frag} {mg : Str → Option Value} {base : Heap} {C aB : Addr}
abbrev spLTie : Sp := spTieText
theorem has_ltie (b : Blt mg) (a : AtE K mg "_law_tie_text" sLawTieText ["_law_tie"]) : Has P w K mg base CX0 1 "_law_tie_text" sLawTieText ["_law_tie"] spLTie := by
  obtain ⟨f, fd, a⟩ := a
  refine ⟨f, fd, a, a.fn.ok scLawTieText (fun vs H Q E h => ?_) (fun cdv A outer s H vs Q E hr h => ?_)⟩
  · obtain ⟨v, t, zs, rfl, _⟩ := h
    rfl
  · obtain ⟨v, t, zs, rfl, ⟨a, c, rfl, ha, hc⟩, nz, ok, k⟩ := h
    refine ⟨_,
    (pss_one (ps_ret (pe_op op_add_str (pe_op op_add_str (pe_op op_add_str (pe_ix ix_tup (pv 0) pe_int fun _ _ => rfl) pe_str) (pe_join pe_str (pe_lc (own := [("_law_term_here", 1)]) (g := (gName 1)) (tt := tYes) (te := (tCB rStrT (tCons (tVar 1) tNil))) rfl scLawTieText.nd (pi_tup (pe_ix ix_tup (pv 0) pe_int fun _ _ => rfl)) (blkOk_by (N := nLawTieText) (sc := defScope sLawTieText) (by decide +kernel)) (fun _ _ _ _ _ => (pg_name (i := 1) scLawTieText.nd rfl (.inl rfl))) (fun _ _ _ _ _ => pts_nil) (fun _ _ _ _ _ => (pe_callTy call_str_term (by rfl) b.str (by decide +kernel) (pa_cons (pv 1) pa_nil)))))) pe_str))), ?_⟩
    have l4 := ok.hi
    have l8 := ok.nm.hi
    have big : (900 : Nat) ≤ sizeLine := by decide
    have e1 : ("," : Str).length = 1 := by decide +kernel
    have e2 : ("(" : Str).length = 1 := by decide +kernel
    have e3 : (")" : Str).length = 1 := by decide +kernel
    refine ⟨_, rfl, a, _, _, _, rfl, rfl, SqT.of ha, atI_nat (j := 0) rfl, _, _, rfl, rfl, by rw [e2]; omega, ?_⟩
    refine ⟨⟨_, rfl⟩, _, rfl, a, _, _, _, rfl, rfl, SqT.of ha, atI_nat (j := 1) rfl, c, rfl, ⟨_, SqT.of hc⟩, fun D hD => ?_⟩
    refine lc_tupV (xs := t.2.map termV) tokV hD (SqT.of hc) (by rw [List.length_map]; omega) ?_ ?_
    · rintro i x H3 hx s3 k1 k2 y1
      obtain ⟨u, eu, rfl⟩ := getF hx
      exact ⟨rfl, yes_turn ⟨_, rfl, str_term (ok.tm u (List.mem_of_getElem? eu)) (y1 _ (Same.refl _))⟩⟩
    · intro H3 s3 h3
      rw [tokV_terms] at h3
      have few : ∀ p ∈ t.2.map tokT, p.length ≤ 4 := fun p m => by
        obtain ⟨u, mu, rfl⟩ := List.mem_map.mp m
        exact tok_few nz (ok.tm u mu)
      have sf := sum_few _ few
      have jf := join_few ("," : Str) _ few
      rw [List.length_map] at sf jf
      rw [e1] at jf
      refine ⟨_, D, t.2.map tokT, rfl, rfl, .inl (SqL.of h3), ?_, ?_⟩
      · rw [List.length_map, e1]
        omega
      · exact ⟨_, _, rfl, rfl, by rw [Str.length_append, e2]; omega, _, _, rfl, rfl, by rw [Str.length_append, Str.length_append, e2, e3]; omega, k _ s3⟩
def spLHead : Sp := fun vs H Q _ => ∃ (a : Addr) (q : Qn), vs = [.ref a] ∧ QAt H a q ∧ QOk q ∧ ∀ H', Same H H' → Q (.str (headTx q)) H'
theorem has_lhead (b : Blt mg) (a : AtE K mg "_law_head_text" sLawHeadText ["_law_question"]) : Has P w K mg base CX0 1 "_law_head_text" sLawHeadText ["_law_question"] spLHead := by
  obtain ⟨f, fd, a⟩ := a
  refine ⟨f, fd, a, a.fn.ok scLawHeadText (fun vs H Q E h => ?_) (fun cdv A outer s H vs Q E hr h => ?_)⟩
  · obtain ⟨a, q, rfl, _⟩ := h
    rfl
  · obtain ⟨a, q, rfl, ⟨n, t, l, ha, hn, _, _⟩, ok, k⟩ := h
    have big : (900 : Nat) ≤ sizeLine := by decide
    have n5 := ok.n5
    have mn := ok.mn
    have e1 : (" " : Str).length = 1 := by decide +kernel
    have e2 : ("find " : Str).length = 5 := by decide +kernel
    have e3 : (" some " : Str).length = 6 := by decide +kernel
    have e4 : (" : " : Str).length = 3 := by decide +kernel
    have few1 : ∀ p ∈ q.names.take q.many, p.length ≤ 4 := fun p m => (ok.nm p (List.mem_of_mem_take m)).hi
    have few2 : ∀ p ∈ q.names.drop q.many, p.length ≤ 4 := fun p m => (ok.nm p (List.mem_of_mem_drop m)).hi
    have sf1 := sum_few _ few1
    have sf2 := sum_few _ few2
    have jf1 := join_few (" " : Str) _ few1
    have jf2 := join_few (" " : Str) _ few2
    have wl : (q.names.take q.many).length = q.many := by rw [List.length_take]; exact Nat.min_eq_left ok.mn
    have dl : (q.names.drop q.many).length = q.names.length - q.many := List.length_drop
    rw [e1] at jf1 jf2
    refine ⟨_,
    (pss_cons (ps_par (i := 1) (j := 2) rfl scLawHeadText.nd rfl rfl (by decide) rfl rfl (pa_cons (pe_ix ix_tup (pv 0) pe_int fun _ _ => rfl) (pa_cons (pe_ix ix_tup (pv 0) pe_int fun _ _ => rfl) pa_nil)) rfl)
    (pss_cons (ps_set (i := 3) scLawHeadText.nd rfl (.inl rfl) (pe_op op_add_str pe_str (pe_join pe_str (pe_slice sl_tupA (pv 1) po_none (po_some (pv 2))))))
    (C8.pss_cut (ps_if (pt_cmpR op_lt (pv 2) (pe_callB call_len_seq (by rfl) b.len PySem.boot_len (pa_cons (pv 1) pa_nil)) (nomark _))
      (pss_one (ps_set (i := 3) scLawHeadText.nd rfl (.inl rfl) (pe_op op_add_str (pe_op op_add_str (pv 3) pe_str) (pe_join pe_str (pe_slice sl_tupA (pv 1) (po_some (pv 2)) po_none)))))
      pss_nil)
    (pss_one (ps_ret (pe_op op_add_str (pv 3) pe_str)))))), ?_⟩
    refine ⟨_, rfl, a, _, _, _, rfl, rfl, SqT.of ha, atI_nat (j := 0) rfl, _, rfl, a, _, _, _, rfl, rfl, SqT.of ha, atI_nat (j := 1) rfl, _, _, rfl, ?_⟩
    refine ⟨⟨_, rfl⟩, _, rfl, _, rfl, _, rfl, rd_cut hn fun p H2 s2 hp => ?_⟩
    rw [cut_upto _ (by rw [List.length_map]; exact mn), ← List.map_take] at hp
    refine ⟨_, p, q.names.take q.many, rfl, rfl, .inr (SqT.of hp), by rw [e1]; omega, _, _, rfl, rfl, by rw [e2]; omega, ?_⟩
    refine ⟨fun σ' H' => ∃ z : Str, σ' = [some (.ref a), some (.ref n), some (.int (q.many : Nat)), some (.str z)] ∧ Same H H' ∧ z.length ≤ 800 ∧ z ++ " : " = headTx q, ?_, ?_⟩
    · refine ⟨_, rfl, _, rfl, n, _, rfl, .inr (SqT.of (s2 _ _ hn)), _, _, rfl, rfl, _, rfl, ?_⟩
      rw [List.length_map]
      by_cases c : q.many < q.names.length
      · rw [decide_eq_true (show ((q.many : Nat) : Int) < ((q.names.length : Nat) : Int) by omega)]
        refine iteT ⟨_, rfl, _, _, rfl, rfl, by rw [Str.length_append, e2, e3]; omega, ?_⟩
        refine ⟨⟨_, rfl⟩, _, rfl, _, rfl, _, rfl, ?_⟩
        dsimp only [tNoPart]
        refine rd_cut (s2 _ _ hn) fun p2 H3 s3 hp2 => ?_
        rw [cut_behind _ (by rw [List.length_map]; exact mn), ← List.map_drop] at hp2
        refine ⟨_, p2, q.names.drop q.many, rfl, rfl, .inr (SqT.of hp2), by rw [e1]; omega, _, _, rfl, rfl, by rw [Str.length_append, Str.length_append, e2, e3]; omega, ?_⟩
        refine ⟨_, rfl, s2.trans s3, by rw [Str.length_append, Str.length_append, Str.length_append, e2, e3]; omega, ?_⟩
        unfold headTx
        rw [if_pos c]
      · rw [decide_eq_false (show ¬ ((q.many : Nat) : Int) < ((q.names.length : Nat) : Int) by omega)]
        refine iteF ⟨_, rfl, s2, by rw [Str.length_append, e2]; omega, ?_⟩
        unfold headTx
        rw [if_neg c]
    · rintro σ' H3 ⟨z, rfl, s3, zl, ez⟩
      refine ⟨_, rfl, _, _, rfl, rfl, by rw [e4]; omega, ?_⟩
      rw [ez]
      exact k _ s3
def spLText : Sp := spQText
theorem has_ltext (b : Blt mg) (hLt : Has P w K mg base CX0 1 "_law_tie_text" sLawTieText ["_law_tie"] spLTie) (hLh : Has P w K mg base CX0 1 "_law_head_text" sLawHeadText ["_law_question"] spLHead) (a : AtE K mg "_law_text" sLawText ["_law_question"]) : Has P w K mg base CX0 2 "_law_text" sLawText ["_law_question"] spLText := by
  obtain ⟨f, fd, a⟩ := a
  obtain ⟨fLt, fdLt, aLt, GLt⟩ := hLt
  obtain ⟨fLh, fdLh, aLh, GLh⟩ := hLh
  refine ⟨f, fd, a, a.fn.ok scLawText (fun vs H Q E h => ?_) (fun cdv A outer s H vs Q E hr1 h => ?_)⟩
  · obtain ⟨a, q, rfl, _⟩ := h
    rfl
  · obtain ⟨a, q, rfl, qa, ok, k⟩ := h
    have big : (900 : Nat) ≤ sizeLine := by decide
    refine ⟨_,
    (pss_cons (ps_setLc (i := 1) (own := [("_law_tie", 2)]) (g := (gName 2)) (tt := tYes) (te := (tCall spLTie [] E0 (tCons (tVar 2) tNil))) rfl scLawText.nd rfl rfl (sw_true rfl rfl rfl (by decide +kernel)) (pi_tup (pe_ix ix_tup (pv 0) pe_int fun _ _ => rfl)) (blkOk_by (N := nLawText) (sc := defScope sLawText) (by decide +kernel)) (fun _ _ _ _ _ => (pg_name (i := 2) scLawText.nd rfl (.inl rfl))) (fun _ _ _ _ _ => pts_nil) (fun _ _ _ _ _ => (pe_call GLt hr1 rfl aLt.gl aLt.fn.kp aLt.bd .nil pass0 (pa_cons (pv 2) pa_nil))))
    (pss_cons (ps_set (i := 1) scLawText.nd rfl (.inl rfl) (pe_op op_cat (pv 1) (pe_lc (own := [("_law_one", 3), ("_law_other", 4)]) (g := (gTup K 2 (gCons (gName 3) (gCons (gName 4) gNil)))) (tt := tYes) (te := (tOp rAddS (tOp rAddS (tVar 3) (tC (.str " < "))) (tVar 4))) rfl scLawText.nd (pi_tup (pe_ix ix_tup (pv 0) pe_int fun _ _ => rfl)) (blkOk_by (N := nLawText) (sc := defScope sLawText) (by decide +kernel)) (fun _ _ _ _ _ => (pg_tup rfl (pgs_cons (pg_name (i := 3) scLawText.nd rfl (.inl rfl)) (pgs_cons (pg_name (i := 4) scLawText.nd rfl (.inl rfl)) pgs_nil)))) (fun _ _ _ _ _ => pts_nil) (fun _ _ _ _ _ => (pe_op op_add_str (pe_op op_add_str (pv 3) pe_str) (pv 4))))))
    (pss_one (ps_ret (pe_op op_add_str (pe_call GLh hr1 rfl aLh.gl aLh.fn.kp aLh.bd .nil pass0 (pa_cons (pv 0) pa_nil)) (pe_join pe_str (pv 1))))))), ?_⟩
    obtain ⟨n, t, l, ha, hn, ⟨us, ht, et⟩, ⟨ws, hl, el⟩⟩ := id qa
    have lus : us.length ≤ 6 := by rw [et.len]; exact ok.t6
    have lws : ws.length ≤ 3 := by rw [el.len]; exact ok.l3
    refine ⟨_, rfl, a, _, _, _, rfl, rfl, SqT.of ha, atI_nat (j := 2) rfl, t, rfl, ⟨_, SqT.of ht⟩, fun D hD => ?_⟩
    refine lc_tupS (xs := us) (fun i acc _ => acc = (q.ties.take i).map fun t => V.str (tieTx t)) hD (SqT.of ht) (by omega) (fun _ _ _ _ _ h => h) rfl ?_ ?_
    · rintro i x acc H7 hx s7 h7 e k1 k2 y1 y2
      obtain ⟨tie, etie, ta⟩ := et.get hx
      refine ⟨rfl, yes_turn ⟨_, rfl, _, tie, q.names, rfl, ta.moved (same_tups s7), ok.nm, ok.tt tie (List.mem_of_getElem? etie), fun H8 s8 => y1 _ _ s8 ?_⟩⟩
      rw [e, ← take_snoc (fun t => V.str (tieTx t)) etie]
    · rintro acc H7 s7 h7 e
      rw [et.len, List.take_of_length_le (Nat.le_refl _)] at e
      refine ⟨_, rfl, _, rfl, a, _, _, _, rfl, rfl, SqT.of (s7 _ _ ha), atI_nat (j := 3) rfl, l, rfl, ⟨_, SqT.of (s7 _ _ hl)⟩, fun D2 hD2 => ?_⟩
      refine lc_tupS (xs := ws) (fun i acc _ => acc = (q.less.take i).map fun p => V.str (pairTx p)) hD2 (SqT.of (s7 _ _ hl)) (by omega) (fun _ _ _ _ _ h => h) rfl ?_ ?_
      · rintro i x acc H8 hx s8 h8 e8 k1 k2 y1 y2
        obtain ⟨p, ep, pa⟩ := el.get hx
        obtain ⟨pp, rfl, hpp⟩ := pa.moved (same_tups (s7.trans s8))
        have okp := ok.ll p (List.mem_of_getElem? ep)
        have p1 := (ok.nm _ okp.1).hi
        have p2 := (ok.nm _ okp.2.1).hi
        have e3 : (" < " : Str).length = 3 := by decide +kernel
        refine ⟨pp, _, rfl, SqT.of hpp, rfl, _, _, rfl, _, _, rfl, rfl, rfl, yes_turn ?_⟩
        refine ⟨_, rfl, _, _, rfl, rfl, by rw [e3]; omega, _, rfl, _, _, rfl, rfl, by rw [Str.length_append, e3]; omega, y1 _ _ (Same.refl _) ?_⟩
        rw [e8, ← take_snoc (fun p => V.str (pairTx p)) ep]
        rfl
      · rintro acc2 H8 s8 h8 e8
        rw [el.len, List.take_of_length_le (Nat.le_refl _)] at e8
        subst e e8
        refine ⟨D, D2, _, _, rfl, rfl, s8 _ _ h7, h8, ?_, fun G hG => ?_⟩
        · rw [List.length_map, List.length_map, ← et.len, ← el.len]
          omega
        · have sG := same_new (o := HO.lst (q.ties.map (fun t => V.str (tieTx t)) ++ q.less.map fun p => V.str (pairTx p))) hG
          have s18 := (s7.trans s8).trans sG
          have hG' : upd H8 G (HO.lst (q.ties.map (fun t => V.str (tieTx t)) ++ q.less.map fun p => V.str (pairTx p))) G = some (.lst ((clTx q).map V.str)) := by
            rw [upd_same]
            unfold clTx
            rw [List.map_append, List.map_map, List.map_map]
            rfl
          have b2 := sum_few _ (cl_few ok)
          have b4 := cl_len ok
          have e2 : (", " : Str).length = 2 := by decide +kernel
          have e3 : (" : " : Str).length = 3 := by decide +kernel
          have hf := head_few ok
          have tf := tail_few ok
          refine ⟨_, rfl, a, q, rfl, qa.moved (same_tups s18), ok, fun H9 s9 => ?_⟩
          rw [head_same ok]
          refine ⟨⟨_, rfl⟩, _, rfl, _, G, clTx q, rfl, rfl, .inl (SqL.of (s9 _ _ hG')), by rw [e2]; omega, ?_⟩
          exact ⟨_, _, rfl, rfl, by rw [Str.length_append, e3]; omega, k _ (s18.trans s9)⟩
end
end VQ
namespace VQ
open PySem PySem.Spec PyProof.Rows L2
/-! ### enumerate of a text -/
abbrev siO (x : Str) (t : PySem.Tok) : Obj := { cls := .type "str_ascii_iterator", data := .fields #[.str x t, .int 0 0] }
theorem enum_newS (x : Str) (t : PySem.Tok) (asc : x.cps.all (· < 128) = true) :
    Meets (Builtin.«enumerate.__new__» ⟨[.type "enumerate", .str x t], []⟩) (fun _ R s =>
      R (.ok (.ret (.ref (s.heap.push (siO x t)).objs.size))) { s with heap := (s.heap.push (siO x t)).push (enO s.heap.objs.size) }) :=
  .of_wp fun prog w A R s z => by
    obtain ⟨hp, g, d, tk, os⟩ := s
    have isSub := sub_enumerate
    wp_walk using wpAny_pyIter_ascii asc
    refine wpAny_stack_any fun _ => wpAny_pure ?_
    split
    · rename_i c _ _ _ _ _
      cases (c == Value.type "enumerate") <;>
      · wp_walk using wpAny_pyIter_ascii asc
        exact ⟨_, rfl, z⟩
    · wp_walk using wpAny_pyIter_ascii asc
      exact ⟨_, rfl, z⟩
theorem enum_callS {prog : Program} {w : World} {A : Around} {E : Value → Shared → Prop} {s : Shared} {x : Str} {t : PySem.Tok} {Q : Value → Shared → Prop} (asc : x.cps.all (· < 128) = true)
    (k : ∀ g : Heap, IsEnum g (s.heap.objs.size + 1) s.heap.objs.size 0 .none → g.IsStrIter s.heap.objs.size "str_ascii_iterator" x t 0 → (∀ b o, s.heap.get? b = some o → g.get? b = some o) → Q (.ref (s.heap.objs.size + 1)) { s with heap := g }) :
    wpAny (model prog w) A (call (.type "enumerate") [.str x t]) Q E s := by
  refine callType_new F.called_enumerate (by decide) (F.typeCall_enumerate_1 _) (F.newCall_enumerate_1 _) (fun x => F.args_object_init_2 x _) F.entry_enumerate_new (enum_newS x t asc) ?_
  have sz : (s.heap.push (siO x t)).objs.size = s.heap.objs.size + 1 := Heap.size_push ..
  show _ ∧ _
  rw [sz]
  have en : IsEnum ((s.heap.push (siO x t)).push (enO s.heap.objs.size)) (s.heap.objs.size + 1) s.heap.objs.size 0 .none := by
    have q := Heap.get?_push_size (s.heap.push (siO x t)) (o := enO s.heap.objs.size) rfl
    rw [sz] at q
    exact q
  exact ⟨⟨_, en, rfl⟩, k _ en ⟨_, Heap.get?_push_of_some _ (Heap.get?_push_size _ rfl), rfl, rfl⟩ fun b o q => Heap.get?_push_of_some _ (Heap.get?_push_of_some _ q)⟩
/-- each sign in a new pair with its place -/
def IteS (x : Str) : It :=
  ⟨fun i _ => i < x.cps.size, fun i H v H' => ∃ T c, v = .ref T ∧ H T = none ∧ H' = upd H T (.tup [.int (i : Nat), .str ⟨#[c]⟩]) ∧ x.cps[i]? = some c, fun i _ => i = x.cps.size⟩
theorem turn_enumS {P : Program} {w : World} {K : PySem.W.Frag} {elts : List Expr} {kk : Nat} {tpos : Pos} (x : Str) (t : PySem.Tok) (e it : Addr) :
    Turn P w K (.Tuple elts kk tpos) (IteS x) [e, it] e (fun i h => (∃ old, IsEnum h e it ((i : Nat) : Int) old) ∧ h.IsStrIter it "str_ascii_iterator" x t i) where
  mem := by simp
  obj := fun i h ⟨⟨old, he⟩, o, ho, hc, hd⟩ b hb => by
    have z : b = e ∨ b = it := by simpa using hb
    rcases z with rfl | rfl
    · exact ⟨_, he, fun v q => nomatch q⟩
    · exact ⟨o, ho, fun v q => by rw [hd] at q; cases q⟩
  keep := fun i h h' ⟨⟨old, he⟩, o, ho, r⟩ k => ⟨⟨old, k e (by simp) _ he⟩, o, k it (by simp) o ho, r⟩
  item := by
    rintro X rfl rfl rfl calm i pins s σ H E inv fp ⟨⟨old, he⟩, ti⟩ hi
    have le : e < s.heap.objs.size := Heap.lt_size he
    have li : it < s.heap.objs.size := by obtain ⟨_, q, _⟩ := ti; exact Heap.lt_size q
    have ei : e ≠ it := fun z => by
      obtain ⟨o', ho', hc', _⟩ := ti
      rw [← z, he] at ho'
      cases ho'
      injection hc' with q
      exact absurd q (by decide)
    refine wpAny_pyNext_enum_itemD (Draws.strAscii (A := X.A.in1) (inv.ok.hd calm) it x t) he ti hi ei (by simp [ei]) fun y h1 tk py eo st hT _ kp => ?_
    obtain ⟨c, u, hc, rfl⟩ := py
    refine ⟨_, rfl, wpAny_letOwnedTupleGo_enum (s := { s with heap := h1, toks := tk + 1 }) eo fun h2 he2 sb => ?_⟩
    have hT2 : h2.get? s.heap.objs.size = some { cls := .type "tuple", data := .seq #[.int i tk, .str ⟨#[c]⟩ u] } := (sb.2 _ (Nat.ne_of_gt le)).trans hT
    have new : ObjOk X.prog X.w (upd H s.heap.objs.size (.tup [.int (i : Nat), .str ⟨#[c]⟩])) h2 s.heap.objs.size (.tup [.int (i : Nat), .str ⟨#[c]⟩]) :=
      ⟨by show 2 ≤ sizeLine; decide, [.int i tk, .str ⟨#[c]⟩ u], .cons ⟨_, rfl⟩ (.cons ⟨_, rfl⟩ .nil), ⟨_, hT2, rfl, _, rfl⟩⟩
    have inv1 : Inv X pins σ (upd H s.heap.objs.size (.tup [.int (i : Nat), .str ⟨#[c]⟩])) { s with heap := h2, toks := tk + 1 } :=
      inv.turnedNew (ch := [e, it]) (fun b ob hb q => (sb.2 b (fun z => hb (by simp [z]))).trans (kp b ob (fun z => hb (by simp [z])) (fun z => hb (by simp [z])) q)) fp (Nat.le_refl _) new
    refine ⟨.ref s.heap.objs.size, _, inv1, rfl, ⟨_, c, rfl, inv.hok.fresh (Nat.le_refl _), rfl, hc⟩, ⟨⟨.str ⟨#[c]⟩ u, ?_⟩, ?_⟩, fun b hb => ?_⟩
    · rw [show ((i + 1 : Nat) : Int) = (i : Int) + 1 by omega]
      exact he2
    · obtain ⟨o, ho, r⟩ := st
      exact ⟨o, (sb.2 it (Ne.symm ei)).trans ho, r⟩
    · have lb : b < s.heap.objs.size := by
        have z : b = e ∨ b = it := by simpa using hb
        rcases z with rfl | rfl
        · exact le
        · exact li
      rw [upd_ne (Nat.ne_of_lt lb)]
      exact (fp b hb).1
  done := by
    rintro X rfl rfl rfl calm i pins s σ H E inv fp ⟨⟨old, he⟩, ti⟩ hi
    obtain ⟨f0, f1, f2, f3, f4, f5⟩ := fp it (by simp)
    have hi' : i = x.cps.size := hi
    subst hi'
    exact wpAny_pyNext_enum_endD (n := x.cps.size) (Draws.strAscii (A := X.A.in1) (inv.ok.hd calm) it x t) he ti fun h1 eb => ⟨rfl, inv.turned (t' := s.toks) (fun b o hb q => eb b o hb q) f0 f1 f3 f4 f5⟩
  self := fun A i s Q E ⟨⟨_, he⟩, _⟩ h => wpAny_pyIter_enum he h
def iEnumS (ta : TA) : TI := fun σ H R => ta σ H fun vs H1 => ∃ x : Str, vs = [.str x] ∧ x.cps.all (· < 128) = true ∧ R (IteS x) H1
theorem pi_enumS {X : Cx} {e : Expr} {ta : TA} {p pos tpos : Pos} {elts : List Expr} {kk : Nat} (isG : Gl X "enumerate") (atG : X.mg "enumerate" = none) (ha : PA X [e] ta) (hs : starEach [e] X.env = [(false, eval e X.env)] := by rfl) :
    PI X (.Tuple elts kk tpos) (.Call (.Name "enumerate" p) [e] [] pos) (iEnumS ta) := by
  refine ⟨fun pins s σ H R inv h => Call_ (ld_blt inv isG atG boot_enumerate (callWith_type1 (thn (ha.run pos pins s σ H _ inv h) fun us s1 ⟨vs, H1, I1, r1, q1⟩ => ?_) hs rfl))⟩
  obtain ⟨x, rfl, asc, q⟩ := q1
  cases r1 with
  | cons r rr =>
    cases rr
    obtain ⟨t, rfl⟩ := r
    refine enum_callS asc fun g he ti kp => wpAny_pyIter_enum he ?_
    refine ⟨s1.heap.objs.size + 1, [s1.heap.objs.size + 1, s1.heap.objs.size], _, _, H1, rfl, I1.kept (t' := s1.toks) kp, turn_enumS x t (s1.heap.objs.size + 1) s1.heap.objs.size, ⟨⟨.none, he⟩, ti⟩, fun b hb => ?_, q⟩
    have le : s1.heap.objs.size ≤ b := by
      have z : b = s1.heap.objs.size + 1 ∨ b = s1.heap.objs.size := by simpa using hb
      rcases z with rfl | rfl
      · exact Nat.le_succ _
      · exact Nat.le_refl _
    exact I1.fpOk le (I1.hok.fresh le)
/-- for over an enumerated text -/
theorem for_enumS {x : Str} {g : TG} {tb : TS} {D : Ends} {σ0 : L2.St} {H0 : Hp} (I : Nat → L2.St → Hp → Prop) (h0 : I 0 σ0 H0)
    (turn : ∀ (i c : Nat) (σ : L2.St) (H : Hp) (T : Addr), x.cps[i]? = some c → I i σ H → H T = none → g (.ref T) σ (upd H T (.tup [.int (i : Nat), .str ⟨#[c]⟩])) fun σ2 H2 => tb { D with nx := I (i + 1), ct := I (i + 1), bk := D.nx } σ2 H2)
    (fin : ∀ σ H, I x.cps.size σ H → D.nx σ H) :
    ∃ W : Nat → Nat → L2.St → Hp → Prop, (∃ m, W 0 m σ0 H0) ∧ ∀ i m σ H, W i m σ H →
      ((IteS x).stop i H ∧ D.nx σ H) ∨ ((IteS x).go i H ∧ ∃ N : L2.St → Hp → Prop, (∀ σ' H', N σ' H' → ∃ m', m' < m ∧ W (i + 1) m' σ' H') ∧ ∀ v H', (IteS x).yld i H v H' → g v σ H' fun σ2 H2 => tb { D with nx := N, ct := N, bk := D.nx } σ2 H2) := by
  refine ⟨fun i m σ H => m + i = x.cps.size ∧ I i σ H, ⟨x.cps.size, rfl, h0⟩, ?_⟩
  rintro i m σ H ⟨em, p⟩
  by_cases lt : i < x.cps.size
  · refine .inr ⟨lt, I (i + 1), fun σ' H' p' => ⟨m - 1, by omega, by omega, p'⟩, ?_⟩
    rintro v H' ⟨T, c, rfl, nT, rfl, hc⟩
    exact turn i c σ H T hc p nT
  · obtain rfl : i = x.cps.size := by omega
    exact .inl ⟨rfl, fin σ H p⟩
end VQ
namespace VQ
open PySem L2 LamX
/-! ### BadText, with its field -/
abbrev sBadText : Stmt := inClass (top 4) 0
theorem scBadText : FnScope ["self", "at"] ["self", "at"] (defScope sBadText) := ⟨rfl, rfl, rfl, by decide +kernel, rfl, by decide +kernel, by decide +kernel⟩
structure ErrF (K : PySem.W.Frag) (mg : Str → Option Value) (C fI : Addr) (fd : FuncData) : Prop where
  gl : mg "BadText" = some (.ref C)
  ox : OexC K C
  it : PySem.W.findIn K (.ref C) "__init__" = some (some (.ref fI))
  ty : PySem.W.typeIn K (.ref fI) = some (.type "function")
  nc : PySem.W.findIn K (.ref C) "called" = some none
  na : PySem.W.findIn K (.ref C) "at" = some none
  fn : Fun K "__init__" "BadText.__init__" sBadText fI fd
  bd : Binds K fd ["self", "at"] []
def atFs (y : V) : List (Str × V) := [("at", y), ("called", .str "BadText")]
section
variable {P : Program} {w : World} {K : PySem.W.Frag} {mg : Str → Option Value} {base : Heap} {Ta NT NR BT Uf Fu TM QE No : Addr}
def spErrF (C : Addr) : Sp := fun vs H Q _ => ∃ (a : Addr) (y : V), vs = [.ref a, y] ∧ H a = some (exo a C none) ∧ ∀ d, H d = none → d ≠ a → Q .non (upd (upd (upd H d (exd d [(("called" : Str), .str "BadText")])) a (exo a C (some d))) d (exd d (atFs y)))
theorem ok_errF {C fI : Addr} {fd : FuncData} (Er : ErrF K mg C fI fd) : FnOk P w K mg base CX0 1 fI fd ["self", "at"] (spErrF C) := by
  refine Er.fn.ok scBadText (fun vs H Q E h => ?_) (fun cdv A outer s H vs Q E' hr h => ?_)
  · obtain ⟨a, y, rfl, _⟩ := h
    rfl
  · obtain ⟨a, y, rfl, ha, k⟩ := h
    refine ⟨_, pss_cons (ps_ost (pv 0) pe_str) (pss_one (ps_ost (pv 0) (pv 1))), ?_⟩
    refine ⟨_, rfl, a, C, rfl, Er.ox, Er.nc, .inl ⟨ha, fun d hd ne => ?_⟩⟩
    refine ⟨_, rfl, _, rfl, a, C, rfl, Er.ox, Er.na, .inr ⟨d, _, upd_same, (upd_ne ne).trans upd_same, by show 1 ≤ 900; decide, ?_⟩⟩
    exact k d hd ne
theorem raise_at {C : Addr} {y : V} {H : Hp} {W : XK} (h : ∀ d, H d = none → W (.ref C) (some d) (upd H d (.xd (atFs y)))) : ∀ a, H a = none → spErrF C [.ref a, y] (upd H a (exo a C none))
    (fun v H2 => v = .non ∧ ∃ (d : Addr) (fs : List (Str × V)), H2 a = some (exo a C (some d)) ∧ H2 d = some (exd d fs) ∧ H d = none ∧ W (.ref C) (some d) (upd (del H2 a) d (.xd fs))) (fun _ _ _ => False) := by
  intro a ha
  refine ⟨a, y, rfl, upd_same, fun d hd ne => ⟨rfl, d, atFs y, (upd_ne ne.symm).trans upd_same, upd_same, ?_, ?_⟩⟩
  · rw [upd_ne ne] at hd
    exact hd
  · have hd' : H d = none := by
      rw [upd_ne ne] at hd
      exact hd
    have e : upd (del (upd (upd (upd (upd H a (exo a C none)) d (exd d [(("called" : Str), V.str "BadText")])) a (exo a C (some d))) d (exd d (atFs y))) a) d (.xd (atFs y)) = upd H d (.xd (atFs y)) := by
      funext b
      by_cases hb : b = d
      · rw [hb, upd_same, upd_same]
      · rw [upd_ne hb, upd_ne hb]
        by_cases hba : b = a
        · rw [hba, del_same, ha]
        · rw [del_ne hba, upd_ne hb, upd_ne hba, upd_ne hb, upd_ne hba]
    rw [e]
    exact h d hd'
/-- a refusal that the second clause takes -/
structure Second (K : PySem.W.Frag) (Ta NT NR BT Uf C : Addr) : Prop where
  n1 : PySem.W.exmAny K (.ref C) [.ref Ta, .ref NT, .ref NR] = some false
  y2 : PySem.W.exmAny K (.ref C) [.ref BT, .ref Uf] = some true
  xf : XfC K C
  nc : PySem.W.findIn K (.ref C) "called" = some none
  na : PySem.W.findIn K (.ref C) "at" = some none
def Caught2 (K : PySem.W.Frag) (Ta NT NR BT Uf : Addr) (Q : VK) : XK := fun cls d H => ∃ (C dd : Addr) (fs : List (Str × V)) (nm : Str) (y : V), cls = .ref C ∧ d = some dd ∧ Second K Ta NT NR BT Uf C ∧ H dd = some (.xd fs) ∧ fs.lookup ("called" : Str) = some (V.str nm) ∧ fs.lookup ("at" : Str) = some y ∧
  ∀ p, H p = none → Q (.ref p) (upd H p (.tup [.str nm, y]))
def TTried2 (K : PySem.W.Frag) (Ta NT NR BT Uf : Addr) : (XK → Hp → VK → Prop) → Hp → VK → Prop := fun tl H Q =>
  tl (Caught2 K Ta NT NR BT Uf Q) H fun v H1 => [V.str "told", v].length ≤ sizeLine ∧ ∀ p, H1 p = none → Q (.ref p) (upd H1 p (.tup [.str "told", v]))
theorem tried_gives2 {g : Addr} {cdg : Value} {q : Str} (G : Errs mg Ta NT NR BT Uf Fu TM QE No) : Gives2 P w K mg base ["_law_ask", "e"] "_law_tried" (defScope sTried) g cdg (defBody sTried) "_law_ask" q (TTried2 K Ta NT NR BT Uf) := by
  intro A2 outer2 f c' s H Q tl act hc h
  refine ⟨_, pss_one (ps_try_manyA (X := (cxOf C8.CX0 P w K mg base ["_law_ask", "e"] "_law_tried" (defScope sTried) g cdg A2 outer2 s H C8.E0).nox) (i := 1) (n := "e")
      (tb := fun W D σ H => ∃ Ech : XK, (∀ cls d σ' H', σ'.length = 2 → Ech cls d H' → W cls d σ' H') ∧ σ[0]? = some (some (.ref f)) ∧ H c' = some (CodeO c' q) ∧ tl Ech H fun v H1 => [V.str "told", v].length ≤ sizeLine ∧ ∀ p, H1 p = none → D.rt (.ref p) (upd H1 p (.tup [.str "told", v])))
      rfl rfl scTried.nd rfl rfl LamX.takes0 (fun W pn xe tk _ => ?_)
      (HdsA.cons (Cte.three ⟨rfl, by decide, .inl G.ta⟩ ⟨rfl, by decide, .inl G.nt⟩ ⟨rfl, by decide, .inl G.nr⟩) (fun a oe cls d pn hz hf => pss_one (ps_ret (pe_tup (pa_cons (pe_xfA hz hf (pv 1)) (pa_cons (pe_xfA hz hf (pv 1)) pa_nil)))))
      (HdsA.cons (Cte.two ⟨rfl, by decide, .inl G.bt⟩ ⟨rfl, by decide, .inl G.uf⟩) (fun a oe cls d pn hz hf => pss_one (ps_ret (pe_tup (pa_cons (pe_xfA hz hf (pv 1)) (pa_cons (pe_xfA hz hf (pv 1)) pa_nil)))))
      (HdsA.cons (Cte.one ⟨rfl, by decide, .inl G.fu⟩) (fun a oe cls d pn hz hf => pss_one (ps_ret (pe_tup (pa_cons (pe_xfA hz hf (pv 1)) (pa_cons (pe_xfA hz hf (pv 1)) pa_nil)))))
      (HdsA.cons (Cte.one ⟨rfl, by decide, .inl G.tm⟩) (fun a oe cls d pn hz hf => pss_one (ps_ret (pe_tup (pa_cons (pe_xfA hz hf (pv 1)) (pa_cons (pe_xfA hz hf (pv 1)) pa_nil)))))
      (HdsA.cons (Cte.two ⟨rfl, by decide, .inl G.qe⟩ ⟨rfl, by decide, .inl G.no⟩) (fun a oe cls d pn hz hf => pss_one (ps_ret (pe_tup (pa_cons (pe_xfA hz hf (pv 1)) (pa_cons pe_str pa_nil)))))
      HdsA.nil)))))), ?_⟩
  · refine ⟨fun pins s' σ H' D I ⟨Ech, hW, h1, h2, h3⟩ => ?_⟩
    exact (pss_one (ps_ret (pe_tup (pa_cons pe_str (pa_cons (act W pn xe Ech _ _ tk hW) pa_nil))))).run pins s' σ H' D I ⟨h1, h2, h3⟩
  · refine ⟨Caught2 K Ta NT NR BT Uf Q, fun cls d σ' H' hlen hC => ?_, rfl, hc, h⟩
    obtain ⟨C, dd, fs, nm, y, rfl, rfl, pl, hdd, hl, hy, hq⟩ := hC
    refine ⟨false, pl.n1, fun z => Bool.noConfusion z, fun _ => ⟨true, pl.y2, fun _ a na => ?_, fun z => Bool.noConfusion z⟩⟩
    have e1 : (σ'.set 1 (some (V.ref a)))[1]? = some (some (V.ref a)) := List.getElem?_set_self (by rw [hlen]; decide)
    exact ⟨C, pl.xf, pl.nc, _, e1, rfl, rfl, dd, fs, _, rfl, hdd, hl, C, pl.xf, pl.na, _, e1, rfl, rfl, dd, fs, _, rfl, hdd, hy, by show 2 ≤ sizeLine; decide, fun p hp => hq p hp⟩
end
end VQ
namespace VQ
open PySem L2 LamX
/-! ### the law's own parts of a text -/
def joinB (l c : Nat) : Bool := (letB l && letB c) || (digB l && digB c)
abbrev wS (w : List Nat) : Str := ⟨w.toArray⟩
def ApartT (fs : List (List Nat × Nat)) (i : Nat) (cs : List Nat) : Prop := ∀ w p, fs.getLast? = some (w, p) → p + w.length = i → ∀ l c, w.getLast? = some l → cs.head? = some c → joinB l c = false
structure TkOk (fs : List (List Nat × Nat)) (i : Nat) : Prop where
  ne : ∀ f ∈ fs, f.1 ≠ []
  le : ∀ f ∈ fs, f.2 + f.1.length ≤ i
  few : fs.length ≤ i
  asc : ∀ f ∈ fs, ∀ c ∈ f.1, c < 128
def wds (fs : List (List Nat × Nat)) : List Str := fs.map fun f => wS f.1
inductive TkS (ts : List Str) : List (List Nat × Nat) → Nat → List Nat → Prop
  | free {fs : List (List Nat × Nat)} {i : Nat} {cs : List Nat} {rest : List Str} (sp : Spell cs rest) (e : wds fs ++ rest = ts) (ap : ApartT fs i cs) : TkS ts fs i cs
  | mid {fs0 : List (List Nat × Nat)} {w1 w2 cs' : List Nat} {p i : Nat} {rest : List Str} (e : p + w1.length = i) (n1 : w1 ≠ []) (n2 : w2 ≠ []) (tk : Tok (w1 ++ w2) cs') (sp : Spell cs' rest) (e2 : wds fs0 ++ wS (w1 ++ w2) :: rest = ts) : TkS ts (fs0 ++ [(w1, p)]) i (w2 ++ cs')
theorem let_dig (c : Nat) (h : letB c = true) : digB c = false := by
  cases e : digB c with
  | false => rfl
  | true =>
    rw [dig_let c e] at h
    cases h
theorem after_tok {w cs : List Nat} (t : Tok w cs) {l c : Nat} (hl : w.getLast? = some l) (hc : cs.head? = some c) : joinB l c = false := by
  have ml : l ∈ w := List.mem_of_getLast? hl
  unfold joinB
  cases t with
  | word ne all end_ => rw [end_ c hc, let_dig l (all l ml), Bool.and_false, Bool.false_and]; rfl
  | num ne all end_ => rw [end_ c hc, dig_let l (all l ml), Bool.and_false, Bool.false_and]; rfl
  | sign n1 n2 n3 =>
    rw [List.mem_singleton.mp ml, n1, n2, Bool.false_and, Bool.false_and]
    rfl
theorem apart_new {fs : List (List Nat × Nat)} {w cs : List Nat} {p i : Nat} (t : Tok w cs) : ApartT (fs ++ [(w, p)]) i cs := by
  intro w' p' h _ l c hl hc
  rw [List.getLast?_concat] at h
  cases h
  exact after_tok t hl hc
theorem wds_snoc (fs : List (List Nat × Nat)) (w : List Nat) (p : Nat) : wds (fs ++ [(w, p)]) = wds fs ++ [wS w] := by
  unfold wds
  rw [List.map_append]
  rfl
theorem tk_step {ts : List Str} {fs : List (List Nat × Nat)} {i c : Nat} {cs : List Nat} (h : TkS ts fs i (c :: cs)) (ok : TkOk fs i) :
    (∃ fs0 w p l, fs = fs0 ++ [(w, p)] ∧ p + w.length = i ∧ w.getLast? = some l ∧ joinB l c = true ∧ TkS ts (fs0 ++ [(w ++ [c], p)]) (i + 1) cs)
    ∨ (ApartT fs i [c] ∧ ((c = 32 ∧ TkS ts fs (i + 1) cs) ∨ (c ≠ 32 ∧ TkS ts (fs ++ [([c], i)]) (i + 1) cs))) := by
  generalize eall : c :: cs = all at h
  cases h with
  | @free _ _ _ rest sp e ap =>
    refine .inr ⟨fun w p h1 h2 l d hl hd => ap w p h1 h2 l d hl (by rw [← eall]; exact hd), ?_⟩
    cases sp with
    | nil => cases eall
    | @blank cs1 _ sp =>
      cases eall
      refine .inl ⟨rfl, .free sp e fun w p h1 h2 => ?_⟩
      have := ok.le _ (List.mem_of_getLast? h1)
      have : p + w.length ≤ i := this
      omega
    | @tok w cs' ts' tk sp =>
      obtain ⟨c', w', ew, nc⟩ := tk.first
      subst ew
      have e1 : c = c' ∧ cs = w' ++ cs' := by
        injection eall with a b
        exact ⟨a, b⟩
      obtain ⟨rfl, rfl⟩ := e1
      refine .inr ⟨nc, ?_⟩
      cases w' with
      | nil =>
        refine .free sp ?_ (apart_new tk)
        rw [wds_snoc, List.append_assoc]
        exact e
      | cons d w' => exact .mid (w1 := [c]) (w2 := d :: w') rfl (List.cons_ne_nil _ _) (List.cons_ne_nil _ _) tk sp e
  | @mid fs0 w1 w2 cs' p _ rest e n1 n2 tk sp e2 =>
    cases w2 with
    | nil => exact absurd rfl n2
    | cons d w2 =>
      have e1 : c = d ∧ cs = w2 ++ cs' := by
        injection eall with a b
        exact ⟨a, b⟩
      obtain ⟨rfl, rfl⟩ := e1
      obtain ⟨l, hl⟩ : ∃ l, w1.getLast? = some l := by
        cases hh : w1.getLast? with
        | none => exact absurd (List.getLast?_eq_none_iff.mp hh) n1
        | some l => exact ⟨l, rfl⟩
      have ml : l ∈ w1 := List.mem_of_getLast? hl
      refine .inl ⟨fs0, w1, p, l, rfl, e, hl, ?_, ?_⟩
      · unfold joinB
        generalize ew : w1 ++ c :: w2 = wall at tk
        cases tk with
        | word ne all end_ => rw [all l (by rw [← ew]; exact List.mem_append.mpr (.inl ml)), all c (by rw [← ew]; exact List.mem_append.mpr (.inr List.mem_cons_self))]; rfl
        | num ne all end_ =>
          rw [all l (by rw [← ew]; exact List.mem_append.mpr (.inl ml)), all c (by rw [← ew]; exact List.mem_append.mpr (.inr List.mem_cons_self)), Bool.and_true, Bool.or_true]
        | sign _ _ _ =>
          have := congrArg List.length ew
          rw [List.length_append] at this
          have p1 := List.length_pos_iff.mpr n1
          have : w1.length + (w2.length + 1) = 1 := this
          omega
      · have ea : w1 ++ c :: w2 = (w1 ++ [c]) ++ w2 := by rw [List.append_assoc]; rfl
        rw [ea] at tk e2
        cases w2 with
        | nil =>
          rw [List.append_nil] at tk e2
          refine .free sp ?_ (apart_new tk)
          rw [wds_snoc, List.append_assoc]
          exact e2
        | cons d w2 => exact .mid (by rw [List.length_append]; show p + (w1.length + 1) = _; omega) (List.append_ne_nil_of_right_ne_nil _ (List.cons_ne_nil _ _)) (List.cons_ne_nil _ _) tk sp e2
theorem TkOk.more {fs : List (List Nat × Nat)} {i c : Nat} (ok : TkOk fs i) (hc : c < 128) : TkOk (fs ++ [([c], i)]) (i + 1) := by
  refine ⟨fun f m => ?_, fun f m => ?_, ?_, fun f m => ?_⟩
  · rcases List.mem_append.mp m with m | m
    · exact ok.ne f m
    · rw [List.mem_singleton.mp m]
      exact List.cons_ne_nil _ _
  · rcases List.mem_append.mp m with m | m
    · have := ok.le f m
      omega
    · rw [List.mem_singleton.mp m]
      exact Nat.le_refl _
  · rw [List.length_append]
    have := ok.few
    show fs.length + 1 ≤ _
    omega
  · rcases List.mem_append.mp m with m | m
    · exact ok.asc f m
    · rw [List.mem_singleton.mp m]
      intro d md
      rw [List.mem_singleton.mp md]
      exact hc
theorem TkOk.next {fs : List (List Nat × Nat)} {i : Nat} (ok : TkOk fs i) : TkOk fs (i + 1) := ⟨ok.ne, fun f m => Nat.le_succ_of_le (ok.le f m), Nat.le_succ_of_le ok.few, ok.asc⟩
theorem TkOk.join {fs : List (List Nat × Nat)} {w : List Nat} {p i c : Nat} (ok : TkOk (fs ++ [(w, p)]) i) (hc : c < 128) (e : p + w.length = i) : TkOk (fs ++ [(w ++ [c], p)]) (i + 1) := by
  have mw : (w, p) ∈ fs ++ [(w, p)] := List.mem_append.mpr (.inr List.mem_cons_self)
  refine ⟨fun f m => ?_, fun f m => ?_, ?_, fun f m => ?_⟩
  · rcases List.mem_append.mp m with m | m
    · exact ok.ne f (List.mem_append.mpr (.inl m))
    · rw [List.mem_singleton.mp m]
      exact List.append_ne_nil_of_right_ne_nil _ (List.cons_ne_nil _ _)
  · rcases List.mem_append.mp m with m | m
    · exact Nat.le_succ_of_le (ok.le f (List.mem_append.mpr (.inl m)))
    · rw [List.mem_singleton.mp m]
      show p + (w ++ [c]).length ≤ _
      rw [List.length_append]
      show p + (w.length + 1) ≤ _
      omega
  · have := ok.few
    rw [List.length_append] at this ⊢
    exact Nat.le_succ_of_le this
  · rcases List.mem_append.mp m with m | m
    · exact ok.asc f (List.mem_append.mpr (.inl m))
    · rw [List.mem_singleton.mp m]
      intro d md
      rcases List.mem_append.mp md with md | md
      · exact ok.asc _ mw d md
      · rw [List.mem_singleton.mp md]
        exact hc
theorem tk_end {ts : List Str} {fs : List (List Nat × Nat)} {i : Nat} (h : TkS ts fs i []) : wds fs = ts := by
  generalize e0 : ([] : List Nat) = cs at h
  cases h with
  | @free _ _ _ rest sp e ap =>
    subst e0
    generalize e1 : ([] : List Nat) = cs at sp
    cases sp with
    | nil => rw [List.append_nil] at e; exact e
    | blank _ => cases e1
    | tok tk _ => exact absurd (List.append_eq_nil_iff.mp e1.symm).1 tk.ne
  | mid e n1 n2 tk sp e2 => exact absurd (List.append_eq_nil_iff.mp e0.symm).1 n2
end VQ
namespace VQ
open PySem L2 LamX
abbrev sLawTokens : Stmt := top 55
abbrev nLawTokens : List Str := ["_law_text_here", "_law_found", "_law_letters", "_law_at", "_law_sign", "_law_same_here", "_law_last"]
theorem scLawTokens : FnScope nLawTokens ["_law_text_here"] (defScope sLawTokens) := ⟨rfl, rfl, rfl, by decide +kernel, rfl, by decide +kernel, by decide +kernel⟩
theorem nil_or_snoc {α : Type} (xs : List α) : xs = [] ∨ ∃ (a : List α) (b : α), xs = a ++ [b] := by
  rcases List.eq_nil_or_concat xs with h | ⟨a, b, h⟩
  · exact .inl h
  · exact .inr ⟨a, b, by rw [h, List.concat_eq_append]⟩
def TkP (H : Hp) (v : V) (f : List Nat × Nat) : Prop := ∃ a, v = .ref a ∧ H a = some (.tup [.str (wS f.1), .int (f.2 : Nat)])
theorem TkP.moved {H H' : Hp} (s : Tups H H') {v : V} {t : List Nat × Nat} (h : TkP H v t) : TkP H' v t := by
  obtain ⟨a, e, h⟩ := h
  exact ⟨a, e, s _ _ h⟩
/-- a part with its place, wherever that is -/
def TkA (H : Hp) (v : V) (z : Str) : Prop := ∃ a n, v = .ref a ∧ H a = some (.tup [.str z, .int n])
theorem TkA.moved {H H' : Hp} (s : Tups H H') {v : V} {t : Str} (h : TkA H v t) : TkA H' v t := by
  obtain ⟨a, n, e, h⟩ := h
  exact ⟨a, n, e, s _ _ h⟩
theorem each_tks {H : Hp} : ∀ {us : List V} {fs : List (List Nat × Nat)}, Each (TkP H) us fs → Each (TkA H) us (wds fs)
  | _, _, .nil => .nil
  | _, _, .cons ⟨a, e, h⟩ r => .cons ⟨a, _, e, h⟩ (each_tks r)
theorem dp_tks {K : PySem.W.Frag} {H : Hp} : ∀ {us : List V} {fs : List (List Nat × Nat)}, Each (TkP H) us fs → DpAll K H us (fs.map fun f => PyData.tuple [.str (wS f.1), .int (f.2 : Nat)])
  | _, _, .nil => .nil
  | _, _, .cons ⟨a, e, h⟩ r => by
    subst e
    exact .cons (.tup (SqT.of h) (.cons (.str _) (.cons (.int _) .nil))) (dp_tks r)
theorem lay_tks {fs : List (List Nat × Nat)} {i : Nat} (ok : TkOk fs i) : Lay 2 (.list (fs.map fun f => PyData.tuple [.str (wS f.1), .int (f.2 : Nat)])) := .list fun d m => by
  obtain ⟨f, mf, rfl⟩ := List.mem_map.mp m
  refine .tuple fun d m => ?_
  rcases List.mem_cons.mp m with rfl | m
  · exact .str _ fun c mc => Nat.lt_of_lt_of_le (ok.asc f mf c mc) (by decide)
  · rw [List.mem_singleton.mp m]
    exact .int _ _
theorem and_ev {ta tb : TE} {σ : L2.St} {H : Hp} {a b : Bool} (ha : ∀ Q : VK, Q (.bl a) H → ta σ H Q) (hb : ∀ Q : VK, Q (.bl b) H → tb σ H Q) (Q : VK) (q : Q (.bl (a && b)) H) : tAndV ta tb σ H Q := by
  refine ha _ ⟨a, rfl, ?_⟩
  cases a with
  | true => exact hb _ q
  | false => exact q
theorem or_ev {ta tb : TE} {σ : L2.St} {H : Hp} {a b : Bool} (ha : ∀ Q : VK, Q (.bl a) H → ta σ H Q) (hb : ∀ Q : VK, Q (.bl b) H → tb σ H Q) (Q : VK) (q : Q (.bl (a || b)) H) : tOrV ta tb σ H Q := by
  refine ha _ ⟨a, rfl, ?_⟩
  cases a with
  | true => exact q
  | false => exact hb _ q
theorem Each.last {α : Type} {R : V → α → Prop} : ∀ {us : List V} {xs : List α} {x : α}, Each R us (xs ++ [x]) → ∃ us0 v, us = us0 ++ [v] ∧ Each R us0 xs ∧ R v x
  | _, [], _, .cons r .nil => ⟨[], _, rfl, .nil, r⟩
  | _, _ :: xs, _, .cons r h => by
    obtain ⟨us0, v, rfl, e, rv⟩ := Each.last h
    exact ⟨_ :: us0, v, rfl, .cons r e, rv⟩
section
variable {P : Program} {w : World} {K : PySem.W.Frag} {mg : Str → Option Value} {base : Heap}
def spToks : Sp := fun vs H Q _ => ∃ (z : Str) (ts : List Str), vs = [.str z] ∧ z.length ≤ 900 ∧ (∀ c ∈ z.cps.toList, c < 128) ∧ Spell z.cps.toList ts ∧ ∀ (l : Addr) (us : List V) (H' : Hp), H l = none → Same H H' → H' l = some (.lst us) → Each (TkA H') us ts → Q (.ref l) H'
theorem has_toks (b : Blt mg) (en : mg "enumerate" = none) (a : AtE K mg "_law_tokens" sLawTokens ["_law_text_here"]) : Has P w K mg base CX0 1 "_law_tokens" sLawTokens ["_law_text_here"] spToks := by
  obtain ⟨f, fd, a⟩ := a
  refine ⟨f, fd, a, a.fn.ok scLawTokens (fun vs H Q E h => ?_) (fun cdv A outer s H vs Q E hr h => ?_)⟩
  · obtain ⟨z, ts, rfl, _⟩ := h
    rfl
  · obtain ⟨z, ts, rfl, z9, asc, sp, k⟩ := h
    have hu : (A.deeper (PyProof.Rows.envOfC "_law_tokens" (defScope sLawTokens) s.heap.objs.size f cdv)).units + 64 < cLine := hr.units
    refine ⟨_,
    (pss_cons (ps_set (i := 1) scLawTokens.nd rfl (.inl rfl) (pe_lst pa_nil))
    (pss_cons (ps_set (i := 2) scLawTokens.nd rfl (.inl rfl) pe_str)
    (pss_cons (ps_for PassesOwn.never rfl (pi_enumS rfl en (pa_cons (pv 0) pa_nil)) (pg_tup rfl (pgs_cons (pg_name (i := 3) scLawTokens.nd rfl (.inl rfl)) (pgs_cons (pg_name (i := 4) scLawTokens.nd rfl (.inl rfl)) pgs_nil)))
      (pss_cons (ps_set (i := 5) scLawTokens.nd rfl (.inl rfl) pe_bl)
      (C8.pss_cut (ps_if (PW.pt (pw_and (pt_cmpR (op_neD hu) (pv 1) (pe_lst pa_nil) (nomark _)) (pw_and1 (pt_cmpR op_eq (pv 3) (pe_op op_add (pe_ix ix_tup (pe_ix ix_list (pv 1) (pe_un un_neg pe_int) fun _ _ => rfl) pe_int fun _ _ => rfl) (pe_callB call_len_str (by rfl) b.len PySem.boot_len (pa_cons (pe_ix ix_tup (pe_ix ix_list (pv 1) (pe_un un_neg pe_int) fun _ _ => rfl) pe_int fun _ _ => rfl) pa_nil))) (nomark _)))))
        (pss_cons (ps_set (i := 6) scLawTokens.nd rfl (.inl rfl) (pe_ix ix_str (pe_ix ix_tup (pe_ix ix_list (pv 1) (pe_un un_neg pe_int) fun _ _ => rfl) pe_int fun _ _ => rfl) (pe_un un_neg pe_int) fun _ _ => rfl))
        (pss_one (ps_set (i := 5) scLawTokens.nd rfl (.inl rfl) (pe_or (pe_and (pe_cmpR op_in_sign (pv 6) (pv 2) rfl) (pe_one (pe_cmpR op_in_sign (pv 4) (pv 2) rfl))) (pe_one (pe_and (pe_cmpR op_in_sign (pv 6) pe_str rfl) (pe_one (pe_cmpR op_in_sign (pv 4) pe_str rfl))))))))
        pss_nil)
      (pss_one (ps_if (pt_val (pv 5))
        (pss_one (ps_asg (pe_tup (pa_cons (pe_op op_add_str (pe_ix ix_tup (pe_ix ix_list (pv 1) (pe_un un_neg pe_int) fun _ _ => rfl) pe_int fun _ _ => rfl) (pv 4)) (pa_cons (pe_ix ix_tup (pe_ix ix_list (pv 1) (pe_un un_neg pe_int) fun _ _ => rfl) pe_int fun _ _ => rfl) pa_nil))) (pg_sub (pv 1) (pe_un un_neg pe_int) set_list)))
        (pss_one (ps_if (pt_cmpR op_ne (pv 4) pe_str (nomark _))
          (pss_one (ps_expr (pe_bm PySem.F.plainAttrs_list PySem.F.slot_list_append PySem.F.type_list_append mt_append (pv 1) (pa_cons (pe_tup (pa_cons (pv 4) (pa_cons (pv 3) pa_nil))) pa_nil))))
          pss_nil)))))))
    (pss_one (ps_ret (pv 1)))))), ?_⟩
    have big : (900 : Nat) ≤ sizeLine := by decide
    have zz : z.cps.size = z.length := rfl
    refine ⟨by show 0 ≤ sizeLine; decide, fun L hL => ?_⟩
    have sL := same_new (o := HO.lst []) hL
    have ascA : z.cps.all (· < 128) = true := by
      rw [← Array.all_toList, List.all_eq_true]
      exact fun c m => decide_eq_true (asc c m)
    dsimp only [gName, tSeq]
    refine ⟨_, rfl, z, rfl, ascA, ?_⟩
    refine for_enumS (x := z) (fun i σ H' => ∃ (x3 x4 x5 x6 : Option V) (us : List V) (fs : List (List Nat × Nat)), σ = [some (.str z), some (.ref L), some (.str letters), x3, x4, x5, x6] ∧ Same H H' ∧ H' L = some (.lst us) ∧ Each (TkP H') us fs ∧ TkOk fs i ∧ TkS ts fs i (z.cps.toList.drop i))
      ⟨none, none, none, none, [], [], rfl, sL, upd_same, .nil, ⟨fun _ m => (by cases m), fun _ m => (by cases m), Nat.zero_le _, fun _ m => (by cases m)⟩, .free sp rfl fun w p h => (by cases h)⟩ ?_ ?_
    · rintro i c σ H1 T hc ⟨x3, x4, x5, x6, us, fs, rfl, s1, h1, eu, ok, st⟩ nT
      have lt : i < z.cps.toList.length := by
        rw [Array.length_toList]
        exact (Array.getElem?_eq_some_iff.mp hc).1
      have dc : z.cps.toList.drop i = c :: z.cps.toList.drop (i + 1) := by
        rw [List.drop_eq_getElem_cons lt]
        have := (Array.getElem?_eq_some_iff.mp hc).2
        rw [Array.getElem_toList, this]
      have mc : c ∈ z.cps.toList := List.mem_of_mem_drop (by rw [dc]; exact List.mem_cons_self)
      have c128 := asc c mc
      have li : i < 900 := by
        rw [Array.length_toList] at lt
        have : z.cps.size ≤ 900 := z9
        omega
      rw [dc] at st
      have sT := same_new (o := HO.tup [.int (i : Nat), .str ⟨#[c]⟩]) nT
      refine ⟨T, _, rfl, SqT.of upd_same, rfl, _, _, rfl, _, _, rfl, rfl, ?_⟩
      generalize upd H1 T (HO.tup [.int (i : Nat), .str ⟨#[c]⟩]) = H2 at sT
      have s2 := s1.trans sT
      have h2 := sT _ _ h1
      have eu2 : Each (TkP H2) us fs := eu.mono fun _ _ y => y.moved (same_tups sT)
      have lu : us.length ≤ 900 := by
        rw [eu.len]
        have := ok.few
        omega
      dsimp only [gName, tSeq]
      refine ⟨fun σ' H' => ∃ (jb : Bool) (y6 : Option V), σ' = [some (.str z), some (.ref L), some (.str letters), some (.int (i : Nat)), some (.str ⟨#[c]⟩), some (.bl jb), y6] ∧ Same H2 H' ∧ (jb = true ↔ ∃ w p l, fs.getLast? = some (w, p) ∧ p + w.length = i ∧ w.getLast? = some l ∧ joinB l c = true), ?_, ?_⟩
      · refine ⟨_, rfl, by show 0 ≤ sizeLine; decide, fun N hN => ?_⟩
        have sN := same_new (o := HO.lst []) hN
        have h3 := sN _ _ h2
        have eu3 : Each (TkP (upd H2 N (.lst []))) us fs := eu2.mono fun _ _ y => y.moved (same_tups sN)
        refine ⟨_, .list [], .lst (SqL.of h3) (dp_tks eu3), .lst (SqL.of upd_same) .nil, (lay_tks ok).shaped (by decide), by decide +kernel, _, rfl, ?_⟩
        rw [eqv_nil]
        rcases nil_or_snoc fs with rfl | ⟨fs0, ⟨w, p⟩, rfl⟩
        · exact iteF ⟨false, _, rfl, sN, ⟨fun h => (by cases h), fun ⟨w, p, l, h, _⟩ => (by cases h)⟩⟩
        · have ne : ((fs0 ++ [(w, p)]).map fun f => PyData.tuple [.str (wS f.1), .int (f.2 : Nat)]).isEmpty = false := by cases fs0 <;> rfl
          rw [ne]
          obtain ⟨us0, v, rfl, eu0, ⟨a, rfl, ha⟩⟩ := eu3.last
          have mw : (w, p) ∈ fs0 ++ [(w, p)] := List.mem_append.mpr (.inr List.mem_cons_self)
          have lw : (wS w).length = w.length := List.size_toArray
          have wle : w.length ≤ 900 := by
            have := ok.le _ mw
            have : p + w.length ≤ i := this
            omega
          refine iteT ⟨_, rfl, _, rfl, 1, rfl, L, _, _, _, rfl, rfl, SqL.of h3, atI_last _ _, a, _, _, _, rfl, rfl, SqT.of ha, atI_nat (j := 1) rfl, ?_⟩
          refine ⟨_, rfl, 1, rfl, L, _, _, _, rfl, rfl, SqL.of h3, atI_last _ _, a, _, _, _, rfl, rfl, SqT.of ha, atI_nat (j := 0) rfl, _, rfl, by rw [lw]; omega, _, _, rfl, rfl, rfl, _, rfl, ?_⟩
          by_cases e : p + w.length = i
          · rw [decide_eq_true (show V.int (i : Nat) = V.int (((p : Nat) : Int) + (((wS w).length : Nat) : Int)) by rw [lw, ← e]; rfl)]
            rcases nil_or_snoc w with rfl | ⟨w0, l, rfl⟩
            · exact absurd rfl (ok.ne _ mw)
            · refine iteT ⟨_, rfl, 1, rfl, L, _, _, _, rfl, rfl, SqL.of h3, atI_last _ _, a, _, _, _, rfl, rfl, SqT.of ha, atI_nat (j := 0) rfl, 1, rfl, _, _, l, rfl, rfl, by rw [lw]; omega, atI_last w0 l, ?_⟩
              dsimp only [gName, tAsg]
              refine or_ev (a := letB l && letB c) (b := digB l && digB c) (and_ev (fun Q q => ⟨_, rfl, _, rfl, l, letters, rfl, rfl, q⟩) (fun Q q => ⟨_, rfl, _, rfl, c, letters, rfl, rfl, q⟩)) (and_ev (fun Q q => ⟨_, rfl, l, digs, rfl, rfl, q⟩) (fun Q q => ⟨_, rfl, c, digs, rfl, rfl, q⟩)) _ ?_
              refine ⟨joinB l c, _, rfl, sN, ⟨fun h => ⟨_, _, l, List.getLast?_concat, e, List.getLast?_concat, h⟩, ?_⟩⟩
              rintro ⟨w', p', l', g1, g2, g3, g4⟩
              rw [List.getLast?_concat] at g1
              cases g1
              rw [List.getLast?_concat] at g3
              cases g3
              exact g4
          · rw [decide_eq_false (show ¬ V.int (i : Nat) = V.int (((p : Nat) : Int) + (((wS w).length : Nat) : Int)) from fun q => e (by injection q with q; rw [lw] at q; omega))]
            refine iteF ⟨false, _, rfl, sN, ⟨fun h => (by cases h), ?_⟩⟩
            rintro ⟨w', p', l', g1, g2, g3, g4⟩
            rw [List.getLast?_concat] at g1
            cases g1
            exact absurd g2 e
      · rintro σ' H3 ⟨jb, y6, rfl, s3, iff⟩
        have h3 := s3 _ _ h2
        have eu3 : Each (TkP H3) us fs := eu2.mono fun _ _ y => y.moved (same_tups s3)
        have s13 := s2.trans s3
        refine ⟨_, rfl, _, rfl, ?_⟩
        rcases tk_step st ok with ⟨fs0, w, p, l, rfl, e, hl, jt, st'⟩ | ⟨ap, hh⟩
        · have hj : jb = true := iff.mpr ⟨w, p, l, List.getLast?_concat, e, hl, jt⟩
          subst hj
          obtain ⟨us0, v, rfl, eu0, ⟨a, rfl, ha⟩⟩ := eu3.last
          have mw : (w, p) ∈ fs0 ++ [(w, p)] := List.mem_append.mpr (.inr List.mem_cons_self)
          have lw : (wS w).length = w.length := List.size_toArray
          have wle : w.length ≤ 900 := by omega
          have l1 : (⟨#[c]⟩ : Str).length = 1 := rfl
          refine iteT ⟨_, rfl, 1, rfl, L, _, _, _, rfl, rfl, SqL.of h3, atI_last _ _, a, _, _, _, rfl, rfl, SqT.of ha, atI_nat (j := 0) rfl, _, rfl, _, _, rfl, rfl, by rw [lw, l1]; omega, ?_⟩
          refine ⟨_, rfl, 1, rfl, L, _, _, _, rfl, rfl, SqL.of h3, atI_last _ _, a, _, _, _, rfl, rfl, SqT.of ha, atI_nat (j := 1) rfl, by show 2 ≤ sizeLine; decide, fun T2 hT2 => ?_⟩
          have sT2 := same_new (o := HO.tup [.str (wS w ++ ⟨#[c]⟩), .int (p : Nat)]) hT2
          have h4 := sT2 _ _ h3
          have ew : wS w ++ ⟨#[c]⟩ = wS (w ++ [c]) := TL.ext_tl (by rw [TL.tl_append])
          have ix : ixN (us0 ++ [V.ref a]).length (-1) = some us0.length := by
            rw [List.length_append]
            show ixN (us0.length + 1) (-1) = _
            unfold ixN
            rw [if_neg (by decide), if_pos (by omega)]
            congr 1
            omega
          have eset : (us0 ++ [V.ref a]).set us0.length (.ref T2) = us0 ++ [V.ref T2] := by simp
          refine ⟨_, rfl, 1, rfl, L, _, _, _, rfl, rfl, h4, ix, ?_⟩
          rw [eset]
          have t5 := tups_lst (ys := us0 ++ [V.ref T2]) h4
          refine ⟨_, _, _, _, us0 ++ [V.ref T2], fs0 ++ [(w ++ [c], p)], rfl, same_put (s13.trans sT2) hL, upd_same, ?_, ok.join c128 e, st'⟩
          refine (eu0.mono fun _ _ y => y.moved ((same_tups sT2).trans t5)).snoc ⟨T2, rfl, ?_⟩
          rw [← ew]
          exact t5 _ _ upd_same
        · have hj : jb = false := by
            cases jb with
            | false => rfl
            | true =>
              obtain ⟨w, p, l, g1, g2, g3, g4⟩ := iff.mp rfl
              rw [ap w p g1 g2 l c g3 rfl] at g4
              cases g4
          subst hj
          refine iteF ⟨_, rfl, rfl, _, rfl, ?_⟩
          rcases hh with ⟨rfl, st'⟩ | ⟨nc, st'⟩
          · rw [show decide (V.str (⟨#[32]⟩ : Str) = V.str " ") = true by decide +kernel]
            exact iteF ⟨_, _, _, _, us, fs, rfl, s13, h3, eu3, ok.next, st'⟩
          · rw [decide_eq_false (fun e => by
              injection e with e
              rw [show (" " : Str) = ⟨#[32]⟩ by decide +kernel] at e
              have e' : (#[c] : Array Nat) = #[32] := congrArg PySem.Str.cps e
              have e2 : [c] = [32] := congrArg Array.toList e'
              injection e2 with e2
              exact nc e2)]
            refine iteT ⟨_, rfl, .inl ⟨rfl, _, SqL.of h3⟩, _, rfl, _, rfl, by show 2 ≤ sizeLine; decide, fun T2 hT2 => ?_⟩
            have sT2 := same_new (o := HO.tup [.str ⟨#[c]⟩, .int (i : Nat)]) hT2
            have h4 := sT2 _ _ h3
            have t5 := tups_lst (ys := us ++ [V.ref T2]) h4
            refine ⟨L, _, _, rfl, rfl, h4, lt_line (by omega), ?_⟩
            exact ⟨_, _, _, _, us ++ [V.ref T2], fs ++ [([c], i)], rfl, same_put (s13.trans sT2) hL, upd_same, (eu3.mono fun _ _ y => y.moved ((same_tups sT2).trans t5)).snoc ⟨T2, rfl, t5 _ _ upd_same⟩, ok.more c128, st'⟩
    · rintro σ H1 ⟨x3, x4, x5, x6, us, fs, rfl, s1, h1, eu, ok, st⟩
      rw [List.drop_of_length_le (by rw [Array.length_toList]; exact Nat.le_refl _)] at st
      refine ⟨_, rfl, k L us H1 hL s1 h1 ?_⟩
      rw [← tk_end st]
      exact each_tks eu
end
end VQ
namespace VQ
open PySem L2 LamX
abbrev sLawGoodName : Stmt := top 45
abbrev nLawGoodName : List Str := ["_law_name", "_law_sign"]
theorem scLawGoodName : FnScope nLawGoodName ["_law_name"] (defScope sLawGoodName) := ⟨rfl, rfl, rfl, by decide +kernel, rfl, by decide +kernel, by decide +kernel⟩
abbrev sLawReadTerm : Stmt := top 57
abbrev nLawReadTerm : List Str := ["_law_word", "_law_names_here", "_law_sign"]
theorem scLawReadTerm : FnScope nLawReadTerm ["_law_word", "_law_names_here"] (defScope sLawReadTerm) := ⟨rfl, rfl, rfl, by decide +kernel, rfl, by decide +kernel, by decide +kernel⟩
abbrev sLawReadTie : Stmt := top 58
abbrev nLawReadTie : List Str := ["_law_tokens_here", "_law_k", "_law_names_here", "_law_table", "_law_terms_here", "_law_step", "_law_spot", "_law_term_here"]
theorem scLawReadTie : FnScope nLawReadTie ["_law_tokens_here", "_law_k", "_law_names_here"] (defScope sLawReadTie) := ⟨rfl, rfl, rfl, by decide +kernel, rfl, by decide +kernel, by decide +kernel⟩
theorem tk_at {H : Hp} {us : List V} {ts : List Str} (e : Each (TkA H) us ts) {j : Nat} {z : Str} {r : List Str} (h : ts.drop j = z :: r) : ∃ a n, us[j]? = some (.ref a) ∧ H a = some (.tup [.str z, .int n]) := by
  have lt := (drop_at h).2.1
  have g : ts[j]? = some z := by
    rw [List.drop_eq_getElem_cons lt] at h
    injection h with h1 _
    rw [List.getElem?_eq_getElem lt, h1]
  obtain ⟨v, ev, a, n, rfl, ha⟩ := e.at_ g
  exact ⟨a, n, ev, ha⟩
theorem nums_more : ∀ n, n < 32 → numS n ≠ "" ∧ ((numS n).cps.toList.head? ≠ some 48 ∨ numS n = "0") := by decide +kernel
theorem sign_eq {c d : Nat} {y : Str} (ey : TL.tl y = [d]) : (V.str (⟨#[c]⟩ : Str) = V.str y) ↔ c = d := by
  constructor
  · intro e
    injection e with e
    have e2 : [c] = [d] := by
      rw [← ey, ← e]
    injection e2
  · rintro rfl
    exact congrArg V.str (TL.ext_tl (by rw [ey]))
section
variable {P : Program} {w : World} {K : PySem.W.Frag} {mg : Str → Option Value} {base : Heap}
def spGood : Sp := fun vs H Q _ => ∃ (z : Str), vs = [.str z] ∧ NameS 8 z ∧ ∀ H', Same H H' → Q (.bl true) H'
theorem has_good (b : Blt mg) (a : AtE K mg "_law_good_name" sLawGoodName ["_law_name"]) : Has P w K mg base CX0 1 "_law_good_name" sLawGoodName ["_law_name"] spGood := by
  obtain ⟨f, fd, a⟩ := a
  refine ⟨f, fd, a, a.fn.ok scLawGoodName (fun vs H Q E h => ?_) (fun cdv A outer s H vs Q E hr h => ?_)⟩
  · obtain ⟨z, rfl, _⟩ := h
    rfl
  · obtain ⟨z, rfl, nz, k⟩ := h
    refine ⟨_,
    (pss_cons (ps_if (PW.pt (pw_or (pt_not (pt_val (pe_isi (pv 0) rfl b.isi rfl b.str (c := "str") (by decide +kernel)))) (pw_or (pt_not (pt_chain op_le op_le pe_int (pe_callB call_len_str (by rfl) b.len PySem.boot_len (pa_cons (pv 0) pa_nil)) pe_int)) (pw_or1 (pt_cmpR op_in_seq (pv 0) (pe_tup (pa_cons pe_str (pa_cons pe_str pa_nil))) rfl)))))
      (pss_one (ps_ret pe_bl))
      pss_nil)
    (pss_one (ps_ret (pe_callB (cr_all rfl) (by rfl) b.all (by decide +kernel) (pa_cons (pe_lc (own := [("_law_sign", 1)]) (g := (gName 1)) (tt := tYes) (te := (tOp rInSign (tVar 1) (tC (.str "abcdefghijklmnopqrstuvwxyz")))) rfl scLawGoodName.nd (pi_str (pv 0)) (blkOk_by (N := nLawGoodName) (sc := defScope sLawGoodName) (by decide +kernel)) (fun _ _ _ _ _ => (pg_name (i := 1) scLawGoodName.nd rfl (.inl rfl))) (fun _ _ _ _ _ => pts_nil) (fun _ _ _ _ _ => (pe_cmpR op_in_sign (pv 1) pe_str rfl))) pa_nil))))), ?_⟩
    have l8 := nz.hi
    refine rd_isi rfl (.base (.str z)) (b := true) (by decide +kernel) ⟨_, rfl, iteF ?_⟩
    refine ⟨_, rfl, z, rfl, Nat.le_trans (show z.length ≤ 1000 by omega) (by decide), 1, _, rfl, rfl, _, rfl, ?_⟩
    rw [if_pos (decide_eq_true (show (1 : Int) ≤ (z.length : Int) by have := nz.lo; omega))]
    refine ⟨_, _, rfl, rfl, _, rfl, ?_⟩
    rw [decide_eq_true (show (z.length : Int) ≤ 8 by omega)]
    refine iteF ⟨_, rfl, by show 2 ≤ sizeLine; decide, fun T hT => ?_⟩
    have sT := same_new (o := HO.tup [.str "find", .str "some"]) hT
    refine ⟨T, _, rfl, .inr (SqT.of upd_same), rfl, rfl, _, rfl, ?_⟩
    have e1 : inV (.str z) [.str "find", .str "some"] = false := by
      have e := inV_str (z := z) (zs := ["find", "some"])
      rw [show ([.str "find", .str "some"] : List V) = (["find", "some"] : List Str).map V.str from rfl, e]
      refine decide_eq_false fun m => ?_
      rcases List.mem_cons.mp m with q | q
      · exact nz.nf q
      · exact nz.ns (List.mem_singleton.mp q)
    rw [e1]
    refine iteF ⟨_, rfl, z, rfl, fun D hD => ?_⟩
    refine lc_textS (fun i acc _ => acc = ((z.cps.toList.take i).map letB).map V.bl) hD (show z.cps.size < 1000 by have : z.cps.size = z.length := rfl; omega) (fun _ _ _ _ _ h => h) rfl ?_ ?_
    · rintro i c acc H2 hc s2 h2 rfl k1 k2 y1 y2
      refine ⟨rfl, yes_turn ?_⟩
      refine ⟨_, rfl, c, letters, rfl, rfl, y1 _ _ (Same.refl _) ?_⟩
      rw [List.take_add_one, show z.cps.toList[i]? = some c by rw [Array.getElem?_toList]; exact hc, List.map_append, List.map_append]
      rfl
    · rintro acc H2 s2 h2 rfl
      refine ⟨D, _, rfl, SqL.of h2, ?_⟩
      have e2 : ((z.cps.toList.take z.cps.size).map letB).all id = true := by
        rw [List.take_of_length_le (by simp), List.all_map]
        exact List.all_eq_true.mpr fun c m => nz.lt c m
      rw [e2]
      exact k H2 (sT.trans s2)
def spRTerm : Sp := fun vs H Q _ => ∃ (t : Term) (n : Addr) (zs : List Str), vs = [.str (tokT t), .ref n] ∧ NmAt H n zs ∧ (∀ z ∈ zs, NameS 4 z) ∧ TermOk zs t ∧ ∀ H', Same H H' → Q (termV t) H'
theorem has_rterm (b : Blt mg) (a : AtE K mg "_law_read_term" sLawReadTerm ["_law_word", "_law_names_here"]) : Has P w K mg base CX0 1 "_law_read_term" sLawReadTerm ["_law_word", "_law_names_here"] spRTerm := by
  obtain ⟨f, fd, a⟩ := a
  refine ⟨f, fd, a, a.fn.ok scLawReadTerm (fun vs H Q E h => ?_) (fun cdv A outer s H vs Q E hr h => ?_)⟩
  · obtain ⟨t, n, zs, rfl, _⟩ := h
    rfl
  · obtain ⟨t, n, zs, rfl, hn, nz, ok, k⟩ := h
    refine ⟨_,
    (pss_cons (ps_if (pt_cmpR op_in_seq (pv 0) (pv 1) rfl)
      (pss_one (ps_ret (pv 0)))
      pss_nil)
    (pss_cons (ps_if (PW.pt (pw_or (pt_cmpR op_eq (pv 0) pe_str (nomark _)) (pw_or1 (pt_not (pt_val (pe_callB (cr_all rfl) (by rfl) b.all (by decide +kernel) (pa_cons (pe_lc (own := [("_law_sign", 2)]) (g := (gName 2)) (tt := tYes) (te := (tOp rInSign (tVar 2) (tC (.str "0123456789")))) rfl scLawReadTerm.nd (pi_str (pv 0)) (blkOk_by (N := nLawReadTerm) (sc := defScope sLawReadTerm) (by decide +kernel)) (fun _ _ _ _ _ => (pg_name (i := 2) scLawReadTerm.nd rfl (.inl rfl))) (fun _ _ _ _ _ => pts_nil) (fun _ _ _ _ _ => (pe_cmpR op_in_sign (pv 2) pe_str rfl))) pa_nil)))))))
      (pss_one (ps_ret pe_non))
      pss_nil)
    (pss_cons (ps_if (PW.pt (pw_or (pt_cmpR op_gt (pe_callB call_len_str (by rfl) b.len PySem.boot_len (pa_cons (pv 0) pa_nil)) pe_int (nomark _)) (pw_or (PW.pt (pw_and (pt_cmpR op_eq (pe_ix ix_str (pv 0) pe_int fun _ _ => rfl) pe_str (nomark _)) (pw_and1 (pt_cmpR op_ne (pv 0) pe_str (nomark _))))) (pw_or1 (pt_cmpR op_gt (pe_callTy call_int_str (by rfl) b.int (by decide +kernel) (pa_cons (pv 0) pa_nil)) pe_int (nomark _))))))
      (pss_one (ps_ret pe_non))
      pss_nil)
    (pss_one (ps_ret (pe_callTy call_int_str (by rfl) b.int (by decide +kernel) (pa_cons (pv 0) pa_nil))))))), ?_⟩
    refine ⟨_, rfl, _, rfl, n, _, rfl, .inr (SqT.of hn), rfl, strs_flat _, _, rfl, ?_⟩
    rw [inV_str]
    cases t with
    | nm z =>
      rw [decide_eq_true (show tokT (.nm z) ∈ zs from ok)]
      exact iteT ⟨_, rfl, k _ (Same.refl _)⟩
    | wo m =>
      have lm : m < 32 := ok
      obtain ⟨l2, ne, dg, it⟩ := nums_dig m lm
      obtain ⟨n0, h0⟩ := nums_more m lm
      have big : (900 : Nat) ≤ sizeLine := by decide
      have zz : (numS m).cps.size = (numS m).length := rfl
      rw [decide_eq_false (show ¬ tokT (.wo m) ∈ zs from fun mm => num_no_name (nz _ mm) lm rfl)]
      refine iteF ⟨_, rfl, rfl, _, rfl, ?_⟩
      rw [decide_eq_false (show ¬ V.str (tokT (.wo m)) = V.str "" from fun e => n0 (by injection e))]
      refine iteF ⟨_, rfl, _, rfl, fun D hD => ?_⟩
      refine lc_textS (z := numS m) (fun i acc _ => acc = (((numS m).cps.toList.take i).map digB).map V.bl) hD (by omega) (fun _ _ _ _ _ h => h) rfl ?_ ?_
      · rintro i c acc H2 hc s2 h2 rfl k1 k2 y1 y2
        refine ⟨rfl, yes_turn ?_⟩
        refine ⟨_, rfl, c, digs, rfl, rfl, y1 _ _ (Same.refl _) ?_⟩
        rw [List.take_add_one, show (numS m).cps.toList[i]? = some c by rw [Array.getElem?_toList]; exact hc, List.map_append, List.map_append]
        rfl
      · rintro acc H2 s2 h2 rfl
        refine ⟨D, _, rfl, SqL.of h2, ?_⟩
        have e2 : (((numS m).cps.toList.take (numS m).cps.size).map digB).all id = true := by
          rw [List.take_of_length_le (by simp), List.all_map]
          exact List.all_eq_true.mpr fun c m => dg c m
        rw [e2]
        refine ⟨_, rfl, iteF ?_⟩
        refine ⟨_, rfl, numS m, rfl, by omega, _, _, rfl, rfl, _, rfl, ?_⟩
        rw [decide_eq_false (show ¬ (2 : Int) < (((numS m).length : Nat) : Int) by omega)]
        obtain ⟨c, cs, ec⟩ := List.exists_cons_of_ne_nil ne
        have g0 : (numS m).cps.toList[0]? = some c := by rw [ec]; rfl
        refine iteF ⟨_, rfl, numS m, _, c, rfl, rfl, by omega, atI_nat (j := 0) g0, rfl, _, rfl, ?_⟩
        have t48 : TL.tl ("0" : Str) = [48] := by decide +kernel
        have last : ∀ {G : Prop}, (¬ (31 : Int) < ((m : Nat) : Int) → G) → G := fun g => g (by omega)
        by_cases c0 : c = 48
        · rw [decide_eq_true ((sign_eq t48).mpr c0)]
          have e0 : numS m = "0" := h0.resolve_left (fun h => h (by rw [ec, c0]; rfl))
          refine iteT ⟨_, rfl, rfl, _, rfl, ?_⟩
          rw [decide_eq_true (show V.str (tokT (.wo m)) = V.str "0" from congrArg V.str e0)]
          refine iteF ⟨_, rfl, numS m, _, rfl, it, by omega, _, _, rfl, rfl, _, rfl, ?_⟩
          rw [decide_eq_false (show ¬ (31 : Int) < ((m : Nat) : Int) by omega)]
          exact iteF ⟨_, rfl, numS m, _, rfl, it, by omega, k _ s2⟩
        · rw [decide_eq_false (fun e => c0 ((sign_eq t48).mp e))]
          refine iteF (iteF ⟨_, rfl, numS m, _, rfl, it, by omega, _, _, rfl, rfl, _, rfl, ?_⟩)
          rw [decide_eq_false (show ¬ (31 : Int) < ((m : Nat) : Int) by omega)]
          exact iteF ⟨_, rfl, numS m, _, rfl, it, by omega, k _ s2⟩
end
end VQ
namespace VQ
open PySem L2 LamX
abbrev sLawReadItem : Stmt := top 59
abbrev nLawReadItem : List Str := ["_law_tokens_here", "_law_k", "_law_names_here", "_law_ties", "_law_less_now", "_law_one", "_law_other", "_law_at"]
theorem scLawReadItem : FnScope nLawReadItem ["_law_tokens_here", "_law_k", "_law_names_here", "_law_ties", "_law_less_now"] (defScope sLawReadItem) := ⟨rfl, rfl, rfl, by decide +kernel, rfl, by decide +kernel, by decide +kernel⟩
section
variable {P : Program} {w : World} {K : PySem.W.Frag} {mg : Str → Option Value} {base : Heap}
theorem term_not_none (t : Term) : ¬ termV t = .non := by cases t <;> (intro h; cases h)
def spRTie : Sp := fun vs H Q _ => ∃ (l : Addr) (us : List V) (ts : List Str) (k : Nat) (n : Addr) (zs : List Str) (t : Str × List Term) (r : List Str), vs = [.ref l, .int (k : Nat), .ref n] ∧ H l = some (.lst us) ∧ Each (TkA H) us ts ∧ NmAt H n zs ∧ (∀ z ∈ zs, NameS 4 z) ∧ TieOk zs t ∧ ts.drop k = tieToks t ++ r ∧
  ∀ (p : Addr) (v : V) (H' : Hp), Same H H' → H' p = some (.tup [v, .int ((k + (tieToks t).length : Nat) : Int)]) → TieAt H' v t → Q (.ref p) H'
theorem has_rtie (b : Blt mg) (hGn : Has P w K mg base CX0 1 "_law_good_name" sLawGoodName ["_law_name"] spGood) (hRm : Has P w K mg base CX0 1 "_law_read_term" sLawReadTerm ["_law_word", "_law_names_here"] spRTerm) (a : AtE K mg "_law_read_tie" sLawReadTie ["_law_tokens_here", "_law_k", "_law_names_here"]) :
    Has P w K mg base CX0 2 "_law_read_tie" sLawReadTie ["_law_tokens_here", "_law_k", "_law_names_here"] spRTie := by
  obtain ⟨f, fd, a⟩ := a
  obtain ⟨fGn, fdGn, aGn, GGn⟩ := hGn
  obtain ⟨fRm, fdRm, aRm, GRm⟩ := hRm
  refine ⟨f, fd, a, a.fn.ok scLawReadTie (fun vs H Q E h => ?_) (fun cdv A outer s H vs Q E hr1 h => ?_)⟩
  · obtain ⟨l, us, ts, k, n, zs, t, r, rfl, _⟩ := h
    rfl
  · obtain ⟨l, us, ts, k, n, zs, ⟨tb, ms⟩, r, rfl, hl, eu, hn, nz, ok, ed, q⟩ := h
    refine ⟨_,
    (pss_cons (ps_set (i := 3) scLawReadTie.nd rfl (.inl rfl) (pe_ix ix_tup (pe_ix ix_list (pv 0) (pv 1) fun _ _ => rfl) pe_int fun _ _ => rfl))
    (pss_cons (ps_if (pt_not (pt_val (pe_call GGn hr1 rfl aGn.gl aGn.fn.kp aGn.bd .nil pass0 (pa_cons (pv 3) pa_nil))))
      (pss_one (ps_ret (pe_tup (pa_cons pe_non (pa_cons (pe_ix ix_tup (pe_ix ix_list (pv 0) (pv 1) fun _ _ => rfl) pe_int fun _ _ => rfl) pa_nil)))))
      pss_nil)
    (pss_cons (ps_if (pt_cmpR op_ne (pe_ix ix_tup (pe_ix ix_list (pv 0) (pe_op op_add (pv 1) pe_int) fun _ _ => rfl) pe_int fun _ _ => rfl) pe_str (nomark _))
      (pss_one (ps_ret (pe_tup (pa_cons pe_non (pa_cons (pe_ix ix_tup (pe_ix ix_list (pv 0) (pe_op op_add (pv 1) pe_int) fun _ _ => rfl) pe_int fun _ _ => rfl) pa_nil)))))
      pss_nil)
    (pss_cons (ps_set (i := 4) scLawReadTie.nd rfl (.inl rfl) (pe_lst pa_nil))
    (pss_cons (ps_for PassesOwn.never rfl (pi_range1 rfl b.range (pa_cons pe_int pa_nil)) (pg_name (i := 5) scLawReadTie.nd rfl (.inl rfl))
      (pss_cons (ps_set (i := 6) scLawReadTie.nd rfl (.inl rfl) (pe_op op_add (pe_op op_add (pv 1) pe_int) (pe_op op_mul pe_int (pv 5))))
      (pss_cons (ps_set (i := 7) scLawReadTie.nd rfl (.inl rfl) (pe_call GRm hr1 rfl aRm.gl aRm.fn.kp aRm.bd .nil pass0 (pa_cons (pe_ix ix_tup (pe_ix ix_list (pv 0) (pv 6) fun _ _ => rfl) pe_int fun _ _ => rfl) (pa_cons (pv 2) pa_nil))))
      (pss_cons (ps_if (pt_cmpR op_isN (pv 7) pe_non (nomark _))
        (pss_one (ps_ret (pe_tup (pa_cons pe_non (pa_cons (pe_ix ix_tup (pe_ix ix_list (pv 0) (pv 6) fun _ _ => rfl) pe_int fun _ _ => rfl) pa_nil)))))
        pss_nil)
      (pss_cons (ps_expr (pe_bm PySem.F.plainAttrs_list PySem.F.slot_list_append PySem.F.type_list_append mt_append (pv 4) (pa_cons (pv 7) pa_nil)))
      (pss_cons (ps_if (pt_cmpR op_eq (pe_ix ix_tup (pe_ix ix_list (pv 0) (pe_op op_add (pv 6) pe_int) fun _ _ => rfl) pe_int fun _ _ => rfl) pe_str (nomark _))
        (pss_one (ps_ret (pe_tup (pa_cons (pe_tup (pa_cons (pv 3) (pa_cons (pe_callTy call_tuple_of (by rfl) b.tuple (by decide +kernel) (pa_cons (pv 4) pa_nil)) pa_nil))) (pa_cons (pe_op op_add (pv 6) pe_int) pa_nil)))))
        pss_nil)
      (pss_one (ps_if (PW.pt (pw_or (pt_cmpR op_ne (pe_ix ix_tup (pe_ix ix_list (pv 0) (pe_op op_add (pv 6) pe_int) fun _ _ => rfl) pe_int fun _ _ => rfl) pe_str (nomark _)) (pw_or1 (pt_cmpR op_eq (pv 5) pe_int (nomark _)))))
        (pss_one (ps_ret (pe_tup (pa_cons pe_non (pa_cons (pe_ix ix_tup (pe_ix ix_list (pv 0) (pe_op op_add (pv 6) pe_int) fun _ _ => rfl) pe_int fun _ _ => rfl) pa_nil)))))
        pss_nil))))))))
    (pss_one (ps_ret (pe_tup (pa_cons pe_non (pa_cons pe_int pa_nil)))))))))), ?_⟩
    have m4 : ms.length ≤ 4 := ok.hi
    have m1 : 1 ≤ ms.length := ok.lo
    have ed0 : ts.drop k = tb :: ("(" : Str) :: (commaT ms ++ (")" : Str) :: r) := by
      rw [ed]
      show tb :: ("(" : Str) :: ((commaT ms ++ [(")" : Str)]) ++ r) = _
      rw [List.append_assoc]
      rfl
    obtain ⟨_, _, ed1⟩ := drop_at ed0
    obtain ⟨_, _, ed2⟩ := drop_at ed1
    obtain ⟨a0, n0, g0, ha0⟩ := tk_at eu ed0
    obtain ⟨a1, n1, g1, ha1⟩ := tk_at eu ed1
    refine ⟨_, rfl, _, rfl, l, _, _, _, rfl, rfl, SqL.of hl, atI_nat g0, a0, _, _, _, rfl, rfl, SqT.of ha0, atI_nat (j := 0) rfl, ?_⟩
    refine ⟨_, rfl, tb, rfl, ok.nm, fun H1 s1 => ⟨_, rfl, iteF ?_⟩⟩
    refine ⟨_, rfl, _, rfl, _, _, rfl, rfl, l, _, _, _, rfl, rfl, SqL.of (s1 _ _ hl), atI_nat (j := k + 1) g1, a1, _, _, _, rfl, rfl, SqT.of (s1 _ _ ha1), atI_nat (j := 0) rfl, rfl, _, rfl, ?_⟩
    rw [decide_eq_true rfl]
    refine iteF ⟨by show 0 ≤ sizeLine; decide, fun L hL => ?_⟩
    have sL := same_new (o := HO.lst []) hL
    have s02 := s1.trans sL
    have hL0 : H L = none := s1.free hL
    dsimp only [gName, tSeq]
    have elen : ∀ xs : List Term, xs ≠ [] → (commaT xs).length + 1 = 2 * xs.length := by
      intro xs ne
      cases xs with
      | nil => exact absurd rfl ne
      | cons x xs =>
        show (xs.flatMap sepT).length + 1 + 1 = 2 * (xs.length + 1)
        have : (xs.flatMap sepT).length = 2 * xs.length := by
          clear ne
          induction xs with
          | nil => rfl
          | cons y ys ih =>
            show (ys.flatMap sepT).length + 1 + 1 = 2 * (ys.length + 1)
            omega
        omega
    have etie : (tieToks (tb, ms)).length = 2 + 2 * ms.length := by
      have := elen ms (fun e => by rw [e] at m1; exact absurd m1 (by decide))
      show ((commaT ms ++ [(")" : Str)]).length + 1) + 1 = _
      rw [List.length_append]
      show ((commaT ms).length + 1) + 1 + 1 = _
      omega
    refine ⟨_, rfl, by omega, by omega, ?_⟩
    refine for_range (lo := 0) (n := 4) (fun i σ H' => ∃ (x5 x6 x7 : Option V) (dn rest : List Term), σ = [some (.ref l), some (.int (k : Nat)), some (.ref n), some (.str tb), some (.ref L), x5, x6, x7] ∧ Same H H' ∧ H' L = some (.lst (dn.map termV)) ∧ dn ++ rest = ms ∧ dn.length = i ∧ rest ≠ [] ∧ ts.drop (k + 2 + 2 * i) = commaT rest ++ (")" : Str) :: r)
      ⟨none, none, none, [], ms, rfl, s02, upd_same, rfl, rfl, fun e => by rw [e] at m1; exact absurd m1 (by decide), ed2⟩ ?_ ?_
    · rintro i σ H3 hi ⟨x5, x6, x7, dn, rest, rfl, s3, h3, er, ei, rne, edr⟩
      have ldr : dn.length + rest.length = ms.length := by
        have := congrArg List.length er
        rw [List.length_append] at this
        exact this
      cases rest with
      | nil => exact absurd rfl rne
      | cons t1 rest =>
      have ldr' : dn.length + (rest.length + 1) = ms.length := ldr
      have edr' : ts.drop (k + 2 + 2 * i) = tokT t1 :: (rest.flatMap sepT ++ (")" : Str) :: r) := edr
      obtain ⟨_, _, edn⟩ := drop_at edr'
      have mt : t1 ∈ ms := by
        rw [← er]
        exact List.mem_append.mpr (.inr List.mem_cons_self)
      obtain ⟨a2, n2, g2, ha2⟩ := tk_at eu edr'
      have spot : ((k : Nat) : Int) + 2 + 2 * (0 + ((i : Nat) : Int)) = ((k + 2 + 2 * i : Nat) : Int) := by omega
      refine ⟨_, rfl, _, _, rfl, rfl, _, rfl, _, _, rfl, rfl, ?_, _, _, rfl, rfl, ?_⟩
      · exact .inl (by decide)
      dsimp only [gName, tSeq]
      rw [spot]
      refine ⟨_, rfl, _, rfl, l, _, _, _, rfl, rfl, SqL.of (s3 _ _ hl), atI_nat g2, a2, _, _, _, rfl, rfl, SqT.of (s3 _ _ ha2), atI_nat (j := 0) rfl, ?_⟩
      refine ⟨_, rfl, t1, n, zs, rfl, s3 _ _ hn, nz, ok.tm t1 mt, fun H4 s4 => ?_⟩
      have s04 := s3.trans s4
      have h4 := s4 _ _ h3
      refine ⟨_, rfl, rfl, _, rfl, ?_⟩
      rw [decide_eq_false (term_not_none t1)]
      refine iteF ⟨_, rfl, .inl ⟨rfl, _, SqL.of h4⟩, _, rfl, L, _, _, rfl, rfl, h4, lt_line (by rw [List.length_map]; omega), ?_⟩
      have s5 : Same H (upd H4 L (.lst (dn.map termV ++ [termV t1]))) := same_put s04 hL0
      have h5 : upd H4 L (.lst (dn.map termV ++ [termV t1])) L = some (.lst ((dn ++ [t1]).map termV)) := by
        rw [upd_same, List.map_append]
        rfl
      generalize upd H4 L (.lst (dn.map termV ++ [termV t1])) = H5 at s5 h5
      cases rest with
      | nil =>
        have edn' : ts.drop (k + 2 + 2 * i + 1) = (")" : Str) :: r := edn
        obtain ⟨a3, n3, g3, ha3⟩ := tk_at eu edn'
        refine ⟨_, rfl, _, rfl, _, _, rfl, rfl, l, _, _, _, rfl, rfl, SqL.of (s5 _ _ hl), atI_nat (j := k + 2 + 2 * i + 1) g3, a3, _, _, _, rfl, rfl, SqT.of (s5 _ _ ha3), atI_nat (j := 0) rfl, rfl, _, rfl, ?_⟩
        rw [decide_eq_true rfl]
        have ems : dn ++ [t1] = ms := er
        rw [ems] at h5
        refine iteT ⟨_, rfl, _, rfl, L, _, rfl, .inl ⟨SqL.of h5, fun D hD => ?_⟩⟩
        have sD := same_new (o := HO.tup (ms.map termV)) hD
        refine ⟨by show 2 ≤ sizeLine; decide, fun B hB => ?_⟩
        have sB := same_new (o := HO.tup [.str tb, .ref D]) hB
        refine ⟨_, rfl, _, _, rfl, rfl, by show 2 ≤ sizeLine; decide, fun R hR => ?_⟩
        have sR := same_new (o := HO.tup [.ref B, .int (((k + 2 + 2 * i : Nat) : Int) + 2)]) hR
        refine q R (.ref B) _ (((s5.trans sD).trans sB).trans sR) ?_ ⟨B, D, rfl, sR _ _ upd_same, (sB.trans sR) _ _ upd_same⟩
        rw [upd_same, etie]
        have e3 : dn.length + 1 = ms.length := ldr'
        dsimp only
        rw [show ((((k + 2 + 2 * i : Nat) : Int)) + 2) = ((k + (2 + 2 * ms.length) : Nat) : Int) by omega]
      | cons t2 rest =>
        have ldr2 : dn.length + (rest.length + 1 + 1) = ms.length := ldr'
        have edn' : ts.drop (k + 2 + 2 * i + 1) = ("," : Str) :: (commaT (t2 :: rest) ++ (")" : Str) :: r) := edn
        obtain ⟨a3, n3, g3, ha3⟩ := tk_at eu edn'
        obtain ⟨_, _, edm⟩ := drop_at edn'
        refine ⟨_, rfl, _, rfl, _, _, rfl, rfl, l, _, _, _, rfl, rfl, SqL.of (s5 _ _ hl), atI_nat (j := k + 2 + 2 * i + 1) g3, a3, _, _, _, rfl, rfl, SqT.of (s5 _ _ ha3), atI_nat (j := 0) rfl, rfl, _, rfl, ?_⟩
        rw [show decide (V.str ("," : Str) = V.str (")" : Str)) = false by decide +kernel]
        refine iteF ⟨_, rfl, _, rfl, _, _, rfl, rfl, l, _, _, _, rfl, rfl, SqL.of (s5 _ _ hl), atI_nat (j := k + 2 + 2 * i + 1) g3, a3, _, _, _, rfl, rfl, SqT.of (s5 _ _ ha3), atI_nat (j := 0) rfl, rfl, _, rfl, ?_⟩
        rw [decide_eq_true rfl]
        refine iteF ⟨_, rfl, rfl, _, rfl, ?_⟩
        rw [decide_eq_false (show ¬ V.int (0 + ((i : Nat) : Int)) = V.int 3 from fun e => by injection e; omega)]
        refine iteF ⟨_, _, _, dn ++ [t1], t2 :: rest, rfl, s5, h5, by rw [List.append_assoc]; exact er, by rw [List.length_append, ei]; rfl, List.cons_ne_nil _ _, ?_⟩
        rw [show k + 2 + 2 * (i + 1) = k + 2 + 2 * i + 1 + 1 by omega]
        exact edm
    · rintro σ H3 ⟨x5, x6, x7, dn, rest, rfl, s3, h3, er, ei, rne, edr⟩
      have ldr : dn.length + rest.length = ms.length := by
        have := congrArg List.length er
        rw [List.length_append] at this
        exact this
      have := List.length_pos_iff.mpr rne
      omega
end
end VQ
namespace VQ
open PySem L2 LamX
theorem dp_terms {K : PySem.W.Frag} {H : Hp} : ∀ ts : List Term, DpAll K H (ts.map termV) (ts.map fun t => match t with | .wo n => PyData.int (n : Nat) | .nm z => PyData.str z)
  | [] => .nil
  | .wo n :: ts => .cons (.int _) (dp_terms ts)
  | .nm z :: ts => .cons (.str z) (dp_terms ts)
theorem let_128 {c : Nat} (h : letB c = true) : c < 128 := by
  have q : ∀ c ∈ letters.cps.toList, c < 128 := by decide +kernel
  exact q c (of_decide_eq_true h)
theorem name_lay {m n : Nat} {z : Str} (h : NameS m z) : Lay n (.str z) := .str _ fun c mc => Nat.lt_of_lt_of_le (let_128 (h.lt c mc)) (by decide)
/-- ties, as data -/
theorem dp_ties {K : PySem.W.Frag} {H : Hp} : ∀ {us : List V} {ties : List (Str × List Term)}, Each (TieAt H) us ties → ∃ ds, DpAll K H us ds ∧ ds.length = ties.length ∧ ∀ zs, (∀ z ∈ zs, NameS 4 z) → (∀ t ∈ ties, TieOk zs t) → ∀ d ∈ ds, Lay 2 d
  | _, _, .nil => ⟨[], .nil, rfl, fun _ _ _ d m => by cases m⟩
  | _, _, .cons (x := t) ⟨a, c, e, ha, hc⟩ r => by
    obtain ⟨ds, h1, h2, h3⟩ := dp_ties r
    subst e
    refine ⟨_ :: ds, .cons (.tup (SqT.of ha) (.cons (.str _) (.cons (.tup (SqT.of hc) (dp_terms _)) .nil))) h1, congrArg (· + 1) h2, fun zs nz ok d m => ?_⟩
    rcases List.mem_cons.mp m with rfl | m
    · have okt := ok t List.mem_cons_self
      refine .tuple fun d m => ?_
      rcases List.mem_cons.mp m with rfl | m
      · exact name_lay okt.nm
      · rw [List.mem_singleton.mp m]
        refine .tuple fun d m => ?_
        obtain ⟨u, mu, rfl⟩ := List.mem_map.mp m
        have oku := okt.tm u mu
        cases u with
        | wo n => exact .int _ _
        | nm z => exact name_lay (nz z oku)
    · exact h3 zs nz (fun x mx => ok x (List.mem_cons_of_mem _ mx)) d m
section
variable {P : Program} {w : World} {K : PySem.W.Frag} {mg : Str → Option Value} {base : Heap}
/-- where a list of parts stands -/
structure TkL (H : Hp) (l : Addr) (us : List V) (ts : List Str) : Prop where
  li : H l = some (.lst us)
  ea : Each (TkA H) us ts
  few : ts.length ≤ 1000
theorem TkL.moved {H H' : Hp} {l : Addr} {us : List V} {ts : List Str} (h : TkL H l us ts) (s : Same H H') : TkL H' l us ts := ⟨s _ _ h.li, h.ea.mono fun _ _ y => y.moved (same_tups s), h.few⟩
/-- a tie is read -/
def spRItemT : Sp := fun vs H Q _ => ∃ (l n tl ll : Addr) (us tv : List V) (ts : List Str) (k : Nat) (zs : List Str) (dt : List (Str × List Term)) (t : Str × List Term) (r : List Str), vs = [.ref l, .int (k : Nat), .ref n, .ref tl, .ref ll] ∧ TkL H l us ts ∧ NmAt H n zs ∧ (∀ z ∈ zs, NameS 4 z) ∧ H tl = some (.lst tv) ∧ tv.length = dt.length ∧ H ll = some (.lst []) ∧ dt.length < 6 ∧ TieOk zs t ∧ ts.drop k = tieToks t ++ r ∧
  ∀ (p : Addr) (v : V) (H' : Hp), Same H H' → H' p = some (.tup [v, .int ((k + (tieToks t).length : Nat) : Int)]) → TieAt H' v t → Q (.ref p) H'
/-- a pair is read -/
def spRItemP : Sp := fun vs H Q _ => ∃ (l n tl ll : Addr) (us tv lv : List V) (ts : List Str) (k : Nat) (zs : List Str) (dt : List (Str × List Term)) (p : Str × Str) (r : List Str), vs = [.ref l, .int (k : Nat), .ref n, .ref tl, .ref ll] ∧ TkL H l us ts ∧ NmAt H n zs ∧ (∀ z ∈ zs, NameS 4 z) ∧ H tl = some (.lst tv) ∧ Each (TieAt H) tv dt ∧ dt ≠ [] ∧ (∀ t ∈ dt, TieOk zs t) ∧ H ll = some (.lst lv) ∧ lv.length < 3 ∧ PairOk zs p ∧ ts.drop k = pairToks p ++ r ∧
  ∀ (q : Addr) (v : V) (H' : Hp), Same H H' → H' q = some (.tup [v, .int ((k + 3 : Nat) : Int)]) → PairAt H' v p → Q (.ref q) H'
def spRItem : Sp := fun vs H Q E => spRItemT vs H Q E ∨ spRItemP vs H Q E
theorem has_ritem (b : Blt mg) (hRy : Has P w K mg base CX0 2 "_law_read_tie" sLawReadTie ["_law_tokens_here", "_law_k", "_law_names_here"] spRTie) (a : AtE K mg "_law_read_item" sLawReadItem ["_law_tokens_here", "_law_k", "_law_names_here", "_law_ties", "_law_less_now"]) :
    Has P w K mg base CX0 3 "_law_read_item" sLawReadItem ["_law_tokens_here", "_law_k", "_law_names_here", "_law_ties", "_law_less_now"] spRItem := by
  obtain ⟨f, fd, a⟩ := a
  obtain ⟨fRy, fdRy, aRy, GRy⟩ := hRy
  refine ⟨f, fd, a, a.fn.ok scLawReadItem (fun vs H Q E h => ?_) (fun cdv A outer s H vs Q E hr2 h => ?_)⟩
  · rcases h with ⟨l, n, tl, ll, us, tv, ts, k, zs, dt, t, r, rfl, _⟩ | ⟨l, n, tl, ll, us, tv, lv, ts, k, zs, dt, p, r, rfl, _⟩
    · rfl
    · rfl
  · have hu : (A.deeper (PyProof.Rows.envOfC "_law_read_item" (defScope sLawReadItem) s.heap.objs.size f cdv)).units + 64 < cLine := hr2.units
    refine ⟨_,
    (pss_cons (ps_if (PW.pt (pw_and (pt_cmpR op_lt (pe_op op_add (pv 1) pe_int) (pe_callB call_len_seq (by rfl) b.len PySem.boot_len (pa_cons (pv 0) pa_nil)) (nomark _)) (pw_and1 (pt_cmpR op_eq (pe_ix ix_tup (pe_ix ix_list (pv 0) (pe_op op_add (pv 1) pe_int) fun _ _ => rfl) pe_int fun _ _ => rfl) pe_str (nomark _)))))
      (pss_cons (ps_set (i := 5) scLawReadItem.nd rfl (.inl rfl) (pe_ix ix_tup (pe_ix ix_list (pv 0) (pv 1) fun _ _ => rfl) pe_int fun _ _ => rfl))
      (pss_cons (ps_if (PW.pt (pw_or (pt_cmpR (op_eqD hu) (pv 3) (pe_lst pa_nil) (nomark _)) (pw_or (pt_cmpR op_gt (pe_callB call_len_seq (by rfl) b.len PySem.boot_len (pa_cons (pv 4) pa_nil)) pe_int (nomark _)) (pw_or1 (pt_cmpR op_notIn_seq (pv 5) (pv 2) rfl)))))
        (pss_one (ps_ret (pe_tup (pa_cons pe_non (pa_cons (pe_ix ix_tup (pe_ix ix_list (pv 0) (pv 1) fun _ _ => rfl) pe_int fun _ _ => rfl) pa_nil)))))
        pss_nil)
      (pss_cons (ps_asg (pe_ix ix_list (pv 0) (pe_op op_add (pv 1) pe_int) fun _ _ => rfl) (pg_tup rfl (pgs_cons (pg_name (i := 6) scLawReadItem.nd rfl (.inl rfl)) (pgs_cons (pg_name (i := 7) scLawReadItem.nd rfl (.inl rfl)) pgs_nil))))
      (pss_one (ps_ret (pe_ifExp (PW.pt (pw_and (pt_cmpR op_in_seq (pv 6) (pv 2) rfl) (pw_and1 (pt_cmpR op_ne (pv 6) (pv 5) (nomark _))))) (pe_tup (pa_cons (pe_tup (pa_cons (pv 5) (pa_cons (pv 6) pa_nil))) (pa_cons (pe_op op_add (pv 1) pe_int) pa_nil))) (pe_tup (pa_cons pe_non (pa_cons (pv 7) pa_nil)))))))))
      pss_nil)
    (pss_cons (ps_if (PW.pt (pw_or (pt_cmpR (op_neD hu) (pv 4) (pe_lst pa_nil) (nomark _)) (pw_or1 (pt_cmpR op_gt (pe_callB call_len_seq (by rfl) b.len PySem.boot_len (pa_cons (pv 3) pa_nil)) pe_int (nomark _)))))
      (pss_one (ps_ret (pe_tup (pa_cons pe_non (pa_cons (pe_ix ix_tup (pe_ix ix_list (pv 0) (pv 1) fun _ _ => rfl) pe_int fun _ _ => rfl) pa_nil)))))
      pss_nil)
    (pss_one (ps_ret (pe_call GRy hr2 rfl aRy.gl aRy.fn.kp aRy.bd .nil pass0 (pa_cons (pv 0) (pa_cons (pv 1) (pa_cons (pv 2) pa_nil)))))))), ?_⟩
    rcases h with ⟨l, n, tl, ll, us, tv, ts, k, zs, dt, t, r, rfl, tk, hn, nz, ht, lt, hl, t6, okt, ed, q⟩ | ⟨l, n, tl, ll, us, tv, lv, ts, k, zs, dt, p, r, rfl, tk, hn, nz, ht, et, dne, okd, hl, l3, okp, ed, q⟩
    · have ed0 : ts.drop k = t.1 :: ("(" : Str) :: ((commaT t.2 ++ [(")" : Str)]) ++ r) := ed
      obtain ⟨_, _, ed1⟩ := drop_at ed0
      obtain ⟨_, lt1, _⟩ := drop_at ed1
      obtain ⟨a1, n1, g1, ha1⟩ := tk_at tk.ea ed1
      have lus : us.length = ts.length := tk.ea.len
      refine ⟨_, rfl, _, _, rfl, rfl, _, rfl, l, _, rfl, .inl (SqL.of tk.li), _, _, rfl, rfl, _, rfl, ?_⟩
      rw [decide_eq_true (show ((k : Nat) : Int) + 1 < ((us.length : Nat) : Int) by omega)]
      refine iteT ⟨_, rfl, _, rfl, _, _, rfl, rfl, l, _, _, _, rfl, rfl, SqL.of tk.li, atI_nat (j := k + 1) g1, a1, _, _, _, rfl, rfl, SqT.of ha1, atI_nat (j := 0) rfl, rfl, _, rfl, ?_⟩
      rw [show decide (V.str ("(" : Str) = V.str ("<" : Str)) = false by decide +kernel]
      refine iteF ⟨_, rfl, by show 0 ≤ sizeLine; decide, fun N hN => ?_⟩
      have sN := same_new (o := HO.lst []) hN
      refine ⟨.list [], .list [], .lst (SqL.of (sN _ _ hl)) .nil, .lst (SqL.of upd_same) .nil, by decide +kernel, by decide +kernel, _, rfl, ?_⟩
      rw [eqv_nil]
      refine iteF ⟨_, rfl, tl, _, rfl, .inl (SqL.of (sN _ _ ht)), _, _, rfl, rfl, _, rfl, ?_⟩
      rw [decide_eq_false (show ¬ (5 : Int) < ((tv.length : Nat) : Int) by omega)]
      refine iteF ⟨_, rfl, _, rfl, _, rfl, l, us, ts, k, n, zs, t, r, rfl, sN _ _ tk.li, tk.ea.mono fun _ _ y => y.moved (same_tups sN), sN _ _ hn, nz, okt, ed, fun p v H' s' hp tv' => q p v H' (sN.trans s') hp tv'⟩
    · have ed0 : ts.drop k = p.1 :: ("<" : Str) :: p.2 :: r := ed
      obtain ⟨_, _, ed1⟩ := drop_at ed0
      obtain ⟨_, lt1, ed2⟩ := drop_at ed1
      obtain ⟨a0, n0, g0, ha0⟩ := tk_at tk.ea ed0
      obtain ⟨a1, n1, g1, ha1⟩ := tk_at tk.ea ed1
      obtain ⟨a2, n2, g2, ha2⟩ := tk_at tk.ea ed2
      have lus : us.length = ts.length := tk.ea.len
      refine ⟨_, rfl, _, _, rfl, rfl, _, rfl, l, _, rfl, .inl (SqL.of tk.li), _, _, rfl, rfl, _, rfl, ?_⟩
      rw [decide_eq_true (show ((k : Nat) : Int) + 1 < ((us.length : Nat) : Int) by omega)]
      refine iteT ⟨_, rfl, _, rfl, _, _, rfl, rfl, l, _, _, _, rfl, rfl, SqL.of tk.li, atI_nat (j := k + 1) g1, a1, _, _, _, rfl, rfl, SqT.of ha1, atI_nat (j := 0) rfl, rfl, _, rfl, ?_⟩
      rw [decide_eq_true rfl]
      refine iteT ⟨_, rfl, _, rfl, l, _, _, _, rfl, rfl, SqL.of tk.li, atI_nat g0, a0, _, _, _, rfl, rfl, SqT.of ha0, atI_nat (j := 0) rfl, ?_⟩
      refine ⟨_, rfl, by show 0 ≤ sizeLine; decide, fun N hN => ?_⟩
      have sN := same_new (o := HO.lst []) hN
      obtain ⟨ds, dp, ld, lay⟩ := dp_ties (K := K) (et.mono fun _ _ y => y.moved (same_tups sN))
      have layd : Lay 3 (.list ds) := .list (lay zs nz okd)
      refine ⟨.list ds, .list [], .lst (SqL.of (sN _ _ ht)) dp, .lst (SqL.of upd_same) .nil, layd.shaped (by decide), by decide +kernel, _, rfl, ?_⟩
      rw [eqv_nil]
      have dse : ds.isEmpty = false := by
        cases ds with
        | nil => exact absurd (List.length_eq_zero_iff.mp ld.symm) dne
        | cons _ _ => rfl
      rw [dse]
      refine iteF ⟨_, rfl, ll, _, rfl, .inl (SqL.of (sN _ _ hl)), _, _, rfl, rfl, _, rfl, ?_⟩
      rw [decide_eq_false (show ¬ (2 : Int) < ((lv.length : Nat) : Int) by omega)]
      refine iteF ⟨_, rfl, _, rfl, n, _, rfl, .inr (SqT.of (sN _ _ hn)), rfl, strs_flat _, _, rfl, ?_⟩
      rw [inV_str, decide_eq_true okp.1]
      refine iteF ⟨_, rfl, _, rfl, _, _, rfl, rfl, l, _, _, _, rfl, rfl, SqL.of (sN _ _ tk.li), atI_nat (j := k + 2) g2, ?_⟩
      refine ⟨a2, _, rfl, SqT.of (sN _ _ ha2), rfl, _, _, rfl, _, _, rfl, rfl, ?_⟩
      refine ⟨_, rfl, _, rfl, n, _, rfl, .inr (SqT.of (sN _ _ hn)), rfl, strs_flat _, _, rfl, ?_⟩
      rw [inV_str, decide_eq_true okp.2.1]
      refine iteT ⟨_, rfl, _, rfl, rfl, _, rfl, ?_⟩
      rw [decide_eq_false (show ¬ V.str p.2 = V.str p.1 from fun e => okp.2.2 (by injection e with e; exact e.symm))]
      refine iteT ⟨_, rfl, _, rfl, by show 2 ≤ sizeLine; decide, fun B hB => ?_⟩
      have sB := same_new (o := HO.tup [.str p.1, .str p.2]) hB
      refine ⟨_, rfl, _, _, rfl, rfl, by show 2 ≤ sizeLine; decide, fun R hR => ?_⟩
      have sR := same_new (o := HO.tup [.ref B, .int (((k : Nat) : Int) + 3)]) hR
      exact q R (.ref B) _ ((sN.trans sB).trans sR) upd_same ⟨B, rfl, sR _ _ upd_same⟩
end
end VQ
namespace VQ
open PySem L2 LamX
abbrev sLawReadHead : Stmt := top 56
abbrev nLawReadHead : List Str := ["_law_tokens_here", "_law_names_here", "_law_many", "_law_k", "_law_word", "_law_at"]
theorem scLawReadHead : FnScope nLawReadHead ["_law_tokens_here"] (defScope sLawReadHead) := ⟨rfl, rfl, rfl, by decide +kernel, rfl, by decide +kernel, by decide +kernel⟩
def HSt (q : Qn) (cl : List Str) (mm n : Nat) (rest : List Str) : Prop := (mm = 0 ∧ n ≤ q.many ∧ rest = (q.names.take q.many).drop n ++ (someToks q ++ (":" : Str) :: cl)) ∨ (mm = q.many ∧ q.many < q.names.length ∧ q.many ≤ n ∧ n ≤ q.names.length ∧ rest = q.names.drop n ++ (":" : Str) :: cl)
theorem head_step {q : Qn} {cl : List Str} {mm n : Nat} {rest : List Str} (ok : QOk q) (h : HSt q cl mm n rest) : (∃ z rest', rest = z :: rest' ∧ q.names[n]? = some z ∧ HSt q cl mm (n + 1) rest') ∨ (∃ rest', rest = ("some" : Str) :: rest' ∧ mm = 0 ∧ 1 ≤ n ∧ n ≤ q.names.length ∧ HSt q cl n n rest') ∨ (rest = (":" : Str) :: cl ∧ n = q.names.length ∧ mm < n ∧ (if mm = 0 then n else mm) = q.many) := by
  have m1 := ok.m1
  have mn := ok.mn
  have wl : (q.names.take q.many).length = q.many := by rw [List.length_take]; exact Nat.min_eq_left ok.mn
  rcases h with ⟨rfl, ln, rfl⟩ | ⟨rfl, lm, ln, le, rfl⟩
  · by_cases c : n < q.many
    · left
      have lt : n < (q.names.take q.many).length := by omega
      refine ⟨(q.names.take q.many)[n], _, by rw [List.drop_eq_getElem_cons lt]; rfl, ?_, .inl ⟨rfl, c, rfl⟩⟩
      rw [List.getElem_take, List.getElem?_eq_getElem]
    · obtain rfl : n = q.many := by omega
      rw [List.drop_of_length_le (by omega)]
      right
      unfold someToks
      by_cases c2 : q.many < q.names.length
      · left
        rw [if_pos c2]
        exact ⟨_, rfl, rfl, m1, mn, .inr ⟨rfl, c2, Nat.le_refl _, mn, rfl⟩⟩
      · right
        rw [if_neg c2]
        exact ⟨rfl, by omega, by omega, if_pos rfl⟩
  · by_cases c : n < q.names.length
    · left
      exact ⟨q.names[n], _, by rw [List.drop_eq_getElem_cons c]; rfl, List.getElem?_eq_getElem c, .inr ⟨rfl, lm, by omega, c, rfl⟩⟩
    · right; right
      obtain rfl : n = q.names.length := by omega
      rw [List.drop_of_length_le (Nat.le_refl _)]
      exact ⟨rfl, rfl, lm, if_neg (by omega)⟩
theorem name_colon {m : Nat} {z : Str} (h : NameS m z) : z ≠ ":" := fun e => by
  have := h.lt 58 (by rw [e]; decide +kernel)
  exact absurd this (by decide +kernel)
section
variable {P : Program} {w : World} {K : PySem.W.Frag} {mg : Str → Option Value} {base : Heap}
def spRHead : Sp := fun vs H Q _ => ∃ (l : Addr) (us : List V) (ts : List Str) (q : Qn) (cl : List Str), vs = [.ref l] ∧ TkL H l us ts ∧ QOk q ∧ ts = ("find" : Str) :: (q.names.take q.many ++ (someToks q ++ (":" : Str) :: cl)) ∧
  ∀ (p h n : Addr) (pos : Nat) (H' : Hp), Same H H' → ts.drop pos = cl → H' p = some (.tup [.ref h, .int (pos : Nat)]) → H' h = some (.tup [.ref n, .int (q.many : Nat)]) → NmAt H' n q.names → Q (.ref p) H'
theorem has_rhead (b : Blt mg) (hGn : Has P w K mg base CX0 1 "_law_good_name" sLawGoodName ["_law_name"] spGood) (a : AtE K mg "_law_read_head" sLawReadHead ["_law_tokens_here"]) : Has P w K mg base CX0 2 "_law_read_head" sLawReadHead ["_law_tokens_here"] spRHead := by
  obtain ⟨f, fd, a⟩ := a
  obtain ⟨fGn, fdGn, aGn, GGn⟩ := hGn
  refine ⟨f, fd, a, a.fn.ok scLawReadHead (fun vs H Q E h => ?_) (fun cdv A outer s H vs Q E hr1 h => ?_)⟩
  · obtain ⟨l, us, ts, q, cl, rfl, _⟩ := h
    rfl
  · obtain ⟨l, us, ts, q, cl, rfl, tk, ok, ets, k⟩ := h
    have hu : (A.deeper (PyProof.Rows.envOfC "_law_read_head" (defScope sLawReadHead) s.heap.objs.size f cdv)).units + 64 < cLine := hr1.units
    refine ⟨_,
    (pss_cons (ps_par (i := 1) (j := 2) rfl scLawReadHead.nd rfl rfl (by decide) rfl rfl (pa_cons (pe_lst pa_nil) (pa_cons pe_int pa_nil)) rfl)
    (pss_cons (ps_if (pt_cmpR op_ne (pe_ix ix_tup (pe_ix ix_list (pv 0) pe_int fun _ _ => rfl) pe_int fun _ _ => rfl) pe_str (nomark _))
      (pss_one (ps_ret (pe_tup (pa_cons pe_non (pa_cons (pe_ix ix_tup (pe_ix ix_list (pv 0) pe_int fun _ _ => rfl) pe_int fun _ _ => rfl) pa_nil)))))
      pss_nil)
    (pss_cons (ps_for PassesOwn.never rfl (pi_range2 rfl b.range (pa_cons pe_int (pa_cons (pe_callB call_len_seq (by rfl) b.len PySem.boot_len (pa_cons (pv 0) pa_nil)) pa_nil))) (pg_name (i := 3) scLawReadHead.nd rfl (.inl rfl))
      (pss_cons (ps_asg (pe_ix ix_list (pv 0) (pv 3) fun _ _ => rfl) (pg_tup rfl (pgs_cons (pg_name (i := 4) scLawReadHead.nd rfl (.inl rfl)) (pgs_cons (pg_name (i := 5) scLawReadHead.nd rfl (.inl rfl)) pgs_nil))))
      (pss_cons (ps_if (PW.pt (pw_and (pt_cmpR op_eq (pv 4) pe_str (nomark _)) (pw_and1 (pt_cmpR op_gt (pe_callB call_len_seq (by rfl) b.len PySem.boot_len (pa_cons (pv 1) pa_nil)) (pv 2) (nomark _)))))
        (pss_one (ps_ret (pe_tup (pa_cons (pe_tup (pa_cons (pe_callTy call_tuple_of (by rfl) b.tuple (by decide +kernel) (pa_cons (pv 1) pa_nil)) (pa_cons (pe_ifExp (pt_cmpR op_eq (pv 2) pe_int (nomark _)) (pe_callB call_len_seq (by rfl) b.len PySem.boot_len (pa_cons (pv 1) pa_nil)) (pv 2)) pa_nil))) (pa_cons (pe_op op_add (pv 3) pe_int) pa_nil)))))
        pss_nil)
      (pss_one (ps_if (PW.pt (pw_and (pt_cmpR op_eq (pv 4) pe_str (nomark _)) (pw_and (pt_cmpR op_eq (pv 2) pe_int (nomark _)) (pw_and1 (pt_cmpR (op_neD hu) (pv 1) (pe_lst pa_nil) (nomark _))))))
        (pss_one (ps_set (i := 2) scLawReadHead.nd rfl (.inl rfl) (pe_callB call_len_seq (by rfl) b.len PySem.boot_len (pa_cons (pv 1) pa_nil))))
        (pss_one (ps_if (PW.pt (pw_and (pt_val (pe_call GGn hr1 rfl aGn.gl aGn.fn.kp aGn.bd .nil pass0 (pa_cons (pv 4) pa_nil))) (pw_and (pt_cmpR op_lt (pe_callB call_len_str (by rfl) b.len PySem.boot_len (pa_cons (pv 4) pa_nil)) pe_int (nomark _)) (pw_and (pt_cmpR op_notIn_seq (pv 4) (pv 1) rfl) (pw_and1 (pt_cmpR op_lt (pe_callB call_len_seq (by rfl) b.len PySem.boot_len (pa_cons (pv 1) pa_nil)) pe_int (nomark _)))))))
          (pss_one (ps_expr (pe_bm PySem.F.plainAttrs_list PySem.F.slot_list_append PySem.F.type_list_append mt_append (pv 1) (pa_cons (pv 4) pa_nil))))
          (pss_one (ps_ret (pe_tup (pa_cons pe_non (pa_cons (pv 5) pa_nil))))))))))))
    (pss_one (ps_ret (pe_tup (pa_cons pe_non (pa_cons pe_int pa_nil)))))))), ?_⟩
    have n5 := ok.n5
    have lus : us.length = ts.length := tk.ea.len
    have few := tk.few
    have ed0 : ts.drop 0 = ("find" : Str) :: (q.names.take q.many ++ (someToks q ++ (":" : Str) :: cl)) := ets
    obtain ⟨_, lt0, ed1⟩ := drop_at ed0
    obtain ⟨a0, n0, g0, ha0⟩ := tk_at tk.ea ed0
    refine ⟨by show 0 ≤ sizeLine; decide, fun L hL => ⟨_, _, rfl, ?_⟩⟩
    have sL := same_new (o := HO.lst []) hL
    refine ⟨_, rfl, l, _, _, _, rfl, rfl, SqL.of (sL _ _ tk.li), atI_nat (j := 0) g0, a0, _, _, _, rfl, rfl, SqT.of (sL _ _ ha0), atI_nat (j := 0) rfl, rfl, _, rfl, ?_⟩
    rw [decide_eq_true rfl]
    refine iteF ?_
    refine ⟨_, rfl, l, _, rfl, .inl (SqL.of (sL _ _ tk.li)), _, _, rfl, ⟨by omega, by omega, by omega, by omega⟩, ?_⟩
    refine for_range (lo := 1) (n := (((us.length : Nat) : Int) - 1).toNat) (fun i σ H' => ∃ (x3 x4 x5 : Option V) (mm n : Nat) (rest : List Str), σ = [some (.ref l), some (.ref L), some (.int (mm : Nat)), x3, x4, x5] ∧ Same H H' ∧ H' L = some (.lst ((q.names.take n).map V.str)) ∧ n ≤ q.names.length ∧ HSt q cl mm n rest ∧ ts.drop (1 + i) = rest)
      ⟨none, none, none, 0, 0, _, rfl, sL, upd_same, Nat.zero_le _, .inl ⟨rfl, Nat.zero_le _, rfl⟩, ed1⟩ ?_ ?_
    · rintro i σ H2 hi ⟨x3, x4, x5, mm, n, rest, rfl, s2, h2, ln, hs, er⟩
      have ltn : (q.names.take n).length = n := by rw [List.length_take]; exact Nat.min_eq_left ln
      have big : (900 : Nat) ≤ sizeLine := by decide
      rcases head_step ok hs with ⟨z, rest', rfl, ez, hs'⟩ | ⟨rest', rfl, rfl, n1, nl, hs'⟩ | ⟨rfl, en, lm, em⟩
      · obtain ⟨a1, n1, g1, ha1⟩ := tk_at tk.ea er
        obtain ⟨_, _, er'⟩ := drop_at er
        refine ⟨_, rfl, _, rfl, l, _, _, _, rfl, rfl, SqL.of (s2 _ _ tk.li), atI_nat (j := 1 + i) g1, a1, _, rfl, SqT.of (s2 _ _ ha1), rfl, _, _, rfl, _, _, rfl, rfl, ?_⟩
        have nz := ok.nm z (List.mem_of_getElem? ez)
        have z4 := nz.hi
        refine ⟨_, rfl, rfl, _, rfl, ?_⟩
        rw [decide_eq_false (show ¬ V.str z = V.str ":" from fun e => name_colon nz (by injection e))]
        refine iteF ⟨_, rfl, rfl, _, rfl, ?_⟩
        rw [decide_eq_false (show ¬ V.str z = V.str "some" from fun e => nz.ns (by injection e))]
        refine iteF ⟨_, rfl, z, rfl, nz.mono (by decide), fun H3 s3 => ⟨_, rfl, iteT ?_⟩⟩
        have s03 := s2.trans s3
        have h3 := s3 _ _ h2
        refine ⟨_, rfl, z, rfl, by omega, _, _, rfl, rfl, _, rfl, ?_⟩
        rw [decide_eq_true (show ((z.length : Nat) : Int) < 5 by omega)]
        refine iteT ⟨_, rfl, _, rfl, L, _, rfl, .inl (SqL.of h3), rfl, strs_flat _, _, rfl, ?_⟩
        have lt : n < q.names.length := (List.getElem?_eq_some_iff.mp ez).1
        have etake : q.names.take (n + 1) = q.names.take n ++ [z] := by
          rw [List.take_add_one, ez]
          rfl
        have nin : z ∉ q.names.take n := fun m => by
          have nd := ok.nd.sublist (List.take_sublist (n + 1) _)
          rw [etake, List.nodup_append] at nd
          exact nd.2.2 z m z List.mem_cons_self rfl
        rw [inV_str, decide_eq_false nin]
        refine iteT ⟨_, rfl, L, _, rfl, .inl (SqL.of h3), _, _, rfl, rfl, _, rfl, ?_⟩
        rw [decide_eq_true (show ((((q.names.take n).map V.str).length : Nat) : Int) < 5 by rw [List.length_map, ltn]; omega)]
        refine iteT ⟨_, rfl, .inl ⟨rfl, _, SqL.of h3⟩, _, rfl, L, _, _, rfl, rfl, h3, lt_line (by rw [List.length_map, ltn]; omega), ?_⟩
        refine ⟨_, _, _, mm, n + 1, rest', rfl, same_put s03 hL, ?_, lt, hs', by rw [← Nat.add_assoc]; exact er'⟩
        rw [upd_same, etake, List.map_append]
        rfl
      · obtain ⟨a1, n1', g1, ha1⟩ := tk_at tk.ea er
        obtain ⟨_, _, er'⟩ := drop_at er
        refine ⟨_, rfl, _, rfl, l, _, _, _, rfl, rfl, SqL.of (s2 _ _ tk.li), atI_nat (j := 1 + i) g1, a1, _, rfl, SqT.of (s2 _ _ ha1), rfl, _, _, rfl, _, _, rfl, rfl, ?_⟩
        refine ⟨_, rfl, rfl, _, rfl, ?_⟩
        rw [show decide (V.str ("some" : Str) = V.str (":" : Str)) = false by decide +kernel]
        refine iteF ⟨_, rfl, rfl, _, rfl, ?_⟩
        rw [decide_eq_true rfl]
        refine iteT ⟨_, rfl, rfl, _, rfl, ?_⟩
        rw [show decide (V.int ((0 : Nat) : Int) = V.int 0) = true by decide +kernel]
        refine iteT ⟨_, rfl, by show 0 ≤ sizeLine; decide, fun N hN => ?_⟩
        have sN := same_new (o := HO.lst []) hN
        have h3 := sN _ _ h2
        refine ⟨_, .list [], .lst (SqL.of h3) (dp_strs _), .lst (SqL.of upd_same) .nil, (lay_strs fun z m => ok.nm z (List.mem_of_mem_take m)).shaped (by decide), by decide +kernel, _, rfl, ?_⟩
        rw [eqv_nil]
        have ne : ((q.names.take n).map PyData.str).isEmpty = false := by
          cases e : q.names.take n with
          | nil =>
            rw [e] at ltn
            have : 0 = n := ltn
            omega
          | cons _ _ => rfl
        rw [ne]
        refine iteT ⟨_, rfl, L, _, rfl, .inl (SqL.of h3), ?_⟩
        rw [List.length_map, ltn]
        exact ⟨_, _, _, n, n, rest', rfl, s2.trans sN, h3, ln, hs', by rw [← Nat.add_assoc]; exact er'⟩
      · obtain ⟨a1, n1', g1, ha1⟩ := tk_at tk.ea er
        obtain ⟨_, _, er'⟩ := drop_at er
        refine ⟨_, rfl, _, rfl, l, _, _, _, rfl, rfl, SqL.of (s2 _ _ tk.li), atI_nat (j := 1 + i) g1, a1, _, rfl, SqT.of (s2 _ _ ha1), rfl, _, _, rfl, _, _, rfl, rfl, ?_⟩
        refine ⟨_, rfl, rfl, _, rfl, ?_⟩
        rw [decide_eq_true rfl]
        have eall : q.names.take n = q.names := by rw [en]; exact List.take_of_length_le (Nat.le_refl _)
        rw [eall] at h2
        refine iteT ⟨_, rfl, L, _, rfl, .inl (SqL.of h2), _, rfl, _, _, rfl, rfl, _, rfl, ?_⟩
        rw [decide_eq_true (show ((mm : Nat) : Int) < (((q.names.map V.str).length : Nat) : Int) by rw [List.length_map]; omega)]
        refine iteT ⟨_, rfl, L, _, rfl, .inl ⟨SqL.of h2, fun D hD => ?_⟩⟩
        have sD := same_new (o := HO.tup (q.names.map V.str)) hD
        have fin : ∀ (v : Int), v = ((q.many : Nat) : Int) → ∀ B, upd H2 D (HO.tup (q.names.map V.str)) B = none → ∀ R, upd (upd H2 D (HO.tup (q.names.map V.str))) B (.tup [.ref D, .int v]) R = none → Q (.ref R) (upd (upd (upd H2 D (HO.tup (q.names.map V.str))) B (.tup [.ref D, .int v])) R (.tup [.ref B, .int (1 + ((i : Nat) : Int) + 1)])) := by
          rintro v rfl B hB R hR
          have sB := same_new (o := HO.tup [.ref D, .int ((q.many : Nat) : Int)]) hB
          have sR := same_new (o := HO.tup [.ref B, .int (1 + ((i : Nat) : Int) + 1)]) hR
          exact k R B D (1 + i + 1) _ (((s2.trans sD).trans sB).trans sR) er' upd_same (sR _ _ upd_same) ((sB.trans sR) _ _ upd_same)
        refine ⟨_, rfl, rfl, _, rfl, ?_⟩
        by_cases m0 : mm = 0
        · rw [decide_eq_true (show V.int ((mm : Nat) : Int) = V.int 0 by rw [m0]; rfl)]
          rw [if_pos m0] at em
          refine iteT ⟨_, rfl, L, _, rfl, .inl (SqL.of (sD _ _ h2)), by show 2 ≤ sizeLine; decide, fun B hB => ?_⟩
          refine ⟨_, rfl, _, _, rfl, rfl, by show 2 ≤ sizeLine; decide, fun R hR => ?_⟩
          exact fin _ (by rw [List.length_map]; omega) B hB R hR
        · rw [decide_eq_false (show ¬ V.int ((mm : Nat) : Int) = V.int 0 from fun e => m0 (by injection e with e; omega))]
          rw [if_neg m0] at em
          refine iteF ⟨_, rfl, by show 2 ≤ sizeLine; decide, fun B hB => ?_⟩
          refine ⟨_, rfl, _, _, rfl, rfl, by show 2 ≤ sizeLine; decide, fun R hR => ?_⟩
          exact fin _ (by rw [em]) B hB R hR
    · rintro σ H2 ⟨x3, x4, x5, mm, n, rest, rfl, s2, h2, ln, hs, er⟩
      rw [List.drop_of_length_le (by omega)] at er
      subst er
      rcases head_step ok hs with ⟨z, rest', e, _⟩ | ⟨rest', e, _⟩ | ⟨e, _⟩
      · cases e
      · cases e
      · cases e
end
end VQ
namespace VQ
open PySem L2 LamX
abbrev sLawRead : Stmt := top 60
abbrev nLawRead : List Str := ["_law_text_here", "_law_tokens_here", "_law_head", "_law_k", "_law_names_here", "_law_ties", "_law_less_now", "_law_turn", "_law_pair_next", "_law_found", "_law_word", "_law_at", "_law_name", "_law_table", "_law_terms_here"]
theorem scLawRead : FnScope nLawRead ["_law_text_here"] (defScope sLawRead) := ⟨rfl, rfl, rfl, by decide +kernel, rfl, by decide +kernel, by decide +kernel⟩
section
variable {P : Program} {w : World} {K : PySem.W.Frag} {mg : Str → Option Value} {base : Heap}
def spRead2 : Sp := fun vs H Q _ => ∃ (z : Str) (q : Qn), vs = [.str z] ∧ z.length ≤ 900 ∧ (∀ c ∈ z.cps.toList, c < 128) ∧ Spell z.cps.toList (qToks q) ∧ QOk q ∧ ∀ (p a : Addr) (H' : Hp), Same H H' → H' p = some (.tup [.str "told", .ref a]) → QAt H' a q → Q (.ref p) H'
theorem has_read2 (b : Blt mg) (any : mg "any" = none) (hTk : Has P w K mg base CX0 1 "_law_tokens" sLawTokens ["_law_text_here"] spToks) (hRh : Has P w K mg base CX0 2 "_law_read_head" sLawReadHead ["_law_tokens_here"] spRHead) (hRe : Has P w K mg base CX0 3 "_law_read_item" sLawReadItem ["_law_tokens_here", "_law_k", "_law_names_here", "_law_ties", "_law_less_now"] spRItem)
    (a : AtE K mg "_law_read" sLawRead ["_law_text_here"]) : Has P w K mg base CX0 4 "_law_read" sLawRead ["_law_text_here"] spRead2 := by
  obtain ⟨f, fd, a⟩ := a
  obtain ⟨fTk, fdTk, aTk, GTk⟩ := hTk
  obtain ⟨fRh, fdRh, aRh, GRh⟩ := hRh
  obtain ⟨fRe, fdRe, aRe, GRe⟩ := hRe
  refine ⟨f, fd, a, a.fn.ok scLawRead (fun vs H Q E h => ?_) (fun cdv A outer s H vs Q E hr3 h => ?_)⟩
  · obtain ⟨z, q, rfl, _⟩ := h
    rfl
  · obtain ⟨z, q, rfl, z9, asc, sp, ok, k⟩ := h
    have hr1 : Room 1 _ := hr3.mono (by decide)
    have hr2 : Room 2 _ := hr3.mono (by decide)
    refine ⟨_,
    (pss_cons (ps_set (i := 1) scLawRead.nd rfl (.inl rfl) (pe_op op_cat (pe_call GTk hr1 rfl aTk.gl aTk.fn.kp aTk.bd .nil pass0 (pa_cons (pv 0) pa_nil)) (pe_lst (pa_cons (pe_tup (pa_cons pe_str (pa_cons (pe_callB call_len_str (by rfl) b.len PySem.boot_len (pa_cons (pv 0) pa_nil)) pa_nil))) pa_nil))))
    (pss_cons (ps_asg (pe_call GRh hr2 rfl aRh.gl aRh.fn.kp aRh.bd .nil pass0 (pa_cons (pv 1) pa_nil)) (pg_tup rfl (pgs_cons (pg_name (i := 2) scLawRead.nd rfl (.inl rfl)) (pgs_cons (pg_name (i := 3) scLawRead.nd rfl (.inl rfl)) pgs_nil))))
    (pss_cons (ps_if (pt_cmpR op_isN (pv 2) pe_non (nomark _))
      (pss_one (ps_ret (pe_tup (pa_cons pe_str (pa_cons (pv 3) pa_nil)))))
      pss_nil)
    (pss_cons (ps_asg (pe_tup (pa_cons (pe_ix ix_tup (pv 2) pe_int fun _ _ => rfl) (pa_cons (pe_lst pa_nil) (pa_cons (pe_lst pa_nil) pa_nil)))) (pg_tup rfl (pgs_cons (pg_name (i := 4) scLawRead.nd rfl (.inl rfl)) (pgs_cons (pg_name (i := 5) scLawRead.nd rfl (.inr rfl)) (pgs_cons (pg_name (i := 6) scLawRead.nd rfl (.inl rfl)) pgs_nil)))))
    (C8.pss_cut (ps_for PassesOwn.never rfl (pi_range1 rfl b.range (pa_cons (pe_callB call_len_seq (by rfl) b.len PySem.boot_len (pa_cons (pv 1) pa_nil)) pa_nil)) (pg_name (i := 7) scLawRead.nd rfl (.inl rfl))
      (pss_cons (ps_set (i := 8) scLawRead.nd rfl (.inl rfl) (pe_and (pe_cmpR op_lt (pe_op op_add (pv 3) pe_int) (pe_callB call_len_seq (by rfl) b.len PySem.boot_len (pa_cons (pv 1) pa_nil)) (nomark _)) (pe_one (pe_cmpR op_eq (pe_ix ix_tup (pe_ix ix_list (pv 1) (pe_op op_add (pv 3) pe_int) fun _ _ => rfl) pe_int fun _ _ => rfl) pe_str (nomark _)))))
      (pss_cons (ps_asg (pe_call GRe hr3 rfl aRe.gl aRe.fn.kp aRe.bd .nil pass0 (pa_cons (pv 1) (pa_cons (pv 3) (pa_cons (pv 4) (pa_cons (pv 5) (pa_cons (pv 6) pa_nil)))))) (pg_tup rfl (pgs_cons (pg_name (i := 9) scLawRead.nd rfl (.inl rfl)) (pgs_cons (pg_name (i := 3) scLawRead.nd rfl (.inl rfl)) pgs_nil))))
      (pss_cons (ps_if (pt_cmpR op_isN (pv 9) pe_non (nomark _))
        (pss_one (ps_ret (pe_tup (pa_cons pe_str (pa_cons (pv 3) pa_nil)))))
        pss_nil)
      (C8.pss_cut (ps_asg (pe_ifExp (pt_val (pv 8)) (pe_tup (pa_cons (pv 5) (pa_cons (pe_op op_cat (pv 6) (pe_lst (pa_cons (pv 9) pa_nil))) pa_nil))) (pe_tup (pa_cons (pe_op op_cat (pv 5) (pe_lst (pa_cons (pv 9) pa_nil))) (pa_cons (pv 6) pa_nil)))) (pg_tup rfl (pgs_cons (pg_name (i := 5) scLawRead.nd rfl (.inr rfl)) (pgs_cons (pg_name (i := 6) scLawRead.nd rfl (.inl rfl)) pgs_nil))))
      (pss_cons (ps_asg (pe_ix ix_list (pv 1) (pv 3) fun _ _ => rfl) (pg_tup rfl (pgs_cons (pg_name (i := 10) scLawRead.nd rfl (.inl rfl)) (pgs_cons (pg_name (i := 11) scLawRead.nd rfl (.inl rfl)) pgs_nil))))
      (pss_cons (ps_if (pt_cmpR op_eq (pv 10) pe_str (nomark _))
        (pss_one ps_break)
        pss_nil)
      (pss_cons (ps_if (pt_cmpR op_ne (pv 10) pe_str (nomark _))
        (pss_one (ps_ret (pe_tup (pa_cons pe_str (pa_cons (pv 11) pa_nil)))))
        pss_nil)
      (pss_one (ps_set (i := 3) scLawRead.nd rfl (.inl rfl) (pe_op op_add (pv 3) pe_int)))))))))))
    (pss_cons (ps_if (pt_not (pt_val (pe_callB (cr_all rfl) (by rfl) b.all (by decide +kernel) (pa_cons (pe_lc (own := [("_law_name", 12)]) (g := (gName 12)) (tt := tYes) (te := (tCB (rAny K) (tCons (tLc (iList K (tVar 5)) (gTup K 2 (gCons (gName 13) (gCons (gName 14) gNil))) tYes (tOp (rIn K false) (tVar 12) (tVar 14)) [13, 14]) tNil))) rfl scLawRead.nd (pi_tup (pv 4)) (blkOk_by (N := nLawRead) (sc := defScope sLawRead) (by decide +kernel)) (fun _ _ _ _ _ => (pg_name (i := 12) scLawRead.nd rfl (.inr rfl))) (fun _ _ _ _ _ => pts_nil) (fun _ _ _ _ _ => (pe_callB (cr_any rfl) (by rfl) any (by decide +kernel) (pa_cons (pe_lc (own := [("_law_table", 13), ("_law_terms_here", 14)]) (g := (gTup K 2 (gCons (gName 13) (gCons (gName 14) gNil)))) (tt := tYes) (te := (tOp (rIn K false) (tVar 12) (tVar 14))) rfl scLawRead.nd (pi_list (pv 5)) (blkOk_by (N := nLawRead) (sc := ({ kind := .function, names := [(".0", .local), ("_law_name", .cell), ("any", .globalImplicit), ("_law_ties", .cell)], isGenerator := false, isCoroutine := false } : Scope)) (by decide +kernel)) (fun _ _ _ _ _ => (pg_tup rfl (pgs_cons (pg_name (i := 13) scLawRead.nd rfl (.inl rfl)) (pgs_cons (pg_name (i := 14) scLawRead.nd rfl (.inl rfl)) pgs_nil)))) (fun _ _ _ _ _ => pts_nil) (fun _ _ _ _ _ => (pe_cmpR op_in_seq (pv 12) (pv 14) rfl))) pa_nil)))) pa_nil))))
      (pss_one (ps_ret (pe_tup (pa_cons pe_str (pa_cons pe_int pa_nil)))))
      pss_nil)
    (pss_one (ps_ret (pe_tup (pa_cons pe_str (pa_cons (pe_tup (pa_cons (pv 4) (pa_cons (pe_ix ix_tup (pv 2) pe_int fun _ _ => rfl) (pa_cons (pe_callTy call_tuple_of (by rfl) b.tuple (by decide +kernel) (pa_cons (pv 5) pa_nil)) (pa_cons (pe_callTy call_tuple_of (by rfl) b.tuple (by decide +kernel) (pa_cons (pv 6) pa_nil)) pa_nil))))) pa_nil))))))))))), ?_⟩
    have big : (2000 : Nat) ≤ sizeLine := by decide
    have zz : z.cps.size = z.length := rfl
    have n5 := ok.n5
    have t6 := ok.t6
    have l3 := ok.l3
    have lq : (qToks q).length ≤ 900 := by
      have h1 := spell_few sp
      have h2 : z.cps.toList.length = z.length := Array.length_toList
      omega
    refine ⟨_, rfl, z, qToks q, rfl, z9, asc, sp, fun l0 us0 H1 nl0 s1 hl0 eu0 => ?_⟩
    refine ⟨_, rfl, z, rfl, by omega, by show 2 ≤ sizeLine; decide, fun T hT => ?_⟩
    have sT := same_new (o := HO.tup [.str "", .int (z.length : Nat)]) hT
    refine ⟨by show 1 ≤ sizeLine; decide, fun N hN => ?_⟩
    have sN := same_new (o := HO.lst [.ref T]) hN
    have lu0 : us0.length ≤ 900 := by rw [eu0.len]; exact lq
    refine ⟨l0, N, _, _, rfl, rfl, (sT.trans sN) _ _ hl0, upd_same, by show us0.length + 1 ≤ _; omega, fun L hL => ?_⟩
    have sL := same_new (o := HO.lst (us0 ++ [.ref T])) hL
    have sA := (sT.trans sN).trans sL
    generalize eHA : upd (upd (upd H1 T (HO.tup [.str "", .int (z.length : Nat)])) N (HO.lst [.ref T])) L (HO.lst (us0 ++ [.ref T])) = HA at sA
    have hTA : HA T = some (.tup [.str "", .int (z.length : Nat)]) := by
      rw [← eHA]
      exact (sN.trans sL) _ _ upd_same
    have hLA : HA L = some (.lst (us0 ++ [.ref T])) := by
      rw [← eHA]
      exact upd_same
    have tk : TkL HA L (us0 ++ [.ref T]) (qToks q ++ [("" : Str)]) := ⟨hLA, (eu0.mono fun _ _ y => y.moved (same_tups sA)).snoc ⟨T, _, rfl, hTA⟩, by rw [List.length_append]; show _ + 1 ≤ _; omega⟩
    have s0A := s1.trans sA
    generalize us0 ++ [V.ref T] = us at tk
    generalize ets : qToks q ++ [("" : Str)] = ts at tk
    generalize ecl : joinC (clauses q) ++ [("" : Str)] = cl
    have et0 : ts = ("find" : Str) :: (q.names.take q.many ++ (someToks q ++ (":" : Str) :: cl)) := by
      rw [← ets, ← ecl]
      unfold qToks
      simp
    refine ⟨_, rfl, L, us, ts, q, cl, rfl, tk, ok, et0, fun p h n pos HB sB edp hp hh hn => ?_⟩
    refine ⟨p, _, rfl, SqT.of hp, rfl, _, _, rfl, _, _, rfl, rfl, ?_⟩
    refine ⟨_, rfl, rfl, _, rfl, ?_⟩
    rw [decide_eq_false (show ¬ V.ref h = V.non from fun e => by cases e)]
    refine iteF ⟨_, rfl, h, _, _, _, rfl, rfl, SqT.of hh, atI_nat (j := 0) rfl, by show 0 ≤ sizeLine; decide, fun T0 hT0 => ?_⟩
    have sT0 := same_new (o := HO.lst []) hT0
    refine ⟨by show 0 ≤ sizeLine; decide, fun L0 hL0 => ?_⟩
    have sL0 := same_new (o := HO.lst []) hL0
    refine ⟨by show 3 ≤ sizeLine; decide, fun X0 hX0 => ?_⟩
    have sX0 := same_new (o := HO.tup [.ref n, .ref T0, .ref L0]) hX0
    refine ⟨X0, _, rfl, SqT.of upd_same, rfl, _, _, rfl, _, _, rfl, _, _, rfl, rfl, ?_⟩
    have sBC := (sT0.trans sL0).trans sX0
    have hT0C : upd (upd (upd HB T0 (HO.lst [])) L0 (HO.lst [])) X0 (HO.tup [.ref n, .ref T0, .ref L0]) T0 = some (.lst []) := (sL0.trans sX0) _ _ upd_same
    have hL0C : upd (upd (upd HB T0 (HO.lst [])) L0 (HO.lst [])) X0 (HO.tup [.ref n, .ref T0, .ref L0]) L0 = some (.lst []) := sX0 _ _ upd_same
    generalize upd (upd (upd HB T0 (HO.lst [])) L0 (HO.lst [])) X0 (HO.tup [.ref n, .ref T0, .ref L0]) = HC at sBC hT0C hL0C
    have tkC := (tk.moved sB).moved sBC
    have hnC : NmAt HC n q.names := sBC _ _ hn
    have hhC := sBC _ _ hh
    have lus : us.length = ts.length := tk.ea.len
    have few := tk.few
    refine ⟨fun σ' H' => ∃ (x3 x7 x8 x9 x10 x11 : Option V) (TL LL : Addr) (tv lv : List V), σ' = [some (.str z), some (.ref L), some (.ref h), x3, some (.ref n), some (.ref TL), some (.ref LL), x7, x8, x9, x10, x11, none, none, none] ∧ Same HC H' ∧ H' TL = some (.lst tv) ∧ H' LL = some (.lst lv) ∧ Each (TieAt H') tv q.ties ∧ Each (PairAt H') lv q.less, ?_, ?_⟩
    · refine ⟨_, rfl, L, _, rfl, .inl (SqL.of tkC.li), _, rfl, by omega, by omega, ?_⟩
      refine for_range (lo := 0) (n := (((us.length : Nat) : Int)).toNat) (fun i σ H' => ∃ (x7 x8 x9 x10 x11 : Option V) (dt rt : List (Str × List Term)) (dp rp : List (Str × Str)) (TL LL : Addr) (tv lv : List V) (kk : Nat), σ = [some (.str z), some (.ref L), some (.ref h), some (.int (kk : Nat)), some (.ref n), some (.ref TL), some (.ref LL), x7, x8, x9, x10, x11, none, none, none] ∧ Same HC H' ∧ H' TL = some (.lst tv) ∧ H' LL = some (.lst lv) ∧ Each (TieAt H') tv dt ∧ Each (PairAt H') lv dp ∧ dt ++ rt = q.ties ∧ dp ++ rp = q.less ∧ (rt = [] ∨ dp = []) ∧ 0 < rt.length + rp.length ∧ i ≤ kk ∧ ts.drop kk = joinC (rt.map tieToks ++ rp.map pairToks) ++ [("" : Str)])
        ⟨none, none, none, none, none, [], q.ties, [], q.less, T0, L0, [], [], pos, rfl, Same.refl _, hT0C, hL0C, .nil, .nil, rfl, rfl, .inr rfl, by have := ok.t1; omega, Nat.zero_le _, by rw [edp, ← ecl]; rfl⟩ ?_ ?_
      · rintro i σ H3 hi ⟨x7, x8, x9, x10, x11, dt, rt, dp, rp, TL, LL, tv, lv, kk, rfl, s3, h3T, h3L, eT, eL, et, el, side, pos', lik, ed⟩
        have tk3 := tkC.moved s3
        have hn3 : NmAt H3 n q.names := s3 _ _ hnC
        have ltie : dt.length + rt.length = q.ties.length := by
          have := congrArg List.length et
          rw [List.length_append] at this
          exact this
        have lles : dp.length + rp.length = q.less.length := by
          have := congrArg List.length el
          rw [List.length_append] at this
          exact this
        have midE : ∀ (cs : List (List Str)), ∃ y r, cs.flatMap comC ++ [("" : Str)] = y :: r := by
          intro cs
          cases h : cs.flatMap comC ++ [("" : Str)] with
          | nil => exact absurd h (List.append_ne_nil_of_right_ne_nil _ (List.cons_ne_nil _ _))
          | cons y r => exact ⟨y, r, rfl⟩
        cases rt with
        | cons t rt =>
          have hd : dp = [] := side.resolve_left (List.cons_ne_nil _ _)
          subst hd
          have w0 : lv = [] := List.length_eq_zero_iff.mp (by rw [eL.len]; rfl)
          subst w0
          have mt : t ∈ q.ties := by
            rw [← et]
            exact List.mem_append.mpr (.inr List.mem_cons_self)
          have okt := ok.tt t mt
          have ed2 : ts.drop kk = tieToks t ++ ((rt.map tieToks ++ rp.map pairToks).flatMap comC ++ [("" : Str)]) := by
            rw [ed]
            show (tieToks t ++ (rt.map tieToks ++ rp.map pairToks).flatMap comC) ++ [("" : Str)] = _
            rw [List.append_assoc]
          have ed3 : ts.drop kk = t.1 :: ("(" : Str) :: ((commaT t.2 ++ [(")" : Str)]) ++ ((rt.map tieToks ++ rp.map pairToks).flatMap comC ++ [("" : Str)])) := ed2
          obtain ⟨_, _, ed4⟩ := drop_at ed3
          obtain ⟨_, lt2, _⟩ := drop_at ed4
          obtain ⟨a1, n1, g1, ha1⟩ := tk_at tk3.ea ed4
          refine ⟨_, rfl, _, _, rfl, rfl, _, rfl, L, _, rfl, .inl (SqL.of tk3.li), _, _, rfl, rfl, _, rfl, ?_⟩
          rw [decide_eq_true (show ((kk : Nat) : Int) + 1 < ((us.length : Nat) : Int) by omega)]
          refine iteT ⟨_, rfl, _, rfl, _, _, rfl, rfl, L, _, _, _, rfl, rfl, SqL.of tk3.li, atI_nat (j := kk + 1) g1, a1, _, _, _, rfl, rfl, SqT.of ha1, atI_nat (j := 0) rfl, rfl, ?_⟩
          dsimp only
          rw [show decide (V.str ("(" : Str) = V.str ("<" : Str)) = false by decide +kernel]
          have ltie' : dt.length + (rt.length + 1) = q.ties.length := ltie
          refine ⟨_, rfl, _, rfl, _, rfl, _, rfl, _, rfl, .inl ⟨L, n, TL, LL, us, tv, ts, kk, q.names, dt, t, _, rfl, tk3, hn3, ok.nm, h3T, eT.len, h3L, by omega, okt, ed2, fun p' v H4 s4 hp' tv' => ?_⟩⟩
          refine ⟨p', _, rfl, SqT.of hp', rfl, _, _, rfl, _, _, rfl, rfl, ?_⟩
          obtain ⟨va, vc, rfl, hva, hvc⟩ := tv'
          refine ⟨_, rfl, rfl, _, rfl, ?_⟩
          rw [decide_eq_false (show ¬ V.ref va = V.non from fun e => by cases e)]
          refine iteF ?_
          have s04 := s3.trans s4
          have eT4 : Each (TieAt H4) tv dt := eT.mono fun _ _ y => y.moved (same_tups s4)
          refine ⟨(fun σ' H' => ∃ (x7 x8 x9 x10 x11 : Option V) (dt rt : List (Str × List Term)) (dp rp : List (Str × Str)) (TL LL : Addr) (tv lv : List V) (kk : Nat), σ' = [some (.str z), some (.ref L), some (.ref h), some (.int (kk : Nat)), some (.ref n), some (.ref TL), some (.ref LL), x7, x8, x9, x10, x11, none, none, none] ∧ Same HC H' ∧ H' TL = some (.lst tv) ∧ H' LL = some (.lst lv) ∧ Each (TieAt H') tv dt ∧ Each (PairAt H') lv dp ∧ dt ++ rt = q.ties ∧ dp ++ rp = q.less ∧ (rt = [] ∨ dp = []) ∧ i < kk ∧ ts.drop kk = (rt.map tieToks ++ rp.map pairToks).flatMap comC ++ [("" : Str)]), ?_, ?_⟩
          · refine ⟨_, rfl, _, rfl, iteF ?_⟩
            refine ⟨_, rfl, _, rfl, by show 1 ≤ sizeLine; decide, fun N1 hN1 => ?_⟩
            have sN1 := same_new (o := HO.lst [.ref va]) hN1
            refine ⟨TL, N1, _, _, rfl, rfl, sN1 _ _ (s4 _ _ h3T), upd_same, by rw [eT.len]; show _ + 1 ≤ _; omega, fun M1 hM1 => ?_⟩
            have sM1 := same_new (o := HO.lst (tv ++ [.ref va])) hM1
            refine ⟨_, rfl, by show 2 ≤ sizeLine; decide, fun X1 hX1 => ?_⟩
            have sX1 := same_new (o := HO.tup [.ref M1, .ref LL]) hX1
            have s48 := (sN1.trans sM1).trans sX1
            refine ⟨X1, _, rfl, SqT.of upd_same, rfl, _, _, rfl, _, _, rfl, rfl, ?_⟩
            refine ⟨_, _, _, _, _, dt ++ [t], rt, [], rp, M1, LL, tv ++ [.ref va], [], kk + (tieToks t).length, rfl, s04.trans s48, sX1 _ _ upd_same, (s4.trans s48) _ _ h3L, ?_, .nil, by rw [List.append_assoc]; exact et, el, .inr rfl, ?_, ?_⟩
            · exact (eT4.mono fun _ _ y => y.moved (same_tups s48)).snoc ⟨va, vc, rfl, s48 _ _ hva, s48 _ _ hvc⟩
            · show i < kk + ((commaT t.2 ++ [(")" : Str)]).length + 1 + 1)
              omega
            · rw [← List.drop_drop, ed2, List.drop_left' rfl]
          · rintro σ' H8 ⟨y7, y8, y9, y10, y11, dt', rt', dp', rp', TL', LL', tv', lv', kk', rfl, s8, h8T, h8L, eT8, eL8, et8, el8, side8, lik8, ed8⟩
            have tk8 := tkC.moved s8
            cases hc : rt'.map tieToks ++ rp'.map pairToks with
            | nil =>
              rw [hc] at ed8
              obtain ⟨a9, n9, g9, ha9⟩ := tk_at tk8.ea (show ts.drop kk' = ("" : Str) :: [] from ed8)
              obtain ⟨e1, e2⟩ := List.append_eq_nil_iff.mp hc
              have e1' := List.map_eq_nil_iff.mp e1
              have e2' := List.map_eq_nil_iff.mp e2
              subst e1' e2'
              rw [List.append_nil] at et8 el8
              subst et8 el8
              refine ⟨_, rfl, _, rfl, L, _, _, _, rfl, rfl, SqL.of tk8.li, atI_nat g9, a9, _, rfl, SqT.of ha9, rfl, _, _, rfl, _, _, rfl, rfl, ?_⟩
              refine ⟨_, rfl, rfl, _, rfl, ?_⟩
              rw [decide_eq_true rfl]
              exact iteT ⟨_, _, _, _, _, _, TL', LL', tv', lv', rfl, s8, h8T, h8L, eT8, eL8⟩
            | cons c cs =>
              have ed9 : ts.drop kk' = ("," : Str) :: (joinC (rt'.map tieToks ++ rp'.map pairToks) ++ [("" : Str)]) := by
                rw [ed8, hc]
                show (("," : Str) :: (c ++ cs.flatMap comC)) ++ [("" : Str)] = _
                rfl
              obtain ⟨_, _, ed10⟩ := drop_at ed9
              obtain ⟨a9, n9, g9, ha9⟩ := tk_at tk8.ea ed9
              have pos8 : 0 < rt'.length + rp'.length := by
                have := congrArg List.length hc
                rw [List.length_append, List.length_map, List.length_map] at this
                rw [this]
                exact Nat.succ_pos _
              refine ⟨_, rfl, _, rfl, L, _, _, _, rfl, rfl, SqL.of tk8.li, atI_nat g9, a9, _, rfl, SqT.of ha9, rfl, _, _, rfl, _, _, rfl, rfl, ?_⟩
              refine ⟨_, rfl, rfl, _, rfl, ?_⟩
              rw [show decide (V.str ("," : Str) = V.str ("" : Str)) = false by decide +kernel]
              refine iteF ⟨_, rfl, rfl, _, rfl, ?_⟩
              rw [decide_eq_true rfl]
              refine iteF ⟨_, rfl, _, _, rfl, rfl, ?_⟩
              exact ⟨_, _, _, _, _, dt', rt', dp', rp', TL', LL', tv', lv', kk' + 1, rfl, s8, h8T, h8L, eT8, eL8, et8, el8, side8, pos8, by omega, ed10⟩
        | nil =>
          cases rp with
          | nil => exact absurd pos' (Nat.lt_irrefl 0)
          | cons x rp =>
          have mx : x ∈ q.less := by
            rw [← el]
            exact List.mem_append.mpr (.inr List.mem_cons_self)
          have okx := ok.ll x mx
          have ed3 : ts.drop kk = x.1 :: ("<" : Str) :: x.2 :: ((rp.map pairToks).flatMap comC ++ [("" : Str)]) := ed
          obtain ⟨_, _, ed4⟩ := drop_at ed3
          obtain ⟨_, lt2, ed5⟩ := drop_at ed4
          obtain ⟨_, _, ed6⟩ := drop_at ed5
          obtain ⟨a1, n1, g1, ha1⟩ := tk_at tk3.ea ed4
          rw [List.append_nil] at et
          subst et
          have lles' : dp.length + (rp.length + 1) = q.less.length := lles
          refine ⟨_, rfl, _, _, rfl, rfl, _, rfl, L, _, rfl, .inl (SqL.of tk3.li), _, _, rfl, rfl, _, rfl, ?_⟩
          rw [decide_eq_true (show ((kk : Nat) : Int) + 1 < ((us.length : Nat) : Int) by omega)]
          refine iteT ⟨_, rfl, _, rfl, _, _, rfl, rfl, L, _, _, _, rfl, rfl, SqL.of tk3.li, atI_nat (j := kk + 1) g1, a1, _, _, _, rfl, rfl, SqT.of ha1, atI_nat (j := 0) rfl, rfl, ?_⟩
          dsimp only
          rw [decide_eq_true rfl]
          refine ⟨_, rfl, _, rfl, _, rfl, _, rfl, _, rfl, .inr ⟨L, n, TL, LL, us, tv, lv, ts, kk, q.names, q.ties, x, _, rfl, tk3, hn3, ok.nm, h3T, eT, fun e => by have := ok.t1; rw [e] at this; exact absurd this (by decide), ok.tt, h3L, by rw [eL.len]; omega, okx, ed3, fun p' v H4 s4 hp' tv' => ?_⟩⟩
          refine ⟨p', _, rfl, SqT.of hp', rfl, _, _, rfl, _, _, rfl, rfl, ?_⟩
          obtain ⟨va, rfl, hva⟩ := tv'
          refine ⟨_, rfl, rfl, _, rfl, ?_⟩
          rw [decide_eq_false (show ¬ V.ref va = V.non from fun e => by cases e)]
          refine iteF ?_
          have s04 := s3.trans s4
          have eL4 : Each (PairAt H4) lv dp := eL.mono fun _ _ y => y.moved (same_tups s4)
          refine ⟨(fun σ' H' => ∃ (x7 x8 x9 x10 x11 : Option V) (dt rt : List (Str × List Term)) (dp rp : List (Str × Str)) (TL LL : Addr) (tv lv : List V) (kk : Nat), σ' = [some (.str z), some (.ref L), some (.ref h), some (.int (kk : Nat)), some (.ref n), some (.ref TL), some (.ref LL), x7, x8, x9, x10, x11, none, none, none] ∧ Same HC H' ∧ H' TL = some (.lst tv) ∧ H' LL = some (.lst lv) ∧ Each (TieAt H') tv dt ∧ Each (PairAt H') lv dp ∧ dt ++ rt = q.ties ∧ dp ++ rp = q.less ∧ (rt = [] ∨ dp = []) ∧ i < kk ∧ ts.drop kk = (rt.map tieToks ++ rp.map pairToks).flatMap comC ++ [("" : Str)]), ?_, ?_⟩
          · refine ⟨_, rfl, _, rfl, iteT ?_⟩
            refine ⟨_, rfl, _, rfl, _, rfl, by show 1 ≤ sizeLine; decide, fun N1 hN1 => ?_⟩
            have sN1 := same_new (o := HO.lst [.ref va]) hN1
            refine ⟨LL, N1, _, _, rfl, rfl, sN1 _ _ (s4 _ _ h3L), upd_same, by rw [eL.len]; show _ + 1 ≤ _; omega, fun M1 hM1 => ?_⟩
            have sM1 := same_new (o := HO.lst (lv ++ [.ref va])) hM1
            refine ⟨by show 2 ≤ sizeLine; decide, fun X1 hX1 => ?_⟩
            have sX1 := same_new (o := HO.tup [.ref TL, .ref M1]) hX1
            have s48 := (sN1.trans sM1).trans sX1
            refine ⟨X1, _, rfl, SqT.of upd_same, rfl, _, _, rfl, _, _, rfl, rfl, ?_⟩
            refine ⟨_, _, _, _, _, q.ties, [], dp ++ [x], rp, TL, M1, tv, lv ++ [.ref va], kk + 3, rfl, s04.trans s48, (s4.trans s48) _ _ h3T, sX1 _ _ upd_same, eT.mono fun _ _ y => y.moved (same_tups (s4.trans s48)), ?_, List.append_nil _, by rw [List.append_assoc]; exact el, .inl rfl, by omega, ed6⟩
            exact (eL4.mono fun _ _ y => y.moved (same_tups s48)).snoc ⟨va, rfl, s48 _ _ hva⟩
          · rintro σ' H8 ⟨y7, y8, y9, y10, y11, dt', rt', dp', rp', TL', LL', tv', lv', kk', rfl, s8, h8T, h8L, eT8, eL8, et8, el8, side8, lik8, ed8⟩
            have tk8 := tkC.moved s8
            cases hc : rt'.map tieToks ++ rp'.map pairToks with
            | nil =>
              rw [hc] at ed8
              obtain ⟨a9, n9, g9, ha9⟩ := tk_at tk8.ea (show ts.drop kk' = ("" : Str) :: [] from ed8)
              obtain ⟨e1, e2⟩ := List.append_eq_nil_iff.mp hc
              have e1' := List.map_eq_nil_iff.mp e1
              have e2' := List.map_eq_nil_iff.mp e2
              subst e1' e2'
              rw [List.append_nil] at et8 el8
              subst et8 el8
              refine ⟨_, rfl, _, rfl, L, _, _, _, rfl, rfl, SqL.of tk8.li, atI_nat g9, a9, _, rfl, SqT.of ha9, rfl, _, _, rfl, _, _, rfl, rfl, ?_⟩
              refine ⟨_, rfl, rfl, _, rfl, ?_⟩
              rw [decide_eq_true rfl]
              exact iteT ⟨_, _, _, _, _, _, TL', LL', tv', lv', rfl, s8, h8T, h8L, eT8, eL8⟩
            | cons c cs =>
              have ed9 : ts.drop kk' = ("," : Str) :: (joinC (rt'.map tieToks ++ rp'.map pairToks) ++ [("" : Str)]) := by
                rw [ed8, hc]
                show (("," : Str) :: (c ++ cs.flatMap comC)) ++ [("" : Str)] = _
                rfl
              obtain ⟨_, _, ed10⟩ := drop_at ed9
              obtain ⟨a9, n9, g9, ha9⟩ := tk_at tk8.ea ed9
              have pos8 : 0 < rt'.length + rp'.length := by
                have := congrArg List.length hc
                rw [List.length_append, List.length_map, List.length_map] at this
                rw [this]
                exact Nat.succ_pos _
              refine ⟨_, rfl, _, rfl, L, _, _, _, rfl, rfl, SqL.of tk8.li, atI_nat g9, a9, _, rfl, SqT.of ha9, rfl, _, _, rfl, _, _, rfl, rfl, ?_⟩
              refine ⟨_, rfl, rfl, _, rfl, ?_⟩
              rw [show decide (V.str ("," : Str) = V.str ("" : Str)) = false by decide +kernel]
              refine iteF ⟨_, rfl, rfl, _, rfl, ?_⟩
              rw [decide_eq_true rfl]
              refine iteF ⟨_, rfl, _, _, rfl, rfl, ?_⟩
              exact ⟨_, _, _, _, _, dt', rt', dp', rp', TL', LL', tv', lv', kk' + 1, rfl, s8, h8T, h8L, eT8, eL8, et8, el8, side8, pos8, by omega, ed10⟩
      · rintro σ H3 ⟨x7, x8, x9, x10, x11, dt, rt, dp, rp, TL, LL, tv, lv, kk, rfl, s3, h3T, h3L, eT, eL, et, el, side, pos', lik, ed⟩
        rw [List.drop_of_length_le (by omega)] at ed
        exact absurd ed.symm (List.append_ne_nil_of_right_ne_nil _ (List.cons_ne_nil _ _))
    · rintro σ' H3 ⟨x3, x7, x8, x9, x10, x11, TL, LL, tv, lv, rfl, s3, h3T, h3L, eT, eL⟩
      have hn3 : NmAt H3 n q.names := s3 _ _ hnC
      have ltv : tv.length ≤ 6 := by rw [eT.len]; exact t6
      refine ⟨_, rfl, n, rfl, ⟨_, SqT.of hn3⟩, fun D hD => ?_⟩
      refine lc_tupV (xs := q.names.map V.str) (fun _ => .bl true) hD (SqT.of hn3) (by rw [List.length_map]; omega) ?_ ?_
      · rintro i x H4 hx s4 k1 k2 y1
        obtain ⟨z1, ez, rfl⟩ := map_get hx
        refine ⟨rfl, yes_turn ?_⟩
        refine ⟨_, rfl, TL, rfl, ⟨_, SqL.of (s4 _ _ h3T)⟩, fun D3 hD3 => ?_⟩
        refine lc_listS (xs := tv) (fun i acc _ => acc = ((q.ties.take i).map fun t => decide (Term.nm z1 ∈ t.2)).map V.bl) hD3 (SqL.of (s4 _ _ h3T)) (by omega) (fun _ _ _ _ _ h => h) rfl ?_ ?_
        · rintro j y acc H10 hy s10 h10 rfl k3 k4 y3 y4
          obtain ⟨t, e1, pa, c, rfl, hpa, hc⟩ := eT.get hy
          refine ⟨pa, _, rfl, SqT.of ((s4.trans s10) _ _ hpa), rfl, _, _, rfl, _, _, rfl, rfl, rfl, yes_turn ?_⟩
          refine ⟨_, rfl, _, rfl, c, _, rfl, .inr (SqT.of ((s4.trans s10) _ _ hc)), rfl, terms_flat _, ?_⟩
          rw [inV_term]
          refine y3 _ _ (Same.refl _) ?_
          rw [← take_snoc (fun t : Str × List Term => decide (Term.nm z1 ∈ t.2)) e1, List.map_append]
          rfl
        · rintro acc H10 s10 h10 rfl
          rw [eT.len, List.take_of_length_le (Nat.le_refl _)] at h10
          refine ⟨D3, _, rfl, SqL.of h10, ?_⟩
          have e2 : (q.ties.map fun t => decide (Term.nm z1 ∈ t.2)).any id = true := by
            rw [List.any_map, List.any_eq_true]
            obtain ⟨t, mt, mz⟩ := ok.all z1 (List.mem_of_getElem? ez)
            exact ⟨t, mt, decide_eq_true mz⟩
          rw [e2]
          exact y1 _ s10
      · intro H4 s4 h4
        refine ⟨D, q.names.map fun _ => true, rfl, SqL.of (by rw [h4, List.map_map, List.map_map]; rfl), ?_⟩
        have e2 : (q.names.map fun _ => true).all id = true := by
          rw [List.all_map]
          exact List.all_eq_true.mpr fun _ _ => rfl
        rw [e2]
        have s34 := s3.trans s4
        refine ⟨_, rfl, iteF ?_⟩
        refine ⟨_, rfl, _, rfl, h, _, _, _, rfl, rfl, SqT.of (s34 _ _ hhC), atI_nat (j := 1) rfl, ?_⟩
        refine ⟨_, rfl, TL, _, rfl, .inl ⟨SqL.of (s4 _ _ h3T), fun t' ht' => ?_⟩⟩
        have st := same_new (o := HO.tup tv) ht'
        refine ⟨_, rfl, LL, _, rfl, .inl ⟨SqL.of ((s4.trans st) _ _ h3L), fun l' hl' => ?_⟩⟩
        have sl := same_new (o := HO.tup lv) hl'
        refine ⟨by show 4 ≤ sizeLine; decide, fun A' hA => ?_⟩
        have sA' := same_new (o := HO.tup [.ref n, .int (q.many : Nat), .ref t', .ref l']) hA
        refine ⟨by show 2 ≤ sizeLine; decide, fun R hR => ?_⟩
        have sR := same_new (o := HO.tup [.str "told", .ref A']) hR
        have s4R := ((st.trans sl).trans sA').trans sR
        exact k R A' _ ((((s0A.trans sB).trans sBC).trans s34).trans s4R) upd_same ⟨n, t', l', sR _ _ upd_same, (s4.trans s4R) _ _ hn3, ⟨tv, ((sl.trans sA').trans sR) _ _ upd_same, eT.mono fun _ _ y => y.moved (same_tups (s4.trans s4R))⟩, ⟨lv, (sA'.trans sR) _ _ upd_same, eL.mono fun _ _ y => y.moved (same_tups (s4.trans s4R))⟩⟩
end
end VQ
namespace VQ
open PySem L2
/-! ### blanks, so many times -/
def rBlank : V → V → Hp → VK → Prop := fun x y H Q => x = .str " " ∧ ((y = .int 0 ∧ Q (.str "") H) ∨ (y = .int 1 ∧ Q (.str " ") H) ∨ (y = .int 3 ∧ Q (.str "   ") H))
theorem op_blank {X : Cx} : OpR X (binaryOp .Mult) rBlank := by
  intro pins s σ H x y v u Q I rx ry h
  obtain ⟨rfl, h⟩ := h
  obtain ⟨t, rfl⟩ := rx
  rcases h with ⟨rfl, q⟩ | ⟨rfl, q⟩ | ⟨rfl, q⟩
  · obtain ⟨t', rfl⟩ := ry
    refine PySem.P.mul_str (by decide) (fun h => absurd (by decide) h) (fun h => absurd (by decide) h) ?_
    rw [if_pos (by decide)]
    exact ⟨by decide, ⟨.str "", H, I.tok _, ⟨_, rfl⟩, q⟩⟩
  · obtain ⟨t', rfl⟩ := ry
    refine PySem.P.mul_str (by decide) (fun _ h => absurd h (by decide +kernel)) (fun _ h => absurd h (by decide +kernel)) ?_
    rw [if_neg (by decide), if_pos (by decide +kernel)]
    exact ⟨.str " ", H, I, ⟨_, rfl⟩, q⟩
  · obtain ⟨t', rfl⟩ := ry
    refine PySem.P.mul_str (by decide) (fun _ _ => by decide +kernel) (fun _ _ => by decide +kernel) ?_
    rw [if_neg (by decide), if_neg (by decide +kernel)]
    have e : (⟨(List.replicate (3 : Int).toNat (" " : Str).cps).foldl (· ++ ·) #[]⟩ : Str) = "   " := by decide +kernel
    rw [e]
    exact ⟨by decide +kernel, ⟨.str "   ", H, I.tok _, ⟨_, rfl⟩, q⟩⟩
end VQ
namespace VQ
open PySem L2 LamX
abbrev nLawBlank : List Str := ["_law_bag_here"]
abbrev nLawFreeText : List Str := ["_law_bag_here", "_law_question", "_law_found", "_law_glued", "_law_token", "_law_at", "_law_word"]
def signS : List Str := ["(", ")", ",", ":", "<"]
structure TokOk (z : Str) : Prop where
  len : z.length ≤ 8
  asc : ∀ c ∈ TL.tl z, c < 128
  kind : (z ∈ signS ∧ ∀ b us, Spell b us → Spell (TL.tl z ++ b) (z :: us) ∧ SepL (TL.tl z ++ b)) ∨ (z ∉ signS ∧ ∀ b us, Spell b us → SepL b → Spell (TL.tl z ++ b) (z :: us))
theorem sign_not {z : Str} (h : z ∈ signS) : ∃ c, c ∈ TL.tl z ∧ letB c = false ∧ digB c = false := by
  have q : ∀ z ∈ signS, ∃ c ∈ TL.tl z, letB c = false ∧ digB c = false := by
    intro z m
    rcases List.mem_cons.mp m with rfl | m
    · exact ⟨40, by decide +kernel, s40⟩
    rcases List.mem_cons.mp m with rfl | m
    · exact ⟨41, by decide +kernel, s41⟩
    rcases List.mem_cons.mp m with rfl | m
    · exact ⟨44, by decide +kernel, s44⟩
    rcases List.mem_cons.mp m with rfl | m
    · exact ⟨58, by decide +kernel, s58⟩
    rw [List.mem_singleton.mp m]
    exact ⟨60, by decide +kernel, s60⟩
  obtain ⟨c, m, h⟩ := q z h
  exact ⟨c, m, h⟩
theorem tokok_word {z : Str} (ne : TL.tl z ≠ []) (all : ∀ c ∈ TL.tl z, letB c = true) (l : z.length ≤ 8) : TokOk z := by
  refine ⟨l, fun c m => let_128 (all c m), .inr ⟨fun m => ?_, fun b us g s => ?_⟩⟩
  · obtain ⟨c, mc, h, _⟩ := sign_not m
    rw [all c mc] at h
    cases h
  · have := Spell.tok (Tok.word ne all fun c e => (s c e).1) g
    rw [str_tl] at this
    exact this
theorem dig_128 {c : Nat} (h : digB c = true) : c < 128 := by
  have q : ∀ c ∈ digs.cps.toList, c < 128 := by decide +kernel
  exact q c (of_decide_eq_true h)
theorem tokok_num {n : Nat} (l : n < 32) : TokOk (numS n) := by
  obtain ⟨l2, ne, all, _⟩ := nums_dig n l
  refine ⟨by omega, fun c m => dig_128 (all c m), .inr ⟨fun m => ?_, fun b us g s => ?_⟩⟩
  · obtain ⟨c, mc, _, h⟩ := sign_not m
    rw [all c mc] at h
    cases h
  · have := Spell.tok (Tok.num ne all fun c e => (s c e).2) g
    rw [str_tl] at this
    exact this
theorem tokok_sign {c : Nat} {z : Str} (e : TL.tl z = [c]) (h : letB c = false ∧ digB c = false) (n : c ≠ 32) (m : z ∈ signS) (c8 : c < 128) : TokOk z := by
  refine ⟨?_, fun d md => ?_, .inl ⟨m, fun b us g => ?_⟩⟩
  · have : z.length = (TL.tl z).length := TL.len_tl z
    rw [e] at this
    rw [this]
    show 1 ≤ 8
    decide
  · rw [e] at md
    rw [List.mem_singleton.mp md]
    exact c8
  · rw [e]
    exact ⟨sign_on e h n g, sep_cons h⟩
theorem tokok_name {m : Nat} {z : Str} (h : NameS m z) (l : m ≤ 8) : TokOk z := tokok_word h.ne h.lt (Nat.le_trans h.hi l)
theorem mem_joinC : ∀ {cs : List (List Str)} {z : Str}, z ∈ joinC cs → z = "," ∨ ∃ c ∈ cs, z ∈ c
  | [], _, m => by cases m
  | c :: cs, z, m => by
    rcases List.mem_append.mp m with m | m
    · exact .inr ⟨c, List.mem_cons_self, m⟩
    · obtain ⟨d, md, mz⟩ := List.mem_flatMap.mp m
      rcases List.mem_cons.mp mz with h | h
      · exact .inl h
      · exact .inr ⟨d, List.mem_cons_of_mem _ md, h⟩
theorem toks_ok {q : Qn} (ok : QOk q) : ∀ z ∈ qToks q, TokOk z := by
  have kc : TokOk "," := tokok_sign t44 s44 (by decide) (by decide +kernel) (by decide)
  have term : ∀ t, TermOk q.names t → TokOk (tokT t) := fun t h => by
    cases t with
    | wo n => exact tokok_num h
    | nm z => exact tokok_name (ok.nm z h) (by decide)
  intro z m
  rcases List.mem_cons.mp m with rfl | m
  · exact tokok_word (by decide +kernel) (by decide +kernel) (by decide +kernel)
  rcases List.mem_append.mp m with m | m
  · exact tokok_name (ok.nm z (List.mem_of_mem_take m)) (by decide)
  rcases List.mem_append.mp m with m | m
  · unfold someToks at m
    split at m
    · rcases List.mem_cons.mp m with rfl | m
      · exact tokok_word (by decide +kernel) (by decide +kernel) (by decide +kernel)
      · exact tokok_name (ok.nm z (List.mem_of_mem_drop m)) (by decide)
    · cases m
  rcases List.mem_cons.mp m with rfl | m
  · exact tokok_sign t58 s58 (by decide) (by decide +kernel) (by decide)
  rcases mem_joinC m with rfl | ⟨c, mc, mz⟩
  · exact kc
  rcases List.mem_append.mp mc with mc | mc
  · obtain ⟨t, mt, rfl⟩ := List.mem_map.mp mc
    have okt := ok.tt t mt
    rcases List.mem_cons.mp mz with rfl | mz
    · exact tokok_name okt.nm (by decide)
    rcases List.mem_cons.mp mz with rfl | mz
    · exact tokok_sign t40 s40 (by decide) (by decide +kernel) (by decide)
    rcases List.mem_append.mp mz with mz | mz
    · cases e : t.2 with
      | nil =>
        rw [e] at mz
        cases mz
      | cons x xs =>
        rw [e] at mz
        have tm := okt.tm
        rw [e] at tm
        rcases List.mem_cons.mp mz with rfl | mz
        · exact term x (tm x List.mem_cons_self)
        · obtain ⟨u, mu, mz⟩ := List.mem_flatMap.mp mz
          rcases List.mem_cons.mp mz with rfl | mz
          · exact kc
          · rw [List.mem_singleton.mp mz]
            exact term u (tm u (List.mem_cons_of_mem _ mu))
    · rw [List.mem_singleton.mp mz]
      exact tokok_sign t41 s41 (by decide) (by decide +kernel) (by decide)
  · obtain ⟨p, mp, rfl⟩ := List.mem_map.mp mc
    have okp := ok.ll p mp
    rcases List.mem_cons.mp mz with rfl | mz
    · exact tokok_name (ok.nm _ okp.1) (by decide)
    rcases List.mem_cons.mp mz with rfl | mz
    · exact tokok_sign t60 s60 (by decide) (by decide +kernel) (by decide)
    · rw [List.mem_singleton.mp mz]
      exact tokok_name (ok.nm _ okp.2.1) (by decide)
theorem spell_asc {cs : List Nat} {ts : List Str} (h : Spell cs ts) (a : ∀ z ∈ ts, ∀ c ∈ TL.tl z, c < 128) : ∀ c ∈ cs, c < 128 := by
  induction h with
  | nil => intro c m; cases m
  | blank _ ih =>
    intro c m
    rcases List.mem_cons.mp m with rfl | m
    · decide
    · exact ih a c m
  | tok t _ ih =>
    intro c m
    rcases List.mem_append.mp m with m | m
    · exact a _ List.mem_cons_self c m
    · exact ih (fun z mz => a z (List.mem_cons_of_mem _ mz)) c m
def blS (m : Nat) : Str := ⟨(List.replicate m 32).toArray⟩
theorem spell_bl {b : List Nat} {us : List Str} (g : Spell b us) : ∀ m, Spell (List.replicate m 32 ++ b) us
  | 0 => g
  | m + 1 => .blank (spell_bl g m)
theorem sep_bl {b : List Nat} (h : SepL b) : ∀ m, SepL (List.replicate m 32 ++ b)
  | 0 => h
  | m + 1 => sep_cons s32
/-- one more part is written -/
theorem free_step {f gap z : Str} {g wd : Bool} {m : Nat} {done : List Str} (tk : TokOk z) (hw : wd = !decide (z ∈ signS)) (hg : gap = if (g && wd) = true then (" " : Str) else ("" : Str)) (A1 : ∀ b us, Spell b us → SepL b → Spell (TL.tl f ++ b) (done ++ us)) (A2 : g = false → ∀ b us, Spell b us → Spell (TL.tl f ++ b) (done ++ us)) :
    (∀ b us, Spell b us → SepL b → Spell (TL.tl (f ++ gap ++ blS m ++ z) ++ b) ((done ++ [z]) ++ us)) ∧ (wd = false → ∀ b us, Spell b us → Spell (TL.tl (f ++ gap ++ blS m ++ z) ++ b) ((done ++ [z]) ++ us)) := by
  have ea : ∀ b, TL.tl (f ++ gap ++ blS m ++ z) ++ b = TL.tl f ++ (TL.tl gap ++ (List.replicate m 32 ++ (TL.tl z ++ b))) := fun b => by
    rw [TL.tl_append, TL.tl_append, TL.tl_append, List.append_assoc, List.append_assoc, List.append_assoc]
    rfl
  have key : ∀ b us, Spell (TL.tl z ++ b) (z :: us) → (wd = false → SepL (TL.tl z ++ b)) → Spell (TL.tl (f ++ gap ++ blS m ++ z) ++ b) ((done ++ [z]) ++ us) := fun b us h hs => by
    rw [ea, List.append_assoc]
    have h1 := spell_bl h m
    cases hgw : (g && wd) with
    | true =>
      rw [hgw, if_pos rfl] at hg
      rw [hg, t32]
      exact A1 _ _ (.blank h1) (sep_cons s32)
    | false =>
      rw [hgw, if_neg Bool.false_ne_true] at hg
      rw [hg]
      show Spell (TL.tl f ++ (List.replicate m 32 ++ (TL.tl z ++ b))) _
      cases hwd : wd with
      | false => exact A1 _ _ h1 (sep_bl (hs hwd) m)
      | true =>
        rw [hwd, Bool.and_true] at hgw
        exact A2 hgw _ _ h1
  refine ⟨fun b us h hs => ?_, fun w0 b us h => ?_⟩
  · rcases tk.kind with ⟨ms, kk⟩ | ⟨ns, kk⟩
    · exact key b us (kk b us h).1 fun _ => (kk b us h).2
    · refine key b us (kk b us h hs) fun w0 => ?_
      rw [hw, decide_eq_false ns] at w0
      cases w0
  · rcases tk.kind with ⟨ms, kk⟩ | ⟨ns, kk⟩
    · exact key b us (kk b us h).1 fun _ => (kk b us h).2
    · rw [hw, decide_eq_false ns] at w0
      cases w0
section
variable {P : Program} {w : World} {K : PySem.W.Frag} {mg : Str → Option Value} {base : Heap}
def spBlank : Sp := fun vs H Q _ => ∃ (b : Addr), vs = [.ref b] ∧ Bag H b ∧ ∀ (m : Nat) (H' : Hp), m ≤ 3 → Bag H' b → Keep b H H' → Q (.str (blS m)) H'
theorem gap_ev {σ : L2.St} {H : Hp} {g wd : Bool} (h3 : σ[3]? = some (some (.bl g))) (h6 : σ[6]? = some (some (.bl wd))) (Q : VK) (q : Q (.str (if (g && wd) = true then (" " : Str) else ("" : Str))) H) : tIf (tAnd (tB (tVar 3)) (tB (tVar 6))) (tC (.str " ")) (tC (.str "")) σ H Q := by
  cases g with
  | false => exact ⟨_, h3, _, rfl, iteF (iteF q)⟩
  | true =>
    cases wd with
    | false => exact ⟨_, h3, _, rfl, iteT ⟨_, h6, _, rfl, iteF q⟩⟩
    | true => exact ⟨_, h3, _, rfl, iteT ⟨_, h6, _, rfl, iteT q⟩⟩
def spFree2 : Sp := fun vs H Q _ => ∃ (b p : Addr) (q : Qn), vs = [.ref b, .ref p] ∧ Bag H b ∧ QAt H p q ∧ QOk q ∧ ∀ (z : Str) (H' : Hp), Spell (TL.tl z) (qToks q) → z.length ≤ 20000 → Bag H' b → Keep b H H' → Q (.str z) H'
end
end VQ
namespace VQ
open PySem PySem.Spec PyProof.Rows L2
/-! ### list(a text) -/
def sgV (c : Nat) : V := .str ⟨#[c]⟩
theorem vals_of : ∀ (cs : List Nat) (us : List Value), us.length = cs.length → (∀ (i : Nat) (u : Value) (c : Nat), us[i]? = some u → cs[i]? = some c → RelV (sgV c) u) → Vals (cs.map sgV) us
  | [], [], _, _ => .nil
  | c :: cs, u :: us, h, k => .cons (k 0 u c rfl rfl) (vals_of cs us (by simpa using h) fun i v d e1 e2 => k (i + 1) v d e1 e2)
  | [], _ :: _, h, _ => by simp at h
  | _ :: _, [], h, _ => by simp at h
theorem call_list_txt {X : Cx} (hc : X.calm = true) : CallR X (.type "list") (fun xs H Q => ∃ z : Str, xs = [.str z] ∧ z.length ≤ sizeLine ∧ ∀ l, H l = none → Q (.ref l) (upd H l (.lst (z.cps.toList.map sgV)))) := by
  intro pins s σ H xs us Q inv r h
  obtain ⟨z, rfl, hz, q⟩ := h
  obtain ⟨u, rfl, rx⟩ := vals1 r
  obtain ⟨t, rfl⟩ := rx
  refine call_list_str (inv.ok.hd hc) z t (fun h' tk acc c kp e it => ?_) hz
  have el : acc.toList.length = z.cps.toList.length := by
    rw [Array.length_toList, Array.length_toList]
    exact it.1
  have vs : Vals (z.cps.toList.map sgV) acc.toList := vals_of _ _ el fun i v d e1 e2 => by
    rw [Array.getElem?_toList] at e1 e2
    have sa := it.2 i v e1
    obtain ⟨c, u, e3, rfl⟩ := sa
    rw [e2] at e3
    cases e3
    exact ⟨u, rfl⟩
  exact ⟨.ref s.heap.objs.size, _, inv.laid (t' := tk) kp (Nat.le_refl _) (show ObjOk X.prog X.w _ h' _ (.lst (z.cps.toList.map sgV)) from ⟨by rw [List.length_map, Array.length_toList]; exact hz, acc.toList, c, vs, by rw [e, Array.toArray_toList]⟩), rfl, q _ (inv.hok.fresh (Nat.le_refl _))⟩
end VQ
namespace VQ
open PySem L2 LamX
/-! ### names, of any text -/
def nameB (m : Nat) (z : Str) : Bool := decide (1 ≤ z.length) && (decide (z.length ≤ m) && (!decide (z = "find" ∨ z = "some") && z.cps.toList.all letB))
theorem nameB_iff {m : Nat} {z : Str} : nameB m z = true ↔ NameS m z := by
  unfold nameB
  rw [Bool.and_eq_true, Bool.and_eq_true, Bool.and_eq_true, decide_eq_true_eq, decide_eq_true_eq, Bool.not_eq_true', decide_eq_false_iff_not, List.all_eq_true]
  exact ⟨fun ⟨a, b, c, d⟩ => ⟨a, b, fun e => c (.inl e), fun e => c (.inr e), d⟩, fun h => ⟨h.lo, h.hi, fun e => e.elim h.nf h.ns, h.lt⟩⟩
section
variable {P : Program} {w : World} {K : PySem.W.Frag} {mg : Str → Option Value} {base : Heap} {aB : Addr}
def spIsNameX : Sp := fun vs H Q _ => ∃ (z : Str) (m : Nat), vs = [.str z, .int (m : Nat)] ∧ z.length ≤ 900 ∧ ∀ H', Same H H' → Q (.bl (nameB m z)) H'
theorem inBar (z : Str) : inV (.str z) [.str "find", .str "some"] = decide (z = "find" ∨ z = "some") := by
  have e := inV_str (z := z) (zs := ["find", "some"])
  rw [show ([.str "find", .str "some"] : List V) = (["find", "some"] : List Str).map V.str from rfl, e]
  refine decide_eq_decide.mpr ⟨fun m => ?_, fun m => ?_⟩
  · rcases List.mem_cons.mp m with q | q
    · exact .inl q
    · exact .inr (List.mem_singleton.mp q)
  · rcases m with rfl | rfl <;> simp
theorem has_isnameX {tle : PySem.Tok} (b : Blt mg) (Wle : mg "LETTERS" = some (.str letters tle)) (Wba : mg "BARRED" = some (.ref aB)) (Wbt : ∀ H, SqT K H aB [.str "find", .str "some"]) (a : AtE K mg "is_name" sIsName ["thing", "most"]) : Has P w K mg base CX0 1 "is_name" sIsName ["thing", "most"] spIsNameX := by
  obtain ⟨f, fd, a⟩ := a
  refine ⟨f, fd, a, a.fn.ok scIsName (fun vs H Q E h => ?_) (fun cdv A outer s H vs Q E hr h => ?_)⟩
  · obtain ⟨z, m, rfl, _⟩ := h
    rfl
  · obtain ⟨z, m, rfl, l9, k⟩ := h
    refine ⟨_,
    (pss_cons (ps_if (PW.pt (pw_or (pt_not (pt_val (pe_isi (pv 0) rfl b.isi rfl b.str (c := "str") (by decide +kernel)))) (pw_or1 (pt_not (pt_chain op_le op_le pe_int (pe_callB call_len_str (by rfl) b.len PySem.boot_len (pa_cons (pv 0) pa_nil)) (pv 1))))))
      (pss_one (ps_ret pe_bl))
      pss_nil)
    (pss_one (ps_ret (pe_and (pe_cmpR op_notIn_seq (pv 0) (pe_glob (v := .ref aB) rfl Wba rfl) rfl) (pe_one (pe_callB (cr_all rfl) (by rfl) b.all (by decide +kernel) (pa_cons (pe_lc (own := [("sign", 2)]) (g := (gName 2)) (tt := tYes) (te := (tOp rInSign (tVar 2) (tC (.str letters)))) rfl scIsName.nd (pi_str (pv 0)) (blkOk_by (N := nIsName) (sc := defScope sIsName) (by decide +kernel)) (fun _ _ _ _ _ => (pg_name (i := 2) scIsName.nd rfl (.inl rfl))) (fun _ _ _ _ _ => pts_nil) (fun _ _ _ _ _ => (pe_cmpR op_in_sign (pv 2) (pe_glob (v := .str letters) rfl Wle ⟨_, rfl⟩) rfl))) pa_nil))))))), ?_⟩
    unfold nameB at k
    refine rd_isi rfl (.base (.str z)) (b := true) (by decide +kernel) ⟨_, rfl, iteF ?_⟩
    refine ⟨_, rfl, z, rfl, Nat.le_trans l9 (by decide), 1, _, rfl, rfl, _, rfl, ?_⟩
    by_cases c1 : 1 ≤ z.length
    · rw [if_pos (decide_eq_true (show (1 : Int) ≤ (z.length : Int) by omega))]
      rw [decide_eq_true c1] at k
      refine ⟨_, rfl, _, _, rfl, rfl, _, rfl, ?_⟩
      by_cases c2 : z.length ≤ m
      · rw [decide_eq_true (show (z.length : Int) ≤ (m : Int) by omega)]
        rw [decide_eq_true c2] at k
        refine iteF ?_
        refine ⟨_, rfl, aB, _, rfl, .inr (Wbt H), rfl, rfl, _, rfl, ?_⟩
        rw [inBar]
        by_cases c3 : z = "find" ∨ z = "some"
        · rw [decide_eq_true c3] at k ⊢
          exact iteF (k H (Same.refl H))
        · rw [decide_eq_false c3] at k ⊢
          refine iteT ?_
          refine ⟨_, rfl, z, rfl, fun D hD => ?_⟩
          refine lc_textS (fun i acc _ => acc = ((z.cps.toList.take i).map letB).map V.bl) hD (show z.cps.size < 1000 by have : z.cps.size = z.length := rfl; omega) (fun _ _ _ _ _ h => h) rfl ?_ ?_
          · rintro i c acc H2 hc s2 h2 rfl k1 k2 y1 y2
            refine ⟨rfl, yes_turn ?_⟩
            refine ⟨_, rfl, c, letters, rfl, rfl, y1 _ _ (Same.refl _) ?_⟩
            rw [List.take_add_one, show z.cps.toList[i]? = some c by rw [Array.getElem?_toList]; exact hc, List.map_append, List.map_append]
            rfl
          · rintro acc H2 s2 h2 rfl
            refine ⟨D, _, rfl, SqL.of h2, ?_⟩
            have e2 : ((z.cps.toList.take z.cps.size).map letB).all id = z.cps.toList.all letB := by
              rw [List.take_of_length_le (by simp), List.all_map]
              rfl
            rw [e2]
            exact k H2 s2
      · rw [decide_eq_false (show ¬ (z.length : Int) ≤ (m : Int) by omega)]
        rw [decide_eq_false c2] at k
        exact iteT (k H (Same.refl H))
    · rw [if_neg (by rw [decide_eq_false (show ¬ (1 : Int) ≤ (z.length : Int) by omega)]; decide)]
      rw [decide_eq_false c1] at k
      exact ⟨_, rfl, iteT (k H (Same.refl H))⟩
def spGoodNameX : Sp := fun vs H Q _ => ∃ z : Str, vs = [.str z] ∧ z.length ≤ 900 ∧ ∀ H', Same H H' → Q (.bl (nameB 8 z)) H'
theorem has_goodnameX (b : Blt mg) (a : AtE K mg "_law_good_name" sLawGoodName ["_law_name"]) : Has P w K mg base CX0 1 "_law_good_name" sLawGoodName ["_law_name"] spGoodNameX := by
  obtain ⟨f, fd, a⟩ := a
  refine ⟨f, fd, a, a.fn.ok scLawGoodName (fun vs H Q E h => ?_) (fun cdv A outer s H vs Q E hr h => ?_)⟩
  · obtain ⟨z, rfl, _⟩ := h
    rfl
  · obtain ⟨z, rfl, l9, k⟩ := h
    refine ⟨_,
    (pss_cons (ps_if (PW.pt (pw_or (pt_not (pt_val (pe_isi (pv 0) rfl b.isi rfl b.str (c := "str") (by decide +kernel)))) (pw_or (pt_not (pt_chain op_le op_le pe_int (pe_callB call_len_str (by rfl) b.len PySem.boot_len (pa_cons (pv 0) pa_nil)) pe_int)) (pw_or1 (pt_cmpR op_in_seq (pv 0) (pe_tup (pa_cons pe_str (pa_cons pe_str pa_nil))) rfl)))))
      (pss_one (ps_ret pe_bl))
      pss_nil)
    (pss_one (ps_ret (pe_callB (cr_all rfl) (by rfl) b.all (by decide +kernel) (pa_cons (pe_lc (own := [("_law_sign", 1)]) (g := (gName 1)) (tt := tYes) (te := (tOp rInSign (tVar 1) (tC (.str letters)))) rfl scLawGoodName.nd (pi_str (pv 0)) (blkOk_by (N := nLawGoodName) (sc := defScope sLawGoodName) (by decide +kernel)) (fun _ _ _ _ _ => (pg_name (i := 1) scLawGoodName.nd rfl (.inl rfl))) (fun _ _ _ _ _ => pts_nil) (fun _ _ _ _ _ => (pe_cmpR op_in_sign (pv 1) pe_str rfl))) pa_nil))))), ?_⟩
    unfold nameB at k
    refine rd_isi rfl (.base (.str z)) (b := true) (by decide +kernel) ⟨_, rfl, iteF ?_⟩
    refine ⟨_, rfl, z, rfl, Nat.le_trans l9 (by decide), 1, _, rfl, rfl, _, rfl, ?_⟩
    by_cases c1 : 1 ≤ z.length
    · rw [if_pos (decide_eq_true (show (1 : Int) ≤ (z.length : Int) by omega))]
      rw [decide_eq_true c1] at k
      refine ⟨_, 8, rfl, rfl, _, rfl, ?_⟩
      by_cases c2 : z.length ≤ 8
      · rw [decide_eq_true (show (z.length : Int) ≤ (8 : Int) by omega)]
        rw [decide_eq_true c2] at k
        refine iteF ?_
        refine ⟨_, rfl, by show 2 ≤ sizeLine; decide, fun T nT => ?_⟩
        have sT := same_new (o := HO.tup [.str "find", .str "some"]) nT
        refine ⟨T, _, rfl, .inr (SqT.of upd_same), rfl, rfl, _, rfl, ?_⟩
        rw [inBar]
        by_cases c3 : z = "find" ∨ z = "some"
        · rw [decide_eq_true c3] at k ⊢
          exact iteT (k _ sT)
        · rw [decide_eq_false c3] at k ⊢
          refine iteF ⟨_, rfl, z, rfl, fun D hD => ?_⟩
          refine lc_textS (fun i acc _ => acc = ((z.cps.toList.take i).map letB).map V.bl) hD (show z.cps.size < 1000 by have : z.cps.size = z.length := rfl; omega) (fun _ _ _ _ _ h => h) rfl ?_ ?_
          · rintro i c acc H2 hc s2 h2 rfl k1 k2 y1 y2
            refine ⟨rfl, yes_turn ?_⟩
            refine ⟨_, rfl, c, letters, rfl, rfl, y1 _ _ (Same.refl _) ?_⟩
            rw [List.take_add_one, show z.cps.toList[i]? = some c by rw [Array.getElem?_toList]; exact hc, List.map_append, List.map_append]
            rfl
          · rintro acc H2 s2 h2 rfl
            refine ⟨D, _, rfl, SqL.of h2, ?_⟩
            have e2 : ((z.cps.toList.take z.cps.size).map letB).all id = z.cps.toList.all letB := by
              rw [List.take_of_length_le (by simp), List.all_map]
              rfl
            rw [e2]
            exact k H2 (sT.trans s2)
      · rw [decide_eq_false (show ¬ (z.length : Int) ≤ (8 : Int) by omega)]
        rw [decide_eq_false c2] at k
        exact iteT (k H (Same.refl H))
    · rw [if_neg (by rw [decide_eq_false (show ¬ (1 : Int) ≤ (z.length : Int) by omega)]; decide)]
      rw [decide_eq_false c1] at k
      exact ⟨_, rfl, iteT (k H (Same.refl H))⟩
end
end VQ
namespace VQ
open PySem L2 LamX
/-! ### the parts of any text -/
abbrev Tk := Nat × Str
def joinsT (fs : List (List Nat × Nat)) (i c : Nat) : Bool := match fs.getLast? with
  | none => false
  | some f => decide (f.2 + f.1.length = i) && (match f.1.getLast? with
    | none => false
    | some l => joinB l c)
def stepT (fs : List (List Nat × Nat)) (i c : Nat) : List (List Nat × Nat) :=
  if joinsT fs i c = true then (match fs.getLast? with
    | none => fs
    | some f => fs.dropLast ++ [(f.1 ++ [c], f.2)])
  else if c = 32 then fs else fs ++ [([c], i)]
def foldT : List (List Nat × Nat) → Nat → List Nat → List (List Nat × Nat)
  | fs, _, [] => fs
  | fs, i, c :: cs => foldT (stepT fs i c) (i + 1) cs
def tkOf (f : List Nat × Nat) : Tk := (f.2, wS f.1)
def tksM (z : Str) : List Tk := (foldT [] 0 z.cps.toList).map tkOf ++ [(z.length, ("" : Str))]
theorem foldT_app : ∀ (as bs : List Nat) (fs : List (List Nat × Nat)) (i : Nat), foldT fs i (as ++ bs) = foldT (foldT fs i as) (i + as.length) bs
  | [], _, _, _ => rfl
  | a :: as, bs, fs, i => by
    show foldT (stepT fs i a) (i + 1) (as ++ bs) = foldT (foldT (stepT fs i a) (i + 1) as) (i + (as.length + 1)) bs
    rw [foldT_app as bs (stepT fs i a) (i + 1), Nat.add_assoc, Nat.add_comm 1]
theorem joins_snoc {fs : List (List Nat × Nat)} {w : List Nat} {p i l c : Nat} (e : p + (w ++ [l]).length = i) : joinsT (fs ++ [(w ++ [l], p)]) i c = joinB l c := by
  unfold joinsT
  rw [List.getLast?_concat]
  dsimp only
  rw [List.getLast?_concat, decide_eq_true e]
  rfl
theorem step_join {fs : List (List Nat × Nat)} {w : List Nat} {p i c : Nat} (h : joinsT (fs ++ [(w, p)]) i c = true) : stepT (fs ++ [(w, p)]) i c = fs ++ [(w ++ [c], p)] := by
  unfold stepT
  rw [if_pos h, List.getLast?_concat]
  dsimp only
  rw [List.dropLast_concat]
/-- a run of one kind goes to the last part -/
theorem fold_run {q : Nat → Bool} (hq : ∀ a b, q a = true → q b = true → joinB a b = true) : ∀ (v : List Nat) (fs : List (List Nat × Nat)) (w : List Nat) (p i l : Nat), p + (w ++ [l]).length = i → q l = true → (∀ c ∈ v, q c = true) → foldT (fs ++ [(w ++ [l], p)]) i v = fs ++ [(w ++ [l] ++ v, p)]
  | [], fs, w, p, i, l, e, ql, h => by rw [List.append_nil]; rfl
  | c :: v, fs, w, p, i, l, e, ql, h => by
    have qc := h c List.mem_cons_self
    have j : joinsT (fs ++ [(w ++ [l], p)]) i c = true := by rw [joins_snoc e]; exact hq l c ql qc
    show foldT (stepT (fs ++ [(w ++ [l], p)]) i c) (i + 1) v = _
    rw [step_join j, fold_run hq v fs (w ++ [l]) p (i + 1) c (by rw [List.length_append]; show p + ((w ++ [l]).length + 1) = i + 1; omega) qc (fun d m => h d (List.mem_cons_of_mem _ m))]
    rw [List.append_assoc (w ++ [l])]
    rfl
theorem span_run (p : Nat → Bool) : ∀ cs : List Nat, (∀ c ∈ cs.take (spanLen p cs), p c = true) ∧ ∀ c, (cs.drop (spanLen p cs)).head? = some c → p c = false
  | [] => ⟨fun _ m => (by cases m), fun _ h => (by cases h)⟩
  | c :: cs => by
    obtain ⟨h1, h2⟩ := span_run p cs
    have e : spanLen p (c :: cs) = if p c = true then spanLen p cs + 1 else 0 := rfl
    rw [e]
    by_cases pc : p c = true
    · rw [if_pos pc]
      refine ⟨fun d m => ?_, fun d h => h2 d h⟩
      rcases List.mem_cons.mp m with rfl | m
      · exact pc
      · exact h1 d m
    · rw [if_neg pc]
      refine ⟨fun d m => (by cases m), fun d h => ?_⟩
      cases h
      exact Bool.eq_false_iff.mpr pc
/-- what stands first is a part, or a blank -/
theorem part_tok {c : Nat} {cs : List Nat} (nb : c ≠ 32) : Tok ((c :: cs).take (partLen (c :: cs))) ((c :: cs).drop (partLen (c :: cs))) ∧ 0 < partLen (c :: cs) := by
  have e : partLen (c :: cs) = if letB c = true then spanLen letB (c :: cs) else if digB c = true then spanLen digB (c :: cs) else 1 := rfl
  rw [e]
  by_cases l : letB c = true
  · rw [if_pos l]
    obtain ⟨h1, h2⟩ := span_run letB (c :: cs)
    have pos : 0 < spanLen letB (c :: cs) := by
      rw [show spanLen letB (c :: cs) = if letB c = true then spanLen letB cs + 1 else 0 from rfl]
      rw [if_pos l]
      exact Nat.succ_pos _
    refine ⟨.word (fun e => ?_) h1 h2, pos⟩
    cases h : spanLen letB (c :: cs) with
    | zero => rw [h] at pos; cases pos
    | succ n => rw [h] at e; cases e
  · rw [if_neg l]
    by_cases d : digB c = true
    · rw [if_pos d]
      obtain ⟨h1, h2⟩ := span_run digB (c :: cs)
      have pos : 0 < spanLen digB (c :: cs) := by
        rw [show spanLen digB (c :: cs) = if digB c = true then spanLen digB cs + 1 else 0 from rfl]
        rw [if_pos d]
        exact Nat.succ_pos _
      refine ⟨.num (fun e => ?_) h1 h2, pos⟩
      cases h : spanLen digB (c :: cs) with
      | zero => rw [h] at pos; cases pos
      | succ n => rw [h] at e; cases e
    · rw [if_neg d]
      exact ⟨.sign (Bool.eq_false_iff.mpr l) (Bool.eq_false_iff.mpr d) nb, Nat.zero_lt_one⟩
/-- nothing joins the last part here -/
def FreeT (fs : List (List Nat × Nat)) (i : Nat) (cs : List Nat) : Prop := ∀ c, cs.head? = some c → joinsT fs i c = false
theorem step_free {fs : List (List Nat × Nat)} {i c : Nat} (h : joinsT fs i c = false) : stepT fs i c = if c = 32 then fs else fs ++ [([c], i)] := by
  unfold stepT
  rw [if_neg (by rw [h]; exact Bool.false_ne_true)]
/-- a part goes over as one -/
theorem fold_tok {fs : List (List Nat × Nat)} {i : Nat} {w cs : List Nat} (t : Tok w cs) (fr : FreeT fs i (w ++ cs)) : foldT fs i w = fs ++ [(w, i)] ∧ FreeT (fs ++ [(w, i)]) (i + w.length) cs := by
  obtain ⟨c, r, rfl, nb⟩ := t.first
  have st := step_free (fr c rfl)
  rw [if_neg nb] at st
  refine ⟨?_, fun d hd => ?_⟩
  · show foldT (stepT fs i c) (i + 1) r = _
    rw [st]
    cases t with
    | word ne all _ => exact fold_run (q := letB) (fun a b ha hb => by unfold joinB; rw [ha, hb]; rfl) r fs [] i (i + 1) c rfl (all c List.mem_cons_self) (fun d m => all d (List.mem_cons_of_mem _ m))
    | num ne all _ => exact fold_run (q := digB) (fun a b ha hb => by unfold joinB; rw [ha, hb, Bool.and_self, Bool.or_true]) r fs [] i (i + 1) c rfl (all c List.mem_cons_self) (fun d m => all d (List.mem_cons_of_mem _ m))
    | sign _ _ _ => rfl
  · unfold joinsT
    rw [List.getLast?_concat]
    dsimp only
    cases e : (c :: r).getLast? with
    | none => rw [Bool.and_false]
    | some l =>
      dsimp only
      rw [after_tok t e hd, Bool.and_false]
/-- each part ends ahead of here, and none is empty -/
theorem fold_ok {z : List Nat} (asc : ∀ c ∈ z, c < 128) : ∀ i, i ≤ z.length → TkOk (foldT [] 0 (z.take i)) i
  | 0, _ => ⟨fun _ m => (by cases m), fun _ m => (by cases m), Nat.zero_le _, fun _ m => (by cases m)⟩
  | i + 1, h => by
    have ih := fold_ok asc i (Nat.le_of_succ_le h)
    have lt : i < z.length := h
    rw [List.take_add_one, foldT_app, List.length_take, Nat.min_eq_left (Nat.le_of_lt lt), Nat.zero_add, List.getElem?_eq_getElem lt]
    show TkOk (stepT (foldT [] 0 (z.take i)) i z[i]) (i + 1)
    have c128 := asc z[i] (List.getElem_mem lt)
    generalize foldT [] 0 (z.take i) = fs at ih ⊢
    cases j : joinsT fs i z[i] with
    | false =>
      rw [step_free j]
      by_cases b : z[i] = 32
      · rw [if_pos b]
        exact ih.next
      · rw [if_neg b]
        exact ih.more c128
    | true =>
      rcases nil_or_snoc fs with rfl | ⟨fs0, ⟨w, p⟩, rfl⟩
      · cases j
      · rw [step_join j]
        refine ih.join c128 ?_
        unfold joinsT at j
        rw [List.getLast?_concat] at j
        exact of_decide_eq_true (Bool.and_eq_true _ _ ▸ j).1
end VQ
namespace VQ
open PySem L2 LamX
/-! ### what a text's parts say, right or wrong: one reader -/
def nameOk (zs : List Str) (z : Str) : Bool := nameB 4 z && (!decide (z ∈ zs) && decide (zs.length < 5))
def goOn (z : Str) : Bool := wordB z && !decide (z = "some")
def moreM : List Str → List Tk → Except Nat (List Str × List Tk)
  | zs, [] => .ok (zs, [])
  | zs, t :: r => if goOn t.2 = true then (if nameOk zs t.2 = true then moreM (zs ++ [t.2]) r else .error t.1) else .ok (zs, t :: r)
def namesM (zs : List Str) : List Tk → Except Nat (List Str × List Tk)
  | [] => .error 0
  | t :: r => if nameOk zs t.2 = true then moreM (zs ++ [t.2]) r else .error t.1
theorem namesM_cons (zs : List Str) (t : Tk) (r : List Tk) : namesM zs (t :: r) = if nameOk zs t.2 = true then moreM (zs ++ [t.2]) r else .error t.1 := rfl
def signM (s : Str) : List Tk → Except Nat (List Tk)
  | [] => .error 0
  | t :: r => if t.2 = s then .ok r else .error t.1
def colonM (zs : List Str) (m : Nat) (ts : List Tk) : Except Nat ((List Str × Nat) × List Tk) := match signM ":" ts with
  | .error e => .error e
  | .ok r => .ok ((zs, m), r)
def someM (zs : List Str) : List Tk → Except Nat ((List Str × Nat) × List Tk)
  | [] => .error 0
  | t :: r => if t.2 = "some" then (match namesM zs r with
    | .error e => .error e
    | .ok (ws, r') => colonM ws zs.length r') else colonM zs zs.length (t :: r)
def headM (ts : List Tk) : Except Nat ((List Str × Nat) × List Tk) := match namesM [] ts with
  | .error e => .error e
  | .ok (zs, r) => someM zs r
/-- the law's way through the head -/
def lheadM : List Str → Nat → List Tk → Except Nat ((List Str × Nat) × List Tk)
  | _, _, [] => .error 0
  | zs, m, t :: r => if t.2 = ":" ∧ m < zs.length then .ok ((zs, if m = 0 then zs.length else m), r)
    else if t.2 = "some" ∧ m = 0 ∧ zs ≠ [] then lheadM zs zs.length r
    else if nameOk zs t.2 = true then lheadM (zs ++ [t.2]) m r else .error t.1
theorem nameOk_word {zs : List Str} {z : Str} (h : nameOk zs z = true) : NameS 4 z ∧ z ∉ zs ∧ zs.length < 5 := by
  unfold nameOk at h
  rw [Bool.and_eq_true, Bool.and_eq_true] at h
  refine ⟨nameB_iff.mp h.1, fun m => ?_, of_decide_eq_true h.2.2⟩
  have := h.2.1
  rw [decide_eq_true m] at this
  cases this
theorem wordB_name {m : Nat} {z : Str} (h : NameS m z) : wordB z = true := by
  unfold wordB
  cases e : z.cps.toList with
  | nil => exact absurd e h.ne
  | cons c cs => exact h.lt c (by rw [e]; exact List.mem_cons_self)
theorem goOn_name {m : Nat} {z : Str} (h : NameS m z) : goOn z = true := by
  unfold goOn
  rw [wordB_name h, decide_eq_false h.ns]
  rfl
theorem not_go_colon : goOn ":" = false := by decide +kernel
theorem not_go_some : goOn "some" = false := by decide +kernel
theorem colon_not (zs : List Str) : nameOk zs ":" = false := by
  unfold nameOk
  rw [show nameB 4 ":" = false by decide +kernel]
  rfl
theorem some_not (zs : List Str) : nameOk zs "some" = false := by
  unfold nameOk
  rw [show nameB 4 "some" = false by decide +kernel]
  rfl
theorem some_ne_colon : ¬ (("some" : Str) = ":") := by decide +kernel
theorem lhead_behind : ∀ (ts : List Tk) (zs : List Str) (m : Nat), 1 ≤ m → m < zs.length → lheadM zs m ts = match moreM zs ts with
    | .error e => .error e
    | .ok (ws, r) => colonM ws m r
  | [], zs, m, _, _ => rfl
  | t :: r, zs, m, h1, h2 => by
    unfold lheadM moreM
    by_cases c : t.2 = ":"
    · rw [if_pos ⟨c, h2⟩, if_neg (show ¬ m = 0 by omega), if_neg (show ¬ goOn t.2 = true by rw [c, not_go_colon]; exact Bool.false_ne_true)]
      unfold colonM signM
      dsimp only
      rw [if_pos c]
    · rw [if_neg (fun h => c h.1), if_neg (fun h => by omega)]
      cases n : nameOk zs t.2 with
      | true =>
        rw [if_pos rfl, if_pos (goOn_name (nameOk_word n).1), if_pos rfl]
        exact lhead_behind r (zs ++ [t.2]) m h1 (by rw [List.length_append]; omega)
      | false =>
        rw [if_neg Bool.false_ne_true]
        cases g : goOn t.2 with
        | true =>
          rw [if_pos rfl, if_neg Bool.false_ne_true]
        | false =>
          rw [if_neg Bool.false_ne_true]
          unfold colonM signM
          dsimp only
          rw [if_neg c]
theorem lhead_ahead : ∀ (ts : List Tk) (zs : List Str), zs ≠ [] → lheadM zs 0 ts = match moreM zs ts with
    | .error e => .error e
    | .ok (ws, r) => someM ws r
  | [], zs, _ => rfl
  | t :: r, zs, ne => by
    have pos : 0 < zs.length := List.length_pos_iff.mpr ne
    unfold lheadM moreM
    by_cases c : t.2 = ":"
    · rw [if_pos ⟨c, pos⟩, if_pos rfl, if_neg (show ¬ goOn t.2 = true by rw [c, not_go_colon]; exact Bool.false_ne_true)]
      unfold someM
      dsimp only
      rw [if_neg (by rw [c]; exact fun e => some_ne_colon e.symm)]
      unfold colonM signM
      dsimp only
      rw [if_pos c]
    · rw [if_neg (fun h => c h.1)]
      by_cases s : t.2 = "some"
      · rw [if_pos ⟨s, rfl, ne⟩, if_neg (by rw [s, not_go_some]; exact Bool.false_ne_true)]
        unfold someM
        dsimp only
        rw [if_pos s]
        cases r with
        | nil => rfl
        | cons u r' =>
          rw [namesM_cons]
          unfold lheadM
          rw [if_neg (fun h => absurd h.2 (Nat.lt_irrefl _)), if_neg (fun h => by have := h.2.1; omega)]
          cases n : nameOk zs u.2 with
          | true =>
            rw [if_pos rfl]
            exact lhead_behind r' (zs ++ [u.2]) zs.length pos (by rw [List.length_append]; exact Nat.lt_succ_self _)
          | false => rw [if_neg Bool.false_ne_true, if_neg Bool.false_ne_true]
      · rw [if_neg (fun h => s h.1)]
        cases n : nameOk zs t.2 with
        | true =>
          rw [if_pos rfl, if_pos (goOn_name (nameOk_word n).1), if_pos rfl]
          exact lhead_ahead r (zs ++ [t.2]) (List.append_ne_nil_of_right_ne_nil _ (List.cons_ne_nil _ _))
        | false =>
          rw [if_neg Bool.false_ne_true]
          cases g : goOn t.2 with
          | true => rw [if_pos rfl, if_neg Bool.false_ne_true]
          | false =>
            rw [if_neg Bool.false_ne_true]
            unfold someM
            dsimp only
            rw [if_neg s]
            unfold colonM signM
            dsimp only
            rw [if_neg c]
theorem lhead_is (ts : List Tk) : lheadM [] 0 ts = headM ts := by
  cases ts with
  | nil => rfl
  | cons t r =>
    unfold headM
    rw [namesM_cons]
    unfold lheadM
    rw [if_neg (fun h => absurd h.2 (Nat.lt_irrefl _)), if_neg (fun h => h.2.2 rfl)]
    cases n : nameOk [] t.2 with
    | true =>
      rw [if_pos rfl]
      exact lhead_ahead r ([] ++ [t.2]) (List.cons_ne_nil _ _)
    | false => rw [if_neg Bool.false_ne_true, if_neg Bool.false_ne_true]
/-! terms, ties, pairs -/
def numM (z : Str) : Option Nat := (List.range 32).find? fun n => decide (numS n = z)
def termM (zs : List Str) (z : Str) : Option Term := if z ∈ zs then some (.nm z) else (numM z).map .wo
theorem numM_some {z : Str} {n : Nat} (h : numM z = some n) : n < 32 ∧ z = numS n := by
  unfold numM at h
  have h1 := List.find?_some h
  have h2 := List.mem_of_find?_eq_some h
  exact ⟨List.mem_range.mp h2, (of_decide_eq_true h1).symm⟩
theorem numM_none {z : Str} (h : numM z = none) : ∀ n, n < 32 → z ≠ numS n := fun n hn e => by
  unfold numM at h
  have := List.find?_eq_none.mp h n (List.mem_range.mpr hn)
  exact this (decide_eq_true e.symm)
def afterM (zs : List Str) : Nat → List Term → List Tk → Except Nat (List Term × List Tk)
  | _, _, [] => .error 0
  | 0, acc, u :: r => if u.2 = ")" then .ok (acc, r) else .error u.1
  | n + 1, acc, u :: r => if u.2 = ")" then .ok (acc, r) else if u.2 = "," then (match r with
    | [] => .error 0
    | t :: r' => match termM zs t.2 with
      | none => .error t.1
      | some x => afterM zs n (acc ++ [x]) r') else .error u.1
def tieM (zs : List Str) : List Tk → Except Nat ((Str × List Term) × List Tk)
  | t :: u :: v :: r => if nameB 8 t.2 = true then (if u.2 = "(" then (match termM zs v.2 with
    | none => .error v.1
    | some x => match afterM zs 3 [x] r with
      | .error e => .error e
      | .ok (xs, r') => .ok ((t.2, xs), r')) else .error u.1) else .error t.1
  | [t, u] => if nameB 8 t.2 = true then (if u.2 = "(" then .error 0 else .error u.1) else .error t.1
  | [t] => if nameB 8 t.2 = true then .error 0 else .error t.1
  | [] => .error 0
def pairM (zs : List Str) : List Tk → Except Nat ((Str × Str) × List Tk)
  | t :: u :: v :: r => if t.2 ∈ zs then (if u.2 = "<" then (if v.2 ∈ zs ∧ v.2 ≠ t.2 then .ok ((t.2, v.2), r) else .error v.1) else .error u.1) else .error t.1
  | [t, u] => if t.2 ∈ zs then (if u.2 = "<" then .error 0 else .error u.1) else .error t.1
  | [t] => if t.2 ∈ zs then .error 0 else .error t.1
  | [] => .error 0
abbrev Clz := List (Str × List Term) × List (Str × Str)
def pairNext : List Tk → Bool
  | t :: u :: _ => !decide (t.2 = "") && decide (u.2 = "<")
  | _ => false
def clauseM (zs : List Str) (c : Clz) (ts : List Tk) : Except Nat (Clz × List Tk) := match ts with
  | [] => .error 0
  | t :: r => if pairNext (t :: r) = true then (if c.1 ≠ [] ∧ c.2.length < 3 then (match pairM zs (t :: r) with
      | .error e => .error e
      | .ok (p, r') => .ok ((c.1, c.2 ++ [p]), r')) else .error t.1)
    else (if c.2 = [] ∧ c.1.length < 6 then (match tieM zs (t :: r) with
      | .error e => .error e
      | .ok (x, r') => .ok ((c.1 ++ [x], c.2), r')) else .error t.1)
def clausesM (zs : List Str) : Nat → Clz → List Tk → Except Nat Clz
  | 0, _, _ => .error 0
  | n + 1, c, ts => match clauseM zs c ts with
    | .error e => .error e
    | .ok (_, []) => .error 0
    | .ok (c', t :: r) => if t.2 = "" then .ok c' else if t.2 = "," then clausesM zs n c' r else .error t.1
def tiedB (zs : List Str) (ties : List (Str × List Term)) : Bool := zs.all fun z => decide (Term.nm z ∈ ties.flatMap (·.2))
def readM (ts : List Tk) : Except Nat Qn := match signM "find" ts with
  | .error e => .error e
  | .ok r => match headM r with
    | .error e => .error e
    | .ok ((zs, m), r') => match clausesM zs ts.length ([], []) r' with
      | .error e => .error e
      | .ok (ties, less) => if tiedB zs ties = true then .ok ⟨zs, m, ties, less⟩ else .error 0
/-! where something was read, less is left -/
theorem after_less {zs : List Str} : ∀ (n : Nat) (acc : List Term) (ts : List Tk) {xs : List Term} {r : List Tk}, afterM zs n acc ts = .ok (xs, r) → r.length < ts.length ∧ (acc.length + n ≤ 4 → xs.length ≤ 4) ∧ acc.length ≤ xs.length ∧ ((∀ x ∈ acc, TermOk zs x) → ∀ x ∈ xs, TermOk zs x)
  | n, acc, [], _, _, h => by cases n <;> cases h
  | 0, acc, u :: r, _, _, h => by
    unfold afterM at h
    by_cases c : u.2 = ")"
    · rw [if_pos c] at h
      cases h
      exact ⟨Nat.lt_succ_self _, fun h => h, Nat.le_refl _, fun h => h⟩
    · rw [if_neg c] at h
      cases h
  | n + 1, acc, u :: r, _, _, h => by
    unfold afterM at h
    by_cases c : u.2 = ")"
    · rw [if_pos c] at h
      cases h
      exact ⟨Nat.lt_succ_self _, fun h => by omega, Nat.le_refl _, fun h => h⟩
    · rw [if_neg c] at h
      by_cases d : u.2 = ","
      · rw [if_pos d] at h
        cases r with
        | nil => cases h
        | cons t r' =>
          dsimp only at h
          cases e : termM zs t.2 with
          | none => rw [e] at h; cases h
          | some x =>
            rw [e] at h
            obtain ⟨h1, h2, h3, h4⟩ := after_less n _ r' h
            have ok : TermOk zs x := by
              unfold termM at e
              by_cases c : t.2 ∈ zs
              · rw [if_pos c] at e
                cases e
                exact c
              · rw [if_neg c] at e
                cases f : numM t.2 with
                | none => rw [f] at e; cases e
                | some k =>
                  rw [f] at e
                  cases e
                  exact (numM_some f).1
            rw [List.length_append] at h2 h3
            refine ⟨by show _ < r'.length + 1 + 1; omega, fun h => h2 (by show acc.length + 1 + n ≤ 4; omega), by have : acc.length + 1 ≤ _ := h3; omega, fun h => h4 fun y my => ?_⟩
            rcases List.mem_append.mp my with my | my
            · exact h y my
            · rw [List.mem_singleton.mp my]
              exact ok
      · rw [if_neg d] at h
        cases h
theorem termM_ok {zs : List Str} {z : Str} {x : Term} (e : termM zs z = some x) : TermOk zs x := by
  unfold termM at e
  by_cases c : z ∈ zs
  · rw [if_pos c] at e
    cases e
    exact c
  · rw [if_neg c] at e
    cases f : numM z with
    | none => rw [f] at e; cases e
    | some k =>
      rw [f] at e
      cases e
      exact (numM_some f).1
theorem tieM_cons (zs : List Str) (t u v : Tk) (r : List Tk) : tieM zs (t :: u :: v :: r) = if nameB 8 t.2 = true then (if u.2 = "(" then (match termM zs v.2 with
    | none => .error v.1
    | some x => match afterM zs 3 [x] r with
      | .error e => .error e
      | .ok (xs, r') => .ok ((t.2, xs), r')) else .error u.1) else .error t.1 := rfl
theorem pairM_cons (zs : List Str) (t u v : Tk) (r : List Tk) : pairM zs (t :: u :: v :: r) = if t.2 ∈ zs then (if u.2 = "<" then (if v.2 ∈ zs ∧ v.2 ≠ t.2 then .ok ((t.2, v.2), r) else .error v.1) else .error u.1) else .error t.1 := rfl
theorem tie_less {zs : List Str} {ts r : List Tk} {x : Str × List Term} (h : tieM zs ts = .ok (x, r)) : r.length < ts.length ∧ TieOk zs x := by
  match ts, h with
  | [], h => cases h
  | [t], h =>
    rw [show tieM zs [t] = if nameB 8 t.2 = true then .error 0 else .error t.1 from rfl] at h
    split at h <;> cases h
  | [t, u], h =>
    rw [show tieM zs [t, u] = if nameB 8 t.2 = true then (if u.2 = "(" then .error 0 else .error u.1) else .error t.1 from rfl] at h
    split at h
    · split at h <;> cases h
    · cases h
  | t :: u :: v :: r0, h =>
    rw [tieM_cons] at h
    split at h
    · rename_i nb
      split at h
      · cases e : termM zs v.2 with
        | none => rw [e] at h; cases h
        | some y =>
          rw [e] at h
          dsimp only at h
          cases f : afterM zs 3 [y] r0 with
          | error e => rw [f] at h; cases h
          | ok p =>
            obtain ⟨xs, r'⟩ := p
            rw [f] at h
            cases h
            obtain ⟨h1, h2, h3, h4⟩ := after_less 3 [y] r0 f
            exact ⟨by show _ < r0.length + 1 + 1 + 1; omega, ⟨nameB_iff.mp nb, h3, h2 (by show 1 + 3 ≤ 4; omega), h4 fun z m => by rw [List.mem_singleton.mp m]; exact termM_ok e⟩⟩
      · cases h
    · cases h
theorem pair_less {zs : List Str} {ts r : List Tk} {x : Str × Str} (h : pairM zs ts = .ok (x, r)) : r.length < ts.length ∧ (x.1 ∈ zs ∧ x.2 ∈ zs ∧ x.1 ≠ x.2) := by
  match ts, h with
  | [], h => cases h
  | [t], h =>
    rw [show pairM zs [t] = if t.2 ∈ zs then .error 0 else .error t.1 from rfl] at h
    split at h <;> cases h
  | [t, u], h =>
    rw [show pairM zs [t, u] = if t.2 ∈ zs then (if u.2 = "<" then .error 0 else .error u.1) else .error t.1 from rfl] at h
    split at h
    · split at h <;> cases h
    · cases h
  | t :: u :: v :: r0, h =>
    rw [pairM_cons] at h
    split at h
    · rename_i m1
      split at h
      · split at h
        · rename_i m2
          cases h
          exact ⟨by show r.length < r.length + 1 + 1 + 1; omega, m1, m2.1, fun e => m2.2 e.symm⟩
        · cases h
      · cases h
    · cases h
structure COk (zs : List Str) (c : Clz) : Prop where
  t6 : c.1.length ≤ 6
  tt : ∀ t ∈ c.1, TieOk zs t
  l3 : c.2.length ≤ 3
  ll : ∀ p ∈ c.2, p.1 ∈ zs ∧ p.2 ∈ zs ∧ p.1 ≠ p.2
theorem clause_less {zs : List Str} {c c' : Clz} {ts r : List Tk} (h : clauseM zs c ts = .ok (c', r)) (ok : COk zs c) : r.length < ts.length ∧ COk zs c' ∧ 1 ≤ c'.1.length := by
  unfold clauseM at h
  cases ts with
  | nil => cases h
  | cons t r0 =>
    dsimp only at h
    split at h
    · split at h
      · rename_i g
        cases e : pairM zs (t :: r0) with
        | error e' => rw [e] at h; cases h
        | ok p =>
          obtain ⟨p, r'⟩ := p
          rw [e] at h
          cases h
          obtain ⟨h1, h2⟩ := pair_less e
          refine ⟨h1, ⟨ok.t6, ok.tt, by rw [List.length_append]; exact g.2, fun q m => ?_⟩, List.length_pos_iff.mpr g.1⟩
          rcases List.mem_append.mp m with m | m
          · exact ok.ll q m
          · rw [List.mem_singleton.mp m]
            exact h2
      · cases h
    · split at h
      · rename_i g
        cases e : tieM zs (t :: r0) with
        | error e' => rw [e] at h; cases h
        | ok p =>
          obtain ⟨p, r'⟩ := p
          rw [e] at h
          cases h
          obtain ⟨h1, h2⟩ := tie_less e
          refine ⟨h1, ⟨by rw [List.length_append]; exact g.2, fun q m => ?_, ok.l3, ok.ll⟩, by rw [List.length_append]; exact Nat.le_add_left 1 _⟩
          rcases List.mem_append.mp m with m | m
          · exact ok.tt q m
          · rw [List.mem_singleton.mp m]
            exact h2
      · cases h
theorem clauses_ok {zs : List Str} : ∀ (n : Nat) {c c' : Clz} {ts : List Tk}, clausesM zs n c ts = .ok c' → COk zs c → COk zs c' ∧ 1 ≤ c'.1.length
  | 0, _, _, _, h, _ => by cases h
  | n + 1, c, c', ts, h, ok => by
    unfold clausesM at h
    cases e : clauseM zs c ts with
    | error e' => rw [e] at h; cases h
    | ok p =>
      obtain ⟨c1, r⟩ := p
      rw [e] at h
      obtain ⟨_, ok1, l1⟩ := clause_less e ok
      cases r with
      | nil => cases h
      | cons t r =>
        dsimp only at h
        split at h
        · cases h
          exact ⟨ok1, l1⟩
        · split at h
          · exact clauses_ok n h ok1
          · cases h
theorem more_ok : ∀ {ts : List Tk} {zs ws : List Str} {r : List Tk}, moreM zs ts = .ok (ws, r) → (∀ z ∈ zs, NameS 4 z) → zs.Nodup → zs.length ≤ 5 → (∀ z ∈ ws, NameS 4 z) ∧ ws.Nodup ∧ ws.length ≤ 5 ∧ zs.length ≤ ws.length
  | [], zs, ws, r, h, h1, h2, h3 => by cases h; exact ⟨h1, h2, h3, Nat.le_refl _⟩
  | t :: ts, zs, ws, r, h, h1, h2, h3 => by
    unfold moreM at h
    split at h
    · split at h
      · rename_i n
        obtain ⟨a, b, c⟩ := nameOk_word n
        obtain ⟨g1, g2, g3, g4⟩ := more_ok (ts := ts) h (fun z m => by
          rcases List.mem_append.mp m with m | m
          · exact h1 z m
          · rw [List.mem_singleton.mp m]; exact a) (List.nodup_append.mpr ⟨h2, List.pairwise_singleton _ _, fun x mx y my e => by rw [List.mem_singleton.mp my] at e; exact b (e ▸ mx)⟩) (by rw [List.length_append]; exact c)
        rw [List.length_append] at g4
        exact ⟨g1, g2, g3, by have : zs.length + 1 ≤ _ := g4; omega⟩
      · cases h
    · cases h
      exact ⟨h1, h2, h3, Nat.le_refl _⟩
theorem someM_cons (zs : List Str) (t : Tk) (r : List Tk) : someM zs (t :: r) = if t.2 = "some" then (match namesM zs r with
    | .error e => .error e
    | .ok (ws, r') => colonM ws zs.length r') else colonM zs zs.length (t :: r) := rfl
theorem names_ok {zs ws : List Str} {ts r : List Tk} (h : namesM zs ts = .ok (ws, r)) (h1 : ∀ z ∈ zs, NameS 4 z) (h2 : zs.Nodup) : (∀ z ∈ ws, NameS 4 z) ∧ ws.Nodup ∧ ws.length ≤ 5 ∧ zs.length < ws.length := by
  cases ts with
  | nil => cases h
  | cons t ts =>
    rw [namesM_cons] at h
    split at h
    · rename_i n
      obtain ⟨a, b, c⟩ := nameOk_word n
      obtain ⟨g1, g2, g3, g4⟩ := more_ok (ts := ts) h (fun z m => by
        rcases List.mem_append.mp m with m | m
        · exact h1 z m
        · rw [List.mem_singleton.mp m]; exact a) (List.nodup_append.mpr ⟨h2, List.pairwise_singleton _ _, fun x mx y my e => by rw [List.mem_singleton.mp my] at e; exact b (e ▸ mx)⟩) (by rw [List.length_append]; exact c)
      rw [List.length_append] at g4
      exact ⟨g1, g2, g3, g4⟩
    · cases h
theorem more_less : ∀ {ts : List Tk} {zs ws : List Str} {r : List Tk}, moreM zs ts = .ok (ws, r) → r.length ≤ ts.length
  | [], zs, ws, r, h => by cases h; exact Nat.le_refl _
  | t :: ts, zs, ws, r, h => by
    unfold moreM at h
    split at h
    · split at h
      · exact Nat.le_succ_of_le (more_less (ts := ts) h)
      · cases h
    · cases h
      exact Nat.le_refl _
theorem names_less {zs ws : List Str} {ts r : List Tk} (h : namesM zs ts = .ok (ws, r)) : r.length ≤ ts.length := by
  cases ts with
  | nil => cases h
  | cons t ts =>
    rw [namesM_cons] at h
    split at h
    · exact Nat.le_succ_of_le (more_less h)
    · cases h
theorem head_ok {zs : List Str} {m : Nat} {ts r : List Tk} (h : headM ts = .ok ((zs, m), r)) : (∀ z ∈ zs, NameS 4 z) ∧ zs.Nodup ∧ zs.length ≤ 5 ∧ 1 ≤ m ∧ m ≤ zs.length := by
  unfold headM at h
  cases e : namesM [] ts with
  | error e' => rw [e] at h; cases h
  | ok p =>
    obtain ⟨ws, r1⟩ := p
    rw [e] at h
    obtain ⟨g1, g2, g3, g4⟩ := names_ok e (fun _ m => by cases m) List.nodup_nil
    have g4 : 0 < ws.length := g4
    have col : ∀ {us : List Str} {k : Nat} {rr : List Tk}, colonM us k rr = .ok ((zs, m), r) → us = zs ∧ k = m := fun {us k rr} h => by
      unfold colonM at h
      cases f : signM ":" rr with
      | error e' => rw [f] at h; cases h
      | ok r3 => rw [f] at h; cases h; exact ⟨rfl, rfl⟩
    dsimp only at h
    cases r1 with
    | nil => cases h
    | cons t r1 =>
      rw [someM_cons] at h
      split at h
      · cases f : namesM ws r1 with
        | error e' => rw [f] at h; cases h
        | ok p =>
          obtain ⟨us, r2⟩ := p
          rw [f] at h
          obtain ⟨rfl, rfl⟩ := col h
          obtain ⟨k1, k2, k3, k4⟩ := names_ok f g1 g2
          exact ⟨k1, k2, k3, g4, Nat.le_of_lt k4⟩
      · obtain ⟨rfl, rfl⟩ := col h
        exact ⟨g1, g2, g3, g4, Nat.le_refl _⟩
theorem read_ok {ts : List Tk} {q : Qn} (h : readM ts = .ok q) : QOk q := by
  unfold readM at h
  cases e1 : signM "find" ts with
  | error e' => rw [e1] at h; cases h
  | ok r =>
    rw [e1] at h
    dsimp only at h
    cases e2 : headM r with
    | error e' => rw [e2] at h; cases h
    | ok p =>
      obtain ⟨⟨zs, m⟩, r'⟩ := p
      rw [e2] at h
      dsimp only at h
      cases e3 : clausesM zs ts.length ([], []) r' with
      | error e' => rw [e3] at h; cases h
      | ok c =>
        obtain ⟨ties, less⟩ := c
        rw [e3] at h
        dsimp only at h
        split at h
        · rename_i td
          cases h
          obtain ⟨g1, g2, g3, g4, g5⟩ := head_ok e2
          obtain ⟨ok, l1⟩ := clauses_ok _ e3 ⟨Nat.zero_le _, fun _ m => (by cases m), Nat.zero_le _, fun _ m => (by cases m)⟩
          refine ⟨by show 1 ≤ zs.length; omega, g3, g1, g2, g4, g5, l1, ok.t6, ok.tt, ok.l3, ok.ll, fun z mz => ?_⟩
          have h := of_decide_eq_true (List.all_eq_true.mp td z mz)
          exact List.mem_flatMap.mp h
        · cases h
end VQ
namespace VQ
open PySem L2 LamX
/-! ### the parts of any text, in the program: read one by one, or refused -/
def TkK (H : Hp) (v : V) (t : Tk) : Prop := ∃ a, v = .ref a ∧ H a = some (.tup [.int (t.1 : Nat), .str t.2])
theorem TkK.moved {H H' : Hp} (s : Tups H H') {v : V} {t : Tk} (h : TkK H v t) : TkK H' v t := by
  obtain ⟨a, e, h1⟩ := h
  exact ⟨a, e, s _ _ h1⟩
theorem str_nil {z : Str} (e : z.cps.toList = []) : z = "" := by
  obtain ⟨a⟩ := z
  have e' : a.toList = [] := e
  show (⟨a⟩ : Str) = ⟨#[]⟩
  rw [← Array.toArray_toList (xs := a), e']
theorem not_blank {c : Nat} (nc : c ≠ 32) : decide (V.str (⟨#[c]⟩ : Str) = V.str " ") = false := decide_eq_false (fun e => by
  injection e with e
  rw [show (" " : Str) = ⟨#[32]⟩ by decide +kernel] at e
  have e' : (#[c] : Array Nat) = #[32] := congrArg PySem.Str.cps e
  have e2 : [c] = [32] := congrArg Array.toList e'
  injection e2 with e2
  exact nc e2)
/-- where the parts end: the last one is empty, no other is, none is long -/
def Ends (ts : List Tk) : Prop := ∃ ps n, ts = ps ++ [(n, ("" : Str))] ∧ ∀ p ∈ ps, p.2 ≠ ("" : Str) ∧ p.2.length ≤ 900
theorem Ends.cons {ts : List Tk} (e : Ends ts) : ∃ t r, ts = t :: r := by
  obtain ⟨ps, n, rfl, _⟩ := e
  cases ps with
  | nil => exact ⟨_, _, rfl⟩
  | cons p ps => exact ⟨_, _, rfl⟩
theorem Ends.short {t : Tk} {r : List Tk} (e : Ends (t :: r)) : t.2.length ≤ 900 := by
  obtain ⟨ps, k, h, a⟩ := e
  cases ps with
  | nil =>
    cases h
    exact Nat.zero_le 900
  | cons p ps =>
    cases h
    exact (a t List.mem_cons_self).2
theorem Ends.next {t : Tk} {r : List Tk} (e : Ends (t :: r)) (n : t.2 ≠ "") : Ends r := by
  obtain ⟨ps, k, h, a⟩ := e
  cases ps with
  | nil =>
    cases h
    exact absurd rfl n
  | cons p ps =>
    cases h
    exact ⟨ps, k, rfl, fun q m => a q (List.mem_cons_of_mem _ m)⟩
theorem Ends.last {t : Tk} {r : List Tk} (e : Ends (t :: r)) (n : t.2 = "") : r = [] := by
  obtain ⟨ps, k, h, a⟩ := e
  cases ps with
  | nil =>
    cases h
    rfl
  | cons p ps =>
    cases h
    exact absurd n (a t List.mem_cons_self).1
theorem Ends.ne {t : Tk} {r : List Tk} (e : Ends (t :: r)) (n : t.2 ≠ "") : ∃ u r', r = u :: r' := (e.next n).cons
theorem size_wS (w : List Nat) : (wS w).length = w.length := List.size_toArray
theorem tksM_ends {z : Str} (l9 : z.length ≤ 900) (asc : ∀ c ∈ z.cps.toList, c < 128) : Ends (tksM z) := by
  have ok := fold_ok asc z.cps.toList.length (Nat.le_refl _)
  rw [List.take_length] at ok
  have zz : z.cps.toList.length = z.length := Array.length_toList
  refine ⟨_, _, rfl, fun p m => ?_⟩
  obtain ⟨f, mf, rfl⟩ := List.mem_map.mp m
  have h1 := ok.ne f mf
  have h2 := ok.le f mf
  refine ⟨fun e => ?_, ?_⟩
  · have e2 : (wS f.1).length = 0 := by
      rw [show wS f.1 = "" from e]
      rfl
    rw [size_wS] at e2
    exact h1 (List.length_eq_zero_iff.mp e2)
  · show (wS f.1).length ≤ 900
    rw [size_wS]
    omega
section
variable {P : Program} {w : World} {K : PySem.W.Frag} {mg : Str → Option Value} {base : Heap} {C CB fIB : Addr} {fdIB : FuncData}
def spPartsX : Sp := fun vs H Q _ => ∃ (z : Str), vs = [.str z] ∧ z.length ≤ 900 ∧ (∀ c ∈ z.cps.toList, c < 128) ∧
  ∀ (l : Addr) (us : List V) (H' : Hp), H l = none → Same H H' → H' l = some (.lst us) → Each (TkK H') us (tksM z) → Q (.ref l) H'
theorem has_partsX (b : Blt mg) (hP : Has P w K mg base CX0 1 "part_end" sPartEnd ["text", "at"] spPartEnd) (a : AtE K mg "parts_of" sPartsOf ["text"]) : Has P w K mg base CX0 2 "parts_of" sPartsOf ["text"] spPartsX := by
  obtain ⟨f, fd, a⟩ := a
  obtain ⟨fPe, fdPe, aPe, GPe⟩ := hP
  refine ⟨f, fd, a, a.fn.ok scPartsOf (fun vs H Q E h => ?_) (fun cdv A outer s H vs Q E hr1 h => ?_)⟩
  · obtain ⟨z, rfl, _⟩ := h
    rfl
  · obtain ⟨z, rfl, z1, asc, k⟩ := h
    refine ⟨_,
    (pss_cons (ps_set (i := 1) scPartsOf.nd rfl (.inl rfl) (pe_lst pa_nil))
    (pss_cons (ps_set (i := 2) scPartsOf.nd rfl (.inl rfl) pe_int)
    (pss_cons (ps_while PassesOwn.never (pt_cmpR op_lt (pv 2) (pe_callB call_len_str (by rfl) b.len PySem.boot_len (pa_cons (pv 0) pa_nil)) (nomark _))
      (pss_cons (ps_set (i := 3) scPartsOf.nd rfl (.inl rfl) (pe_call GPe hr1 rfl aPe.gl aPe.fn.kp aPe.bd .nil pass0 (pa_cons (pv 0) (pa_cons (pv 2) pa_nil))))
      (pss_cons (ps_if (pt_cmpR op_ne (pe_ix ix_str (pv 0) (pv 2) fun _ _ => rfl) pe_str (nomark _))
        (pss_one (ps_expr (pe_bm PySem.F.plainAttrs_list PySem.F.slot_list_append PySem.F.type_list_append mt_append (pv 1) (pa_cons (pe_tup (pa_cons (pv 2) (pa_cons (pe_slice sl_str (pv 0) (po_some (pv 2)) (po_some (pv 3))) pa_nil))) pa_nil))))
        pss_nil)
      (pss_one (ps_set (i := 2) scPartsOf.nd rfl (.inl rfl) (pv 3))))))
    (pss_cons (ps_expr (pe_bm PySem.F.plainAttrs_list PySem.F.slot_list_append PySem.F.type_list_append mt_append (pv 1) (pa_cons (pe_tup (pa_cons (pe_callB call_len_str (by rfl) b.len PySem.boot_len (pa_cons (pv 0) pa_nil)) (pa_cons pe_str pa_nil))) pa_nil)))
    (pss_one (ps_ret (pv 1))))))), ?_⟩
    have zl : z.length ≤ sizeLine := Nat.le_trans z1 (by decide)
    have zz : z.cps.toList.length = z.length := Array.length_toList
    refine ⟨by show 0 ≤ sizeLine; decide, fun L hL => ?_⟩
    dsimp only [gName, tSeq]
    refine while_by (fun σ H' => ∃ (x : Option V) (m : Nat) (us : List V), σ = [some (.str z), some (.ref L), some (.int (m : Nat)), x] ∧ Same H H' ∧ m ≤ z.length ∧ H' L = some (.lst us) ∧ Each (TkK H') us ((foldT [] 0 (z.cps.toList.take m)).map tkOf) ∧ FreeT (foldT [] 0 (z.cps.toList.take m)) m (z.cps.toList.drop m))
      (fun σ _ => match σ with | [_, _, some (.int m), _] => z.length - m.toNat | _ => 0) ⟨none, 0, [], rfl, same_new hL, Nat.zero_le _, upd_same, .nil, fun c h => rfl⟩ ?_ ?_
    · rintro σ H1 ⟨x, m, us, rfl, s1, lm, h1, eu, fr⟩
      have okm := fold_ok asc m (by rw [zz]; exact lm)
      have lus : us.length ≤ 900 := by
        rw [eu.len, List.length_map]
        have := okm.few
        omega
      refine ⟨_, rfl, _, rfl, z, rfl, zl, _, _, rfl, rfl, _, rfl, ?_⟩
      by_cases q : m < z.length
      · rw [decide_eq_true (show ((m : Nat) : Int) < ((z.length : Nat) : Int) by omega)]
        obtain ⟨c, gc, dc⟩ := text_at q
        refine iteT ⟨_, rfl, _, rfl, z, m, rfl, z1, q, fun H2 s2 => ?_⟩
        have h2 := s2 _ _ h1
        have eu2 : Each (TkK H2) us _ := eu.mono fun _ _ y => y.moved (same_tups s2)
        have s12 := s1.trans s2
        refine ⟨_, rfl, _, rfl, _, _, c, rfl, rfl, zl, atI_nat gc, rfl, _, rfl, ?_⟩
        have et : z.cps.toList.take (m + 1) = z.cps.toList.take m ++ [c] := by rw [List.take_add_one, gc]; rfl
        have lt : (z.cps.toList.take m).length = m := by rw [List.length_take, zz]; omega
        by_cases nb : c = 32
        · subst nb
          have e1 : partLen (z.cps.toList.drop m) = 1 := by rw [dc]; exact blank_len _
          rw [show decide (V.str (⟨#[32]⟩ : Str) = V.str " ") = true by decide +kernel, e1]
          have ef : foldT [] 0 (z.cps.toList.take (m + 1)) = foldT [] 0 (z.cps.toList.take m) := by
            rw [et, foldT_app, lt, Nat.zero_add]
            show stepT _ m 32 = _
            rw [step_free (fr 32 (by rw [dc]; rfl)), if_pos rfl]
          refine iteF ⟨_, rfl, ⟨_, m + 1, us, rfl, s12, q, h2, by rw [ef]; exact eu2, ?_⟩, ?_⟩
          · intro d hd
            rw [ef]
            unfold joinsT
            cases g : (foldT [] 0 (z.cps.toList.take m)).getLast? with
            | none => rfl
            | some f =>
              have := okm.le f (List.mem_of_getLast? g)
              show (decide (f.2 + f.1.length = m + 1) && _) = false
              rw [decide_eq_false (by omega)]
              rfl
          · show z.length - ((m + 1 : Nat) : Int).toNat < z.length - ((m : Nat) : Int).toNat
            omega
        · rw [not_blank nb]
          obtain ⟨tk, pos⟩ := part_tok (cs := z.cps.toList.drop (m + 1)) nb
          rw [← dc] at tk pos
          generalize eP : partLen (z.cps.toList.drop m) = p at tk pos
          have lw : ((z.cps.toList.drop m).take p).length = p := by
            have := tk.len
            rw [List.take_append_drop, eP] at this
            exact this.symm
          have lmp : m + p ≤ z.length := by
            rw [List.length_take, List.length_drop, zz] at lw
            omega
          have etk : z.cps.toList.take (m + p) = z.cps.toList.take m ++ (z.cps.toList.drop m).take p := by
            rw [← List.take_append_drop m z.cps.toList, List.take_append]
            rw [lt, Nat.add_sub_cancel_left, List.take_of_length_le (by rw [lt]; omega)]
            rw [List.take_append_drop]
          have edr : z.cps.toList.drop (m + p) = (z.cps.toList.drop m).drop p := by rw [List.drop_drop]
          obtain ⟨ef, fr'⟩ := fold_tok (fs := foldT [] 0 (z.cps.toList.take m)) (i := m) tk (by rw [List.take_append_drop]; exact fr)
          have ecut : cutS z (some ((m : Nat) : Int)) (some ((m + p : Nat) : Int)) = wS ((z.cps.toList.drop m).take p) := by
            rw [cut_mid z (Nat.le_add_right _ _) lmp, Nat.add_sub_cancel_left]
          refine iteT ?_
          refine ⟨_, rfl, .inl ⟨rfl, _, SqL.of h2⟩, ?_⟩
          refine ⟨_, rfl, _, rfl, _, rfl, _, rfl, _, rfl, _, rfl, z, rfl, zl, by show 2 ≤ sizeLine; decide, fun T hT => ?_⟩
          rw [ecut]
          have sT := same_new (o := HO.tup [.int (m : Nat), .str (wS ((z.cps.toList.drop m).take p))]) hT
          have h3 := sT _ _ h2
          have t4 := tups_lst (ys := us ++ [.ref T]) h3
          refine ⟨L, _, _, rfl, rfl, h3, lt_line (by omega), ?_⟩
          refine ⟨_, rfl, ⟨_, m + p, us ++ [.ref T], rfl, same_put (s12.trans sT) hL, lmp, upd_same, ?_, ?_⟩, ?_⟩
          · rw [etk, foldT_app, lt, Nat.zero_add, ef, List.map_append]
            exact (eu2.mono fun _ _ y => y.moved ((same_tups sT).trans t4)).snoc ⟨T, rfl, t4 _ _ upd_same⟩
          · rw [etk, foldT_app, lt, Nat.zero_add, ef, edr]
            rw [lw] at fr'
            exact fr'
          · show z.length - ((m + p : Nat) : Int).toNat < z.length - ((m : Nat) : Int).toNat
            omega
      · rw [decide_eq_false (show ¬ ((m : Nat) : Int) < ((z.length : Nat) : Int) by omega)]
        have em : m = z.length := by omega
        subst em
        refine iteF ?_
        refine ⟨_, rfl, .inl ⟨rfl, _, SqL.of h1⟩, ?_⟩
        refine ⟨_, rfl, z, rfl, zl, by show 2 ≤ sizeLine; decide, fun T hT => ?_⟩
        have sT := same_new (o := HO.tup [.int (z.length : Nat), .str ""]) hT
        have h3 := sT _ _ h1
        have t4 := tups_lst (ys := us ++ [.ref T]) h3
        refine ⟨L, _, _, rfl, rfl, h3, lt_line (by omega), ?_⟩
        refine ⟨_, rfl, k L (us ++ [.ref T]) _ hL (same_put (s1.trans sT) hL) upd_same ?_⟩
        rw [List.take_of_length_le (by rw [zz]; exact Nat.le_refl _)] at eu
        exact (eu.mono fun _ _ y => y.moved ((same_tups sT).trans t4)).snoc ⟨T, rfl, t4 _ _ upd_same⟩
    · intro σ H Q Q' im h
      obtain ⟨v, e, v2, e2, z', e3, l', i', j', e4, e5, kk', e6, rest⟩ := h
      exact ⟨v, e, v2, e2, z', e3, l', i', j', e4, e5, kk', e6, im _ _ rest⟩
end
end VQ
namespace VQ
open PySem L2 LamX
/-! ### the reader's parts: what is left -/
def PR (C : Addr) (H : Hp) (p : PId) (ts : List Tk) : Prop := ∃ us k, H p.x = some (.ins C p.dx (pf p.l ((k : Nat) : Int))) ∧ H p.l = some (.lst us) ∧ Each (TkK H) (us.drop k) ts
theorem PR.same {C : Addr} {H H' : Hp} {p : PId} {ts : List Tk} (h : PR C H p ts) (s : Same H H') : PR C H' p ts := by
  obtain ⟨us, k, h1, h2, h3⟩ := h
  exact ⟨us, k, s _ _ h1, s _ _ h2, h3.mono fun _ _ z => z.moved (same_tups s)⟩
theorem PR.upd {C : Addr} {H : Hp} {p : PId} {ts : List Tk} {a : Addr} {xs ys : List V} (h : PR C H p ts) (ha : H a = some (.lst xs)) (al : a ≠ p.l) : PR C (upd H a (.lst ys)) p ts := by
  obtain ⟨us, k, h1, h2, h3⟩ := h
  refine ⟨us, k, ?_, ?_, h3.mono fun _ _ z => z.moved (tups_lst ha)⟩
  · rw [upd_ne (fun e => by rw [← e, h1] at ha; cases ha)]
    exact h1
  · rw [upd_ne al.symm]
    exact h2
theorem PR.first {C : Addr} {H : Hp} {p : PId} {t : Tk} {r : List Tk} (h : PR C H p (t :: r)) : ∃ us k a, H p.x = some (.ins C p.dx (pf p.l ((k : Nat) : Int))) ∧ H p.l = some (.lst us) ∧ us[k]? = some (.ref a) ∧ H a = some (.tup [.int (t.1 : Nat), .str t.2]) ∧ Each (TkK H) (us.drop (k + 1)) r := by
  obtain ⟨us, k, h1, h2, h3⟩ := h
  generalize e : us.drop k = ws at h3
  cases h3 with
  | @cons v x vs xs hv ht =>
    obtain ⟨a, rfl, ha⟩ := hv
    have lt : k < us.length := by
      apply Nat.lt_of_not_le
      intro q
      rw [List.drop_of_length_le q] at e
      cases e
    rw [List.drop_eq_getElem_cons lt] at e
    injection e with e1 e2
    exact ⟨us, k, a, h1, h2, by rw [List.getElem?_eq_getElem lt, e1], ha, by rw [e2]; exact ht⟩
/-- refused at a place -/
def RefT (CB : Addr) (H : Hp) (E : XK) (n : Nat) : Prop := ∀ d, H d = none → E (.ref CB) (some d) (upd H d (.xd (atFs (.int ((n : Nat) : Int)))))
def RefO (CB : Addr) (x : Addr) (H : Hp) (E : XK) (n : Nat) : Prop := ∀ H', Off x H H' → RefT CB H' E n
theorem RefO.off {CB x : Addr} {H H1 : Hp} {E : XK} {n : Nat} (h : RefO CB x H E n) (o : Off x H H1) : RefO CB x H1 E n := fun H' o' => h H' (o.trans o')
theorem RefO.now {CB x : Addr} {H : Hp} {E : XK} {n : Nat} (h : RefO CB x H E n) : RefT CB H E n := h H (Off.of (Same.refl _))
theorem no_this {l : Addr} {j : Int} : (pf l j).lookup ("this" : Str) = none := pf_no _ _ (by decide +kernel) (by decide +kernel)
theorem no_need {l : Addr} {j : Int} : (pf l j).lookup ("need" : Str) = none := pf_no _ _ (by decide +kernel) (by decide +kernel)
theorem no_behind {l : Addr} {j : Int} : (pf l j).lookup ("behind" : Str) = none := pf_no _ _ (by decide +kernel) (by decide +kernel)
theorem no_read {l : Addr} {j : Int} : (pf l j).lookup ("read" : Str) = none := pf_no _ _ (by decide +kernel) (by decide +kernel)
theorem no_sign {l : Addr} {j : Int} : (pf l j).lookup ("read_sign" : Str) = none := pf_no _ _ (by decide +kernel) (by decide +kernel)
/-- a method that stands and keeps a promise, at any exceptions -/
def HasX (P : Program) (w : World) (K : PySem.W.Frag) (mg : Str → Option Value) (base : Heap) (CX : CXT) (k : Nat) (C : Addr) (m : Str) (ps : List Str) (sp : Sp) : Prop := ∃ f fd, Meth K C m f ∧ Binds K fd ps [] ∧ FnOk P w K mg base CX k f fd ps sp
section
variable {P : Program} {w : World} {K : PySem.W.Frag} {mg : Str → Option Value} {base : Heap} {C CB fIB : Addr} {fdIB : FuncData}
def spThisR (C : Addr) : Sp := fun vs H Q _ => ∃ (p : PId) (t : Tk) (r : List Tk), vs = [.ref p.x] ∧ PR C H p (t :: r) ∧ Q (.str t.2) H
theorem ok_thisR {f : Addr} {fd : FuncData} (F : Fun K "this" "Parts.this" sPartsThis f fd) (T : PCls K C) : FnOk P w K mg base CX0 1 f fd ["self"] (spThisR C) := by
  refine F.ok scPartsThis (fun vs H Q E h => ?_) (fun cdv A outer s H vs Q E hr h => ?_)
  · obtain ⟨p, t, r, rfl, _⟩ := h
    rfl
  · obtain ⟨p, t, r, rfl, pa, q⟩ := h
    obtain ⟨us, k, a, hx, hl, e, ha, _⟩ := pa.first
    refine ⟨_, (pss_one (ps_ret (pe_ix ix_tup (pe_ix ix_list (pe_fld (pv 0) rfl) (pe_fld (pv 0) rfl) fun _ _ => rfl) pe_int fun _ _ => rfl))), ?_⟩
    refine ⟨_, rfl, p.x, C, p.dx, _, _, rfl, hx, T.cl, T.nF, pf_found _ _, ?_⟩
    refine ⟨_, rfl, p.x, C, p.dx, _, _, rfl, hx, T.cl, T.nP, pf_passed _ _, ?_⟩
    exact ⟨p.l, _, _, _, rfl, rfl, SqL.of hl, atI_nat e, a, _, _, _, rfl, rfl, SqT.of ha, atI_nat (j := 1) rfl, q⟩
def spBehindR (C : Addr) : Sp := fun vs H Q _ => ∃ (p : PId) (t : Tk) (r : List Tk), vs = [.ref p.x] ∧ PR C H p (t :: r) ∧ (t.2 ≠ "" → r ≠ []) ∧ Q (.str (if t.2 = "" then "" else (r.headD (0, "")).2)) H
theorem ok_behindR {f fTh : Addr} {fd fdTh : FuncData} (F : Fun K "behind" "Parts.behind" sPartsBehind f fd) (T : PCls K C) (mTh : Meth K C "this" fTh) (bTh : Binds K fdTh ["self"] []) (GTh : FnOk P w K mg base CX0 1 fTh fdTh ["self"] (spThisR C)) : FnOk P w K mg base CX0 2 f fd ["self"] (spBehindR C) := by
  refine F.ok scPartsBehind (fun vs H Q E h => ?_) (fun cdv A outer s H vs Q E hr1 h => ?_)
  · obtain ⟨p, t, r, rfl, _⟩ := h
    rfl
  · obtain ⟨p, t, r, rfl, pa, more, q⟩ := h
    obtain ⟨us, k, a, hx, hl, e, ha, er⟩ := pa.first
    refine ⟨_, (pss_one (ps_ret (pe_ifExp (pt_cmpR op_eq (pe_meth0 (pv 0) T.cl mTh GTh hr1 bTh .nil pass0) pe_str (nomark _)) pe_str (pe_ix ix_tup (pe_ix ix_list (pe_fld (pv 0) rfl) (pe_op op_add (pe_fld (pv 0) rfl) pe_int) fun _ _ => rfl) pe_int fun _ _ => rfl)))), ?_⟩
    refine ⟨_, rfl, p.x, p.dx, _, rfl, hx, no_this, p, t, r, rfl, pa, rfl, _, rfl, ?_⟩
    by_cases e0 : t.2 = ""
    · rw [decide_eq_true (by rw [e0])]
      rw [if_pos e0] at q
      exact iteT q
    · rw [decide_eq_false (fun z => e0 (by injection z))]
      rw [if_neg e0] at q
      cases r with
      | nil => exact absurd rfl (more e0)
      | cons u r' =>
        generalize ew : us.drop (k + 1) = ws at er
        cases er with
        | @cons v x vs xs hv ht =>
          obtain ⟨a2, rfl, ha2⟩ := hv
          have lt : k + 1 < us.length := by
            apply Nat.lt_of_not_le
            intro q
            rw [List.drop_of_length_le q] at ew
            cases ew
          rw [List.drop_eq_getElem_cons lt] at ew
          injection ew with e1 e2
          refine iteF ⟨_, rfl, p.x, C, p.dx, _, _, rfl, hx, T.cl, T.nF, pf_found _ _, ?_⟩
          refine ⟨_, rfl, p.x, C, p.dx, _, _, rfl, hx, T.cl, T.nP, pf_passed _ _, _, _, rfl, rfl, ?_⟩
          exact ⟨p.l, _, _, _, rfl, rfl, SqL.of hl, atI_nat (j := k + 1) (by rw [List.getElem?_eq_getElem lt, e1]), a2, _, _, _, rfl, rfl, SqT.of ha2, atI_nat (j := 1) rfl, q⟩
def spNeedR (C CB : Addr) : Sp := fun vs H Q E => ∃ (p : PId) (t : Tk) (r : List Tk) (f : Bool), vs = [.ref p.x, .bl f] ∧ PR C H p (t :: r) ∧ (f = true → Q .non H) ∧ (f = false → RefT CB H E t.1)
theorem ok_needR {f : Addr} {fd : FuncData} (F : Fun K "need" "Parts.need" sPartsNeed f fd) (T : PCls K C) (EBadText : ErrF K mg CB fIB fdIB) : FnOk P w K mg base (L2.CX P w) 3 f fd ["self", "fits"] (spNeedR C CB) := by
  have GIBadText : FnOk P w K mg base CX0 1 fIB fdIB ["self", "at"] (spErrF CB) := ok_errF EBadText
  refine F.okX scPartsNeed (fun vs H Q E h => ?_) (fun cdv A outer s H vs Q E hr h => ?_)
  · obtain ⟨p, t, r, f, rfl, _⟩ := h
    rfl
  · obtain ⟨p, t, r, f, rfl, pa, q1, q2⟩ := h
    obtain ⟨us, k, a, hx, hl, e, ha, er⟩ := pa.first
    refine ⟨_, (pss_one (ps_if (pt_not (pt_val (pv 1))) (pss_one (ps_raise rfl (takes_of rfl rfl rfl rfl) (pmk_oex EBadText.ox EBadText.it EBadText.ty GIBadText hr EBadText.bd .nil pass0 rfl EBadText.gl (pa_cons (pe_ix ix_tup (pe_ix ix_list (pe_fld (pv 0) rfl) (pe_fld (pv 0) rfl) fun _ _ => rfl) pe_int fun _ _ => rfl) pa_nil)))) pss_nil)), ?_⟩
    refine ⟨_, rfl, _, rfl, ?_⟩
    cases f with
    | true => exact iteF (q1 rfl)
    | false =>
      refine iteT ?_
      refine ⟨_, rfl, p.x, C, p.dx, _, _, rfl, hx, T.cl, T.nF, pf_found _ _, ?_⟩
      refine ⟨_, rfl, p.x, C, p.dx, _, _, rfl, hx, T.cl, T.nP, pf_passed _ _, ?_⟩
      refine ⟨p.l, _, _, _, rfl, rfl, SqL.of hl, atI_nat e, a, _, _, _, rfl, rfl, SqT.of ha, atI_nat (j := 0) rfl, by show 1 ≤ 1000; decide, raise_at fun d hd => q2 rfl d hd⟩
def spReadR (C CB : Addr) : Sp := fun vs H Q E => ∃ (p : PId) (t : Tk) (r : List Tk) (f : Bool), vs = [.ref p.x, .bl f] ∧ PR C H p (t :: r) ∧ (f = true → ∀ H', Off p.x H H' → PR C H' p r → Q (.str t.2) H') ∧ (f = false → RefT CB H E t.1)
theorem ok_readR {f fTh fNe : Addr} {fd fdTh fdNe : FuncData} (F : Fun K "read" "Parts.read" sPartsRead f fd) (T : PCls K C) (mTh : Meth K C "this" fTh) (bTh : Binds K fdTh ["self"] []) (GTh : FnOk P w K mg base CX0 1 fTh fdTh ["self"] (spThisR C))
    (mNe : Meth K C "need" fNe) (bNe : Binds K fdNe ["self", "fits"] []) (GNe : FnOk P w K mg base (L2.CX P w) 3 fNe fdNe ["self", "fits"] (spNeedR C CB)) : FnOk P w K mg base (L2.CX P w) 4 f fd ["self", "fits"] (spReadR C CB) := by
  refine F.okX scPartsRead (fun vs H Q E h => ?_) (fun cdv A outer s H vs Q E hr3 h => ?_)
  · obtain ⟨p, t, r, f, rfl, _⟩ := h
    rfl
  · obtain ⟨p, t, r, f, rfl, pa, q1, q2⟩ := h
    have hr1 : Room 1 _ := hr3.mono (by decide)
    obtain ⟨us, k, a, hx, hl, e, ha, er⟩ := pa.first
    refine ⟨_, (pss_cons (ps_expr (pe_meth (pv 0) T.cl mNe GNe hr3 bNe .nil (passes_call (takes_of rfl rfl rfl rfl) (fun _ _ _ _ h => h)) (pa_cons (pv 1) pa_nil)))
      (pss_cons (ps_set (i := 2) scPartsRead.nd rfl (.inl rfl) (pe_meth0 (pv 0) T.cl mTh GTh hr1 bTh .nil pass0))
      (pss_cons (ps_fldaug (pv 0) pe_int in_add) (pss_one (ps_ret (pv 2)))))), ?_⟩
    refine ⟨_, rfl, p.x, p.dx, _, rfl, hx, no_need, _, rfl, p, t, r, f, rfl, pa, fun ef => ?_, fun ef => q2 ef⟩
    refine ⟨_, rfl, p.x, p.dx, _, rfl, hx, no_this, p, t, r, rfl, pa, ?_⟩
    refine ⟨_, rfl, p.x, C, p.dx, _, _, rfl, hx, T.cl, T.nP, pf_passed _ _, _, _, rfl, rfl, _, _, hx, Nat.lt_of_le_of_lt (Nat.le_trans (putF_few _ _ _) (Nat.succ_le_succ (putF_few _ _ _))) (by decide), ?_⟩
    rw [pf_put]
    refine ⟨_, rfl, q1 ef _ Off.upd ?_⟩
    have tt : Tups H (upd H p.x (.ins C p.dx (pf p.l ((k : Nat) + 1)))) := fun a xs ha => by
      rw [upd_ne (fun e => by rw [e, hx] at ha; cases ha)]
      exact ha
    refine ⟨us, k + 1, upd_same, ?_, er.mono fun _ _ z => z.moved tt⟩
    rw [upd_ne (fun e => by rw [e, hx] at hl; cases hl)]
    exact hl
def spReadSignR (C CB : Addr) : Sp := fun vs H Q E => ∃ (p : PId) (t : Tk) (r : List Tk) (z : Str), vs = [.ref p.x, .str z] ∧ PR C H p (t :: r) ∧ (t.2 = z → ∀ H', Off p.x H H' → PR C H' p r → Q (.str t.2) H') ∧ (t.2 ≠ z → RefT CB H E t.1)
theorem ok_readsignR {f fTh fRd : Addr} {fd fdTh fdRd : FuncData} (F : Fun K "read_sign" "Parts.read_sign" sPartsReadSign f fd) (T : PCls K C) (mTh : Meth K C "this" fTh) (bTh : Binds K fdTh ["self"] []) (GTh : FnOk P w K mg base CX0 1 fTh fdTh ["self"] (spThisR C))
    (mRd : Meth K C "read" fRd) (bRd : Binds K fdRd ["self", "fits"] []) (GRd : FnOk P w K mg base (L2.CX P w) 4 fRd fdRd ["self", "fits"] (spReadR C CB)) : FnOk P w K mg base (L2.CX P w) 5 f fd ["self", "sign"] (spReadSignR C CB) := by
  refine F.okX scPartsReadSign (fun vs H Q E h => ?_) (fun cdv A outer s H vs Q E hr4 h => ?_)
  · obtain ⟨p, t, r, z, rfl, _⟩ := h
    rfl
  · obtain ⟨p, t, r, z, rfl, pa, q1, q2⟩ := h
    have hr1 : Room 1 _ := hr4.mono (by decide)
    obtain ⟨us, k, a, hx, hl, e, ha, er⟩ := pa.first
    refine ⟨_, (pss_one (ps_ret (pe_meth (pv 0) T.cl mRd GRd hr4 bRd .nil (passes_call (takes_of rfl rfl rfl rfl) (fun _ _ _ _ h => h)) (pa_cons (pe_cmpR op_eq (pe_meth0 (pv 0) T.cl mTh GTh hr1 bTh .nil pass0) (pv 1) (nomark _)) pa_nil)))), ?_⟩
    refine ⟨_, rfl, p.x, p.dx, _, rfl, hx, no_read, ?_⟩
    refine ⟨_, rfl, p.x, p.dx, _, rfl, hx, no_this, p, t, r, rfl, pa, _, rfl, rfl, ?_⟩
    refine ⟨p, t, r, decide (V.str t.2 = V.str z), rfl, pa, fun e => q1 ?_, fun e => q2 ?_⟩
    · have := of_decide_eq_true e
      injection this
    · have := of_decide_eq_false e
      exact fun h => this (by rw [h])
/-- the methods, put together -/
structure RMeth (P : Program) (w : World) (K : PySem.W.Frag) (mg : Str → Option Value) (base : Heap) (C CB : Addr) : Prop where
  T : PCls K C
  th : HasX P w K mg base CX0 1 C "this" ["self"] (spThisR C)
  be : HasX P w K mg base CX0 2 C "behind" ["self"] (spBehindR C)
  ne : HasX P w K mg base (L2.CX P w) 3 C "need" ["self", "fits"] (spNeedR C CB)
  rd : HasX P w K mg base (L2.CX P w) 4 C "read" ["self", "fits"] (spReadR C CB)
  rg : HasX P w K mg base (L2.CX P w) 5 C "read_sign" ["self", "sign"] (spReadSignR C CB)
def spPInitR (C : Addr) : Sp := fun vs H Q _ => ∃ (x dx : Addr) (z : Str), vs = [.ref x, .str z] ∧ H x = some (.ins C dx []) ∧ z.length ≤ 900 ∧ (∀ c ∈ z.cps.toList, c < 128) ∧ ∀ (l : Addr) (H' : Hp), Off x H H' → H l = none → PR C H' ⟨x, dx, l⟩ (tksM z) → Q .non H'
theorem ok_pinitR {f : Addr} {fd : FuncData} (F : Fun K "__init__" "Parts.__init__" sPartsInit f fd) (T : PCls K C) (hP : Has P w K mg base CX0 2 "parts_of" sPartsOf ["text"] spPartsX) : FnOk P w K mg base CX0 3 f fd ["self", "text"] (spPInitR C) := by
  obtain ⟨fPf, fdPf, aPf, GPf⟩ := hP
  refine F.ok scPartsInit (fun vs H Q E h => ?_) (fun cdv A outer s H vs Q E hr2 h => ?_)
  · obtain ⟨x, dx, z, rfl, _⟩ := h
    rfl
  · obtain ⟨x, dx, z, rfl, hx, z9, asc, k⟩ := h
    refine ⟨_, (pss_cons (ps_fld (pv 0) (pe_call GPf hr2 rfl aPf.gl aPf.fn.kp aPf.bd .nil pass0 (pa_cons (pv 1) pa_nil)) rfl) (pss_one (ps_fld (pv 0) pe_int rfl))), ?_⟩
    refine ⟨_, rfl, z, rfl, z9, asc, fun l us H1 nl s1 hl eu => ?_⟩
    have hx1 := s1 _ _ hx
    refine ⟨_, rfl, x, C, dx, [], rfl, hx1, T.cl, T.nF, by decide, ?_⟩
    refine ⟨_, rfl, x, C, dx, _, rfl, upd_same, T.cl, T.nP, Nat.lt_of_le_of_lt (putF_few _ _ _) (by decide), ?_⟩
    have xl : l ≠ x := (ne_of_none hx nl).symm
    have tt : Tups H1 (upd (upd H1 x (.ins C dx (putF "found" (.ref l) []))) x (.ins C dx (putF "passed" (.int 0) (putF "found" (.ref l) [])))) := fun a xs ha => by
      have ne : a ≠ x := fun e => by
        rw [e, hx1] at ha
        cases ha
      rw [upd_ne ne, upd_ne ne]
      exact ha
    refine k l _ (fun a o ne ha => ?_) nl ⟨us, 0, upd_same, ?_, eu.mono fun _ _ y => y.moved tt⟩
    · rw [upd_ne ne, upd_ne ne]
      exact s1 _ _ ha
    · rw [upd_ne xl, upd_ne xl]
      exact hl
end
end VQ
namespace VQ
open PySem L2 LamX
/-! ### names and terms read, or refused -/
theorem name_ne {m : Nat} {z : Str} (h : NameS m z) : z ≠ "" := fun e => h.ne (by rw [e]; decide +kernel)
theorem nameOk_ne {zs : List Str} {z : Str} (h : nameOk zs z = true) : z ≠ "" := name_ne (nameOk_word h).1
section
variable {P : Program} {w : World} {K : PySem.W.Frag} {mg : Str → Option Value} {base : Heap} {C CB aB : Addr}
def spReadNameR (C CB : Addr) : Sp := fun vs H Q E => ∃ (p : PId) (t : Tk) (r : List Tk) (n : Addr) (zs : List Str), vs = [.ref p.x, .ref n] ∧ PR C H p (t :: r) ∧ Ends (t :: r) ∧ H n = some (.lst (zs.map V.str)) ∧ zs.length ≤ 5 ∧
  (nameOk zs t.2 = true → ∀ (q : Addr) (H' : Hp), Off p.x H H' → H q = none → H' q = some (.lst ((zs ++ [t.2]).map V.str)) → PR C H' p r → Q (.ref q) H') ∧ (nameOk zs t.2 = false → RefO CB p.x H E t.1)
theorem has_readnameR (b : Blt mg) (W : Wq K mg aB) (M : RMeth P w K mg base C CB) (hNm : Has P w K mg base CX0 1 "is_name" sIsName ["thing", "most"] spIsNameX) (a : AtE K mg "read_name" sReadName ["parts", "names"]) : Has P w K mg base (L2.CX P w) 6 "read_name" sReadName ["parts", "names"] (spReadNameR C CB) := by
  obtain ⟨f, fd, a⟩ := a
  obtain ⟨T, ⟨fTh, fdTh, mTh, bTh, GTh⟩, _, _, ⟨fRd, fdRd, mRd, bRd, GRd⟩, _⟩ := M
  obtain ⟨fNm, fdNm, aNm, GNm⟩ := hNm
  obtain ⟨tmn, Wmn⟩ := W.mn
  obtain ⟨tmp, Wmp⟩ := W.mp
  refine ⟨f, fd, a, a.fn.okX scReadName (fun vs H Q E h => ?_) (fun cdv A outer s H vs Q E hr5 h => ?_)⟩
  · obtain ⟨p, t, r, n, zs, rfl, _⟩ := h
    rfl
  · obtain ⟨p, t, r, n, zs, rfl, pa, en, hn, z5, q1, q2⟩ := h
    have hr1 : Room 1 _ := hr5.mono (by decide)
    have hr4 : Room 4 _ := hr5.mono (by decide)
    obtain ⟨us, kk, a0, hx, hl, e0, ha0, er⟩ := pa.first
    refine ⟨_,
    (pss_cons (ps_set (i := 2) scReadName.nd rfl (.inl rfl) (pe_and (pe_call GNm hr1 rfl aNm.gl aNm.fn.kp aNm.bd .nil pass0 (pa_cons (pe_meth0 (pv 0) T.cl mTh GTh hr1 bTh .nil pass0) (pa_cons (pe_glob (v := .int 4) rfl Wmn ⟨_, rfl⟩) pa_nil))) (pe_and (pe_cmpR op_notIn_seq (pe_meth0 (pv 0) T.cl mTh GTh hr1 bTh .nil pass0) (pv 1) rfl) (pe_one (pe_cmpR op_lt (pe_callB call_len_seq (by rfl) b.len PySem.boot_len (pa_cons (pv 1) pa_nil)) (pe_glob (v := .int 5) rfl Wmp ⟨_, rfl⟩) (nomark _))))))
    (pss_one (ps_ret (pe_lst (StX.pa_star (pv 1) (pa_cons (pe_meth (pv 0) T.cl mRd GRd hr4 bRd .nil (passes_call (takes_of rfl rfl rfl rfl) (fun _ _ _ _ h => h)) (pa_cons (pv 2) pa_nil)) pa_nil)))))), ?_⟩
    have fin : ∀ (H1 : Hp), Same H H1 → ∀ (bb : Bool), bb = nameOk zs t.2 → tRet (tLst (StX.tStar K (tVar 1) (tCons (tMeth C "read" (spReadR C CB) [] E (tVar 0) (tCons (tVar 2) tNil)) tNil))) { nx := fun _ H' => Q .non H', rt := Q } [some (.ref p.x), some (.ref n), some (.bl bb)] H1 := fun H1 s1 bb eb => by
      have pa1 := pa.same s1
      have hn1 := s1 _ _ hn
      refine ⟨_, rfl, n, _, rfl, .inr (SqL.of hn1), ?_⟩
      refine ⟨_, rfl, p.x, p.dx, _, rfl, s1 _ _ hx, no_read, _, rfl, p, t, r, bb, rfl, pa1, fun et H2 o2 pa2 => ?_, fun et => ?_⟩
      · refine ⟨by rw [List.length_append, List.length_map]; exact Nat.le_of_lt (lt_line (by show zs.length + 1 < 1000; omega)), fun D hD => ?_⟩
        have sD := same_new (o := HO.lst (zs.map V.str ++ [.str t.2])) hD
        have hx2 : ∃ o, H2 p.x = some o := by
          obtain ⟨_, _, h, _⟩ := pa2
          exact ⟨_, h⟩
        obtain ⟨ox, hx2⟩ := hx2
        have nxD : D ≠ p.x := (ne_of_none hx2 hD).symm
        refine q1 (eb.symm.trans et) D _ (fun a o ne h => sD _ _ (o2 _ _ ne (s1 _ _ h))) (s1.free (o2.free nxD hD)) ?_ (pa2.same sD)
        rw [List.map_append]
        exact upd_same
      · exact (q2 (eb.symm.trans et)).off (Off.of s1) |>.now
    refine ⟨_, rfl, p.x, p.dx, _, rfl, hx, no_this, p, t, r, rfl, pa, ?_⟩
    refine ⟨t.2, 4, rfl, en.short, fun H1 s1 => ?_⟩
    have pa1 := pa.same s1
    have hn1 := s1 _ _ hn
    unfold nameOk at fin
    cases nb : nameB 4 t.2 with
    | false =>
      rw [nb] at fin
      exact ⟨_, rfl, iteF (fin H1 s1 false rfl)⟩
    | true =>
      rw [nb] at fin
      refine ⟨_, rfl, iteT ?_⟩
      refine ⟨_, rfl, p.x, p.dx, _, rfl, s1 _ _ hx, no_this, p, t, r, rfl, pa1, ?_⟩
      refine ⟨_, rfl, n, _, rfl, .inl (SqL.of hn1), rfl, strs_flat _, _, rfl, ?_⟩
      rw [inV_str]
      cases nin : decide (t.2 ∈ zs) with
      | true =>
        rw [nin] at fin
        exact iteF (fin H1 s1 false rfl)
      | false =>
        rw [nin] at fin
        refine iteT ⟨_, rfl, n, _, rfl, .inl (SqL.of hn1), _, _, rfl, rfl, ?_⟩
        refine fin H1 s1 _ ?_
        rw [List.length_map]
        show decide (((zs.length : Nat) : Int) < 5) = decide (zs.length < 5)
        exact decide_eq_decide.mpr (by omega)
def spReadNamesR (C CB : Addr) : Sp := fun vs H Q E => ∃ (p : PId) (ts : List Tk) (n : Addr) (zs : List Str), vs = [.ref p.x, .ref n] ∧ PR C H p ts ∧ Ends ts ∧ H n = some (.lst (zs.map V.str)) ∧ zs.length ≤ 5 ∧
  (∀ ws r, namesM zs ts = .ok (ws, r) → ∀ (q : Addr) (H' : Hp), Off p.x H H' → H q = none → H' q = some (.lst (ws.map V.str)) → PR C H' p r → Ends r → ws.length ≤ 5 → Q (.ref q) H') ∧ (∀ m, namesM zs ts = .error m → RefO CB p.x H E m)
theorem has_readnamesR (b : Blt mg) (M : RMeth P w K mg base C CB) (hIw : Has P w K mg base CX0 1 "is_word" sIsWord ["part"] spIsWord) (hRn : Has P w K mg base (L2.CX P w) 6 "read_name" sReadName ["parts", "names"] (spReadNameR C CB)) (a : AtE K mg "read_names" sReadNames ["parts", "names"]) : Has P w K mg base (L2.CX P w) 7 "read_names" sReadNames ["parts", "names"] (spReadNamesR C CB) := by
  obtain ⟨f, fd, a⟩ := a
  obtain ⟨T, ⟨fTh, fdTh, mTh, bTh, GTh⟩, _, _, _, _⟩ := M
  obtain ⟨fIw, fdIw, aIw, GIw⟩ := hIw
  obtain ⟨fRn, fdRn, aRn, GRn⟩ := hRn
  refine ⟨f, fd, a, a.fn.okX scReadNames (fun vs H Q E h => ?_) (fun cdv A outer s H vs Q E hr6 h => ?_)⟩
  · obtain ⟨p, ts, n, zs, rfl, _⟩ := h
    rfl
  · obtain ⟨p, ts, n, zs, rfl, pa, en, hn, z5, q1, q2⟩ := h
    have hr1 : Room 1 _ := hr6.mono (by decide)
    refine ⟨_,
    (pss_cons (ps_set (i := 1) scReadNames.nd rfl (.inl rfl) (pe_call GRn hr6 rfl aRn.gl aRn.fn.kp aRn.bd .nil (passes_call (takes_of rfl rfl rfl rfl) (fun _ _ _ _ h => h)) (pa_cons (pv 0) (pa_cons (pv 1) pa_nil))))
    (pss_cons (ps_while (passes_of rfl) (PW.pt (pw_and (pt_val (pe_call GIw hr1 rfl aIw.gl aIw.fn.kp aIw.bd .nil pass0 (pa_cons (pe_meth0 (pv 0) T.cl mTh GTh hr1 bTh .nil pass0) pa_nil))) (pw_and1 (pt_cmpR op_ne (pe_meth0 (pv 0) T.cl mTh GTh hr1 bTh .nil pass0) pe_str (nomark _)))))
      (pss_one (ps_set (i := 1) scReadNames.nd rfl (.inl rfl) (pe_call GRn hr6 rfl aRn.gl aRn.fn.kp aRn.bd .nil (passes_call (takes_of rfl rfl rfl rfl) (fun _ _ _ _ h => h)) (pa_cons (pv 0) (pa_cons (pv 1) pa_nil))))))
    (pss_one (ps_ret (pv 1))))), ?_⟩
    obtain ⟨t0, r0, rfl⟩ := en.cons
    rw [namesM_cons] at q1 q2
    refine ⟨_, rfl, _, rfl, p, t0, r0, n, zs, rfl, pa, en, hn, z5, fun ok D H1 o1 nD hD pa1 => ?_, fun no => ?_⟩
    · rw [if_pos ok] at q1 q2
      have en1 := en.next (nameOk_ne ok)
      have z5' := (nameOk_word ok).2.2
      dsimp only [gName, tSeq]
      refine ⟨fun m σ' H' => ∃ (D' : Addr) (xs : List Str) (rest : List Tk), m = rest.length ∧ σ' = [some (.ref p.x), some (.ref D')] ∧ Off p.x H H' ∧ H D' = none ∧ H' D' = some (.lst (xs.map V.str)) ∧ xs.length ≤ 5 ∧ PR C H' p rest ∧ Ends rest ∧ moreM (zs ++ [t0.2]) r0 = moreM xs rest, ⟨_, D, _, r0, rfl, rfl, o1, nD, hD, by rw [List.length_append]; exact z5', pa1, en1, rfl⟩, ?_⟩
      rintro m σ' H2 ⟨D', xs, rest, rfl, rfl, o2, nD', hD', x5, pa2, en2, em⟩
      obtain ⟨t, r, rfl⟩ := en2.cons
      obtain ⟨us, kk, a0, hx, hl, e0, ha0, er⟩ := pa2.first
      rw [em] at q1 q2
      have fin : goOn t.2 = false → Q (.ref D') H2 := fun g => by
        have e : moreM xs (t :: r) = .ok (xs, t :: r) := by
          unfold moreM
          rw [if_neg (by rw [g]; exact Bool.false_ne_true)]
        exact q1 _ _ e D' H2 o2 nD' hD' pa2 en2 x5
      refine ⟨_, rfl, p.x, p.dx, _, rfl, hx, no_this, p, t, r, rfl, pa2, ?_⟩
      refine ⟨t.2, rfl, en2.short, _, rfl, ?_⟩
      cases wb : wordB t.2 with
      | false => exact iteF ⟨_, rfl, fin (by unfold goOn; rw [wb]; rfl)⟩
      | true =>
        refine iteT ⟨_, rfl, p.x, p.dx, _, rfl, hx, no_this, p, t, r, rfl, pa2, ?_⟩
        refine ⟨rfl, _, rfl, ?_⟩
        by_cases es : t.2 = "some"
        · rw [decide_eq_true (show V.str t.2 = V.str "some" by rw [es])]
          exact iteF ⟨_, rfl, fin (by rw [es]; exact not_go_some)⟩
        · rw [decide_eq_false (show ¬ V.str t.2 = V.str "some" from fun e => es (by injection e))]
          have go : goOn t.2 = true := by
            unfold goOn
            rw [wb, decide_eq_false es]
            rfl
          have e : moreM xs (t :: r) = if nameOk xs t.2 = true then moreM (xs ++ [t.2]) r else .error t.1 := by
            show (if goOn t.2 = true then _ else _) = _
            rw [if_pos go]
          rw [e] at q1 q2
          refine iteT ⟨_, fun _ _ h => h, ?_⟩
          refine ⟨_, rfl, _, rfl, p, t, r, D', xs, rfl, pa2, en2, hD', x5, fun ok2 D2 H3 o3 nD2 hD2 pa3 => ?_, fun no2 => ?_⟩
          · have nx : D2 ≠ p.x := (ne_of_none hx nD2).symm
            refine ⟨r.length, Nat.lt_succ_self _, D2, xs ++ [t.2], r, rfl, rfl, o2.trans o3, o2.free nx nD2, hD2, by rw [List.length_append]; exact (nameOk_word ok2).2.2, pa3, en2.next (nameOk_ne ok2), ?_⟩
            rw [em, e, if_pos ok2]
          · rw [if_neg (by rw [no2]; exact Bool.false_ne_true)] at q2
            exact (q2 _ rfl).off o2
    · rw [if_neg (by rw [no]; exact Bool.false_ne_true)] at q2
      exact q2 _ rfl
def spReadTermR (C CB : Addr) : Sp := fun vs H Q E => ∃ (p : PId) (t : Tk) (r : List Tk) (n : Addr) (zs : List Str), vs = [.ref p.x, .ref n] ∧ PR C H p (t :: r) ∧ H n = some (.lst (zs.map V.str)) ∧
  (∀ x, termM zs t.2 = some x → ∀ (H' : Hp), Off p.x H H' → PR C H' p r → Q (termV x) H') ∧ (termM zs t.2 = none → RefO CB p.x H E t.1)
theorem has_readtermR (b : Blt mg) (W : Wq K mg aB) (M : RMeth P w K mg base C CB) (a : AtE K mg "read_term" sReadTerm ["parts", "names"]) : Has P w K mg base (L2.CX P w) 5 "read_term" sReadTerm ["parts", "names"] (spReadTermR C CB) := by
  obtain ⟨f, fd, a⟩ := a
  obtain ⟨T, ⟨fTh, fdTh, mTh, bTh, GTh⟩, _, _, ⟨fRd, fdRd, mRd, bRd, GRd⟩, _⟩ := M
  obtain ⟨two, Wwo⟩ := W.wo
  refine ⟨f, fd, a, a.fn.okX scReadTerm (fun vs H Q E h => ?_) (fun cdv A outer s H vs Q E hr4 h => ?_)⟩
  · obtain ⟨p, t, r, n, zs, rfl, _⟩ := h
    rfl
  · obtain ⟨p, t, r, n, zs, rfl, pa, hn, q1, q2⟩ := h
    have hr1 : Room 1 _ := hr4.mono (by decide)
    obtain ⟨us, kk, a0, hx, hl, e0, ha0, er⟩ := pa.first
    refine ⟨_,
    (pss_cons (ps_if (pt_cmpR op_in_seq (pe_meth0 (pv 0) T.cl mTh GTh hr1 bTh .nil pass0) (pv 1) rfl)
      (pss_one (ps_ret (pe_meth (pv 0) T.cl mRd GRd hr4 bRd .nil (passes_call (takes_of rfl rfl rfl rfl) (fun _ _ _ _ h => h)) (pa_cons pe_bl pa_nil))))
      pss_nil)
    (pss_one (ps_ret (pe_callTy call_int_str (by rfl) b.int (by decide +kernel) (pa_cons (pe_meth (pv 0) T.cl mRd GRd hr4 bRd .nil (passes_call (takes_of rfl rfl rfl rfl) (fun _ _ _ _ h => h)) (pa_cons (pe_cmpR op_in_seq (pe_meth0 (pv 0) T.cl mTh GTh hr1 bTh .nil pass0) (pe_lc (own := [("worth", 2)]) (g := (gName 2)) (tt := tYes) (te := (tCB rStrI (tCons (tVar 2) tNil))) rfl scReadTerm.nd (pi_range1 rfl b.range (pa_cons (pe_glob (v := .int 32) rfl Wwo ⟨_, rfl⟩) pa_nil)) (blkOk_by (N := nReadTerm) (sc := defScope sReadTerm) (by decide +kernel)) (fun _ _ _ _ _ => (pg_name (i := 2) scReadTerm.nd rfl (.inl rfl))) (fun _ _ _ _ _ => pts_nil) (fun _ _ _ _ _ => (pe_callTy call_str_int (by rfl) b.str (by decide +kernel) (pa_cons (pv 2) pa_nil)))) rfl) pa_nil)) pa_nil))))), ?_⟩
    refine ⟨_, rfl, p.x, p.dx, _, rfl, hx, no_this, p, t, r, rfl, pa, ?_⟩
    refine ⟨_, rfl, n, _, rfl, .inl (SqL.of hn), rfl, strs_flat _, _, rfl, ?_⟩
    rw [inV_str]
    unfold termM at q1 q2
    by_cases mz : t.2 ∈ zs
    · rw [decide_eq_true mz]
      rw [if_pos mz] at q1
      exact iteT ⟨_, rfl, p.x, p.dx, _, rfl, hx, no_read, p, t, r, true, rfl, pa, fun _ H1 o1 pa1 => q1 _ rfl H1 o1 pa1, fun z => by cases z⟩
    · rw [decide_eq_false mz]
      rw [if_neg mz] at q1 q2
      refine iteF ?_
      refine ⟨_, rfl, p.x, p.dx, _, rfl, hx, no_read, ?_⟩
      refine ⟨_, rfl, p.x, p.dx, _, rfl, hx, no_this, p, t, r, rfl, pa, ?_⟩
      refine ⟨_, rfl, by omega, by omega, fun D hD => ?_⟩
      refine lc_rangeS (lo := 0) (n := 32) (fun i acc _ => acc = ((List.range i).map numS).map V.str) hD (by decide) (fun _ _ _ _ _ h => h) rfl ?_ ?_
      · rintro j acc H1 hj s1 h1 rfl k1 k2 y1 y2
        refine ⟨rfl, yes_turn ⟨_, rfl, _, rfl, ?_, y1 _ _ (Same.refl _) ?_⟩⟩
        · have : ∀ j, j < 32 → ((0 : Int) + ((j : Nat) : Int)).natAbs.log2 < 1920 := by decide +kernel
          exact this j hj
        · rw [List.range_succ, List.map_append, List.map_append]
          show _ ++ [V.str (toString ((0 : Int) + ((j : Nat) : Int)))] = _
          rw [Int.zero_add]
          rfl
      · rintro acc H1 s1 h1 rfl
        have pa1 := pa.same s1
        refine ⟨D, _, rfl, .inl (SqL.of h1), rfl, strs_flat _, ?_⟩
        rw [inV_str]
        cases nm : numM t.2 with
        | none =>
          rw [nm] at q2
          have no := numM_none nm
          refine ⟨p, t, r, _, rfl, pa1, fun e => ?_, fun _ => (q2 rfl).off (Off.of s1) |>.now⟩
          obtain ⟨k, mk, ek⟩ := List.mem_map.mp (of_decide_eq_true e)
          exact absurd ek.symm (no k (List.mem_range.mp mk))
        | some k =>
          rw [nm] at q1
          obtain ⟨lk, ek⟩ := numM_some nm
          obtain ⟨l2, _, _, it⟩ := nums_dig k lk
          refine ⟨p, t, r, _, rfl, pa1, fun _ H2 o2 pa2 => ?_, fun e => ?_⟩
          · exact ⟨t.2, _, rfl, by rw [ek]; exact it, by rw [ek]; omega, q1 _ rfl H2 (fun a o ne h => o2 _ _ ne (s1 _ _ h)) pa2⟩
          · exact absurd (List.mem_map.mpr ⟨k, List.mem_range.mpr lk, ek.symm⟩) (of_decide_eq_false e)
end
end VQ
namespace VQ
open PySem L2 LamX
/-! ### ties and pairs read, or refused -/
abbrev rTupOf (K : PySem.W.Frag) : List V → Hp → VK → Prop := fun xs H Q => ∃ p ys, xs = [.ref p] ∧ ((SqL K H p ys ∧ ∀ l, H l = none → Q (.ref l) (upd H l (.tup ys))) ∨ (SqT K H p ys ∧ Q (.ref p) H))
theorem PR.x {C : Addr} {H : Hp} {p : PId} {ts : List Tk} (h : PR C H p ts) : ∃ k : Nat, H p.x = some (.ins C p.dx (pf p.l ((k : Nat) : Int))) := by
  obtain ⟨us, k, h1, _⟩ := h
  exact ⟨k, h1⟩
theorem PR.li {C : Addr} {H : Hp} {p : PId} {ts : List Tk} (h : PR C H p ts) : ∃ us, H p.l = some (.lst us) := by
  obtain ⟨us, k, _, h2, _⟩ := h
  exact ⟨us, h2⟩
theorem pairM_no1 {zs : List Str} {t : Tk} {r : List Tk} (n : t.2 ∉ zs) : pairM zs (t :: r) = .error t.1 := by
  match r with
  | [] => exact if_neg n
  | [u] => exact if_neg n
  | u :: v :: r => exact if_neg n
theorem pairM_no2 {zs : List Str} {t u : Tk} {r : List Tk} (y : t.2 ∈ zs) (n : u.2 ≠ "<") : pairM zs (t :: u :: r) = .error u.1 := by
  match r with
  | [] => exact (if_pos y).trans (if_neg n)
  | v :: r => exact (if_pos y).trans (if_neg n)
theorem tieM_no1 {zs : List Str} {t : Tk} {r : List Tk} (n : nameB 8 t.2 = false) : tieM zs (t :: r) = .error t.1 := by
  have n' : ¬ nameB 8 t.2 = true := by rw [n]; exact Bool.false_ne_true
  match r with
  | [] => exact if_neg n'
  | [u] => exact if_neg n'
  | u :: v :: r => exact if_neg n'
theorem tieM_no2 {zs : List Str} {t u : Tk} {r : List Tk} (y : nameB 8 t.2 = true) (n : u.2 ≠ "(") : tieM zs (t :: u :: r) = .error u.1 := by
  match r with
  | [] => exact (if_pos y).trans (if_neg n)
  | v :: r => exact (if_pos y).trans (if_neg n)
theorem afterM_close {zs : List Str} {k : Nat} {acc : List Term} {u : Tk} {r : List Tk} (e : u.2 = ")") : afterM zs k acc (u :: r) = .ok (acc, r) := by
  cases k with
  | zero => exact if_pos e
  | succ k => exact if_pos e
theorem afterM_bad {zs : List Str} {k : Nat} {acc : List Term} {u : Tk} {r : List Tk} (n : u.2 ≠ ")") (c : u.2 ≠ "," ∨ k = 0) : afterM zs k acc (u :: r) = .error u.1 := by
  cases k with
  | zero => exact if_neg n
  | succ k => exact (if_neg n).trans (if_neg (c.resolve_right (Nat.succ_ne_zero k)))
theorem comma_close {u : Tk} (e : u.2 = ",") : u.2 ≠ ")" := by
  rw [e]
  decide +kernel
theorem afterM_more {zs : List Str} {k : Nat} {acc : List Term} {u t : Tk} {r : List Tk} (e : u.2 = ",") : afterM zs (k + 1) acc (u :: t :: r) = match termM zs t.2 with
    | none => .error t.1
    | some x => afterM zs k (acc ++ [x]) r := (if_neg (comma_close e)).trans (if_pos e)
theorem term_ne {zs : List Str} {z : Str} {x : Term} (nz : ∀ y ∈ zs, y ≠ "") (h : termM zs z = some x) : z ≠ "" := fun e => by
  unfold termM at h
  by_cases m : z ∈ zs
  · exact nz z m e
  · rw [if_neg m] at h
    cases f : numM z with
    | none => rw [f] at h; cases h
    | some k =>
      obtain ⟨l, ek⟩ := numM_some f
      have := (nums_dig k l).2.1
      rw [← ek, e] at this
      exact this (by decide +kernel)
section
variable {P : Program} {w : World} {K : PySem.W.Frag} {mg : Str → Option Value} {base : Heap} {C CB aB : Addr}
def spReadPairR (C CB : Addr) : Sp := fun vs H Q E => ∃ (p : PId) (ts : List Tk) (n : Addr) (zs : List Str), vs = [.ref p.x, .ref n] ∧ PR C H p ts ∧ Ends ts ∧ H n = some (.lst (zs.map V.str)) ∧ (∀ y ∈ zs, y ≠ "") ∧
  (∀ pr r, pairM zs ts = .ok (pr, r) → ∀ (v : V) (H' : Hp), Off p.x H H' → PR C H' p r → Ends r → PairAt H' v pr → Q v H') ∧ (∀ m, pairM zs ts = .error m → RefO CB p.x H E m)
theorem has_readpairR (b : Blt mg) (M : RMeth P w K mg base C CB) (a : AtE K mg "read_pair" sReadPair ["parts", "names"]) : Has P w K mg base (L2.CX P w) 6 "read_pair" sReadPair ["parts", "names"] (spReadPairR C CB) := by
  obtain ⟨f, fd, a⟩ := a
  obtain ⟨T, ⟨fTh, fdTh, mTh, bTh, GTh⟩, _, _, ⟨fRd, fdRd, mRd, bRd, GRd⟩, ⟨fRg, fdRg, mRg, bRg, GRg⟩⟩ := M
  refine ⟨f, fd, a, a.fn.okX scReadPair (fun vs H Q E h => ?_) (fun cdv A outer s H vs Q E hr5 h => ?_)⟩
  · obtain ⟨p, ts, n, zs, rfl, _⟩ := h
    rfl
  · obtain ⟨p, ts, n, zs, rfl, pa, en, hn, nz, q1, q2⟩ := h
    have hr1 : Room 1 _ := hr5.mono (by decide)
    have hr4 : Room 4 _ := hr5.mono (by decide)
    obtain ⟨t, r0, rfl⟩ := en.cons
    obtain ⟨kk, hx⟩ := pa.x
    have nn : n ≠ p.x := fun z => by
      rw [z, hx] at hn
      cases hn
    refine ⟨_,
    (pss_cons (ps_set (i := 2) scReadPair.nd rfl (.inl rfl) (pe_meth (pv 0) T.cl mRd GRd hr4 bRd .nil (passes_call (takes_of rfl rfl rfl rfl) (fun _ _ _ _ h => h)) (pa_cons (pe_cmpR op_in_seq (pe_meth0 (pv 0) T.cl mTh GTh hr1 bTh .nil pass0) (pv 1) rfl) pa_nil)))
    (pss_cons (ps_expr (pe_meth (pv 0) T.cl mRg GRg hr5 bRg .nil (passes_call (takes_of rfl rfl rfl rfl) (fun _ _ _ _ h => h)) (pa_cons pe_str pa_nil)))
    (pss_cons (ps_set (i := 3) scReadPair.nd rfl (.inl rfl) (pe_meth (pv 0) T.cl mRd GRd hr4 bRd .nil (passes_call (takes_of rfl rfl rfl rfl) (fun _ _ _ _ h => h)) (pa_cons (pe_and (pe_cmpR op_in_seq (pe_meth0 (pv 0) T.cl mTh GTh hr1 bTh .nil pass0) (pv 1) rfl) (pe_one (pe_cmpR op_ne (pe_meth0 (pv 0) T.cl mTh GTh hr1 bTh .nil pass0) (pv 2) (nomark _)))) pa_nil)))
    (pss_one (ps_ret (pe_tup (pa_cons (pv 2) (pa_cons (pv 3) pa_nil)))))))), ?_⟩
    refine ⟨_, rfl, p.x, p.dx, _, rfl, hx, no_read, ?_⟩
    refine ⟨_, rfl, p.x, p.dx, _, rfl, hx, no_this, p, t, r0, rfl, pa, ?_⟩
    refine ⟨_, rfl, n, _, rfl, .inl (SqL.of hn), rfl, strs_flat _, ?_⟩
    rw [inV_str]
    refine ⟨p, t, r0, _, rfl, pa, fun m1 H1 o1 pa1 => ?_, fun m1 => (q2 _ (pairM_no1 (of_decide_eq_false m1))).now⟩
    have m1 := of_decide_eq_true m1
    have en1 := en.next (nz _ m1)
    obtain ⟨u, r1, rfl⟩ := en1.cons
    obtain ⟨k1, hx1⟩ := pa1.x
    have hn1 := o1 _ _ nn hn
    refine ⟨_, rfl, p.x, p.dx, _, rfl, hx1, no_sign, p, u, r1, "<", rfl, pa1, fun eu H2 o2 pa2 => ?_, fun nu => ((q2 _ (pairM_no2 m1 nu)).off o1).now⟩
    have en2 := en1.next (by rw [eu]; decide +kernel)
    obtain ⟨v, r2, rfl⟩ := en2.cons
    obtain ⟨k2, hx2⟩ := pa2.x
    have hn2 := o2 _ _ nn hn1
    have em : pairM zs (t :: u :: v :: r2) = if v.2 ∈ zs ∧ v.2 ≠ t.2 then .ok ((t.2, v.2), r2) else .error v.1 := by
      rw [pairM_cons, if_pos m1, if_pos eu]
    rw [em] at q1 q2
    refine ⟨_, rfl, p.x, p.dx, _, rfl, hx2, no_read, ?_⟩
    refine ⟨_, rfl, p.x, p.dx, _, rfl, hx2, no_this, p, v, r2, rfl, pa2, ?_⟩
    refine ⟨_, rfl, n, _, rfl, .inl (SqL.of hn2), rfl, strs_flat _, _, rfl, ?_⟩
    rw [inV_str]
    by_cases m2 : v.2 ∈ zs
    · rw [decide_eq_true m2]
      refine iteT ⟨_, rfl, p.x, p.dx, _, rfl, hx2, no_this, p, v, r2, rfl, pa2, ?_⟩
      refine ⟨_, rfl, rfl, ?_⟩
      by_cases ne : v.2 = t.2
      · rw [decide_eq_true (show V.str v.2 = V.str t.2 by rw [ne])]
        rw [if_neg (fun h => h.2 ne)] at q2
        exact ⟨p, v, r2, false, rfl, pa2, fun z => (by cases z), fun _ => ((q2 _ rfl).off (o1.trans o2)).now⟩
      · rw [decide_eq_false (show ¬ V.str v.2 = V.str t.2 from fun z => ne (by injection z))]
        rw [if_pos ⟨m2, ne⟩] at q1
        refine ⟨p, v, r2, true, rfl, pa2, fun _ H3 o3 pa3 => ?_, fun z => (by cases z)⟩
        refine ⟨_, rfl, _, rfl, by show 2 ≤ sizeLine; decide, fun D hD => ?_⟩
        have sD := same_new (o := HO.tup [.str t.2, .str v.2]) hD
        exact q1 _ _ rfl _ _ (fun a o ne h => sD _ _ (o3 _ _ ne (o2 _ _ ne (o1 _ _ ne h)))) (pa3.same sD) (en2.next (nz _ m2)) ⟨D, rfl, upd_same⟩
    · rw [decide_eq_false m2]
      rw [if_neg (fun h => m2 h.1)] at q2
      exact iteF ⟨p, v, r2, false, rfl, pa2, fun z => (by cases z), fun _ => ((q2 _ rfl).off (o1.trans o2)).now⟩
def spReadTieR (C CB : Addr) : Sp := fun vs H Q E => ∃ (p : PId) (ts : List Tk) (n : Addr) (zs : List Str), vs = [.ref p.x, .ref n] ∧ PR C H p ts ∧ Ends ts ∧ H n = some (.lst (zs.map V.str)) ∧ (∀ y ∈ zs, y ≠ "") ∧
  (∀ x r, tieM zs ts = .ok (x, r) → ∀ (v : V) (H' : Hp), Off p.x H H' → PR C H' p r → Ends r → TieAt H' v x → Q v H') ∧ (∀ m, tieM zs ts = .error m → RefO CB p.x H E m)
theorem has_readtieR (b : Blt mg) (W : Wq K mg aB) (M : RMeth P w K mg base C CB) (hNm : Has P w K mg base CX0 1 "is_name" sIsName ["thing", "most"] spIsNameX) (hRt : Has P w K mg base (L2.CX P w) 5 "read_term" sReadTerm ["parts", "names"] (spReadTermR C CB)) (a : AtE K mg "read_tie" sReadTie ["parts", "names"]) : Has P w K mg base (L2.CX P w) 6 "read_tie" sReadTie ["parts", "names"] (spReadTieR C CB) := by
  obtain ⟨f, fd, a⟩ := a
  obtain ⟨T, ⟨fTh, fdTh, mTh, bTh, GTh⟩, _, _, ⟨fRd, fdRd, mRd, bRd, GRd⟩, ⟨fRg, fdRg, mRg, bRg, GRg⟩⟩ := M
  obtain ⟨fNm, fdNm, aNm, GNm⟩ := hNm
  obtain ⟨fRt, fdRt, aRt, GRt⟩ := hRt
  obtain ⟨tml, Wml⟩ := W.ml
  obtain ⟨tmw, Wmw⟩ := W.mw
  refine ⟨f, fd, a, a.fn.okX scReadTie (fun vs H Q E h => ?_) (fun cdv A outer s H vs Q E hr5 h => ?_)⟩
  · obtain ⟨p, ts, n, zs, rfl, _⟩ := h
    rfl
  · obtain ⟨p, ts, n, zs, rfl, pa, en, hn, nz, q1, q2⟩ := h
    have hr1 : Room 1 _ := hr5.mono (by decide)
    have hr4 : Room 4 _ := hr5.mono (by decide)
    obtain ⟨t, r0, rfl⟩ := en.cons
    obtain ⟨kk, hx⟩ := pa.x
    have nn : n ≠ p.x := fun z => by
      rw [z, hx] at hn
      cases hn
    refine ⟨_,
    (pss_cons (ps_set (i := 2) scReadTie.nd rfl (.inl rfl) (pe_meth (pv 0) T.cl mRd GRd hr4 bRd .nil (passes_call (takes_of rfl rfl rfl rfl) (fun _ _ _ _ h => h)) (pa_cons (pe_call GNm hr1 rfl aNm.gl aNm.fn.kp aNm.bd .nil pass0 (pa_cons (pe_meth0 (pv 0) T.cl mTh GTh hr1 bTh .nil pass0) (pa_cons (pe_glob (v := .int 8) rfl Wml ⟨_, rfl⟩) pa_nil))) pa_nil)))
    (pss_cons (ps_expr (pe_meth (pv 0) T.cl mRg GRg hr5 bRg .nil (passes_call (takes_of rfl rfl rfl rfl) (fun _ _ _ _ h => h)) (pa_cons pe_str pa_nil)))
    (pss_cons (ps_set (i := 3) scReadTie.nd rfl (.inl rfl) (pe_lst (pa_cons (pe_call GRt hr5 rfl aRt.gl aRt.fn.kp aRt.bd .nil (passes_call (takes_of rfl rfl rfl rfl) (fun _ _ _ _ h => h)) (pa_cons (pv 0) (pa_cons (pv 1) pa_nil))) pa_nil)))
    (pss_cons (ps_while (passes_of rfl) (PW.pt (pw_and (pt_cmpR op_eq (pe_meth0 (pv 0) T.cl mTh GTh hr1 bTh .nil pass0) pe_str (nomark _)) (pw_and1 (pt_cmpR op_lt (pe_callB call_len_seq (by rfl) b.len PySem.boot_len (pa_cons (pv 3) pa_nil)) (pe_glob (v := .int 4) rfl Wmw ⟨_, rfl⟩) (nomark _)))))
      (pss_cons (ps_expr (pe_meth (pv 0) T.cl mRg GRg hr5 bRg .nil (passes_call (takes_of rfl rfl rfl rfl) (fun _ _ _ _ h => h)) (pa_cons pe_str pa_nil)))
      (pss_one (ps_expr (pe_bm PySem.F.plainAttrs_list PySem.F.slot_list_append PySem.F.type_list_append mt_append (pv 3) (pa_cons (pe_call GRt hr5 rfl aRt.gl aRt.fn.kp aRt.bd .nil (passes_call (takes_of rfl rfl rfl rfl) (fun _ _ _ _ h => h)) (pa_cons (pv 0) (pa_cons (pv 1) pa_nil))) pa_nil))))))
    (pss_cons (ps_expr (pe_meth (pv 0) T.cl mRg GRg hr5 bRg .nil (passes_call (takes_of rfl rfl rfl rfl) (fun _ _ _ _ h => h)) (pa_cons pe_str pa_nil)))
    (pss_one (ps_ret (pe_tup (pa_cons (pv 2) (pa_cons (pe_callTy call_tuple_of (by rfl) b.tuple (by decide +kernel) (pa_cons (pv 3) pa_nil)) pa_nil)))))))))), ?_⟩
    refine ⟨_, rfl, p.x, p.dx, _, rfl, hx, no_read, ?_⟩
    refine ⟨_, rfl, p.x, p.dx, _, rfl, hx, no_this, p, t, r0, rfl, pa, ?_⟩
    refine ⟨t.2, 8, rfl, en.short, fun H1 s1 => ?_⟩
    have pa1 := pa.same s1
    refine ⟨p, t, r0, _, rfl, pa1, fun nb H2 o2 pa2 => ?_, fun nb => ((q2 _ (tieM_no1 nb)).off (Off.of s1)).now⟩
    have o02 : Off p.x H H2 := (Off.of s1).trans o2
    have en2 := en.next (name_ne (nameB_iff.mp nb))
    obtain ⟨u, r1, rfl⟩ := en2.cons
    obtain ⟨k2, hx2⟩ := pa2.x
    refine ⟨_, rfl, p.x, p.dx, _, rfl, hx2, no_sign, p, u, r1, "(", rfl, pa2, fun eu H3 o3 pa3 => ?_, fun nu => ((q2 _ (tieM_no2 nb nu)).off o02).now⟩
    have o03 := o02.trans o3
    have en3 := en2.next (by rw [eu]; decide +kernel)
    obtain ⟨v, r2, rfl⟩ := en3.cons
    have em := tieM_cons zs t u v r2
    rw [if_pos nb, if_pos eu] at em
    rw [em] at q1 q2
    have hn3 := o03 _ _ nn hn
    refine ⟨_, rfl, _, rfl, p, v, r2, n, zs, rfl, pa3, hn3, fun x0 e0 H4 o4 pa4 => ?_, fun e0 => ?_⟩
    · rw [e0] at q1 q2
      dsimp only at q1 q2
      have en4 := en3.next (term_ne nz e0)
      have o04 := o03.trans o4
      obtain ⟨k4, hx4⟩ := pa4.x
      refine ⟨by show 1 ≤ sizeLine; decide, fun L hL => ?_⟩
      have Lx : L ≠ p.x := (ne_of_none hx4 hL).symm
      have hL0 : H L = none := o04.free Lx hL
      have Ln : L ≠ n := (ne_of_none hn hL0).symm
      have Ll : L ≠ p.l := by
        obtain ⟨_, h1⟩ := pa.li
        exact (ne_of_none h1 hL0).symm
      dsimp only [gName, tSeq]
      refine ⟨fun m σ' H' => ∃ (acc : List Term) (k : Nat) (rest : List Tk), m = rest.length ∧ σ' = [some (.ref p.x), some (.ref n), some (.str t.2), some (.ref L)] ∧ Off p.x H H' ∧ H' L = some (.lst (acc.map termV)) ∧ acc.length + k = 4 ∧ PR C H' p rest ∧ Ends rest ∧ afterM zs 3 [x0] r2 = afterM zs k acc rest,
        ⟨_, [x0], 3, r2, rfl, rfl, off_put o04 hL0, upd_same, rfl, pa4.same (same_new hL), en4, rfl⟩, ?_⟩
      rintro m σ' H5 ⟨acc, k, rest, rfl, rfl, o5, h5, lk, pa5, en5, ea⟩
      rw [ea] at q1 q2
      obtain ⟨y, r3, rfl⟩ := en5.cons
      obtain ⟨k5, hx5⟩ := pa5.x
      have fin : (y.2 ≠ "," ∨ k = 0) → tSeq (tDrop (tMeth C "read_sign" (spReadSignR C CB) [] E (tVar 0) (tCons (tC (.str ")")) tNil))) (tRet (tTup (tCons (tVar 2) (tCons (tCB (rTupOf K) (tCons (tVar 3) tNil)) tNil)))) { nx := fun _ H' => Q .non H', rt := Q } [some (.ref p.x), some (.ref n), some (.str t.2), some (.ref L)] H5 := fun c => by
        refine ⟨_, rfl, p.x, p.dx, _, rfl, hx5, no_sign, p, y, r3, ")", rfl, pa5, fun ey H6 o6 pa6 => ?_, fun ny => ?_⟩
        · obtain ⟨k6, hx6⟩ := pa6.x
          rw [afterM_close ey] at q1
          refine ⟨_, rfl, _, rfl, L, _, rfl, .inl ⟨SqL.of (o6 _ _ Lx h5), fun D hD => ?_⟩⟩
          have Dx : D ≠ p.x := (ne_of_none hx6 hD).symm
          have sD := same_new (o := HO.tup (acc.map termV)) hD
          refine ⟨by show 2 ≤ sizeLine; decide, fun E' hE => ?_⟩
          have sE := same_new (o := HO.tup [.str t.2, .ref D]) hE
          exact q1 _ _ rfl _ _ (((o5.trans o6).trans (Off.of sD)).trans (Off.of sE)) ((pa6.same sD).same sE) (en5.next (by rw [ey]; decide +kernel)) ⟨E', D, rfl, upd_same, sE _ _ upd_same⟩
        · rw [afterM_bad ny c] at q2
          exact ((q2 _ rfl).off o5).now
      refine ⟨_, rfl, p.x, p.dx, _, rfl, hx5, no_this, p, y, r3, rfl, pa5, ?_⟩
      refine ⟨rfl, _, rfl, ?_⟩
      by_cases ey : y.2 = ","
      · rw [decide_eq_true (show V.str y.2 = V.str "," by rw [ey])]
        refine iteT ⟨_, rfl, L, _, rfl, .inl (SqL.of h5), _, _, rfl, rfl, _, rfl, ?_⟩
        cases k with
        | zero =>
          have l4 : decide ((((acc.map termV).length : Nat) : Int) < 4) = false := decide_eq_false (by rw [List.length_map]; omega)
          rw [l4]
          exact iteF (fin (.inr rfl))
        | succ k =>
          have l4 : decide ((((acc.map termV).length : Nat) : Int) < 4) = true := decide_eq_true (by rw [List.length_map]; omega)
          rw [l4]
          refine iteT ⟨_, fun _ _ h => h, ?_⟩
          have en6 := en5.next (by rw [ey]; decide +kernel)
          obtain ⟨t2, r4, rfl⟩ := en6.cons
          rw [afterM_more ey] at q1 q2
          refine ⟨_, rfl, p.x, p.dx, _, rfl, hx5, no_sign, p, y, _, ",", rfl, pa5, fun _ H6 o6 pa6 => ?_, fun ny => absurd ey ny⟩
          have h6 := o6 _ _ Lx h5
          refine ⟨_, rfl, .inl ⟨rfl, _, SqL.of h6⟩, ?_⟩
          refine ⟨_, rfl, _, rfl, p, t2, r4, n, zs, rfl, pa6, o6 _ _ nn (o5 _ _ nn hn), fun x e H7 o7 pa7 => ?_, fun e => ?_⟩
          · have h7 := o7 _ _ Lx h6
            refine ⟨L, _, _, rfl, rfl, h7, lt_line (by rw [List.length_map]; omega), ?_⟩
            refine ⟨r4.length, by show r4.length < r4.length + 1 + 1; omega, acc ++ [x], k, r4, rfl, rfl, off_put ((o5.trans o6).trans o7) hL0, ?_, by rw [List.length_append]; show acc.length + 1 + k = 4; omega, pa7.upd h7 Ll, en6.next (term_ne nz e), ?_⟩
            · rw [List.map_append]
              exact upd_same
            · rw [ea, afterM_more ey, e]
          · rw [e] at q2
            exact (q2 _ rfl).off (o5.trans o6)
      · rw [decide_eq_false (show ¬ V.str y.2 = V.str "," from fun e => ey (by injection e))]
        exact iteF (fin (.inl ey))
    · rw [e0] at q2
      exact (q2 _ rfl).off o03
end
end VQ
namespace VQ
open PySem L2 LamX
/-! ### clauses and questions read, or refused -/
theorem next_is {t : Tk} {r : List Tk} (en : Ends (t :: r)) : decide (V.str (if t.2 = "" then "" else (r.headD (0, "")).2) = V.str "<") = pairNext (t :: r) := by
  by_cases e : t.2 = ""
  · rw [if_pos e]
    have : pairNext (t :: r) = false := by
      unfold pairNext
      cases r with
      | nil => rfl
      | cons u r =>
        dsimp only
        rw [decide_eq_true e]
        rfl
    rw [this]
    decide +kernel
  · rw [if_neg e]
    obtain ⟨u, r', rfl⟩ := en.ne e
    show decide (V.str u.2 = V.str "<") = (!decide (t.2 = "") && decide (u.2 = "<"))
    rw [decide_eq_false e]
    show _ = decide (u.2 = "<")
    exact decide_eq_decide.mpr ⟨fun h => by injection h, fun h => by rw [h]⟩
theorem clausesM_step {zs : List Str} {n : Nat} {c c' : Clz} {ts : List Tk} {t : Tk} {r : List Tk} (h : clauseM zs c ts = .ok (c', t :: r)) : clausesM zs (n + 1) c ts = if t.2 = "" then .ok c' else if t.2 = "," then clausesM zs n c' r else .error t.1 := by
  conv => lhs; unfold clausesM
  rw [h]
theorem clausesM_no {zs : List Str} {n e : Nat} {c : Clz} {ts : List Tk} (h : clauseM zs c ts = .error e) : clausesM zs (n + 1) c ts = .error e := by
  conv => lhs; unfold clausesM
  rw [h]
/-- what is left behind the names -/
def tailQ (ws : List Str) (m N : Nat) (rest : List Tk) : Except Nat Qn := match colonM ws m rest with
  | .error e => .error e
  | .ok ((zs, m), r') => match clausesM zs N ([], []) r' with
    | .error e => .error e
    | .ok (ties, less) => if tiedB zs ties = true then .ok ⟨zs, m, ties, less⟩ else .error 0
theorem clauseM_pair {zs : List Str} {c : Clz} {t : Tk} {r : List Tk} (h : pairNext (t :: r) = true) : clauseM zs c (t :: r) = if c.1 ≠ [] ∧ c.2.length < 3 then (match pairM zs (t :: r) with
      | .error e => .error e
      | .ok (p, r') => .ok ((c.1, c.2 ++ [p]), r')) else .error t.1 := if_pos h
theorem clauseM_tie {zs : List Str} {c : Clz} {t : Tk} {r : List Tk} (h : pairNext (t :: r) = false) : clauseM zs c (t :: r) = if c.2 = [] ∧ c.1.length < 6 then (match tieM zs (t :: r) with
      | .error e => .error e
      | .ok (x, r') => .ok ((c.1 ++ [x], c.2), r')) else .error t.1 := if_neg (by rw [h]; exact Bool.false_ne_true)
section
variable {P : Program} {w : World} {K : PySem.W.Frag} {mg : Str → Option Value} {base : Heap} {C CB aB : Addr}
def spReadClR (C CB : Addr) : Sp := fun vs H Q E => ∃ (p : PId) (ts : List Tk) (n : Addr) (zs : List Str) (N : Nat), vs = [.ref p.x, .ref n] ∧ PR C H p ts ∧ Ends ts ∧ ts.length ≤ N ∧ H n = some (.lst (zs.map V.str)) ∧ (∀ y ∈ zs, y ≠ "") ∧
  (∀ c, clausesM zs N ([], []) ts = .ok c → ∀ (a t l : Addr) (us ws : List V) (H' : Hp), Off p.x H H' → H' a = some (.tup [.ref t, .ref l]) → H' t = some (.lst us) → H' l = some (.lst ws) → Each (TieAt H') us c.1 → Each (PairAt H') ws c.2 → COk zs c → Q (.ref a) H') ∧ (∀ m, clausesM zs N ([], []) ts = .error m → RefO CB p.x H E m)
theorem has_readclR (b : Blt mg) (W : Wq K mg aB) (M : RMeth P w K mg base C CB) (hRp : Has P w K mg base (L2.CX P w) 6 "read_pair" sReadPair ["parts", "names"] (spReadPairR C CB)) (hRi : Has P w K mg base (L2.CX P w) 6 "read_tie" sReadTie ["parts", "names"] (spReadTieR C CB)) (a : AtE K mg "read_clauses" sReadClauses ["parts", "names"]) : Has P w K mg base (L2.CX P w) 7 "read_clauses" sReadClauses ["parts", "names"] (spReadClR C CB) := by
  obtain ⟨f, fd, a⟩ := a
  obtain ⟨T, ⟨fTh, fdTh, mTh, bTh, GTh⟩, ⟨fBe, fdBe, mBe, bBe, GBe⟩, ⟨fNe, fdNe, mNe, bNe, GNe⟩, ⟨fRd, fdRd, mRd, bRd, GRd⟩, ⟨fRg, fdRg, mRg, bRg, GRg⟩⟩ := M
  obtain ⟨fRp, fdRp, aRp, GRp⟩ := hRp
  obtain ⟨fRi, fdRi, aRi, GRi⟩ := hRi
  obtain ⟨tmr, Wmr⟩ := W.mr
  obtain ⟨tmt, Wmt⟩ := W.mt
  refine ⟨f, fd, a, a.fn.okX scReadClauses (fun vs H Q E h => ?_) (fun cdv A outer s H vs Q E hr6 h => ?_)⟩
  · obtain ⟨p, ts, n, zs, N, rfl, _⟩ := h
    rfl
  · obtain ⟨p, ts, n, zs, N, rfl, pa, en, lN, hn, nz, q1, q2⟩ := h
    have hr1 : Room 1 _ := hr6.mono (by decide)
    have hr2 : Room 2 _ := hr6.mono (by decide)
    have hr3 : Room 3 _ := hr6.mono (by decide)
    have hr5 : Room 5 _ := hr6.mono (by decide)
    obtain ⟨kk, hx⟩ := pa.x
    have nn : n ≠ p.x := fun z => by
      rw [z, hx] at hn
      cases hn
    obtain ⟨us0, hl0⟩ := pa.li
    refine ⟨_,
    (pss_cons (ps_set (i := 2) scReadClauses.nd rfl (.inl rfl) (pe_lst pa_nil))
    (pss_cons (ps_set (i := 3) scReadClauses.nd rfl (.inl rfl) (pe_lst pa_nil))
    (pss_one (ps_while (passes_of rfl) (pt_val pe_bl)
      (C8.pss_cut (ps_if (pt_cmpR op_eq (pe_meth0 (pv 0) T.cl mBe GBe hr2 bBe .nil pass0) pe_str (nomark _))
        (pss_cons (ps_expr (pe_meth (pv 0) T.cl mNe GNe hr3 bNe .nil (passes_call (takes_of rfl rfl rfl rfl) (fun _ _ _ _ h => h)) (pa_cons (pe_and (pe_cmpR op_gt (pe_callB call_len_seq (by rfl) b.len PySem.boot_len (pa_cons (pv 2) pa_nil)) pe_int (nomark _)) (pe_one (pe_cmpR op_lt (pe_callB call_len_seq (by rfl) b.len PySem.boot_len (pa_cons (pv 3) pa_nil)) (pe_glob (v := .int 3) rfl Wmr ⟨_, rfl⟩) (nomark _)))) pa_nil)))
        (pss_one (ps_expr (pe_bm PySem.F.plainAttrs_list PySem.F.slot_list_append PySem.F.type_list_append mt_append (pv 3) (pa_cons (pe_call GRp hr6 rfl aRp.gl aRp.fn.kp aRp.bd .nil (passes_call (takes_of rfl rfl rfl rfl) (fun _ _ _ _ h => h)) (pa_cons (pv 0) (pa_cons (pv 1) pa_nil))) pa_nil)))))
        (pss_cons (ps_expr (pe_meth (pv 0) T.cl mNe GNe hr3 bNe .nil (passes_call (takes_of rfl rfl rfl rfl) (fun _ _ _ _ h => h)) (pa_cons (pe_and (pe_cmpR op_eq (pe_callB call_len_seq (by rfl) b.len PySem.boot_len (pa_cons (pv 3) pa_nil)) pe_int (nomark _)) (pe_one (pe_cmpR op_lt (pe_callB call_len_seq (by rfl) b.len PySem.boot_len (pa_cons (pv 2) pa_nil)) (pe_glob (v := .int 6) rfl Wmt ⟨_, rfl⟩) (nomark _)))) pa_nil)))
        (pss_one (ps_expr (pe_bm PySem.F.plainAttrs_list PySem.F.slot_list_append PySem.F.type_list_append mt_append (pv 2) (pa_cons (pe_call GRi hr6 rfl aRi.gl aRi.fn.kp aRi.bd .nil (passes_call (takes_of rfl rfl rfl rfl) (fun _ _ _ _ h => h)) (pa_cons (pv 0) (pa_cons (pv 1) pa_nil))) pa_nil))))))
      (pss_cons (ps_if (pt_cmpR op_eq (pe_meth0 (pv 0) T.cl mTh GTh hr1 bTh .nil pass0) pe_str (nomark _))
        (pss_one (ps_ret (pe_tup (pa_cons (pv 2) (pa_cons (pv 3) pa_nil)))))
        pss_nil)
      (pss_one (ps_expr (pe_meth (pv 0) T.cl mRg GRg hr5 bRg .nil (passes_call (takes_of rfl rfl rfl rfl) (fun _ _ _ _ h => h)) (pa_cons pe_str pa_nil)))))))))), ?_⟩
    refine ⟨by show 0 ≤ sizeLine; decide, fun TL hT => ?_⟩
    have sT := same_new (o := HO.lst []) hT
    refine ⟨by show 0 ≤ sizeLine; decide, fun L hL => ?_⟩
    have sL := same_new (o := HO.lst []) hL
    have hL0 : H L = none := sT.free hL
    have TLL : TL ≠ L := ne_of_none upd_same hL
    have Tx : TL ≠ p.x := (ne_of_none hx hT).symm
    have Lx : L ≠ p.x := (ne_of_none hx hL0).symm
    have Tl : TL ≠ p.l := (ne_of_none hl0 hT).symm
    have Ll : L ≠ p.l := (ne_of_none hl0 hL0).symm
    have Tn : TL ≠ n := (ne_of_none hn hT).symm
    have Ln : L ≠ n := (ne_of_none hn hL0).symm
    dsimp only [gName, tSeq]
    refine ⟨fun m σ' H' => ∃ (c : Clz) (us ws : List V) (k : Nat) (rest : List Tk), m = rest.length ∧ σ' = [some (.ref p.x), some (.ref n), some (.ref TL), some (.ref L)] ∧ Off p.x H H' ∧ H' TL = some (.lst us) ∧ H' L = some (.lst ws) ∧ Each (TieAt H') us c.1 ∧ Each (PairAt H') ws c.2 ∧ COk zs c ∧ PR C H' p rest ∧ Ends rest ∧ rest.length ≤ k ∧ clausesM zs N ([], []) ts = clausesM zs k c rest,
      ⟨_, ([], []), [], [], N, ts, rfl, rfl, Off.of (sT.trans sL), sL _ _ upd_same, upd_same, .nil, .nil, ⟨Nat.zero_le _, fun _ m => (by cases m), Nat.zero_le _, fun _ m => (by cases m)⟩, pa.same (sT.trans sL), en, lN, rfl⟩, ?_⟩
    rintro m σ' H1 ⟨c, us, ws, k, rest, rfl, rfl, o1, h1T, h1L, eT, eL, ok, pa1, en1, lk, ec⟩
    obtain ⟨t, r, rfl⟩ := en1.cons
    obtain ⟨k1, hx1⟩ := pa1.x
    cases k with
    | zero => exact absurd lk (Nat.not_succ_le_zero _)
    | succ k =>
    have lk' : r.length ≤ k := Nat.le_of_succ_le_succ lk
    have hn1 := o1 _ _ nn hn
    have lu : us.length ≤ 6 := by rw [eT.len]; exact ok.t6
    have lw : ws.length ≤ 3 := by rw [eL.len]; exact ok.l3
    refine ⟨_, rfl, iteT ⟨_, fun _ _ h => h, ?_⟩⟩
    refine ⟨fun σ' H' => ∃ (c' : Clz) (us ws : List V) (rest : List Tk), clauseM zs c (t :: r) = .ok (c', rest) ∧ σ' = [some (.ref p.x), some (.ref n), some (.ref TL), some (.ref L)] ∧ Off p.x H H' ∧ H' TL = some (.lst us) ∧ H' L = some (.lst ws) ∧ Each (TieAt H') us c'.1 ∧ Each (PairAt H') ws c'.2 ∧ PR C H' p rest ∧ Ends rest, ?_, ?_⟩
    · refine ⟨_, rfl, p.x, p.dx, _, rfl, hx1, no_behind, p, t, r, rfl, pa1, fun n0 => ?_, ?_⟩
      · obtain ⟨u, r', e⟩ := en1.ne n0
        rw [e]
        exact List.cons_ne_nil _ _
      refine ⟨rfl, _, rfl, ?_⟩
      rw [next_is en1]
      cases pn : pairNext (t :: r) with
      | true =>
        have em := clauseM_pair (zs := zs) (c := c) pn
        refine iteT ?_
        refine ⟨_, rfl, p.x, p.dx, _, rfl, hx1, no_need, ?_⟩
        have bad : ¬ (c.1 ≠ [] ∧ c.2.length < 3) → RefT CB H1 E t.1 := fun nc => by
          rw [if_neg nc] at em
          exact ((q2 _ (ec.trans (clausesM_no em))).off o1).now
        refine ⟨_, rfl, TL, _, rfl, .inl (SqL.of h1T), _, _, rfl, rfl, _, rfl, ?_⟩
        by_cases g1 : c.1 = []
        · have l0 : decide ((0 : Int) < ((us.length : Nat) : Int)) = false := decide_eq_false (by rw [eT.len, g1]; decide)
          rw [l0]
          exact iteF ⟨p, t, r, false, rfl, pa1, fun z => (by cases z), fun _ => bad fun h => h.1 g1⟩
        · have l0 : decide ((0 : Int) < ((us.length : Nat) : Int)) = true := decide_eq_true (by
            rw [eT.len]
            have := List.length_pos_iff.mpr g1
            omega)
          rw [l0]
          refine iteT ⟨_, rfl, L, _, rfl, .inl (SqL.of h1L), _, _, rfl, rfl, ?_⟩
          dsimp only
          by_cases g2 : c.2.length < 3
          · have l3' : decide (((ws.length : Nat) : Int) < 3) = true := decide_eq_true (by rw [eL.len]; omega)
            rw [l3']
            rw [if_pos ⟨g1, g2⟩] at em
            refine ⟨p, t, r, true, rfl, pa1, fun _ => ?_, fun z => (by cases z)⟩
            refine ⟨_, rfl, .inl ⟨rfl, _, SqL.of h1L⟩, ?_⟩
            refine ⟨_, rfl, _, rfl, p, t :: r, n, zs, rfl, pa1, en1, hn1, nz, fun pr r' e v H2 o2 pa2 en2 tv => ?_, fun m e => ?_⟩
            · rw [e] at em
              have tt2 := off_tups o2 hx1
              have h2T := o2 _ _ Tx h1T
              have h2L := o2 _ _ Lx h1L
              have tt3 := tups_lst (ys := ws ++ [v]) h2L
              refine ⟨L, _, _, rfl, rfl, h2L, lt_line (by omega), ?_⟩
              exact ⟨_, us, ws ++ [v], r', em, rfl, off_put (o1.trans o2) hL0, (upd_ne TLL).trans h2T, upd_same, eT.mono fun _ _ y => y.moved (tt2.trans tt3), (eL.mono fun _ _ y => y.moved (tt2.trans tt3)).snoc (tv.moved tt3), pa2.upd h2L Ll, en2⟩
            · rw [e] at em
              exact (q2 _ (ec.trans (clausesM_no em))).off o1
          · have l3' : decide (((ws.length : Nat) : Int) < 3) = false := decide_eq_false (by rw [eL.len]; omega)
            rw [l3']
            exact ⟨p, t, r, false, rfl, pa1, fun z => (by cases z), fun _ => bad fun h => g2 h.2⟩
      | false =>
        have em := clauseM_tie (zs := zs) (c := c) pn
        refine iteF ?_
        refine ⟨_, rfl, p.x, p.dx, _, rfl, hx1, no_need, ?_⟩
        have bad : ¬ (c.2 = [] ∧ c.1.length < 6) → RefT CB H1 E t.1 := fun nc => by
          rw [if_neg nc] at em
          exact ((q2 _ (ec.trans (clausesM_no em))).off o1).now
        refine ⟨_, rfl, L, _, rfl, .inl (SqL.of h1L), rfl, _, rfl, ?_⟩
        by_cases g1 : c.2 = []
        · have l0 : decide (V.int ((ws.length : Nat) : Int) = V.int 0) = true := decide_eq_true (by rw [eL.len, g1]; rfl)
          rw [l0]
          refine iteT ⟨_, rfl, TL, _, rfl, .inl (SqL.of h1T), _, _, rfl, rfl, ?_⟩
          dsimp only
          by_cases g2 : c.1.length < 6
          · have l3' : decide (((us.length : Nat) : Int) < 6) = true := decide_eq_true (by rw [eT.len]; omega)
            rw [l3']
            rw [if_pos ⟨g1, g2⟩] at em
            refine ⟨p, t, r, true, rfl, pa1, fun _ => ?_, fun z => (by cases z)⟩
            refine ⟨_, rfl, .inl ⟨rfl, _, SqL.of h1T⟩, ?_⟩
            refine ⟨_, rfl, _, rfl, p, t :: r, n, zs, rfl, pa1, en1, hn1, nz, fun x r' e v H2 o2 pa2 en2 tv => ?_, fun m e => ?_⟩
            · rw [e] at em
              have tt2 := off_tups o2 hx1
              have h2T := o2 _ _ Tx h1T
              have h2L := o2 _ _ Lx h1L
              have tt3 := tups_lst (ys := us ++ [v]) h2T
              refine ⟨TL, _, _, rfl, rfl, h2T, lt_line (by omega), ?_⟩
              exact ⟨_, us ++ [v], ws, r', em, rfl, off_put (o1.trans o2) hT, upd_same, (upd_ne TLL.symm).trans h2L, (eT.mono fun _ _ y => y.moved (tt2.trans tt3)).snoc (tv.moved tt3), eL.mono fun _ _ y => y.moved (tt2.trans tt3), pa2.upd h2T Tl, en2⟩
            · rw [e] at em
              exact (q2 _ (ec.trans (clausesM_no em))).off o1
          · have l3' : decide (((us.length : Nat) : Int) < 6) = false := decide_eq_false (by rw [eT.len]; omega)
            rw [l3']
            exact ⟨p, t, r, false, rfl, pa1, fun z => (by cases z), fun _ => bad fun h => g2 h.2⟩
        · have l0 : decide (V.int ((ws.length : Nat) : Int) = V.int 0) = false := decide_eq_false (fun e => by
            injection e with e
            rw [eL.len] at e
            exact g1 (List.length_eq_zero_iff.mp (by omega)))
          rw [l0]
          exact iteF ⟨p, t, r, false, rfl, pa1, fun z => (by cases z), fun _ => bad fun h => g1 h.1⟩
    · rintro σ' H2 ⟨c', us', ws', rest, em, rfl, o2, h2T, h2L, eT2, eL2, pa2, en2⟩
      obtain ⟨y, r', rfl⟩ := en2.cons
      obtain ⟨k2, hx2⟩ := pa2.x
      obtain ⟨less, ok', _⟩ := clause_less em ok
      have e3 := ec.trans (clausesM_step (n := k) em)
      have lr : (y :: r').length ≤ k := by
        have : (y :: r').length < r.length + 1 := less
        omega
      refine ⟨_, rfl, p.x, p.dx, _, rfl, hx2, no_this, p, y, r', rfl, pa2, ?_⟩
      refine ⟨rfl, _, rfl, ?_⟩
      by_cases e0 : y.2 = ""
      · rw [decide_eq_true (show V.str y.2 = V.str "" by rw [e0])]
        rw [if_pos e0] at e3
        refine iteT ⟨_, rfl, _, rfl, by show 2 ≤ sizeLine; decide, fun D hD => ?_⟩
        have sD := same_new (o := HO.tup [.ref TL, .ref L]) hD
        exact q1 _ e3 D TL L us' ws' _ (o2.trans (Off.of sD)) upd_same (sD _ _ h2T) (sD _ _ h2L) (eT2.mono fun _ _ y => y.moved (same_tups sD)) (eL2.mono fun _ _ y => y.moved (same_tups sD)) ok'
      · rw [decide_eq_false (show ¬ V.str y.2 = V.str "" from fun e => e0 (by injection e))]
        rw [if_neg e0] at e3
        refine iteF ?_
        refine ⟨_, rfl, p.x, p.dx, _, rfl, hx2, no_sign, p, y, r', ",", rfl, pa2, fun ey H3 o3 pa3 => ?_, fun ny => ?_⟩
        · rw [if_pos ey] at e3
          have tt3 := off_tups o3 hx2
          refine ⟨r'.length, ?_, c', us', ws', k, r', rfl, rfl, o2.trans o3, o3 _ _ Tx h2T, o3 _ _ Lx h2L, eT2.mono fun _ _ y => y.moved tt3, eL2.mono fun _ _ y => y.moved tt3, ok', pa3, en2.next e0, Nat.le_of_succ_le lr, e3⟩
          have : (y :: r').length < r.length + 1 := less
          show r'.length < r.length + 1
          have h2 : (y :: r').length = r'.length + 1 := rfl
          omega
        · rw [if_neg ny] at e3
          exact ((q2 _ e3).off o2).now
def spAllTiedX : Sp := fun vs H Q _ => ∃ (n t : Addr) (ts : List V) (zs : List Str) (ties : List (Str × List Term)), vs = [.ref n, .ref t] ∧ H n = some (.lst (zs.map V.str)) ∧ H t = some (.lst ts) ∧ Each (TieAt H) ts ties ∧ zs.length ≤ 5 ∧ ties.length ≤ 6 ∧ (∀ t ∈ ties, t.2.length ≤ 4) ∧ ∀ H', Same H H' → Q (.bl (tiedB zs ties)) H'
theorem has_alltiedX (b : Blt mg) (a : AtE K mg "all_tied" sAllTied ["names", "ties"]) : Has P w K mg base CX0 1 "all_tied" sAllTied ["names", "ties"] (spAllTiedX) := by
  obtain ⟨f, fd, a⟩ := a
  refine ⟨f, fd, a, a.fn.ok scAllTied (fun vs H Q E h => ?_) (fun cdv A outer s H vs Q E hr1 h => ?_)⟩
  · obtain ⟨n, t, ts, zs, ties, rfl, _⟩ := h
    rfl
  · obtain ⟨n, t, ts, zs, ties, rfl, hn, ht, et, z5, t6, tt4, k⟩ := h
    refine ⟨_,
    (pss_cons (ps_set (i := 2) scAllTied.nd rfl (.inr rfl) (pe_lc2 (own := [("tie", 3), ("term", 4)]) (vs1 := [4]) (g := (gName 3)) (tt := tYes) (wi1 := (iTup K (tOp (rIxT K) (tVar 3) (tC (.int 1))))) (g1 := (gName 4)) (tt1 := tYes) (te := (tVar 4)) rfl scAllTied.nd (pi_list (pv 1)) (blkOk_by (N := nAllTied) (sc := defScope sAllTied) (by decide +kernel)) (by decide) (fun _ _ _ _ _ => (pg_name (i := 3) scAllTied.nd rfl (.inl rfl))) (fun _ _ _ _ _ => pts_nil) (fun _ _ _ _ _ => (pi_tup (pe_ix ix_tup (pv 3) pe_int fun _ _ => rfl))) (fun _ _ _ _ _ => (pg_name (i := 4) scAllTied.nd rfl (.inl rfl))) (fun _ _ _ _ _ => pts_nil) (fun _ _ _ _ _ => (pv 4))))
    (pss_one (ps_ret (pe_callB (cr_all rfl) (by rfl) b.all (by decide +kernel) (pa_cons (pe_lc (own := [("name", 5)]) (g := (gName 5)) (tt := tYes) (te := (tOp (rIn K false) (tVar 5) (tVar 2))) rfl scAllTied.nd (pi_list (pv 0)) (blkOk_by (N := nAllTied) (sc := defScope sAllTied) (by decide +kernel)) (fun _ _ _ _ _ => (pg_name (i := 5) scAllTied.nd rfl (.inl rfl))) (fun _ _ _ _ _ => pts_nil) (fun _ _ _ _ _ => (pe_cmpR op_in_seq (pv 5) (pv 2) rfl))) pa_nil))))), ?_⟩
    refine ⟨_, rfl, t, rfl, ⟨_, SqL.of ht⟩, fun D hD => ?_⟩
    have lts : ts.length ≤ 6 := by rw [et.len]; exact t6
    have few : ∀ i, (((ties.take i).flatMap (·.2)).map termV).length ≤ 4 * i := by
      intro i
      rw [List.length_map]
      induction i with
      | zero => simp
      | succ i ih =>
        rw [List.take_add_one, List.flatMap_append, List.length_append]
        cases e : ties[i]? with
        | none =>
          show _ + 0 ≤ _
          omega
        | some tie =>
          have h4 := tt4 tie (List.mem_of_getElem? e)
          show _ + (List.flatMap (·.2) [tie]).length ≤ _
          rw [List.flatMap_cons, List.flatMap_nil, List.append_nil]
          omega
    refine lc2_list (xs := ts) (fun i H' => Same H H' ∧ i ≤ ts.length ∧ H' D = some (.lst (((ties.take i).flatMap (·.2)).map termV))) ⟨same_new hD, Nat.zero_le _, upd_same⟩ (fun i H' z => SqL.of (z.1 _ _ ht)) ?_ ?_
    · rintro i x H2 hx ⟨s2, li, h2⟩
      obtain ⟨tie, etie, a, c, rfl, ha, hc⟩ := et.get hx
      have l4 := tt4 tie (List.mem_of_getElem? etie)
      have li' : i < ts.length := (List.getElem?_eq_some_iff.mp hx).1
      refine ⟨rfl, yes_turn ?_⟩
      refine ⟨_, rfl, a, _, _, _, rfl, rfl, SqT.of (s2 _ _ ha), atI_nat (j := 1) rfl, c, rfl, ⟨_, SqT.of (s2 _ _ hc)⟩, ?_⟩
      refine in_tup (ys := tie.2.map termV) (fun j H' => Same H H' ∧ H' D = some (.lst (((ties.take i).flatMap (·.2)).map termV ++ (tie.2.take j).map termV))) ⟨s2, by simpa using h2⟩ (fun i H' z => SqT.of (z.1 _ _ hc)) ?_ ?_
      · rintro j y H3 hy ⟨s3, h3⟩
        obtain ⟨u, eu, rfl⟩ := getF hy
        refine ⟨rfl, yes_turn ⟨_, rfl, _, h3, ?_, same_put s3 hD, ?_⟩⟩
        · have := few i
          rw [List.length_append, List.length_map (as := tie.2.take j), List.length_take]
          exact lt_line (by omega)
        · rw [upd_same, List.append_assoc, ← take_snoc termV eu]
      · rintro H3 ⟨s3, h3⟩
        refine ⟨s3, by omega, ?_⟩
        rw [h3, List.take_add_one, etie, List.length_map, List.take_of_length_le (Nat.le_refl _)]
        simp
    · rintro H2 ⟨s2, _, h2⟩
      rw [et.len, List.take_of_length_le (Nat.le_refl _)] at h2
      refine ⟨_, rfl, n, rfl, ⟨_, SqL.of (s2 _ _ hn)⟩, fun D2 hD2 => ?_⟩
      refine lc_list (xs := zs.map V.str) (fun i H' => Same H2 H' ∧ H' D2 = some (.lst (((zs.take i).map fun z => decide (Term.nm z ∈ ties.flatMap (·.2))).map V.bl))) ⟨same_new hD2, upd_same⟩ (fun i H' _ z => SqL.of (z.1 _ _ (s2 _ _ hn))) ?_ ?_
      · rintro i x H3 hx ⟨s3, h3⟩
        obtain ⟨z, ez, rfl⟩ := map_get hx
        refine ⟨rfl, yes_turn ?_⟩
        refine ⟨_, rfl, _, rfl, D, _, rfl, .inl (SqL.of (s3 _ _ h2)), rfl, terms_flat _, ?_⟩
        rw [inV_term]
        refine ⟨_, h3, ?_, same_put s3 hD2, ?_⟩
        · rw [List.length_map, List.length_map, List.length_take]
          exact lt_line (by omega)
        · rw [upd_same, List.take_add_one, ez]
          simp
      · rintro H3 ⟨s3, h3⟩
        rw [List.length_map, List.take_length] at h3
        refine ⟨D2, zs.map fun z => decide (Term.nm z ∈ ties.flatMap (·.2)), rfl, SqL.of h3, ?_⟩
        have e2 : (zs.map fun z => decide (Term.nm z ∈ ties.flatMap (·.2))).all id = tiedB zs ties := by
          rw [List.all_map]
          rfl
        rw [e2]
        exact k H3 (s2.trans s3)
/-- the class, as it is made -/
def RMake (P : Program) (w : World) (K : PySem.W.Frag) (mg : Str → Option Value) (base : Heap) (C : Addr) : Prop := ∃ f fd, Mk K C f ∧ mg "Parts" = some (.ref C) ∧ Binds K fd ["self", "text"] [] ∧ FnOk P w K mg base CX0 3 f fd ["self", "text"] (spPInitR C)
def spReadQX (CB : Addr) : Sp := fun vs H Q E => ∃ (z : Str), vs = [.str z] ∧ z.length ≤ 900 ∧ (∀ c ∈ z.cps.toList, c < 128) ∧ (∀ q, readM (tksM z) = .ok q → ∀ (a : Addr) (H' : Hp), Same H H' → QAt H' a q → Q (.ref a) H') ∧ (∀ m, readM (tksM z) = .error m → ∀ H', Same H H' → RefT CB H' E m)
theorem signM_no {z : Str} {t : Tk} {r : List Tk} (n : t.2 ≠ z) : signM z (t :: r) = .error t.1 := if_neg n
theorem signM_yes {z : Str} {t : Tk} {r : List Tk} (n : t.2 = z) : signM z (t :: r) = .ok r := if_pos n
theorem has_readqX {fIB : Addr} {fdIB : FuncData} (b : Blt mg) (M : RMeth P w K mg base C CB) (Mp : RMake P w K mg base C) (EBadText : ErrF K mg CB fIB fdIB) (hRs : Has P w K mg base (L2.CX P w) 7 "read_names" sReadNames ["parts", "names"] (spReadNamesR C CB)) (hRc : Has P w K mg base (L2.CX P w) 7 "read_clauses" sReadClauses ["parts", "names"] (spReadClR C CB)) (hAt : Has P w K mg base CX0 1 "all_tied" sAllTied ["names", "ties"] spAllTiedX) (a : AtE K mg "read_question" sReadQuestion ["text"]) : Has P w K mg base (L2.CX P w) 8 "read_question" sReadQuestion ["text"] (spReadQX CB) := by
  obtain ⟨f, fd, a⟩ := a
  obtain ⟨T, ⟨fTh, fdTh, mTh, bTh, GTh⟩, _, _, _, ⟨fRg, fdRg, mRg, bRg, GRg⟩⟩ := M
  obtain ⟨fPi, fdPi, Mp, gP, bPi, GPi⟩ := Mp
  obtain ⟨fRs, fdRs, aRs, GRs⟩ := hRs
  obtain ⟨fRc, fdRc, aRc, GRc⟩ := hRc
  obtain ⟨fAt, fdAt, aAt, GAt⟩ := hAt
  have GIBadText : FnOk P w K mg base CX0 1 fIB fdIB ["self", "at"] (spErrF CB) := ok_errF EBadText
  refine ⟨f, fd, a, a.fn.okX scReadQuestion (fun vs H Q E h => ?_) (fun cdv A outer s H vs Q E hr7 h => ?_)⟩
  · obtain ⟨z, rfl, _⟩ := h
    rfl
  · obtain ⟨z, rfl, z9, asc, q1, q2⟩ := h
    have hr1 : Room 1 _ := hr7.mono (by decide)
    have hr2 : Room 2 _ := hr7.mono (by decide)
    have hr4 : Room 4 _ := hr7.mono (by decide)
    have hr5 : Room 5 _ := hr7.mono (by decide)
    refine ⟨_,
    (pss_cons (ps_set (i := 1) scReadQuestion.nd rfl (.inl rfl) (pe_make Mp GPi hr4 rfl gP bPi .nil pass0 (pa_cons (pv 0) pa_nil)))
    (pss_cons (ps_expr (pe_meth (pv 1) T.cl mRg GRg hr5 bRg .nil (passes_call (takes_of rfl rfl rfl rfl) (fun _ _ _ _ h => h)) (pa_cons pe_str pa_nil)))
    (pss_cons (ps_set (i := 2) scReadQuestion.nd rfl (.inl rfl) (pe_call GRs hr7 rfl aRs.gl aRs.fn.kp aRs.bd .nil (passes_call (takes_of rfl rfl rfl rfl) (fun _ _ _ _ h => h)) (pa_cons (pv 1) (pa_cons (pe_lst pa_nil) pa_nil))))
    (pss_cons (ps_set (i := 3) scReadQuestion.nd rfl (.inl rfl) (pe_callB call_len_seq (by rfl) b.len PySem.boot_len (pa_cons (pv 2) pa_nil)))
    (C8.pss_cut (ps_if (pt_cmpR op_eq (pe_meth0 (pv 1) T.cl mTh GTh hr1 bTh .nil pass0) pe_str (nomark _))
      (pss_cons (ps_expr (pe_meth (pv 1) T.cl mRg GRg hr5 bRg .nil (passes_call (takes_of rfl rfl rfl rfl) (fun _ _ _ _ h => h)) (pa_cons pe_str pa_nil)))
      (pss_one (ps_set (i := 2) scReadQuestion.nd rfl (.inl rfl) (pe_call GRs hr7 rfl aRs.gl aRs.fn.kp aRs.bd .nil (passes_call (takes_of rfl rfl rfl rfl) (fun _ _ _ _ h => h)) (pa_cons (pv 1) (pa_cons (pv 2) pa_nil))))))
      pss_nil)
    (pss_cons (ps_expr (pe_meth (pv 1) T.cl mRg GRg hr5 bRg .nil (passes_call (takes_of rfl rfl rfl rfl) (fun _ _ _ _ h => h)) (pa_cons pe_str pa_nil)))
    (pss_cons (ps_asg (pe_call GRc hr7 rfl aRc.gl aRc.fn.kp aRc.bd .nil (passes_call (takes_of rfl rfl rfl rfl) (fun _ _ _ _ h => h)) (pa_cons (pv 1) (pa_cons (pv 2) pa_nil))) (pg_tup rfl (pgs_cons (pg_name (i := 4) scReadQuestion.nd rfl (.inl rfl)) (pgs_cons (pg_name (i := 5) scReadQuestion.nd rfl (.inl rfl)) pgs_nil))))
    (pss_cons (ps_if (pt_not (pt_val (pe_call GAt hr1 rfl aAt.gl aAt.fn.kp aAt.bd .nil pass0 (pa_cons (pv 2) (pa_cons (pv 4) pa_nil)))))
      (pss_one (ps_raise rfl (takes_of rfl rfl rfl rfl) (pmk_oex EBadText.ox EBadText.it EBadText.ty GIBadText hr2 EBadText.bd .nil pass0 rfl EBadText.gl (pa_cons pe_int pa_nil))))
      pss_nil)
    (pss_one (ps_ret (pe_tup (pa_cons (pe_callTy call_tuple_of (by rfl) b.tuple (by decide +kernel) (pa_cons (pv 2) pa_nil)) (pa_cons (pv 3) (pa_cons (pe_callTy call_tuple_of (by rfl) b.tuple (by decide +kernel) (pa_cons (pv 4) pa_nil)) (pa_cons (pe_callTy call_tuple_of (by rfl) b.tuple (by decide +kernel) (pa_cons (pv 5) pa_nil)) pa_nil))))))))))))))), ?_⟩
    have en := tksM_ends z9 asc
    obtain ⟨t, r, ets⟩ := en.cons
    refine ⟨_, rfl, fun x dx nx ndx nex => ?_⟩
    have new : ∀ q o, H q = some o → upd (upd H dx (.own x)) x (.ins C dx []) q = some o := fun q o e => by
      rw [upd_ne (ne_of_none e nx), upd_ne (ne_of_none e ndx)]
      exact e
    refine ⟨x, dx, z, rfl, upd_same, z9, asc, fun l H1 o1 nl pa1 => ⟨rfl, ?_⟩⟩
    have o01 : Off x H H1 := fun q o ne e => o1 q o ne (new q o e)
    have same : ∀ {H'}, Off x H H' → Same H H' := fun o a ob h => o a ob (ne_of_none h nx) h
    generalize eR : readM (tksM z) = R at q1 q2
    unfold readM at eR
    rw [ets] at pa1 en eR
    obtain ⟨k1, hx1⟩ := pa1.x
    refine ⟨_, rfl, x, dx, _, rfl, hx1, no_sign, ⟨x, dx, l⟩, t, r, "find", rfl, pa1, fun et H2 o2 pa2 => ?_, fun nt => ?_⟩
    rotate_left
    · rw [signM_no nt] at eR
      exact q2 _ eR.symm _ (same o01)
    rw [signM_yes et] at eR
    dsimp only at eR
    have o02 := o01.trans o2
    have en2 := en.next (by rw [et]; decide +kernel)
    refine ⟨_, rfl, by show 0 ≤ sizeLine; decide, fun N hN => ?_⟩
    have sN := same_new (o := HO.lst []) hN
    have pa2' := pa2.same sN
    have o02' := o02.trans (Off.of sN)
    unfold headM at eR
    refine ⟨⟨x, dx, l⟩, r, N, [], rfl, pa2', en2, upd_same, Nat.zero_le _, fun zs r1 en1 D H3 o3 nD hD pa3 en3 z5 => ?_, fun m em H' o' => ?_⟩
    rotate_left
    · rw [em] at eR
      exact q2 _ eR.symm _ (same (o02'.trans o'))
    rw [en1] at eR
    dsimp only at eR
    obtain ⟨g1, g2, g3, g4⟩ := names_ok en1 (fun _ m => by cases m) List.nodup_nil
    have o03 := o02'.trans o3
    obtain ⟨y, r2, rfl⟩ := en3.cons
    obtain ⟨k3, hx3⟩ := pa3.x
    have Dx : D ≠ x := fun e => by
      rw [e] at hD
      rw [hx3] at hD
      cases hD
    refine ⟨_, rfl, D, _, rfl, .inl (SqL.of hD), ?_⟩
    rw [List.length_map]
    rw [someM_cons] at eR
    refine ⟨fun σ' H' => ∃ (D' : Addr) (ws : List Str) (rest : List Tk), σ' = [some (.str z), some (.ref x), some (.ref D'), some (.int (zs.length : Nat)), none, none] ∧ Off x H H' ∧ H' D' = some (.lst (ws.map V.str)) ∧ PR C H' ⟨x, dx, l⟩ rest ∧ Ends rest ∧ rest.length ≤ (t :: r).length ∧ (∀ z ∈ ws, NameS 4 z) ∧ ws.length ≤ 5 ∧ tailQ ws zs.length (t :: r).length rest = R, ?_, ?_⟩
    · refine ⟨_, rfl, x, dx, _, rfl, hx3, no_this, ⟨x, dx, l⟩, y, r2, rfl, pa3, ?_⟩
      refine ⟨rfl, _, rfl, ?_⟩
      have l2 : (y :: r2).length ≤ r.length := names_less en1
      by_cases es : y.2 = "some"
      · rw [decide_eq_true (show V.str y.2 = V.str "some" by rw [es])]
        rw [if_pos es] at eR
        refine iteT ?_
        refine ⟨_, rfl, x, dx, _, rfl, hx3, no_sign, ⟨x, dx, l⟩, y, r2, "some", rfl, pa3, fun _ H4 o4 pa4 => ?_, fun ny => absurd es ny⟩
        have en4 := en3.next (by rw [es]; decide +kernel)
        refine ⟨_, rfl, _, rfl, ⟨x, dx, l⟩, r2, D, zs, rfl, pa4, en4, o4 _ _ Dx hD, z5, fun ws r3 e4 D2 H5 o5 nD2 hD2 pa5 en5 w5 => ?_, fun m em H' o' => ?_⟩
        · rw [e4] at eR
          obtain ⟨k1, k2, k3, k4⟩ := names_ok e4 g1 g2
          have l3 := names_less e4
          refine ⟨D2, ws, r3, rfl, (o03.trans o4).trans o5, hD2, pa5, en5, ?_, k1, w5, eR⟩
          have : (y :: r2).length = r2.length + 1 := rfl
          show _ ≤ r.length + 1
          omega
        · rw [em] at eR
          exact q2 _ eR.symm _ (same ((o03.trans o4).trans o'))
      · rw [decide_eq_false (show ¬ V.str y.2 = V.str "some" from fun e => es (by injection e))]
        rw [if_neg es] at eR
        exact iteF ⟨D, zs, y :: r2, rfl, o03, hD, pa3, en3, by show (y :: r2).length ≤ r.length + 1; omega, g1, z5, eR⟩
    · rintro σ' H6 ⟨D', ws, rest, rfl, o6, h6, pa6, en6, lr, nws, w5, eR⟩
      obtain ⟨u, r4, rfl⟩ := en6.cons
      obtain ⟨k6, hx6⟩ := pa6.x
      have Dx : D' ≠ x := fun e => by
        rw [e] at h6
        rw [hx6] at h6
        cases h6
      unfold tailQ colonM at eR
      refine ⟨_, rfl, x, dx, _, rfl, hx6, no_sign, ⟨x, dx, l⟩, u, r4, ":", rfl, pa6, fun eu H7 o7 pa7 => ?_, fun nu => ?_⟩
      rotate_left
      · rw [signM_no nu] at eR
        exact q2 _ eR.symm _ (same o6)
      rw [signM_yes eu] at eR
      dsimp only at eR
      have h7 := o7 _ _ Dx h6
      refine ⟨_, rfl, _, rfl, ⟨x, dx, l⟩, r4, D', ws, (t :: r).length, rfl, pa7, en6.next (by rw [eu]; decide +kernel), Nat.le_of_succ_le lr, h7, fun y my => name_ne (nws y my), fun c ec a t' l2 us vs H8 o8 ha ht hl et8 el8 ok => ?_, fun m em H' o' => ?_⟩
      rotate_left
      · rw [em] at eR
        exact q2 _ eR.symm _ (same ((o6.trans o7).trans o'))
      obtain ⟨ties, less⟩ := c
      rw [ec] at eR
      dsimp only at eR et8 el8
      refine ⟨a, _, rfl, SqT.of ha, rfl, _, _, rfl, _, _, rfl, rfl, ?_⟩
      have h8 := o8 _ _ Dx h7
      refine ⟨_, rfl, _, rfl, D', t', us, ws, ties, rfl, h8, ht, et8, w5, ok.t6, fun t m => (ok.tt t m).hi, fun H9 s9 => ⟨_, rfl, ?_⟩⟩
      have o09 : Off x H H9 := ((o6.trans o7).trans o8).trans (Off.of s9)
      cases td : tiedB ws ties with
      | false =>
        rw [if_neg (by rw [td]; exact Bool.false_ne_true)] at eR
        refine iteT ⟨by show 1 ≤ 1000; decide, raise_at fun d hd => q2 _ eR.symm _ (same o09) d hd⟩
      | true =>
        rw [if_pos td] at eR
        refine iteF ?_
        refine ⟨_, rfl, D', _, rfl, .inl ⟨SqL.of (s9 _ _ h8), fun n hn => ?_⟩⟩
        have sn := same_new (o := HO.tup (ws.map V.str)) hn
        have s10 := s9.trans sn
        refine ⟨_, rfl, _, rfl, t', _, rfl, .inl ⟨SqL.of (s10 _ _ ht), fun t2 ht' => ?_⟩⟩
        have st := same_new (o := HO.tup us) ht'
        have s11 := s10.trans st
        refine ⟨_, rfl, l2, _, rfl, .inl ⟨SqL.of (s11 _ _ hl), fun l' hl' => ?_⟩⟩
        have sl := same_new (o := HO.tup vs) hl'
        have s12 := s11.trans sl
        refine ⟨by show 4 ≤ sizeLine; decide, fun A' hA => ?_⟩
        have sA := same_new (o := HO.tup [.ref n, .int (zs.length : Nat), .ref t2, .ref l']) hA
        have s13 := s12.trans sA
        have oall : Off x H _ := ((o6.trans o7).trans o8).trans (Off.of s13)
        exact q1 _ eR.symm A' _ (same oall) ⟨n, t2, l', upd_same, (st.trans (sl.trans sA)) _ _ upd_same, ⟨us, (sl.trans sA) _ _ upd_same, et8.mono fun _ _ y => y.moved (same_tups s13)⟩, ⟨vs, sA _ _ upd_same, el8.mono fun _ _ y => y.moved (same_tups s13)⟩⟩
end
end VQ
namespace VQ
open PySem L2 LamX
/-! ### the law's parts of any text -/
section
variable {P : Program} {w : World} {K : PySem.W.Frag} {mg : Str → Option Value} {base : Heap}
def spToksX : Sp := fun vs H Q _ => ∃ (z : Str), vs = [.str z] ∧ z.length ≤ 900 ∧ (∀ c ∈ z.cps.toList, c < 128) ∧ ∀ (l : Addr) (us : List V) (H' : Hp), H l = none → Same H H' → H' l = some (.lst us) → Each (TkP H') us (foldT [] 0 z.cps.toList) → Q (.ref l) H'
theorem has_toksX (b : Blt mg) (en : mg "enumerate" = none) (a : AtE K mg "_law_tokens" sLawTokens ["_law_text_here"]) : Has P w K mg base CX0 1 "_law_tokens" sLawTokens ["_law_text_here"] spToksX := by
  obtain ⟨f, fd, a⟩ := a
  refine ⟨f, fd, a, a.fn.ok scLawTokens (fun vs H Q E h => ?_) (fun cdv A outer s H vs Q E hr h => ?_)⟩
  · obtain ⟨z, rfl, _⟩ := h
    rfl
  · obtain ⟨z, rfl, z9, asc, k⟩ := h
    have hu : (A.deeper (PyProof.Rows.envOfC "_law_tokens" (defScope sLawTokens) s.heap.objs.size f cdv)).units + 64 < cLine := hr.units
    refine ⟨_,
    (pss_cons (ps_set (i := 1) scLawTokens.nd rfl (.inl rfl) (pe_lst pa_nil))
    (pss_cons (ps_set (i := 2) scLawTokens.nd rfl (.inl rfl) pe_str)
    (pss_cons (ps_for PassesOwn.never rfl (pi_enumS rfl en (pa_cons (pv 0) pa_nil)) (pg_tup rfl (pgs_cons (pg_name (i := 3) scLawTokens.nd rfl (.inl rfl)) (pgs_cons (pg_name (i := 4) scLawTokens.nd rfl (.inl rfl)) pgs_nil)))
      (pss_cons (ps_set (i := 5) scLawTokens.nd rfl (.inl rfl) pe_bl)
      (C8.pss_cut (ps_if (PW.pt (pw_and (pt_cmpR (op_neD hu) (pv 1) (pe_lst pa_nil) (nomark _)) (pw_and1 (pt_cmpR op_eq (pv 3) (pe_op op_add (pe_ix ix_tup (pe_ix ix_list (pv 1) (pe_un un_neg pe_int) fun _ _ => rfl) pe_int fun _ _ => rfl) (pe_callB call_len_str (by rfl) b.len PySem.boot_len (pa_cons (pe_ix ix_tup (pe_ix ix_list (pv 1) (pe_un un_neg pe_int) fun _ _ => rfl) pe_int fun _ _ => rfl) pa_nil))) (nomark _)))))
        (pss_cons (ps_set (i := 6) scLawTokens.nd rfl (.inl rfl) (pe_ix ix_str (pe_ix ix_tup (pe_ix ix_list (pv 1) (pe_un un_neg pe_int) fun _ _ => rfl) pe_int fun _ _ => rfl) (pe_un un_neg pe_int) fun _ _ => rfl))
        (pss_one (ps_set (i := 5) scLawTokens.nd rfl (.inl rfl) (pe_or (pe_and (pe_cmpR op_in_sign (pv 6) (pv 2) rfl) (pe_one (pe_cmpR op_in_sign (pv 4) (pv 2) rfl))) (pe_one (pe_and (pe_cmpR op_in_sign (pv 6) pe_str rfl) (pe_one (pe_cmpR op_in_sign (pv 4) pe_str rfl))))))))
        pss_nil)
      (pss_one (ps_if (pt_val (pv 5))
        (pss_one (ps_asg (pe_tup (pa_cons (pe_op op_add_str (pe_ix ix_tup (pe_ix ix_list (pv 1) (pe_un un_neg pe_int) fun _ _ => rfl) pe_int fun _ _ => rfl) (pv 4)) (pa_cons (pe_ix ix_tup (pe_ix ix_list (pv 1) (pe_un un_neg pe_int) fun _ _ => rfl) pe_int fun _ _ => rfl) pa_nil))) (pg_sub (pv 1) (pe_un un_neg pe_int) set_list)))
        (pss_one (ps_if (pt_cmpR op_ne (pv 4) pe_str (nomark _))
          (pss_one (ps_expr (pe_bm PySem.F.plainAttrs_list PySem.F.slot_list_append PySem.F.type_list_append mt_append (pv 1) (pa_cons (pe_tup (pa_cons (pv 4) (pa_cons (pv 3) pa_nil))) pa_nil))))
          pss_nil)))))))
    (pss_one (ps_ret (pv 1)))))), ?_⟩
    have big : (900 : Nat) ≤ sizeLine := by decide
    have zz : z.cps.size = z.length := rfl
    refine ⟨by show 0 ≤ sizeLine; decide, fun L hL => ?_⟩
    have sL := same_new (o := HO.lst []) hL
    have ascA : z.cps.all (· < 128) = true := by
      rw [← Array.all_toList, List.all_eq_true]
      exact fun c m => decide_eq_true (asc c m)
    dsimp only [gName, tSeq]
    refine ⟨_, rfl, z, rfl, ascA, ?_⟩
    refine for_enumS (x := z) (fun i σ H' => ∃ (x3 x4 x5 x6 : Option V) (us : List V) (fs : List (List Nat × Nat)), σ = [some (.str z), some (.ref L), some (.str letters), x3, x4, x5, x6] ∧ Same H H' ∧ H' L = some (.lst us) ∧ Each (TkP H') us fs ∧ TkOk fs i ∧ fs = foldT [] 0 (z.cps.toList.take i))
      ⟨none, none, none, none, [], [], rfl, sL, upd_same, .nil, ⟨fun _ m => (by cases m), fun _ m => (by cases m), Nat.zero_le _, fun _ m => (by cases m)⟩, rfl⟩ ?_ ?_
    · rintro i c σ H1 T hc ⟨x3, x4, x5, x6, us, fs, rfl, s1, h1, eu, ok, st⟩ nT
      have lt : i < z.cps.toList.length := by
        rw [Array.length_toList]
        exact (Array.getElem?_eq_some_iff.mp hc).1
      have dc : z.cps.toList.drop i = c :: z.cps.toList.drop (i + 1) := by
        rw [List.drop_eq_getElem_cons lt]
        have := (Array.getElem?_eq_some_iff.mp hc).2
        rw [Array.getElem_toList, this]
      have mc : c ∈ z.cps.toList := List.mem_of_mem_drop (by rw [dc]; exact List.mem_cons_self)
      have c128 := asc c mc
      have li : i < 900 := by
        rw [Array.length_toList] at lt
        have : z.cps.size ≤ 900 := z9
        omega
      have et : foldT [] 0 (z.cps.toList.take (i + 1)) = stepT fs i c := by
        rw [List.take_add_one, List.getElem?_eq_getElem lt, foldT_app, List.length_take, Nat.min_eq_left (Nat.le_of_lt lt), Nat.zero_add, ← st]
        have e2 := (Array.getElem?_eq_some_iff.mp hc).2
        show stepT fs i z.cps.toList[i] = _
        rw [Array.getElem_toList, e2]
      have sT := same_new (o := HO.tup [.int (i : Nat), .str ⟨#[c]⟩]) nT
      refine ⟨T, _, rfl, SqT.of upd_same, rfl, _, _, rfl, _, _, rfl, rfl, ?_⟩
      generalize upd H1 T (HO.tup [.int (i : Nat), .str ⟨#[c]⟩]) = H2 at sT
      have s2 := s1.trans sT
      have h2 := sT _ _ h1
      have eu2 : Each (TkP H2) us fs := eu.mono fun _ _ y => y.moved (same_tups sT)
      have lu : us.length ≤ 900 := by
        rw [eu.len]
        have := ok.few
        omega
      dsimp only [gName, tSeq]
      refine ⟨fun σ' H' => ∃ (jb : Bool) (y6 : Option V), σ' = [some (.str z), some (.ref L), some (.str letters), some (.int (i : Nat)), some (.str ⟨#[c]⟩), some (.bl jb), y6] ∧ Same H2 H' ∧ jb = joinsT fs i c, ?_, ?_⟩
      · refine ⟨_, rfl, by show 0 ≤ sizeLine; decide, fun N hN => ?_⟩
        have sN := same_new (o := HO.lst []) hN
        have h3 := sN _ _ h2
        have eu3 : Each (TkP (upd H2 N (.lst []))) us fs := eu2.mono fun _ _ y => y.moved (same_tups sN)
        refine ⟨_, .list [], .lst (SqL.of h3) (dp_tks eu3), .lst (SqL.of upd_same) .nil, (lay_tks ok).shaped (by decide), by decide +kernel, _, rfl, ?_⟩
        rw [eqv_nil]
        rcases nil_or_snoc fs with rfl | ⟨fs0, ⟨w, p⟩, rfl⟩
        · exact iteF ⟨false, _, rfl, sN, rfl⟩
        · have ne : ((fs0 ++ [(w, p)]).map fun f => PyData.tuple [.str (wS f.1), .int (f.2 : Nat)]).isEmpty = false := by cases fs0 <;> rfl
          rw [ne]
          obtain ⟨us0, v, rfl, eu0, ⟨a, rfl, ha⟩⟩ := eu3.last
          have mw : (w, p) ∈ fs0 ++ [(w, p)] := List.mem_append.mpr (.inr List.mem_cons_self)
          have lw : (wS w).length = w.length := List.size_toArray
          have wle : w.length ≤ 900 := by
            have := ok.le _ mw
            have : p + w.length ≤ i := this
            omega
          refine iteT ⟨_, rfl, _, rfl, 1, rfl, L, _, _, _, rfl, rfl, SqL.of h3, atI_last _ _, a, _, _, _, rfl, rfl, SqT.of ha, atI_nat (j := 1) rfl, ?_⟩
          refine ⟨_, rfl, 1, rfl, L, _, _, _, rfl, rfl, SqL.of h3, atI_last _ _, a, _, _, _, rfl, rfl, SqT.of ha, atI_nat (j := 0) rfl, _, rfl, by rw [lw]; omega, _, _, rfl, rfl, rfl, _, rfl, ?_⟩
          by_cases e : p + w.length = i
          · rw [decide_eq_true (show V.int (i : Nat) = V.int (((p : Nat) : Int) + (((wS w).length : Nat) : Int)) by rw [lw, ← e]; rfl)]
            rcases nil_or_snoc w with rfl | ⟨w0, l, rfl⟩
            · exact absurd rfl (ok.ne _ mw)
            · refine iteT ⟨_, rfl, 1, rfl, L, _, _, _, rfl, rfl, SqL.of h3, atI_last _ _, a, _, _, _, rfl, rfl, SqT.of ha, atI_nat (j := 0) rfl, 1, rfl, _, _, l, rfl, rfl, by rw [lw]; omega, atI_last w0 l, ?_⟩
              dsimp only [gName, tAsg]
              refine or_ev (a := letB l && letB c) (b := digB l && digB c) (and_ev (fun Q q => ⟨_, rfl, _, rfl, l, letters, rfl, rfl, q⟩) (fun Q q => ⟨_, rfl, _, rfl, c, letters, rfl, rfl, q⟩)) (and_ev (fun Q q => ⟨_, rfl, l, digs, rfl, rfl, q⟩) (fun Q q => ⟨_, rfl, c, digs, rfl, rfl, q⟩)) _ ?_
              exact ⟨joinB l c, _, rfl, sN, (joins_snoc e).symm⟩
          · rw [decide_eq_false (show ¬ V.int (i : Nat) = V.int (((p : Nat) : Int) + (((wS w).length : Nat) : Int)) from fun q => e (by injection q with q; rw [lw] at q; omega))]
            refine iteF ⟨false, _, rfl, sN, ?_⟩
            unfold joinsT
            rw [List.getLast?_concat]
            dsimp only
            rw [decide_eq_false e]
            rfl
      · rintro σ' H3 ⟨jb, y6, rfl, s3, iff⟩
        have h3 := s3 _ _ h2
        have eu3 : Each (TkP H3) us fs := eu2.mono fun _ _ y => y.moved (same_tups s3)
        have s13 := s2.trans s3
        refine ⟨_, rfl, _, rfl, ?_⟩
        subst iff
        cases hj : joinsT fs i c with
        | true =>
          rcases nil_or_snoc fs with rfl | ⟨fs0, ⟨w, p⟩, rfl⟩
          · cases hj
          have e : p + w.length = i := by
            unfold joinsT at hj
            rw [List.getLast?_concat] at hj
            exact of_decide_eq_true (Bool.and_eq_true _ _ ▸ hj).1
          rw [step_join hj] at et
          obtain ⟨us0, v, rfl, eu0, ⟨a, rfl, ha⟩⟩ := eu3.last
          have mw : (w, p) ∈ fs0 ++ [(w, p)] := List.mem_append.mpr (.inr List.mem_cons_self)
          have lw : (wS w).length = w.length := List.size_toArray
          have wle : w.length ≤ 900 := by omega
          have l1 : (⟨#[c]⟩ : Str).length = 1 := rfl
          refine iteT ⟨_, rfl, 1, rfl, L, _, _, _, rfl, rfl, SqL.of h3, atI_last _ _, a, _, _, _, rfl, rfl, SqT.of ha, atI_nat (j := 0) rfl, _, rfl, _, _, rfl, rfl, by rw [lw, l1]; omega, ?_⟩
          refine ⟨_, rfl, 1, rfl, L, _, _, _, rfl, rfl, SqL.of h3, atI_last _ _, a, _, _, _, rfl, rfl, SqT.of ha, atI_nat (j := 1) rfl, by show 2 ≤ sizeLine; decide, fun T2 hT2 => ?_⟩
          have sT2 := same_new (o := HO.tup [.str (wS w ++ ⟨#[c]⟩), .int (p : Nat)]) hT2
          have h4 := sT2 _ _ h3
          have ew : wS w ++ ⟨#[c]⟩ = wS (w ++ [c]) := TL.ext_tl (by rw [TL.tl_append])
          have ix : ixN (us0 ++ [V.ref a]).length (-1) = some us0.length := by
            rw [List.length_append]
            show ixN (us0.length + 1) (-1) = _
            unfold ixN
            rw [if_neg (by decide), if_pos (by omega)]
            congr 1
            omega
          have eset : (us0 ++ [V.ref a]).set us0.length (.ref T2) = us0 ++ [V.ref T2] := by simp
          refine ⟨_, rfl, 1, rfl, L, _, _, _, rfl, rfl, h4, ix, ?_⟩
          rw [eset]
          have t5 := tups_lst (ys := us0 ++ [V.ref T2]) h4
          refine ⟨_, _, _, _, us0 ++ [V.ref T2], fs0 ++ [(w ++ [c], p)], rfl, same_put (s13.trans sT2) hL, upd_same, ?_, ok.join c128 e, et.symm⟩
          refine (eu0.mono fun _ _ y => y.moved ((same_tups sT2).trans t5)).snoc ⟨T2, rfl, ?_⟩
          rw [← ew]
          exact t5 _ _ upd_same
        | false =>
          rw [step_free hj] at et
          refine iteF ⟨_, rfl, rfl, _, rfl, ?_⟩
          by_cases nc : c = 32
          · subst nc
            rw [if_pos rfl] at et
            rw [show decide (V.str (⟨#[32]⟩ : Str) = V.str " ") = true by decide +kernel]
            exact iteF ⟨_, _, _, _, us, fs, rfl, s13, h3, eu3, ok.next, et.symm⟩
          · rw [if_neg nc] at et
            rw [not_blank nc]
            refine iteT ⟨_, rfl, .inl ⟨rfl, _, SqL.of h3⟩, _, rfl, _, rfl, by show 2 ≤ sizeLine; decide, fun T2 hT2 => ?_⟩
            have sT2 := same_new (o := HO.tup [.str ⟨#[c]⟩, .int (i : Nat)]) hT2
            have h4 := sT2 _ _ h3
            have t5 := tups_lst (ys := us ++ [V.ref T2]) h4
            refine ⟨L, _, _, rfl, rfl, h4, lt_line (by omega), ?_⟩
            exact ⟨_, _, _, _, us ++ [V.ref T2], fs ++ [([c], i)], rfl, same_put (s13.trans sT2) hL, upd_same, (eu3.mono fun _ _ y => y.moved ((same_tups sT2).trans t5)).snoc ⟨T2, rfl, t5 _ _ upd_same⟩, ok.more c128, et.symm⟩
    · rintro σ H1 ⟨x3, x4, x5, x6, us, fs, rfl, s1, h1, eu, ok, st⟩
      have zz : z.cps.toList.length = z.cps.size := Array.length_toList
      rw [← zz, List.take_length] at st
      refine ⟨_, rfl, k L us H1 hL s1 h1 ?_⟩
      rw [← st]
      exact eu
end
end VQ
namespace VQ
open PySem L2 LamX
/-! ### the law's reader, of any parts: terms, ties -/
def numChk (w : List Nat) : Bool := match PySem.intText? (wS w) with
  | some (Int.ofNat n) => decide (numM (wS w) = if n ≤ 31 then some n else none)
  | _ => false
theorem num_one : ∀ c ∈ digs.cps.toList, numChk [c] = true := by decide +kernel
theorem num_two : ∀ c ∈ digs.cps.toList, c ≠ 48 → ∀ d ∈ digs.cps.toList, numChk [c, d] = true := by decide +kernel
theorem num_is {z : Str} (ne : z ≠ "") (dg : ∀ c ∈ z.cps.toList, digB c = true) (l2 : z.length ≤ 2) (h0 : z.cps.toList.head? ≠ some 48 ∨ z = "0") : ∃ n : Nat, PySem.intText? z = some (n : Int) ∧ numM z = if n ≤ 31 then some n else none := by
  have key : ∀ w : List Nat, z = wS w → numChk w = true → ∃ n : Nat, PySem.intText? z = some (n : Int) ∧ numM z = if n ≤ 31 then some n else none := by
    rintro w rfl h
    unfold numChk at h
    cases e : PySem.intText? (wS w) with
    | none => rw [e] at h; cases h
    | some i =>
      rw [e] at h
      cases i with
      | ofNat n => exact ⟨n, rfl, of_decide_eq_true h⟩
      | negSucc n => cases h
  have ez : z = wS z.cps.toList := by
    obtain ⟨a⟩ := z
    show (⟨a⟩ : Str) = ⟨a.toList.toArray⟩
    rw [Array.toArray_toList]
  have zl : z.cps.toList.length ≤ 2 := by
    rw [Array.length_toList]
    exact l2
  generalize ew : z.cps.toList = w at ez dg zl h0
  match w, zl with
  | [], _ => exact absurd (str_nil ew) ne
  | [c], _ => exact key [c] ez (num_one c (of_decide_eq_true (dg c List.mem_cons_self)))
  | [c, d], _ =>
    have hc := of_decide_eq_true (dg c List.mem_cons_self)
    have hd := of_decide_eq_true (dg d (List.mem_cons_of_mem _ List.mem_cons_self))
    by_cases c0 : c = 48
    · have : z = "0" := h0.resolve_left (fun h => h (by rw [c0]; rfl))
      rw [this] at ew
      have e2 : ("0" : Str).cps.toList = [48] := by decide +kernel
      rw [e2] at ew
      cases ew
    · exact key [c, d] ez (num_two c hc c0 d hd)
  | c :: d :: e :: r, l => exact absurd l (by show ¬ r.length + 1 + 1 + 1 ≤ 2; omega)
theorem num_none {z : Str} (h : z = "" ∨ (∃ c ∈ z.cps.toList, digB c = false) ∨ 2 < z.length ∨ (z.cps.toList.head? = some 48 ∧ z ≠ "0")) : numM z = none := by
  cases e : numM z with
  | none => rfl
  | some n =>
    obtain ⟨ln, rfl⟩ := numM_some e
    obtain ⟨l2, ne, dg, _⟩ := nums_dig n ln
    obtain ⟨n0, h0⟩ := nums_more n ln
    rcases h with h | ⟨c, mc, h⟩ | h | ⟨h1, h2⟩
    · exact absurd h n0
    · rw [dg c mc] at h
      cases h
    · omega
    · exact absurd h1 (h0.resolve_right h2)
def tvO : Option Term → V
  | none => .non
  | some x => termV x
def TkW (H : Hp) (v : V) (t : Tk) : Prop := ∃ a, v = .ref a ∧ H a = some (.tup [.str t.2, .int (t.1 : Nat)])
theorem TkW.moved {H H' : Hp} (s : Tups H H') {v : V} {t : Tk} (h : TkW H v t) : TkW H' v t := by
  obtain ⟨a, e, h1⟩ := h
  exact ⟨a, e, s _ _ h1⟩
structure TkLs (H : Hp) (l : Addr) (us : List V) (ts : List Tk) : Prop where
  li : H l = some (.lst us)
  ea : Each (TkW H) us ts
  few : ts.length ≤ 1000
  en : Ends ts
theorem TkLs.moved {H H' : Hp} {l : Addr} {us : List V} {ts : List Tk} (h : TkLs H l us ts) (s : Same H H') : TkLs H' l us ts := ⟨s _ _ h.li, h.ea.mono fun _ _ y => y.moved (same_tups s), h.few, h.en⟩
theorem TkLs.at_ {H : Hp} {l : Addr} {us : List V} {ts : List Tk} (h : TkLs H l us ts) {j : Nat} {t : Tk} {r : List Tk} (e : ts.drop j = t :: r) : ∃ a, us[j]? = some (.ref a) ∧ H a = some (.tup [.str t.2, .int (t.1 : Nat)]) := by
  have g : ts[j]? = some t := by
    have lt : j < ts.length := by
      apply Nat.lt_of_not_le
      intro q
      rw [List.drop_of_length_le q] at e
      cases e
    rw [List.drop_eq_getElem_cons lt] at e
    injection e with e1 _
    rw [List.getElem?_eq_getElem lt, e1]
  obtain ⟨v, ev, a, rfl, ha⟩ := h.ea.at_ g
  exact ⟨a, ev, ha⟩
theorem drop_next {ts : List Tk} {j : Nat} {t : Tk} {r : List Tk} (e : ts.drop j = t :: r) : ts.drop (j + 1) = r ∧ j < ts.length := by
  have lt : j < ts.length := by
    apply Nat.lt_of_not_le
    intro q
    rw [List.drop_of_length_le q] at e
    cases e
  rw [List.drop_eq_getElem_cons lt] at e
  injection e with _ e2
  exact ⟨e2, lt⟩
section
variable {P : Program} {w : World} {K : PySem.W.Frag} {mg : Str → Option Value} {base : Heap}
def spRTermX : Sp := fun vs H Q _ => ∃ (z : Str) (n : Addr) (zs : List Str), vs = [.str z, .ref n] ∧ z.length ≤ 900 ∧ NmAt H n zs ∧ ∀ H', Same H H' → Q (tvO (termM zs z)) H'
theorem has_rtermX (b : Blt mg) (a : AtE K mg "_law_read_term" sLawReadTerm ["_law_word", "_law_names_here"]) : Has P w K mg base CX0 1 "_law_read_term" sLawReadTerm ["_law_word", "_law_names_here"] spRTermX := by
  obtain ⟨f, fd, a⟩ := a
  refine ⟨f, fd, a, a.fn.ok scLawReadTerm (fun vs H Q E h => ?_) (fun cdv A outer s H vs Q E hr h => ?_)⟩
  · obtain ⟨z, n, zs, rfl, _⟩ := h
    rfl
  · obtain ⟨z, n, zs, rfl, z9, hn, k⟩ := h
    refine ⟨_,
    (pss_cons (ps_if (pt_cmpR op_in_seq (pv 0) (pv 1) rfl)
      (pss_one (ps_ret (pv 0)))
      pss_nil)
    (pss_cons (ps_if (PW.pt (pw_or (pt_cmpR op_eq (pv 0) pe_str (nomark _)) (pw_or1 (pt_not (pt_val (pe_callB (cr_all rfl) (by rfl) b.all (by decide +kernel) (pa_cons (pe_lc (own := [("_law_sign", 2)]) (g := (gName 2)) (tt := tYes) (te := (tOp rInSign (tVar 2) (tC (.str "0123456789")))) rfl scLawReadTerm.nd (pi_str (pv 0)) (blkOk_by (N := nLawReadTerm) (sc := defScope sLawReadTerm) (by decide +kernel)) (fun _ _ _ _ _ => (pg_name (i := 2) scLawReadTerm.nd rfl (.inl rfl))) (fun _ _ _ _ _ => pts_nil) (fun _ _ _ _ _ => (pe_cmpR op_in_sign (pv 2) pe_str rfl))) pa_nil)))))))
      (pss_one (ps_ret pe_non))
      pss_nil)
    (pss_cons (ps_if (PW.pt (pw_or (pt_cmpR op_gt (pe_callB call_len_str (by rfl) b.len PySem.boot_len (pa_cons (pv 0) pa_nil)) pe_int (nomark _)) (pw_or (PW.pt (pw_and (pt_cmpR op_eq (pe_ix ix_str (pv 0) pe_int fun _ _ => rfl) pe_str (nomark _)) (pw_and1 (pt_cmpR op_ne (pv 0) pe_str (nomark _))))) (pw_or1 (pt_cmpR op_gt (pe_callTy call_int_str (by rfl) b.int (by decide +kernel) (pa_cons (pv 0) pa_nil)) pe_int (nomark _))))))
      (pss_one (ps_ret pe_non))
      pss_nil)
    (pss_one (ps_ret (pe_callTy call_int_str (by rfl) b.int (by decide +kernel) (pa_cons (pv 0) pa_nil))))))), ?_⟩
    refine ⟨_, rfl, _, rfl, n, _, rfl, .inr (SqT.of hn), rfl, strs_flat _, _, rfl, ?_⟩
    rw [inV_str]
    unfold termM at k
    by_cases mz : z ∈ zs
    · rw [decide_eq_true mz]
      rw [if_pos mz] at k
      exact iteT ⟨_, rfl, k _ (Same.refl _)⟩
    · rw [decide_eq_false mz]
      rw [if_neg mz] at k
      have big : (900 : Nat) ≤ sizeLine := by decide
      have zz : z.cps.size = z.length := rfl
      have none : numM z = none → ∀ H', Same H H' → Q .non H' := fun e H' s => by
        rw [e] at k
        exact k H' s
      refine iteF ⟨_, rfl, rfl, _, rfl, ?_⟩
      by_cases z0 : z = ""
      · rw [decide_eq_true (show V.str z = V.str "" by rw [z0])]
        exact iteT (none (num_none (.inl z0)) _ (Same.refl _))
      rw [decide_eq_false (show ¬ V.str z = V.str "" from fun e => z0 (by injection e))]
      refine iteF ⟨_, rfl, _, rfl, fun D hD => ?_⟩
      refine lc_textS (z := z) (fun i acc _ => acc = ((z.cps.toList.take i).map digB).map V.bl) hD (by omega) (fun _ _ _ _ _ h => h) rfl ?_ ?_
      · rintro i c acc H2 hc s2 h2 rfl k1 k2 y1 y2
        refine ⟨rfl, yes_turn ?_⟩
        refine ⟨_, rfl, c, digs, rfl, rfl, y1 _ _ (Same.refl _) ?_⟩
        rw [List.take_add_one, show z.cps.toList[i]? = some c by rw [Array.getElem?_toList]; exact hc, List.map_append, List.map_append]
        rfl
      · rintro acc H2 s2 h2 rfl
        refine ⟨D, _, rfl, SqL.of h2, ?_⟩
        have e2 : ((z.cps.toList.take z.cps.size).map digB).all id = z.cps.toList.all digB := by
          rw [List.take_of_length_le (by simp), List.all_map]
          rfl
        rw [e2]
        refine ⟨_, rfl, ?_⟩
        cases dg : z.cps.toList.all digB with
        | false =>
          refine iteT (none (num_none (.inr (.inl ?_))) _ s2)
          obtain ⟨c, mc, h⟩ := List.all_eq_false.mp dg
          exact ⟨c, mc, Bool.eq_false_iff.mpr h⟩
        | true =>
          have dg := List.all_eq_true.mp dg
          refine iteF ?_
          refine ⟨_, rfl, z, rfl, by omega, _, _, rfl, rfl, _, rfl, ?_⟩
          by_cases l2 : 2 < z.length
          · rw [decide_eq_true (show (2 : Int) < ((z.length : Nat) : Int) by omega)]
            exact iteT (none (num_none (.inr (.inr (.inl l2)))) _ s2)
          rw [decide_eq_false (show ¬ (2 : Int) < ((z.length : Nat) : Int) by omega)]
          obtain ⟨c, cs, ec⟩ := List.exists_cons_of_ne_nil (show z.cps.toList ≠ [] from fun e => z0 (str_nil e))
          have g0 : z.cps.toList[0]? = some c := by rw [ec]; rfl
          refine iteF ⟨_, rfl, z, _, c, rfl, rfl, by omega, atI_nat (j := 0) g0, rfl, _, rfl, ?_⟩
          have t48 : TL.tl ("0" : Str) = [48] := by decide +kernel
          have last : (z.cps.toList.head? ≠ some 48 ∨ z = "0") → ∃ n : Nat, PySem.intText? z = some (n : Int) ∧ (31 < n → Q .non H2) ∧ (n ≤ 31 → Q (.int (n : Int)) H2) := fun h0 => by
            obtain ⟨m, it, nm⟩ := num_is z0 dg (Nat.le_of_not_lt l2) h0
            refine ⟨m, it, fun h => none (by rw [nm, if_neg (Nat.not_le_of_lt h)]) _ s2, fun h => ?_⟩
            rw [nm, if_pos h] at k
            exact k _ s2
          have fin : (z.cps.toList.head? ≠ some 48 ∨ z = "0") → ∃ n : Nat, PySem.intText? z = some (n : Int) ∧ (31 < n → Q .non H2) ∧ (n ≤ 31 → Q (.int (n : Int)) H2) := last
          by_cases c0 : c = 48
          · rw [decide_eq_true ((sign_eq t48).mpr c0)]
            refine iteT ⟨_, rfl, rfl, _, rfl, ?_⟩
            by_cases e0 : z = "0"
            · rw [decide_eq_true (show V.str z = V.str "0" by rw [e0])]
              obtain ⟨m, it, f1, f2⟩ := fin (.inr e0)
              refine iteF ⟨_, rfl, z, _, rfl, it, by omega, _, _, rfl, rfl, _, rfl, ?_⟩
              by_cases hm : 31 < m
              · rw [decide_eq_true (show (31 : Int) < ((m : Nat) : Int) by omega)]
                exact iteT (f1 hm)
              · rw [decide_eq_false (show ¬ (31 : Int) < ((m : Nat) : Int) by omega)]
                exact iteF ⟨_, rfl, z, _, rfl, it, by omega, f2 (Nat.le_of_not_lt hm)⟩
            · rw [decide_eq_false (show ¬ V.str z = V.str "0" from fun e => e0 (by injection e))]
              exact iteT (none (num_none (.inr (.inr (.inr ⟨by rw [ec, c0]; rfl, e0⟩)))) _ s2)
          · rw [decide_eq_false (fun e => c0 ((sign_eq t48).mp e))]
            obtain ⟨m, it, f1, f2⟩ := fin (.inl (by rw [ec]; exact fun e => c0 (Option.some.inj e)))
            refine iteF (iteF ⟨_, rfl, z, _, rfl, it, by omega, _, _, rfl, rfl, _, rfl, ?_⟩)
            by_cases hm : 31 < m
            · rw [decide_eq_true (show (31 : Int) < ((m : Nat) : Int) by omega)]
              exact iteT (f1 hm)
            · rw [decide_eq_false (show ¬ (31 : Int) < ((m : Nat) : Int) by omega)]
              exact iteF ⟨_, rfl, z, _, rfl, it, by omega, f2 (Nat.le_of_not_lt hm)⟩
def wrapT (t : Str) : Except Nat (List Term × List Tk) → Except Nat ((Str × List Term) × List Tk)
  | .error e => .error e
  | .ok (xs, r') => .ok ((t, xs), r')
def pendM (zs : List Str) (n : Nat) (acc : List Term) : List Tk → Except Nat (List Term × List Tk)
  | [] => .error 0
  | v :: r => match termM zs v.2 with
    | none => .error v.1
    | some x => afterM zs n (acc ++ [x]) r
theorem tieM_wrap {zs : List Str} {t u : Tk} {r : List Tk} {v : Tk} (nb : nameB 8 t.2 = true) (eu : u.2 = "(") : tieM zs (t :: u :: v :: r) = wrapT t.2 (pendM zs 3 [] (v :: r)) := by
  rw [tieM_cons, if_pos nb, if_pos eu]
  have e : pendM zs 3 [] (v :: r) = match termM zs v.2 with
    | none => .error v.1
    | some x => afterM zs 3 [x] r := rfl
  rw [e]
  cases termM zs v.2 with
  | none => rfl
  | some x =>
    dsimp only
    cases afterM zs 3 [x] r with
    | error e => rfl
    | ok p => rfl
def spRTieX : Sp := fun vs H Q _ => ∃ (l : Addr) (us : List V) (ts : List Tk) (k : Nat) (n : Addr) (zs : List Str) (rest : List Tk), vs = [.ref l, .int (k : Nat), .ref n] ∧ TkLs H l us ts ∧ NmAt H n zs ∧ (∀ z ∈ zs, z ≠ "") ∧ ts.drop k = rest ∧ Ends rest ∧
  (∀ x r, tieM zs rest = .ok (x, r) → ∀ (p : Addr) (v : V) (k' : Nat) (H' : Hp), Same H H' → H' p = some (.tup [v, .int (k' : Nat)]) → ts.drop k' = r → Ends r → TieAt H' v x → Q (.ref p) H') ∧ (∀ m, tieM zs rest = .error m → ∀ (p : Addr) (H' : Hp), Same H H' → H' p = some (.tup [.non, .int (m : Nat)]) → Q (.ref p) H')
theorem has_rtieX (b : Blt mg) (hGn : Has P w K mg base CX0 1 "_law_good_name" sLawGoodName ["_law_name"] spGoodNameX) (hRm : Has P w K mg base CX0 1 "_law_read_term" sLawReadTerm ["_law_word", "_law_names_here"] spRTermX) (a : AtE K mg "_law_read_tie" sLawReadTie ["_law_tokens_here", "_law_k", "_law_names_here"]) :
    Has P w K mg base CX0 2 "_law_read_tie" sLawReadTie ["_law_tokens_here", "_law_k", "_law_names_here"] spRTieX := by
  obtain ⟨f, fd, a⟩ := a
  obtain ⟨fGn, fdGn, aGn, GGn⟩ := hGn
  obtain ⟨fRm, fdRm, aRm, GRm⟩ := hRm
  refine ⟨f, fd, a, a.fn.ok scLawReadTie (fun vs H Q E h => ?_) (fun cdv A outer s H vs Q E hr1 h => ?_)⟩
  · obtain ⟨l, us, ts, k, n, zs, rest, rfl, _⟩ := h
    rfl
  · obtain ⟨l, us, ts, k, n, zs, rest, rfl, tk, hn, nz, ed, en, q1, q2⟩ := h
    refine ⟨_,
    (pss_cons (ps_set (i := 3) scLawReadTie.nd rfl (.inl rfl) (pe_ix ix_tup (pe_ix ix_list (pv 0) (pv 1) fun _ _ => rfl) pe_int fun _ _ => rfl))
    (pss_cons (ps_if (pt_not (pt_val (pe_call GGn hr1 rfl aGn.gl aGn.fn.kp aGn.bd .nil pass0 (pa_cons (pv 3) pa_nil))))
      (pss_one (ps_ret (pe_tup (pa_cons pe_non (pa_cons (pe_ix ix_tup (pe_ix ix_list (pv 0) (pv 1) fun _ _ => rfl) pe_int fun _ _ => rfl) pa_nil)))))
      pss_nil)
    (pss_cons (ps_if (pt_cmpR op_ne (pe_ix ix_tup (pe_ix ix_list (pv 0) (pe_op op_add (pv 1) pe_int) fun _ _ => rfl) pe_int fun _ _ => rfl) pe_str (nomark _))
      (pss_one (ps_ret (pe_tup (pa_cons pe_non (pa_cons (pe_ix ix_tup (pe_ix ix_list (pv 0) (pe_op op_add (pv 1) pe_int) fun _ _ => rfl) pe_int fun _ _ => rfl) pa_nil)))))
      pss_nil)
    (pss_cons (ps_set (i := 4) scLawReadTie.nd rfl (.inl rfl) (pe_lst pa_nil))
    (pss_cons (ps_for PassesOwn.never rfl (pi_range1 rfl b.range (pa_cons pe_int pa_nil)) (pg_name (i := 5) scLawReadTie.nd rfl (.inl rfl))
      (pss_cons (ps_set (i := 6) scLawReadTie.nd rfl (.inl rfl) (pe_op op_add (pe_op op_add (pv 1) pe_int) (pe_op op_mul pe_int (pv 5))))
      (pss_cons (ps_set (i := 7) scLawReadTie.nd rfl (.inl rfl) (pe_call GRm hr1 rfl aRm.gl aRm.fn.kp aRm.bd .nil pass0 (pa_cons (pe_ix ix_tup (pe_ix ix_list (pv 0) (pv 6) fun _ _ => rfl) pe_int fun _ _ => rfl) (pa_cons (pv 2) pa_nil))))
      (pss_cons (ps_if (pt_cmpR op_isN (pv 7) pe_non (nomark _))
        (pss_one (ps_ret (pe_tup (pa_cons pe_non (pa_cons (pe_ix ix_tup (pe_ix ix_list (pv 0) (pv 6) fun _ _ => rfl) pe_int fun _ _ => rfl) pa_nil)))))
        pss_nil)
      (pss_cons (ps_expr (pe_bm PySem.F.plainAttrs_list PySem.F.slot_list_append PySem.F.type_list_append mt_append (pv 4) (pa_cons (pv 7) pa_nil)))
      (pss_cons (ps_if (pt_cmpR op_eq (pe_ix ix_tup (pe_ix ix_list (pv 0) (pe_op op_add (pv 6) pe_int) fun _ _ => rfl) pe_int fun _ _ => rfl) pe_str (nomark _))
        (pss_one (ps_ret (pe_tup (pa_cons (pe_tup (pa_cons (pv 3) (pa_cons (pe_callTy call_tuple_of (by rfl) b.tuple (by decide +kernel) (pa_cons (pv 4) pa_nil)) pa_nil))) (pa_cons (pe_op op_add (pv 6) pe_int) pa_nil)))))
        pss_nil)
      (pss_one (ps_if (PW.pt (pw_or (pt_cmpR op_ne (pe_ix ix_tup (pe_ix ix_list (pv 0) (pe_op op_add (pv 6) pe_int) fun _ _ => rfl) pe_int fun _ _ => rfl) pe_str (nomark _)) (pw_or1 (pt_cmpR op_eq (pv 5) pe_int (nomark _)))))
        (pss_one (ps_ret (pe_tup (pa_cons pe_non (pa_cons (pe_ix ix_tup (pe_ix ix_list (pv 0) (pe_op op_add (pv 6) pe_int) fun _ _ => rfl) pe_int fun _ _ => rfl) pa_nil)))))
        pss_nil))))))))
    (pss_one (ps_ret (pe_tup (pa_cons pe_non (pa_cons pe_int pa_nil)))))))))), ?_⟩
    obtain ⟨t, r0, rfl⟩ := en.cons
    obtain ⟨a0, g0, ha0⟩ := tk.at_ ed
    obtain ⟨ed1, _⟩ := drop_next ed
    refine ⟨_, rfl, _, rfl, l, _, _, _, rfl, rfl, SqL.of tk.li, atI_nat g0, a0, _, _, _, rfl, rfl, SqT.of ha0, atI_nat (j := 0) rfl, ?_⟩
    refine ⟨_, rfl, t.2, rfl, en.short, fun H1 s1 => ⟨_, rfl, ?_⟩⟩
    have tk1 := tk.moved s1
    cases nb : nameB 8 t.2 with
    | false =>
      refine iteT ⟨_, rfl, _, rfl, l, _, _, _, rfl, rfl, SqL.of tk1.li, atI_nat g0, a0, _, _, _, rfl, rfl, SqT.of (s1 _ _ ha0), atI_nat (j := 1) rfl, by show 2 ≤ sizeLine; decide, fun p hp => ?_⟩
      have sp := same_new (o := HO.tup [.non, .int (t.1 : Nat)]) hp
      exact q2 _ (tieM_no1 nb) p _ (s1.trans sp) upd_same
    | true =>
    have en1 := en.next (name_ne (nameB_iff.mp nb))
    obtain ⟨u, r1, rfl⟩ := en1.cons
    obtain ⟨a1, g1, ha1⟩ := tk.at_ ed1
    obtain ⟨ed2, _⟩ := drop_next ed1
    refine iteF ⟨_, rfl, _, rfl, _, _, rfl, rfl, l, _, _, _, rfl, rfl, SqL.of tk1.li, atI_nat (j := k + 1) g1, a1, _, _, _, rfl, rfl, SqT.of (s1 _ _ ha1), atI_nat (j := 0) rfl, rfl, _, rfl, ?_⟩
    by_cases eu : u.2 = "("
    rotate_left
    · rw [decide_eq_false (show ¬ V.str u.2 = V.str "(" from fun e => eu (by injection e))]
      refine iteT ⟨_, rfl, _, rfl, _, _, rfl, rfl, l, _, _, _, rfl, rfl, SqL.of tk1.li, atI_nat (j := k + 1) g1, a1, _, _, _, rfl, rfl, SqT.of (s1 _ _ ha1), atI_nat (j := 1) rfl, by show 2 ≤ sizeLine; decide, fun p hp => ?_⟩
      have sp := same_new (o := HO.tup [.non, .int (u.1 : Nat)]) hp
      exact q2 _ (tieM_no2 nb eu) p _ (s1.trans sp) upd_same
    rw [decide_eq_true (show V.str u.2 = V.str "(" by rw [eu])]
    have en2 := en1.next (by rw [eu]; decide +kernel)
    obtain ⟨v0, r2, rfl⟩ := en2.cons
    have em := tieM_wrap (zs := zs) (r := r2) (v := v0) nb eu
    rw [em] at q1 q2
    refine iteF ⟨by show 0 ≤ sizeLine; decide, fun L hL => ?_⟩
    have sL := same_new (o := HO.lst []) hL
    have s02 := s1.trans sL
    have hL0 : H L = none := s1.free hL
    dsimp only [gName, tSeq]
    refine ⟨_, rfl, by omega, by omega, ?_⟩
    refine for_range (lo := 0) (n := 4) (fun i σ H' => ∃ (x5 x6 x7 : Option V) (acc : List Term) (rest : List Tk), σ = [some (.ref l), some (.int (k : Nat)), some (.ref n), some (.str t.2), some (.ref L), x5, x6, x7] ∧ Same H H' ∧ H' L = some (.lst (acc.map termV)) ∧ acc.length = i ∧ i ≤ 3 ∧ ts.drop (k + 2 + 2 * i) = rest ∧ Ends rest ∧ pendM zs 3 [] (v0 :: r2) = pendM zs (3 - i) acc rest)
      ⟨none, none, none, [], v0 :: r2, rfl, s02, upd_same, rfl, by omega, ed2, en2, rfl⟩ ?_ ?_
    · rintro i σ H3 hi ⟨x5, x6, x7, acc, rest, rfl, s3, h3, ei, i3, edr, enr, ep⟩
      obtain ⟨v, r, rfl⟩ := enr.cons
      rw [ep] at q1 q2
      have tk3 := tk.moved s3
      obtain ⟨a2, g2, ha2⟩ := tk.at_ edr
      obtain ⟨edn, _⟩ := drop_next edr
      have spot : ((k : Nat) : Int) + 2 + 2 * (0 + ((i : Nat) : Int)) = ((k + 2 + 2 * i : Nat) : Int) := by omega
      refine ⟨_, rfl, _, _, rfl, rfl, _, rfl, _, _, rfl, rfl, ?_, _, _, rfl, rfl, ?_⟩
      · exact .inl (by decide)
      dsimp only [gName, tSeq]
      rw [spot]
      refine ⟨_, rfl, _, rfl, l, _, _, _, rfl, rfl, SqL.of tk3.li, atI_nat g2, a2, _, _, _, rfl, rfl, SqT.of (s3 _ _ ha2), atI_nat (j := 0) rfl, ?_⟩
      refine ⟨_, rfl, v.2, n, zs, rfl, enr.short, s3 _ _ hn, fun H4 s4 => ?_⟩
      have s04 := s3.trans s4
      have tk4 := tk.moved s04
      have h4 := s4 _ _ h3
      have pm : pendM zs (3 - i) acc (v :: r) = match termM zs v.2 with
        | none => .error v.1
        | some x => afterM zs (3 - i) (acc ++ [x]) r := rfl
      rw [pm] at q1 q2 ep
      cases tm : termM zs v.2 with
      | none =>
        rw [tm] at q2
        refine ⟨_, rfl, rfl, _, rfl, ?_⟩
        rw [decide_eq_true (show tvO none = V.non from rfl)]
        refine iteT ⟨_, rfl, _, rfl, l, _, _, _, rfl, rfl, SqL.of tk4.li, atI_nat g2, a2, _, _, _, rfl, rfl, SqT.of (s04 _ _ ha2), atI_nat (j := 1) rfl, by show 2 ≤ sizeLine; decide, fun p hp => ?_⟩
        have sp := same_new (o := HO.tup [.non, .int (v.1 : Nat)]) hp
        exact q2 _ rfl p _ (s04.trans sp) upd_same
      | some x =>
        rw [tm] at q1 q2 ep
        dsimp only at q1 q2 ep
        refine ⟨_, rfl, rfl, _, rfl, ?_⟩
        rw [decide_eq_false (show ¬ tvO (some x) = V.non from term_not_none x)]
        refine iteF ⟨_, rfl, .inl ⟨rfl, _, SqL.of h4⟩, _, rfl, L, _, _, rfl, rfl, h4, lt_line (by rw [List.length_map]; omega), ?_⟩
        have s5 : Same H (upd H4 L (.lst (acc.map termV ++ [termV x]))) := same_put s04 hL0
        have h5 : upd H4 L (.lst (acc.map termV ++ [termV x])) L = some (.lst ((acc ++ [x]).map termV)) := by
          rw [upd_same, List.map_append]
          rfl
        show tSeq _ _ _ _ (upd H4 L (.lst (acc.map termV ++ [termV x])))
        generalize upd H4 L (.lst (acc.map termV ++ [termV x])) = H5 at s5 h5
        have tk5 := tk.moved s5
        have enn := enr.next (term_ne nz tm)
        obtain ⟨y, r3, rfl⟩ := enn.cons
        obtain ⟨a3, g3, ha3⟩ := tk.at_ edn
        obtain ⟨edm, _⟩ := drop_next edn
        refine ⟨_, rfl, _, rfl, _, _, rfl, rfl, l, _, _, _, rfl, rfl, SqL.of tk5.li, atI_nat (j := k + 2 + 2 * i + 1) g3, a3, _, _, _, rfl, rfl, SqT.of (s5 _ _ ha3), atI_nat (j := 0) rfl, rfl, _, rfl, ?_⟩
        by_cases ey : y.2 = ")"
        · rw [decide_eq_true (show V.str y.2 = V.str ")" by rw [ey])]
          rw [afterM_close ey] at q1
          refine iteT ⟨_, rfl, _, rfl, L, _, rfl, .inl ⟨SqL.of h5, fun D hD => ?_⟩⟩
          have sD := same_new (o := HO.tup ((acc ++ [x]).map termV)) hD
          refine ⟨by show 2 ≤ sizeLine; decide, fun B hB => ?_⟩
          have sB := same_new (o := HO.tup [.str t.2, .ref D]) hB
          refine ⟨_, rfl, _, _, rfl, rfl, by show 2 ≤ sizeLine; decide, fun R hR => ?_⟩
          have sR := same_new (o := HO.tup [.ref B, .int (((k + 2 + 2 * i : Nat) : Int) + 2)]) hR
          exact q1 _ _ rfl R (.ref B) (k + 2 + 2 * i + 1 + 1) _ (((s5.trans sD).trans sB).trans sR) upd_same edm (enn.next (by rw [ey]; decide +kernel)) ⟨B, D, rfl, sR _ _ upd_same, (sB.trans sR) _ _ upd_same⟩
        · rw [decide_eq_false (show ¬ V.str y.2 = V.str ")" from fun e => ey (by injection e))]
          refine iteF ⟨_, rfl, _, rfl, _, _, rfl, rfl, l, _, _, _, rfl, rfl, SqL.of tk5.li, atI_nat (j := k + 2 + 2 * i + 1) g3, a3, _, _, _, rfl, rfl, SqT.of (s5 _ _ ha3), atI_nat (j := 0) rfl, rfl, _, rfl, ?_⟩
          have bad : (y.2 ≠ "," ∨ 3 - i = 0) → ∀ (p : Addr) (H' : Hp), Same H5 H' → H' p = some (.tup [.non, .int (y.1 : Nat)]) → Q (.ref p) H' := fun c p H' s' hp => by
            rw [afterM_bad ey c] at q2
            exact q2 _ rfl p H' (s5.trans s') hp
          by_cases ec : y.2 = ","
          · rw [decide_eq_true (show V.str y.2 = V.str "," by rw [ec])]
            refine iteF ⟨_, rfl, rfl, _, rfl, ?_⟩
            by_cases e3 : i = 3
            · rw [decide_eq_true (show V.int (0 + ((i : Nat) : Int)) = V.int 3 by rw [e3]; rfl)]
              refine iteT ⟨_, rfl, _, rfl, _, _, rfl, rfl, l, _, _, _, rfl, rfl, SqL.of tk5.li, atI_nat (j := k + 2 + 2 * i + 1) g3, a3, _, _, _, rfl, rfl, SqT.of (s5 _ _ ha3), atI_nat (j := 1) rfl, by show 2 ≤ sizeLine; decide, fun p hp => ?_⟩
              exact bad (.inr (by omega)) p _ (same_new hp) upd_same
            · rw [decide_eq_false (show ¬ V.int (0 + ((i : Nat) : Int)) = V.int 3 from fun e => by injection e; omega)]
              have enm := enn.next (by rw [ec]; decide +kernel)
              obtain ⟨v2, r4, rfl⟩ := enm.cons
              refine iteF ⟨_, _, _, acc ++ [x], v2 :: r4, rfl, s5, h5, by rw [List.length_append, ei]; rfl, by omega, ?_, enm, ?_⟩
              · rw [show k + 2 + 2 * (i + 1) = k + 2 + 2 * i + 1 + 1 by omega]
                exact edm
              · rw [ep, show 3 - i = (3 - (i + 1)) + 1 by omega, afterM_more ec]
                rfl
          · rw [decide_eq_false (show ¬ V.str y.2 = V.str "," from fun e => ec (by injection e))]
            refine iteT ⟨_, rfl, _, rfl, _, _, rfl, rfl, l, _, _, _, rfl, rfl, SqL.of tk5.li, atI_nat (j := k + 2 + 2 * i + 1) g3, a3, _, _, _, rfl, rfl, SqT.of (s5 _ _ ha3), atI_nat (j := 1) rfl, by show 2 ≤ sizeLine; decide, fun p hp => ?_⟩
            exact bad (.inl ec) p _ (same_new hp) upd_same
    · rintro σ H3 ⟨x5, x6, x7, acc, rest, rfl, s3, h3, ei, i3, _⟩
      omega
end
end VQ
namespace VQ
open PySem L2 LamX
/-! ### the law's reader, of any parts: items, the head -/
theorem pairNext_is {t : Tk} {r : List Tk} (en : Ends (t :: r)) : (r = [] ∧ pairNext (t :: r) = false) ∨ ∃ u r', r = u :: r' ∧ pairNext (t :: r) = decide (u.2 = "<") := by
  by_cases e : t.2 = ""
  · left
    have := en.last e
    subst this
    exact ⟨rfl, rfl⟩
  · right
    obtain ⟨u, r', rfl⟩ := en.ne e
    refine ⟨u, r', rfl, ?_⟩
    show (!decide (t.2 = "") && decide (u.2 = "<")) = _
    rw [decide_eq_false e]
    rfl
theorem str_eq {x y : Str} : decide (V.str x = V.str y) = decide (x = y) := decide_eq_decide.mpr ⟨fun h => by injection h, fun h => by rw [h]⟩
section
variable {P : Program} {w : World} {K : PySem.W.Frag} {mg : Str → Option Value} {base : Heap}
def spRItemX : Sp := fun vs H Q _ => ∃ (l n tl ll : Addr) (us tv lv : List V) (ts : List Tk) (k : Nat) (zs : List Str) (c : Clz) (rest : List Tk), vs = [.ref l, .int (k : Nat), .ref n, .ref tl, .ref ll] ∧ TkLs H l us ts ∧ NmAt H n zs ∧ (∀ z ∈ zs, NameS 4 z) ∧ H tl = some (.lst tv) ∧ Each (TieAt H) tv c.1 ∧ H ll = some (.lst lv) ∧ Each (PairAt H) lv c.2 ∧ COk zs c ∧ ts.drop k = rest ∧ Ends rest ∧
  (pairNext rest = true → ∀ pr r, clauseM zs c rest = .ok ((c.1, c.2 ++ [pr]), r) → ∀ (p : Addr) (v : V) (k' : Nat) (H' : Hp), Same H H' → H' p = some (.tup [v, .int (k' : Nat)]) → ts.drop k' = r → Ends r → PairAt H' v pr → Q (.ref p) H') ∧
  (pairNext rest = false → ∀ x r, clauseM zs c rest = .ok ((c.1 ++ [x], c.2), r) → ∀ (p : Addr) (v : V) (k' : Nat) (H' : Hp), Same H H' → H' p = some (.tup [v, .int (k' : Nat)]) → ts.drop k' = r → Ends r → TieAt H' v x → Q (.ref p) H') ∧
  (∀ m, clauseM zs c rest = .error m → ∀ (p : Addr) (H' : Hp), Same H H' → H' p = some (.tup [.non, .int (m : Nat)]) → Q (.ref p) H')
theorem has_ritemX (b : Blt mg) (hRy : Has P w K mg base CX0 2 "_law_read_tie" sLawReadTie ["_law_tokens_here", "_law_k", "_law_names_here"] spRTieX) (a : AtE K mg "_law_read_item" sLawReadItem ["_law_tokens_here", "_law_k", "_law_names_here", "_law_ties", "_law_less_now"]) :
    Has P w K mg base CX0 3 "_law_read_item" sLawReadItem ["_law_tokens_here", "_law_k", "_law_names_here", "_law_ties", "_law_less_now"] spRItemX := by
  obtain ⟨f, fd, a⟩ := a
  obtain ⟨fRy, fdRy, aRy, GRy⟩ := hRy
  refine ⟨f, fd, a, a.fn.ok scLawReadItem (fun vs H Q E h => ?_) (fun cdv A outer s H vs Q E hr2 h => ?_)⟩
  · obtain ⟨l, n, tl, ll, us, tv, lv, ts, k, zs, c, rest, rfl, _⟩ := h
    rfl
  · obtain ⟨l, n, tl, ll, us, tv, lv, ts, k, zs, c, rest, rfl, tk, hn, nz, ht, et, hl, el, ok, ed, en, q1, q2, q3⟩ := h
    have hu : (A.deeper (PyProof.Rows.envOfC "_law_read_item" (defScope sLawReadItem) s.heap.objs.size f cdv)).units + 64 < cLine := hr2.units
    refine ⟨_,
    (C8.pss_cut (ps_if (PW.pt (pw_and (pt_cmpR op_lt (pe_op op_add (pv 1) pe_int) (pe_callB call_len_seq (by rfl) b.len PySem.boot_len (pa_cons (pv 0) pa_nil)) (nomark _)) (pw_and1 (pt_cmpR op_eq (pe_ix ix_tup (pe_ix ix_list (pv 0) (pe_op op_add (pv 1) pe_int) fun _ _ => rfl) pe_int fun _ _ => rfl) pe_str (nomark _)))))
      (pss_cons (ps_set (i := 5) scLawReadItem.nd rfl (.inl rfl) (pe_ix ix_tup (pe_ix ix_list (pv 0) (pv 1) fun _ _ => rfl) pe_int fun _ _ => rfl))
      (pss_cons (ps_if (PW.pt (pw_or (pt_cmpR (op_eqD hu) (pv 3) (pe_lst pa_nil) (nomark _)) (pw_or (pt_cmpR op_gt (pe_callB call_len_seq (by rfl) b.len PySem.boot_len (pa_cons (pv 4) pa_nil)) pe_int (nomark _)) (pw_or1 (pt_cmpR op_notIn_seq (pv 5) (pv 2) rfl)))))
        (pss_one (ps_ret (pe_tup (pa_cons pe_non (pa_cons (pe_ix ix_tup (pe_ix ix_list (pv 0) (pv 1) fun _ _ => rfl) pe_int fun _ _ => rfl) pa_nil)))))
        pss_nil)
      (pss_cons (ps_asg (pe_ix ix_list (pv 0) (pe_op op_add (pv 1) pe_int) fun _ _ => rfl) (pg_tup rfl (pgs_cons (pg_name (i := 6) scLawReadItem.nd rfl (.inl rfl)) (pgs_cons (pg_name (i := 7) scLawReadItem.nd rfl (.inl rfl)) pgs_nil))))
      (pss_one (ps_ret (pe_ifExp (PW.pt (pw_and (pt_cmpR op_in_seq (pv 6) (pv 2) rfl) (pw_and1 (pt_cmpR op_ne (pv 6) (pv 5) (nomark _))))) (pe_tup (pa_cons (pe_tup (pa_cons (pv 5) (pa_cons (pv 6) pa_nil))) (pa_cons (pe_op op_add (pv 1) pe_int) pa_nil))) (pe_tup (pa_cons pe_non (pa_cons (pv 7) pa_nil)))))))))
      pss_nil)
    (pss_cons (ps_if (PW.pt (pw_or (pt_cmpR (op_neD hu) (pv 4) (pe_lst pa_nil) (nomark _)) (pw_or1 (pt_cmpR op_gt (pe_callB call_len_seq (by rfl) b.len PySem.boot_len (pa_cons (pv 3) pa_nil)) pe_int (nomark _)))))
      (pss_one (ps_ret (pe_tup (pa_cons pe_non (pa_cons (pe_ix ix_tup (pe_ix ix_list (pv 0) (pv 1) fun _ _ => rfl) pe_int fun _ _ => rfl) pa_nil)))))
      pss_nil)
    (pss_one (ps_ret (pe_call GRy hr2 rfl aRy.gl aRy.fn.kp aRy.bd .nil pass0 (pa_cons (pv 0) (pa_cons (pv 1) (pa_cons (pv 2) pa_nil)))))))), ?_⟩
    obtain ⟨t, r0, rfl⟩ := en.cons
    obtain ⟨a0, g0, ha0⟩ := tk.at_ ed
    obtain ⟨ed1, lk⟩ := drop_next ed
    have lus : us.length = ts.length := tk.ea.len
    have lt6 : tv.length ≤ 6 := by rw [et.len]; exact ok.t6
    have ll3 : lv.length ≤ 3 := by rw [el.len]; exact ok.l3
    refine ⟨fun σ' H' => σ' = [some (.ref l), some (.int (k : Nat)), some (.ref n), some (.ref tl), some (.ref ll), none, none, none] ∧ H' = H ∧ pairNext (t :: r0) = false, ?_, ?_⟩
    · refine ⟨_, rfl, _, _, rfl, rfl, _, rfl, l, _, rfl, .inl (SqL.of tk.li), _, _, rfl, rfl, _, rfl, ?_⟩
      rcases pairNext_is en with ⟨rfl, pn⟩ | ⟨u, r1, rfl, pn⟩
      · have e1 : ts.length ≤ k + 1 := by
          apply Nat.le_of_not_lt
          intro q
          have := List.drop_eq_getElem_cons q
          rw [ed1] at this
          cases this
        rw [decide_eq_false (show ¬ ((k : Nat) : Int) + 1 < ((us.length : Nat) : Int) by omega)]
        exact iteF ⟨rfl, rfl, pn⟩
      · obtain ⟨a1, g1, ha1⟩ := tk.at_ ed1
        obtain ⟨ed2, lk1⟩ := drop_next ed1
        rw [decide_eq_true (show ((k : Nat) : Int) + 1 < ((us.length : Nat) : Int) by omega)]
        refine iteT ⟨_, rfl, _, rfl, _, _, rfl, rfl, l, _, _, _, rfl, rfl, SqL.of tk.li, atI_nat (j := k + 1) g1, a1, _, _, _, rfl, rfl, SqT.of ha1, atI_nat (j := 0) rfl, rfl, _, rfl, ?_⟩
        rw [str_eq]
        by_cases eu : u.2 = "<"
        rotate_left
        · rw [decide_eq_false eu] at pn ⊢
          exact iteF ⟨rfl, rfl, pn⟩
        rw [decide_eq_true eu] at pn ⊢
        have em := clauseM_pair (zs := zs) (c := c) pn
        refine iteT ⟨_, rfl, _, rfl, l, _, _, _, rfl, rfl, SqL.of tk.li, atI_nat g0, a0, _, _, _, rfl, rfl, SqT.of ha0, atI_nat (j := 0) rfl, ?_⟩
        refine ⟨_, rfl, by show 0 ≤ sizeLine; decide, fun N hN => ?_⟩
        have sN := same_new (o := HO.lst []) hN
        obtain ⟨ds, dp, ld, lay⟩ := dp_ties (K := K) (et.mono fun _ _ y => y.moved (same_tups sN))
        have layd : Lay 3 (.list ds) := .list (lay zs nz ok.tt)
        have tkN := tk.moved sN
        have bad : ¬ ((c.1 ≠ [] ∧ c.2.length < 3) ∧ t.2 ∈ zs) → ∀ (p : Addr) (H' : Hp), Same H H' → H' p = some (.tup [.non, .int (t.1 : Nat)]) → Q (.ref p) H' := fun nc p H' s hp => by
          by_cases g : c.1 ≠ [] ∧ c.2.length < 3
          · rw [if_pos g, pairM_no1 (fun m => nc ⟨g, m⟩)] at em
            exact q3 _ em p H' s hp
          · rw [if_neg g] at em
            exact q3 _ em p H' s hp
        have out : ∀ σ : L2.St, σ[0]? = some (some (.ref l)) → σ[1]? = some (some (.int (k : Nat))) → ¬ ((c.1 ≠ [] ∧ c.2.length < 3) ∧ t.2 ∈ zs) → tRet (tTup (tCons (tC .non) (tCons (tOp (rIxT K) (tOp (rIxL K) (tVar 0) (tVar 1)) (tC (.int 1))) tNil))) { nx := fun _ H' => Q .non H', rt := Q } σ (upd H N (.lst [])) := fun σ e0 e1 nc => by
          refine ⟨_, e0, _, e1, l, _, _, _, rfl, rfl, SqL.of tkN.li, atI_nat g0, a0, _, _, _, rfl, rfl, SqT.of (sN _ _ ha0), atI_nat (j := 1) rfl, by show 2 ≤ sizeLine; decide, fun p hp => ?_⟩
          exact bad nc p _ (sN.trans (same_new hp)) upd_same
        refine ⟨.list ds, .list [], .lst (SqL.of (sN _ _ ht)) dp, .lst (SqL.of upd_same) .nil, layd.shaped (by decide), by decide +kernel, _, rfl, ?_⟩
        rw [eqv_nil]
        by_cases c1 : c.1 = []
        · have dse : ds.isEmpty = true := by
            rw [c1] at ld
            rw [List.length_eq_zero_iff.mp ld]
            rfl
          rw [dse]
          exact iteT (iteT (out _ rfl rfl fun h => h.1.1 c1))
        have dse : ds.isEmpty = false := by
          cases ds with
          | nil => exact absurd (List.length_eq_zero_iff.mp ld.symm) c1
          | cons _ _ => rfl
        rw [dse]
        refine iteF ⟨_, rfl, ll, _, rfl, .inl (SqL.of (sN _ _ hl)), _, _, rfl, rfl, _, rfl, ?_⟩
        by_cases c3 : c.2.length < 3
        rotate_left
        · rw [decide_eq_true (show (2 : Int) < ((lv.length : Nat) : Int) by rw [el.len]; omega)]
          exact iteT (iteT (out _ rfl rfl fun h => c3 h.1.2))
        rw [decide_eq_false (show ¬ (2 : Int) < ((lv.length : Nat) : Int) by rw [el.len]; omega)]
        refine iteF ⟨_, rfl, _, rfl, n, _, rfl, .inr (SqT.of (sN _ _ hn)), rfl, strs_flat _, _, rfl, ?_⟩
        rw [inV_str]
        by_cases m1 : t.2 ∈ zs
        rotate_left
        · rw [decide_eq_false m1]
          exact iteT (out _ rfl rfl fun h => m1 h.2)
        rw [decide_eq_true m1]
        have en1 := en.next (name_ne (nz _ m1))
        have en2 := en1.next (by rw [eu]; decide +kernel)
        obtain ⟨v, r2, rfl⟩ := en2.cons
        obtain ⟨a2, g2, ha2⟩ := tk.at_ ed2
        obtain ⟨ed3, _⟩ := drop_next ed2
        rw [if_pos ⟨c1, c3⟩, pairM_cons, if_pos m1, if_pos eu] at em
        refine iteF ⟨_, rfl, _, rfl, _, _, rfl, rfl, l, _, _, _, rfl, rfl, SqL.of tkN.li, atI_nat (j := k + 2) g2, ?_⟩
        refine ⟨a2, _, rfl, SqT.of (sN _ _ ha2), rfl, _, _, rfl, _, _, rfl, rfl, ?_⟩
        refine ⟨_, rfl, _, rfl, n, _, rfl, .inr (SqT.of (sN _ _ hn)), rfl, strs_flat _, _, rfl, ?_⟩
        rw [inV_str]
        have last : ¬ (v.2 ∈ zs ∧ v.2 ≠ t.2) → ∀ (p : Addr) (H' : Hp), Same H H' → H' p = some (.tup [.non, .int (v.1 : Nat)]) → Q (.ref p) H' := fun nc p H' s hp => by
          rw [if_neg nc] at em
          exact q3 _ em p H' s hp
        by_cases m2 : v.2 ∈ zs
        rotate_left
        · rw [decide_eq_false m2]
          refine iteF ⟨_, rfl, by show 2 ≤ sizeLine; decide, fun p hp => ?_⟩
          exact last (fun h => m2 h.1) p _ (sN.trans (same_new hp)) upd_same
        rw [decide_eq_true m2]
        refine iteT ⟨_, rfl, _, rfl, rfl, _, rfl, ?_⟩
        rw [str_eq]
        by_cases ne : v.2 = t.2
        · rw [decide_eq_true ne]
          refine iteF ⟨_, rfl, by show 2 ≤ sizeLine; decide, fun p hp => ?_⟩
          exact last (fun h => h.2 ne) p _ (sN.trans (same_new hp)) upd_same
        rw [decide_eq_false ne]
        rw [if_pos ⟨m2, ne⟩] at em
        refine iteT ⟨_, rfl, _, rfl, by show 2 ≤ sizeLine; decide, fun B hB => ?_⟩
        have sB := same_new (o := HO.tup [.str t.2, .str v.2]) hB
        refine ⟨_, rfl, _, _, rfl, rfl, by show 2 ≤ sizeLine; decide, fun R hR => ?_⟩
        have sR := same_new (o := HO.tup [.ref B, .int (((k : Nat) : Int) + 3)]) hR
        exact q1 pn _ _ em R (.ref B) (k + 3) _ ((sN.trans sB).trans sR) upd_same ed3 (en2.next (name_ne (nz _ m2))) ⟨B, rfl, sR _ _ upd_same⟩
    · rintro σ' H' ⟨rfl, rfl, pn⟩
      have em := clauseM_tie (zs := zs) (c := c) pn
      have bad : ¬ (c.2 = [] ∧ c.1.length < 6) → ∀ (p : Addr) (H2 : Hp), Same H' H2 → H2 p = some (.tup [.non, .int (t.1 : Nat)]) → Q (.ref p) H2 := fun nc p H2 s hp => by
        rw [if_neg nc] at em
        exact q3 _ em p H2 s hp
      refine ⟨_, rfl, by show 0 ≤ sizeLine; decide, fun N hN => ?_⟩
      have sN := same_new (o := HO.lst []) hN
      have tkN := tk.moved sN
      have out : ∀ σ : L2.St, σ[0]? = some (some (.ref l)) → σ[1]? = some (some (.int (k : Nat))) → ¬ (c.2 = [] ∧ c.1.length < 6) → tRet (tTup (tCons (tC .non) (tCons (tOp (rIxT K) (tOp (rIxL K) (tVar 0) (tVar 1)) (tC (.int 1))) tNil))) { nx := fun _ H' => Q .non H', rt := Q } σ (upd H' N (.lst [])) := fun σ e0 e1 nc => by
        refine ⟨_, e0, _, e1, l, _, _, _, rfl, rfl, SqL.of tkN.li, atI_nat g0, a0, _, _, _, rfl, rfl, SqT.of (sN _ _ ha0), atI_nat (j := 1) rfl, by show 2 ≤ sizeLine; decide, fun p hp => ?_⟩
        exact bad nc p _ (sN.trans (same_new hp)) upd_same
      obtain ⟨ds, dp, ld, lay⟩ : ∃ ds, DpAll K (upd H' N (.lst [])) lv ds ∧ ds.length = c.2.length ∧ (∀ d ∈ ds, Lay 1 d) := by
        have h := el.mono fun _ _ y => y.moved (same_tups sN)
        have nzl : ∀ p ∈ c.2, NameS 4 p.1 ∧ NameS 4 p.2 := fun p m => ⟨nz _ (ok.ll p m).1, nz _ (ok.ll p m).2.1⟩
        clear q1 q2 q3 em bad out ok hl el ll3
        generalize c.2 = ps at h nzl
        induction h with
        | nil => exact ⟨[], .nil, rfl, fun d m => by cases m⟩
        | @cons v x vs xs hv hr ih =>
          obtain ⟨a, rfl, ha⟩ := hv
          obtain ⟨ds, h1, h2, h3⟩ := ih (fun p m => nzl p (List.mem_cons_of_mem _ m))
          refine ⟨_ :: ds, .cons (.tup (SqT.of ha) (.cons (.str _) (.cons (.str _) .nil))) h1, congrArg (· + 1) h2, fun d m => ?_⟩
          rcases List.mem_cons.mp m with rfl | m
          · obtain ⟨n1, n2⟩ := nzl x List.mem_cons_self
            refine .tuple fun d m => ?_
            rcases List.mem_cons.mp m with rfl | m
            · exact name_lay n1
            · rw [List.mem_singleton.mp m]
              exact name_lay n2
          · exact h3 d m
      have layd : Lay 2 (.list ds) := .list lay
      refine ⟨.list ds, .list [], .lst (SqL.of (sN _ _ hl)) dp, .lst (SqL.of upd_same) .nil, layd.shaped (by decide), by decide +kernel, _, rfl, ?_⟩
      rw [eqv_nil]
      by_cases c2 : c.2 = []
      rotate_left
      · have dse : ds.isEmpty = false := by
          cases ds with
          | nil => exact absurd (List.length_eq_zero_iff.mp ld.symm) c2
          | cons _ _ => rfl
        rw [dse]
        exact iteT (iteT (out _ rfl rfl fun h => c2 h.1))
      have dse : ds.isEmpty = true := by
        rw [c2] at ld
        rw [List.length_eq_zero_iff.mp ld]
        rfl
      rw [dse]
      refine iteF ⟨_, rfl, tl, _, rfl, .inl (SqL.of (sN _ _ ht)), _, _, rfl, rfl, _, rfl, ?_⟩
      by_cases c6 : c.1.length < 6
      rotate_left
      · rw [decide_eq_true (show (5 : Int) < ((tv.length : Nat) : Int) by rw [et.len]; omega)]
        exact iteT (out _ rfl rfl fun h => c6 h.2)
      rw [decide_eq_false (show ¬ (5 : Int) < ((tv.length : Nat) : Int) by rw [et.len]; omega)]
      rw [if_pos ⟨c2, c6⟩] at em
      refine iteF ⟨_, rfl, _, rfl, _, rfl, l, us, ts, k, n, zs, t :: r0, rfl, tkN, sN _ _ hn, fun z m => name_ne (nz z m), ed, en, fun x r e p v k' H2 s2 hp edr enr tv => ?_, fun m e p H2 s2 hp => ?_⟩
      · rw [e] at em
        exact q2 pn x r em p v k' H2 (sN.trans s2) hp edr enr tv
      · rw [e] at em
        exact q3 _ em p H2 (sN.trans s2) hp
end
end VQ
namespace VQ
open PySem L2 LamX
/-! ### the law's reader, of any parts: the head -/
def headQ (ts : List Tk) : Except Nat ((List Str × Nat) × List Tk) := match signM "find" ts with
  | .error e => .error e
  | .ok r => headM r
theorem nameOk_is (zs : List Str) (z : Str) : nameOk zs z = (nameB 8 z && (decide (z.length < 5) && (!decide (z ∈ zs) && decide (zs.length < 5)))) := by
  unfold nameOk
  rw [← Bool.and_assoc (nameB 8 z)]
  congr 1
  rw [Bool.eq_iff_iff, Bool.and_eq_true, nameB_iff, nameB_iff, decide_eq_true_eq]
  exact ⟨fun h => ⟨h.mono (by decide), Nat.lt_succ_of_le h.hi⟩, fun ⟨h, l⟩ => ⟨h.lo, Nat.le_of_lt_succ l, h.nf, h.ns, h.lt⟩⟩
theorem lheadM_colon {zs : List Str} {m : Nat} {t : Tk} {r : List Tk} (h : t.2 = ":" ∧ m < zs.length) : lheadM zs m (t :: r) = .ok ((zs, if m = 0 then zs.length else m), r) := by
  conv => lhs; unfold lheadM
  rw [if_pos h]
theorem lheadM_some {zs : List Str} {m : Nat} {t : Tk} {r : List Tk} (n : ¬ (t.2 = ":" ∧ m < zs.length)) (h : t.2 = "some" ∧ m = 0 ∧ zs ≠ []) : lheadM zs m (t :: r) = lheadM zs zs.length r := by
  conv => lhs; unfold lheadM
  rw [if_neg n, if_pos h]
theorem lheadM_else {zs : List Str} {m : Nat} {t : Tk} {r : List Tk} (n : ¬ (t.2 = ":" ∧ m < zs.length)) (n2 : ¬ (t.2 = "some" ∧ m = 0 ∧ zs ≠ [])) : lheadM zs m (t :: r) = if nameOk zs t.2 = true then lheadM (zs ++ [t.2]) m r else .error t.1 := by
  conv => lhs; unfold lheadM
  rw [if_neg n, if_neg n2]
/-- tests one behind the other, each of which makes at most new things -/
theorem and_same {t u : TT} {σ : L2.St} {H : Hp} {c d : Bool} (h1 : ∀ Q : Bool → Hp → Prop, (∀ H', Same H H' → Q c H') → t σ H Q) (h2 : ∀ H0, Same H H0 → ∀ Q : Bool → Hp → Prop, (∀ H', Same H0 H' → Q d H') → u σ H0 Q) (Q : Bool → Hp → Prop) (q : ∀ H', Same H H' → Q (c && d) H') : tAnd t u σ H Q := by
  refine h1 _ fun H' s => ?_
  cases c with
  | true => exact h2 H' s Q fun H2 s2 => q H2 (s.trans s2)
  | false => exact q H' s
theorem or_same {t u : TT} {σ : L2.St} {H : Hp} {c d : Bool} (h1 : ∀ Q : Bool → Hp → Prop, (∀ H', Same H H' → Q c H') → t σ H Q) (h2 : ∀ H0, Same H H0 → ∀ Q : Bool → Hp → Prop, (∀ H', Same H0 H' → Q d H') → u σ H0 Q) (Q : Bool → Hp → Prop) (q : ∀ H', Same H H' → Q (c || d) H') : tOr t u σ H Q := by
  refine h1 _ fun H' s => ?_
  cases c with
  | true => exact q H' s
  | false => exact h2 H' s Q fun H2 s2 => q H2 (s.trans s2)
section
variable {P : Program} {w : World} {K : PySem.W.Frag} {mg : Str → Option Value} {base : Heap}
def spRHeadX : Sp := fun vs H Q _ => ∃ (l : Addr) (us : List V) (ts : List Tk), vs = [.ref l] ∧ TkLs H l us ts ∧
  (∀ zs m r, headQ ts = .ok ((zs, m), r) → ∀ (p h n : Addr) (pos : Nat) (H' : Hp), Same H H' → H' p = some (.tup [.ref h, .int (pos : Nat)]) → H' h = some (.tup [.ref n, .int (m : Nat)]) → NmAt H' n zs → ts.drop pos = r → 1 ≤ pos → Ends r → Q (.ref p) H') ∧
  (∀ m, headQ ts = .error m → ∀ (p : Addr) (H' : Hp), Same H H' → H' p = some (.tup [.non, .int (m : Nat)]) → Q (.ref p) H')
theorem has_rheadX (b : Blt mg) (hGn : Has P w K mg base CX0 1 "_law_good_name" sLawGoodName ["_law_name"] spGoodNameX) (a : AtE K mg "_law_read_head" sLawReadHead ["_law_tokens_here"]) : Has P w K mg base CX0 2 "_law_read_head" sLawReadHead ["_law_tokens_here"] spRHeadX := by
  obtain ⟨f, fd, a⟩ := a
  obtain ⟨fGn, fdGn, aGn, GGn⟩ := hGn
  refine ⟨f, fd, a, a.fn.ok scLawReadHead (fun vs H Q E h => ?_) (fun cdv A outer s H vs Q E hr1 h => ?_)⟩
  · obtain ⟨l, us, ts, rfl, _⟩ := h
    rfl
  · obtain ⟨l, us, ts, rfl, tk, q1, q2⟩ := h
    have hu : (A.deeper (PyProof.Rows.envOfC "_law_read_head" (defScope sLawReadHead) s.heap.objs.size f cdv)).units + 64 < cLine := hr1.units
    refine ⟨_,
    (pss_cons (ps_par (i := 1) (j := 2) rfl scLawReadHead.nd rfl rfl (by decide) rfl rfl (pa_cons (pe_lst pa_nil) (pa_cons pe_int pa_nil)) rfl)
    (pss_cons (ps_if (pt_cmpR op_ne (pe_ix ix_tup (pe_ix ix_list (pv 0) pe_int fun _ _ => rfl) pe_int fun _ _ => rfl) pe_str (nomark _))
      (pss_one (ps_ret (pe_tup (pa_cons pe_non (pa_cons (pe_ix ix_tup (pe_ix ix_list (pv 0) pe_int fun _ _ => rfl) pe_int fun _ _ => rfl) pa_nil)))))
      pss_nil)
    (pss_cons (ps_for PassesOwn.never rfl (pi_range2 rfl b.range (pa_cons pe_int (pa_cons (pe_callB call_len_seq (by rfl) b.len PySem.boot_len (pa_cons (pv 0) pa_nil)) pa_nil))) (pg_name (i := 3) scLawReadHead.nd rfl (.inl rfl))
      (pss_cons (ps_asg (pe_ix ix_list (pv 0) (pv 3) fun _ _ => rfl) (pg_tup rfl (pgs_cons (pg_name (i := 4) scLawReadHead.nd rfl (.inl rfl)) (pgs_cons (pg_name (i := 5) scLawReadHead.nd rfl (.inl rfl)) pgs_nil))))
      (C8.pss_cut (ps_if (PW.pt (pw_and (pt_cmpR op_eq (pv 4) pe_str (nomark _)) (pw_and1 (pt_cmpR op_gt (pe_callB call_len_seq (by rfl) b.len PySem.boot_len (pa_cons (pv 1) pa_nil)) (pv 2) (nomark _)))))
        (pss_one (ps_ret (pe_tup (pa_cons (pe_tup (pa_cons (pe_callTy call_tuple_of (by rfl) b.tuple (by decide +kernel) (pa_cons (pv 1) pa_nil)) (pa_cons (pe_ifExp (pt_cmpR op_eq (pv 2) pe_int (nomark _)) (pe_callB call_len_seq (by rfl) b.len PySem.boot_len (pa_cons (pv 1) pa_nil)) (pv 2)) pa_nil))) (pa_cons (pe_op op_add (pv 3) pe_int) pa_nil)))))
        pss_nil)
      (pss_one (ps_if (PW.pt (pw_and (pt_cmpR op_eq (pv 4) pe_str (nomark _)) (pw_and (pt_cmpR op_eq (pv 2) pe_int (nomark _)) (pw_and1 (pt_cmpR (op_neD hu) (pv 1) (pe_lst pa_nil) (nomark _))))))
        (pss_one (ps_set (i := 2) scLawReadHead.nd rfl (.inl rfl) (pe_callB call_len_seq (by rfl) b.len PySem.boot_len (pa_cons (pv 1) pa_nil))))
        (pss_one (ps_if (PW.pt (pw_and (pt_val (pe_call GGn hr1 rfl aGn.gl aGn.fn.kp aGn.bd .nil pass0 (pa_cons (pv 4) pa_nil))) (pw_and (pt_cmpR op_lt (pe_callB call_len_str (by rfl) b.len PySem.boot_len (pa_cons (pv 4) pa_nil)) pe_int (nomark _)) (pw_and (pt_cmpR op_notIn_seq (pv 4) (pv 1) rfl) (pw_and1 (pt_cmpR op_lt (pe_callB call_len_seq (by rfl) b.len PySem.boot_len (pa_cons (pv 1) pa_nil)) pe_int (nomark _)))))))
          (pss_one (ps_expr (pe_bm PySem.F.plainAttrs_list PySem.F.slot_list_append PySem.F.type_list_append mt_append (pv 1) (pa_cons (pv 4) pa_nil))))
          (pss_one (ps_ret (pe_tup (pa_cons pe_non (pa_cons (pv 5) pa_nil))))))))))))
    (pss_one (ps_ret (pe_tup (pa_cons pe_non (pa_cons pe_int pa_nil)))))))), ?_⟩
    obtain ⟨t, r0, ets⟩ := tk.en.cons
    have ed0 : ts.drop 0 = t :: r0 := ets
    have lus : us.length = ts.length := tk.ea.len
    have few := tk.few
    have lts : ts.length = r0.length + 1 := by rw [ets]; rfl
    obtain ⟨a0, g0, ha0⟩ := tk.at_ ed0
    obtain ⟨ed1, _⟩ := drop_next ed0
    refine ⟨by show 0 ≤ sizeLine; decide, fun L hL => ⟨_, _, rfl, ?_⟩⟩
    have sL := same_new (o := HO.lst []) hL
    have tkL := tk.moved sL
    refine ⟨_, rfl, l, _, _, _, rfl, rfl, SqL.of tkL.li, atI_nat (j := 0) g0, a0, _, _, _, rfl, rfl, SqT.of (sL _ _ ha0), atI_nat (j := 0) rfl, rfl, _, rfl, ?_⟩
    rw [str_eq]
    by_cases ef : t.2 = "find"
    rotate_left
    · rw [decide_eq_false ef]
      refine iteT ⟨_, rfl, l, _, _, _, rfl, rfl, SqL.of tkL.li, atI_nat (j := 0) g0, a0, _, _, _, rfl, rfl, SqT.of (sL _ _ ha0), atI_nat (j := 1) rfl, by show 2 ≤ sizeLine; decide, fun p hp => ?_⟩
      refine q2 t.1 ?_ p _ (sL.trans (same_new hp)) upd_same
      unfold headQ
      rw [ets, signM_no ef]
    rw [decide_eq_true ef]
    have eh : headQ ts = lheadM [] 0 r0 := by
      unfold headQ
      rw [ets, signM_yes ef]
      exact (lhead_is r0).symm
    rw [eh] at q1 q2
    have en0 : Ends r0 := (ets ▸ tk.en).next (by rw [ef]; decide +kernel)
    refine iteF ?_
    refine ⟨_, rfl, l, _, rfl, .inl (SqL.of tkL.li), _, _, rfl, ⟨by omega, by omega, by omega, by omega⟩, ?_⟩
    refine for_range (lo := 1) (n := (((us.length : Nat) : Int) - 1).toNat) (fun i σ H' => ∃ (x3 x4 x5 : Option V) (mm : Nat) (zs : List Str), σ = [some (.ref l), some (.ref L), some (.int (mm : Nat)), x3, x4, x5] ∧ Same H H' ∧ H' L = some (.lst (zs.map V.str)) ∧ zs.length ≤ 5 ∧ (∀ z ∈ zs, NameS 4 z) ∧ mm ≤ 5 ∧ (ts.drop (1 + i) ≠ [] → Ends (ts.drop (1 + i))) ∧ lheadM [] 0 r0 = lheadM zs mm (ts.drop (1 + i)))
      ⟨none, none, none, 0, [], rfl, sL, upd_same, Nat.zero_le _, fun _ m => (by cases m), Nat.zero_le _, fun _ => by rw [ed1]; exact en0, by rw [ed1]⟩ ?_ ?_
    · rintro i σ H2 hi ⟨x3, x4, x5, mm, zs, rfl, s2, h2, z5, nz, m5, enr, eq⟩
      have li : 1 + i < ts.length := by omega
      have er := List.drop_eq_getElem_cons li
      generalize ts[1 + i] = y at er
      generalize ts.drop (1 + i + 1) = r at er
      rw [er] at enr eq
      have enr := enr (List.cons_ne_nil _ _)
      rw [eq] at q1 q2
      obtain ⟨a1, g1, ha1⟩ := tk.at_ er
      obtain ⟨edn, _⟩ := drop_next er
      have big : (900 : Nat) ≤ sizeLine := by decide
      have y9 := enr.short
      have tk2 := tk.moved s2
      refine ⟨_, rfl, _, rfl, l, _, _, _, rfl, rfl, SqL.of tk2.li, atI_nat (j := 1 + i) g1, a1, _, rfl, SqT.of (s2 _ _ ha1), rfl, _, _, rfl, _, _, rfl, rfl, ?_⟩
      refine ⟨fun σ' H' => σ' = [some (.ref l), some (.ref L), some (.int (mm : Nat)), some (.int (1 + (i : Int))), some (.str y.2), some (.int (y.1 : Nat))] ∧ Same H2 H' ∧ ¬ (y.2 = ":" ∧ mm < zs.length), ?_, ?_⟩
      · refine and_same (c := decide (y.2 = ":")) (d := decide (mm < zs.length)) (fun Q' q => ⟨_, rfl, rfl, _, rfl, ?t1⟩) (fun H0 s0 Q' q => ⟨_, rfl, L, _, rfl, .inl (SqL.of (s0 _ _ h2)), _, rfl, _, _, rfl, rfl, _, rfl, ?t2⟩) _ fun H3 s3 => ?main
        case t1 =>
          rw [str_eq]
          exact q _ (Same.refl _)
        case t2 =>
          rw [List.length_map, show decide (((mm : Nat) : Int) < ((zs.length : Nat) : Int)) = decide (mm < zs.length) from decide_eq_decide.mpr (by omega)]
          exact q _ (Same.refl _)
        case main =>
          by_cases c : y.2 = ":" ∧ mm < zs.length
          · rw [decide_eq_true c.1, decide_eq_true c.2]
            rw [lheadM_colon c] at q1
            have h3 := s3 _ _ h2
            refine iteT ⟨_, rfl, L, _, rfl, .inl ⟨SqL.of h3, fun D hD => ?_⟩⟩
            have sD := same_new (o := HO.tup (zs.map V.str)) hD
            have fin : ∀ (v : Int), v = (((if mm = 0 then zs.length else mm) : Nat) : Int) → ∀ B, upd H3 D (HO.tup (zs.map V.str)) B = none → ∀ R, upd (upd H3 D (HO.tup (zs.map V.str))) B (.tup [.ref D, .int v]) R = none → Q (.ref R) (upd (upd (upd H3 D (HO.tup (zs.map V.str))) B (.tup [.ref D, .int v])) R (.tup [.ref B, .int (1 + ((i : Nat) : Int) + 1)])) := by
              rintro v rfl B hB R hR
              have sB := same_new (o := HO.tup [.ref D, .int (((if mm = 0 then zs.length else mm) : Nat) : Int)]) hB
              have sR := same_new (o := HO.tup [.ref B, .int (1 + ((i : Nat) : Int) + 1)]) hR
              exact q1 _ _ _ rfl R B D (1 + i + 1) _ ((((s2.trans s3).trans sD).trans sB).trans sR) upd_same (sR _ _ upd_same) ((sB.trans sR) _ _ upd_same) edn (by omega) (enr.next (by rw [c.1]; decide +kernel))
            refine ⟨_, rfl, rfl, _, rfl, ?_⟩
            by_cases m0 : mm = 0
            · rw [decide_eq_true (show V.int ((mm : Nat) : Int) = V.int 0 by rw [m0]; rfl)]
              refine iteT ⟨_, rfl, L, _, rfl, .inl (SqL.of (sD _ _ h3)), by show 2 ≤ sizeLine; decide, fun B hB => ?_⟩
              refine ⟨_, rfl, _, _, rfl, rfl, by show 2 ≤ sizeLine; decide, fun R hR => ?_⟩
              exact fin _ (by rw [if_pos m0, List.length_map]) B hB R hR
            · rw [decide_eq_false (show ¬ V.int ((mm : Nat) : Int) = V.int 0 from fun e => m0 (by injection e with e; omega))]
              refine iteF ⟨_, rfl, by show 2 ≤ sizeLine; decide, fun B hB => ?_⟩
              refine ⟨_, rfl, _, _, rfl, rfl, by show 2 ≤ sizeLine; decide, fun R hR => ?_⟩
              exact fin _ (by rw [if_neg m0]) B hB R hR
          · have e : (decide (y.2 = ":") && decide (mm < zs.length)) = false := by
              rw [Bool.eq_false_iff]
              intro h
              rw [Bool.and_eq_true, decide_eq_true_eq, decide_eq_true_eq] at h
              exact c h
            rw [e]
            exact iteF ⟨rfl, s3, c⟩
      · rintro σ' H3 ⟨rfl, s3, nc⟩
        have s03 := s2.trans s3
        have h3 := s3 _ _ h2
        refine and_same (c := decide (y.2 = "some")) (d := decide (mm = 0) && !decide (zs = [])) (fun Q' q => ⟨_, rfl, rfl, _, rfl, ?t1⟩) (fun H0 s0 => and_same (c := decide (mm = 0)) (d := !decide (zs = [])) (fun Q' q => ⟨_, rfl, rfl, _, rfl, ?t2⟩) (fun H1 s1 Q' q => ⟨_, rfl, by show 0 ≤ sizeLine; decide, fun N hN => ?t3⟩)) _ fun H4 s4 => ?main
        case t1 =>
          rw [str_eq]
          exact q _ (Same.refl _)
        case t2 =>
          rw [show decide (V.int ((mm : Nat) : Int) = V.int 0) = decide (mm = 0) from decide_eq_decide.mpr ⟨fun e => by injection e with e; omega, fun e => by rw [e]; rfl⟩]
          exact q _ (Same.refl _)
        case t3 =>
          have sN := same_new (o := HO.lst []) hN
          refine ⟨_, .list [], .lst (SqL.of (sN _ _ (s1 _ _ (s0 _ _ h3)))) (dp_strs _), .lst (SqL.of upd_same) .nil, (lay_strs nz).shaped (by decide), by decide +kernel, _, rfl, ?_⟩
          rw [eqv_nil]
          have ne : (zs.map PyData.str).isEmpty = decide (zs = []) := by cases zs <;> rfl
          rw [ne]
          exact q _ sN
        case main =>
          have s04 := s03.trans s4
          have h4 := s4 _ _ h3
          by_cases c : y.2 = "some" ∧ mm = 0 ∧ zs ≠ []
          · have e : (decide (y.2 = "some") && (decide (mm = 0) && !decide (zs = []))) = true := by
              rw [decide_eq_true c.1, decide_eq_true c.2.1, decide_eq_false c.2.2]
              rfl
            rw [e]
            refine iteT ⟨_, rfl, L, _, rfl, .inl (SqL.of h4), ?_⟩
            rw [lheadM_some nc c] at eq
            refine ⟨_, _, _, zs.length, zs, by rw [List.length_map]; rfl, s04, h4, z5, nz, z5, fun _ => ?_, ?_⟩
            · exact enr.next (by rw [c.1]; decide +kernel)
            · exact eq
          · have e : (decide (y.2 = "some") && (decide (mm = 0) && !decide (zs = []))) = false := by
              rw [Bool.eq_false_iff]
              intro h
              rw [Bool.and_eq_true, Bool.and_eq_true, decide_eq_true_eq, decide_eq_true_eq, Bool.not_eq_true', decide_eq_false_iff_not] at h
              exact c h
            rw [e]
            refine iteF ?_
            rw [lheadM_else nc c] at q2 eq
            refine and_same (c := nameB 8 y.2) (d := decide (y.2.length < 5) && (!decide (y.2 ∈ zs) && decide (zs.length < 5))) (fun Q' q => ⟨_, rfl, y.2, rfl, y9, fun H5 s5 => ⟨_, rfl, q H5 s5⟩⟩) (fun H0 s0 => and_same (c := decide (y.2.length < 5)) (d := !decide (y.2 ∈ zs) && decide (zs.length < 5)) (fun Q' q => ⟨_, rfl, y.2, rfl, by omega, _, _, rfl, rfl, _, rfl, ?t1⟩) (fun H1 s1 => and_same (c := !decide (y.2 ∈ zs)) (d := decide (zs.length < 5)) (fun Q' q => ⟨_, rfl, _, rfl, L, _, rfl, .inl (SqL.of (s1 _ _ (s0 _ _ h4))), rfl, strs_flat _, _, rfl, ?t2⟩) (fun H6 s6 Q' q => ⟨_, rfl, L, _, rfl, .inl (SqL.of (s6 _ _ (s1 _ _ (s0 _ _ h4)))), _, _, rfl, rfl, _, rfl, ?t3⟩))) _ fun H7 s7 => ?main
            case t1 =>
              rw [show decide (((y.2.length : Nat) : Int) < 5) = decide (y.2.length < 5) from decide_eq_decide.mpr (by omega)]
              exact q _ (Same.refl _)
            case t2 =>
              rw [inV_str]
              exact q _ (Same.refl _)
            case t3 =>
              rw [List.length_map, show decide (((zs.length : Nat) : Int) < 5) = decide (zs.length < 5) from decide_eq_decide.mpr (by omega)]
              exact q _ (Same.refl _)
            case main =>
              rw [← nameOk_is]
              have h7 := s7 _ _ h4
              have s07 := s04.trans s7
              cases ok : nameOk zs y.2 with
              | true =>
                rw [if_pos ok] at eq
                obtain ⟨n4, nin, l5⟩ := nameOk_word ok
                refine iteT ⟨_, rfl, .inl ⟨rfl, _, SqL.of h7⟩, _, rfl, L, _, _, rfl, rfl, h7, lt_line (by rw [List.length_map]; omega), ?_⟩
                refine ⟨_, _, _, mm, zs ++ [y.2], rfl, same_put s07 hL, ?_, by rw [List.length_append]; exact l5, fun z m => ?_, m5, fun _ => ?_, ?_⟩
                · rw [upd_same, List.map_append]
                  rfl
                · rcases List.mem_append.mp m with m | m
                  · exact nz z m
                  · rw [List.mem_singleton.mp m]
                    exact n4
                · exact enr.next (nameOk_ne ok)
                · exact eq
              | false =>
                rw [if_neg (by rw [ok]; exact Bool.false_ne_true)] at q2
                refine iteF ⟨_, rfl, by show 2 ≤ sizeLine; decide, fun p hp => ?_⟩
                exact q2 _ rfl p _ (s07.trans (same_new hp)) upd_same
    · rintro σ H2 ⟨x3, x4, x5, mm, zs, rfl, s2, h2, z5, nz, m5, enr, eq⟩
      rw [List.drop_of_length_le (by omega)] at eq
      refine ⟨by show 2 ≤ sizeLine; decide, fun p hp => ?_⟩
      exact q2 0 eq p _ (s2.trans (same_new hp)) upd_same
end
end VQ
namespace VQ
open PySem L2 LamX
/-! ### the law's reader, of any text -/
def restQ (zs : List Str) (m N : Nat) (r' : List Tk) : Except Nat Qn := match clausesM zs N ([], []) r' with
  | .error e => .error e
  | .ok (ties, less) => if tiedB zs ties = true then .ok ⟨zs, m, ties, less⟩ else .error 0
theorem readM_head (ts : List Tk) : readM ts = match headQ ts with
    | .error e => .error e
    | .ok ((zs, m), r') => restQ zs m ts.length r' := by
  unfold readM headQ
  cases signM "find" ts with
  | error e => rfl
  | ok r =>
    dsimp only
    cases headM r with
    | error e => rfl
    | ok p => rfl
theorem each_tkw {H : Hp} : ∀ {us : List V} {fs : List (List Nat × Nat)}, Each (TkP H) us fs → Each (TkW H) us (fs.map tkOf)
  | _, _, .nil => .nil
  | _, _, .cons ⟨a, e, h⟩ r => .cons ⟨a, e, h⟩ (each_tkw r)
theorem headQ_ok {ts r : List Tk} {zs : List Str} {m : Nat} (h : headQ ts = .ok ((zs, m), r)) : (∀ z ∈ zs, NameS 4 z) ∧ zs.length ≤ 5 := by
  unfold headQ at h
  cases e : signM "find" ts with
  | error e' => rw [e] at h; cases h
  | ok r1 =>
    rw [e] at h
    obtain ⟨g1, g2, g3, g4, g5⟩ := head_ok h
    exact ⟨g1, g3⟩
theorem any_tied (z : Str) (ties : List (Str × List Term)) : (ties.any fun t => decide (Term.nm z ∈ t.2)) = decide (Term.nm z ∈ ties.flatMap (·.2)) := by
  rw [Bool.eq_iff_iff, List.any_eq_true, decide_eq_true_eq, List.mem_flatMap]
  exact ⟨fun ⟨t, m, h⟩ => ⟨t, m, of_decide_eq_true h⟩, fun ⟨t, m, h⟩ => ⟨t, m, decide_eq_true h⟩⟩
section
variable {P : Program} {w : World} {K : PySem.W.Frag} {mg : Str → Option Value} {base : Heap}
def spReadX : Sp := fun vs H Q _ => ∃ (z : Str), vs = [.str z] ∧ z.length ≤ 900 ∧ (∀ c ∈ z.cps.toList, c < 128) ∧ (∀ q, readM (tksM z) = .ok q → ∀ (p a : Addr) (H' : Hp), Same H H' → H' p = some (.tup [.str "told", .ref a]) → QAt H' a q → Q (.ref p) H') ∧
  (∀ m, readM (tksM z) = .error m → ∀ (p : Addr) (H' : Hp), Same H H' → H' p = some (.tup [.str "BadText", .int (m : Nat)]) → Q (.ref p) H')
theorem has_readX (b : Blt mg) (any : mg "any" = none) (hTk : Has P w K mg base CX0 1 "_law_tokens" sLawTokens ["_law_text_here"] spToksX) (hRh : Has P w K mg base CX0 2 "_law_read_head" sLawReadHead ["_law_tokens_here"] spRHeadX) (hRe : Has P w K mg base CX0 3 "_law_read_item" sLawReadItem ["_law_tokens_here", "_law_k", "_law_names_here", "_law_ties", "_law_less_now"] spRItemX)
    (a : AtE K mg "_law_read" sLawRead ["_law_text_here"]) : Has P w K mg base CX0 4 "_law_read" sLawRead ["_law_text_here"] spReadX := by
  obtain ⟨f, fd, a⟩ := a
  obtain ⟨fTk, fdTk, aTk, GTk⟩ := hTk
  obtain ⟨fRh, fdRh, aRh, GRh⟩ := hRh
  obtain ⟨fRe, fdRe, aRe, GRe⟩ := hRe
  refine ⟨f, fd, a, a.fn.ok scLawRead (fun vs H Q E h => ?_) (fun cdv A outer s H vs Q E hr3 h => ?_)⟩
  · obtain ⟨z, rfl, _⟩ := h
    rfl
  · obtain ⟨z, rfl, z9, asc, q1, q2⟩ := h
    have hr1 : Room 1 _ := hr3.mono (by decide)
    have hr2 : Room 2 _ := hr3.mono (by decide)
    refine ⟨_,
    (pss_cons (ps_set (i := 1) scLawRead.nd rfl (.inl rfl) (pe_op op_cat (pe_call GTk hr1 rfl aTk.gl aTk.fn.kp aTk.bd .nil pass0 (pa_cons (pv 0) pa_nil)) (pe_lst (pa_cons (pe_tup (pa_cons pe_str (pa_cons (pe_callB call_len_str (by rfl) b.len PySem.boot_len (pa_cons (pv 0) pa_nil)) pa_nil))) pa_nil))))
    (pss_cons (ps_asg (pe_call GRh hr2 rfl aRh.gl aRh.fn.kp aRh.bd .nil pass0 (pa_cons (pv 1) pa_nil)) (pg_tup rfl (pgs_cons (pg_name (i := 2) scLawRead.nd rfl (.inl rfl)) (pgs_cons (pg_name (i := 3) scLawRead.nd rfl (.inl rfl)) pgs_nil))))
    (pss_cons (ps_if (pt_cmpR op_isN (pv 2) pe_non (nomark _))
      (pss_one (ps_ret (pe_tup (pa_cons pe_str (pa_cons (pv 3) pa_nil)))))
      pss_nil)
    (pss_cons (ps_asg (pe_tup (pa_cons (pe_ix ix_tup (pv 2) pe_int fun _ _ => rfl) (pa_cons (pe_lst pa_nil) (pa_cons (pe_lst pa_nil) pa_nil)))) (pg_tup rfl (pgs_cons (pg_name (i := 4) scLawRead.nd rfl (.inl rfl)) (pgs_cons (pg_name (i := 5) scLawRead.nd rfl (.inr rfl)) (pgs_cons (pg_name (i := 6) scLawRead.nd rfl (.inl rfl)) pgs_nil)))))
    (C8.pss_cut (ps_for PassesOwn.never rfl (pi_range1 rfl b.range (pa_cons (pe_callB call_len_seq (by rfl) b.len PySem.boot_len (pa_cons (pv 1) pa_nil)) pa_nil)) (pg_name (i := 7) scLawRead.nd rfl (.inl rfl))
      (pss_cons (ps_set (i := 8) scLawRead.nd rfl (.inl rfl) (pe_and (pe_cmpR op_lt (pe_op op_add (pv 3) pe_int) (pe_callB call_len_seq (by rfl) b.len PySem.boot_len (pa_cons (pv 1) pa_nil)) (nomark _)) (pe_one (pe_cmpR op_eq (pe_ix ix_tup (pe_ix ix_list (pv 1) (pe_op op_add (pv 3) pe_int) fun _ _ => rfl) pe_int fun _ _ => rfl) pe_str (nomark _)))))
      (pss_cons (ps_asg (pe_call GRe hr3 rfl aRe.gl aRe.fn.kp aRe.bd .nil pass0 (pa_cons (pv 1) (pa_cons (pv 3) (pa_cons (pv 4) (pa_cons (pv 5) (pa_cons (pv 6) pa_nil)))))) (pg_tup rfl (pgs_cons (pg_name (i := 9) scLawRead.nd rfl (.inl rfl)) (pgs_cons (pg_name (i := 3) scLawRead.nd rfl (.inl rfl)) pgs_nil))))
      (pss_cons (ps_if (pt_cmpR op_isN (pv 9) pe_non (nomark _))
        (pss_one (ps_ret (pe_tup (pa_cons pe_str (pa_cons (pv 3) pa_nil)))))
        pss_nil)
      (C8.pss_cut (ps_asg (pe_ifExp (pt_val (pv 8)) (pe_tup (pa_cons (pv 5) (pa_cons (pe_op op_cat (pv 6) (pe_lst (pa_cons (pv 9) pa_nil))) pa_nil))) (pe_tup (pa_cons (pe_op op_cat (pv 5) (pe_lst (pa_cons (pv 9) pa_nil))) (pa_cons (pv 6) pa_nil)))) (pg_tup rfl (pgs_cons (pg_name (i := 5) scLawRead.nd rfl (.inr rfl)) (pgs_cons (pg_name (i := 6) scLawRead.nd rfl (.inl rfl)) pgs_nil))))
      (pss_cons (ps_asg (pe_ix ix_list (pv 1) (pv 3) fun _ _ => rfl) (pg_tup rfl (pgs_cons (pg_name (i := 10) scLawRead.nd rfl (.inl rfl)) (pgs_cons (pg_name (i := 11) scLawRead.nd rfl (.inl rfl)) pgs_nil))))
      (pss_cons (ps_if (pt_cmpR op_eq (pv 10) pe_str (nomark _))
        (pss_one ps_break)
        pss_nil)
      (pss_cons (ps_if (pt_cmpR op_ne (pv 10) pe_str (nomark _))
        (pss_one (ps_ret (pe_tup (pa_cons pe_str (pa_cons (pv 11) pa_nil)))))
        pss_nil)
      (pss_one (ps_set (i := 3) scLawRead.nd rfl (.inl rfl) (pe_op op_add (pv 3) pe_int)))))))))))
    (pss_cons (ps_if (pt_not (pt_val (pe_callB (cr_all rfl) (by rfl) b.all (by decide +kernel) (pa_cons (pe_lc (own := [("_law_name", 12)]) (g := (gName 12)) (tt := tYes) (te := (tCB (rAny K) (tCons (tLc (iList K (tVar 5)) (gTup K 2 (gCons (gName 13) (gCons (gName 14) gNil))) tYes (tOp (rIn K false) (tVar 12) (tVar 14)) [13, 14]) tNil))) rfl scLawRead.nd (pi_tup (pv 4)) (blkOk_by (N := nLawRead) (sc := defScope sLawRead) (by decide +kernel)) (fun _ _ _ _ _ => (pg_name (i := 12) scLawRead.nd rfl (.inr rfl))) (fun _ _ _ _ _ => pts_nil) (fun _ _ _ _ _ => (pe_callB (cr_any rfl) (by rfl) any (by decide +kernel) (pa_cons (pe_lc (own := [("_law_table", 13), ("_law_terms_here", 14)]) (g := (gTup K 2 (gCons (gName 13) (gCons (gName 14) gNil)))) (tt := tYes) (te := (tOp (rIn K false) (tVar 12) (tVar 14))) rfl scLawRead.nd (pi_list (pv 5)) (blkOk_by (N := nLawRead) (sc := ({ kind := .function, names := [(".0", .local), ("_law_name", .cell), ("any", .globalImplicit), ("_law_ties", .cell)], isGenerator := false, isCoroutine := false } : Scope)) (by decide +kernel)) (fun _ _ _ _ _ => (pg_tup rfl (pgs_cons (pg_name (i := 13) scLawRead.nd rfl (.inl rfl)) (pgs_cons (pg_name (i := 14) scLawRead.nd rfl (.inl rfl)) pgs_nil)))) (fun _ _ _ _ _ => pts_nil) (fun _ _ _ _ _ => (pe_cmpR op_in_seq (pv 12) (pv 14) rfl))) pa_nil)))) pa_nil))))
      (pss_one (ps_ret (pe_tup (pa_cons pe_str (pa_cons pe_int pa_nil)))))
      pss_nil)
    (pss_one (ps_ret (pe_tup (pa_cons pe_str (pa_cons (pe_tup (pa_cons (pv 4) (pa_cons (pe_ix ix_tup (pv 2) pe_int fun _ _ => rfl) (pa_cons (pe_callTy call_tuple_of (by rfl) b.tuple (by decide +kernel) (pa_cons (pv 5) pa_nil)) (pa_cons (pe_callTy call_tuple_of (by rfl) b.tuple (by decide +kernel) (pa_cons (pv 6) pa_nil)) pa_nil))))) pa_nil))))))))))), ?_⟩
    have big : (2000 : Nat) ≤ sizeLine := by decide
    have enA := tksM_ends z9 asc
    have few0 : (foldT [] 0 z.cps.toList).length ≤ 900 := by
      have h := (fold_ok asc z.cps.toList.length (Nat.le_refl _)).few
      rw [List.take_length] at h
      have zz : z.cps.toList.length = z.length := Array.length_toList
      omega
    refine ⟨_, rfl, z, rfl, z9, asc, fun l0 us0 H1 nl0 s1 hl0 eu0 => ?_⟩
    refine ⟨_, rfl, z, rfl, by omega, by show 2 ≤ sizeLine; decide, fun T hT => ?_⟩
    have sT := same_new (o := HO.tup [.str "", .int (z.length : Nat)]) hT
    refine ⟨by show 1 ≤ sizeLine; decide, fun N hN => ?_⟩
    have sN := same_new (o := HO.lst [.ref T]) hN
    have lu0 : us0.length ≤ 900 := by rw [eu0.len]; exact few0
    refine ⟨l0, N, _, _, rfl, rfl, (sT.trans sN) _ _ hl0, upd_same, by show us0.length + 1 ≤ _; omega, fun L hL => ?_⟩
    have sL := same_new (o := HO.lst (us0 ++ [.ref T])) hL
    have sA := (sT.trans sN).trans sL
    have s0A := s1.trans sA
    generalize eHA : upd (upd (upd H1 T (HO.tup [.str "", .int (z.length : Nat)])) N (HO.lst [.ref T])) L (HO.lst (us0 ++ [.ref T])) = HA at sA s0A
    have hTA : HA T = some (.tup [.str "", .int (z.length : Nat)]) := by
      rw [← eHA]
      exact (sN.trans sL) _ _ upd_same
    have hLA : HA L = some (.lst (us0 ++ [.ref T])) := by
      rw [← eHA]
      exact upd_same
    have tk : TkLs HA L (us0 ++ [.ref T]) (tksM z) := ⟨hLA, (each_tkw (eu0.mono fun _ _ y => y.moved (same_tups sA))).snoc ⟨T, rfl, hTA⟩, by unfold tksM; rw [List.length_append, List.length_map]; show _ + 1 ≤ _; omega, enA⟩
    clear eHA sT sN sL hT hN hL
    generalize us0 ++ [V.ref T] = us at tk
    generalize tksM z = ts at tk enA q1 q2
    rw [readM_head] at q1 q2
    have few := tk.few
    have lus : us.length = ts.length := tk.ea.len
    refine ⟨_, rfl, L, us, ts, rfl, tk, fun zs m r' eh p h n pos HB sB hp hh hn edp pos1 enr => ?_, fun m eh p HB sB hp => ?_⟩
    rotate_left
    · rw [eh] at q2
      refine ⟨p, _, rfl, SqT.of hp, rfl, _, _, rfl, _, _, rfl, rfl, ?_⟩
      refine ⟨_, rfl, rfl, _, rfl, ?_⟩
      rw [decide_eq_true rfl]
      refine iteT ⟨_, rfl, by show 2 ≤ sizeLine; decide, fun R hR => ?_⟩
      exact q2 m rfl R _ ((s0A.trans sB).trans (same_new hR)) upd_same
    rw [eh] at q1 q2
    dsimp only at q1 q2
    obtain ⟨nz, z5⟩ := headQ_ok eh
    refine ⟨p, _, rfl, SqT.of hp, rfl, _, _, rfl, _, _, rfl, rfl, ?_⟩
    refine ⟨_, rfl, rfl, _, rfl, ?_⟩
    rw [decide_eq_false (show ¬ V.ref h = V.non from fun e => by cases e)]
    refine iteF ⟨_, rfl, h, _, _, _, rfl, rfl, SqT.of hh, atI_nat (j := 0) rfl, by show 0 ≤ sizeLine; decide, fun T0 hT0 => ?_⟩
    have sT0 := same_new (o := HO.lst []) hT0
    refine ⟨by show 0 ≤ sizeLine; decide, fun L0 hL0 => ?_⟩
    have sL0 := same_new (o := HO.lst []) hL0
    refine ⟨by show 3 ≤ sizeLine; decide, fun X0 hX0 => ?_⟩
    have sX0 := same_new (o := HO.tup [.ref n, .ref T0, .ref L0]) hX0
    refine ⟨X0, _, rfl, SqT.of upd_same, rfl, _, _, rfl, _, _, rfl, _, _, rfl, rfl, ?_⟩
    have sBC := (sT0.trans sL0).trans sX0
    have hT0C : upd (upd (upd HB T0 (HO.lst [])) L0 (HO.lst [])) X0 (HO.tup [.ref n, .ref T0, .ref L0]) T0 = some (.lst []) := (sL0.trans sX0) _ _ upd_same
    have hL0C : upd (upd (upd HB T0 (HO.lst [])) L0 (HO.lst [])) X0 (HO.tup [.ref n, .ref T0, .ref L0]) L0 = some (.lst []) := sX0 _ _ upd_same
    generalize upd (upd (upd HB T0 (HO.lst [])) L0 (HO.lst [])) X0 (HO.tup [.ref n, .ref T0, .ref L0]) = HC at sBC hT0C hL0C
    have tkC := (tk.moved sB).moved sBC
    have hnC : NmAt HC n zs := sBC _ _ hn
    have hhC := sBC _ _ hh
    have s0C := (s0A.trans sB).trans sBC
    unfold restQ at q1 q2
    refine ⟨fun σ' H' => ∃ (x3 x7 x8 x9 x10 x11 : Option V) (TL LL : Addr) (tv lv : List V) (c : Clz), σ' = [some (.str z), some (.ref L), some (.ref h), x3, some (.ref n), some (.ref TL), some (.ref LL), x7, x8, x9, x10, x11, none, none, none] ∧ Same HC H' ∧ H' TL = some (.lst tv) ∧ H' LL = some (.lst lv) ∧ Each (TieAt H') tv c.1 ∧ Each (PairAt H') lv c.2 ∧ COk zs c ∧ clausesM zs ts.length ([], []) r' = .ok c, ?_, ?_⟩
    · refine ⟨_, rfl, L, _, rfl, .inl (SqL.of tkC.li), _, rfl, by omega, by omega, ?_⟩
      refine for_range (lo := 0) (n := (((us.length : Nat) : Int)).toNat) (fun i σ H' => ∃ (x7 x8 x9 x10 x11 : Option V) (c : Clz) (TL LL : Addr) (tv lv : List V) (kk : Nat), σ = [some (.str z), some (.ref L), some (.ref h), some (.int (kk : Nat)), some (.ref n), some (.ref TL), some (.ref LL), x7, x8, x9, x10, x11, none, none, none] ∧ Same HC H' ∧ H' TL = some (.lst tv) ∧ H' LL = some (.lst lv) ∧ Each (TieAt H') tv c.1 ∧ Each (PairAt H') lv c.2 ∧ COk zs c ∧ Ends (ts.drop kk) ∧ (ts.drop kk).length ≤ ts.length - i ∧ clausesM zs ts.length ([], []) r' = clausesM zs (ts.length - i) c (ts.drop kk))
        ⟨none, none, none, none, none, ([], []), T0, L0, [], [], pos, rfl, Same.refl _, hT0C, hL0C, .nil, .nil, ⟨Nat.zero_le _, fun _ m => (by cases m), Nat.zero_le _, fun _ m => (by cases m)⟩, by rw [edp]; exact enr, by rw [List.length_drop]; omega, by rw [edp]; rfl⟩ ?_ ?_
      · rintro i σ H3 hi ⟨x7, x8, x9, x10, x11, c, TL, LL, tv, lv, kk, rfl, s3, h3T, h3L, eT, eL, ok, en3, lr, eq⟩
        have tk3 := tkC.moved s3
        have hn3 : NmAt H3 n zs := s3 _ _ hnC
        obtain ⟨t, r0, ed⟩ := en3.cons
        rw [ed] at en3 lr eq
        obtain ⟨k, ek⟩ : ∃ k, ts.length - i = k + 1 := ⟨ts.length - i - 1, by have : (t :: r0).length = r0.length + 1 := rfl; omega⟩
        rw [ek] at lr eq
        have lt6 : tv.length ≤ 6 := by rw [eT.len]; exact ok.t6
        have ll3 : lv.length ≤ 3 := by rw [eL.len]; exact ok.l3
        obtain ⟨ed1, lkk⟩ := drop_next ed
        have pair : ∀ Q' : VK, Q' (.bl (pairNext (t :: r0))) H3 → tAndV (tOp (rI0 fun i j => .bl (decide (i < j))) (tOp (rI0 fun i j => .int (i + j)) (tVar 3) (tC (.int 1))) (tCB (fun xs H Q => ∃ p ys, xs = [V.ref p] ∧ (SqL K H p ys ∨ SqT K H p ys) ∧ Q (.int ys.length) H) (tCons (tVar 1) tNil))) (tOp rEq (tOp (rIxT K) (tOp (rIxL K) (tVar 1) (tOp (rI0 fun i j => .int (i + j)) (tVar 3) (tC (.int 1)))) (tC (.int 0))) (tC (.str "<"))) [some (.str z), some (.ref L), some (.ref h), some (.int (kk : Nat)), some (.ref n), some (.ref TL), some (.ref LL), some (.int (0 + (i : Int))), x8, x9, x10, x11, none, none, none] H3 Q' := fun Q' q' => by
          refine ⟨_, rfl, _, _, rfl, rfl, _, rfl, L, _, rfl, .inl (SqL.of tk3.li), _, _, rfl, rfl, _, rfl, ?_⟩
          rcases pairNext_is en3 with ⟨rfl, pn⟩ | ⟨u, r1, rfl, pn⟩
          · have e1 : ts.length ≤ kk + 1 := by
              apply Nat.le_of_not_lt
              intro q
              have := List.drop_eq_getElem_cons q
              rw [ed1] at this
              cases this
            rw [decide_eq_false (show ¬ ((kk : Nat) : Int) + 1 < ((us.length : Nat) : Int) by omega)]
            rw [pn] at q'
            exact iteF q'
          · obtain ⟨a1, g1, ha1⟩ := tk3.at_ ed1
            obtain ⟨_, lk1⟩ := drop_next ed1
            rw [decide_eq_true (show ((kk : Nat) : Int) + 1 < ((us.length : Nat) : Int) by omega)]
            refine iteT ⟨_, rfl, _, rfl, _, _, rfl, rfl, L, _, _, _, rfl, rfl, SqL.of tk3.li, atI_nat (j := kk + 1) g1, a1, _, _, _, rfl, rfl, SqT.of ha1, atI_nat (j := 0) rfl, rfl, ?_⟩
            rw [str_eq, ← pn]
            exact q'
        refine pair _ ?_
        refine ⟨_, rfl, _, rfl, _, rfl, _, rfl, _, rfl, L, n, TL, LL, us, tv, lv, ts, kk, zs, c, t :: r0, rfl, tk3, hn3, nz, h3T, eT, h3L, eL, ok, ed, en3, fun pn pr r em p' v kk' H4 s4 hp' edk enk pv' => ?pair, fun pn x r em p' v kk' H4 s4 hp' edk enk tv' => ?tie, fun m' em p' H4 s4 hp' => ?err⟩
        case err =>
          rw [eq, clausesM_no em] at q2
          refine ⟨p', _, rfl, SqT.of hp', rfl, _, _, rfl, _, _, rfl, rfl, ?_⟩
          refine ⟨_, rfl, rfl, _, rfl, ?_⟩
          rw [decide_eq_true rfl]
          refine iteT ⟨_, rfl, by show 2 ≤ sizeLine; decide, fun R hR => ?_⟩
          exact q2 m' rfl R _ ((s0C.trans (s3.trans s4)).trans (same_new hR)) upd_same
        case' pair =>
          refine ⟨p', _, rfl, SqT.of hp', rfl, _, _, rfl, _, _, rfl, rfl, ?_⟩
          obtain ⟨va, rfl, hva⟩ := pv'
          refine ⟨_, rfl, rfl, _, rfl, ?_⟩
          rw [decide_eq_false (show ¬ V.ref va = V.non from fun e => by cases e)]
          refine iteF ?_
          have s04 := s3.trans s4
          have eL4 : Each (PairAt H4) lv c.2 := eL.mono fun _ _ y => y.moved (same_tups s4)
          refine ⟨fun σ' H' => ∃ (x7 x8 x9 x10 x11 : Option V) (c' : Clz) (r : List Tk) (TL LL : Addr) (tv lv : List V) (kk : Nat), σ' = [some (.str z), some (.ref L), some (.ref h), some (.int (kk : Nat)), some (.ref n), some (.ref TL), some (.ref LL), x7, x8, x9, x10, x11, none, none, none] ∧ Same HC H' ∧ H' TL = some (.lst tv) ∧ H' LL = some (.lst lv) ∧ Each (TieAt H') tv c'.1 ∧ Each (PairAt H') lv c'.2 ∧ clauseM zs c (t :: r0) = .ok (c', r) ∧ ts.drop kk = r ∧ Ends r, ?_, ?_⟩
          · rw [pn]
            refine ⟨_, rfl, _, rfl, iteT ?_⟩
            refine ⟨_, rfl, _, rfl, _, rfl, by show 1 ≤ sizeLine; decide, fun N1 hN1 => ?_⟩
            have sN1 := same_new (o := HO.lst [.ref va]) hN1
            refine ⟨LL, N1, _, _, rfl, rfl, sN1 _ _ (s4 _ _ h3L), upd_same, by show lv.length + 1 ≤ _; omega, fun M1 hM1 => ?_⟩
            have sM1 := same_new (o := HO.lst (lv ++ [.ref va])) hM1
            refine ⟨by show 2 ≤ sizeLine; decide, fun X1 hX1 => ?_⟩
            have sX1 := same_new (o := HO.tup [.ref TL, .ref M1]) hX1
            have s48 := (sN1.trans sM1).trans sX1
            refine ⟨X1, _, rfl, SqT.of upd_same, rfl, _, _, rfl, _, _, rfl, rfl, ?_⟩
            refine ⟨_, _, _, _, _, (c.1, c.2 ++ [pr]), r, TL, M1, tv, lv ++ [.ref va], kk', rfl, s04.trans s48, (s4.trans s48) _ _ h3T, sX1 _ _ upd_same, eT.mono fun _ _ y => y.moved (same_tups (s4.trans s48)), ?_, em, edk, enk⟩
            exact (eL4.mono fun _ _ y => y.moved (same_tups s48)).snoc ⟨va, rfl, s48 _ _ hva⟩
        case' tie =>
          refine ⟨p', _, rfl, SqT.of hp', rfl, _, _, rfl, _, _, rfl, rfl, ?_⟩
          obtain ⟨va, vc, rfl, hva, hvc⟩ := tv'
          refine ⟨_, rfl, rfl, _, rfl, ?_⟩
          rw [decide_eq_false (show ¬ V.ref va = V.non from fun e => by cases e)]
          refine iteF ?_
          have s04 := s3.trans s4
          have eT4 : Each (TieAt H4) tv c.1 := eT.mono fun _ _ y => y.moved (same_tups s4)
          refine ⟨fun σ' H' => ∃ (x7 x8 x9 x10 x11 : Option V) (c' : Clz) (r : List Tk) (TL LL : Addr) (tv lv : List V) (kk : Nat), σ' = [some (.str z), some (.ref L), some (.ref h), some (.int (kk : Nat)), some (.ref n), some (.ref TL), some (.ref LL), x7, x8, x9, x10, x11, none, none, none] ∧ Same HC H' ∧ H' TL = some (.lst tv) ∧ H' LL = some (.lst lv) ∧ Each (TieAt H') tv c'.1 ∧ Each (PairAt H') lv c'.2 ∧ clauseM zs c (t :: r0) = .ok (c', r) ∧ ts.drop kk = r ∧ Ends r, ?_, ?_⟩
          · rw [pn]
            refine ⟨_, rfl, _, rfl, iteF ?_⟩
            refine ⟨_, rfl, _, rfl, by show 1 ≤ sizeLine; decide, fun N1 hN1 => ?_⟩
            have sN1 := same_new (o := HO.lst [.ref va]) hN1
            refine ⟨TL, N1, _, _, rfl, rfl, sN1 _ _ (s4 _ _ h3T), upd_same, by show tv.length + 1 ≤ _; omega, fun M1 hM1 => ?_⟩
            have sM1 := same_new (o := HO.lst (tv ++ [.ref va])) hM1
            refine ⟨_, rfl, by show 2 ≤ sizeLine; decide, fun X1 hX1 => ?_⟩
            have sX1 := same_new (o := HO.tup [.ref M1, .ref LL]) hX1
            have s48 := (sN1.trans sM1).trans sX1
            refine ⟨X1, _, rfl, SqT.of upd_same, rfl, _, _, rfl, _, _, rfl, rfl, ?_⟩
            refine ⟨_, _, _, _, _, (c.1 ++ [x], c.2), r, M1, LL, tv ++ [.ref va], lv, kk', rfl, s04.trans s48, sX1 _ _ upd_same, (s4.trans s48) _ _ h3L, ?_, eL.mono fun _ _ y => y.moved (same_tups (s4.trans s48)), em, edk, enk⟩
            exact (eT4.mono fun _ _ y => y.moved (same_tups s48)).snoc ⟨va, vc, rfl, s48 _ _ hva, s48 _ _ hvc⟩
        all_goals
          rintro σ' H8 ⟨y7, y8, y9, y10, y11, c', r2, TL', LL', tv', lv', kk', rfl, s8, h8T, h8L, eT8, eL8, em, edk, enk⟩
          obtain ⟨y, r3, rfl⟩ := enk.cons
          have tk8 := tkC.moved s8
          obtain ⟨less, ok', _⟩ := clause_less em ok
          have eq' := eq.trans (clausesM_step (n := k) em)
          obtain ⟨a9, g9, ha9⟩ := tk8.at_ edk
          obtain ⟨edk1, _⟩ := drop_next edk
          refine ⟨_, rfl, _, rfl, L, _, _, _, rfl, rfl, SqL.of tk8.li, atI_nat g9, a9, _, rfl, SqT.of ha9, rfl, _, _, rfl, _, _, rfl, rfl, ?_⟩
          refine ⟨_, rfl, rfl, _, rfl, ?_⟩
          rw [str_eq]
          by_cases e0 : y.2 = ""
          · rw [decide_eq_true e0]
            rw [if_pos e0] at eq'
            exact iteT ⟨_, _, _, _, _, _, TL', LL', tv', lv', c', rfl, s8, h8T, h8L, eT8, eL8, ok', eq'⟩
          rw [decide_eq_false e0]
          rw [if_neg e0] at eq'
          refine iteF ⟨_, rfl, rfl, _, rfl, ?_⟩
          rw [str_eq]
          by_cases e1 : y.2 = ","
          · rw [decide_eq_true e1]
            rw [if_pos e1] at eq'
            refine iteF ⟨_, rfl, _, _, rfl, rfl, ?_⟩
            have lr2 : (y :: r3).length < (t :: r0).length := less
            have l2 : (y :: r3).length = r3.length + 1 := rfl
            have l3 : (t :: r0).length = r0.length + 1 := rfl
            refine ⟨_, _, _, _, _, c', TL', LL', tv', lv', kk' + 1, rfl, s8, h8T, h8L, eT8, eL8, ok', by rw [edk1]; exact enk.next e0, by rw [edk1]; omega, ?_⟩
            rw [edk1, show ts.length - (i + 1) = k by omega]
            exact eq'
          · rw [decide_eq_false e1]
            rw [if_neg e1] at eq'
            rw [eq'] at q2
            refine iteT ⟨_, rfl, by show 2 ≤ sizeLine; decide, fun R hR => ?_⟩
            exact q2 _ rfl R _ ((s0C.trans s8).trans (same_new hR)) upd_same
      · rintro σ H3 ⟨x7, x8, x9, x10, x11, c, TL, LL, tv, lv, kk, rfl, s3, h3T, h3L, eT, eL, ok, en3, lr, eq⟩
        obtain ⟨t, r0, ed⟩ := en3.cons
        rw [ed] at lr
        have : (t :: r0).length = r0.length + 1 := rfl
        omega
    · rintro σ' H3 ⟨x3, x7, x8, x9, x10, x11, TL, LL, tv, lv, c, rfl, s3, h3T, h3L, eT, eL, ok, eq⟩
      obtain ⟨ties, less⟩ := c
      rw [eq] at q1 q2
      dsimp only at q1 q2 eT eL
      have hn3 : NmAt H3 n zs := s3 _ _ hnC
      have ltv : tv.length ≤ 6 := by rw [eT.len]; exact ok.t6
      refine ⟨_, rfl, n, rfl, ⟨_, SqT.of hn3⟩, fun D hD => ?_⟩
      refine lc_tup (xs := zs.map V.str) (fun i H' => Same H3 H' ∧ H' D = some (.lst (((zs.take i).map fun z1 => decide (Term.nm z1 ∈ ties.flatMap (·.2))).map V.bl))) ⟨same_new hD, upd_same⟩ (fun i H' _ z => SqT.of (z.1 _ _ hn3)) ?_ ?_
      · rintro i x H4 hx ⟨s4, h4⟩
        obtain ⟨z1, ez, rfl⟩ := map_get hx
        refine ⟨rfl, yes_turn ?_⟩
        refine ⟨_, rfl, TL, rfl, ⟨_, SqL.of (s4 _ _ h3T)⟩, fun D3 hD3 => ?_⟩
        refine lc_listS (xs := tv) (fun i acc _ => acc = ((ties.take i).map fun t => decide (Term.nm z1 ∈ t.2)).map V.bl) hD3 (SqL.of (s4 _ _ h3T)) (by omega) (fun _ _ _ _ _ h => h) rfl ?_ ?_
        · rintro j y acc H10 hy s10 h10 rfl k3 k4 y3 y4
          obtain ⟨t, e1, pa, c, rfl, hpa, hc⟩ := eT.get hy
          refine ⟨pa, _, rfl, SqT.of ((s4.trans s10) _ _ hpa), rfl, _, _, rfl, _, _, rfl, rfl, rfl, yes_turn ?_⟩
          refine ⟨_, rfl, _, rfl, c, _, rfl, .inr (SqT.of ((s4.trans s10) _ _ hc)), rfl, terms_flat _, ?_⟩
          rw [inV_term]
          refine y3 _ _ (Same.refl _) ?_
          rw [← take_snoc (fun t : Str × List Term => decide (Term.nm z1 ∈ t.2)) e1, List.map_append]
          rfl
        · rintro acc H10 s10 h10 rfl
          rw [eT.len, List.take_of_length_le (Nat.le_refl _)] at h10
          refine ⟨D3, _, rfl, SqL.of h10, ?_⟩
          have e2 : (ties.map fun t => decide (Term.nm z1 ∈ t.2)).any id = decide (Term.nm z1 ∈ ties.flatMap (·.2)) := by
            rw [List.any_map]
            exact any_tied z1 ties
          rw [e2]
          have hD10 := s10 _ _ h4
          refine ⟨_, hD10, ?_, same_put (s4.trans s10) hD, ?_⟩
          · rw [List.length_map, List.length_map, List.length_take]
            exact lt_line (by omega)
          · rw [upd_same, List.take_add_one, ez]
            simp
      · rintro H4 ⟨s4, h4⟩
        rw [List.length_map, List.take_length] at h4
        refine ⟨D, zs.map fun z1 => decide (Term.nm z1 ∈ ties.flatMap (·.2)), rfl, SqL.of h4, ?_⟩
        have e2 : (zs.map fun z1 => decide (Term.nm z1 ∈ ties.flatMap (·.2))).all id = tiedB zs ties := by
          rw [List.all_map]
          rfl
        rw [e2]
        have s34 := s3.trans s4
        refine ⟨_, rfl, ?_⟩
        cases td : tiedB zs ties with
        | false =>
          rw [if_neg (by rw [td]; exact Bool.false_ne_true)] at q2
          refine iteT ⟨by show 2 ≤ sizeLine; decide, fun R hR => ?_⟩
          exact q2 _ rfl R _ ((s0C.trans s34).trans (same_new hR)) upd_same
        | true =>
          rw [if_pos td] at q1
          refine iteF ?_
          refine ⟨_, rfl, _, rfl, h, _, _, _, rfl, rfl, SqT.of (s34 _ _ hhC), atI_nat (j := 1) rfl, ?_⟩
          refine ⟨_, rfl, TL, _, rfl, .inl ⟨SqL.of (s4 _ _ h3T), fun t' ht' => ?_⟩⟩
          have st := same_new (o := HO.tup tv) ht'
          refine ⟨_, rfl, LL, _, rfl, .inl ⟨SqL.of ((s4.trans st) _ _ h3L), fun l' hl' => ?_⟩⟩
          have sl := same_new (o := HO.tup lv) hl'
          refine ⟨by show 4 ≤ sizeLine; decide, fun A' hA => ?_⟩
          have sA' := same_new (o := HO.tup [.ref n, .int (m : Nat), .ref t', .ref l']) hA
          refine ⟨by show 2 ≤ sizeLine; decide, fun R hR => ?_⟩
          have sR := same_new (o := HO.tup [.str "told", .ref A']) hR
          have s4R := ((st.trans sl).trans sA').trans sR
          exact q1 _ rfl R A' _ ((s0C.trans s34).trans s4R) upd_same ⟨n, t', l', sR _ _ upd_same, (s4.trans s4R) _ _ hn3, ⟨tv, ((sl.trans sA').trans sR) _ _ upd_same, eT.mono fun _ _ y => y.moved (same_tups (s4.trans s4R))⟩, ⟨lv, (sA'.trans sR) _ _ upd_same, eL.mono fun _ _ y => y.moved (same_tups (s4.trans s4R))⟩⟩
end
end VQ
namespace VQ
open PySem L2 LamX
/-! ### bent texts (k23) -/
abbrev sLawBentText : Stmt := top 61
abbrev nLawBentText : List Str := ["_law_bag_here", "_law_text_here", "_law_at", "_law_sign", "_law_way"]
theorem scLawBentText : FnScope nLawBentText ["_law_bag_here", "_law_text_here"] (defScope sLawBentText) := ⟨rfl, rfl, rfl, by decide +kernel, rfl, by decide +kernel, by decide +kernel⟩
def TxO (n : Nat) (z : Str) : Prop := z.length ≤ n ∧ ∀ c ∈ TL.tl z, c < 128
theorem TxO.add {n m : Nat} {x y : Str} (h : TxO n x) (h' : TxO m y) : TxO (n + m) (x ++ y) := by
  refine ⟨by rw [PySem.Str.length_append]; have := h.1; have := h'.1; omega, fun c mc => ?_⟩
  rw [TL.tl_append] at mc
  rcases List.mem_append.mp mc with m | m
  · exact h.2 c m
  · exact h'.2 c m
theorem TxO.mono {n m : Nat} {x : Str} (h : TxO n x) (l : n ≤ m) : TxO m x := ⟨Nat.le_trans h.1 l, h.2⟩
theorem TxO.take {n k : Nat} {z : Str} (h : TxO n z) (lk : k ≤ z.length) : TxO k (cutS z none (some (k : Int))) := by
  unfold cutS
  rw [HT.sIx_none, HT.sIx_nat, List.drop_zero, Nat.sub_zero, Nat.min_eq_left lk]
  refine ⟨?_, fun c mc => h.2 c (List.mem_of_mem_take mc)⟩
  show (List.take k z.cps.toList).toArray.size ≤ k
  rw [List.size_toArray, List.length_take]
  omega
theorem TxO.from {n : Nat} {z : Str} (h : TxO n z) (k : Nat) : TxO (z.length - k) (cutS z (some (k : Int)) none) := by
  unfold cutS
  rw [HT.sIx_none, HT.sIx_nat]
  refine ⟨?_, fun c mc => h.2 c (List.mem_of_mem_drop (List.mem_of_mem_take mc))⟩
  show (List.take _ (List.drop _ z.cps.toList)).toArray.size ≤ _
  have e : z.cps.toList.length = z.length := by simp [Str.length]
  rw [List.size_toArray, List.length_take, List.length_drop, e]
  omega
section
variable {P : Program} {w : World} {K : PySem.W.Frag} {mg : Str → Option Value} {base : Heap}
def spBent : Sp := fun vs H Q _ => ∃ (bg : Addr) (z : Str) (n : Nat), vs = [.ref bg, .str z] ∧ Bag H bg ∧ TxO n z ∧ n ≤ 850 ∧ ∀ (y : Str) (H' : Hp), TxO (n + 8) y → Bag H' bg → Keep bg H H' → Q (.str y) H'
theorem has_bent (b : Blt mg) (hP : Has P w K mg base CX0 1 "_law_pull" sPull ["_law_bag_here", "_law_size"] spPull) (hO : Has P w K mg base CX0 2 "_law_of" sOf ["_law_bag_here", "_law_some"] (spOfA K)) (a : AtE K mg "_law_bent_text" sLawBentText ["_law_bag_here", "_law_text_here"]) :
    Has P w K mg base CX0 3 "_law_bent_text" sLawBentText ["_law_bag_here", "_law_text_here"] spBent := by
  obtain ⟨f, fd, a⟩ := a
  obtain ⟨fP, fdP, aP, GP⟩ := hP
  obtain ⟨fO, fdO, aO, GO⟩ := hO
  refine ⟨f, fd, a, a.fn.ok scLawBentText (fun vs H Q E h => ?_) (fun cdv A outer s H vs Q E hr2 h => ?_)⟩
  · obtain ⟨bg, z, n, rfl, _⟩ := h
    rfl
  · obtain ⟨bg, z, n, rfl, B, tz, ln, k⟩ := h
    have hr1 : Room 1 _ := hr2.mono (by decide)
    refine ⟨_,
    (pss_cons (ps_set (i := 2) scLawBentText.nd rfl (.inl rfl) (pe_call GP hr1 rfl aP.gl aP.fn.kp aP.bd .nil pass0 (pa_cons (pv 0) (pa_cons (pe_op op_add (pe_callB call_len_str (by rfl) b.len PySem.boot_len (pa_cons (pv 1) pa_nil)) pe_int) pa_nil))))
    (pss_cons (ps_set (i := 3) scLawBentText.nd rfl (.inl rfl) (pe_call GO hr2 rfl aO.gl aO.fn.kp aO.bd .nil pass0 (pa_cons (pv 0) (pa_cons (pe_op op_cat (pe_callTy (call_list_txt rfl) (by rfl) b.list (by decide +kernel) (pa_cons pe_str pa_nil)) (pe_lst (pa_cons pe_str (pa_cons pe_str (pa_cons pe_str (pa_cons pe_str (pa_cons pe_str (pa_cons pe_str (pa_cons pe_str (pa_cons pe_str pa_nil)))))))))) pa_nil))))
    (pss_cons (ps_set (i := 4) scLawBentText.nd rfl (.inl rfl) (pe_call GP hr1 rfl aP.gl aP.fn.kp aP.bd .nil pass0 (pa_cons (pv 0) (pa_cons pe_int pa_nil))))
    (pss_cons (ps_if (pt_cmpR op_eq (pv 4) pe_int (nomark _))
      (pss_one (ps_ret (pe_op op_add_str (pe_op op_add_str (pe_slice sl_str (pv 1) po_none (po_some (pv 2))) (pv 3)) (pe_slice sl_str (pv 1) (po_some (pv 2)) po_none))))
      pss_nil)
    (pss_cons (ps_if (pt_cmpR op_eq (pv 4) pe_int (nomark _))
      (pss_one (ps_ret (pe_op op_add_str (pe_slice sl_str (pv 1) po_none (po_some (pv 2))) (pe_slice sl_str (pv 1) (po_some (pe_op op_add (pv 2) pe_int)) po_none))))
      pss_nil)
    (pss_one (ps_ret (pe_ifExp (pt_cmpR op_eq (pv 4) pe_int (nomark _)) (pe_slice sl_str (pv 1) po_none (po_some (pv 2))) (pe_op op_add_str (pe_op op_add_str (pe_slice sl_str (pv 1) po_none (po_some (pv 2))) (pv 3)) (pe_slice sl_str (pv 1) (po_some (pe_op op_add (pv 2) pe_int)) po_none)))))))))), ?_⟩
    have big : (2000 : Nat) ≤ sizeLine := by decide
    have lz := tz.1
    refine ⟨_, rfl, _, rfl, z, rfl, by omega, _, _, rfl, rfl, bg, _, rfl, B, by omega, by omega, fun d H1 d0 d1 B1 K1 => ?_⟩
    obtain ⟨at', rfl⟩ := Int.eq_ofNat_of_zero_le d0
    have la : at' ≤ z.length := by omega
    refine ⟨_, rfl, _, rfl, by decide +kernel, fun l1 n1 => ?_⟩
    generalize exs : (List.map sgV (PySem.Str.cps " (),:<0123ab").toList) = xs1
    have x1 : ∀ v ∈ xs1, ∃ y : Str, v = .str y ∧ TxO 8 y := fun v m => by
      rw [← exs] at m
      obtain ⟨c, mc, rfl⟩ := List.mem_map.mp m
      have q : ∀ c ∈ (PySem.Str.cps " (),:<0123ab").toList, c < 128 := by decide +kernel
      exact ⟨_, rfl, by show 1 ≤ 8; decide, fun d md => by rw [List.mem_singleton.mp (show d ∈ [c] from md)]; exact q c mc⟩
    have lx1 : xs1.length = 12 := by
      rw [← exs, List.length_map]
      decide +kernel
    refine ⟨by show 8 ≤ sizeLine; decide, fun l2 n2 => ?_⟩
    generalize eys : ([.str "find ", .str " some ", .str "A", .str "~", .str ".", .str "32", .str ", a < b", .str "\n"] : List V) = ys1 at n2 ⊢
    have y1 : ∀ v ∈ ys1, ∃ y : Str, v = .str y ∧ TxO 8 y := fun v m => by
      rw [← eys] at m
      simp only [List.mem_cons, List.not_mem_nil, or_false] at m
      rcases m with rfl | rfl | rfl | rfl | rfl | rfl | rfl | rfl <;> exact ⟨_, rfl, by decide +kernel, by decide +kernel⟩
    have ly1 : ys1.length = 8 := by
      rw [← eys]
      rfl
    have s1 := same_new (o := HO.lst xs1) n1
    have s2 := same_new (o := HO.lst ys1) n2
    refine ⟨l1, l2, _, _, rfl, rfl, s2 _ _ upd_same, upd_same, by rw [lx1, ly1]; show 12 + 8 ≤ _; omega, fun l3 n3 => ?_⟩
    have s3 := same_new (o := HO.lst (xs1 ++ ys1)) n3
    have s13 := s1.trans (s2.trans s3)
    refine ⟨bg, l3, _, rfl, B1.same s13, .inl upd_same, (B1.same (s1.trans s2)).ne n3, by rw [List.length_append, lx1, ly1]; decide, by rw [List.length_append, lx1, ly1]; decide, fun v H4 mv B4 K4 => ?_⟩
    obtain ⟨sg, rfl, tsg⟩ : ∃ y : Str, v = .str y ∧ TxO 8 y := by
      rcases List.mem_append.mp mv with m | m
      · exact x1 v m
      · exact y1 v m
    have lsg := tsg.1
    refine ⟨_, rfl, bg, 4, rfl, B4, by decide, by decide, fun wy H5 w0 w1 B5 K5 => ?_⟩
    have kA : Keep bg H H5 := K1.trans ((Same.keep s13).trans (K4.trans K5))
    have c1 := tz.take la
    have c2 := tz.from at'
    have c3 := tz.from (at' + 1)
    have l1' := c1.1
    have l2' := c2.1
    have l3' := c3.1
    have fin : ∀ {m : Nat} (y : Str), TxO m y → m ≤ n + 8 → Q (.str y) H5 := fun y ty le => k y H5 (ty.mono le) B5 kA
    have la1 : (cutS z none (some (at' : Int)) ++ sg).length = (cutS z none (some (at' : Int))).length + sg.length := PySem.Str.length_append _ _
    refine ⟨_, rfl, rfl, _, rfl, ?_⟩
    by_cases q0 : wy = 0
    · rw [decide_eq_true (show V.int wy = V.int 0 by rw [q0])]
      refine iteT ⟨_, rfl, _, rfl, _, rfl, z, rfl, by omega, _, rfl, _, _, rfl, rfl, by omega, _, rfl, _, rfl, _, rfl, ?_⟩
      exact ⟨z, rfl, by omega, _, _, rfl, rfl, by show (cutS z none (some (at' : Int)) ++ sg).length + (cutS z (some (at' : Int)) none).length ≤ _; omega, fin _ ((c1.add tsg).add c2) (by omega)⟩
    rw [decide_eq_false (show ¬ V.int wy = V.int 0 from fun e => q0 (by injection e))]
    refine iteF ⟨_, rfl, rfl, _, rfl, ?_⟩
    by_cases q1 : wy = 1
    · rw [decide_eq_true (show V.int wy = V.int 1 by rw [q1])]
      refine iteT ⟨_, rfl, _, rfl, _, rfl, z, rfl, by omega, _, rfl, _, rfl, _, _, rfl, rfl, _, rfl, ?_⟩
      exact ⟨z, rfl, by omega, _, _, rfl, rfl, by show (cutS z none (some (at' : Int))).length + (cutS z (some (((at' + 1 : Nat)) : Int)) none).length ≤ _; omega, fin _ (c1.add c3) (by omega)⟩
    rw [decide_eq_false (show ¬ V.int wy = V.int 1 from fun e => q1 (by injection e))]
    refine iteF ⟨_, rfl, rfl, _, rfl, ?_⟩
    by_cases q2 : wy = 2
    · rw [decide_eq_true (show V.int wy = V.int 2 by rw [q2])]
      exact iteT ⟨_, rfl, _, rfl, _, rfl, z, rfl, by omega, fin _ c1 (by omega)⟩
    rw [decide_eq_false (show ¬ V.int wy = V.int 2 from fun e => q2 (by injection e))]
    refine iteF ⟨_, rfl, _, rfl, _, rfl, z, rfl, by omega, _, rfl, _, _, rfl, rfl, by omega, _, rfl, _, rfl, _, _, rfl, rfl, _, rfl, ?_⟩
    exact ⟨z, rfl, by omega, _, _, rfl, rfl, by show (cutS z none (some (at' : Int)) ++ sg).length + (cutS z (some (((at' + 1 : Nat)) : Int)) none).length ≤ _; omega, fin _ ((c1.add tsg).add c3) (by omega)⟩
end
end VQ
namespace VQ
open PySem L2 LamX
theorem alike_term {H : Hp} (n : Nat) (t : Term) : Alike H n (termV t) (termV t) := by
  cases t with
  | wo m => exact .int _ _
  | nm z => exact .str _ _
theorem alike_q {H : Hp} {a a' : Addr} {q : Qn} (d : Nat) (ok : QOk q) (h : QAt H a q) (h' : QAt H a' q) : Alike H (d + 4) (.ref a) (.ref a') := by
  obtain ⟨n, t, l, ha, hn, ⟨us, ht, et⟩, ⟨ws, hl, el⟩⟩ := h
  obtain ⟨n', t', l', ha', hn', ⟨us', ht', et'⟩, ⟨ws', hl', el'⟩⟩ := h'
  have n5 := ok.n5
  have t6 := ok.t6
  have l3 := ok.l3
  refine .tup ha ha' rfl (by show 4 ≤ 1000; decide) fun i x y hx hy => ?_
  match i, hx, hy with
  | 0, hx, hy =>
    cases hx
    cases hy
    refine .tup hn hn' rfl (by rw [List.length_map]; omega) fun j x y hx hy => ?_
    rw [hx] at hy
    cases hy
    obtain ⟨z, _, rfl⟩ := map_get hx
    exact .str _ _
  | 1, hx, hy =>
    cases hx
    cases hy
    exact .int _ _
  | 2, hx, hy =>
    cases hx
    cases hy
    refine .tup ht ht' (by rw [et.len, et'.len]) (by rw [et'.len]; omega) fun j x y hx hy => ?_
    obtain ⟨tie, e1, b, c, rfl, hb, hc⟩ := et.get hx
    obtain ⟨tie', e1', b', c', rfl, hb', hc'⟩ := et'.get hy
    rw [e1] at e1'
    cases e1'
    have h4 := (ok.tt tie (List.mem_of_getElem? e1)).hi
    refine .tup hb hb' rfl (by show 2 ≤ 1000; decide) fun j x y hx hy => ?_
    match j, hx, hy with
    | 0, hx, hy =>
      cases hx
      cases hy
      exact .str _ _
    | 1, hx, hy =>
      cases hx
      cases hy
      refine .tup hc hc' rfl (by rw [List.length_map]; omega) fun j x y hx hy => ?_
      rw [hx] at hy
      cases hy
      obtain ⟨u, _, rfl⟩ := getF hx
      exact alike_term _ _
    | j + 2, hx, _ => simp at hx
  | 3, hx, hy =>
    cases hx
    cases hy
    refine .tup hl hl' (by rw [el.len, el'.len]) (by rw [el'.len]; omega) fun j x y hx hy => ?_
    obtain ⟨pr, e1, b, rfl, hb⟩ := el.get hx
    obtain ⟨pr', e1', b', rfl, hb'⟩ := el'.get hy
    rw [e1] at e1'
    cases e1'
    refine .tup hb hb' rfl (by show 2 ≤ 1000; decide) fun j x y hx hy => ?_
    match j, hx, hy with
    | 0, hx, hy =>
      cases hx
      cases hy
      exact .str _ _
    | 1, hx, hy =>
      cases hx
      cases hy
      exact .str _ _
    | j + 2, hx, _ => simp at hx
  | i + 4, hx, _ => simp at hx
end VQ
namespace VQ
open PySem L2 LamX
abbrev sLaw : Stmt := top 62
abbrev nLaw : List Str := ["_law_script", "_law_bag_here", "_law_some", "_law_turn", "_law_text_here", "_law_bend"]
theorem scLaw : FnScope nLaw ["_law_script"] (defScope sLaw) := ⟨rfl, rfl, rfl, by decide +kernel, rfl, by decide +kernel, by decide +kernel⟩
section
variable {P : Program} {w : World} {K : PySem.W.Frag} {mg : Str → Option Value} {base : Heap} {Ta NT NR BT Uf Fu TM QE No CB : Addr}
/-- both readers are asked of one text -/
theorem ask_ok {σ : L2.St} {H : Hp} {Q : VK} {T : List (Addr × Str)} {tz : TE} {z : Str} (SB : Second K Ta NT NR BT Uf CB) (tabs : Tabs T H) (l9 : z.length ≤ 900) (asc : ∀ c ∈ z.cps.toList, c < 128) (hz : ∀ H' (Q' : VK), Q' (.str z) H' → tz σ H' Q')
    (k : ∀ H', ExtN H H' → Tabs T H' → Q (.bl true) H') :
    tCall (spSame 5) [] E0 (tCons (tLam T (TTried2 K Ta NT NR BT Uf) (fun E => tCall (spReadQX CB) [] E (tCons tz tNil))) (tCons (tCall spReadX [] E0 (tCons tz tNil)) tNil)) σ H Q := by
  refine ⟨tabs, fun H1 ext tabs1 => ?_⟩
  refine hz _ _ ⟨z, rfl, l9, asc, fun q eq a H2 s2 qa => ?_, fun m em H2 s2 d nd => ?_⟩
  · refine ⟨by show 2 ≤ sizeLine; decide, fun p np => ?_⟩
    have s3 := same_new (o := HO.tup [.str "told", .ref a]) np
    refine hz _ _ ⟨z, rfl, l9, asc, fun q' eq' p2 a' H4 s4 hp2 qa' => ?_, fun m em => by rw [eq] at em; cases em⟩
    rw [eq] at eq'
    cases eq'
    have ok := read_ok eq
    refine ⟨_, _, rfl, ?_, fun H5 s5 => ?_⟩
    · refine .tup (s4 _ _ upd_same) hp2 rfl (by show 2 ≤ 1000; decide) fun i x y hx hy => ?_
      match i, hx, hy with
      | 0, hx, hy =>
        cases hx
        cases hy
        exact .str _ _
      | 1, hx, hy =>
        cases hx
        cases hy
        exact alike_q 0 ok (qa.moved (same_tups (s3.trans s4))) qa'
      | i + 2, hx, _ => simp at hx
    · exact k H5 (ext.trans (extN_same (s2.trans (s3.trans (s4.trans s5))))) (Tabs.ext tabs1 (s2.trans (s3.trans (s4.trans s5))))
  · have s0 := same_new (o := HO.xd (atFs (.int ((m : Nat) : Int)))) nd
    refine ⟨CB, d, atFs (.int ((m : Nat) : Int)), "BadText", .int ((m : Nat) : Int), rfl, rfl, SB, upd_same, rfl, rfl, fun p np => ?_⟩
    have s3 := same_new (o := HO.tup [.str "BadText", .int ((m : Nat) : Int)]) np
    refine hz _ _ ⟨z, rfl, l9, asc, (fun q eq => by rw [em] at eq; cases eq), fun m' em' p2 H4 s4 hp2 => ?_⟩
    rw [em] at em'
    cases em'
    refine ⟨_, _, rfl, ?_, fun H5 s5 => ?_⟩
    · refine .tup (s4 _ _ upd_same) hp2 rfl (by show 2 ≤ 1000; decide) fun i x y hx hy => ?_
      match i, hx, hy with
      | 0, hx, hy =>
        cases hx
        cases hy
        exact .str _ _
      | 1, hx, hy =>
        cases hx
        cases hy
        exact .int _ _
      | i + 2, hx, _ => simp at hx
    · exact k H5 (ext.trans (extN_same (s2.trans (s0.trans (s3.trans (s4.trans s5)))))) (Tabs.ext tabs1 (s2.trans (s0.trans (s3.trans (s4.trans s5)))))
def txtB : V → Bool
  | .str z => decide (z.length ≤ 900) && z.cps.toList.all fun c => decide (c < 128)
  | _ => false
theorem txt_of {v : V} {xs : List V} (h : xs.all txtB = true) (m : v ∈ xs) : ∃ z : Str, v = .str z ∧ z.length ≤ 900 ∧ ∀ c ∈ z.cps.toList, c < 128 := by
  have hv := List.all_eq_true.mp h v m
  cases v with
  | str z =>
    have hv : (decide (z.length ≤ 900) && z.cps.toList.all fun c => decide (c < 128)) = true := hv
    rw [Bool.and_eq_true] at hv
    exact ⟨z, rfl, of_decide_eq_true hv.1, fun c mc => of_decide_eq_true (List.all_eq_true.mp hv.2 c mc)⟩
  | _ => cases hv
theorem bag_upd {H : Hp} {bg r : Addr} {zs us' : List V} (B : Bag H bg) (nb : r ≠ bg) (h : H r = some (.lst zs)) (bz : zs.all txtB = true) (pos : 0 < zs.length) : Bag (upd H r (.lst us')) bg := by
  obtain ⟨l, ns, i, rr, x, n, nl, h1, h2, h3⟩ := B
  have rl : r ≠ l := fun e => by
    rw [e, h2] at h
    have e2 : ns.map V.int = zs := HO.lst.inj (Option.some.inj h)
    cases ns with
    | nil => rw [← e2] at pos; exact absurd pos (Nat.lt_irrefl 0)
    | cons k ns =>
      rw [← e2] at bz
      cases bz
  exact ⟨l, ns, i, rr, x, n, nl, (upd_ne (fun e => nb e.symm)).trans h1, (upd_ne (fun e => rl e.symm)).trans h2, h3⟩
theorem tabs_lst {T : List (Addr × Str)} {H : Hp} {l : Addr} {us us' : List V} (h : H l = some (.lst us)) (t : Tabs T H) : Tabs T (upd H l (.lst us')) := fun p hp => by
  obtain ⟨q, hq, hr, hc⟩ := t p hp
  refine ⟨q, (upd_ne (fun e => by rw [e, h] at hq; cases hq)).trans hq, hr, fun pos cv hcv => ?_⟩
  obtain ⟨c, e, h'⟩ := hc pos cv hcv
  exact ⟨c, e, (upd_ne (fun e => by rw [e, h] at h'; cases h')).trans h'⟩
theorem ok_law {f c Pt : Addr} {kV doc pm ct oc : Value} {an od : Option Addr} {osl : Array (Option Value)} {fT : Addr} {fdT : FuncData}
    (lk : K.lookup f = some ⟨oc, od, .func (PySem.W.fnOf "law" "law" (defArgs sLaw) (defBody sLaw) (defScope sLaw) .none kV doc pm an (.ref c) ct), osl⟩) (hcd : PySem.W.codeIn K (.ref c) "law" = true) (TB : TabB base mg c Pt)
    (b : Blt mg) (ER : Errs mg Ta NT NR BT Uf Fu TM QE No) (SB : Second K Ta NT NR BT Uf CB) (aT : At K mg "_law_tried" sTried ["_law_ask"] fT fdT)
    (hB : Has P w K mg base CX0 1 "_law_bag" sBag ["_law_script"] (spBag K)) (hP : Has P w K mg base CX0 1 "_law_pull" sPull ["_law_bag_here", "_law_size"] spPull) (hS : Has P w K mg base CX0 6 "_law_same" sSame ["_law_found", "_law_due"] (spSame 5))
    (hFq : Has P w K mg base CX0 6 "_law_free_question" sLawFreeQuestion ["_law_bag_here"] spQuest) (hLx : Has P w K mg base CX0 2 "_law_text" sLawText ["_law_question"] spLText) (hBt : Has P w K mg base CX0 3 "_law_bent_text" sLawBentText ["_law_bag_here", "_law_text_here"] spBent)
    (hRq : Has P w K mg base (L2.CX P w) 8 "read_question" sReadQuestion ["text"] (spReadQX CB)) (hRd : Has P w K mg base CX0 4 "_law_read" sLawRead ["_law_text_here"] spReadX) :
    FnOk P w K mg base CX0 11 f (PySem.W.fnOf "law" "law" (defArgs sLaw) (defBody sLaw) (defScope sLaw) .none kV doc pm an (.ref c) ct) ["_law_script"] (spLaw K Pt) := by
  obtain ⟨fB, fdB, aB, GB⟩ := hB
  obtain ⟨fP, fdP, aP, GP⟩ := hP
  obtain ⟨fS, fdS, aS, GS⟩ := hS
  obtain ⟨fFq, fdFq, aFq, GFq⟩ := hFq
  obtain ⟨fLx, fdLx, aLx, GLx⟩ := hLx
  obtain ⟨fBt, fdBt, aBt, GBt⟩ := hBt
  obtain ⟨fRq, fdRq, aRq, GRq⟩ := hRq
  obtain ⟨fRd, fdRd, aRd, GRd2⟩ := hRd
  obtain ⟨cdv2, D2⟩ := one_of aT scTried rfl (.inl rfl) (by decide) (by decide) (by decide)
  refine fn_of lk hcd scLaw (fun vs H Q E h => ?_) (fun A outer s H vs Q E hr10 h => ?_)
  · obtain ⟨a, ns, rfl, _⟩ := h
    rfl
  · obtain ⟨a, ns, rfl, hS, hlen, hP, k⟩ := h
    have hr1 : Room 1 _ := hr10.mono (by decide)
    have hr2 : Room 2 _ := hr10.mono (by decide)
    have hr3 : Room 3 _ := hr10.mono (by decide)
    have hr4 : Room 4 _ := hr10.mono (by decide)
    have hr6 : Room 6 _ := hr10.mono (by decide)
    refine ⟨_, PSs.nox
    (pss_cons (ps_set (i := 1) scLaw.nd rfl (.inl rfl) (pe_call GB hr1 rfl aB.gl aB.fn.kp aB.bd .nil pass0 (pa_cons (pv 0) pa_nil)))
    (pss_cons (ps_set (i := 2) scLaw.nd rfl (.inl rfl) (pe_lst (pa_cons pe_str (pa_cons pe_str (pa_cons pe_str (pa_cons pe_str (pa_cons pe_str (pa_cons pe_str (pa_cons pe_str (pa_cons pe_str (pa_cons pe_str (pa_cons pe_str pa_nil))))))))))))
    (pss_cons (ps_set (i := 2) scLaw.nd rfl (.inl rfl) (pe_op op_cat (pv 2) (pe_lst (pa_cons pe_str (pa_cons pe_str (pa_cons pe_str (pa_cons pe_str (pa_cons pe_str pa_nil))))))))
    (pss_cons (ps_set (i := 2) scLaw.nd rfl (.inl rfl) (pe_op op_cat (pv 2) (pe_lst (pa_cons pe_str (pa_cons pe_str (pa_cons pe_str (pa_cons pe_str pa_nil)))))))
    (pss_cons (ps_set (i := 2) scLaw.nd rfl (.inl rfl) (pe_op op_cat (pv 2) (pe_lst (pa_cons pe_str (pa_cons pe_str (pa_cons pe_str pa_nil))))))
    (pss_cons (ps_set (i := 2) scLaw.nd rfl (.inl rfl) (pe_op op_cat (pv 2) (pe_lst (pa_cons pe_str (pa_cons pe_str (pa_cons pe_str pa_nil))))))
    (pss_cons (ps_set (i := 2) scLaw.nd rfl (.inl rfl) (pe_op op_cat (pv 2) (pe_lst (pa_cons pe_str (pa_cons pe_str (pa_cons pe_str (pa_cons pe_str pa_nil)))))))
    (pss_cons (ps_set (i := 2) scLaw.nd rfl (.inl rfl) (pe_op op_cat (pv 2) (pe_lst (pa_cons pe_str (pa_cons pe_str (pa_cons pe_str (pa_cons pe_str (pa_cons pe_str pa_nil))))))))
    (pss_cons (ps_set (i := 2) scLaw.nd rfl (.inl rfl) (pe_op op_cat (pv 2) (pe_lst (pa_cons pe_str (pa_cons pe_str (pa_cons pe_str (pa_cons pe_str (pa_cons pe_str pa_nil))))))))
    (pss_cons (ps_for PassesOwn.never rfl (pi_range1 rfl b.range (pa_cons pe_int pa_nil)) (pg_name (i := 3) scLaw.nd rfl (.inl rfl))
      (pss_cons (ps_set (i := 4) scLaw.nd rfl (.inr rfl) (pe_call GLx hr2 rfl aLx.gl aLx.fn.kp aLx.bd .nil pass0 (pa_cons (pe_call GFq hr6 rfl aFq.gl aFq.fn.kp aFq.bd .nil pass0 (pa_cons (pv 1) pa_nil)) pa_nil)))
      (pss_cons (ps_for PassesOwn.never rfl (pi_range1 rfl b.range (pa_cons (pe_op op_add pe_int (pe_call GP hr1 rfl aP.gl aP.fn.kp aP.bd .nil pass0 (pa_cons (pv 1) (pa_cons pe_int pa_nil)))) pa_nil)) (pg_name (i := 5) scLaw.nd rfl (.inl rfl))
        (pss_one (ps_set (i := 4) scLaw.nd rfl (.inr rfl) (pe_call GBt hr3 rfl aBt.gl aBt.fn.kp aBt.bd .nil pass0 (pa_cons (pv 1) (pa_cons (pv 4) pa_nil))))))
      (pss_one (ps_expr (pe_bm PySem.F.plainAttrs_list PySem.F.slot_list_append PySem.F.type_list_append mt_append (pv 2) (pa_cons (pv 4) pa_nil)))))))
    (pss_cons (ps_for PassesOwn.never rfl (pi_list (pv 2)) (pg_name (i := 4) scLaw.nd rfl (.inr rfl))
      (pss_one (ps_if (pt_not (pt_val (pe_call GS hr6 rfl aS.gl aS.fn.kp aS.bd .nil pass0 (pa_cons (pe_tried (k := 8) (T := [(Pt, _)]) (t := fun E => tCall (spReadQX CB) [] E (tCons (tVar 4) tNil)) rfl D2 (tried_gives2 ER) (mk_plain TB rfl (List.mem_singleton.mpr rfl) (fun p hp _ => by rw [List.mem_singleton.mp hp]) (lamS2_by (N := nLaw) (sc := defScope sLaw) (by decide +kernel) rfl rfl) rfl (fun _ _ _ _ _ => rfl)) hr10
              (fun f c' E A outer s H hr' => (pe_call GRq hr' rfl aRq.gl aRq.fn.kp aRq.bd .nil (passes_call (takes_of rfl rfl rfl rfl) (fun _ _ _ _ h => h)) (pa_cons (pv 4) pa_nil)))) (pa_cons (pe_call GRd2 hr4 rfl aRd.gl aRd.fn.kp aRd.bd .nil pass0 (pa_cons (pv 4) pa_nil)) pa_nil)))))
        (pss_one (ps_ret pe_bl))
        pss_nil)))
    (pss_one (ps_ret pe_bl))))))))))))), ?_⟩
    have big : (1000 : Nat) ≤ sizeLine := by decide
    refine ⟨_, rfl, a, ns, rfl, hS, hlen, fun bg H1 nb B1 s1 => ?_⟩
    have T1 : Tabs [(Pt, (PyProof.Rows.envOfC "law" (defScope sLaw) s.heap.objs.size f (.ref c)).qual ++ "<lambda>")] H1 := fun q hq => by
      rw [List.mem_singleton.mp hq]
      exact TabS.nil (s1 _ _ hP)
    refine ⟨by show 10 ≤ sizeLine; decide, fun l1 n1 => ?_⟩
    generalize e1 : ([.str "", .str " ", .str "find", .str "find :", .str "find a", .str "find a :", .str "find a : ", .str "find a : e", .str "find a : e(", .str "find a : e(a"] : List V) = X1
    have b1 : X1.all txtB = true ∧ X1.length = 10 := by
      rw [← e1]
      exact ⟨by decide +kernel, rfl⟩
    have T2 := Tabs.ext T1 (same_new (o := HO.lst X1) n1)
    have B2 := B1.same (same_new (o := HO.lst X1) n1)
    have L2 : l1 ≠ bg := B1.ne n1
    have h1 : upd H1 l1 (.lst X1) l1 = some (.lst X1) := upd_same
    generalize upd H1 l1 (.lst X1) = H2 at T2 B2 h1 ⊢
    refine ⟨_, rfl, by show 5 ≤ sizeLine; decide, fun m0 nm0 => ?_⟩
    generalize eY0 : ([.str "find a : e(a)", .str "find a a : e(a)", .str "find a b : e(a)", .str "find some a : e(a)", .str "find a some : e(a)"] : List V) = Y0 at nm0 ⊢
    have bY0 : Y0.all txtB = true ∧ Y0.length = 5 := by
      rw [← eY0]
      exact ⟨by decide +kernel, rfl⟩
    refine ⟨l1, m0, _, _, rfl, rfl, same_new nm0 _ _ h1, upd_same, by rw [b1.2, bY0.2]; show 10 + 5 ≤ _; omega, fun r0 nr0 => ?_⟩
    have sr0 := (same_new (o := HO.lst Y0) nm0).trans (same_new (o := HO.lst (X1 ++ Y0)) nr0)
    have b2 : (X1 ++ Y0).all txtB = true ∧ (X1 ++ Y0).length = 15 := ⟨by rw [List.all_append, b1.1, bY0.1]; rfl, by rw [List.length_append, b1.2, bY0.2]⟩
    have T3 := Tabs.ext T2 sr0
    have B3 := B2.same sr0
    have L3 : r0 ≠ bg := (B2.same (same_new (o := HO.lst Y0) nm0)).ne nr0
    have h2 : upd (upd H2 m0 (.lst Y0)) r0 (.lst (X1 ++ Y0)) r0 = some (.lst (X1 ++ Y0)) := upd_same
    generalize upd (upd H2 m0 (.lst Y0)) r0 (.lst (X1 ++ Y0)) = H3 at T3 B3 h2 ⊢
    generalize X1 ++ Y0 = X2 at b2 h2 ⊢
    refine ⟨_, rfl, by show 4 ≤ sizeLine; decide, fun m1 nm1 => ?_⟩
    generalize eY1 : ([.str "find a some b : e(b,a)", .str "find a some b some c : e(a,b,c)", .str "find abcde : e(abcde)", .str "find a : e(b)"] : List V) = Y1 at nm1 ⊢
    have bY1 : Y1.all txtB = true ∧ Y1.length = 4 := by
      rw [← eY1]
      exact ⟨by decide +kernel, rfl⟩
    refine ⟨r0, m1, _, _, rfl, rfl, same_new nm1 _ _ h2, upd_same, by rw [b2.2, bY1.2]; show 15 + 4 ≤ _; omega, fun r1 nr1 => ?_⟩
    have sr1 := (same_new (o := HO.lst Y1) nm1).trans (same_new (o := HO.lst (X2 ++ Y1)) nr1)
    have b3 : (X2 ++ Y1).all txtB = true ∧ (X2 ++ Y1).length = 19 := ⟨by rw [List.all_append, b2.1, bY1.1]; rfl, by rw [List.length_append, b2.2, bY1.2]⟩
    have T4 := Tabs.ext T3 sr1
    have B4 := B3.same sr1
    have L4 : r1 ≠ bg := (B3.same (same_new (o := HO.lst Y1) nm1)).ne nr1
    have h3 : upd (upd H3 m1 (.lst Y1)) r1 (.lst (X2 ++ Y1)) r1 = some (.lst (X2 ++ Y1)) := upd_same
    generalize upd (upd H3 m1 (.lst Y1)) r1 (.lst (X2 ++ Y1)) = H4 at T4 B4 h3 ⊢
    generalize X2 ++ Y1 = X3 at b3 h3 ⊢
    refine ⟨_, rfl, by show 3 ≤ sizeLine; decide, fun m2 nm2 => ?_⟩
    generalize eY2 : ([.str "find a b c d ee f : e(a,b)", .str "find a : e(a), e(a), e(a), e(a), e(a), e(a), e(a)", .str "find a : find(a)"] : List V) = Y2 at nm2 ⊢
    have bY2 : Y2.all txtB = true ∧ Y2.length = 3 := by
      rw [← eY2]
      exact ⟨by decide +kernel, rfl⟩
    refine ⟨r1, m2, _, _, rfl, rfl, same_new nm2 _ _ h3, upd_same, by rw [b3.2, bY2.2]; show 19 + 3 ≤ _; omega, fun r2 nr2 => ?_⟩
    have sr2 := (same_new (o := HO.lst Y2) nm2).trans (same_new (o := HO.lst (X3 ++ Y2)) nr2)
    have b4 : (X3 ++ Y2).all txtB = true ∧ (X3 ++ Y2).length = 22 := ⟨by rw [List.all_append, b3.1, bY2.1]; rfl, by rw [List.length_append, b3.2, bY2.2]⟩
    have T5 := Tabs.ext T4 sr2
    have B5 := B4.same sr2
    have L5 : r2 ≠ bg := (B4.same (same_new (o := HO.lst Y2) nm2)).ne nr2
    have h4 : upd (upd H4 m2 (.lst Y2)) r2 (.lst (X3 ++ Y2)) r2 = some (.lst (X3 ++ Y2)) := upd_same
    generalize upd (upd H4 m2 (.lst Y2)) r2 (.lst (X3 ++ Y2)) = H5 at T5 B5 h4 ⊢
    generalize X3 ++ Y2 = X4 at b4 h4 ⊢
    refine ⟨_, rfl, by show 3 ≤ sizeLine; decide, fun m3 nm3 => ?_⟩
    generalize eY3 : ([.str "find a b : e(a,b), a < a", .str "find a b : e(a,b), a < b, b < a, a < b, a < b", .str "find a b : a < b, e(a,b)"] : List V) = Y3 at nm3 ⊢
    have bY3 : Y3.all txtB = true ∧ Y3.length = 3 := by
      rw [← eY3]
      exact ⟨by decide +kernel, rfl⟩
    refine ⟨r2, m3, _, _, rfl, rfl, same_new nm3 _ _ h4, upd_same, by rw [b4.2, bY3.2]; show 22 + 3 ≤ _; omega, fun r3 nr3 => ?_⟩
    have sr3 := (same_new (o := HO.lst Y3) nm3).trans (same_new (o := HO.lst (X4 ++ Y3)) nr3)
    have b5 : (X4 ++ Y3).all txtB = true ∧ (X4 ++ Y3).length = 25 := ⟨by rw [List.all_append, b4.1, bY3.1]; rfl, by rw [List.length_append, b4.2, bY3.2]⟩
    have T6 := Tabs.ext T5 sr3
    have B6 := B5.same sr3
    have L6 : r3 ≠ bg := (B5.same (same_new (o := HO.lst Y3) nm3)).ne nr3
    have h5 : upd (upd H5 m3 (.lst Y3)) r3 (.lst (X4 ++ Y3)) r3 = some (.lst (X4 ++ Y3)) := upd_same
    generalize upd (upd H5 m3 (.lst Y3)) r3 (.lst (X4 ++ Y3)) = H6 at T6 B6 h5 ⊢
    generalize X4 ++ Y3 = X5 at b5 h5 ⊢
    refine ⟨_, rfl, by show 4 ≤ sizeLine; decide, fun m4 nm4 => ?_⟩
    generalize eY4 : ([.str "find a b : e(a,b), a < b, e(a,b)", .str "find a : e(a,01)", .str "find a : e(a,32)", .str "find a : e(a,31)"] : List V) = Y4 at nm4 ⊢
    have bY4 : Y4.all txtB = true ∧ Y4.length = 4 := by
      rw [← eY4]
      exact ⟨by decide +kernel, rfl⟩
    refine ⟨r3, m4, _, _, rfl, rfl, same_new nm4 _ _ h5, upd_same, by rw [b5.2, bY4.2]; show 25 + 4 ≤ _; omega, fun r4 nr4 => ?_⟩
    have sr4 := (same_new (o := HO.lst Y4) nm4).trans (same_new (o := HO.lst (X5 ++ Y4)) nr4)
    have b6 : (X5 ++ Y4).all txtB = true ∧ (X5 ++ Y4).length = 29 := ⟨by rw [List.all_append, b5.1, bY4.1]; rfl, by rw [List.length_append, b5.2, bY4.2]⟩
    have T7 := Tabs.ext T6 sr4
    have B7 := B6.same sr4
    have L7 : r4 ≠ bg := (B6.same (same_new (o := HO.lst Y4) nm4)).ne nr4
    have h6 : upd (upd H6 m4 (.lst Y4)) r4 (.lst (X5 ++ Y4)) r4 = some (.lst (X5 ++ Y4)) := upd_same
    generalize upd (upd H6 m4 (.lst Y4)) r4 (.lst (X5 ++ Y4)) = H7 at T7 B7 h6 ⊢
    generalize X5 ++ Y4 = X6 at b6 h6 ⊢
    refine ⟨_, rfl, by show 5 ≤ sizeLine; decide, fun m5 nm5 => ?_⟩
    generalize eY5 : ([.str "find a : e(a,100)", .str "find a : e(a,1,2,3,4)", .str "find a : e(a,0,0,0)", .str "find a1 : e(a)", .str "find a : e(a)."] : List V) = Y5 at nm5 ⊢
    have bY5 : Y5.all txtB = true ∧ Y5.length = 5 := by
      rw [← eY5]
      exact ⟨by decide +kernel, rfl⟩
    refine ⟨r4, m5, _, _, rfl, rfl, same_new nm5 _ _ h6, upd_same, by rw [b6.2, bY5.2]; show 29 + 5 ≤ _; omega, fun r5 nr5 => ?_⟩
    have sr5 := (same_new (o := HO.lst Y5) nm5).trans (same_new (o := HO.lst (X6 ++ Y5)) nr5)
    have b7 : (X6 ++ Y5).all txtB = true ∧ (X6 ++ Y5).length = 34 := ⟨by rw [List.all_append, b6.1, bY5.1]; rfl, by rw [List.length_append, b6.2, bY5.2]⟩
    have T8 := Tabs.ext T7 sr5
    have B8 := B7.same sr5
    have L8 : r5 ≠ bg := (B7.same (same_new (o := HO.lst Y5) nm5)).ne nr5
    have h7 : upd (upd H7 m5 (.lst Y5)) r5 (.lst (X6 ++ Y5)) r5 = some (.lst (X6 ++ Y5)) := upd_same
    generalize upd (upd H7 m5 (.lst Y5)) r5 (.lst (X6 ++ Y5)) = H8 at T8 B8 h7 ⊢
    generalize X6 ++ Y5 = X7 at b7 h7 ⊢
    refine ⟨_, rfl, by show 5 ≤ sizeLine; decide, fun m6 nm6 => ?_⟩
    generalize eY6 : ([.str "find a : ninelongs(a)", .str "find a : eightlon(a)", .str "find a : e(a),", .str "find a : e(a) e(a)", .str "find a : e()"] : List V) = Y6 at nm6 ⊢
    have bY6 : Y6.all txtB = true ∧ Y6.length = 5 := by
      rw [← eY6]
      exact ⟨by decide +kernel, rfl⟩
    refine ⟨r5, m6, _, _, rfl, rfl, same_new nm6 _ _ h7, upd_same, by rw [b7.2, bY6.2]; show 34 + 5 ≤ _; omega, fun r6 nr6 => ?_⟩
    have sr6 := (same_new (o := HO.lst Y6) nm6).trans (same_new (o := HO.lst (X7 ++ Y6)) nr6)
    have b8 : (X7 ++ Y6).all txtB = true ∧ (X7 ++ Y6).length = 39 := ⟨by rw [List.all_append, b7.1, bY6.1]; rfl, by rw [List.length_append, b7.2, bY6.2]⟩
    have T9 := Tabs.ext T8 sr6
    have B9 := B8.same sr6
    have L9 : r6 ≠ bg := (B8.same (same_new (o := HO.lst Y6) nm6)).ne nr6
    have h8 : upd (upd H8 m6 (.lst Y6)) r6 (.lst (X7 ++ Y6)) r6 = some (.lst (X7 ++ Y6)) := upd_same
    generalize upd (upd H8 m6 (.lst Y6)) r6 (.lst (X7 ++ Y6)) = H9 at T9 B9 h8 ⊢
    generalize X7 ++ Y6 = X8 at b8 h8 ⊢
    refine ⟨_, rfl, by omega, by omega, ?_⟩
    refine for_range (lo := 0) (n := 5) (fun i σ H' => ∃ (x3 x4 x5 : Option V) (zs : List V), σ = [some (.ref a), some (.ref bg), some (.ref r6), x3, x4, x5] ∧ Bag H' bg ∧ Tabs [(Pt, (PyProof.Rows.envOfC "law" (defScope sLaw) s.heap.objs.size f (.ref c)).qual ++ "<lambda>")] H' ∧ H' r6 = some (.lst zs) ∧ zs.all txtB = true ∧ zs.length = 39 + i) ⟨none, none, none, X8, rfl, B9, T9, h8, b8.1, b8.2⟩ ?_ ?_
    · rintro i σ H6 hi ⟨x3, x4, x5, zs, rfl, B6, T6, h6, bz, lz⟩
      refine ⟨_, rfl, bg, rfl, B6, fun p q H7 qa ok B7 k7 => ?_⟩
      refine ⟨p, q, rfl, qa, ok, fun H8 s8 => ?_⟩
      have T8 := Tabs.ext (Tabs.keep T6 B6 k7) s8
      have B8 := B7.same s8
      have h8 := s8 _ _ (k7.1 _ _ L9 h6)
      have tq : TxO 416 (qTx q) := by
        refine ⟨?_, spell_asc (spell_q ok) fun z m => (toks_ok ok z m).asc⟩
        unfold qTx
        have h1 := head_few ok
        have h2 := tail_few ok
        have e1 : (" : " : Str).length = 3 := by decide +kernel
        rw [Str.length_append, Str.length_append, e1]
        omega
      refine ⟨_, rfl, bg, 3, rfl, B8, by decide, by decide, fun d2 H10 d20 d23 B10 K10 => ⟨1, d2, rfl, rfl, ?_⟩⟩
      obtain ⟨m2', rfl⟩ := Int.eq_ofNat_of_zero_le d20
      rw [show ((fun i j : Int => V.int (i + j)) 1 (m2' : Int)) = V.int ((m2' + 1 : Nat) : Int) from congrArg V.int (by omega)]
      refine ⟨_, rfl, by omega, by omega, ?_⟩
      refine for_range (lo := 0) (n := m2' + 1) (fun j σ H' => (∃ (zt : Str) (y3 y5 : Option V), σ = [some (.ref a), some (.ref bg), some (.ref r6), y3, some (.str zt), y5] ∧ TxO (416 + 8 * j) zt) ∧ Bag H' bg ∧ Tabs [(Pt, (PyProof.Rows.envOfC "law" (defScope sLaw) s.heap.objs.size f (.ref c)).qual ++ "<lambda>")] H' ∧ H' r6 = some (.lst zs)) ⟨⟨qTx q, _, _, rfl, tq⟩, B10, Tabs.keep T8 B8 K10, K10.1 _ _ L9 h8⟩ ?_ ?_
      · rintro j σ H11 hj ⟨⟨zt, y3, y5, rfl, tz⟩, B11, T11, h11⟩
        refine ⟨_, rfl, _, rfl, bg, zt, _, rfl, B11, tz, by omega, fun y H12 ty B12 K12 => ?_⟩
        exact ⟨⟨y, _, _, rfl, ty.mono (by omega)⟩, B12, Tabs.keep T11 B11 K12, K12.1 _ _ L9 h11⟩
      · rintro σ H11 ⟨⟨zt, y3, y5, rfl, tz⟩, B11, T11, h11⟩
        refine ⟨_, rfl, .inl ⟨rfl, _, SqL.of h11⟩, _, rfl, r6, _, _, rfl, rfl, h11, lt_line (by omega), ?_⟩
        have nb : r6 ≠ bg := L9
        refine ⟨_, _, _, zs ++ [.str zt], rfl, bag_upd B11 nb h11 bz (by omega), tabs_lst h11 T11, upd_same, ?_, by rw [List.length_append, lz]; rfl⟩
        rw [List.all_append, bz]
        show (true && ((decide (zt.length ≤ 900) && zt.cps.toList.all fun c => decide (c < 128)) && true)) = true
        rw [decide_eq_true (show zt.length ≤ 900 by have := tz.1; omega), List.all_eq_true.mpr fun c mc => decide_eq_true (tz.2 c mc)]
        rfl
    · rintro σ H6 ⟨x3, x4, x5, zs, rfl, B6, T6, h6, bz, lz⟩
      refine ⟨_, rfl, r6, rfl, ⟨_, SqL.of h6⟩, for_list (xs := zs) (fun j σ H' => (∃ x3 x4 x5 : Option V, σ = [some (.ref a), some (.ref bg), some (.ref r6), x3, x4, x5]) ∧ Tabs [(Pt, (PyProof.Rows.envOfC "law" (defScope sLaw) s.heap.objs.size f (.ref c)).qual ++ "<lambda>")] H' ∧ H' r6 = some (.lst zs)) ⟨⟨_, _, _, rfl⟩, T6, h6⟩ (fun j σ H' _ z => SqL.of z.2.2) ?_ ?_⟩
      · rintro j v σ H7 hv ⟨⟨x3, x4, x5, rfl⟩, T7, h7⟩
        obtain ⟨zt, rfl, l9, asc⟩ := txt_of bz (List.mem_of_getElem? hv)
        refine ask_ok SB T7 l9 asc (fun H' Q' z => ⟨_, rfl, z⟩) fun H13 ext T13 => ⟨_, rfl, iteF ?_⟩
        exact ⟨⟨_, _, _, rfl⟩, T13, ext _ _ h7 (fun ps z => by cases z)⟩
      · rintro σ H7 ⟨⟨x3, x4, x5, rfl⟩, T7, h7⟩
        exact k _
end
end VQ
namespace VQ
open PySem L2 LamX
/-! ### k23 put together -/
section
variable {P : Program} {w : World} {K : PySem.W.Frag} {mg : Str → Option Value} {base : Heap} {Ta NT NR BT Uf Fu TM QE No CB C aB : Addr}
/-- the reader, put together -/
structure RDefs (K : PySem.W.Frag) (mg : Str → Option Value) : Prop where
  pe : AtE K mg "part_end" sPartEnd ["text", "at"]
  pf : AtE K mg "parts_of" sPartsOf ["text"]
  iw : AtE K mg "is_word" sIsWord ["part"]
  rn : AtE K mg "read_name" sReadName ["parts", "names"]
  rs : AtE K mg "read_names" sReadNames ["parts", "names"]
  rt : AtE K mg "read_term" sReadTerm ["parts", "names"]
  ri : AtE K mg "read_tie" sReadTie ["parts", "names"]
  rp : AtE K mg "read_pair" sReadPair ["parts", "names"]
  rc : AtE K mg "read_clauses" sReadClauses ["parts", "names"]
  rq : AtE K mg "read_question" sReadQuestion ["text"]
structure RCls (K : PySem.W.Frag) (mg : Str → Option Value) (C : Addr) : Prop where
  T : PCls K C
  ini : ∃ f fd, Fun K "__init__" "Parts.__init__" sPartsInit f fd ∧ Mk K C f ∧ mg "Parts" = some (.ref C) ∧ Binds K fd ["self", "text"] []
  th : ∃ f fd, Fun K "this" "Parts.this" sPartsThis f fd ∧ Meth K C "this" f ∧ Binds K fd ["self"] []
  be : ∃ f fd, Fun K "behind" "Parts.behind" sPartsBehind f fd ∧ Meth K C "behind" f ∧ Binds K fd ["self"] []
  ne : ∃ f fd, Fun K "need" "Parts.need" sPartsNeed f fd ∧ Meth K C "need" f ∧ Binds K fd ["self", "fits"] []
  rd : ∃ f fd, Fun K "read" "Parts.read" sPartsRead f fd ∧ Meth K C "read" f ∧ Binds K fd ["self", "fits"] []
  rg : ∃ f fd, Fun K "read_sign" "Parts.read_sign" sPartsReadSign f fd ∧ Meth K C "read_sign" f ∧ Binds K fd ["self", "sign"] []
theorem parts_allR {fIB : Addr} {fdIB : FuncData} (R : RCls K mg C) (EB : ErrF K mg CB fIB fdIB) : RMeth P w K mg base C CB := by
  obtain ⟨fTh, fdTh, FTh, mTh, bTh⟩ := R.th
  obtain ⟨fBe, fdBe, FBe, mBe, bBe⟩ := R.be
  obtain ⟨fNe, fdNe, FNe, mNe, bNe⟩ := R.ne
  obtain ⟨fRd, fdRd, FRd, mRd, bRd⟩ := R.rd
  obtain ⟨fRg, fdRg, FRg, mRg, bRg⟩ := R.rg
  have GTh := ok_thisR (P := P) (w := w) (mg := mg) (base := base) FTh R.T
  have GNe := ok_needR (P := P) (w := w) (mg := mg) (base := base) FNe R.T EB
  have GRd := ok_readR FRd R.T mTh bTh GTh mNe bNe GNe
  exact ⟨R.T, ⟨_, _, mTh, bTh, GTh⟩, ⟨_, _, mBe, bBe, ok_behindR FBe R.T mTh bTh GTh⟩, ⟨_, _, mNe, bNe, GNe⟩, ⟨_, _, mRd, bRd, GRd⟩, ⟨_, _, mRg, bRg, ok_readsignR FRg R.T mTh bTh GTh mRd bRd GRd⟩⟩
theorem read_allX {fIB : Addr} {fdIB : FuncData} (b : Blt mg) (W : Wq K mg aB) (Di : ∃ t, mg "DIGITS" = some (.str digs t)) (EB : ErrF K mg CB fIB fdIB) (nm : AtE K mg "is_name" sIsName ["thing", "most"]) (al : AtE K mg "all_tied" sAllTied ["names", "ties"]) (R : RCls K mg C) (D : RDefs K mg) : Has P w K mg base (L2.CX P w) 8 "read_question" sReadQuestion ["text"] (spReadQX CB) := by
  obtain ⟨tle, Wle⟩ := W.le
  have hNm : Has P w K mg base CX0 1 "is_name" sIsName ["thing", "most"] spIsNameX := has_isnameX b Wle W.ba W.bt nm
  have M : RMeth P w K mg base C CB := parts_allR R EB
  have hPf := has_partsX b (has_partend (P := P) (w := w) (base := base) b W.le Di D.pe) D.pf
  obtain ⟨fI, fdI, FI, mI, gI, bI⟩ := R.ini
  have Mp : RMake P w K mg base C := ⟨_, _, mI, gI, bI, ok_pinitR FI R.T hPf⟩
  have hIw : Has P w K mg base CX0 1 "is_word" sIsWord ["part"] spIsWord := has_isword W.le D.iw
  have hRn := has_readnameR b W M hNm D.rn
  have hRs := has_readnamesR b M hIw hRn D.rs
  have hRt := has_readtermR b W M D.rt
  have hRi := has_readtieR b W M hNm hRt D.ri
  have hRp := has_readpairR b M D.rp
  exact has_readqX b M Mp EB hRs (has_readclR b W M hRp hRi D.rc) (has_alltiedX b al) D.rq
theorem quest_all {fP fO fMx fW : Addr} {fdP fdO fdMx fdW : FuncData} (b : Blt mg) (any : mg "any" = none) (aP : At K mg "_law_pull" sPull ["_law_bag_here", "_law_size"] fP fdP) (aO : At K mg "_law_of" sOf ["_law_bag_here", "_law_some"] fO fdO)
    (aMx : At K mg "_law_mixed" sLawMixed ["_law_bag_here", "_law_some"] fMx fdMx) (aW : At K mg "_law_worth" sWorth ["_law_bag_here"] fW fdW) (pool : AtE K mg "_law_pool" sLawPool ["_law_bag_here", "_law_many", "_law_most"]) (term : AtE K mg "_law_term" sLawTerm ["_law_bag_here", "_law_names_here"])
    (terms : AtE K mg "_law_terms" sLawTerms ["_law_bag_here", "_law_names_here", "_law_width"]) (names : AtE K mg "_law_names" sLawNames ["_law_bag_here", "_law_many"]) (pairs : AtE K mg "_law_pairs" sLawPairs ["_law_bag_here", "_law_names_here", "_law_most"]) (unlike : AtE K mg "_law_unlike_names" sLawUnlikeNames ["_law_bag_here", "_law_many"]) :
    FDefs P w K mg base := by
  have hP : Has P w K mg base CX0 1 "_law_pull" sPull ["_law_bag_here", "_law_size"] spPull := ⟨_, _, aP, ok_pull aP.fn b.len⟩
  have hPo := has_pool b hP pool
  have G : GDefs P w K mg base := ⟨b, hP, has_ofA b hP ⟨_, _, aO⟩, ⟨_, _, aMx, ok_mixed aMx.fn b aP⟩, ⟨_, _, aW, ok_worth aW.fn b.len aP aO⟩, hPo⟩
  exact ⟨G, any, has_terms b (has_term G term) terms, has_pairs b hP pairs, has_unlike b (has_names b hPo names) unlike⟩
theorem law_all23 {f c Pt fIB fB fP fO fMx fS fW fT : Addr} {fdIB fdB fdP fdO fdMx fdS fdW fdT : FuncData} {kV doc pm ct oc : Value} {an od : Option Addr} {osl : Array (Option Value)}
    (lk : K.lookup f = some ⟨oc, od, .func (PySem.W.fnOf "law" "law" (defArgs sLaw) (defBody sLaw) (defScope sLaw) .none kV doc pm an (.ref c) ct), osl⟩) (hcd : PySem.W.codeIn K (.ref c) "law" = true) (TB : TabB base mg c Pt)
    (b : Blt mg) (W : Wq K mg aB) (Di : ∃ t, mg "DIGITS" = some (.str digs t)) (any : mg "any" = none) (en : mg "enumerate" = none) (ER : Errs mg Ta NT NR BT Uf Fu TM QE No) (SB : Second K Ta NT NR BT Uf CB) (EB : ErrF K mg CB fIB fdIB)
    (aBg : At K mg "_law_bag" sBag ["_law_script"] fB fdB) (aP : At K mg "_law_pull" sPull ["_law_bag_here", "_law_size"] fP fdP) (aO : At K mg "_law_of" sOf ["_law_bag_here", "_law_some"] fO fdO) (aMx : At K mg "_law_mixed" sLawMixed ["_law_bag_here", "_law_some"] fMx fdMx) (aS : At K mg "_law_same" sSame ["_law_found", "_law_due"] fS fdS) (aT : At K mg "_law_tried" sTried ["_law_ask"] fT fdT) (aW : At K mg "_law_worth" sWorth ["_law_bag_here"] fW fdW)
    (pool : AtE K mg "_law_pool" sLawPool ["_law_bag_here", "_law_many", "_law_most"]) (term : AtE K mg "_law_term" sLawTerm ["_law_bag_here", "_law_names_here"]) (terms : AtE K mg "_law_terms" sLawTerms ["_law_bag_here", "_law_names_here", "_law_width"]) (names : AtE K mg "_law_names" sLawNames ["_law_bag_here", "_law_many"])
    (pairs : AtE K mg "_law_pairs" sLawPairs ["_law_bag_here", "_law_names_here", "_law_most"]) (unlike : AtE K mg "_law_unlike_names" sLawUnlikeNames ["_law_bag_here", "_law_many"]) (free : AtE K mg "_law_free_question" sLawFreeQuestion ["_law_bag_here"])
    (lt : AtE K mg "_law_tie_text" sLawTieText ["_law_tie"]) (lh : AtE K mg "_law_head_text" sLawHeadText ["_law_question"]) (lx : AtE K mg "_law_text" sLawText ["_law_question"])
    (gn : AtE K mg "_law_good_name" sLawGoodName ["_law_name"]) (tk : AtE K mg "_law_tokens" sLawTokens ["_law_text_here"]) (rh : AtE K mg "_law_read_head" sLawReadHead ["_law_tokens_here"]) (rm : AtE K mg "_law_read_term" sLawReadTerm ["_law_word", "_law_names_here"]) (ry : AtE K mg "_law_read_tie" sLawReadTie ["_law_tokens_here", "_law_k", "_law_names_here"])
    (re : AtE K mg "_law_read_item" sLawReadItem ["_law_tokens_here", "_law_k", "_law_names_here", "_law_ties", "_law_less_now"]) (rr : AtE K mg "_law_read" sLawRead ["_law_text_here"]) (bt : AtE K mg "_law_bent_text" sLawBentText ["_law_bag_here", "_law_text_here"])
    (nm : AtE K mg "is_name" sIsName ["thing", "most"]) (al : AtE K mg "all_tied" sAllTied ["names", "ties"]) (R : RCls K mg C) (RD : RDefs K mg) :
    FnOk P w K mg base CX0 11 f (PySem.W.fnOf "law" "law" (defArgs sLaw) (defBody sLaw) (defScope sLaw) .none kV doc pm an (.ref c) ct) ["_law_script"] (spLaw K Pt) := by
  have D : FDefs P w K mg base := quest_all b any aP aO aMx aW pool term terms names pairs unlike
  have hLx : Has P w K mg base CX0 2 "_law_text" sLawText ["_law_question"] spLText := has_ltext b (has_ltie b lt) (has_lhead b lh) lx
  have hTk : Has P w K mg base CX0 1 "_law_tokens" sLawTokens ["_law_text_here"] spToksX := has_toksX b en tk
  have hGn : Has P w K mg base CX0 1 "_law_good_name" sLawGoodName ["_law_name"] spGoodNameX := has_goodnameX b gn
  have hO : Has P w K mg base CX0 2 "_law_of" sOf ["_law_bag_here", "_law_some"] (spOfA K) := D.g.of_
  have hP : Has P w K mg base CX0 1 "_law_pull" sPull ["_law_bag_here", "_law_size"] spPull := ⟨_, _, aP, ok_pull aP.fn b.len⟩
  exact ok_law lk hcd TB b ER SB aT ⟨_, _, aBg, ok_bag aBg.fn b.list⟩ hP ⟨_, _, aS, ok_same aS b 5⟩ (has_free D free) hLx (has_bent b hP hO bt) (read_allX b W Di EB nm al R RD) (has_readX b any hTk (has_rheadX b hGn rh) (has_ritemX b (has_rtieX b hGn (has_rtermX b rm) ry) re) rr)
end
end VQ
namespace VQ
open PySem PySem.Spec PyProof.Rows L2
/-! ### a table of the top whose keys are texts -/
def keysB (K : PySem.W.Frag) (d : Addr) (ks : List Str) : Bool := match K.lookup d with
  | some ⟨_, _, .dict es _, _⟩ => es.toList.all fun e => match e.key with
    | .str x _ => decide (x ∈ ks)
    | _ => false
  | _ => false
theorem keysB_no {K : PySem.W.Frag} {d : Addr} {ks : List Str} (h : keysB K d ks = true) {z : Str} (n : z ∉ ks) : PySem.W.nsIn K d z = some none := by
  unfold keysB at h
  unfold PySem.W.nsIn
  cases q : K.lookup d with
  | none =>
    rw [q] at h
    cases h
  | some o =>
    obtain ⟨oc, od, dt, osl⟩ := o
    rw [q] at h
    cases dt with
    | dict es m =>
      have all : ∀ e ∈ es.toList, ∃ x t, e.key = .str x t ∧ x ∈ ks := fun e me => by
        have h1 := List.all_eq_true.mp h e me
        cases ek : e.key with
        | str x t =>
          rw [ek] at h1
          exact ⟨x, t, rfl, of_decide_eq_true h1⟩
        | _ =>
          rw [ek] at h1
          cases h1
      have e1 : es.toList.find? (·.key.isStr z) = none := List.find?_eq_none.mpr fun e me => by
        obtain ⟨x, t, ek, mx⟩ := all e me
        rw [ek]
        intro y
        have y2 : (x == z) = true := y
        rw [LawfulBEq.eq_of_beq y2] at mx
        exact n mx
      have e2 : es.toList.any (·.refKey) = false := by
        rw [List.any_eq_false]
        intro e me
        obtain ⟨x, t, ek, mx⟩ := all e me
        unfold DictEntry.refKey
        rw [ek]
        exact Bool.false_ne_true
      show (match es.toList.find? (·.key.isStr z) with
        | some e => some (some e.val)
        | none => if es.toList.any (·.refKey) then none else some none) = _
      rw [e1, e2]
      rfl
    | _ => cases h
/-- a table: its keys, what stands at each -/
structure TabK (K : PySem.W.Frag) (w : World) (d : Addr) (kvs : List (Str × V)) : Prop where
  kd : ∃ es n, KDict K w d es n
  yes : ∀ p ∈ kvs, ∃ u, PySem.W.nsIn K d p.1 = some (some u) ∧ RelV p.2 u
  no : ∀ z, z ∉ kvs.map (·.1) → PySem.W.nsIn K d z = some none
theorem TabK.dct {K : PySem.W.Frag} {w : World} {d : Addr} {kvs : List (Str × V)} (T : TabK K w d kvs) {p : Str × V} (m : p ∈ kvs) : KDct K w d p.1 p.2 := by
  obtain ⟨es, n, D⟩ := T.kd
  obtain ⟨u, e, r⟩ := T.yes p m
  exact ⟨es, n, u, D.at_, D.lit, e, r⟩
/-- z in the table, for any text z -/
def rInTab (K : PySem.W.Frag) (w : World) (neg : Bool) : R2 := fun x y H Q => ∃ (z : Str) (d : Addr) (kvs : List (Str × V)), x = .str z ∧ y = .ref d ∧ TabK K w d kvs ∧ Q (.bl (if neg then !decide (z ∈ kvs.map (·.1)) else decide (z ∈ kvs.map (·.1)))) H
theorem tab_some {K : PySem.W.Frag} {w : World} {d : Addr} {kvs : List (Str × V)} (T : TabK K w d kvs) (z : Str) : ∃ r, PySem.W.nsIn K d z = some r ∧ r.isSome = decide (z ∈ kvs.map (·.1)) := by
  by_cases m : z ∈ kvs.map (·.1)
  · obtain ⟨p, mp, rfl⟩ := List.mem_map.mp m
    obtain ⟨u, e, _⟩ := T.yes p mp
    exact ⟨_, e, by rw [decide_eq_true m]; rfl⟩
  · exact ⟨_, T.no z m, by rw [decide_eq_false m]; rfl⟩
theorem op_inTab {X : Cx} : OpR X (compareOp .In) (rInTab X.K X.w false) := by
  intro pins s σ H x y v u Q I rx ry h
  obtain ⟨z, d, kvs, rfl, rfl, T, q⟩ := h
  obtain ⟨es, n, D⟩ := T.kd
  obtain ⟨r, e, er⟩ := tab_some T z
  refine op_in_kd D pins s σ H _ _ v u Q I rx ry ⟨z, r, rfl, rfl, e, ?_⟩
  rw [er]
  exact q
theorem op_notInTab {X : Cx} : OpR X (compareOp .NotIn) (rInTab X.K X.w true) := by
  intro pins s σ H x y v u Q I rx ry h
  obtain ⟨z, d, kvs, rfl, rfl, T, q⟩ := h
  obtain ⟨es, n, D⟩ := T.kd
  obtain ⟨r, e, er⟩ := tab_some T z
  refine op_notIn_kd D pins s σ H _ _ v u Q I rx ry ⟨z, r, rfl, rfl, e, ?_⟩
  rw [er]
  exact q
/-! ### x in a tuple of things of any depth -/
def rInDT (K : PySem.W.Frag) : R2 := fun x y H Q => ∃ d ds, Dp K H x d ∧ Dp K H y (.tuple ds) ∧ SeqAt.shaped d = true ∧ SeqAt.shaped (.tuple ds) = true ∧ Q (.bl (ds.any fun z => PyData.eqv z d)) H
theorem op_inDT {X : Cx} (hu : X.A.units + 65 < cLine) : OpR X (compareOp .In) (rInDT X.K) := by
  intro pins s σ H x y v u Q inv rx ry h
  obtain ⟨d, ds, hd, he, sd, se, q⟩ := h
  obtain ⟨as, r1⟩ := Dp.reads inv d x v hd rx
  obtain ⟨bs, r2⟩ := Dp.reads inv (.tuple ds) y u he ry
  exact SeqAt.in_tuple_reads r2 r1 (SeqAt.canLay_of_shaped se) (SeqAt.canLay_of_shaped sd) (room_in_shaped sd hu) ⟨.bl _, H, inv, rfl, q⟩
end VQ
namespace VQ
open PySem L2 LamX
/-! ### what the top has left -/
def oexB (K : PySem.W.Frag) (C : Addr) : Bool := match K.lookup C with
  | some ⟨cl, _, .cls cd, sl⟩ => decide (cl = .type "type") && (match cd.mro with
    | top :: bm => decide (top = .ref C) && PySem.HandSPX.refsVE bm
    | [] => false) && decide (sl.size = 6) && decide (sl[4]? = some (some (.builtin "ValueError.__new__"))) && cd.hasDict && !cd.hasDel
  | _ => false
theorem six {sl : Array (Option Value)} {v : Option Value} (h : sl.size = 6) (e : sl[4]? = some v) : ∃ k0 k1 k2 k3 k5, sl = #[k0, k1, k2, k3, v, k5] := by
  obtain ⟨l⟩ := sl
  match l, h, e with
  | [k0, k1, k2, k3, k4, k5], _, e =>
    cases e
    exact ⟨k0, k1, k2, k3, k5, rfl⟩
theorem oexB_ok {K : PySem.W.Frag} {C : Addr} (q : oexB K C = true) : ∃ nm q N bs bm sn sub ab col dd k0 k1 k2 k3 k5, K.lookup C = some (excClassObj nm q C N bs bm true sn sub ab col dd k0 k1 k2 k3 k5 "ValueError.__new__") ∧ PySem.HandSPX.refsVE bm = true := by
  unfold oexB at q
  cases here : K.lookup C with
  | none => rw [here] at q; cases q
  | some o =>
    obtain ⟨cl, dc, dt, sl⟩ := o
    rw [here] at q
    cases dt with
    | cls cd =>
      obtain ⟨nm, bs, mro, ns, qn, hasD, sn, sub, ab, col, del⟩ := cd
      cases mro with
      | nil => simp at q
      | cons first bm =>
        simp only [Bool.and_eq_true, decide_eq_true_eq, Bool.not_eq_true'] at q
        obtain ⟨⟨⟨⟨⟨q1, q2, q3⟩, q4⟩, q5⟩, q6⟩, q7⟩ := q
        obtain ⟨k0, k1, k2, k3, k5, rfl⟩ := six q4 q5
        subst q1 q2 q6 q7
        exact ⟨nm, qn, ns, bs, bm, sn, sub, ab, col, dc, k0, k1, k2, k3, k5, rfl, q3⟩
    | _ => cases q
/-- an error class of the program: made by its own __init__, its field called -/
def errB (K : PySem.W.Frag) (x : Str) : Bool := oexB K (He.ga K x) && (decide (PySem.W.findIn K (.ref (He.ga K x)) "__setattr__" = some (some (.builtin "object.__setattr__"))) &&
  (decide (PySem.W.subIn K (.ref (He.ga K x)) (.type "BaseException") = some true) && (decide (PySem.W.typeIn K (.ref (He.ga K x)) = some (.type "type")) && (PySem.W.keepIn K (.ref (He.ga K x)) &&
  (decide (PySem.W.findIn K (.ref (He.ga K x)) "__init__" = some (some (.ref (He.ma K (He.ga K x) "__init__")))) && (decide (PySem.W.typeIn K (.ref (He.ma K (He.ga K x) "__init__")) = some (.type "function")) &&
  decide (PySem.W.findIn K (.ref (He.ga K x)) "called" = some none)))))))
theorem errB_ok {K : PySem.W.Frag} {mg : Str → Option Value} {x qual : Str} {st : Stmt} {fd : FuncData} (h : errB K x = true) (gl : mg x = some (.ref (He.ga K x))) (fn : Fun K "__init__" qual st (He.ma K (He.ga K x) "__init__") fd) (bd : Binds K fd ["self"] []) :
    ErrC K mg x (He.ga K x) (He.ma K (He.ga K x) "__init__") fd qual st := by
  obtain ⟨h1, h⟩ := He.ba h
  obtain ⟨h2, h⟩ := He.ba h
  obtain ⟨h3, h⟩ := He.ba h
  obtain ⟨h4, h⟩ := He.ba h
  obtain ⟨h5, h⟩ := He.ba h
  obtain ⟨h6, h⟩ := He.ba h
  obtain ⟨h7, h8⟩ := He.ba h
  exact ⟨gl, ⟨oexB_ok h1, of_decide_eq_true h2, of_decide_eq_true h3, of_decide_eq_true h4, h5⟩, of_decide_eq_true h6, of_decide_eq_true h7, of_decide_eq_true h8, fn, bd⟩
theorem fun_of_D {K : PySem.W.Frag} {x qual : Str} {st : Stmt} {f : Addr} {fd : FuncData} (F : FunD K x qual (defArgs st) (defBody st) (defScope st) [] [] f fd) : Fun K x qual st f fd := by
  obtain ⟨oc, od, dV, kV, doc, pm, an, cdv, ct, osl, e, lk, cd, dv, kw⟩ := F.ex
  rcases dv with ⟨_, rfl⟩ | ⟨z, _⟩
  · exact ⟨⟨oc, od, kV, doc, pm, an, cdv, ct, osl, e, lk, cd⟩, F.kp⟩
  · exact absurd rfl z
/-- a def of the top -/
def dd (x : Str) (st : Stmt) : He.DefD := ⟨(x, none), x, x, defArgs st, defBody st, defScope st, [], []⟩
def dm (c m q : Str) (st : Stmt) : He.DefD := ⟨(c, some m), m, q, defArgs st, defBody st, defScope st, [], []⟩
end VQ
namespace VQ
open PySem L2 LamX
def plainB (K : PySem.W.Frag) (x : Str) : Bool := decide (PySem.W.exmAny K (.ref (He.ga K x)) [.ref (He.ga K "Taken"), .ref (He.ga K "NoTable"), .ref (He.ga K "NoRow")] = some false) &&
  (decide (PySem.W.exmAny K (.ref (He.ga K x)) [.ref (He.ga K "BadText"), .ref (He.ga K "Unfit")] = some false) && (decide (PySem.W.exmAny K (.ref (He.ga K x)) [.ref (He.ga K "Full")] = some false) &&
  (decide (PySem.W.exmAny K (.ref (He.ga K x)) [.ref (He.ga K "TooMany")] = some false) && (decide (PySem.W.exmAny K (.ref (He.ga K x)) [.ref (He.ga K "QuiltError"), .ref (He.ga K "Nothing")] = some true) &&
  (xfB K (He.ga K x) && decide (PySem.W.findIn K (.ref (He.ga K x)) "called" = some none))))))
theorem plainB_ok {K : PySem.W.Frag} {x : Str} (h : plainB K x = true) : Plain K (He.ga K "Taken") (He.ga K "NoTable") (He.ga K "NoRow") (He.ga K "BadText") (He.ga K "Unfit") (He.ga K "Full") (He.ga K "TooMany") (He.ga K "QuiltError") (He.ga K "Nothing") (He.ga K x) := by
  obtain ⟨h1, h⟩ := He.ba h
  obtain ⟨h2, h⟩ := He.ba h
  obtain ⟨h3, h⟩ := He.ba h
  obtain ⟨h4, h⟩ := He.ba h
  obtain ⟨h5, h⟩ := He.ba h
  obtain ⟨h6, h7⟩ := He.ba h
  exact ⟨of_decide_eq_true h1, of_decide_eq_true h2, of_decide_eq_true h3, of_decide_eq_true h4, of_decide_eq_true h5, xfB_ok h6, of_decide_eq_true h7⟩
end VQ
namespace VQ
open PySem L2 LamX
/-! ### a class of the program as the top has left it -/
def clsB (K : PySem.W.Frag) (x : Str) : Bool := PySem.W.plainGet K (He.ga K x) Str.empty && (PySem.W.hasDictIn K (He.ga K x) && (PySem.W.plainOver K (He.ga K x) && decide (PySem.W.findIn K (.ref (He.ga K x)) "__setattr__" = some (some (.builtin "object.__setattr__")))))
theorem clsB_ok {K : PySem.W.Frag} {x : Str} (h : clsB K x = true) : Cls K (He.ga K x) := by
  obtain ⟨h1, h⟩ := He.ba h
  obtain ⟨h2, h⟩ := He.ba h
  obtain ⟨h3, h4⟩ := He.ba h
  exact ⟨h1, h2, h3, of_decide_eq_true h4⟩
def noB (K : PySem.W.Frag) (x f : Str) : Bool := decide (PySem.W.findIn K (.ref (He.ga K x)) f = some none)
theorem noB_ok {K : PySem.W.Frag} {x f : Str} (h : noB K x f = true) : NoAttr K (He.ga K x) f := by
  show PySem.W.findIn K (.ref (He.ga K x)) f = some none
  exact of_decide_eq_true h
def methB (K : PySem.W.Frag) (x m : Str) : Bool := decide (PySem.W.findIn K (.ref (He.ga K x)) m = some (some (.ref (He.ma K (He.ga K x) m)))) && (PySem.W.isFn K (.ref (He.ma K (He.ga K x) m)) && PySem.W.keepIn K (.ref (He.ma K (He.ga K x) m)))
theorem methB_ok {K : PySem.W.Frag} {x m : Str} (h : methB K x m = true) : Meth K (He.ga K x) m (He.ma K (He.ga K x) m) := by
  obtain ⟨h1, h⟩ := He.ba h
  obtain ⟨h2, h3⟩ := He.ba h
  exact ⟨of_decide_eq_true h1, h2, h3⟩
def mkB (K : PySem.W.Frag) (x : Str) : Bool := PySem.W.makesIn K (He.ga K x) && (decide (PySem.W.findIn K (.ref (He.ga K x)) "__init__" = some (some (.ref (He.ma K (He.ga K x) "__init__")))) && (PySem.W.isFn K (.ref (He.ma K (He.ga K x) "__init__")) && PySem.W.keepIn K (.ref (He.ga K x))))
theorem mkB_ok {K : PySem.W.Frag} {x : Str} (h : mkB K x = true) : Mk K (He.ga K x) (He.ma K (He.ga K x) "__init__") := by
  obtain ⟨h1, h⟩ := He.ba h
  obtain ⟨h2, h⟩ := He.ba h
  obtain ⟨h3, h4⟩ := He.ba h
  exact ⟨h1, of_decide_eq_true h2, h3, h4⟩
end VQ
namespace VQ
open PySem L2 LamX
/-! ### BadText as the top has left it; tables -/
def fldB (K : PySem.W.Frag) : Bool := errB K "BadText" && decide (PySem.W.findIn K (.ref (He.ga K "BadText")) "at" = some none)
theorem fldB_ok {K : PySem.W.Frag} {mg : Str → Option Value} {fd : FuncData} (h : fldB K = true) (gl : mg "BadText" = some (.ref (He.ga K "BadText"))) (fn : Fun K "__init__" "BadText.__init__" sBadText (He.ma K (He.ga K "BadText") "__init__") fd) (bd : Binds K fd ["self", "at"] []) :
    ErrF K mg (He.ga K "BadText") (He.ma K (He.ga K "BadText") "__init__") fd := by
  obtain ⟨h, h9⟩ := He.ba h
  obtain ⟨h1, h⟩ := He.ba h
  obtain ⟨h2, h⟩ := He.ba h
  obtain ⟨h3, h⟩ := He.ba h
  obtain ⟨h4, h⟩ := He.ba h
  obtain ⟨h5, h⟩ := He.ba h
  obtain ⟨h6, h⟩ := He.ba h
  obtain ⟨h7, h8⟩ := He.ba h
  exact ⟨gl, ⟨oexB_ok h1, of_decide_eq_true h2, of_decide_eq_true h3, of_decide_eq_true h4, h5⟩, of_decide_eq_true h6, of_decide_eq_true h7, of_decide_eq_true h8, of_decide_eq_true h9, fn, bd⟩
def secB (K : PySem.W.Frag) : Bool := decide (PySem.W.exmAny K (.ref (He.ga K "BadText")) [.ref (He.ga K "Taken"), .ref (He.ga K "NoTable"), .ref (He.ga K "NoRow")] = some false) &&
  (decide (PySem.W.exmAny K (.ref (He.ga K "BadText")) [.ref (He.ga K "BadText"), .ref (He.ga K "Unfit")] = some true) && (xfB K (He.ga K "BadText") && (decide (PySem.W.findIn K (.ref (He.ga K "BadText")) "called" = some none) && decide (PySem.W.findIn K (.ref (He.ga K "BadText")) "at" = some none))))
theorem secB_ok {K : PySem.W.Frag} (h : secB K = true) : Second K (He.ga K "Taken") (He.ga K "NoTable") (He.ga K "NoRow") (He.ga K "BadText") (He.ga K "Unfit") (He.ga K "BadText") := by
  obtain ⟨h1, h⟩ := He.ba h
  obtain ⟨h2, h⟩ := He.ba h
  obtain ⟨h3, h⟩ := He.ba h
  obtain ⟨h4, h5⟩ := He.ba h
  exact ⟨of_decide_eq_true h1, of_decide_eq_true h2, xfB_ok h3, of_decide_eq_true h4, of_decide_eq_true h5⟩
/-- a table of the top: its keys, its values -/
theorem tab_ok {K : PySem.W.Frag} {w : World} {x : Str} {kvs : List (Str × He.Dv)} (kd : ∃ es n, KDict K w (He.ga K x) es n) (hv : He.valsB K (He.ga K x) kvs = true) (hk : keysB K (He.ga K x) (kvs.map (·.1)) = true) : TabK K w (He.ga K x) (kvs.map fun q => (q.1, He.Dv.v K q.2)) := by
  refine ⟨kd, fun p mp => ?_, fun z nz => keysB_no hk (fun m => nz ?_)⟩
  · obtain ⟨q, mq, rfl⟩ := List.mem_map.mp mp
    exact He.valsB_ok hv mq
  · rw [List.map_map]
    exact m
end VQ
namespace VQ
open PySem L2
/-! ### the head's run in parts, over a list of addresses that is cheap to make, for laws with lambdas as well -/
/-- what the names reach in n steps: all so far, the last step's -/
def asL (g : Addr → Option Obj) : Nat → List Addr × List Addr
  | 0 => ([mainGlobals, cStatics], [mainGlobals])
  | n + 1 => match asL g n with
    | (all, last) => match (last.flatMap fun a => match g a with
        | some o => He.refsD o
        | none => []) with
      | nx => (all ++ nx, nx)
def frM (n : Nat) (g : Addr → Option Obj) : PySem.W.Frag := He.frT g (asL g n).1
section
variable {n : Nat} {fa : List He.Fa} {fn : List He.DefD} {ts : List He.Tab} {tf : List He.Defn} {ex : PySem.W.Frag → Bool} {g : Addr → Option Obj}
def obsM (n : Nat) (fa : List He.Fa) (fn : List He.DefD) (ts : List He.Tab) (tf : List He.Defn) (ex : PySem.W.Frag → Bool) (g : Addr → Option Obj) : He.AlX := (He.obsT fa fn ts (frM n g), ex (frM n g) && He.tabsB g tf (frM n g))
theorem saysM {w : World} {hp : Heap} (e : obsM n fa fn ts tf ex hp.get? = He.valX fn ts w) : He.SaysX fa fn ts tf ex w hp (frM n hp.get?) := by
  have both : (ex (frM n hp.get?) && He.tabsB hp.get? tf (frM n hp.get?)) = true := congrArg (fun y : He.AlX => y.2) e
  obtain ⟨more, tabs⟩ := He.ba both
  have one : ∀ q ∈ tf, PySem.W.codeHdIn (frM n hp.get?) (He.cT (frM n hp.get?) q).1 (He.cT (frM n hp.get?) q).2 = true ∧ ∃ ob, hp.get? (He.cT (frM n hp.get?) q).2 = some ob ∧ He.emptyTab ob = true := fun q mq => by
    obtain ⟨y1, y2⟩ := He.ba (List.all_eq_true.mp tabs q mq)
    cases here : hp.get? (He.cT (frM n hp.get?) q).2 with
    | none => rw [here] at y2; cases y2
    | some ob => rw [here] at y2; exact ⟨y1, ob, rfl, y2⟩
  refine ⟨congrArg (fun y : He.AlX => y.1) e, more, fun q mq => (one q mq).1, fun q mq => ?_, fun q mq => ?_⟩
  · obtain ⟨_, ob, here, em⟩ := one q mq
    exact He.frT_none here em
  · obtain ⟨_, ob, here, em⟩ := one q mq
    rw [here, He.emptyTab_eq em]
def hookM (n : Nat) (fa : List He.Fa) (fn : List He.DefD) (ts : List He.Tab) (tf : List He.Defn) (ex : PySem.W.Frag → Bool) : PySem.W.Hook where
  α := He.AlX
  obs := fun y => obsM n fa fn ts tf ex y.heap.get?
  val := fun v => He.valX fn ts v
  says := fun v hp => ∃ K : PySem.W.Frag, K.In hp ∧ He.SaysX fa fn ts tf ex v hp K
  of := fun _ _ e => ⟨_, He.frT_in, saysM e⟩
  keeps := fun _ _ _ ⟨K, inH, c⟩ kp => ⟨K, PySem.W.Frag.In.keeps inH kp, ⟨c.t, c.more, c.hd, c.out, fun q mq => kp _ _ (c.empty q mq)⟩⟩
theorem obsM_eq {s : Shared} (h : ∀ a, g a = s.heap.get? a) : obsM n fa fn ts tf ex g = (hookM n fa fn ts tf ex).obs s := by
  rw [show g = s.heap.get? from funext h]
  rfl
def obs1 (n : Nat) (fn : List He.DefD) (g : Addr → Option Obj) : Bool × List He.FnW := (fn.all fun d => d.ok (frM n g), fn.map fun d => He.fnW (frM n g) d.at_)
def obs2 (n : Nat) (fa : List He.Fa) (ts : List He.Tab) (tf : List He.Defn) (ex : PySem.W.Frag → Bool) (g : Addr → Option Obj) : Bool × List (Option (List (Option (Str × Int)))) × Bool := (fa.all fun f => f.ok (frM n g), ts.map (fun t => He.dicW (frM n g) (t.1 (frM n g))), (ex (frM n g) && He.tabsB g tf (frM n g)))
theorem obs_parts {fv : List He.FnW} {tv : List (Option (List (Option (Str × Int))))} (h1 : obs1 n fn g = (true, fv)) (h2 : obs2 n fa ts tf ex g = (true, tv, true)) : obsM n fa fn ts tf ex g = (((true, fv), tv), true) := by
  have a1 := congrArg (·.1) h1
  have a2 := congrArg (·.2) h1
  have b1 := congrArg (·.1) h2
  have b2 := congrArg (·.2.1) h2
  have b3 := congrArg (·.2.2) h2
  exact congr (congrArg Prod.mk (congr (congrArg Prod.mk (congr (congrArg Prod.mk (congr (congrArg and b1) a1)) a2)) b2)) b3
theorem parts_of {σ α β : Type} {o : Option σ} {F : σ → α × β} {G : σ → Addr → Option Obj} {v : α × β} {fv : List He.FnW} {tv : List (Option (List (Option (Str × Int))))} (a : o.map F = some v) (b : o.map (fun s => obs1 n fn (G s)) = some (true, fv)) (c : o.map (fun s => obs2 n fa ts tf ex (G s)) = some (true, tv, true)) : o.map (fun s => ((F s).1, (F s).2, obsM n fa fn ts tf ex (G s))) = some (v.1, v.2, (((true, fv), tv), true)) := by
  cases o with
  | none => cases a
  | some s =>
    have a' := Option.some.inj a
    have e := obs_parts (Option.some.inj b) (Option.some.inj c)
    show some ((F s).1, (F s).2, obsM n fa fn ts tf ex (G s)) = _
    rw [a', e]
open PySem.W PySem.Calls PyProof.Rows HandSHeadRun
theorem run_eq {r : OpenRow} {q : Program} {M : Nat} {loose : List PySem.Str} {w : World}
    (a : ∀ os : OsState, (endF (stepQ (denQ tabQ) r.prog w) M r.prog w os).map (fun s => (looksF r.prog (boot_heap w.params) s.abs, seenQ q loose (importedModules r.prog.main.body) (fun s => xlAt q [] s && recOk r.toRowW.records s) s.abs)) = some (true, openGood q loose))
    (b : ∀ os : OsState, (endF (stepQ (denQ tabQ) r.prog w) M r.prog w os).map (fun s => obs1 n fn (getT s)) = some (true, fn.map He.DefD.val))
    (c : ∀ os : OsState, (endF (stepQ (denQ tabQ) r.prog w) M r.prog w os).map (fun s => obs2 n fa ts tf ex (getT s)) = some (true, ts.map (fun t => some (He.keysIn w.params t.2)), true)) : RunEq r q (hookM n fa fn ts tf ex) (fun s => obsM n fa fn ts tf ex (getT s)) M loose w := fun os => by
  have z := parts_of (a os) (b os) (c os)
  exact z
end
end VQ
/-! ### the head: what the top has left, by names -/
namespace VQ
open PySem L2 LamX
def fn : List He.DefD := [dd "_law_bag" sBag, dd "_law_pull" sPull, dd "_law_of" sOf, dd "_law_mixed" sLawMixed, dd "_law_same" sSame, dd "_law_tried" sTried, dd "_law_worth" sWorth, dd "_law_pool" sLawPool, dd "_law_term" sLawTerm, dd "_law_terms" sLawTerms, dd "_law_names" sLawNames, dd "_law_pairs" sLawPairs, dd "_law_unlike_names" sLawUnlikeNames, dd "_law_free_question" sLawFreeQuestion, dd "_law_tie_text" sLawTieText, dd "_law_head_text" sLawHeadText, dd "_law_text" sLawText, dd "_law_good_name" sLawGoodName, dd "_law_tokens" sLawTokens, dd "_law_read_head" sLawReadHead, dd "_law_read_term" sLawReadTerm, dd "_law_read_tie" sLawReadTie, dd "_law_read_item" sLawReadItem, dd "_law_read" sLawRead, dd "_law_bent_text" sLawBentText, dd "is_name" sIsName, dd "all_tied" sAllTied, dd "part_end" sPartEnd, dd "parts_of" sPartsOf, dd "is_word" sIsWord, dd "read_name" sReadName, dd "read_names" sReadNames, dd "read_term" sReadTerm, dd "read_tie" sReadTie, dd "read_pair" sReadPair, dd "read_clauses" sReadClauses, dd "read_question" sReadQuestion, dm "Parts" "__init__" "Parts.__init__" sPartsInit, dm "Parts" "this" "Parts.this" sPartsThis, dm "Parts" "behind" "Parts.behind" sPartsBehind, dm "Parts" "need" "Parts.need" sPartsNeed, dm "Parts" "read" "Parts.read" sPartsRead, dm "Parts" "read_sign" "Parts.read_sign" sPartsReadSign, dm "BadText" "__init__" "BadText.__init__" sBadText, dd "law" sLaw]
def fa : List He.Fa := [.free "isinstance", .free "int", .free "bool", .free "str", .free "list", .free "tuple", .free "len", .free "all", .free "range", .free "any", .free "set", .free "enumerate", .int "WORTHS" 32, .int "MOST_PLACES" 5, .int "MOST_WIDTH" 4, .int "MOST_LETTERS" 8, .int "MOST_NAME" 4, .int "MOST_TIES" 6, .int "MOST_PAIRS" 3, .str "LETTERS" "abcdefghijklmnopqrstuvwxyz", .str "DIGITS" "0123456789", .glo "BARRED", .glo "Taken", .glo "NoTable", .glo "NoRow", .glo "BadText", .glo "Unfit", .glo "Full", .glo "TooMany", .glo "QuiltError", .glo "Nothing", .glo "_law_bag", .glo "_law_pull", .glo "_law_of", .glo "_law_mixed", .glo "_law_same", .glo "_law_tried", .glo "_law_worth", .glo "_law_pool", .glo "_law_term", .glo "_law_terms", .glo "_law_names", .glo "_law_pairs", .glo "_law_unlike_names", .glo "_law_free_question", .glo "_law_tie_text", .glo "_law_head_text", .glo "_law_text", .glo "_law_good_name", .glo "_law_tokens", .glo "_law_read_head", .glo "_law_read_term", .glo "_law_read_tie", .glo "_law_read_item", .glo "_law_read", .glo "_law_bent_text", .glo "is_name", .glo "all_tied", .glo "part_end", .glo "parts_of", .glo "is_word", .glo "read_name", .glo "read_names", .glo "read_term", .glo "read_tie", .glo "read_pair", .glo "read_clauses", .glo "read_question", .glo "Parts", .glo "law"]
def ex (K : PySem.W.Frag) : Bool := (true) && ((clsB K "Parts") && ((mkB K "Parts") && ((noB K "Parts" "found") && ((noB K "Parts" "passed") && ((methB K "Parts" "this") && ((methB K "Parts" "behind") && ((methB K "Parts" "need") && ((methB K "Parts" "read") && ((methB K "Parts" "read_sign") && ((He.tupB K "BARRED" [.str "find", .str "some"]) && ((fldB K) && (secB K))))))))))))
abbrev Rw : PySem.W.OpenRow := PySem.W.OpenLaw.row PySem.Challenge.rw_voidquilt_k23_texts_that_are_no_question
abbrev hk : PySem.W.Hook := hookM 4 fa fn [] [("law", none)] ex
def ob (s : PySem.W.SharedT) : He.AlX := obsM 4 fa fn [] [("law", none)] ex (HandSHeadRun.getT s)
theorem ob_eq (s : PySem.W.SharedT) : ob s = hk.obs s.abs := obsM_eq (HandSHeadRun.getT_eq s)
def loose : List PySem.Str := (["QuiltError", "Taken", "Full", "BadText", "Unfit", "TooMany", "Missing", "NoTable", "NoRow", "Nothing", "WORTHS", "MOST_WIDTH", "MOST_LETTERS", "LETTERS", "BARRED", "is_name", "MOST_PLACES", "MOST_NAME", "MOST_TIES", "MOST_PAIRS", "DIGITS", "all_tied", "part_end", "parts_of", "Parts", "is_word", "read_name", "read_names", "read_term", "read_tie"] : List PySem.Str) ++ (["read_pair", "read_clauses", "read_question", "_law_bag", "_law_pull", "_law_of", "_law_mixed", "_law_same", "_law_tried", "_law_worth", "_law_pool", "_law_good_name", "_law_term", "_law_terms", "_law_names", "_law_pairs", "_law_unlike_names", "_law_free_question", "_law_tie_text", "_law_head_text", "_law_text", "_law_tokens", "_law_read_head", "_law_read_term", "_law_read_tie", "_law_read_item", "_law_read", "_law_bent_text"] : List PySem.Str)
theorem run (w : World) : HandSHeadRun.RunEq Rw (PySem.W.view Rw.prog [62]) hk ob 40000 loose w := by
  intro os
  kernel_rfl
theorem at_of {K : PySem.W.Frag} {h : Heap} {mg : Str → Option Value} (X : K.In h) (G : h.Ns mainGlobals mg) {x : Str} {st : Stmt} {ps : List Str} (c : He.SaysD fa fn K) (m : dd x st ∈ fn) (g : He.Fa.glo x ∈ fa)
    (hb : ∀ (kV doc pm : Value) (an : Option Addr) (cdv ct : Value) (us : List Value), us.length = ps.length → bindArgs (PySem.W.fnOf x x (defArgs st) (defBody st) (defScope st) .none kV doc pm an cdv ct) ⟨us, []⟩ = pure (ps.zip us)) : ∃ fd, At K mg x st ps (He.ga K x) fd := by
  obtain ⟨fd, F⟩ := c.defs m
  have F' : Fun K x x st (He.ga K x) fd := fun_of_D F
  exact ⟨fd, F', He.glo_ok X G (c.facts g), F'.binds hb⟩
theorem facts {l : PySem.W.OpenLaw} {w : World} {K : PySem.W.Frag} {h : Heap} {mg : Str → Option Value} {f : Addr} (X : K.In h) (G : h.Ns mainGlobals mg) (hfa : mg ("law" : Str) = some (.ref f)) (S : He.SaysX fa fn [] [("law", none)] ex w h K) : LawAtS l w K CX0 11 63 "_law_script" mg f h := by
  have c : He.SaysD fa fn K := S.t.d
  have gl : ∀ {x : Str}, He.Fa.glo x ∈ fa → mg x = some (.ref (He.ga K x)) := fun m => He.glo_ok X G (c.facts m)
  have fr : ∀ {x : Str}, He.Fa.free x ∈ fa → mg x = none := fun m => He.free_ok X G (c.facts m)
  obtain ⟨tkWORTHS, iWORTHS⟩ := He.int_ok X G (x := "WORTHS") (i := 32) (c.facts (by simp [fa]))
  obtain ⟨tkMOST_PLACES, iMOST_PLACES⟩ := He.int_ok X G (x := "MOST_PLACES") (i := 5) (c.facts (by simp [fa]))
  obtain ⟨tkMOST_WIDTH, iMOST_WIDTH⟩ := He.int_ok X G (x := "MOST_WIDTH") (i := 4) (c.facts (by simp [fa]))
  obtain ⟨tkMOST_LETTERS, iMOST_LETTERS⟩ := He.int_ok X G (x := "MOST_LETTERS") (i := 8) (c.facts (by simp [fa]))
  obtain ⟨tkMOST_NAME, iMOST_NAME⟩ := He.int_ok X G (x := "MOST_NAME") (i := 4) (c.facts (by simp [fa]))
  obtain ⟨tkMOST_TIES, iMOST_TIES⟩ := He.int_ok X G (x := "MOST_TIES") (i := 6) (c.facts (by simp [fa]))
  obtain ⟨tkMOST_PAIRS, iMOST_PAIRS⟩ := He.int_ok X G (x := "MOST_PAIRS") (i := 3) (c.facts (by simp [fa]))
  obtain ⟨tkLETTERS, iLETTERS⟩ := He.str_ok X G (x := "LETTERS") (z := "abcdefghijklmnopqrstuvwxyz") (c.facts (by simp [fa]))
  obtain ⟨tkDIGITS, iDIGITS⟩ := He.str_ok X G (x := "DIGITS") (z := "0123456789") (c.facts (by simp [fa]))
  have gBARRED := gl (x := "BARRED") (by simp [fa])
  have b : Blt mg := ⟨fr (by simp [fa]), fr (by simp [fa]), fr (by simp [fa]), fr (by simp [fa]), fr (by simp [fa]), fr (by simp [fa]), fr (by simp [fa]), fr (by simp [fa]), fr (by simp [fa])⟩
  have fany : mg "any" = none := fr (by simp [fa])
  have fset : mg "set" = none := fr (by simp [fa])
  have fenumerate : mg "enumerate" = none := fr (by simp [fa])
  have ER : Errs mg (He.ga K "Taken") (He.ga K "NoTable") (He.ga K "NoRow") (He.ga K "BadText") (He.ga K "Unfit") (He.ga K "Full") (He.ga K "TooMany") (He.ga K "QuiltError") (He.ga K "Nothing") :=
    ⟨gl (by simp [fa]), gl (by simp [fa]), gl (by simp [fa]), gl (by simp [fa]), gl (by simp [fa]), gl (by simp [fa]), gl (by simp [fa]), gl (by simp [fa]), gl (by simp [fa])⟩
  obtain ⟨fdIBadText, FIBadText⟩ := c.defs (d := dm "BadText" "__init__" "BadText.__init__" sBadText) (by simp [fn])
  have FFBadText : Fun K "__init__" "BadText.__init__" sBadText (He.ma K (He.ga K "BadText") "__init__") fdIBadText := fun_of_D FIBadText
  have bFBadText : Binds K fdIBadText ["self", "at"] [] := FFBadText.binds fun _ _ _ _ _ _ us hl => match us, hl with | [_, _], _ => rfl
  have more : ex K = true := S.more
  unfold ex at more
  obtain ⟨_, cmore⟩ := He.ba more
  obtain ⟨cb0, cmore⟩ := He.ba cmore
  obtain ⟨cb1, cmore⟩ := He.ba cmore
  obtain ⟨cb2, cmore⟩ := He.ba cmore
  obtain ⟨cb3, cmore⟩ := He.ba cmore
  obtain ⟨cb4, cmore⟩ := He.ba cmore
  obtain ⟨cb5, cmore⟩ := He.ba cmore
  obtain ⟨cb6, cmore⟩ := He.ba cmore
  obtain ⟨cb7, cmore⟩ := He.ba cmore
  obtain ⟨cb8, cmore⟩ := He.ba cmore
  obtain ⟨cb9, cmore⟩ := He.ba cmore
  obtain ⟨cb10, cmore⟩ := He.ba cmore
  have cb11 := cmore
  have KParts := clsB_ok cb0
  have mkParts := mkB_ok cb1
  have gParts := gl (x := "Parts") (by simp [fa])
  have nParts_found := noB_ok cb2
  have nParts_passed := noB_ok cb3
  obtain ⟨fdMParts___init__, FMParts___init__⟩ := c.defs (d := dm "Parts" "__init__" "Parts.__init__" sPartsInit) (by simp [fn])
  have fParts___init__ : Fun K "__init__" "Parts.__init__" sPartsInit (He.ma K (He.ga K "Parts") "__init__") fdMParts___init__ := fun_of_D FMParts___init__
  have bParts___init__ : Binds K fdMParts___init__ ["self", "text"] [] := fParts___init__.binds fun _ _ _ _ _ _ us hl => match us, hl with | [_, _], _ => rfl
  have mParts_this := methB_ok cb4
  obtain ⟨fdMParts_this, FMParts_this⟩ := c.defs (d := dm "Parts" "this" "Parts.this" sPartsThis) (by simp [fn])
  have fParts_this : Fun K "this" "Parts.this" sPartsThis (He.ma K (He.ga K "Parts") "this") fdMParts_this := fun_of_D FMParts_this
  have bParts_this : Binds K fdMParts_this ["self"] [] := fParts_this.binds fun _ _ _ _ _ _ us hl => match us, hl with | [_], _ => rfl
  have mParts_behind := methB_ok cb5
  obtain ⟨fdMParts_behind, FMParts_behind⟩ := c.defs (d := dm "Parts" "behind" "Parts.behind" sPartsBehind) (by simp [fn])
  have fParts_behind : Fun K "behind" "Parts.behind" sPartsBehind (He.ma K (He.ga K "Parts") "behind") fdMParts_behind := fun_of_D FMParts_behind
  have bParts_behind : Binds K fdMParts_behind ["self"] [] := fParts_behind.binds fun _ _ _ _ _ _ us hl => match us, hl with | [_], _ => rfl
  have mParts_need := methB_ok cb6
  obtain ⟨fdMParts_need, FMParts_need⟩ := c.defs (d := dm "Parts" "need" "Parts.need" sPartsNeed) (by simp [fn])
  have fParts_need : Fun K "need" "Parts.need" sPartsNeed (He.ma K (He.ga K "Parts") "need") fdMParts_need := fun_of_D FMParts_need
  have bParts_need : Binds K fdMParts_need ["self", "fits"] [] := fParts_need.binds fun _ _ _ _ _ _ us hl => match us, hl with | [_, _], _ => rfl
  have mParts_read := methB_ok cb7
  obtain ⟨fdMParts_read, FMParts_read⟩ := c.defs (d := dm "Parts" "read" "Parts.read" sPartsRead) (by simp [fn])
  have fParts_read : Fun K "read" "Parts.read" sPartsRead (He.ma K (He.ga K "Parts") "read") fdMParts_read := fun_of_D FMParts_read
  have bParts_read : Binds K fdMParts_read ["self", "fits"] [] := fParts_read.binds fun _ _ _ _ _ _ us hl => match us, hl with | [_, _], _ => rfl
  have mParts_read_sign := methB_ok cb8
  obtain ⟨fdMParts_read_sign, FMParts_read_sign⟩ := c.defs (d := dm "Parts" "read_sign" "Parts.read_sign" sPartsReadSign) (by simp [fn])
  have fParts_read_sign : Fun K "read_sign" "Parts.read_sign" sPartsReadSign (He.ma K (He.ga K "Parts") "read_sign") fdMParts_read_sign := fun_of_D FMParts_read_sign
  have bParts_read_sign : Binds K fdMParts_read_sign ["self", "sign"] [] := fParts_read_sign.binds fun _ _ _ _ _ _ us hl => match us, hl with | [_, _], _ => rfl
  have tBARRED := He.tupB_ok cb9
  have fBT := id cb10
  have sBT := secB_ok cb11
  obtain ⟨fd_law_bag, a_law_bag⟩ := at_of (x := "_law_bag") (st := sBag) (ps := ["_law_script"]) X G c (by simp [fn]) (by simp [fa]) fun _ _ _ _ _ _ us hl => match us, hl with | [_], _ => rfl
  obtain ⟨fd_law_pull, a_law_pull⟩ := at_of (x := "_law_pull") (st := sPull) (ps := ["_law_bag_here", "_law_size"]) X G c (by simp [fn]) (by simp [fa]) fun _ _ _ _ _ _ us hl => match us, hl with | [_, _], _ => rfl
  obtain ⟨fd_law_of, a_law_of⟩ := at_of (x := "_law_of") (st := sOf) (ps := ["_law_bag_here", "_law_some"]) X G c (by simp [fn]) (by simp [fa]) fun _ _ _ _ _ _ us hl => match us, hl with | [_, _], _ => rfl
  obtain ⟨fd_law_mixed, a_law_mixed⟩ := at_of (x := "_law_mixed") (st := sLawMixed) (ps := ["_law_bag_here", "_law_some"]) X G c (by simp [fn]) (by simp [fa]) fun _ _ _ _ _ _ us hl => match us, hl with | [_, _], _ => rfl
  obtain ⟨fd_law_same, a_law_same⟩ := at_of (x := "_law_same") (st := sSame) (ps := ["_law_found", "_law_due"]) X G c (by simp [fn]) (by simp [fa]) fun _ _ _ _ _ _ us hl => match us, hl with | [_, _], _ => rfl
  obtain ⟨fd_law_tried, a_law_tried⟩ := at_of (x := "_law_tried") (st := sTried) (ps := ["_law_ask"]) X G c (by simp [fn]) (by simp [fa]) fun _ _ _ _ _ _ us hl => match us, hl with | [_], _ => rfl
  obtain ⟨fd_law_worth, a_law_worth⟩ := at_of (x := "_law_worth") (st := sWorth) (ps := ["_law_bag_here"]) X G c (by simp [fn]) (by simp [fa]) fun _ _ _ _ _ _ us hl => match us, hl with | [_], _ => rfl
  obtain ⟨fd_law_pool, a_law_pool⟩ := at_of (x := "_law_pool") (st := sLawPool) (ps := ["_law_bag_here", "_law_many", "_law_most"]) X G c (by simp [fn]) (by simp [fa]) fun _ _ _ _ _ _ us hl => match us, hl with | [_, _, _], _ => rfl
  obtain ⟨fd_law_term, a_law_term⟩ := at_of (x := "_law_term") (st := sLawTerm) (ps := ["_law_bag_here", "_law_names_here"]) X G c (by simp [fn]) (by simp [fa]) fun _ _ _ _ _ _ us hl => match us, hl with | [_, _], _ => rfl
  obtain ⟨fd_law_terms, a_law_terms⟩ := at_of (x := "_law_terms") (st := sLawTerms) (ps := ["_law_bag_here", "_law_names_here", "_law_width"]) X G c (by simp [fn]) (by simp [fa]) fun _ _ _ _ _ _ us hl => match us, hl with | [_, _, _], _ => rfl
  obtain ⟨fd_law_names, a_law_names⟩ := at_of (x := "_law_names") (st := sLawNames) (ps := ["_law_bag_here", "_law_many"]) X G c (by simp [fn]) (by simp [fa]) fun _ _ _ _ _ _ us hl => match us, hl with | [_, _], _ => rfl
  obtain ⟨fd_law_pairs, a_law_pairs⟩ := at_of (x := "_law_pairs") (st := sLawPairs) (ps := ["_law_bag_here", "_law_names_here", "_law_most"]) X G c (by simp [fn]) (by simp [fa]) fun _ _ _ _ _ _ us hl => match us, hl with | [_, _, _], _ => rfl
  obtain ⟨fd_law_unlike_names, a_law_unlike_names⟩ := at_of (x := "_law_unlike_names") (st := sLawUnlikeNames) (ps := ["_law_bag_here", "_law_many"]) X G c (by simp [fn]) (by simp [fa]) fun _ _ _ _ _ _ us hl => match us, hl with | [_, _], _ => rfl
  obtain ⟨fd_law_free_question, a_law_free_question⟩ := at_of (x := "_law_free_question") (st := sLawFreeQuestion) (ps := ["_law_bag_here"]) X G c (by simp [fn]) (by simp [fa]) fun _ _ _ _ _ _ us hl => match us, hl with | [_], _ => rfl
  obtain ⟨fd_law_tie_text, a_law_tie_text⟩ := at_of (x := "_law_tie_text") (st := sLawTieText) (ps := ["_law_tie"]) X G c (by simp [fn]) (by simp [fa]) fun _ _ _ _ _ _ us hl => match us, hl with | [_], _ => rfl
  obtain ⟨fd_law_head_text, a_law_head_text⟩ := at_of (x := "_law_head_text") (st := sLawHeadText) (ps := ["_law_question"]) X G c (by simp [fn]) (by simp [fa]) fun _ _ _ _ _ _ us hl => match us, hl with | [_], _ => rfl
  obtain ⟨fd_law_text, a_law_text⟩ := at_of (x := "_law_text") (st := sLawText) (ps := ["_law_question"]) X G c (by simp [fn]) (by simp [fa]) fun _ _ _ _ _ _ us hl => match us, hl with | [_], _ => rfl
  obtain ⟨fd_law_good_name, a_law_good_name⟩ := at_of (x := "_law_good_name") (st := sLawGoodName) (ps := ["_law_name"]) X G c (by simp [fn]) (by simp [fa]) fun _ _ _ _ _ _ us hl => match us, hl with | [_], _ => rfl
  obtain ⟨fd_law_tokens, a_law_tokens⟩ := at_of (x := "_law_tokens") (st := sLawTokens) (ps := ["_law_text_here"]) X G c (by simp [fn]) (by simp [fa]) fun _ _ _ _ _ _ us hl => match us, hl with | [_], _ => rfl
  obtain ⟨fd_law_read_head, a_law_read_head⟩ := at_of (x := "_law_read_head") (st := sLawReadHead) (ps := ["_law_tokens_here"]) X G c (by simp [fn]) (by simp [fa]) fun _ _ _ _ _ _ us hl => match us, hl with | [_], _ => rfl
  obtain ⟨fd_law_read_term, a_law_read_term⟩ := at_of (x := "_law_read_term") (st := sLawReadTerm) (ps := ["_law_word", "_law_names_here"]) X G c (by simp [fn]) (by simp [fa]) fun _ _ _ _ _ _ us hl => match us, hl with | [_, _], _ => rfl
  obtain ⟨fd_law_read_tie, a_law_read_tie⟩ := at_of (x := "_law_read_tie") (st := sLawReadTie) (ps := ["_law_tokens_here", "_law_k", "_law_names_here"]) X G c (by simp [fn]) (by simp [fa]) fun _ _ _ _ _ _ us hl => match us, hl with | [_, _, _], _ => rfl
  obtain ⟨fd_law_read_item, a_law_read_item⟩ := at_of (x := "_law_read_item") (st := sLawReadItem) (ps := ["_law_tokens_here", "_law_k", "_law_names_here", "_law_ties", "_law_less_now"]) X G c (by simp [fn]) (by simp [fa]) fun _ _ _ _ _ _ us hl => match us, hl with | [_, _, _, _, _], _ => rfl
  obtain ⟨fd_law_read, a_law_read⟩ := at_of (x := "_law_read") (st := sLawRead) (ps := ["_law_text_here"]) X G c (by simp [fn]) (by simp [fa]) fun _ _ _ _ _ _ us hl => match us, hl with | [_], _ => rfl
  obtain ⟨fd_law_bent_text, a_law_bent_text⟩ := at_of (x := "_law_bent_text") (st := sLawBentText) (ps := ["_law_bag_here", "_law_text_here"]) X G c (by simp [fn]) (by simp [fa]) fun _ _ _ _ _ _ us hl => match us, hl with | [_, _], _ => rfl
  obtain ⟨fdis_name, ais_name⟩ := at_of (x := "is_name") (st := sIsName) (ps := ["thing", "most"]) X G c (by simp [fn]) (by simp [fa]) fun _ _ _ _ _ _ us hl => match us, hl with | [_, _], _ => rfl
  obtain ⟨fdall_tied, aall_tied⟩ := at_of (x := "all_tied") (st := sAllTied) (ps := ["names", "ties"]) X G c (by simp [fn]) (by simp [fa]) fun _ _ _ _ _ _ us hl => match us, hl with | [_, _], _ => rfl
  obtain ⟨fdpart_end, apart_end⟩ := at_of (x := "part_end") (st := sPartEnd) (ps := ["text", "at"]) X G c (by simp [fn]) (by simp [fa]) fun _ _ _ _ _ _ us hl => match us, hl with | [_, _], _ => rfl
  obtain ⟨fdparts_of, aparts_of⟩ := at_of (x := "parts_of") (st := sPartsOf) (ps := ["text"]) X G c (by simp [fn]) (by simp [fa]) fun _ _ _ _ _ _ us hl => match us, hl with | [_], _ => rfl
  obtain ⟨fdis_word, ais_word⟩ := at_of (x := "is_word") (st := sIsWord) (ps := ["part"]) X G c (by simp [fn]) (by simp [fa]) fun _ _ _ _ _ _ us hl => match us, hl with | [_], _ => rfl
  obtain ⟨fdread_name, aread_name⟩ := at_of (x := "read_name") (st := sReadName) (ps := ["parts", "names"]) X G c (by simp [fn]) (by simp [fa]) fun _ _ _ _ _ _ us hl => match us, hl with | [_, _], _ => rfl
  obtain ⟨fdread_names, aread_names⟩ := at_of (x := "read_names") (st := sReadNames) (ps := ["parts", "names"]) X G c (by simp [fn]) (by simp [fa]) fun _ _ _ _ _ _ us hl => match us, hl with | [_, _], _ => rfl
  obtain ⟨fdread_term, aread_term⟩ := at_of (x := "read_term") (st := sReadTerm) (ps := ["parts", "names"]) X G c (by simp [fn]) (by simp [fa]) fun _ _ _ _ _ _ us hl => match us, hl with | [_, _], _ => rfl
  obtain ⟨fdread_tie, aread_tie⟩ := at_of (x := "read_tie") (st := sReadTie) (ps := ["parts", "names"]) X G c (by simp [fn]) (by simp [fa]) fun _ _ _ _ _ _ us hl => match us, hl with | [_, _], _ => rfl
  obtain ⟨fdread_pair, aread_pair⟩ := at_of (x := "read_pair") (st := sReadPair) (ps := ["parts", "names"]) X G c (by simp [fn]) (by simp [fa]) fun _ _ _ _ _ _ us hl => match us, hl with | [_, _], _ => rfl
  obtain ⟨fdread_clauses, aread_clauses⟩ := at_of (x := "read_clauses") (st := sReadClauses) (ps := ["parts", "names"]) X G c (by simp [fn]) (by simp [fa]) fun _ _ _ _ _ _ us hl => match us, hl with | [_, _], _ => rfl
  obtain ⟨fdread_question, aread_question⟩ := at_of (x := "read_question") (st := sReadQuestion) (ps := ["text"]) X G c (by simp [fn]) (by simp [fa]) fun _ _ _ _ _ _ us hl => match us, hl with | [_], _ => rfl
  obtain ⟨fd, F⟩ := c.defs (d := dd "law" sLaw) (by simp [fn])
  have ef : f = He.ga K "law" := by
    have e := hfa.symm.trans (gl (x := "law") (by simp [fa]))
    injection e with e
    injection e
  subst ef
  have F' : Fun K "law" "law" sLaw (He.ga K "law") fd := fun_of_D F
  obtain ⟨oc, od, kV, doc, pm, an, cdv, ct, osl, efd, lk, hcd⟩ := F'.ex
  obtain ⟨cc, rfl⟩ := He.codeIn_ref hcd
  have ec : He.codeOf K ("law", none) = cc := He.codeOf_eq (p := ("law", none)) lk (by rw [efd])
  refine ⟨fd, [He.cT K ("law", none)], spLaw K (He.cT K ("law", none)).2, fun p hp => ?_, fun p hp => ?_, fun p hp => ?_, fun s u => ?_, fun H a ns hn _ hT hS => ?_, fun base KB GB TB => ?_⟩
  · obtain rfl := List.mem_singleton.mp hp
    exact S.empty _ (by simp)
  · obtain rfl := List.mem_singleton.mp hp
    exact S.out _ (by simp)
  · obtain rfl := List.mem_singleton.mp hp
    exact PySem.W.codeHd_of_K X (S.hd _ (by simp))
  · rw [efd]
    exact .of_eq rfl
  · exact ⟨a, ns, rfl, hS, hn, hT _ (List.mem_singleton.mpr rfl), fun _ => rfl⟩
  · have TB' := TB _ (List.mem_singleton.mpr rfl)
    have e1 : (He.cT K ("law", none)).1 = cc := ec
    rw [e1] at TB'
    rw [efd] at lk ⊢
    exact (by
    have W : Wq K mg (He.ga K "BARRED") := ⟨⟨_, iMOST_PLACES⟩, ⟨_, iMOST_WIDTH⟩, ⟨_, iMOST_LETTERS⟩, ⟨_, iMOST_NAME⟩, ⟨_, iMOST_TIES⟩, ⟨_, iMOST_PAIRS⟩, ⟨_, iWORTHS⟩, ⟨_, iLETTERS⟩, gBARRED, tBARRED, fset⟩
    have R : RCls K mg (He.ga K "Parts") := ⟨⟨KParts, nParts_found, nParts_passed⟩, ⟨_, _, fParts___init__, mkParts, gParts, bParts___init__⟩, ⟨_, _, fParts_this, mParts_this, bParts_this⟩, ⟨_, _, fParts_behind, mParts_behind, bParts_behind⟩, ⟨_, _, fParts_need, mParts_need, bParts_need⟩, ⟨_, _, fParts_read, mParts_read, bParts_read⟩, ⟨_, _, fParts_read_sign, mParts_read_sign, bParts_read_sign⟩⟩
    have RD : RDefs K mg := ⟨⟨_, _, apart_end⟩, ⟨_, _, aparts_of⟩, ⟨_, _, ais_word⟩, ⟨_, _, aread_name⟩, ⟨_, _, aread_names⟩, ⟨_, _, aread_term⟩, ⟨_, _, aread_tie⟩, ⟨_, _, aread_pair⟩, ⟨_, _, aread_clauses⟩, ⟨_, _, aread_question⟩⟩
    exact law_all23 lk hcd TB' b W ⟨_, iDIGITS⟩ fany fenumerate ER sBT (fldB_ok fBT (gl (x := "BadText") (by simp [fa])) FFBadText bFBadText) a_law_bag a_law_pull a_law_of a_law_mixed a_law_same a_law_tried a_law_worth ⟨_, _, a_law_pool⟩ ⟨_, _, a_law_term⟩ ⟨_, _, a_law_terms⟩ ⟨_, _, a_law_names⟩ ⟨_, _, a_law_pairs⟩ ⟨_, _, a_law_unlike_names⟩ ⟨_, _, a_law_free_question⟩ ⟨_, _, a_law_tie_text⟩ ⟨_, _, a_law_head_text⟩ ⟨_, _, a_law_text⟩
      ⟨_, _, a_law_good_name⟩ ⟨_, _, a_law_tokens⟩ ⟨_, _, a_law_read_head⟩ ⟨_, _, a_law_read_term⟩ ⟨_, _, a_law_read_tie⟩ ⟨_, _, a_law_read_item⟩ ⟨_, _, a_law_read⟩ ⟨_, _, a_law_bent_text⟩ ⟨_, _, ais_name⟩ ⟨_, _, aall_tied⟩ R RD)
end VQ
open PySem PySem.W PySem.Calls PyProof.Rows
set_option maxRecDepth 100000 in
set_option maxHeartbeats 0 in
theorem PySem.Challenge.cw_voidquilt_k23_texts_that_are_no_question_holds : PySem.Challenge.rw_voidquilt_k23_texts_that_are_no_question.Holds := by
  w_on; o_law
  refine HandSHeadRun.head_any (r := PySem.W.OpenLaw.row PySem.Challenge.rw_voidquilt_k23_texts_that_are_no_question) (q := view (PySem.W.OpenLaw.row PySem.Challenge.rw_voidquilt_k23_texts_that_are_no_question).prog [62]) (H := VQ.hk) (ob := VQ.ob) (M := 40000) (loose := VQ.loose) (d := HandSHeadRun.topDef (PySem.W.OpenLaw.row PySem.Challenge.rw_voidquilt_k23_texts_that_are_no_question).prog 62) (kwd := []) VQ.ob_eq
    (by kernel_rfl) (fun s => by kernel_rfl) VQ.run (by kernel_rfl) (by kernel_rfl) (by kernel_rfl) (by rfl) (by first | assumption | decide +kernel) (by decide +kernel) ⟨rfl, rfl, rfl, rfl, rfl, by decide +kernel⟩ ?hw ?hc
  case hw => w_witness2
  case hc =>
    refine LamX.walk_ofTsE (l := PySem.Challenge.rw_voidquilt_k23_texts_that_are_no_question) (n := 63) (k := 11) (x := "_law_script") (CX := fun _ => L2.CX0) rfl (by decide) (by kernel_rfl) ⟨rfl, by decide, by decide⟩ ?F (fun _ _ _ _ _ z => z)
    intro w mg fa h Y G hmg0
    obtain ⟨K, KX, S⟩ := Y
    have hmg : mg ("law" : PySem.Str) = some (.ref fa) := by
      have e : (HandSHeadRun.topDef (PySem.W.OpenLaw.row PySem.Challenge.rw_voidquilt_k23_texts_that_are_no_question).prog 62).name = ("law" : PySem.Str) := by kernel_rfl
      rw [← e]
      exact hmg0
    exact ⟨K, KX, VQ.facts KX G hmg S⟩
