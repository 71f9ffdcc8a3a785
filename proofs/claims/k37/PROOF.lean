import PyProof.Rows.All
import Wide.All
import OpenK.AllK
import Wide.FinOn
import HandS.Base
import HandS.Call
import HandS.List
import HandS.Words
import HandS.WordsList
import HandS.Codes
import HandS.FStr
import PyProof.FString3
import PyProof.Rows.StrIntSpec
import PyProof.FactsAll.int_2
import KE.KxField
import HandS.Ends
import HandS.Exc
import HandS.ExcInit
import HandS.ExcField
import HandS.TryMany
import KE.KTryMore
import HandS.Lambda
import HandS.Defaults
import PyProof.DefMake
import PyProof.DefCall
import HandS.TupMul
import HandS.TupAny
import HandS.Zip
import HandS.Comp
import HandS.Iter
import KE.GoesMore
import HandS.SetFor
import HandS.Strs
import PyProof.CompFree
import PyProof.RaisesMany
import HandS.IsInst
import HandS.StrMore
import HandS.WordsExc
import HandS.Text
import PyProof.StrLaws
import PyProof.StrLawsAffix
import HandS.EndTab
import HandS.HeadWalk
import HandS.Deep
import HandS.SetKeys
import HandS.Conv
import HandS.NoneIn
import KE.KUnpackStar
import HandS.More
import HandS.Star
import KE.IntTextLaws
import HandS.Flow
import PyProof.ListStr
import HandS.Steps
import HandS.Head0
import HandS.Head1
import HandS.Head2
import HandS.HeadEnd
import HandS.HeadHook1
import HandS.HeadHook2
import HandS.HeadHook3
import HandS.HeadHook4
import PySem.Challenge.RW_voidquilt_k37_texts_that_are_no_papers
set_option Elab.async false
set_option linter.all false
set_option maxRecDepth 100000
set_option maxHeartbeats 3000000
namespace VQ
open PySem L2
def top (i : Nat) : Stmt := PySem.Challenge.pw_voidquilt_k37_texts_that_are_no_papers.main.body.getD i (.Pass ⟨0, 0, 0, 0⟩)
abbrev sBag : Stmt := top 28
abbrev sPull : Stmt := top 29
abbrev sOf : Stmt := top 30
/-- a drawing bag stands at b -/
def Bag (H : Hp) (b : Addr) : Prop := ∃ (l : Addr) (ns : List Int) (i r x n : Int), l ≠ b ∧ H b = some (.lst [.ref l, .int i, .int r, .int x, .int n]) ∧ H l = some (.lst (ns.map V.int)) ∧ 0 ≤ i ∧ 0 ≤ x ∧ x < 2147483629
/-- all but b is as it was, and the list in b's first place is the same one -/
def Keep (b : Addr) (H H' : Hp) : Prop := (∀ a o, a ≠ b → H a = some o → H' a = some o) ∧ ∀ l r, H b = some (.lst (.ref l :: r)) → ∃ r', H' b = some (.lst (.ref l :: r'))
theorem Keep.refl (b : Addr) (H : Hp) : Keep b H H := ⟨fun _ _ _ h => h, fun _ r h => ⟨r, h⟩⟩
theorem Keep.trans {b : Addr} {H H1 H2 : Hp} (h1 : Keep b H H1) (h2 : Keep b H1 H2) : Keep b H H2 := ⟨fun a o n h => h2.1 a o n (h1.1 a o n h), fun l r h => let ⟨r1, e⟩ := h1.2 l r h; h2.2 l r1 e⟩
theorem Keep.upd {b l : Addr} {H : Hp} {r r' : List V} (h : H b = some (.lst (.ref l :: r))) : Keep b H (upd H b (.lst (.ref l :: r'))) := ⟨fun a u n h => by rw [upd_ne n]; exact h, fun l' r1 e => by
  rw [h] at e
  cases e
  exact ⟨r', upd_same⟩⟩
theorem Same.keep {b : Addr} {H H' : Hp} (h : Same H H') : Keep b H H' := ⟨fun a o _ e => h a o e, fun l r e => ⟨r, h _ _ e⟩⟩
theorem same_new {H : Hp} {p : Addr} {o : HO} (h : H p = none) : Same H (upd H p o) := fun a u e => by rw [upd_ne (ne_of_none e h)]; exact e
theorem Bag.here {H : Hp} {b : Addr} (h : Bag H b) : ∃ o, H b = some o := by
  obtain ⟨l, ns, i, r, x, n, _, h1, _⟩ := h
  exact ⟨_, h1⟩
theorem Bag.same {H H' : Hp} {b : Addr} (h : Bag H b) (s : Same H H') : Bag H' b := by
  obtain ⟨l, ns, i, r, x, n, nl, h1, h2, h3⟩ := h
  exact ⟨l, ns, i, r, x, n, nl, s _ _ h1, s _ _ h2, h3⟩
theorem Keep.free {b p : Addr} {H H' : Hp} (k : Keep b H H') (h : Bag H b) (h' : Bag H' b) (hp : H' p = none) : H p = none := by
  cases q : H p with
  | none => rfl
  | some o =>
    by_cases e : p = b
    · obtain ⟨o', z⟩ := h'.here
      rw [e, z] at hp
      cases hp
    · rw [k.1 p o e q] at hp
      cases hp
/-- something new is written while the bag is kept -/
theorem Bag.put {b D : Addr} {H0 H : Hp} {o : HO} (B0 : Bag H0 b) (hD : H0 D = none) (k : Keep b H0 H) (B : Bag H b) : Bag (upd H D o) b ∧ Keep b H0 (upd H D o) := by
  obtain ⟨l, ns, i, r, x, n, nl, h1, h2, h3⟩ := B0
  obtain ⟨l', ns', i', r', x', n', nl', g1, g2, g3⟩ := B
  obtain ⟨rr, e⟩ := k.2 l _ h1
  rw [g1] at e
  cases e
  have bD : b ≠ D := ne_of_none h1 hD
  have lD : l ≠ D := ne_of_none h2 hD
  refine ⟨⟨l, ns', i', r', x', n', nl', (upd_ne bD).trans g1, (upd_ne lD).trans g2, g3⟩, fun a u ne e => ?_, fun l2 r2 e => ?_⟩
  · rw [upd_ne (ne_of_none e hD)]
    exact k.1 a u ne e
  · rw [upd_ne bD]
    exact k.2 l2 r2 e
theorem Keep.tup {b a : Addr} {H H' : Hp} {xs : List V} (k : Keep b H H') (B : Bag H b) (h : H a = some (.tup xs)) : H' a = some (.tup xs) := by
  refine k.1 a _ (fun e => ?_) h
  obtain ⟨l, ns, i, r, x, n, nl, h1, _⟩ := B
  rw [e, h1] at h
  cases h
def spPull : Sp := fun vs H Q _ => ∃ (b : Addr) (s : Int), vs = [.ref b, .int s] ∧ Bag H b ∧ 1 ≤ s ∧ s < 1073741824 ∧
  ∀ (d : Int) (H' : Hp), 0 ≤ d → d < s → Bag H' b → Keep b H H' → Q (.int d) H'
section
variable {P : Program} {w : World} {K : PySem.W.Frag} {mg : Str → Option Value} {base : Heap}
theorem scPull : FnScope ["_law_bag_here", "_law_size", "_law_cell", "_law_digit"] ["_law_bag_here", "_law_size"] (defScope sPull) := ⟨rfl, rfl, rfl, by decide +kernel, rfl, by decide +kernel, by decide +kernel⟩
theorem ok_pull {f : Addr} {fd : FuncData} (F : Fun K "_law_pull" "_law_pull" sPull f fd) (len : mg "len" = none) : FnOk P w K mg base CX0 1 f fd ["_law_bag_here", "_law_size"] spPull := by
  refine F.ok scPull (fun vs H Q E h => ?_) (fun cdv A outer s H vs Q E hr h => ?_)
  · obtain ⟨b, s, rfl, _⟩ := h
    rfl
  · obtain ⟨b, z, rfl, B, z1, z2, k⟩ := h
    refine ⟨_, C8.pss_cut (ps_if (PW.pt (pw_and (pt_cmpR op_lt (pe_ix ix_list (pv 0) pe_int fun _ _ => rfl) (pv 1) (nomark _)) (pw_and1 (pt_cmpR op_lt (pe_ix ix_list (pv 0) pe_int fun _ _ => rfl)
          (pe_callB call_len_seq (by rfl) len PySem.boot_len (pa_cons (pe_ix ix_list (pv 0) pe_int fun _ _ => rfl) pa_nil)) (nomark _)))))
        (pss_cons (ps_set (i := 2) scPull.nd rfl (.inl rfl) (pe_ix ix_list (pe_ix ix_list (pv 0) pe_int fun _ _ => rfl) (pe_ix ix_list (pv 0) pe_int fun _ _ => rfl) fun _ _ => rfl))
        (pss_cons (ps_asg (pe_op op_add (pe_ix ix_list (pv 0) pe_int fun _ _ => rfl) pe_int) (pg_sub (pv 0) pe_int set_list))
        (pss_cons (ps_asg (pe_ifExp (pt_cmpR op_ge (pv 2) (pe_op op_pow pe_int pe_int) (nomark _)) (pe_op op_sub (pv 2) (pe_op op_pow pe_int pe_int)) pe_int) (pg_sub (pv 0) pe_int set_list))
        (pss_one (ps_asg (pe_op op_mod (pe_op op_add (pe_op op_add (pe_op op_mul (pe_ix ix_list (pv 0) pe_int fun _ _ => rfl) pe_int) (pe_op op_mul (pv 2) pe_int)) (pe_ix ix_list (pv 0) pe_int fun _ _ => rfl)) pe_int) (pg_sub (pv 0) pe_int set_list))))))
        pss_nil)
      (pss_cons (ps_if (pt_cmpR op_ge (pe_ix ix_list (pv 0) pe_int fun _ _ => rfl) (pv 1) (nomark _))
        (pss_cons (ps_set (i := 3) scPull.nd rfl (.inl rfl) (pe_op op_mod (pe_ix ix_list (pv 0) pe_int fun _ _ => rfl) (pv 1)))
        (pss_cons (ps_asg (pe_op op_fdiv (pe_ix ix_list (pv 0) pe_int fun _ _ => rfl) (pv 1)) (pg_sub (pv 0) pe_int set_list))
        (pss_one (ps_ret (pv 3)))))
        pss_nil)
      (pss_cons (ps_asg (pe_op op_add (pe_ix ix_list (pv 0) pe_int fun _ _ => rfl) pe_int) (pg_sub (pv 0) pe_int set_list))
      (pss_cons (ps_asg (pe_op op_mod (pe_op op_add (pe_op op_add (pe_op op_add (pe_op op_pow (pe_ix ix_list (pv 0) pe_int fun _ _ => rfl) pe_int) (pe_op op_mul pe_int (pe_ix ix_list (pv 0) pe_int fun _ _ => rfl))) (pe_op op_fdiv (pe_ix ix_list (pv 0) pe_int fun _ _ => rfl) pe_int)) pe_int) pe_int) (pg_sub (pv 0) pe_int set_list))
      (pss_one (ps_ret (pe_op op_mod (pe_op op_fdiv (pe_ix ix_list (pv 0) pe_int fun _ _ => rfl) pe_int) (pv 1)))))))
      , ?_⟩
    refine ⟨fun σ' H' => ∃ (c e : Option V), σ' = [some (.ref b), some (.int z), c, e] ∧ Bag H' b ∧ Keep b H H', ?_, ?_⟩
    · obtain ⟨l, ns, i, r, x, n, nl, h1, h2, i0, x0, x1⟩ := id B
      have m53 : ∀ y : Int, 0 ≤ y % 2147483629 ∧ y % 2147483629 < 2147483629 := fun y => ⟨Int.emod_nonneg _ (by decide), Int.emod_lt_of_pos _ (by decide)⟩
      refine ⟨_, rfl, _, _, _, _, rfl, rfl, SqL.of h1, (show atI [V.ref l, .int i, .int r, .int x, .int n] 2 = some (.int r) from rfl), _, rfl, _, _, rfl, rfl, _, rfl, ?_⟩
      refine ite2 (fun _ => ?_) (fun _ => ?_)
      · refine ⟨_, rfl, _, _, _, _, rfl, rfl, SqL.of h1, (show atI [V.ref l, .int i, .int r, .int x, .int n] 1 = some (.int i) from rfl), _, rfl, _, _, _, _, rfl, rfl, SqL.of h1, (show atI [V.ref l, .int i, .int r, .int x, .int n] 0 = some (.ref l) from rfl), l, _, rfl, .inl (SqL.of h2), _, _, rfl, rfl, _, rfl, ?_⟩
        refine ite2 (fun hlt => ?_) (fun _ => ?_)
        · have hi : i < (ns.length : Int) := by
            have q := of_decide_eq_true hlt
            rw [List.length_map] at q
            exact q
          obtain ⟨j, rfl⟩ := Int.eq_ofNat_of_zero_le i0
          have hj : j < ns.length := Int.ofNat_lt.mp hi
          have at1 : atI (ns.map V.int) (j : Int) = some (V.int (ns[j]'hj)) := atI_nat (by rw [List.getElem?_map, List.getElem?_eq_getElem hj]; rfl)
          generalize ns[j]'hj = cell at at1
          refine ⟨_, rfl, _, _, _, _, rfl, rfl, SqL.of h1, (show atI [V.ref l, .int j, .int r, .int x, .int n] 0 = some (.ref l) from rfl), _, rfl, _, _, _, _, rfl, rfl, SqL.of h1, (show atI [V.ref l, .int j, .int r, .int x, .int n] 1 = some (.int j) from rfl), l, _, _, _, rfl, rfl, SqL.of h2, at1, ?_⟩
          -- bag[1] = bag[1] + 1
          refine ⟨_, rfl, _, _, _, _, rfl, rfl, SqL.of h1, (show atI [V.ref l, .int j, .int r, .int x, .int n] 1 = some (.int j) from rfl), _, _, rfl, rfl, _, rfl, b, _, 1, 1, rfl, rfl, h1, rfl, ?_⟩
          -- bag[2] = ..
          refine ⟨_, rfl, 10, 18, rfl, rfl, ⟨by decide, by decide, by decide⟩, _, _, rfl, rfl, _, rfl, ?_⟩
          refine ite2 (fun _ => ?_) (fun _ => ?_)
          · refine ⟨_, rfl, 10, 18, rfl, rfl, ⟨by decide, by decide, by decide⟩, _, _, rfl, rfl, _, rfl, b, _, 2, 2, rfl, rfl, upd_same, rfl, ?_⟩
            refine ⟨_, rfl, b, _, _, _, rfl, rfl, SqL.of upd_same, rfl, _, 69069, rfl, rfl, .inr ⟨by decide, by decide⟩, _, rfl, _, 5, rfl, rfl, .inr ⟨by decide, by decide⟩, _, _, rfl, rfl, _, rfl, b, _, _, _, rfl, rfl, SqL.of upd_same, rfl, _, _, rfl, rfl, _, 2147483629, rfl, rfl, (show (0 : Int) < 2147483629 by decide), _, rfl, b, _, 3, 3, rfl, rfl, upd_same, rfl, ?_⟩
            refine ⟨_, _, rfl, ⟨l, ns, _, _, _, _, nl, upd_same, ?_, ?_, (m53 _).1, (m53 _).2⟩, ?_⟩
            · rw [upd_ne nl, upd_ne nl, upd_ne nl]
              exact h2
            · omega
            · exact Keep.trans (Keep.trans (Keep.upd h1) (Keep.upd upd_same)) (Keep.upd upd_same)
          · refine ⟨_, rfl, b, _, 2, 2, rfl, rfl, upd_same, rfl, ?_⟩
            refine ⟨_, rfl, b, _, _, _, rfl, rfl, SqL.of upd_same, rfl, _, 69069, rfl, rfl, .inr ⟨by decide, by decide⟩, _, rfl, _, 5, rfl, rfl, .inr ⟨by decide, by decide⟩, _, _, rfl, rfl, _, rfl, b, _, _, _, rfl, rfl, SqL.of upd_same, rfl, _, _, rfl, rfl, _, 2147483629, rfl, rfl, (show (0 : Int) < 2147483629 by decide), _, rfl, b, _, 3, 3, rfl, rfl, upd_same, rfl, ?_⟩
            refine ⟨_, _, rfl, ⟨l, ns, _, _, _, _, nl, upd_same, ?_, ?_, (m53 _).1, (m53 _).2⟩, ?_⟩
            · rw [upd_ne nl, upd_ne nl, upd_ne nl]
              exact h2
            · omega
            · exact Keep.trans (Keep.trans (Keep.upd h1) (Keep.upd upd_same)) (Keep.upd upd_same)
        · exact ⟨none, none, rfl, B, Keep.refl b H⟩
      · exact ⟨none, none, rfl, B, Keep.refl b H⟩
    · rintro σ' H' ⟨c, e, rfl, B', kp⟩
      obtain ⟨l, ns, i, r, x, n, nl, h1, h2, i0, x0, x1⟩ := id B'
      refine ⟨_, rfl, _, _, _, _, rfl, rfl, SqL.of h1, (show atI [V.ref l, .int i, .int r, .int x, .int n] 2 = some (.int r) from rfl), _, rfl, _, _, rfl, rfl, _, rfl, ?_⟩
      have m53 : ∀ y : Int, 0 ≤ y % 2147483629 ∧ y % 2147483629 < 2147483629 := fun y => ⟨Int.emod_nonneg _ (by decide), Int.emod_lt_of_pos _ (by decide)⟩
      have mz : ∀ y : Int, 0 ≤ y % z ∧ y % z < z := fun y => ⟨Int.emod_nonneg _ (by omega), Int.emod_lt_of_pos _ (by omega)⟩
      refine ite2 (fun _ => ?_) (fun _ => ?_)
      · refine ⟨_, rfl, b, _, _, _, rfl, rfl, SqL.of h1, rfl, _, rfl, _, _, rfl, rfl, (show (0 : Int) < z by omega), ?_⟩
        refine ⟨_, rfl, b, _, _, _, rfl, rfl, SqL.of h1, rfl, _, rfl, _, _, rfl, rfl, ⟨(show (0 : Int) < z by omega), z2⟩, _, rfl, b, _, 2, 2, rfl, rfl, h1, rfl, ?_⟩
        refine ⟨_, rfl, ?_⟩
        exact k _ _ (mz _).1 (mz _).2 ⟨l, ns, _, _, _, _, nl, upd_same, by rw [upd_ne nl]; exact h2, i0, x0, x1⟩ (kp.trans (Keep.upd h1))
      · refine ⟨_, rfl, b, _, _, _, rfl, rfl, SqL.of h1, rfl, _, _, rfl, rfl, _, rfl, b, _, 4, 4, rfl, rfl, h1, rfl, ?_⟩
        refine ⟨_, rfl, b, _, _, _, rfl, rfl, SqL.of upd_same, rfl, _, 3, rfl, rfl, ⟨by decide, by decide, by omega⟩, _, rfl, b, _, _, _, rfl, rfl, SqL.of upd_same, rfl, 40507, _, rfl, rfl, .inl ⟨by decide, by decide⟩, _, _, rfl, rfl, _, rfl, b, _, _, _, rfl, rfl, SqL.of upd_same, rfl, _, 101, rfl, rfl, ⟨by decide, by decide⟩, _, _, rfl, rfl, _, _, rfl, rfl, _, 2147483629, rfl, rfl, (show (0 : Int) < 2147483629 by decide), _, rfl, b, _, 3, 3, rfl, rfl, upd_same, rfl, ?_⟩
        refine ⟨_, rfl, b, _, _, _, rfl, rfl, SqL.of upd_same, rfl, _, 19, rfl, rfl, ⟨by decide, by decide⟩, _, rfl, _, _, rfl, rfl, (show (0 : Int) < z by omega), ?_⟩
        exact k _ _ (mz _).1 (mz _).2 ⟨l, ns, _, _, _, _, nl, upd_same, by rw [upd_ne nl, upd_ne nl]; exact h2, i0, (m53 _).1, (m53 _).2⟩ (kp.trans (Keep.trans (Keep.upd h1) (Keep.upd upd_same)))
/-- an item of a list that is read, drawn by the bag -/
def spOf (K : PySem.W.Frag) : Sp := fun vs H Q _ => ∃ (b p : Addr) (xs : List V), vs = [.ref b, .ref p] ∧ Bag H b ∧ p ≠ b ∧ SqL K H p xs ∧ 1 ≤ xs.length ∧ xs.length < 1000 ∧
  ∀ (v : V) (H' : Hp), v ∈ xs → Bag H' b → Keep b H H' → Q v H'
theorem Keep.seq {b a : Addr} {H H' : Hp} {xs : List V} (k : Keep b H H') (n : a ≠ b) (h : SqL K H a xs) : SqL K H' a xs := by
  rcases h with (z | ⟨o, z⟩) | z
  · exact .inl (.inl (k.1 _ _ n z))
  · exact .inl (.inr ⟨o, k.1 _ _ n z⟩)
  · exact .inr z
/-- where a def stands -/
structure At (K : PySem.W.Frag) (mg : Str → Option Value) (x : Str) (st : Stmt) (ps : List Str) (f : Addr) (fd : FuncData) : Prop where
  fn : Fun K x x st f fd
  gl : mg x = some (.ref f)
  bd : Binds K fd ps []
theorem scOf : FnScope ["_law_bag_here", "_law_some"] ["_law_bag_here", "_law_some"] (defScope sOf) := ⟨rfl, rfl, rfl, by decide +kernel, rfl, by decide +kernel, by decide +kernel⟩
theorem ok_of {f fP : Addr} {fd fdP : FuncData} (F : Fun K "_law_of" "_law_of" sOf f fd) (len : mg "len" = none) (P1 : At K mg "_law_pull" sPull ["_law_bag_here", "_law_size"] fP fdP) : FnOk P w K mg base CX0 2 f fd ["_law_bag_here", "_law_some"] (spOf K) := by
  have G : FnOk P w K mg base CX0 1 fP fdP ["_law_bag_here", "_law_size"] spPull := ok_pull P1.fn len
  refine F.ok scOf (fun vs H Q E h => ?_) (fun cdv A outer s H vs Q E hr h => ?_)
  · obtain ⟨b, p, xs, rfl, _⟩ := h
    rfl
  · obtain ⟨b, p, xs, rfl, B, np, hx, l1, l2, k⟩ := h
    refine ⟨_, pss_one (ps_ret (pe_ix ix_list (pv 1) (pe_call G hr rfl P1.gl P1.fn.kp P1.bd .nil pass0 (pa_cons (pv 0) (pa_cons (pe_callB call_len_seq (by rfl) len PySem.boot_len (pa_cons (pv 1) pa_nil)) pa_nil))) fun _ _ => rfl)), ?_⟩
    refine ⟨_, rfl, _, rfl, _, rfl, p, xs, rfl, .inl hx, b, _, rfl, B, by omega, by omega, fun d H' d0 d1 B' kp => ?_⟩
    obtain ⟨j, rfl⟩ := Int.eq_ofNat_of_zero_le d0
    have hj : j < xs.length := Int.ofNat_lt.mp d1
    exact ⟨p, xs, _, _, rfl, rfl, kp.seq np hx, atI_nat (List.getElem?_eq_getElem hj), k _ H' (List.getElem_mem hj) B' kp⟩
def spBag (K : PySem.W.Frag) : Sp := fun vs H Q _ => ∃ (a : Addr) (ns : List Int), vs = [.ref a] ∧ SqL K H a (ns.map V.int) ∧ ns.length ≤ 63 ∧ ∀ (b : Addr) (H' : Hp), H b = none → Bag H' b → Same H H' → Q (.ref b) H'
theorem scBag : FnScope ["_law_script"] ["_law_script"] (defScope sBag) := ⟨rfl, rfl, rfl, by decide +kernel, rfl, by decide +kernel, by decide +kernel⟩
theorem ok_bag {f : Addr} {fd : FuncData} (F : Fun K "_law_bag" "_law_bag" sBag f fd) (lst : mg "list" = none) : FnOk P w K mg base CX0 1 f fd ["_law_script"] (spBag K) := by
  refine F.ok scBag (fun vs H Q E h => ?_) (fun cdv A outer s H vs Q E hr h => ?_)
  · obtain ⟨a, ns, rfl, _⟩ := h
    rfl
  · obtain ⟨a, ns, rfl, hx, hl, k⟩ := h
    refine ⟨_, pss_one (ps_ret (pe_lst (pa_cons (pe_callTy call_list_of (by rfl) lst (by decide +kernel) (pa_cons (pe_slice sl_list (pv 0) po_none (po_some pe_int)) pa_nil)) (pa_cons pe_int (pa_cons pe_int (pa_cons pe_int (pa_cons pe_int pa_nil))))))), ?_⟩
    refine ⟨_, rfl, _, rfl, a, _, rfl, hx, fun p hp => ?_⟩
    refine ⟨p, _, rfl, .inl (SqL.of upd_same), fun l hl' => ?_⟩
    refine ⟨by show 5 ≤ sizeLine; decide, fun b hb => ?_⟩
    have e : cutV (ns.map V.int) none (some 63) = ns.map V.int := by
      unfold cutV
      rw [HT.sIx_none]
      show ((ns.map V.int).drop 0).take (HT.sIx _ _ (some ((63 : Nat) : Int)) - 0) = _
      rw [HT.sIx_nat, List.drop_zero, Nat.sub_zero]
      exact List.take_of_length_le (by rw [List.length_map]; omega)
    have nl : l ≠ b := fun z => by
      rw [z, upd_same] at hb
      cases hb
    have s1 : Same H (upd H p (.lst (cutV (ns.map V.int) none (some 63)))) := same_new hp
    have s2 : Same H (upd (upd H p (.lst (cutV (ns.map V.int) none (some 63)))) l (.lst (cutV (ns.map V.int) none (some 63)))) := s1.trans (same_new hl')
    refine k b _ (s2.free hb) ⟨l, ns, 0, 0, 1, 0, nl, upd_same, ?_, by decide, by decide, by decide⟩ (s2.trans (same_new hb))
    rw [upd_ne nl, upd_same, e]
end
end VQ
namespace VQ
open PySem PySem.W L2 PyProof.Rows
open Builtin Builtin.Float Builtin.Int Builtin.Str
def binS (n : Nat) : PySem.Str := ⟨((Nat.toDigits 2 n).map Char.toNat).toArray⟩
theorem ret_text2 {M : Model} {A : Around} {E : Value → Shared → Prop} {s : Shared} {X T : PySem.Str} {Q : PySem.Fin → Shared → Prop} (e : X = T) (hL : T.length ≤ sizeLine) (h : ∀ t k, Q (.done (.ret (.str T t))) { s with toks := k }) : wpAny M A (retStr X) Q E s := by
  subst e
  exact wpAny_bind (wpAny_mkStr (by exact wpAny_pure (h _ _)) hL)
theorem ite_no2 {c : Prop} [Decidable c] {X Y : Prop} (hc : ¬ c) (h : Y) : if c then X else Y := by
  rw [if_neg hc]
  exact h
theorem wpAny_eqn {α : Type} {M : Model} {A : Around} {E : Value → Shared → Prop} {s : Shared} {Q : α → Shared → Prop} {t t' : Sem α} (e : t = t') (h : wpAny M A t' Q E s) : wpAny M A t Q E s := by
  rw [e]
  exact h
theorem parse_b : parseFormatSpec [98] "int" 62 = .ok ⟨32, 62, none, false, false, none, none, none, some 98⟩ := by kernel_rfl
theorem fmtb_run {prog : Program} {w : World} {A : Around} {R : PySem.Fin → Shared → Prop} {E : Value → Shared → Prop} {s : Shared} {a : Int} {t u : Tok} (h0 : 0 ≤ a) (h1 : a < 32)
    (h : ∀ t' k, R (.done (.ret (.str (binS a.toNat) t'))) { s with toks := k }) : wpAny (model prog w) A (Builtin.«int.__format__» ⟨[.int a t, .str (⟨#[98]⟩ : PySem.Str) u], []⟩) R E s := by
  simp only [Builtin.«int.__format__», selfAndOne, noKeywords, Int.intOfSelf, asInt?, asStr?, List.isEmpty_nil, if_true, pure_bind, bind_pure, bind_assoc, Bool.false_eq_true, if_false,
    show (Value.str (⟨#[98]⟩ : PySem.Str) u == Value.none) = false from rfl, show ((⟨#[98]⟩ : PySem.Str).length == 0) = false from rfl]
  refine wpAny_bind (wpAny_typeNameOf (T := "str") (typeIs_str _ _ _) (by decide) fun kind => ?_)
  rw [if_neg (by decide)]
  apply wpAny_bind
  apply wpAny_typeNameOfCut_int
  simp only [parse_b]
  rw [if_pos (by decide)]
  refine wpAny_eqn (t' := retStr (intField' ⟨32, 62, none, false, false, none, none, none, some 98⟩ (decide (a < 0)) [] ((Nat.toDigits 2 a.natAbs).map fun c => (if (98 : Nat) == 88 then c.toUpper else c).toNat) [] 4)) ?eq ?_
  case eq => kernel_rfl
  refine ret_text2 ?e ?l h
  case e =>
    obtain ⟨m, rfl⟩ := Int.eq_ofNat_of_zero_le h0
    have hm : m < 32 := by omega
    clear h h0 h1
    revert m
    decide +kernel
  case l =>
    obtain ⟨m, rfl⟩ := Int.eq_ofNat_of_zero_le h0
    have hm : m < 32 := by omega
    clear h h0 h1
    revert m
    decide +kernel
theorem fmtb_meets {a : Int} {t : Tok} (h0 : 0 ≤ a) (h1 : a < 32) : ∀ u, Meets (Builtin.«int.__format__» ⟨[.int a t, .str (⟨#[98]⟩ : PySem.Str) u], []⟩) (fun _ R s => ∀ t' k, R (.ok (.ret (.str (binS a.toNat) t'))) { s with toks := k }) :=
  fun u prog w A R s h => fmtb_run h0 h1 fun t' k => h t' k
def tFmtB (te : TE) : TE := fun σ H Q => te σ H fun x H1 => ∃ i : Int, x = .int i ∧ 0 ≤ i ∧ i < 32 ∧ Q (.str (binS i.toNat)) H1
theorem pe_fmtB {X : Cx} {e : Expr} {te : TE} {j : Nat} {p1 p2 pos : Pos} (he : PE X e te) : PE X (.FormattedValue e (-1) (some (.JoinedStr [.Constant (.str "b") j p1] p2)) pos) (tFmtB te) := by
  refine ⟨fun pins s σ H Q I h => ?_⟩
  refine wpAny_FormattedValue_spec (thn (he.run pins s σ H _ I h) fun v s1 ⟨x, H1, I1, r1, i, ex, h0, h1, q⟩ => ?_)
  subst ex
  obtain ⟨t, rfl⟩ := r1
  refine thn ((pe_joined1 (pe_str (X := X) (x := "b") (j := j) (pos := p1)) (pos := p2)).run pins s1 σ H1 (fun v H2 => v = .str "b" ∧ H2 = H1) I1 ⟨rfl, rfl⟩) fun r s2 ⟨y, H2, I2, r2, ey, eH⟩ => ?_
  subst ey
  obtain ⟨tk, rfl⟩ := r2
  rw [eH] at I2
  refine ⟨"b", tk, rfl, ?_⟩
  exact KXf.field_int (spec' := ⟨#[98]⟩) (by decide +kernel) (by decide) (by decide) (fmtb_meets h0 h1) fun t' k => ⟨.str (binS i.toNat), H1, I2.tok _, ⟨_, rfl⟩, q⟩
end VQ
namespace VQ
open PySem PyProof.Rows L2
/-! ### an error made without things: C() -/
/-- the end of C(): a is the new error, d its dict -/
def MadeEnd (H : Hp) (C a : Addr) (Q : XK) : VK := fun v H2 => v = .non ∧ ∃ (d : Addr) (fs : List (Str × V)), H2 a = some (exo a C (some d)) ∧ H2 d = some (exd d fs) ∧ H d = none ∧ Q (.ref C) (some d) (upd (del H2 a) d (.xd fs))
def tMkO0 (C : Addr) (sp : Sp) : L2.St → Hp → XK → Prop := fun _ H Q => ∀ a, H a = none → sp [.ref a] (upd H a (exo a C none)) (MadeEnd H C a Q) E00
  where E00 : XK := fun _ _ _ => False
theorem pmk_oex0 {X : Cx} {CX : CXT} {x : Str} {C g : Addr} {k : Nat} {fd : FuncData} {ps : List Str} {sp : Sp} {p pos : Pos} (cl : OexC X.K C) (ini : PySem.W.findIn X.K (.ref C) "__init__" = some (some (.ref g))) (ity : PySem.W.typeIn X.K (.ref g) = some (.type "function"))
    (ok : FnOk X.prog X.w X.K X.mg X.base CX k g fd ps sp) (room : Room (k + 1) X.A) (bnd : Binds X.K fd ps []) (out : Passes CX X (fun _ _ _ => False)) (isG : Gl X x) (atG : X.mg x = some (.ref C)) (nodb : (x == ("__debug__" : Str)) = false := by decide) :
    PMk X (.Call (.Name x p) [] [] pos) (tMkO0 C sp) := by
  intro pn st sl H Q inv want
  refine wpAny_Call_Name_kw (ld_glob inv isG atG (PySem.W.callWith_K0 inv.kIn cl.kC ?_) nodb)
  obtain ⟨_, _, _, _, mro, _, _, _, _, _, _, _, _, _, _, here, tail⟩ := cl.cls
  obtain ⟨h0, gn, dw, tk, osx⟩ := st
  -- the new error stands behind its empty tuple of things
  generalize eA : h0.objs.size + 1 = a
  have above : h0.objs.size ≤ a := by omega
  have promise := want a (inv.hok.fresh above)
  generalize eN : (h0.push (PySem.W.kdv_tup [])).push (PySem.HandSPX.excO C h0.objs.size) = h1
  have stays : ∀ b o, h0.get? b = some o → h1.get? b = some o := fun b o z => by
    rw [← eN]
    exact Heap.get?_push_of_some _ (Heap.get?_push_of_some _ z)
  have stands : h1.get? a = some (PySem.HandSPX.excO C h0.objs.size) := by
    rw [← eN, ← eA]
    heap_get
  have inv1 : Inv X pn sl (upd H a (exo a C none)) ⟨h1, gn, dw, tk, osx⟩ := inv.laid (t' := tk) stays above (exo_ok stands)
  have self1 : Vals [V.ref a] [Value.ref a] := .cons rfl .nil
  have cnt : ([Value.ref a] ++ ([] : List Value)).length = ps.length := (ok.len _ _ _ _ promise).symm ▸ rfl
  have binds1 := bnd ⟨h1, gn, dw, tk, osx⟩ [Value.ref a] inv1.kIn cnt
  have runs := ok.run _ X.stack ⟨h1, gn, dw, tk, osx⟩ _ ⟨[Value.ref a], []⟩ [Value.ref a] [V.ref a] _ _ (room.make C [] []) (inv1.env0.make C [] []) binds1 self1 promise
  subst eN eA
  refine wpAny_call (PySem.HandSPX.call_own F.excBase_ValueError (fun Y => PySem.HandSPX.refsVE_contains Y mro tail) (inv.kIn _ _ here) (PySem.W.looks_findIn inv.kIn ini) (fun self => PySem.W.bind_fn inv.kIn self ity) (Nat.zero_le _) (codeAny_mono runs ?_))
  rintro (er | (_ | _ | _ | u)) st2 z
  · exact out pn sl _ _ er st2 inv1 z
  · exact z.elim
  · exact z.elim
  · exact z.elim
  · obtain ⟨v, H2, z1, z2, z3, z4, z5, rfl, d, fs, y1, y2, y3, y4⟩ := z
    obtain ⟨_, _, _, _, _⟩ := st2
    exact ⟨z5, mk_end (raises_own cl.exC cl.tyC) inv above stays z3 z4 z1 z2 y1 y2 y3 y4⟩
/-! ### a try with several clauses, each «as n» -/
/-- what a clause names: one class, or a tuple of two or three -/
inductive Cte (X : Cx) : Expr → List Value → Prop
  | one {x : Str} {c : Value} {np : Pos} (h : Names X x c) : Cte X (.Name x np) [c]
  | two {x y : Str} {c e : Value} {p q r : Pos} {k : Nat} (h : Names X x c) (h' : Names X y e) : Cte X (.Tuple [.Name x p, .Name y q] k r) [c, e]
  | three {x y z : Str} {c e f : Value} {p q r t : Pos} {k : Nat} (h : Names X x c) (h' : Names X y e) (h'' : Names X z f) : Cte X (.Tuple [.Name x p, .Name y q, .Name z r] k t) [c, e, f]
section
variable {X : Cx} {a : Addr} {around : List (Addr × Obj)}
theorem names_read {pn : List (Addr × Obj)} {sl : L2.St} {H : Hp} {st : Shared} {x : Str} {c : Value} {np : Pos} {Q E : Value → Shared → Prop} (nm : Names X x c) (inv : Inv (X.suite a around) pn sl H st) (q : Q c st) :
    wpAny (model X.prog X.w) (X.A.mark (some (.ref a))) (eval (.Name x np) X.env) Q E st := by
  rcases nm with ⟨n1, n2, n3 | ⟨n3, n4, n5⟩⟩
  · exact ld_glob (X := X.suite a around) inv n1 n3 q n2
  · exact ld_blt (X := X.suite a around) inv n1 n3 n4 q n5 n2
theorem cte_run {pn : List (Addr × Obj)} {sl : L2.St} {H : Hp} {st : Shared} {te : Expr} {cs : List Value} {cls : Value} {oe : Obj} {b : Bool} {Q : Bool → Shared → Prop} {E1 E2 : Value → Shared → Prop} (ct : Cte X te cs) (inv : Inv (X.suite a around) pn sl H st)
    (at_ : st.heap.get? a = some oe) (hc : oe.cls = cls) (ans : PySem.W.exmAny X.K cls cs = some b) (q : ∀ h', (∀ b o, st.heap.get? b = some o → h'.get? b = some o) → Q b { st with heap := h' }) :
    wpAny (model X.prog X.w) (X.A.mark (some (.ref a))) (eval te X.env) (fun c s1 => wpAny (model X.prog X.w) (X.A.mark (some (.ref a))) (excMatches (.ref a) c) Q E1 s1) E2 st := by
  have ty : PySem.W.Looks (model X.prog X.w) st.heap (typeOf (.ref a)) cls := fun _ _ _ _ kp z => wpAny_typeOf_ref (kp _ _ at_) (hc ▸ z)
  have grown : ∀ (us : List Value) (b : Addr) (o : Obj), st.heap.get? b = some o → (st.heap.push { cls := .type "tuple", data := .seq us.toArray }).get? b = some o := fun us b o z => Heap.get?_push_of_some _ z
  have kin : ∀ us : List Value, X.K.In (st.heap.push { cls := .type "tuple", data := .seq us.toArray }) := fun us => (show X.K.In st.heap from inv.kIn).keeps (grown us)
  cases ct with
  | one n1 =>
    obtain ⟨b1, d1, x1, y1, z1⟩ := PySem.W.exmAny_cons ans
    cases (show some false = some d1 from y1)
    rw [Bool.or_false] at z1
    subst z1
    exact names_read n1 inv ((PySem.W.exm_one (M := model X.prog X.w) inv.kIn ty x1).here (q st.heap fun _ _ z => z))
  | @two x y c e p' q' r' k n1 n2 =>
    refine wpAny_Tuple_spliced ?_
    show wpAny _ _ (spliced [(false, eval (.Name x p') X.env), (false, eval (.Name y q') X.env)]) _ _ _
    refine Calls.spliced_cons (names_read n1 inv (Calls.spliced_cons (names_read n2 inv (Calls.spliced_nil ⟨by show 2 ≤ sizeLine; decide, ?_⟩))))
    exact (PySem.W.exm_tup2 (M := model X.prog X.w) (kin [c, e]) (ty.keeps (grown [c, e])) (Heap.get?_push_size _ rfl) ans).here (q _ (grown [c, e]))
  | @three x y z c e f p' q' r' t' k n1 n2 n3 =>
    refine wpAny_Tuple_spliced ?_
    show wpAny _ _ (spliced [(false, eval (.Name x p') X.env), (false, eval (.Name y q') X.env), (false, eval (.Name z r') X.env)]) _ _ _
    refine Calls.spliced_cons (names_read n1 inv (Calls.spliced_cons (names_read n2 inv (Calls.spliced_cons (names_read n3 inv (Calls.spliced_nil ⟨by show 3 ≤ sizeLine; decide, ?_⟩))))))
    exact (PySem.W.exm_tup3 (M := model X.prog X.w) (kin [c, e, f]) (ty.keeps (grown [c, e, f])) (Heap.get?_push_size _ rfl) ans).here (q _ (grown [c, e, f]))
end
theorem fly_keeps {B h h' : Heap} {l : List Env} {a : Addr} {Z : Obj → Prop} (f : HandSPX.FlyingZ B l a Z h) (k : ∀ b o, h.get? b = some o → h'.get? b = some o) : HandSPX.FlyingZ B l a Z h' := by
  rcases f with ⟨f1, f2, f3, oe, vs, T, oT, ts, e1, e2, e3, e4, e5, e6, e7, e8, e9⟩
  exact ⟨fun b o z => k b o (f1 b o z), f2, f3.of_keeps fun b o z _ => ⟨o, k b o z, rfl⟩, oe, vs, T, oT, ts, k _ _ e1, e2, e3, e4, e5, e6, k _ _ e7, e8, e9⟩
/-- the ends of a suite whose name (slot i) goes behind it -/
def offName (i : Nat) (D : Ends) : Ends := { nx := fun σ' H' => D.nx (σ'.set i none) H', rt := D.rt, bk := fun σ' H' => D.bk (σ'.set i none) H', ct := fun σ' H' => D.ct (σ'.set i none) H' }
abbrev Suite := Addr → Value → Option Addr → TS
/-- what the clauses wish of an error of the body -/
def wManyA (K : PySem.W.Frag) (i : Nat) (Wout : WX) (D : Ends) : List (List Value × Suite) → WX
  | [] => Wout
  | (cs, ts) :: r => fun cls d σ H => ∃ b, PySem.W.exmAny K cls cs = some b ∧ (b = true → ∀ a, H a = none → ts a cls d (offName i D) (σ.set i (some (.ref a))) H) ∧ (b = false → wManyA K i Wout D r cls d σ H)
/-- a suite walked, whatever error it has caught -/
def Suited (X : Cx) (body : List Stmt) (ts : Suite) : Prop := ∀ (a : Addr) (oe : Obj) (cls : Value) (d : Option Addr) (pn : List (Addr × Obj)), Zc cls d oe → (∃ vs, oe.data = .fields vs) → PSs (X.suite a ((a, oe) :: pn)) body (ts a cls d)
inductive HdsA (X : Cx) (n : Str) : List ExceptHandler → List (List Value × Suite) → Prop
  | nil : HdsA X n [] []
  | cons {te : Expr} {cs : List Value} {ts : Suite} {b₀ : Stmt} {more : List Stmt} {pos' : Pos} {hds : List ExceptHandler} {l : List (List Value × Suite)} (hc : Cte X te cs) (hsu : Suited X (b₀ :: more) ts) (r : HdsA X n hds l) :
      HdsA X n (.ExceptHandler (some te) (some n) (b₀ :: more) pos' :: hds) ((cs, ts) :: l)
section
variable {X : Cx} {n : Str} {i : Nat} {Wout : WX} {pins : List (Addr × Obj)} {D : Ends}
/-- one after the other, from where the error at a has landed -/
theorem hds_run (two : X.stack = X.env :: X.outer) (fr : X.env.frame = some X.env.locals) (nd : X.N.Nodup) (slot : X.N[i]? = some n) (loc : X.env.kindOf n = some .local) (tk : Takes X Wout) {a : Addr} {B : Heap} {sI s' : Shared} {σ' : L2.St} {H' : Hp} {cls : Value} {d : Option Addr}
    (inv : Inv X pins σ' H' sI) (ground : ∀ b o, sI.heap.get? b = some o → b ∉ frs X.stack → B.get? b = some o) (free : H' a = none) (notL : a ≠ X.env.locals) (notF : a ∉ X.fs) (sameOs : s'.os = sI.os) (bare : AllBare s'.gens)
    {hds : List ExceptHandler} {l : List (List Value × Suite)} (H : HdsA X n hds l) : wManyA X.K i Wout D l cls d σ' H' → ∀ h : Heap, HandSPX.FlyingZ B (X.env :: X.outer) a (Zc cls d) h → sI.heap.UpToSlots h →
    wpAny (model X.prog X.w) X.A (handleBy (.ref a) X.env hds) (SP X pins D) X.xe { s' with heap := h } := by
  induction H with
  | nil =>
    intro wish h fl up
    refine wpAny_handleBy_nil ?_
    have goOn : wpAny (model X.prog X.w) X.A (setFlight (.ref a) X.env.frame) (fun _ s4 => wpAny (model X.prog X.w) X.A (throw (.ref a) : Sem Flow) (SP X pins D) X.xe s4) X.xe { s' with heap := h } := by
      rw [fr]
      exact HandSPX.setFlight_upZ fl fun h4 held up4 => wpAny_throw (tk _ _ ⟨a, B, sI, pins, σ', H', cls, d, rfl, inv, ground, up.trans up4, .inr (.inr (two ▸ held)), free, sameOs, bare, wish⟩)
    obtain ⟨_, _, _, oe, vs, T, _, _, t1, _, t3, t4, _⟩ := id fl
    unfold PySem.passOn
    refine wpAny_bind (wpAny_field t1 t3 t4 ?_)
    have isRef : ¬ ((Value.ref T == Value.none) = true) := by simp
    rw [if_neg isRef]
    first
      | exact wpAny_bind goOn
      | exact wpAny_bind (wpAny_pure (by exact wpAny_bind goOn))
  | @cons te cs ts b₀ more pos' hds2 l2 named suited _ ih =>
    rintro ⟨b, ans, yes, no⟩ h fl up
    have onGround : ∀ {g : Heap}, HandSPX.FlyingZ B (X.env :: X.outer) a (Zc cls d) g → sI.heap.UpToSlots g → Inv X pins σ' H' { s' with heap := g } := fun f u => inv.landed ground f.1 u sameOs bare
    obtain ⟨oe, vs, t1, t2, t3⟩ := fl.there
    refine wpAny_handleBy_cons (codeAny_handlers_test (cte_run named ((onGround fl up).suite t1 t3 free notL notF) t1 t2.1 ans fun g kp => ?_)) (fun z => by cases z)
    have fl2 := fly_keeps fl kp
    have up2 := up.trans (Heap.UpToSlots.of_keeps kp)
    cases b with
    | false =>
      show wpAny _ X.A (handleBy _ X.env hds2) _ _ _
      exact ih (no rfl) g fl2 up2
    | true =>
      refine codeAny_handlers_suite_as (HandSPX.lands_againZ fl2 fun g4 fl4 up4 => ?_)
      obtain ⟨o4, _, u1, u2, u3⟩ := fl4.there
      have inv4 := (onGround fl4 (up2.trans up4)).suite u1 u3 free notL notF
      refine store_ok (X := X.suite a ((a, o4) :: (X.pn ++ pins))) (v := .ref a) inv4 nd slot (.inl loc) rfl (fun s5 inv5 => ?_) (.inr loc)
      refine wpAny_mono ((suited a o4 cls d (X.pn ++ pins) u2 ⟨_, u3⟩).run [] s5 _ H' (offName i D) inv5 (yes rfl a free)) ?_ (fun _ _ z => False.elim z)
      have nameGoes : ∀ {s6 : Shared} {σ6 : L2.St} {H6 : Hp} {Q : Shared → Prop}, Inv (X.suite a ((a, o4) :: (X.pn ++ pins))) [] σ6 H6 s6 → (∀ s7, Inv X pins (σ6.set i none) H6 s7 → Q s7) →
          wpAny (model X.prog X.w) X.A (do bindName X.env n .none; unbindBehindTheSuite X.env n pos') (fun _ s7 => Q s7) X.xe s6 := fun j z => gone_ok (j.unsuite inv.ok) nd slot loc z
      rintro (_ | _ | _ | v) s6 z
      · obtain ⟨_, _, j, z⟩ := z
        exact nameGoes j fun _ j7 => ⟨_, _, j7, z⟩
      · obtain ⟨_, _, j, z⟩ := z
        exact nameGoes j fun _ j7 => ⟨_, _, j7, z⟩
      · obtain ⟨_, _, j, z⟩ := z
        exact nameGoes j fun _ j7 => ⟨_, _, j7, z⟩
      · obtain ⟨_, _, _, j, r, z⟩ := z
        exact nameGoes j fun _ j7 => ⟨_, _, _, j7, r, z⟩
/-- try: body / except .. as n: ..  (several clauses) -/
theorem ps_try_manyA {body : List Stmt} {h₀ : ExceptHandler} {hds : List ExceptHandler} {l : List (List Value × Suite)} {pos : Pos} {tb : WX → TS} (two : X.stack = X.env :: X.outer) (fr : X.env.frame = some X.env.locals) (nd : X.N.Nodup) (slot : X.N[i]? = some n) (loc : X.env.kindOf n = some .local) (tk : Takes X Wout)
    (inside : ∀ (W : WX) (pn : List (Addr × Obj)) (xe : Value → Shared → Prop), Takes (X.tr pn xe) W → PassesOwn (model X.prog X.w) X.A X.env xe → PSs (X.tr pn xe) body (tb W))
    (clauses : HdsA X n (h₀ :: hds) l) : PS X (.Try body (h₀ :: hds) [] [] pos) (fun D σ H => tb (wManyA X.K i Wout D l) D σ H) := by
  refine ⟨fun pins st sl H D inv want => wpAny_Try_except (wpAny_mono ((inside (wManyA X.K i Wout D l) (X.pn ++ pins) _ (fun u s' air => ?_) PassesOwn.looking).run [] st sl H D (inv.toTry _) want) ?_ fun e s1 z => z)⟩
  · obtain ⟨a, B, sI, _, σ', H', cls, d, rfl, j0, ground, up, sky, free, sameOs, bare, wish⟩ := air
    have frames : X.A.frames = some (X.env :: X.outer) := two ▸ inv.ok.frames
    refine Sky.land Zc.steady frames fr (show Sky B (X.env :: X.outer) a (Zc cls d) X.env.locals s'.heap from two ▸ sky) fun h3 fl up3 => ?_
    obtain ⟨oe, vs, t1, _, t3⟩ := fl.there
    have noFrame : a ∉ frs (X.env :: X.outer) := fun m => by
      obtain ⟨_, o2, e2, nf⟩ := fl.2.2.1.mem m
      rw [t1] at e2
      cases e2
      exact nf _ t3
    refine hds_run two fr nd slot loc tk (j0.ofTry inv.ok) ground free (fun z => noFrame (List.mem_filterMap.mpr ⟨X.env, List.mem_cons_self, z ▸ fr⟩)) (fun m => ?_) sameOs bare clauses wish h3 fl (up.trans up3)
    obtain ⟨ev, m1, m2⟩ := List.mem_filterMap.mp m
    exact noFrame (List.mem_filterMap.mpr ⟨ev, List.mem_cons_of_mem _ m1, m2⟩)
  · rintro (_ | _ | _ | v) s1 z
    · obtain ⟨_, _, j, z⟩ := z
      exact wpAny_execs_nil ⟨_, _, j.ofTry inv.ok, z⟩
    · obtain ⟨_, _, j, z⟩ := z
      exact ⟨_, _, j.ofTry inv.ok, z⟩
    · obtain ⟨_, _, j, z⟩ := z
      exact ⟨_, _, j.ofTry inv.ok, z⟩
    · obtain ⟨_, _, _, j, r, z⟩ := z
      exact ⟨_, _, _, j.ofTry inv.ok, r, z⟩
end
end VQ
namespace VQ
open PySem PyProof.Rows L2 LamX
/-- kept by one part of the run, then by another one over more frames, all of which are new to the first -/
theorem un_comp {fs1 fs2 : List Addr} {H H1 H2 : Hp} {h h1 h2 : Heap} (u1 : Un fs1 [] H H1 h h1) (u2 : Un fs2 [] H1 H2 h1 h2) (sub : ∀ b ∈ fs2, b ∈ fs1 ∨ h.get? b = none) : Un fs1 [] H H2 h h2 where
  keep := fun b o e n hb hx => u2.keep b o (u1.keep b o e n hb hx) (u1.free b o e n hx) (fun m => (sub b m).elim hb fun z => nomatch z.symm.trans e) hx
  slot := fun b o e n hb hx => by
    obtain ⟨sl1, e1⟩ := u1.slot b o e n hb hx
    obtain ⟨sl2, e2⟩ := u2.any e1 (u1.free b o e n hx) hx
    exact ⟨sl2, e2⟩
  free := fun b o e n hx => let ⟨o', e1⟩ := u1.there b o e hx; u2.free b o' e1 (u1.free b o e n hx) hx
  there := fun b o e hx => let ⟨o', e1⟩ := u1.there b o e hx; u2.there b o' e1 hx
  tups := fun b xs e => u2.tups b xs (u1.tups b xs e)
  frzs := fun b o u e => u2.frzs b o u (u1.frzs b o u e)
  tbls := fun b ps e => by
    obtain ⟨m1, e1⟩ := u1.tbls b ps e
    obtain ⟨m2, e2⟩ := u2.tbls b _ e1
    rw [Array.append_assoc] at e2
    exact ⟨_, e2⟩
/-- a lambda's names: captured ones, globals, and names of its own that the maker does not have -/
structure LamS2 (X : Cx) (scope : Scope) : Prop where
  kind : scope.kind = .function
  co : scope.isCoroutine = false
  gen : scope.isGenerator = false
  noCell : ∀ y ∈ scope.names, y.2 ≠ .cell
  own : ∀ y ∈ scope.names, y.2 = .local → y.1 ∉ X.N
  free : ∀ y ∈ scope.names, y.2 = .free → X.env.scope.names.lookup y.1 = some .cell ∨ X.env.scope.names.lookup y.1 = some .free
def lamS2B (N : List Str) (sc scope : Scope) : Bool := decide (scope.kind = .function) && !scope.isCoroutine && !scope.isGenerator &&
  scope.names.all fun y => !decide (y.2 = .cell) && (!decide (y.2 = .local) || !N.contains y.1) && (!decide (y.2 = .free) || decide (sc.names.lookup y.1 = some .cell) || decide (sc.names.lookup y.1 = some .free))
theorem lamS2_by {X : Cx} {N : List Str} {sc scope : Scope} (h : lamS2B N sc scope = true) (eN : X.N = N) (es : X.env.scope = sc) : LamS2 X scope := by
  subst eN es
  simp only [lamS2B, Bool.and_eq_true, Bool.or_eq_true, Bool.not_eq_true', decide_eq_true_eq, decide_eq_false_iff_not, List.all_eq_true] at h
  obtain ⟨⟨⟨h1, h2⟩, h3⟩, h4⟩ := h
  refine ⟨h1, h2, h3, fun y m => (h4 y m).1.1, fun y m e z => ?_, fun y m e => ?_⟩
  · rcases (h4 y m).1.2 with q | q
    · exact q e
    · rw [List.contains_iff_mem.mpr z] at q
      cases q
  · rcases (h4 y m).2 with (q | q) | q
    · exact absurd e q
    · exact .inl q
    · exact .inr q
/-- the lambda of X's frame at the state st: its object at f, its code object at c -/
structure LamAt (X : Cx) (sl : L2.St) (H : Hp) (st : Shared) (body : Expr) (scope : Scope) (f c : Addr) : Prop where
  inv : ∃ pins, Inv X pins sl H st
  lam : LamS2 X scope
  new : H f = none
  nofr : f ∉ frs X.stack
  fn : ∃ (fd : FuncData) (binds : List (Str × Value)), st.heap.get? f = some { cls := .type "function", data := .func fd } ∧ fd.scope = scope ∧ fd.body = .expr body ∧ fd.code = .ref c ∧ fd.qualname = X.env.qual ++ "<lambda>" ∧ fd.globals = mainGlobals ∧ fd.builtins = builtinsNs ∧
    fd.closure = cloFrom X.env.cells scope.names [] ∧ (∀ y ∈ binds, scope.names.lookup y.1 = some .local) ∧ ∀ s1 : Shared, (∀ b o, st.heap.get? b = some o → H b = none → b ∉ frs X.stack → s1.heap.get? b = some o) → BindsTo s1 fd ⟨[], []⟩ binds
/-- its body as a reading, wherever it is entered -/
abbrev LamBody (X : Cx) (scope : Scope) (body : Expr) (k : Nat) (f c : Addr) (E : XK) (tb : TE) : Prop :=
  ∀ (A : Around) (outer : List Env) (s : Shared) (H : Hp), Room k (A.deeper (lamEnv X scope s.heap.objs.size f c)) → PE (lamCx X A outer s H E scope f c) body tb
section
variable {X : Cx} {sl : L2.St} {H : Hp} {st : Shared} {body : Expr} {scope : Scope} {f c : Addr} {k : Nat} {E : XK} {tb : TE}
/-- the closure's cells are the maker's -/
theorem clo_cell {y : Str} {d : Addr} (has : ∀ z ∈ scope.names, z.2 = .free → ∃ c, X.env.cells.lookup z.1 = some c) (e : (cloFrom X.env.cells scope.names []).lookup y = some d) : X.env.cells.lookup y = some d := by
  rcases cloFrom_mem (PySem.mem_of_lookup e) with m | ⟨m1, m2⟩
  · cases m
  · obtain ⟨c1, e1⟩ := has _ m1 rfl
    have e1 : X.env.cells.lookup y = some c1 := e1
    rw [m2, e1]
    rfl
theorem lam_enter {pins : List (Addr × Obj)} {A : Around} {outer : List Env} {s1 : Shared} {H1 : Hp} {h2 : Heap} {tk : Nat} {m : Str → Option Value} (inv : Inv X pins sl H st) (L : LamS2 X scope) (e0 : Env0 X.prog X.w X.K X.mg X.base A outer s1 H1) (cool : A.handled = none)
    (un : Un (frs X.stack) [] H H1 st.heap s1.heap) (ns : h2.Ns s1.heap.objs.size m) (grown : ∀ b o, s1.heap.get? b = some o → h2.get? b = some o) : Inv (lamCx X A outer s1 H1 E scope f c) [] sl H1 { s1 with heap := h2, toks := tk } := by
  have has : ∀ z ∈ scope.names, z.2 = .free → ∃ c, X.env.cells.lookup z.1 = some c := fun z m e => (L.free z m e).elim (fun q => inv.ok.has _ (.inl q)) (fun q => inv.ok.has _ (.inr q))
  have own : ∀ {y : Str}, scope.names.lookup y = some .free → ∃ d, (cloFrom X.env.cells scope.names []).lookup y = some d := fun {y} q => mem_lookup (cloFrom_has (cells := X.env.cells) (acc := []) (PySem.mem_of_lookup q))
  have cellOn : ∀ {d : Addr} {v : Option Value}, H d = none → st.heap.IsCell d v → h2.IsCell d v := fun {d v} z ⟨o, q1, q2⟩ => by
    obtain ⟨sl', q⟩ := un.any q1 z (by simp)
    exact ⟨_, grown _ _ q, q2⟩
  have noCell : ∀ {y : Str}, scope.names.lookup y ≠ some .cell := fun {y} q => L.noCell _ (PySem.mem_of_lookup q) rfl
  have none_ : ∀ b : Addr, b ∉ (lamCx X A outer s1 H1 E scope f c).ex := fun b z => by cases (show b ∈ ([] : List Addr) from z)
  exact {
    ok := {
      mod := e0.mod
      kind := L.kind
      glob := rfl
      blt := rfl
      above := Nat.le_refl _
      inj := fun y z d q1 q2 => inv.ok.inj y z d (clo_cell has q1) (clo_cell has q2)
      has := fun y q => q.elim (fun z => absurd (show scope.names.lookup y = some .cell from z) noCell) (fun z => own z)
      cab := fun y d z _ => by cases (show false = true from z)
      hd := fun _ => cool
      frames := Around.frames_deeper e0.frames
      stk := .inr ⟨rfl, rfl⟩
      exf := fun b z => absurd z (none_ b)
      bs := e0.bs
      bsz := e0.bsz
      noex := fun b _ _ => none_ b
      exfs := fun b z => absurd z (none_ b)
      funs := e0.funs
      frf := e0.frf }
    os := rfl
    bare := e0.bare
    base := Un.kept grown
    loc := ⟨m, ns, fun i y v q1 q2 q3 => by
      rcases (show Vis scope y from q3) with q | q | q
      · exact absurd (List.mem_of_getElem? q1) (L.own _ (PySem.mem_of_lookup q) rfl)
      · exact absurd q noCell
      · obtain ⟨m0, _, look⟩ := inv.loc
        have there := L.free _ (PySem.mem_of_lookup q) rfl
        obtain ⟨u, rel, at_⟩ := look i y v q1 q2 (.inr there)
        obtain ⟨d, hd⟩ := own q
        refine ⟨u, rel, .inr ⟨.inr q, d, hd, ?_⟩⟩
        have hd' := clo_cell has hd
        rcases at_ with ⟨z, _⟩ | ⟨_, d2, z1, z2⟩
        · have z : X.env.scope.names.lookup y = some .local := z
          rcases there with t | t <;> rw [t] at z <;> cases z
        · cases z1.symm.trans hd'
          exact cellOn (inv.freeC y _ hd') z2⟩
    cell := fun y d q => by
      obtain ⟨v, z⟩ := inv.cell y d (clo_cell has q)
      exact ⟨v, cellOn (inv.freeC y d (clo_cell has q)) z⟩
    free := e0.hok.fresh (Nat.le_refl _)
    freeC := fun y d q => by
      obtain ⟨v, o, z, _⟩ := inv.cell y d (clo_cell has q)
      exact un.free d o z (inv.freeC y d (clo_cell has q)) (by simp)
    pin := fun q m => by cases (show q ∈ ([] : List (Addr × Obj)) from m)
    hok := e0.hok.kept grown
    len := inv.len }
/-- called from the frames outer, at a state that has kept what st had -/
theorem lam_runs (L : LamAt X sl H st body scope f c) (bd : LamBody X scope body k f c E tb) {A : Around} {outer : List Env} {s1 : Shared} {H1 : Hp} {Q : VK} (room : Room (k + 1) A) (e0 : Env0 X.prog X.w X.K X.mg X.base A outer s1 H1)
    (un : Un (frs X.stack) [] H H1 st.heap s1.heap) (code : H1 c = some (CodeO c (X.env.qual ++ "<lambda>"))) (want : tb sl H1 Q) :
    codeAny (model X.prog X.w) A (.call (.ref f) ⟨[], []⟩) (CR (L2.CX X.prog X.w) outer X.prog X.w H1 s1 Q E) s1 := by
  obtain ⟨pins, inv⟩ := L.inv
  obtain ⟨⟨oc, vs, t, c1, c2, c3⟩, _⟩ := e0.hok c _ code
  obtain ⟨fd, binds, o1, o2, o3, o4, o5, o6, o7, o8, o9, o10⟩ := L.fn
  have stands := un.keep f _ o1 L.new L.nofr (by simp)
  have lim : s1.heap.NoLimit := e0.mod.nolimit.keeps fun b o z => (e0.bs b o z).1
  refine PySem.W.kla_callFunE room.depth stands rfl (by rw [o2]; exact L.lam.co) (by rw [o2]; exact L.lam.gen) o3 ⟨c, oc, vs, t, o4, c1, c2, by rw [o5]; exact c3⟩ (o10 s1 (fun b o z1 z2 z3 => un.keep b o z1 z2 z3 (by simp)) _ _ _ _ ?_)
  rw [o2, o4, o5, o6, o7, o8]
  refine wpAny_newFunctionEnv L.lam.noCell o9 (fun h2 ns but => ⟨lim.fresh _ but, ?_⟩) L.lam.kind
  have grown : ∀ b o, s1.heap.get? b = some o → h2.get? b = some o := fun b o z => but.extBut b o (Nat.ne_of_lt (Heap.lt_size z)) (Heap.get?_push_of_some _ z)
  have entered := lam_enter (E := E) (f := f) (c := c) (tk := s1.toks + binds.length) inv L.lam e0 room.hd un ns grown
  refine PySem.W.kla_codeExpr (wpAny_mono ((bd A outer s1 H1 (room.deeper _)).run [] _ _ H1 Q entered want) ?_ fun _ _ z => z)
  rintro v s2 ⟨v', H2, j, rel, q⟩
  exact ⟨v', H2, j.os, j.bare, j.base, j.hok, rel, q⟩
/-- y(), y in the i-th slot of a def that was handed the lambda, entered at s2 from the frames outer2 -/
theorem pe_actG {CXg : CXT} {Eg : XK} {N : List Str} {q : Str} {sg : Scope} {g : Addr} {cd : Value} {i : Nat} {y : Str} {pn : List (Addr × Obj)} {xe : Value → Shared → Prop} {W : WX} {p1 p2 : Pos} {A2 : Around} {outer2 : List Env} {s2 : Shared} {H2 : Hp}
    (L : LamAt X sl H st body scope f c) (bd : LamBody X scope body k f c E tb) (un2 : Un (frs X.stack) [] H H2 st.heap s2.heap) (sub : ∀ b ∈ frs outer2, b ∈ frs X.stack ∨ st.heap.get? b = none)
    (tk : Takes ((cxOf CXg X.prog X.w X.K X.mg X.base N q sg g cd A2 outer2 s2 H2 Eg).tr pn xe) W) (hW : ∀ cls d σ' H', σ'.length = N.length → E cls d H' → W cls d σ' H') (room : Room (k + 1) (A2.deeper (envOfC q sg s2.heap.objs.size g cd)))
    (slot : N[i]? = some y) (vis : Vis sg y) (n1 : (y == ("__debug__" : Str)) = false := by decide) (n2 : (y == ("__classdict__" : Str)) = false := by decide) :
    PE ((cxOf CXg X.prog X.w X.K X.mg X.base N q sg g cd A2 outer2 s2 H2 Eg).tr pn xe) (.Call (.Name y p1) [] [] p2)
      (fun σ' H' Q => σ'[i]? = some (some (.ref f)) ∧ H' c = some (CodeO c (X.env.qual ++ "<lambda>")) ∧ tb sl H' Q) := by
  refine ⟨fun pz sz σz Hz Q jz ⟨w1, w2, w3⟩ => ?_⟩
  refine wpAny_Call_Name_kw (thn ((pe_var (pos := p1) (i := i) slot vis n1 n2).run pz sz σz Hz (fun v H1 => v = .ref f ∧ H1 = Hz) jz ⟨_, w1, rfl, rfl⟩) ?_)
  rintro u s1 ⟨_, _, j, rel, rfl, rfl⟩
  cases (show u = Value.ref f from rel)
  have un := un_comp un2 (show Un (frs outer2) [] H2 _ s2.heap s1.heap from j.base) sub
  obtain ⟨fd, _, o1, _⟩ := L.fn
  refine PySem.W.callWith_F0 ⟨_, _, _, _, un.keep f _ o1 L.new L.nofr (by simp)⟩ ?_
  refine wpAny_call (codeAny_mono (lam_runs (Q := Q) L bd room j.env0 un w2 w3) ?_)
  rintro (er | (_ | _ | _ | u)) s3 z
  · exact tk er s3 (XE.of_call j (fun cls d H' y => hW cls d σz H' j.len y) z)
  · exact z.elim
  · exact z.elim
  · exact z.elim
  · exact j.after z
end
/-- a def that calls what it got, from wherever it is called -/
def Gives2 (P : Program) (w : World) (K : PySem.W.Frag) (mg : Str → Option Value) (base : Heap) (N : List Str) (x : Str) (sg : Scope) (g : Addr) (cd : Value) (bg : List Stmt) (y : Str) (q : Str) (TT : (XK → Hp → VK → Prop) → Hp → VK → Prop) : Prop :=
  ∀ (A2 : Around) (outer2 : List Env) (f c : Addr) (s : Shared) (H : Hp) (Q : VK) (tl : XK → Hp → VK → Prop),
    (∀ (W : WX) (pn : List (Addr × Obj)) (xe : Value → Shared → Prop) (E : XK) (p1 p2 : Pos), Takes ((cxOf C8.CX0 P w K mg base N x sg g cd A2 outer2 s H C8.E0).tr pn xe) W → (∀ cls d σ' H', σ'.length = N.length → E cls d H' → W cls d σ' H') →
      PE ((cxOf C8.CX0 P w K mg base N x sg g cd A2 outer2 s H C8.E0).tr pn xe) (.Call (.Name y p1) [] [] p2) (fun σ' H' Q => σ'[0]? = some (some (.ref f)) ∧ H' c = some (CodeO c q) ∧ tl E H' Q)) →
    H c = some (CodeO c q) → TT tl H Q → ∃ t, PSs (cxOf C8.CX0 P w K mg base N x sg g cd A2 outer2 s H C8.E0).nox bg t ∧ t { nx := fun _ H' => Q .non H', rt := Q } (L2.start N [.ref f]) H
/-- err.f in a suite, whatever the error's class is -/
def tXfA (K : PySem.W.Frag) (a : Addr) (cls : Value) (d : Option Addr) (f : Str) (te : TE) : TE := fun σ H Q => ∃ C, XfC K C ∧ PySem.W.findIn K (.ref C) f = some none ∧ tXf a cls d C f te σ H Q
theorem pe_xfA {X : Cx} {a : Addr} {oe : Obj} {cls : Value} {d : Option Addr} {pn : List (Addr × Obj)} {e : Expr} {te : TE} {pos : Pos} {n : Str} (z : Zc cls d oe) (rec_ : ∃ vs, oe.data = .fields vs) (he : PE (X.suite a ((a, oe) :: pn)) e te)
    (plain : attributeBase e n X.env (eval e X.env) = eval e X.env := by rfl) : PE (X.suite a ((a, oe) :: pn)) (.Attribute e n pos) (tXfA X.K a cls d n te) :=
  ⟨fun pins s σ H Q I ⟨_, xc, no, h⟩ => (pe_xf xc no z rec_ he plain).run pins s σ H Q I h⟩
/-! ### x1(lambda: body), x1: return x2(a1)[0]; x2 calls what it got -/
/-- a def as it stands: its parameter, names by slot, body -/
structure One (K : PySem.W.Frag) (mg : Str → Option Value) (x : Str) (g : Addr) (cd : Value) (N : List Str) (y : Str) (sg : Scope) (bg : List Stmt) : Prop where
  at_ : mg x = some (.ref g)
  kp : PySem.W.keepIn K (.ref g) = true
  ex : ∃ (oc : Value) (od : Option Addr) (pa : Arguments) (dV kV doc pm : Value) (an : Option Addr) (ct : Value) (osl : Array (Option Value)),
    K.lookup g = some ⟨oc, od, .func (PySem.W.fnOf x x pa bg sg dV kV doc pm an cd ct), osl⟩ ∧ L2.Binds K (PySem.W.fnOf x x pa bg sg dV kV doc pm an cd ct) [y] []
  code : PySem.W.codeIn K cd x = true
  sc : FnScope N [y] sg
  slot : N[0]? = some y
  vis : Vis sg y
  n1 : (x == ("__debug__" : Str)) = false
  n2 : (y == ("__debug__" : Str)) = false
  n3 : (y == ("__classdict__" : Str)) = false
theorem start_slot {N : List Str} {y : Str} {v : V} (h : N[0]? = some y) : (L2.start N [v])[0]? = some (some v) := by
  match N, h with
  | _ :: _, _ => rfl
section
variable {X : Cx} {x1 x2 y1 y2 : Str} {g1 g2 : Addr} {cd1 cd2 : Value} {N1 N2 : List Str} {sg1 sg2 : Scope} {bg2 : List Stmt} {j0 : Nat} {q1 q2 q3 q4 q5 q6 : Pos} {TT : (XK → Hp → VK → Prop) → Hp → VK → Prop}
abbrev handsOn (x2 y1 : Str) (j0 : Nat) (q1 q2 q3 q4 q5 q6 : Pos) : List Stmt := [.Return (some (.Subscript (.Call (.Name x2 q1) [.Name y1 q2] [] q3) (.Constant (.int 0) j0 q4) q5)) q6]
/-- in x1's frame, entered at s1 from X: x2(y1) -/
theorem pe_hand (D1 : One X.K X.mg x1 g1 cd1 N1 y1 sg1 (handsOn x2 y1 j0 q1 q2 q3 q4 q5 q6)) (D2 : One X.K X.mg x2 g2 cd2 N2 y2 sg2 bg2) (isG : sg1.names.lookup x2 = some .globalImplicit) (gives : Gives2 X.prog X.w X.K X.mg X.base N2 x2 sg2 g2 cd2 bg2 y2 (X.env.qual ++ "<lambda>") TT)
    {sl : L2.St} {H : Hp} {s1 : Shared} {body : Expr} {scope : Scope} {f c : Addr} {k : Nat} {t : XK → TE} (L : LamAt X sl H s1 body scope f c) (bd : ∀ E, LamBody X scope body k f c E (t E)) (room : Room (k + 2) (X.A.deeper (envOfC x1 sg1 s1.heap.objs.size g1 cd1))) :
    PE (cxOf C8.CX0 X.prog X.w X.K X.mg X.base N1 x1 sg1 g1 cd1 X.A X.stack s1 H C8.E0) (.Call (.Name x2 q1) [.Name y1 q2] [] q3)
      (fun σ' H' Q => σ'[0]? = some (some (.ref f)) ∧ H' c = some (CodeO c (X.env.qual ++ "<lambda>")) ∧ TT (fun E H2 Q2 => t E sl H2 Q2) H' Q) := by
  refine ⟨fun pz sz σz Hz Q jz ⟨w1, w2, w3⟩ => ?_⟩
  refine wpAny_Call_Name_kw (ld_glob jz (show (envOfC x1 sg1 s1.heap.objs.size g1 cd1).kindOf x2 = some .globalImplicit from isG) D2.at_ ?_ D2.n1)
  have arg : PA (cxOf C8.CX0 X.prog X.w X.K X.mg X.base N1 x1 sg1 g1 cd1 X.A X.stack s1 H C8.E0) [.Name y1 q2] (tCons (tVar 0) tNil) := pa_cons (pe_var (i := 0) D1.slot D1.vis D1.n2 D1.n3) pa_nil
  refine PySem.W.callWith_K (h₀ := X.base) jz.ok.mod.kin D2.kp (thn (arg.run q3 pz sz σz Hz (fun vs H2 => vs = [.ref f] ∧ H2 = Hz) jz ⟨_, w1, rfl, rfl⟩) ?_) (by rfl) (by rfl)
  rintro us s2 ⟨_, _, j, rel, rfl, rfl⟩
  obtain ⟨oc, od, pa, dV, kV, doc, pm2, an, ct, osl, lk, bnd⟩ := D2.ex
  match us, rel with
  | [_], .cons r .nil =>
    cases r
    refine ⟨j.kIn, ?_⟩
    have sub : ∀ b ∈ frs (envOfC x1 sg1 s1.heap.objs.size g1 cd1 :: X.stack), b ∈ frs X.stack ∨ s1.heap.get? b = none := fun b m => by
      obtain ⟨ev, m1, m2⟩ := List.mem_filterMap.mp m
      rcases List.mem_cons.mp m1 with rfl | m1
      · cases m2
        refine .inr (Option.eq_none_iff_forall_ne_some.mpr fun o z => ?_)
        exact Nat.lt_irrefl _ (Heap.lt_size z)
      · exact .inl (List.mem_filterMap.mpr ⟨ev, m1, m2⟩)
    have inner : codeAny (model X.prog X.w) (X.A.deeper (envOfC x1 sg1 s1.heap.objs.size g1 cd1)) (.call (.ref g2) ⟨[.ref f], []⟩) (CR C8.CX0 (envOfC x1 sg1 s1.heap.objs.size g1 cd1 :: X.stack) X.prog X.w _ s2 Q C8.E0) s2 :=
      run_ofS (N := N2) (ps := [y2]) (us := [.ref f]) (vs := [.ref f]) lk D2.code D2.sc room j.env0 (bnd s2 [.ref f] j.kIn rfl) (.cons rfl .nil) rfl fun room2 => by
        obtain ⟨tt, d1, d2⟩ := gives (X.A.deeper (envOfC x1 sg1 s1.heap.objs.size g1 cd1)) (envOfC x1 sg1 s1.heap.objs.size g1 cd1 :: X.stack) f c s2 _ Q (fun E H2 Q2 => t E sl H2 Q2)
          (fun W pn xe E p1 p2 tk hW => pe_actG (i := 0) L (bd E) (show Un (frs X.stack) [] H _ s1.heap s2.heap from j.base) sub tk hW room2 D2.slot D2.vis D2.n2 D2.n3) w2 w3
        exact ⟨tt, d1.nox, d2⟩
    refine wpAny_call (codeAny_mono inner ?_)
    rintro (er | (_ | _ | _ | u)) s3 z
    · exact (show False from z).elim
    · exact z.elim
    · exact z.elim
    · exact z.elim
    · exact j.after z
/-- the lambda is made, with whatever defaults -/
def LamMk (X : Cx) (T : List (Addr × Str)) (params : Arguments) (body : Expr) (scope : Scope) (lpos : Pos) : Prop :=
  ∀ {pins : List (Addr × Obj)} {sl : L2.St} {H : Hp} {st : Shared} {Q : Value → Shared → Prop} {E : Value → Shared → Prop}, Inv X pins sl H st → Tabs T H →
    (∀ (f c : Addr) (H1 : Hp) (s1 : Shared), Inv X pins sl H1 s1 → LamAt X sl H1 s1 body scope f c → ExtN H H1 → Tabs T H1 → H1 c = some (CodeO c (X.env.qual ++ "<lambda>")) → Q (.ref f) s1) →
    wpAny (model X.prog X.w) X.A (eval (.Lambda params body scope lpos) X.env) Q E st
theorem pe_word {T : List (Addr × Str)} {k : Nat} {params : Arguments} {body : Expr} {scope : Scope} {t : XK → TE} {p lpos pos : Pos} (isG : Gl X x1) (D1 : One X.K X.mg x1 g1 cd1 N1 y1 sg1 (handsOn x2 y1 j0 q1 q2 q3 q4 q5 q6)) (isG2 : sg1.names.lookup x2 = some .globalImplicit)
    (D2 : One X.K X.mg x2 g2 cd2 N2 y2 sg2 bg2) (gives : Gives2 X.prog X.w X.K X.mg X.base N2 x2 sg2 g2 cd2 bg2 y2 (X.env.qual ++ "<lambda>") TT) (mk : LamMk X T params body scope lpos) (room : Room (k + 3) X.A) (bd : ∀ f c' E, LamBody X scope body k f c' E (t E)) :
    PE X (.Call (.Name x1 p) [.Lambda params body scope lpos] [] pos) (tLam T (fun tl H Q => TT tl H fun v H1 => rIxT X.K v (.int 0) H1 Q) t) := by
  refine ⟨fun pins st sl H Q inv ⟨tabs, want⟩ => ?_⟩
  refine wpAny_Call_Name_kw (ld_glob inv isG D1.at_ (PySem.W.callWith_K (h₀ := X.base) inv.ok.mod.kin D1.kp ?_ (by rfl) (by rfl)) D1.n1)
  refine Calls.spliced_cons (rest := backTo pos (starEach [] X.env)) (mk inv tabs fun f c' H1 s1 inv1 LA ext tabs1 co => ?_)
  refine Calls.spliced_nil ⟨inv1.kIn, ?_⟩
  obtain ⟨oc, od, pa, dV, kV, doc, pm1, an, ct, osl, lk, bnd⟩ := D1.ex
  have outerRun : codeAny (model X.prog X.w) X.A (.call (.ref g1) ⟨[.ref f], []⟩) (CR C8.CX0 X.stack X.prog X.w H1 s1 Q C8.E0) s1 :=
    run_ofS (N := N1) (ps := [y1]) (us := [.ref f]) (vs := [.ref f]) lk D1.code D1.sc room inv1.env0 (bnd s1 [.ref f] inv1.kIn rfl) (.cons rfl .nil) rfl fun room1 =>
      ⟨_, pss_one (ps_ret (pe_ix ix_tup (pe_hand D1 D2 isG2 gives LA (bd f c') room1) pe_int fun _ _ => rfl)), start_slot D1.slot, co, want H1 ext tabs1⟩
  refine wpAny_call (codeAny_mono outerRun ?_)
  rintro (er | (_ | _ | _ | u)) s3 z
  · exact (show False from z).elim
  · exact z.elim
  · exact z.elim
  · exact z.elim
  · exact inv1.after z
end
section
variable {X : Cx} {T : List (Addr × Str)} {c P : Addr} {params : Arguments} {body : Expr} {scope : Scope} {lpos : Pos}
/-- without defaults -/
theorem mk_plain (TB : TabB X.base X.mg c P) (code : X.env.code = .ref c) (mem : (P, X.env.qual ++ "<lambda>") ∈ T) (only : ∀ p ∈ T, p.1 = P → p.2 = X.env.qual ++ "<lambda>") (L : LamS2 X scope) (nodef : defaultsOf params X.env = ([], []))
    (noargs : ∀ (q : Str) (cl : List (Str × Addr)) (pm cv ctv : Value), bindArgs (PySem.W.kla_fn "<lambda>" q params body scope cl pm cv ctv) ⟨[], []⟩ = pure []) : LamMk X T params body scope lpos := by
  intro pins sl H st Q E inv tabs k
  have has : ∀ z ∈ scope.names, z.2 = .free → ∃ c, X.env.cells.lookup z.1 = some c := fun z m e => (L.free z m e).elim (fun q => inv.ok.has _ (.inl q)) (fun q => inv.ok.has _ (.inr q))
  refine lam_make2 inv TB code mem only tabs nodef has fun f c' pm ctv H1 s1 inv1 ext tabs1 obj new nofr co => ?_
  exact k f c' H1 s1 inv1 ⟨⟨pins, inv1⟩, L, new, nofr, _, [], obj, rfl, rfl, rfl, rfl, rfl, rfl, rfl, (fun y m => by cases m), (fun s2 _ => BindsTo.of_eq (noargs _ _ _ _ _))⟩ ext tabs1 co
end
end VQ
namespace VQ
open PySem PyProof.Rows L2 LamX
/-! ### a lambda with a default -/
theorem ct_step {M : Model} {A : Around} {E : Value → Shared → Prop} {s : Shared} {b : Bool} {items : List Value} {jp : Value → Sem Value} {Q : Value → Shared → Prop} (k : ∀ (ct : Value) (h1 : Heap), (∀ b o, s.heap.get? b = some o → h1.get? b = some o) → s.heap.objs.size ≤ h1.objs.size → wpAny M A (jp ct) Q E { s with heap := h1 }) :
    wpAny M A (if b = true then (do let ct ← pure Value.none; jp ct) else (do let ct ← newTextTuple items; jp ct)) Q E s := by
  cases b with
  | true => exact wpAny_bind (wpAny_pure (k .none s.heap (fun _ _ z => z) (Nat.le_refl _)))
  | false => exact wpAny_bind (wpAny_newTextTuple (k _ _ (fun _ _ z => Heap.get?_push_of_some _ z) (by rw [Heap.size_push]; omega)))
abbrev fnDfl (q : Str) (params : Arguments) (body : Expr) (scope : Scope) (cl : List (Str × Addr)) (pm : Value) (c : Addr) (ctv dV : Value) : FuncData := { PySem.W.kla_fn "<lambda>" q params body scope cl pm (.ref c) ctv with defaults := dV }
section
variable {X : Cx} {T : List (Addr × Str)} {c P : Addr} {params : Arguments} {body : Expr} {scope : Scope} {lpos : Pos}
theorem tail_run {pins : List (Addr × Obj)} {sl : L2.St} {H : Hp} {st : Shared} {Q : Value → Shared → Prop} {E : Value → Shared → Prop} {dV : Value} (inv : Inv X pins sl H st) (TB : TabB X.base X.mg c P) (code : X.env.code = .ref c) (mem : (P, X.env.qual ++ "<lambda>") ∈ T) (only : ∀ p ∈ T, p.1 = P → p.2 = X.env.qual ++ "<lambda>") (tabs : Tabs T H)
    (has : ∀ z ∈ scope.names, z.2 = .free → ∃ c, X.env.cells.lookup z.1 = some c)
    (k : ∀ (f c' : Addr) (pm ctv : Value) (H1 : Hp) (s1 : Shared), Inv X pins sl H1 s1 → ExtN H H1 → Tabs T H1 → (∀ b o, st.heap.get? b = some o → H b = none → s1.heap.get? b = some o ∧ H1 b = none) →
      s1.heap.get? f = some { cls := .type "function", data := .func (fnDfl (X.env.qual ++ "<lambda>") params body scope (cloFrom X.env.cells scope.names []) pm c' ctv dV) } → H1 f = none → f ∉ frs X.stack → H1 c' = some (CodeO c' (X.env.qual ++ "<lambda>")) → Q (.ref f) s1) :
    wpAny (model X.prog X.w) X.A (makeTail "<lambda>" (X.env.qual ++ "<lambda>") params (.expr body) scope X.env dV .none none lpos lpos.line) Q E st := by
  obtain ⟨ps, atP, trip, known⟩ := tabs _ mem
  have rawP : st.heap.get? P = some { cls := .none, data := .fields ps } := inv.hok P _ atP
  obtain ⟨bm, ob, b1, b2, b3, b4, b5, b6, b7, b8⟩ := TB.bm.keeps inv.bk
  have noFrame : ∀ f, st.heap.objs.size ≤ f → f ∉ frs X.stack := fun f above z => by
    rcases List.mem_cons.mp (inv.stkSub _ z) with e | e
    · exact absurd inv.lt (by rw [← e]; exact Nat.not_lt.mpr above)
    · exact inv.nofs above e
  have nsG : st.heap.Ns mainGlobals X.mg := inv.mod.glob.keeps inv.bk
  unfold makeTail
  rw [closure_ok has, inv.ok.glob]
  refine wpAny_bind (wpAny_pure (ct_step fun ct h1 grown sz1 => ?_))
  have hd1 := (TB.code.keeps inv.bk).keeps grown
  have rawP1 := grown _ _ rawP
  cases found : codeAmong lpos ps.toList with
  | none =>
    refine wpAny_bind (wpAny_functionCodeX code (hd1.code rawP1 trip) (hd1.tab rawP1) found fun c' h2 tk but above below _ rec_ tab2 _ => ?_)
    have nsG2 := (nsG.keeps grown).extBut but TB.gP
    refine wpAny_bind (wpAny_builtinsFor nsG2 b1 b2 (but _ _ b4 (grown _ _ b5)) b6 b7 b8 (wpAny_bind (wpAny_nsGet nsG2 (wpAny_bind (wpAny_pure (wpAny_newObj_type ?_ (by size_fits)))))))
    obtain ⟨c2, oc, vs, t, ec, r1, r2, r3⟩ := rec_
    cases ec
    have newC : H c' = none := inv.hok.fresh (Nat.le_trans sz1 above)
    have szf : st.heap.objs.size ≤ h2.objs.size := Nat.le_trans (Nat.le_trans sz1 above) (Nat.le_of_lt below)
    have old : ∀ b o, b ≠ P → st.heap.get? b = some o → h2.get? b = some o := fun b o n z => but b o n (grown b o z)
    have inv2 := inv_table (t' := tk) (more := #[rawInt lpos.line, rawInt lpos.col, .ref c']) (h' := h2.push { cls := .type "function", data := .func (fnDfl (X.env.qual ++ "<lambda>") params body scope (cloFrom X.env.cells scope.names []) ((X.mg "__name__").getD .none) c' ct dV) }) inv atP
      (fun b o n z => Heap.get?_push_of_some _ (old b o n z)) (Heap.get?_push_of_some _ tab2.2) (Nat.le_trans sz1 above) ⟨oc, vs, t, Heap.get?_push_of_some _ r1, r2, r3⟩
    have nP : ∀ b, H b = none → b ≠ P := fun b z e => by
      rw [e, atP] at z
      cases z
    have ext : ExtN H (upd (upd H P (.tbl (ps ++ #[rawInt lpos.line, rawInt lpos.col, .ref c']))) c' (CodeO c' (X.env.qual ++ "<lambda>"))) := fun b o z n => by
      have bP : b ≠ P := fun e => by
        rw [e] at z
        exact n ps (Option.some.inj (z.symm.trans atP))
      rw [upd_ne (ne_of_none z newC), upd_ne bP]
      exact z
    have glue : (ps ++ #[rawInt lpos.line, rawInt lpos.col, Value.ref c']).toList = ps.toList ++ [rawInt lpos.line, rawInt lpos.col, .ref c'] := by simp
    refine k h2.objs.size c' _ ct _ _ inv2 ext (fun p m => ?_) (fun b o z n => ⟨Heap.get?_push_of_some _ (old b o (nP b n) z), ?_⟩) (Heap.get?_push_size _ rfl) ?_ (noFrame _ szf) upd_same
    · by_cases e : p.1 = P
      · rw [only p m e, e]
        refine ⟨_, by rw [upd_ne (ne_of_none atP newC), upd_same], by rw [glue]; exact PySem.TriplesOk_snoc _ _ _ _ trip, fun p' cv hit => ?_⟩
        rw [glue] at hit
        rcases among_app _ trip hit with z | z
        · obtain ⟨c0, z1, z2⟩ := known p' cv z
          exact ⟨c0, z1, ext _ _ z2 codeO_ne⟩
        · exact ⟨c', z, upd_same⟩
      · obtain ⟨ps', a1, a2, a3⟩ := tabs p m
        refine ⟨ps', by rw [upd_ne (ne_of_none a1 newC), upd_ne e]; exact a1, a2, fun p' cv hit => ?_⟩
        obtain ⟨c0, z1, z2⟩ := a3 p' cv hit
        exact ⟨c0, z1, ext _ _ z2 codeO_ne⟩
    · have nc : b ≠ c' := Nat.ne_of_lt (Nat.lt_of_lt_of_le (Heap.lt_size z) (Nat.le_trans sz1 above))
      rw [upd_ne nc, upd_ne (nP b n)]
      exact n
    · rw [upd_ne (Nat.ne_of_gt below), upd_ne (Nat.ne_of_gt (Nat.lt_of_lt_of_le (Heap.lt_size rawP) szf))]
      exact inv.hok.fresh szf
  | some cv =>
    obtain ⟨c', e, stands⟩ := known lpos cv found
    subst e
    have nsG1 := nsG.keeps grown
    refine wpAny_bind (wpAny_functionCode_hit code (hd1.code rawP1 trip) found (wpAny_bind (wpAny_builtinsFor nsG1 b1 b2 (grown _ _ b5) b6 b7 b8 (wpAny_bind (wpAny_nsGet nsG1 (wpAny_bind (wpAny_pure (wpAny_newObj_type ?_ (by size_fits)))))))))
    have stays : ∀ b o, st.heap.get? b = some o → (h1.push { cls := .type "function", data := .func (fnDfl (X.env.qual ++ "<lambda>") params body scope (cloFrom X.env.cells scope.names []) ((X.mg "__name__").getD .none) c' ct dV) }).get? b = some o := fun b o z => Heap.get?_push_of_some _ (grown b o z)
    exact k h1.objs.size c' _ ct H _ (inv.kept stays) (ExtN.refl H) tabs (fun b o z n => ⟨stays b o z, n⟩) (Heap.get?_push_size _ rfl) (inv.hok.fresh sz1) (noFrame _ sz1) stands
/-- one default, an int -/
theorem mk_dflt {i : Int} {j : Nat} {dp : Pos} {y : Str} (TB : TabB X.base X.mg c P) (code : X.env.code = .ref c) (mem : (P, X.env.qual ++ "<lambda>") ∈ T) (only : ∀ p ∈ T, p.1 = P → p.2 = X.env.qual ++ "<lambda>") (L : LamS2 X scope)
    (defs : defaultsOf params X.env = ([eval (.Constant (.int i) j dp) X.env], [])) (nokw : params.kwonlyargs = []) (loc : scope.names.lookup y = some .local)
    (args : ∀ (q : Str) (cl : List (Str × Addr)) (pm ctv u : Value) (cv T0 : Addr), ∃ k, bindArgs (fnDfl q params body scope cl pm cv ctv (.ref T0)) ⟨[], []⟩ = seqItems? (.ref T0) >>= k ∧ k (some #[u]) = pure [(y, u)]) : LamMk X T params body scope lpos := by
  intro pins sl H st Q E inv tabs k
  have has : ∀ z ∈ scope.names, z.2 = .free → ∃ c, X.env.cells.lookup z.1 = some c := fun z m e => (L.free z m e).elim (fun q => inv.ok.has _ (.inl q)) (fun q => inv.ok.has _ (.inr q))
  rw [arm_eval_Lambda, defs]
  show wpAny _ _ (do let dv ← evalAll [eval (.Constant (.int i) j dp) X.env]; let kdv ← holding dv (evalAllOpt []); makeFunction "<lambda>" (X.env.qual ++ "<lambda>") params (.expr body) scope X.env dv kdv [] lpos lpos.line) _ _ _
  refine wpAny_bind (wpAny_evalAll_cons (wpAny_Constant_int (wpAny_evalAll_nil (wpAny_bind (wpAny_holding (wpAny_pure ?_))))))
  rw [makeFunction_eq, nokw]
  simp only [List.zip_nil_left, List.filterMap_nil, List.isEmpty_nil, List.isEmpty_cons, if_true, Bool.false_eq_true, if_false, pure_bind]
  refine wpAny_bind (wpAny_newTextTuple ?_)
  have old : ∀ b o, st.heap.get? b = some o → (st.heap.push { cls := .type "tuple", data := .seq [Value.int i st.toks].toArray }).get? b = some o := fun b o z => Heap.get?_push_of_some _ z
  have atT : (st.heap.push { cls := .type "tuple", data := .seq [Value.int i st.toks].toArray }).get? st.heap.objs.size = some { cls := .type "tuple", data := .seq [Value.int i st.toks].toArray } := Heap.get?_push_size _ rfl
  have inv1 : Inv X pins sl H { st with heap := st.heap.push { cls := .type "tuple", data := .seq [Value.int i st.toks].toArray }, toks := st.toks + 1 } := inv.kept old
  have newT : H st.heap.objs.size = none := inv.hok.fresh (Nat.le_refl _)
  have noT : st.heap.objs.size ∉ frs X.stack := fun z => by
    rcases List.mem_cons.mp (inv.stkSub _ z) with e | e
    · exact absurd inv.lt (by rw [← e]; exact Nat.lt_irrefl _)
    · exact inv.nofs (Nat.le_refl _) e
  refine tail_run inv1 TB code mem only tabs has fun f c' pm ctv H1 s1 inv2 ext tabs1 keep obj new nofr co => ?_
  obtain ⟨t1, t2⟩ := keep _ _ atT newT
  refine k f c' H1 s1 inv2 ⟨⟨pins, inv2⟩, L, new, nofr, _, [(y, Value.int i st.toks)], obj, rfl, rfl, rfl, rfl, rfl, rfl, rfl, fun z m => ?_, fun s2 stays => ?_⟩ ext tabs1 co
  · rw [List.mem_singleton.mp m]
    exact loc
  · obtain ⟨kk, e1, e2⟩ := args (X.env.qual ++ "<lambda>") (cloFrom X.env.cells scope.names []) pm ctv (.int i st.toks) c' st.heap.objs.size
    refine BindsTo.of_looks fun M => ?_
    rw [e1]
    intro A' Q' E' s3 kp q
    have there := kp _ _ (stays _ _ t1 t2 noT)
    exact wpAny_bind (wpAny_seqItems there rfl ((PySem.W.Looks.of_pure e2 : PySem.W.Looks M s2.heap _ _) A' Q' E' s3 kp q))
end
end VQ
namespace VQ
open PySem PySem.Spec PyProof.Rows L2 LamX
/-! ### a tuple times a number from 1 on -/
theorem once_mul (l : Addr) (its : Array Value) (n : Nat) (dd : Option Addr) (sl : Array (Option Value)) (u : Tok) :
    Meets (Builtin.«tuple.__mul__» ⟨[.ref l, .int 1 u], []⟩) (fun _ R s => s.heap.get? l = some ⟨.type "tuple", dd, .seq its n, sl⟩ ∧ R (.ok (.ret (.ref l))) s) :=
  .of_wp fun prog w A R s h => by
    obtain ⟨hp, g, d, tk, os⟩ := s
    obtain ⟨hl, h⟩ := h
    have f1 := AutoSeq1.idx_int
    wp_walk using wpAny_loadPart' hl
    exact ⟨_, rfl, h⟩
/-- once is the tuple itself -/
def rTimes (K : PySem.W.Frag) : R2 := fun x y H Q => ∃ (l : Addr) (k : Int) (xs : List V), x = .ref l ∧ y = .int k ∧ SqT K H l xs ∧ xs ≠ [] ∧ 1 ≤ k ∧ k ≤ 1000 ∧ xs.length ≤ 1000 ∧
  (k = 1 → Q (.ref l) H) ∧ (k ≠ 1 → ∀ p, H p = none → Q (.ref p) (upd H p (.tup (List.replicate k.toNat xs).flatten)))
theorem op_times {X : Cx} : OpR X (binaryOp .Mult) (rTimes X.K) := by
  intro pins s σ H x y v u Q I rx ry h
  obtain ⟨l, k, xs, rfl, rfl, sq, ne, k1, k2, hz, q1, q2⟩ := h
  by_cases e : k = 1
  · subst e
    cases rx
    obtain ⟨t, rfl⟩ := ry
    obtain ⟨its, r, ⟨⟨cls, dd, data, sl⟩, ho, hc, n, hd⟩, hs⟩ := I.tuple sq
    simp only at hc hd
    subst hc hd
    exact wpAny_binaryOp_repeat_ref (T := "tuple") (U := "int") (by decide) ⟨_, ho, rfl⟩ (fun s' => typeIs_int s' 1 t) noFill_tuple_mul F.fills_int_mul F.slot_int_rmul repeat_tuple F.slot_int_index.lookup
      (call_meets F.slot_int_rmul (typeIs_int s 1 t) F.entry_int_rmul (F.args_int_rmul_2 _ _) (int_rmul_tuple 1 t l its.toArray n dd sl)
        ⟨ho, rfl, ⟨_, ho, rfl⟩, call_meets F.slot_tuple_mul ⟨_, ho, rfl⟩ F.entry_tuple_mul (F.args_tuple_mul_2 _ _) (once_mul l its.toArray n dd sl t) ⟨ho, .ref l, H, I, rfl, q1 rfl⟩⟩)
  · exact op_repT pins s σ H _ _ v u Q I rx ry ⟨l, k, xs, rfl, rfl, sq, ne, by omega, k2, hz, q2 e⟩
/-! ### comprehensions over zip of two tuples -/
theorem lc_zipT {K : PySem.W.Frag} {a b : Addr} {xs ys : List V} {g : TG} {tt : TT} {te : TE} {vs : List Nat} {σ : L2.St} {H1 : Hp} {D : Addr} {Qd : Hp → Prop} (len : xs.length = ys.length) (Pv : Nat → Hp → Prop) (h0 : Pv 0 (upd H1 D (.lst []))) (both : ∀ i H, Pv i H → SqT K H a xs ∧ SqT K H b ys)
    (turn : ∀ (i : Nat) (x y : V) (T : Addr) (H : Hp), xs[i]? = some x → ys[i]? = some y → Pv i H → H T = none → g (.ref T) (wipe σ vs) (upd H T (.tup [x, y])) fun σ2 H2 => wipe σ2 vs = wipe σ vs ∧ tt σ2 H2 fun b H3 => if b = true then te σ2 H3 fun y H4 => ∃ acc, H4 D = some (.lst acc) ∧ acc.length < sizeLine ∧ Pv (i + 1) (upd H4 D (.lst (acc ++ [y]))) else Pv (i + 1) H3)
    (fin : ∀ H, Pv xs.length H → Qd H) :
    ∃ W : Nat → Nat → Hp → Prop, (∃ m, W 0 m (upd H1 D (.lst []))) ∧ ∀ i m H, W i m H → ((RZ.ItzT K a b).stop i H ∧ Qd H) ∨ ((RZ.ItzT K a b).go i H ∧ ∃ Nx : Hp → Prop, (∀ H', Nx H' → ∃ m', m' < m ∧ W (i + 1) m' H') ∧
      ∀ x H', (RZ.ItzT K a b).yld i H x H' → g x (wipe σ vs) H' fun σ2 H2 => wipe σ2 vs = wipe σ vs ∧ tt σ2 H2 fun b H3 => if b = true then te σ2 H3 fun y H4 => ∃ acc, H4 D = some (.lst acc) ∧ acc.length < sizeLine ∧ Nx (upd H4 D (.lst (acc ++ [y]))) else Nx H3) := by
  refine ⟨fun i m H => m + i = xs.length ∧ Pv i H, ⟨xs.length, by simp, h0⟩, ?_⟩
  rintro i m H ⟨em, p⟩
  obtain ⟨sx, sy⟩ := both i H p
  by_cases lt : i < xs.length
  · have lt' : i < ys.length := by rw [← len]; exact lt
    refine .inr ⟨⟨xs, ys, xs[i], ys[i], sx, sy, List.getElem?_eq_getElem lt, List.getElem?_eq_getElem lt'⟩, Pv (i + 1), fun H' p' => ⟨m - 1, by omega, by omega, p'⟩, ?_⟩
    rintro v H' ⟨T, x, y, rfl, nT, rfl, e1, e2⟩
    exact turn i x y T H (e1 xs sx) (e2 ys sy) p nT
  · have e : i = xs.length := by omega
    subst e
    exact .inl ⟨⟨xs, ys, sx, sy, .inl (Nat.le_refl _)⟩, fin H p⟩
end VQ
namespace VQ
open PySem PySem.Spec PyProof.Rows L2
/-! ### enumerate of a tuple -/
abbrev tiO (l : Addr) : Obj := { cls := .type "tuple_iterator", data := .fields #[.ref l, .int 0 0] }
abbrev enO (it : Addr) : Obj := { cls := .type "enumerate", data := .fields #[.none, .bool false, .ref it, rawInt 0, .none, .none] }
theorem enum_newT (l : Addr) (its : Array Value) (n : Nat) (dd : Option Addr) (sl : Array (Option Value)) :
    Meets (Builtin.«enumerate.__new__» ⟨[.type "enumerate", .ref l], []⟩) (fun _ R s => s.heap.get? l = some ⟨.type "tuple", dd, .seq its n, sl⟩ ∧
      R (.ok (.ret (.ref (s.heap.push (tiO l)).objs.size))) { s with heap := (s.heap.push (tiO l)).push (enO s.heap.objs.size) }) :=
  .of_wp fun prog w A R s z => by
    obtain ⟨hp, g, d, tk, os⟩ := s
    obtain ⟨hl, z⟩ := z
    have isSub := sub_enumerate
    have tupL : Heap.IsTuple (Shared.heap ⟨hp, g, d, tk, os⟩) l its := ⟨_, hl, rfl, n, rfl⟩
    wp_walk using AutoSeq1.wpAny_loadPart' hl
    refine wpAny_stack_any fun _ => wpAny_pure ?_
    split
    · rename_i c _ _ _ _ _
      cases (c == Value.type "enumerate") <;>
      · wp_walk using AutoSeq1.wpAny_loadPart' hl, wpAny_pyIter_tuple tupL
        exact ⟨_, rfl, z⟩
    · wp_walk using AutoSeq1.wpAny_loadPart' hl, wpAny_pyIter_tuple tupL
      exact ⟨_, rfl, z⟩
theorem enum_callT {prog : Program} {w : World} {A : Around} {E : Value → Shared → Prop} {s : Shared} {l : Addr} {its : Array Value} {Q : Value → Shared → Prop} (tupL : s.heap.IsTuple l its)
    (k : ∀ g : Heap, IsEnum g (s.heap.objs.size + 1) s.heap.objs.size 0 .none → g.IsTupleIter s.heap.objs.size l 0 → (∀ b o, s.heap.get? b = some o → g.get? b = some o) → Q (.ref (s.heap.objs.size + 1)) { s with heap := g }) :
    wpAny (model prog w) A (call (.type "enumerate") [.ref l]) Q E s := by
  obtain ⟨⟨c, dd, dt, sl⟩, hl, c1, n, c2⟩ := tupL
  have c1 : c = .type "tuple" := c1
  have c2 : dt = .seq its n := c2
  subst c1 c2
  refine callType_new F.called_enumerate (by decide) (F.typeCall_enumerate_1 _) (F.newCall_enumerate_1 _) (fun x => F.args_object_init_2 x _) F.entry_enumerate_new (enum_newT l its n dd sl) ⟨hl, ?_⟩
  have sz : (s.heap.push (tiO l)).objs.size = s.heap.objs.size + 1 := Heap.size_push ..
  show _ ∧ _
  rw [sz]
  have en : IsEnum ((s.heap.push (tiO l)).push (enO s.heap.objs.size)) (s.heap.objs.size + 1) s.heap.objs.size 0 .none := by
    have q := Heap.get?_push_size (s.heap.push (tiO l)) (o := enO s.heap.objs.size) rfl
    rw [sz] at q
    exact q
  exact ⟨⟨_, en, rfl⟩, k _ en ⟨_, Heap.get?_push_of_some _ (Heap.get?_push_size _ rfl), rfl, rfl⟩ fun b o q => Heap.get?_push_of_some _ (Heap.get?_push_of_some _ q)⟩
/-- the tuple at a, each item in a new pair with its place -/
def IteT (K : PySem.W.Frag) (a : Addr) : It :=
  ⟨fun i H => ∃ (xs : List V) (x : V), SqT K H a xs ∧ xs[i]? = some x, fun i H v H' => ∃ T x, v = .ref T ∧ H T = none ∧ H' = upd H T (.tup [.int (i : Nat), x]) ∧ ∀ xs, SqT K H a xs → xs[i]? = some x, fun i H => ∃ xs : List V, SqT K H a xs ∧ xs.length = i⟩
theorem turn_enumT {P : Program} {w : World} {K : PySem.W.Frag} {elts : List Expr} {kk : Nat} {tpos : Pos} (a e it : Addr) :
    Turn P w K (.Tuple elts kk tpos) (IteT K a) [e, it] e (fun i h => (∃ old, IsEnum h e it ((i : Nat) : Int) old) ∧ h.IsTupleIter it a i) where
  mem := by simp
  obj := fun i h ⟨⟨old, he⟩, o, ho, hc, hd⟩ b hb => by
    have z : b = e ∨ b = it := by simpa using hb
    rcases z with rfl | rfl
    · exact ⟨_, he, fun v q => nomatch q⟩
    · exact ⟨o, ho, fun v q => by rw [hd] at q; cases q⟩
  keep := fun i h h' ⟨⟨old, he⟩, ti⟩ k => ⟨⟨old, k e (by simp) _ he⟩, ti.at fun o q => k it (by simp) o q⟩
  item := by
    rintro X rfl rfl rfl calm i pins s σ H E inv fp ⟨⟨old, he⟩, ti⟩ ⟨xs, x, sq, hx⟩
    obtain ⟨its, rv, tp, _⟩ := inv.tuple sq
    obtain ⟨u, hu, ru⟩ := rv.get hx
    have tp' : s.heap.IsTuple a its.toArray := tp
    have le : e < s.heap.objs.size := Heap.lt_size he
    have li : it < s.heap.objs.size := by obtain ⟨_, q, _⟩ := ti; exact Heap.lt_size q
    have ea : e ≠ a := fun z => by
      obtain ⟨o, ho, hc, _⟩ := tp'
      rw [← z, he] at ho
      cases ho
      injection hc with q
      exact absurd q (by decide)
    have ai : a ≠ it := fun z => by
      obtain ⟨o, ho, hc, _⟩ := tp'
      obtain ⟨o', ho', hc', _⟩ := ti
      rw [z, ho'] at ho
      cases ho
      rw [hc'] at hc
      injection hc with q
      exact absurd q (by decide)
    have ei : e ≠ it := fun z => by
      obtain ⟨o', ho', hc', _⟩ := ti
      rw [← z, he] at ho'
      cases ho'
      injection hc' with q
      exact absurd q (by decide)
    have hi : i < its.toArray.size := by
      have := (List.getElem?_eq_some_iff.mp hu).1
      simpa using this
    refine wpAny_pyNext_enum_itemD (Draws.tuple (A := X.A.in1) (inv.ok.hd calm) it a ai its.toArray) he ⟨ti, tp'⟩ hi ei (by simp [ei, ea]) fun y h1 tk py eo st hT _ kp => ?_
    have eu : y = u := by
      have q : its[i]? = some y := by simpa using py
      rw [hu] at q
      exact (Option.some.inj q).symm
    subst eu
    refine ⟨_, rfl, wpAny_letOwnedTupleGo_enum (s := { s with heap := h1, toks := tk + 1 }) eo fun h2 he2 sb => ?_⟩
    have hT2 : h2.get? s.heap.objs.size = some { cls := .type "tuple", data := .seq #[.int i tk, y] } := (sb.2 _ (Nat.ne_of_gt le)).trans hT
    have new : ObjOk X.prog X.w (upd H s.heap.objs.size (.tup [.int (i : Nat), x])) h2 s.heap.objs.size (.tup [.int (i : Nat), x]) :=
      ⟨by show 2 ≤ sizeLine; decide, [.int i tk, y], .cons ⟨_, rfl⟩ (.cons ru .nil), ⟨_, hT2, rfl, _, rfl⟩⟩
    have inv1 : Inv X pins σ (upd H s.heap.objs.size (.tup [.int (i : Nat), x])) { s with heap := h2, toks := tk + 1 } :=
      inv.turnedNew (ch := [e, it]) (fun b ob hb q => (sb.2 b (fun z => hb (by simp [z]))).trans (kp b ob (fun z => hb (by simp [z])) (fun z => hb (by simp [z])) q)) fp (Nat.le_refl _) new
    refine ⟨.ref s.heap.objs.size, _, inv1, rfl, ⟨_, x, rfl, inv.hok.fresh (Nat.le_refl _), rfl, fun ys hy => by rw [inv.tuple_inj hy sq]; exact hx⟩, ⟨⟨y, ?_⟩, st.1.at fun o q => (sb.2 it (Ne.symm ei)).trans q⟩, fun b hb => ?_⟩
    · rw [show ((i + 1 : Nat) : Int) = (i : Int) + 1 by omega]
      exact he2
    · have lb : b < s.heap.objs.size := by
        have z : b = e ∨ b = it := by simpa using hb
        rcases z with rfl | rfl
        · exact le
        · exact li
      rw [upd_ne (Nat.ne_of_lt lb)]
      exact (fp b hb).1
  done := by
    rintro X rfl rfl rfl calm i pins s σ H E inv fp ⟨⟨old, he⟩, ti⟩ ⟨xs, sq, hx⟩
    obtain ⟨its, rv, tp, _⟩ := inv.tuple sq
    obtain ⟨f0, f1, f2, f3, f4, f5⟩ := fp it (by simp)
    have tp' : s.heap.IsTuple a its.toArray := tp
    have ai : a ≠ it := fun z => by
      obtain ⟨o, ho, hc, _⟩ := tp'
      obtain ⟨o', ho', hc', _⟩ := ti
      rw [z, ho'] at ho
      cases ho
      rw [hc'] at hc
      injection hc with q
      exact absurd q (by decide)
    have sz : its.toArray.size = i := by
      have := rv.length
      simp
      omega
    refine wpAny_pyNext_enum_endD (n := its.toArray.size) (Draws.tuple (A := X.A.in1) (inv.ok.hd calm) it a ai its.toArray) he ⟨by rw [sz]; exact ti, tp'⟩ fun h1 eb => ⟨rfl, inv.turned (t' := s.toks) (fun b o hb q => eb b o hb q) f0 f1 f3 f4 f5⟩
  self := fun A i s Q E ⟨⟨_, he⟩, _⟩ h => wpAny_pyIter_enum he h
def iEnumT (K : PySem.W.Frag) (ta : TA) : TI := fun σ H R => ta σ H fun vs H1 => ∃ a xs, vs = [.ref a] ∧ SqT K H1 a xs ∧ R (IteT K a) H1
theorem pi_enumT {X : Cx} {e : Expr} {ta : TA} {p pos tpos : Pos} {elts : List Expr} {kk : Nat} (isG : Gl X "enumerate") (atG : X.mg "enumerate" = none) (ha : PA X [e] ta) (hs : starEach [e] X.env = [(false, eval e X.env)] := by rfl) :
    PI X (.Tuple elts kk tpos) (.Call (.Name "enumerate" p) [e] [] pos) (iEnumT X.K ta) := by
  refine ⟨fun pins s σ H R inv h => Call_ (ld_blt inv isG atG boot_enumerate (callWith_type1 (thn (ha.run pos pins s σ H _ inv h) fun us s1 ⟨vs, H1, I1, r1, q1⟩ => ?_) hs rfl))⟩
  obtain ⟨a, xs, rfl, sq, q⟩ := q1
  cases r1 with
  | cons r rr =>
    cases rr
    cases r
    obtain ⟨its, rv, tp, _⟩ := I1.tuple sq
    refine enum_callT tp fun g he ti kp => wpAny_pyIter_enum he ?_
    refine ⟨s1.heap.objs.size + 1, [s1.heap.objs.size + 1, s1.heap.objs.size], _, _, H1, rfl, I1.kept (t' := s1.toks) kp, turn_enumT a (s1.heap.objs.size + 1) s1.heap.objs.size, ⟨⟨.none, he⟩, ti⟩, fun b hb => ?_, q⟩
    have le : s1.heap.objs.size ≤ b := by
      have z : b = s1.heap.objs.size + 1 ∨ b = s1.heap.objs.size := by simpa using hb
      rcases z with rfl | rfl
      · exact Nat.le_succ _
      · exact Nat.le_refl _
    exact I1.fpOk le (I1.hok.fresh le)
/-- a for over enumerate of a tuple, by what holds between two turns -/
theorem for_enumT {K : PySem.W.Frag} {a : Addr} {xs : List V} {g : TG} {tb : TS} {D : Ends} {σ : L2.St} {H : Hp} (Pv : Nat → L2.St → Hp → Prop) (h0 : Pv 0 σ H) (there : ∀ i σ H, Pv i σ H → SqT K H a xs)
    (turn : ∀ (i : Nat) (x : V) (T : Addr) (σ : L2.St) (H : Hp), xs[i]? = some x → Pv i σ H → H T = none → g (.ref T) σ (upd H T (.tup [.int (i : Nat), x])) fun σ2 H2 => tb { D with nx := Pv (i + 1), ct := Pv (i + 1), bk := D.nx } σ2 H2)
    (fin : ∀ σ H, Pv xs.length σ H → D.nx σ H) :
    ∃ W : Nat → Nat → L2.St → Hp → Prop, (∃ m, W 0 m σ H) ∧ ∀ i m σ H, W i m σ H →
      ((IteT K a).stop i H ∧ D.nx σ H) ∨ ((IteT K a).go i H ∧ ∃ N : L2.St → Hp → Prop, (∀ σ' H', N σ' H' → ∃ m', m' < m ∧ W (i + 1) m' σ' H') ∧ ∀ x H', (IteT K a).yld i H x H' → g x σ H' fun σ2 H2 => tb { D with nx := N, ct := N, bk := D.nx } σ2 H2) := by
  refine ⟨fun i m σ H => m + i = xs.length ∧ Pv i σ H, ⟨xs.length, rfl, h0⟩, ?_⟩
  rintro i m σ H ⟨em, p⟩
  have sq := there i σ H p
  by_cases lt : i < xs.length
  · refine .inr ⟨⟨xs, xs[i], sq, List.getElem?_eq_getElem lt⟩, Pv (i + 1), fun σ' H' p' => ⟨m - 1, by omega, by omega, p'⟩, ?_⟩
    rintro v H' ⟨T, x, rfl, nT, rfl, ex⟩
    exact turn i x T σ H (ex xs sq) p nT
  · have e : i = xs.length := by omega
    subst e
    exact .inl ⟨⟨xs, sq, rfl⟩, fin σ H p⟩
end VQ
namespace VQ
open PySem L2 LamX
section
variable {K : PySem.W.Frag}
/-! ### tuples put together, cut -/
theorem rd_cat {H : Hp} {a b : Addr} {xs ys : List V} {Q : VK} (ha : H a = some (.tup xs)) (hb : H b = some (.tup ys)) (hl : xs.length + ys.length ≤ 1000)
    (k : ∀ (p : Addr) (H' : Hp), Same H H' → H' p = some (.tup (xs ++ ys)) → Q (.ref p) H') : rCatA K (.ref a) (.ref b) H Q := by
  refine ⟨a, b, xs, ys, rfl, rfl, SqT.of ha, SqT.of hb, Nat.le_trans hl (by decide), fun e => ?_, fun _ e => ?_, fun _ _ p hp => k p _ (same_new hp) upd_same⟩
  · subst e
    exact k b H (Same.refl H) hb
  · subst e
    exact k a H (Same.refl H) (by rw [List.append_nil]; exact ha)
theorem rd_cut {H : Hp} {a : Addr} {xs : List V} {lo hi : Option Int} {Q : VK} (ha : H a = some (.tup xs)) (k : ∀ (p : Addr) (H' : Hp), Same H H' → H' p = some (.tup (cutV xs lo hi)) → Q (.ref p) H') : rSlA K (.ref a) lo hi H Q := by
  refine ⟨a, xs, rfl, SqT.of ha, fun e => k a H (Same.refl H) ?_, fun _ p hp => k p _ (same_new hp) upd_same⟩
  have q : cutV xs lo hi = xs := by
    unfold cutV
    rw [e.1, e.2, List.drop_zero, Nat.sub_zero, List.take_length]
  rw [q]
  exact ha
theorem cut_upto (xs : List V) {k : Nat} (h : k ≤ xs.length) : cutV xs none (some (k : Int)) = xs.take k := by
  unfold cutV
  rw [HT.sIx_nat, HT.sIx_none, Nat.min_eq_left h, List.drop_zero, Nat.sub_zero]
theorem cut_behind (xs : List V) {k : Nat} (h : k ≤ xs.length) : cutV xs (some (k : Int)) none = xs.drop k := by
  unfold cutV
  rw [HT.sIx_nat, HT.sIx_none, Nat.min_eq_left h]
  exact List.take_of_length_le (by rw [List.length_drop]; omega)
end
end VQ
namespace VQ
open PySem PySem.Spec PyProof.Rows L2 LamX
/-! ### a tuple times nought -/
abbrev noneO : Obj := { cls := .type "tuple", data := .seq #[] }
theorem nought_mul (l : Addr) (its : Array Value) (n : Nat) (dd : Option Addr) (sl : Array (Option Value)) (u : Tok) (ne : its.isEmpty = false) :
    Meets (Builtin.«tuple.__mul__» ⟨[.ref l, .int 0 u], []⟩) (fun _ R s => s.heap.get? l = some ⟨.type "tuple", dd, .seq its n, sl⟩ ∧ R (.ok (.ret (.ref s.heap.objs.size))) { s with heap := s.heap.push noneO }) :=
  .of_wp fun prog w A R s h => by
    obtain ⟨hp, g, d, tk, os⟩ := s
    obtain ⟨hl, h⟩ := h
    have f1 := AutoSeq1.idx_int
    have c1 : (its.isEmpty || ((0 : Int) == 1)) = false := by rw [ne]; rfl
    wp_walk using wpAny_loadPart' hl
    repeat (first
      | (refine wpAny_ite_false (decide_eq_false (by rw [c1]; exact Bool.false_ne_true)) ?_; wp_walk using wpAny_loadPart' hl))
    exact ⟨_, rfl, h⟩
def rTimes0 (K : PySem.W.Frag) : R2 := fun x y H Q => ∃ (l : Addr) (k : Int) (xs : List V), x = .ref l ∧ y = .int k ∧ SqT K H l xs ∧ xs ≠ [] ∧ 0 ≤ k ∧ k ≤ 1000 ∧ xs.length ≤ 1000 ∧
  (k = 1 → Q (.ref l) H) ∧ (k ≠ 1 → ∀ p, H p = none → Q (.ref p) (upd H p (.tup (List.replicate k.toNat xs).flatten)))
theorem op_times0 {X : Cx} : OpR X (binaryOp .Mult) (rTimes0 X.K) := by
  intro pins s σ H x y v u Q I rx ry h
  obtain ⟨l, k, xs, rfl, rfl, sq, ne, k1, k2, hz, q1, q2⟩ := h
  by_cases e : k = 0
  · subst e
    cases rx
    obtain ⟨t, rfl⟩ := ry
    obtain ⟨its, r, ⟨⟨cls, dd, data, sl⟩, ho, hc, n, hd⟩, hs⟩ := I.tuple sq
    simp only at hc hd
    subst hc hd
    have ni : its.toArray.isEmpty = false := by
      cases its with
      | nil => exact absurd (List.eq_nil_of_length_eq_zero r.length) ne
      | cons a b => rfl
    refine wpAny_binaryOp_repeat_ref (T := "tuple") (U := "int") (by decide) ⟨_, ho, rfl⟩ (fun s' => typeIs_int s' 0 t) noFill_tuple_mul F.fills_int_mul F.slot_int_rmul repeat_tuple F.slot_int_index.lookup
      (call_meets F.slot_int_rmul (typeIs_int s 0 t) F.entry_int_rmul (F.args_int_rmul_2 _ _) (int_rmul_tuple 0 t l its.toArray n dd sl)
        ⟨ho, rfl, ⟨_, ho, rfl⟩, call_meets F.slot_tuple_mul ⟨_, ho, rfl⟩ F.entry_tuple_mul (F.args_tuple_mul_2 _ _) (nought_mul l its.toArray n dd sl t ni) ⟨ho, ?_⟩⟩)
    have q : Q (.ref s.heap.objs.size) (upd H s.heap.objs.size (.tup [])) := q2 (by decide) _ (I.hok.fresh (Nat.le_refl _))
    exact ⟨.ref s.heap.objs.size, _, I.laid (t' := s.toks) (o := .tup []) (fun b ob z => Heap.get?_push_of_some _ z) (Nat.le_refl _) ⟨Nat.zero_le _, [], .nil, IsTup.new _ _⟩, rfl, q⟩
  · exact op_times pins s σ H _ _ v u Q I rx ry ⟨l, k, xs, rfl, rfl, sq, ne, by omega, k2, hz, q1, q2⟩
end VQ
namespace VQ
open PySem PySem.Spec PyProof.Rows L2
/-! ### set(xs) of a list of numbers -/
/-- a set as it is made, without members -/
abbrev bareSet (w : World) : Obj := { cls := .type "set", dict := none, data := .set #[] 0 (.fresh 0 0 (!w.params.followText "set-order")) }
/-- what stands when the list is gone through -/
abbrev SetDone (w : World) (s : Shared) (ns : List Int) (s2 : Shared) : Prop := ∃ g tk c, s2 = { s with heap := g, toks := tk } ∧ SetR w g s.heap.objs.size (fun j => decide (j ∈ ns)) c ∧ c ≤ ns.length ∧ ∀ b o, s.heap.get? b = some o → g.get? b = some o
section
variable {P : Program} {w : World} {A : Around} {E : Value → Shared → Prop} {s : Shared}
theorem set_filled {l : Addr} {its : Array Value} {ns : List Int} {Z : PySem.Fin → Shared → Prop} (calm : A.handled = none) (isl : s.heap.IsList l its) (are : IntsAre its.toList ns) (few : ns.length + 1 < scanBound)
    (fin : ∀ s2, SetDone w s ns s2 → Z (.done (.ret .none)) s2) :
    wpAny (model P w) A.in1 (Builtin.«set.__init__» ⟨[.ref s.heap.objs.size, .ref l], []⟩) Z E { s with heap := s.heap.push (bareSet w) } := by
  obtain ⟨⟨oc, od, ot, os'⟩, at_l, e1, nl, e2⟩ := isl
  dsimp only at e1 e2
  subst e1 e2
  have cnt : its.size = ns.length := (Array.length_toList).symm.trans (IntsAre.length are)
  have here : (s.heap.push (bareSet w)).get? s.heap.objs.size = some (bareSet w) := Heap.get?_push_size _ rfl
  have tyS : Shared.TypeIs { s with heap := s.heap.push (bareSet w) } (.ref s.heap.objs.size) "set" := ⟨_, here, rfl⟩
  have at_l' := Heap.get?_push_of_some (bareSet w) at_l
  have isl' : (s.heap.push (bareSet w)).IsList l its := ⟨_, at_l', rfl, nl, rfl⟩
  have n1 := F.sub_list_set
  have n2 := F.sub_list_frozenset
  have n3 : (Value.type "list" == Value.type "dict") = false := by decide
  unfold Builtin.«set.__init__» noKeywords Builtin.Frozenset.updateFrom
  generalize itE : pyIter = it
  wp_walk
  subst itE
  refine wpAny_pyIter_list isl' ?_
  refine wpAny_bind (wpAny_runValue ?_)
  have lt_l : l < s.heap.objs.size := Heap.lt_size at_l
  have calm3 : A.in1.in1.handled = none := by simp [calm]
  have size1 : (s.heap.push (bareSet w)).objs.size = s.heap.objs.size + 1 := Heap.size_push ..
  have ne_l : l ≠ (s.heap.push (bareSet w)).objs.size := by
    rw [size1]
    exact Nat.ne_of_lt (Nat.lt_succ_of_lt lt_l)
  have out : s.heap.objs.size ∉ [(s.heap.push (bareSet w)).objs.size, l] := fun m => by
    rcases List.mem_cons.mp m with q | q
    · rw [size1] at q
      exact Nat.ne_of_lt (Nat.lt_succ_self _) q
    · exact Nat.ne_of_gt lt_l (List.mem_singleton.mp q)
  have vals : ∀ (i : Nat) (v : Value), its[i]? = some v → ∃ k t, ns[i]? = some k ∧ v = .int k t := fun i v hv => by
    have hi : i < ns.length := by
      rw [← cnt]
      exact (Array.getElem?_eq_some_iff.mp hv).1
    obtain ⟨t, ht⟩ := are.get i _ (List.getElem?_eq_getElem hi)
    rw [Array.getElem?_toList, hv] at ht
    exact ⟨_, t, List.getElem?_eq_getElem hi, Option.some.inj ht⟩
  refine set_update_ints ((Walks.list calm3 _ l ne_l its).toS) s.heap.objs.size out ns cnt few vals (its.size - 0) 0 _ (by omega) (Nat.zero_le _) ?walk
    ⟨0, Nat.le_refl 0, ?fresh⟩ fun s2 c mv hc R => ?_
  case walk => exact ⟨⟨_, Heap.get?_push_size _ rfl, rfl, rfl⟩, isl'.push _⟩
  case fresh => exact setR_new_at (w := w) (Heap.get?_push_of_some _ here)
  obtain ⟨g, ge, dr, tk, os2⟩ := s2
  have q1 : ge = s.gens := mv.gens
  have q2 : dr = s.drawn := mv.drawn
  have q3 : os2 = s.os := mv.os
  subst q1 q2 q3
  show wpAny _ _ _ _ _ _
  refine wpAny_pure ?_
  show wpAny _ _ (ret Value.none) _ _ _
  refine wpAny_pure (fin _ ⟨g, tk, c, rfl, R, by omega, fun b o z => mv.heap b o (fun m => ?_) (Heap.get?_push_of_some _ (Heap.get?_push_of_some _ z))⟩)
  have lb := Heap.lt_size z
  rcases List.mem_cons.mp m with q | q
  · exact Nat.ne_of_lt lb q
  · have q := List.mem_singleton.mp q
    rw [size1] at q
    exact Nat.ne_of_lt (Nat.lt_succ_of_lt lb) q
theorem set_call {l : Addr} {its : Array Value} {ns : List Int} {Q : Value → Shared → Prop} (calm : A.handled = none) (isl : s.heap.IsList l its) (are : IntsAre its.toList ns) (few : ns.length + 1 < scanBound)
    (fin : ∀ s2, SetDone w s ns s2 → Q (.ref s.heap.objs.size) s2) : wpAny (model P w) A (call (.type "set") [.ref l]) Q E s := by
  obtain ⟨c0, tl, mro⟩ := F.called_set.mro
  have made := F.called_set.made
  have subt := F.called_set.sub
  have nty := F.called_set.notType
  have canc := F.called_set.canCreate
  have tyc := F.typeCall_set_1 (.ref l)
  have here : (s.heap.push (bareSet w)).get? s.heap.objs.size = some (bareSet w) := Heap.get?_push_size _ rfl
  have tyS : Shared.TypeIs { s with heap := s.heap.push (bareSet w) } (.ref s.heap.objs.size) "set" := ⟨_, here, rfl⟩
  have ini := F.called_set.init.lookup
  have inb := F.called_set.init.bind (.ref s.heap.objs.size)
  refine wpAny_call (codeAny_of_tree ?_)
  show wpAny _ _ (callAny (.type "set") _) _ _ _
  refine wpAny_pure ⟨Code.quiet_builtin _ (by decide +kernel), ?go⟩
  case go =>
  refine codeAny_builtin F.entry_type_call ?_
  rw [Around.under_plain (weight_type_call_type "set" [.ref l] []) rfl]
  repeat (any_goals (first | assumption | wp_step))
  refine codeAny_mono (code_set_led1 (w := w) (.ref l) (E := E) (Q₁ := fun v t => v = .ref s.heap.objs.size ∧ t = { s with heap := s.heap.push (bareSet w) }) ⟨rfl, rfl⟩) fun r t z => ?_
  match r, z with
  | .error e, z => exact z
  | .ok (.ret v), z =>
    obtain ⟨rfl, rfl⟩ := z
    repeat (any_goals (first | assumption | wp_step))
    refine codeAny_mono (codeAny_call_builtin (R := wants (fun v t => v = .none ∧ SetDone w s ns t) E) F.called_set.init.plain F.entry_set_init (check_set_init_1 tyS (set_filled (A := A.in1) (by simp [calm]) isl are few fun s2 d => ⟨rfl, d⟩))) fun r t z => ?_
    match r, z with
    | .error e, z => exact z
    | .ok (.ret v), z =>
      obtain ⟨rfl, d⟩ := z
      obtain ⟨g, tk, c, rfl, d'⟩ := id d
      repeat (any_goals (first | assumption | wp_step))
      exact fin _ d
end
/-- set(xs), xs a list of numbers -/
def rSetI (K : PySem.W.Frag) (w : World) : List V → Hp → VK → Prop := fun xs H Q => ∃ (l : Addr) (ns : List Int), xs = [V.ref l] ∧ SqL K H l (ns.map V.int) ∧ ns.length < 1000 ∧
  ∀ (a : Addr) (c : Nat), H a = none → c ≤ ns.length → Q (.ref a) (upd H a (SetO w a (fun j => decide (j ∈ ns)) c))
theorem cr_setI {X : Cx} (hc : X.calm = true) : CallR X (.type "set") (rSetI X.K X.w) := by
  intro pins s σ H xs us Q I r h
  obtain ⟨l, ns, rfl, hl, few, q⟩ := h
  rw [Vals.ref1 r]
  obtain ⟨its, rv, pl, hz⟩ := I.list hl
  have hn : H s.heap.objs.size = none := I.hok.fresh (Nat.le_refl _)
  refine set_call (P := X.prog) (w := X.w) (I.ok.hd hc) pl.isList (by simpa using ints_of_vals rv) (Nat.lt_of_lt_of_le (show ns.length + 1 < 1001 by omega) (by decide)) fun s2 d => ?_
  obtain ⟨g, tk, c, rfl, R, lc, k⟩ := d
  exact ⟨.ref s.heap.objs.size, _, I.laid (t' := tk) k (Nat.le_refl _) (setO_new R), rfl, q _ c hn lc⟩
end VQ
namespace VQ
open PySem PyProof.Rows L2 LamX
/-! ### x2(lambda: body), x2 calls what it got -/
theorem pe_tried {X : Cx} {x2 y2 : Str} {g2 : Addr} {cd2 : Value} {N2 : List Str} {sg2 : Scope} {bg2 : List Stmt} {TT : (XK → Hp → VK → Prop) → Hp → VK → Prop} {T : List (Addr × Str)} {k : Nat} {params : Arguments} {body : Expr} {scope : Scope} {t : XK → TE} {p lpos pos : Pos} (isG : Gl X x2)
    (D2 : One X.K X.mg x2 g2 cd2 N2 y2 sg2 bg2) (gives : Gives2 X.prog X.w X.K X.mg X.base N2 x2 sg2 g2 cd2 bg2 y2 (X.env.qual ++ "<lambda>") TT) (mk : LamMk X T params body scope lpos) (room : Room (k + 2) X.A) (bd : ∀ f c' E, LamBody X scope body k f c' E (t E)) :
    PE X (.Call (.Name x2 p) [.Lambda params body scope lpos] [] pos) (tLam T TT t) := by
  refine ⟨fun pins st sl H Q inv ⟨tabs, want⟩ => ?_⟩
  refine wpAny_Call_Name_kw (ld_glob inv isG D2.at_ (PySem.W.callWith_K (h₀ := X.base) inv.ok.mod.kin D2.kp ?_ (by rfl) (by rfl)) D2.n1)
  refine Calls.spliced_cons (rest := backTo pos (starEach [] X.env)) (mk inv tabs fun f c' H1 s1 inv1 LA ext tabs1 co => ?_)
  refine Calls.spliced_nil ⟨inv1.kIn, ?_⟩
  obtain ⟨oc, od, pa, dV, kV, doc, pm1, an, ct, osl, lk, bnd⟩ := D2.ex
  have run : codeAny (model X.prog X.w) X.A (.call (.ref g2) ⟨[.ref f], []⟩) (CR C8.CX0 X.stack X.prog X.w H1 s1 Q C8.E0) s1 :=
    run_ofS (N := N2) (ps := [y2]) (us := [.ref f]) (vs := [.ref f]) lk D2.code D2.sc room inv1.env0 (bnd s1 [.ref f] inv1.kIn rfl) (.cons rfl .nil) rfl fun room2 => by
      obtain ⟨tt, d1, d2⟩ := gives X.A X.stack f c' s1 H1 Q (fun E H2 Q2 => t E sl H2 Q2)
        (fun W pn xe E p1 p2 tk hW => pe_actG (i := 0) LA (bd f c' E) Un.refl (fun b m => .inl m) tk hW room2 D2.slot D2.vis D2.n2 D2.n3) co (want H1 ext tabs1)
      exact ⟨tt, d1.nox, d2⟩
  refine wpAny_call (codeAny_mono run ?_)
  rintro (er | (_ | _ | _ | u)) s3 z
  · exact (show False from z).elim
  · exact z.elim
  · exact z.elim
  · exact z.elim
  · exact inv1.after z
end VQ
namespace VQ
open PySem PyProof.Rows L2
/-! ### a comprehension out of whose element an exception may fly -/
theorem note_frame {x : Value} {env env' : Env} (h : env'.frame = env.frame) : noteFrame x env' = noteFrame x env := by
  unfold noteFrame PySem.frameOf
  rw [h]
/-- as compPost, but that the frame which the exception is handed on from is told -/
def cPost (M : Model) (A : Around) (E : Value → Shared → Prop) (use : Option (Value → Sem Unit)) (Q : Value → Shared → Prop) (acc : Value) (C : Addr) (fr : Option Addr) (r : Result) (s' : Shared) : Prop :=
  match r with
  | .ok f => compPost M A E use Q acc C (.ok f) s'
  | .error x => ∃ m, s'.heap.Ns C m ∧ ∀ h', Heap.SameBut C s'.heap h' → ∀ ev : Env, ev.frame = fr → wpAny M A (passOn "comprehension.variables-let-go" x ev : Sem Value) (fun _ _ => False) E { s' with heap := h' }
theorem comp_freeX {M : Model} {A : Around} {E : Value → Shared → Prop} {s : Shared} {env : Env} {e : Expr} {scope : Scope} {pos : Pos} {newAcc first : Sem Value} {g : Comprehension} {gs : List Comprehension} {cl : List (Str × Addr)} {use : Option (Value → Sem Unit)} {Q : Value → Shared → Prop}
    (clauses : clausesOf e = g :: gs) (folded : ∀ x, foldedSetIterable g.iter env x = pure x) (closes : closureFor scope env = pure cl) (kind : scope.kind = .function) (locals : ∀ x ∈ scope.names, x.2 = .local → scope.names.lookup x.1 = some .local)
    (h : wpAny M A first (fun x t1 => wpAny M A (pyIter x) (fun it t2 => wpAny M A newAcc (fun acc t3 => wpAny M A (newFunctionEnv scope env.globals cl [] env.qual none .none (some env)) (fun ev t4 =>
        codeAny M A (.compStart e 0 it acc { ev with scope := relabel scope env }) (cPost M A E use Q acc ev.locals ev.frame) t4) E t3) E t2) E t1) E s) : wpAny M A (comprehension e scope env pos newAcc false first use) Q E s := by
  unfold comprehension
  rw [closes, clauses]
  refine wpAny_bind (wpAny_mono h (fun x t1 g1 => wpAny_bind (wpAny_standAt (wpAny_bind (wpAny_of_eq (folded x) (wpAny_bind (wpAny_holding (wpAny_mono g1 (fun it t2 g2 =>
    wpAny_standIf (wpAny_bind (wpAny_mono g2 (fun acc t3 g3 => wpAny_bind (wpAny_pure (wpAny_bind (wpAny_mono g3 (fun ev t4 g4 => ?_) fun _ _ y => y)))) fun _ _ y => y))) fun _ _ y => y))))))) fun _ _ y => y)
  dsimp only
  have own : ∀ x ∈ (scope.names.filter fun x => (x.2 == .local || x.2 == .cell) && x.1 != (".0" : Str)).reverse, x.2 = .local → Env.kindOf { ev with scope := relabel scope env } x.1 = some .local := fun x m l => lookup_relabel_local (locals x (List.mem_filter.mp (List.mem_reverse.mp m)).1 l)
  have own2 : ∀ x ∈ (scope.names.filter fun x => (x.2 == .local || x.2 == .cell) && x.1 != (".0" : Str)).reverse.drop 1 ++ (scope.names.filter fun x => (x.2 == .local || x.2 == .cell) && x.1 != (".0" : Str)).reverse.take 1, x.2 = .local → Env.kindOf { ev with scope := relabel scope env } x.1 = some .local := fun x m l => by
    rcases List.mem_append.mp m with m | m
    · exact own x (List.mem_of_mem_drop m) l
    · exact own x (List.mem_of_mem_take m) l
  refine wpAny_holding (wpAny_bind (wpAny_attempt (wpAny_holding (wpAny_run (codeAny_mono g4 fun r t5 g5 => ?_)))))
  cases r with
  | ok f =>
    cases use with
    | none =>
      obtain ⟨m, ns, g6⟩ := g5
      exact wpAny_bind (wpAny_holding (wpAny_comp_letGo (cenv := { ev with scope := relabel scope env }) kind _ t5 m own ns fun k _ _ sb => wpAny_pure (g6 k sb)))
    | some u =>
      refine wpAny_bind (wpAny_rule (wpAny_bind (wpAny_holding (wpAny_mono g5 (fun _ t6 g6 => ?_) fun _ _ y => y))))
      obtain ⟨m, ns, g7⟩ := g6
      exact wpAny_bind (wpAny_comp_letGo (cenv := { ev with scope := relabel scope env }) kind _ t6 m own2 ns fun k _ _ sb => wpAny_pure (g7 k sb))
  | error x =>
    obtain ⟨m, ns, g6⟩ := g5
    exact wpAny_bind (wpAny_holding (wpAny_comp_letGo (cenv := { ev with scope := relabel scope env }) kind _ t5 m own ns fun k _ _ sb => wpAny_mono (g6 k sb _ rfl) (fun _ _ z => z.elim) fun _ _ y => y))
theorem frames_on {h h' B B' : Heap} (k : ∀ L o, B.get? L = none → h.get? L = some o → h'.get? L = some o ∧ B'.get? L = none) : ∀ {l : List Env}, h.FunFrames B l → h'.FunFrames B' l
  | [], _ => trivial
  | _ :: _, ⟨a1, ⟨L, o, a2, a3, a4, a5⟩, a6⟩ => ⟨a1, ⟨L, o, a2, (k L o a3 a4).2, (k L o a3 a4).1, a5⟩, frames_on k a6⟩
/-- the exception of a call within the block, led to the def's own air -/
theorem comp_air {X : Cx} {pins : List (Addr × Obj)} {σ : L2.St} {H3 H9 H' : Hp} {s3 s9 s10 : Shared} {ce : Env} {fp : List Addr} {C a : Addr} {B : Heap} {cls : Value} {d : Option Addr} {W : WX} {use : Option (Value → Sem Unit)} {Qf : Value → Shared → Prop} {acc : Value} {m9 : Str → Option Value}
    (two : X.stack = X.env :: X.outer) (fr : X.env.frame = some X.env.locals) (tk : Takes X W) (eF : ce.frame = X.env.frame) (I3 : Inv X pins σ H3 s3) (newC : s3.heap.get? C = none) (okC : FpOk X pins H9 C) (okF : ∀ b ∈ fp, FpOk X pins H3 b)
    (un : Un (frs X.stack) fp H3 H9 s3.heap s9.heap) (os9 : s9.os = s3.os) (ns9 : s9.heap.Ns C m9) (fl : HandSPX.FlyingZ B X.stack a (Zc cls d) s10.heap) (hok : HOk X.prog X.w H' B) (ub : UB (frs X.stack) H9 H' s9.heap B s10.heap) (na : H' a = none) (os10 : s10.os = s9.os) (ag : AllBare s10.gens)
    (w : W cls d σ H') : notedBy (model X.prog X.w) X.A ce (fun e s' => cPost (model X.prog X.w) X.A X.xe use Qf acc C ce.frame (.error e) s') (.ref a) s10 := by
  have frames : X.A.frames = some (X.env :: X.outer) := by rw [I3.ok.frames, two]
  obtain ⟨oC, es, ep, atC, dC, keysC, findC⟩ := ns9
  have offC : C ∉ frs X.stack := fun z => by
    rcases List.mem_cons.mp (I3.stkSub C z) with q | q
    · exact okC.2.1 q
    · exact okC.2.2.1 q
  have inB : B.get? C = some oC := ub.keep C oC atC okC.1 offC
  have freeC : H' C = none := ub.free C oC atC okC.1
  unfold notedBy
  rw [note_frame eF]
  refine HandSPX.looks_onZ Zc.steady frames fr (two ▸ fl) fun h11 held up => ?_
  have at11 : h11.get? C = some oC := held.1 C oC inB
  refine ⟨m9, ⟨oC, es, ep, at11, dC, keysC, findC⟩, fun h12 sb ev efr => ?_⟩
  obtain ⟨B2, b1, b2⟩ := L2.restrict B fun b => decide (b ≠ C)
  have inB2 : ∀ b o, B2.get? b = some o → b ≠ C ∧ B.get? b = some o := fun b o e => by
    by_cases q : b = C
    · rw [b2 b (by simp [q])] at e
      cases e
    · rw [b1 b (by simp [q])] at e
      exact ⟨q, e⟩
  have toB2 : ∀ b o, b ≠ C → B.get? b = some o → B2.get? b = some o := fun b o q e => by
    rw [b1 b (by simp [q])]
    exact e
  have noB2 : ∀ b, B.get? b = none → B2.get? b = none := fun b e => by
    by_cases q : b = C
    · exact b2 b (by simp [q])
    · rw [b1 b (by simp [q])]
      exact e
  have stay2 : B2.StaysIn h12 := fun b o e => by
    obtain ⟨q, e⟩ := inB2 b o e
    exact (sb.2 b q).trans (held.1 b o e)
  have neC : ∀ (b : Addr) (o : Obj) (vs : Array Value), h11.get? b = some o → o.data = .fields vs → b ≠ C := fun b o vs e dd q => by
    rw [q, at11] at e
    cases e
    rw [dC] at dd
    cases dd
  obtain ⟨k1, k2, k3, oe, vs, T, oT, ts, t1, t2, t3, t4, t5, t6, t7, t8, t9⟩ := id held
  have aC := neC a oe vs t1 t3
  have TC := neC T oT ts t7 t8
  have e12 : h12.get? a = some oe := (sb.2 a aC).trans t1
  have held2 : HandSPX.HeldZ B2 (X.env :: X.outer) a (Zc cls d) X.env.locals h12 := by
    refine ⟨stay2, noB2 a k2, frames_on (fun L o e1 e2 => ⟨(sb.2 L fun q => by rw [q, inB] at e1; cases e1).trans e2, noB2 L e1⟩) k3, oe, vs, T, oT, ts, e12, t2, t3, t4, noB2 T t5, t6, (sb.2 T TC).trans t7, t8, t9⟩
  unfold PySem.passOn
  refine wpAny_bind (wpAny_field e12 t3 t4 ?_)
  have isRef : ¬ ((Value.ref T == Value.none) = true) := by simp
  rw [if_neg isRef, efr, eF, fr]
  refine wpAny_bind (HandSPX.setFlight_onZ held2 fun h13 held3 up3 => wpAny_throw (tk _ _ ?_))
  obtain ⟨G, g1, g2⟩ := L2.restrict h13 fun b => (B2.get? b).isSome || decide (b ∈ frs X.stack)
  have gB : ∀ b o, B2.get? b = some o → G.get? b = some o := fun b o e => by
    rw [g1 b (by simp [e])]
    exact held3.1 b o e
  have gF : ∀ b, b ∈ frs X.stack → G.get? b = h13.get? b := fun b hb => g1 b (by simp [hb])
  have gO : ∀ b o, G.get? b = some o → h13.get? b = some o ∧ ((B2.get? b).isSome = true ∨ b ∈ frs X.stack) := fun b o e => by
    cases q : ((B2.get? b).isSome || decide (b ∈ frs X.stack)) with
    | false =>
      rw [g2 b q] at e
      cases e
    | true =>
      rw [g1 b q] at e
      exact ⟨e, by simpa [Bool.or_eq_true] using q⟩
  have old : ∀ b o, s3.heap.get? b = some o → b ≠ C := fun b o e q => by
    rw [q, newC] at e
    cases e
  have hok2 : HOk X.prog X.w H' B2 := fun b o q => (hok b o q).stay (fun c u hc r => toB2 c u (fun z => by
    rcases hc with hc | hc
    · rw [← hc, z, freeC] at q
      cases q
    · rw [z, freeC] at hc
      cases hc) r) (fun _ r => r) fun _ _ r => r
  have slots : ∀ b o, s3.heap.get? b = some o → b ∈ frs X.stack → b ∉ fp → ∃ sl, G.get? b = some { o with slots := sl } := fun b o e hb hx => by
    obtain ⟨_, o', e', nf⟩ := I3.stack.mem hb
    rw [e] at e'
    cases e'
    obtain ⟨sl1, e1⟩ := un.slot b o e (I3.stkFree b hb) hb hx
    obtain ⟨sl2, e2⟩ := ub.slot b _ e1 hb
    obtain ⟨sl3, e3⟩ := up b _ e2 nf
    obtain ⟨sl4, e4⟩ := up3 b _ ((sb.2 b (old b o e)).trans e3) nf
    exact ⟨sl4, by rw [gF b hb]; exact e4⟩
  refine ⟨a, B2, { s3 with heap := G, gens := s10.gens, drawn := s10.drawn, toks := s10.toks }, pins, σ, H', cls, d, rfl, ?_, fun b o e hb => ?_, Heap.UpToSlots.of_keeps fun b o e => (gO b o e).1, .inr (.inr (two ▸ held3)), na, os10.trans os9, ag, w⟩
  · refine I3.call (ch := fp) ⟨fun b o e n hb hx => gB b o (toB2 b o (old b o e) (ub.keep b o (un.keep b o e n hb hx) (un.free b o e n hx) hb)), fun b o e n hb hx => slots b o e hb hx, fun b o e n hx => ?_, fun b o e hx => ?_, fun b xs e => ub.tups b xs (un.tups b xs e), fun b o u e => ub.frzs b o u (un.frzs b o u e), fun b ps e => ?_⟩ (hok2.kept gB) ag fun b hb => ?_
    · obtain ⟨o', e'⟩ := un.there b o e hx
      exact ub.free b o' e' (un.free b o e n hx)
    · by_cases hb : b ∈ frs X.stack
      · obtain ⟨sl, q⟩ := slots b o e hb hx
        exact ⟨_, q⟩
      · obtain ⟨o', e'⟩ := un.there b o e hx
        obtain ⟨o2, q⟩ := ub.there b o' e' hb
        exact ⟨o2, gB b o2 (toB2 b o2 (old b o e) q)⟩
    · obtain ⟨m1, e1⟩ := un.tbls b ps e
      obtain ⟨m2, e2⟩ := ub.tbls b _ e1
      rw [Array.append_assoc] at e2
      exact ⟨_, e2⟩
    · have z := okF b hb
      exact ⟨z.2.2.2.1, z.2.1, z.2.2.2.2.1, z.2.2.2.2.2⟩
  · obtain ⟨e', q⟩ := gO b o e
    rcases q with q | q
    · obtain ⟨o', q⟩ := Option.isSome_iff_exists.mp q
      have z := held3.1 b o' q
      rw [e'] at z
      cases z
      exact q
    · exact absurd q hb
theorem Inv.air {X : Cx} {pins : List (Addr × Obj)} {σ : L2.St} {H : Hp} {s : Shared} (xe : Value → Shared → Prop) (I : Inv X pins σ H s) : Inv { X with xe := xe } pins σ H s where
  ok := ⟨I.ok.mod, I.ok.kind, I.ok.glob, I.ok.blt, I.ok.above, I.ok.inj, I.ok.has, I.ok.cab, I.ok.hd, I.ok.frames, I.ok.stk, I.ok.exf, I.ok.bs, I.ok.bsz, I.ok.noex, I.ok.exfs, I.ok.funs, I.ok.frf⟩
  os := I.os
  bare := I.bare
  base := I.base
  loc := I.loc
  cell := I.cell
  free := I.free
  freeC := I.freeC
  pin := I.pin
  hok := I.hok
  len := I.len
/-- the element, wherever the block stands: what its calls let out is taken -/
abbrev EltX (X : Cx) (scope : Scope) (elt : Expr) (te : TE) (E : XK) : Prop := ∀ (s : Shared) (H : Hp) (C : Addr) (cl : List (Str × Addr)) (fp : List Addr) (xe : Value → Shared → Prop), Passes (L2.CX X.prog X.w) { X.blk s H scope (compEnvC scope cl C X.env) fp with xe := xe } E → PE { X.blk s H scope (compEnvC scope cl C X.env) fp with xe := xe } elt te
theorem lcX_core {X : Cx} {pins : List (Addr × Obj)} {s : Shared} {σ : L2.St} {H : Hp} {Q : VK} {elt tg iter : Expr} {ifs : List Expr} {scope : Scope} {own : List (Str × Nat)} {pos pos' : Pos} {wi : TI} {g : TG} {tt : TT} {te : TE} {use : Option (Value → Sem Unit)} {Qf : Value → Shared → Prop} {W : WX} {E : XK}
    (two : X.stack = X.env :: X.outer) (fr : X.env.frame = some X.env.locals) (tk : Takes X W) (wish : ∀ cls d H', E cls d H' → W cls d σ H') (calm : X.calm = true) (nd : X.N.Nodup) (inv : Inv X pins σ H s) (hi : PI X tg iter wi) (ok : BlkOk X.N X.env.scope scope own)
    (hg : ∀ (s : Shared) (H : Hp) (C : Addr) (cl : List (Str × Addr)) (fp : List Addr), PG (X.blk s H scope (compEnvC scope cl C X.env) fp) tg g) (ht : ∀ (s : Shared) (H : Hp) (C : Addr) (cl : List (Str × Addr)) (fp : List Addr), PTs (X.blk s H scope (compEnvC scope cl C X.env) fp) ifs tt)
    (he : EltX X scope elt te E) (folded : ∀ x, foldedSetIterable iter X.env x = pure x) (want : tLc wi g tt te (own.map (·.2)) σ H Q)
    (ends : ∀ D C s' m H', Inv X pins σ H' s' → Q (.ref D) H' → s'.heap.Ns C m → FpOk X pins H' C → compPost (model X.prog X.w) X.A X.xe use Qf (.ref D) C (.ok .next) s') :
    wpAny (model X.prog X.w) X.A (comprehension (.ListComp elt [⟨tg, iter, ifs, 0⟩] scope pos) scope X.env pos' (newList []) false (eval iter X.env) use) Qf X.xe s := by
  have frees : ∀ y ∈ scope.names, y.2 = .free → ∃ c, X.env.cells.lookup y.1 = some c := fun y m e => by
    rcases ok.free y m e with k | k
    · exact inv.ok.has _ (.inl k)
    · exact inv.ok.has _ (.inr k)
  refine comp_freeX (use := use) rfl folded (closure_ok frees) ok.kind (fun y m e => by rw [ok.uniq y m, e]) (thn (hi.run pins s σ H _ inv want) fun xv t1 hx => thn hx fun itv t2 h2 => ?_)
  obtain ⟨it, fp, tn, J, H2, e, J2, T, st2, f2, q⟩ := h2
  subst e
  refine wpAny_newObj_type (newEnv_comp ?_) (by show 0 ≤ sizeLine; decide)
  generalize eD : t2.heap.objs.size = D
  have newD : H2 D = none := J2.hok.fresh (Nat.le_of_eq eD)
  obtain ⟨Wt, ⟨m0, w0⟩, turn⟩ := q D newD
  generalize e3 : ({ t2 with heap := t2.heap.push { cls := .type "list", data := .seq ([] : List Value).toArray } } : Shared) = t3
  have J3 : Inv X pins σ (upd H2 D (.lst [])) t3 := by
    rw [← e3]
    refine J2.laid (t' := t2.toks) (fun b o z => Heap.get?_push_of_some _ z) (Nat.le_of_eq eD) ⟨Nat.zero_le _, [], 0, .nil, ?_⟩
    rw [← eD]
    exact Heap.get?_push_size _ rfl
  have p3 : t3.heap = t2.heap.push { cls := .type "list", data := .seq ([] : List Value).toArray } := by rw [← e3]
  have below : ∀ b ∈ fp, b < t2.heap.objs.size := fun b hb => by
    obtain ⟨o, z, _⟩ := T.obj _ _ st2 b hb
    exact Heap.lt_size z
  have f3 : ∀ b ∈ fp, FpOk X pins (upd H2 D (.lst [])) b ∧ b < t3.heap.objs.size := fun b hb => by
    have lt := below b hb
    refine ⟨⟨?_, (f2 b hb).2⟩, by rw [p3, Heap.size_push]; exact Nat.lt_succ_of_lt lt⟩
    rw [upd_ne (by rw [← eD]; exact Nat.ne_of_lt lt)]
    exact (f2 b hb).1
  have st3 : tn 0 t3.heap := T.keep _ _ _ st2 fun b _ o z => by rw [p3]; exact Heap.get?_push_of_some _ z
  have J4 := block_start J3 ok nd f3
  have pg := hg t3 (upd H2 D (.lst [])) t3.heap.objs.size (cellsFrom (t3.heap.objs.size + 1) scope.names (cloFrom X.env.cells scope.names [])) fp
  have pt := ht t3 (upd H2 D (.lst [])) t3.heap.objs.size (cellsFrom (t3.heap.objs.size + 1) scope.names (cloFrom X.env.cells scope.names [])) fp
  have pe := he t3 (upd H2 D (.lst [])) t3.heap.objs.size (cellsFrom (t3.heap.objs.size + 1) scope.names (cloFrom X.env.cells scope.names [])) fp
  show codeAny _ _ (.compStart (.ListComp elt [⟨tg, iter, ifs, 0⟩] scope pos) 0 (.ref it) (.ref D) (compEnvC scope (cellsFrom (t3.heap.objs.size + 1) scope.names (cloFrom X.env.cells scope.names [])) t3.heap.objs.size X.env)) (cPost (model X.prog X.w) X.A X.xe use Qf (.ref D) t3.heap.objs.size X.env.frame) { t3 with heap := pushCells (t3.heap.push { cls := .type "dict", data := .dict #[] }) scope.names }
  have nfp : ∀ b ∈ fp, (upd H2 D (.lst [])) b = none := fun b hb => (f3 b hb).1.1
  generalize ece : compEnvC scope (cellsFrom (t3.heap.objs.size + 1) scope.names (cloFrom X.env.cells scope.names [])) t3.heap.objs.size X.env = ce at J4 pg pt pe ⊢
  have cL : ce.locals = t3.heap.objs.size := by subst ece; rfl
  have cF : ce.frame = X.env.frame := by subst ece; rfl
  generalize eH3 : upd H2 D (.lst []) = H3 at J3 J4 pg pt pe w0 nfp f3
  generalize e4 : ({ t3 with heap := pushCells (t3.heap.push { cls := .type "dict", data := .dict #[] }) scope.names } : Shared) = t4 at J4 ⊢
  have st4 : tn 0 t4.heap := T.keep _ _ _ st3 fun b _ o z => by rw [← e4]; exact pushCells_keeps _ _ _ _ (Heap.get?_push_of_some _ z)
  have newC : t3.heap.get? t3.heap.objs.size = none := by
    cases z : t3.heap.get? t3.heap.objs.size with
    | none => rfl
    | some o => exact absurd (Heap.lt_size z) (Nat.lt_irrefl _)
  -- what flies out of the element
  have passes : Passes (L2.CX X.prog X.w) { X.blk t3 H3 scope ce fp with xe := notedBy (model X.prog X.w) X.A ce (fun e s' => cPost (model X.prog X.w) X.A X.xe use Qf (.ref D) t3.heap.objs.size X.env.frame (.error e) s') } E := by
    intro pz σz Hz sz u sz' Ix cx
    obtain ⟨a, B, H', cls, d, rfl, fl, hok, ub, na, os, ag, hE⟩ := cx
    have Ib : Inv (X.blk t3 H3 scope ce fp) pz σz Hz sz := Inv.air (fun _ _ => False) Ix
    have nC : Hz t3.heap.objs.size = none := by
      have z : Hz ce.locals = none := Ib.free
      rw [cL] at z
      exact z
    obtain ⟨m, hn, _⟩ := Ib.loc
    have hn : sz.heap.Ns ce.locals m := hn
    rw [cL] at hn
    have z := comp_air (use := use) (Qf := Qf) (acc := .ref D) (ce := ce) two fr tk cF J3 newC (J3.fpOk (Nat.le_refl _) nC) (fun b hb => (f3 b hb).1) Ib.base Ib.os hn fl hok ub na os ag (wish cls d H' hE)
    rw [cF] at z
    exact z
  have pe := pe _ passes
  have stat : ∀ {σ' : L2.St} {H' : Hp} {s' : Shared}, Inv (X.blk t3 H3 scope ce fp) [] σ' H' s' → (∀ b ∈ fp, H' b = none) → ∀ b ∈ fp, FpOk (X.blk t3 H3 scope ce fp) [] H' b := fun {σ' H' s'} I' none_ b hb =>
    ⟨none_ b hb, (I'.ok.exf b hb).1, I'.ok.exfs b hb, .inl hb, fun x c z => (I'.ok.exf b hb).2 x c z, fun p hp => absurd (show p ∈ ([] : List (Addr × Obj)) ++ [] from hp) (by simp)⟩
  have loop : codeAny (model X.prog X.w) X.A (.compLoop (.ListComp elt [⟨tg, iter, ifs, 0⟩] scope pos) 0 (.ref it) (.ref D) ce) (cPost (model X.prog X.w) X.A X.xe use Qf (.ref D) t3.heap.objs.size X.env.frame) t4 := by
    refine compLoop_any (fun n s' => ∃ i H', Inv (X.blk t3 H3 scope ce fp) [] (wipe σ (own.map (·.2))) H' s' ∧ tn i s'.heap ∧ (∀ b ∈ fp, H' b = none) ∧ Wt i n H') ?_ m0 ⟨0, H3, J4, st4, nfp, w0⟩
    rintro n t5 ⟨i, H5, J5, st5, n5, w5⟩
    rcases turn i n H5 w5 with ⟨stop, qq⟩ | ⟨go, Nx, less, step⟩
    · have over := T.done (X.blk t3 H3 scope ce fp) rfl rfl rfl calm i [] t5 _ H5 (fun _ _ => False) J5 (stat J5 n5) st5 stop
      refine thnF over fun r t6 ⟨er, J6⟩ => ?_
      subst er
      have J7 : Inv X pins σ H5 t6 := J3.call' (ch := fp) J6.os J6.base J6.hok J6.bare fun b hb => ⟨(f3 b hb).1.2.2.2.1, (f3 b hb).1.2.1, (f3 b hb).1.2.2.2.2.1, (f3 b hb).1.2.2.2.2.2⟩
      have nC : H5 t3.heap.objs.size = none := by
        have z : H5 ce.locals = none := J6.free
        rw [cL] at z
        exact z
      obtain ⟨m, hn, _⟩ := J6.loc
      have hn : t6.heap.Ns ce.locals m := hn
      rw [cL] at hn
      exact ends D t3.heap.objs.size t6 m H5 J7 qq hn (J3.fpOk (Nat.le_refl _) nC)
    · have next := T.item (X.blk t3 H3 scope ce fp) rfl rfl rfl calm i [] t5 _ H5 (fun _ _ => False) J5 (stat J5 n5) st5 go
      refine thnF next fun r t6 ⟨u, er, h6⟩ => ?_
      subst er
      refine thnF h6 fun _ t7 ⟨x, H7, J7, r7, y7, st7, n7⟩ => ?_
      have J7' := J7.pinned (stat J7 n7) (T.obj _ _ st7)
      refine thnF (pg.run _ t7 _ H7 x u _ J7' r7 (step x H7 y7)) fun _ t8 ⟨σ8, H8, J8, hw8, q8⟩ => ?_
      refine thnF (pt.run _ t8 σ8 H8 _ J8 q8) fun b t9 ⟨H9, J9, q9⟩ => ?_
      have fin : ∀ {s' : Shared} {H' : Hp}, Inv (X.blk t3 H3 scope ce fp) ([] ++ pinsAt fp t7.heap) σ8 H' s' → Nx H' → ∃ m, m < n ∧ ∃ i H', Inv (X.blk t3 H3 scope ce fp) [] (wipe σ (own.map (·.2))) H' s' ∧ tn i s'.heap ∧ (∀ b ∈ fp, H' b = none) ∧ Wt i m H' := fun {s' H'} I' nx => by
        obtain ⟨m', lm, w'⟩ := less H' nx
        have pinned : ∀ b ∈ fp, ∀ o, t7.heap.get? b = some o → s'.heap.get? b = some o ∧ H' b = none := fun b hb o z =>
          let y := I'.pin (b, o) (List.mem_append_right _ (List.mem_append_right _ (mem_pinsAt hb z)))
          ⟨y.1, y.2.1⟩
        have el : (wipe σ (own.map (·.2))).length = σ8.length := by rw [← hw8, wipe_length]
        refine ⟨m', lm, i + 1, H', (I'.unpinned (pins := [])).weak el (fun j v z => ?_), T.keep _ _ _ st7 fun b hb o z => (pinned b hb o z).1, fun b hb => ?_, w'⟩
        · rw [← hw8] at z
          exact (wipe_some z).1
        · obtain ⟨o, z, _⟩ := T.obj _ _ st7 b hb
          exact (pinned b hb o z).2
      cases b with
      | false =>
        simp only [Bool.false_eq_true, if_false] at q9 ⊢
        exact fin J9 q9
      | true =>
        simp only [if_true] at q9 ⊢
        refine wpAny_mono (pe.run _ t9 σ8 H9 _ (Inv.air _ J9) q9) (fun z t10 ⟨yv, H10, J10, r10, acc, d10, z10, nx⟩ => ?_) fun _ _ y => y
        have J10' : Inv (X.blk t3 H3 scope ce fp) ([] ++ pinsAt fp t7.heap) σ8 H10 t10 := Inv.air (fun _ _ => False) J10
        exact app_ok (X := X.blk t3 H3 scope ce fp) J10' d10 z10 r10 fun t11 J11 => fin J11 nx
  exact codeAny_compStart_list loop (T.self X.A 0 _ _ _ st4 loop)
/-- name = [..] on one line, the name a local; the element's calls may refuse -/
theorem ps_setLcX {X : Cx} {i : Nat} {y : Str} {py : Pos} {elt tg iter : Expr} {ifs : List Expr} {scope : Scope} {own : List (Str × Nat)} {pos spos : Pos} {wi : TI} {g : TG} {tt : TT} {te : TE} {E : XK} (two : X.stack = X.env :: X.outer) (fr : X.env.frame = some X.env.locals) (tk : Takes X (fun cls d _ H => E cls d H))
    (calm : X.calm = true) (nd : X.N.Nodup) (slot : X.N[i]? = some y) (loc : X.env.scope.names.lookup y = some .local) (sw : swapsWith (.ListComp elt [⟨tg, iter, ifs, 0⟩] scope pos) (some (.Name y py)) spos.line X.env = pure true) (hi : PI X tg iter wi) (ok : BlkOk X.N X.env.scope scope own)
    (hg : ∀ (s : Shared) (H : Hp) (C : Addr) (cl : List (Str × Addr)) (fp : List Addr), PG (X.blk s H scope (compEnvC scope cl C X.env) fp) tg g) (ht : ∀ (s : Shared) (H : Hp) (C : Addr) (cl : List (Str × Addr)) (fp : List Addr), PTs (X.blk s H scope (compEnvC scope cl C X.env) fp) ifs tt)
    (he : EltX X scope elt te E) (folded : ∀ x, foldedSetIterable iter X.env x = pure x := by intro _; rfl) : PS X (.Assign [.Name y py] (.ListComp elt [⟨tg, iter, ifs, 0⟩] scope pos) spos) (tAsg (tLc wi g tt te (own.map (·.2))) (gName i)) := by
  refine ⟨fun pins s σ H D inv want => ?_⟩
  rw [exec_Assign_Name_used _ _ _ _ sw]
  refine wpAny_bind (wpAny_standAt (wpAny_bind ?_))
  show wpAny _ X.A (do let _ ← comprehension (.ListComp elt [⟨tg, iter, ifs, 0⟩] scope pos) scope X.env (firstIterPos [⟨tg, iter, ifs, 0⟩] pos) (newList []) false (eval iter X.env) (some (assign (.Name y py) X.env))) _ _ s
  have want : tLc wi g tt te (own.map (·.2)) σ H (fun x H1 => gName i x σ H1 D.nx) := want
  refine wpAny_bind (thn (lcX_core (Qf := fun _ s' => SP X pins D .next s') two fr tk (fun _ _ _ z => z) calm nd inv hi ok hg ht he folded want fun L C s' m H' I' q hn f => ?_) fun _ s' z => wpAny_pure (wpAny_pure z))
  show wpAny _ _ (assign (.Name y py) X.env (.ref L)) _ _ _
  refine wpAny_assign_Name (store_ok2 (v := V.ref L) I' nd slot (.inl loc) rfl (fun s2 J2 ⟨a, sb, ha⟩ => ?_) (.inr loc))
  obtain ⟨f0, f1, f2, f3, f4, f5⟩ := f
  have aC : C ≠ a := by
    rcases ha with z | z
    · rw [z]
      exact f1
    · exact fun e => f4 y a z e.symm
  exact ⟨m, hn.sameBut sb aC, fun h3 sb3 => ⟨_, H', J2.turned (t' := s2.toks) (fun b o hb e => (sb3.2 b hb).trans e) f0 f1 f3 f4 f5, q⟩⟩
end VQ
namespace VQ
open PySem L2 LamX
abbrev sTried : Stmt := top 32
/-- where the error classes stand that the law names -/
structure Errs (mg : Str → Option Value) (Ta NT NR BT Uf Fu TM QE No : Addr) : Prop where
  ta : mg "Taken" = some (.ref Ta)
  nt : mg "NoTable" = some (.ref NT)
  nr : mg "NoRow" = some (.ref NR)
  bt : mg "BadText" = some (.ref BT)
  uf : mg "Unfit" = some (.ref Uf)
  fu : mg "Full" = some (.ref Fu)
  tm : mg "TooMany" = some (.ref TM)
  qe : mg "QuiltError" = some (.ref QE)
  no : mg "Nothing" = some (.ref No)
/-- a refusal without a field: the last clause takes it -/
structure Plain (K : PySem.W.Frag) (Ta NT NR BT Uf Fu TM QE No C : Addr) : Prop where
  n1 : PySem.W.exmAny K (.ref C) [.ref Ta, .ref NT, .ref NR] = some false
  n2 : PySem.W.exmAny K (.ref C) [.ref BT, .ref Uf] = some false
  n3 : PySem.W.exmAny K (.ref C) [.ref Fu] = some false
  n4 : PySem.W.exmAny K (.ref C) [.ref TM] = some false
  y5 : PySem.W.exmAny K (.ref C) [.ref QE, .ref No] = some true
  xf : XfC K C
  nc : PySem.W.findIn K (.ref C) "called" = some none
/-- what is wished of an error: the tuple of its name and a blank -/
def Caught (K : PySem.W.Frag) (Ta NT NR BT Uf Fu TM QE No : Addr) (Q : VK) : XK := fun cls d H => ∃ (C dd : Addr) (fs : List (Str × V)) (nm : Str), cls = .ref C ∧ d = some dd ∧ Plain K Ta NT NR BT Uf Fu TM QE No C ∧ H dd = some (.xd fs) ∧ fs.lookup ("called" : Str) = some (V.str nm) ∧
  ∀ p, H p = none → Q (.ref p) (upd H p (.tup [.str nm, .str ""]))
def TTried (K : PySem.W.Frag) (Ta NT NR BT Uf Fu TM QE No : Addr) : (XK → Hp → VK → Prop) → Hp → VK → Prop := fun tl H Q =>
  tl (Caught K Ta NT NR BT Uf Fu TM QE No Q) H fun v H1 => [V.str "told", v].length ≤ sizeLine ∧ ∀ p, H1 p = none → Q (.ref p) (upd H1 p (.tup [.str "told", v]))
/-- a def of one parameter as it stands -/
theorem one_of {K : PySem.W.Frag} {mg : Str → Option Value} {x y : Str} {st : Stmt} {f : Addr} {fd : FuncData} {N : List Str} (A1 : At K mg x st [y] f fd) (sc : FnScope N [y] (defScope st)) (slot : N[0]? = some y) (vis : Vis (defScope st) y) (n1 : (x == ("__debug__" : Str)) = false) (n2 : (y == ("__debug__" : Str)) = false) (n3 : (y == ("__classdict__" : Str)) = false) :
    ∃ cd, One K mg x f cd N y (defScope st) (defBody st) := by
  obtain ⟨oc, od, kV, doc, pm, an, cdv, ct, osl, e, lk, code⟩ := A1.fn.ex
  have bd := A1.bd
  rw [e] at lk bd
  exact ⟨cdv, A1.gl, A1.fn.kp, ⟨oc, od, _, _, kV, doc, pm, an, ct, osl, lk, bd⟩, code, sc, slot, vis, n1, n2, n3⟩
theorem scTried : FnScope ["_law_ask", "e"] ["_law_ask"] (defScope sTried) := ⟨rfl, rfl, rfl, by decide +kernel, rfl, by decide +kernel, by decide +kernel⟩
section
variable {P : Program} {w : World} {K : PySem.W.Frag} {mg : Str → Option Value} {base : Heap} {Ta NT NR BT Uf Fu TM QE No : Addr}
theorem tried_gives {g : Addr} {cdg : Value} {q : Str} (G : Errs mg Ta NT NR BT Uf Fu TM QE No) : Gives2 P w K mg base ["_law_ask", "e"] "_law_tried" (defScope sTried) g cdg (defBody sTried) "_law_ask" q (TTried K Ta NT NR BT Uf Fu TM QE No) := by
  intro A2 outer2 f c' s H Q tl act hc h
  refine ⟨_, pss_one (ps_try_manyA (X := (cxOf C8.CX0 P w K mg base ["_law_ask", "e"] "_law_tried" (defScope sTried) g cdg A2 outer2 s H C8.E0).nox) (i := 1) (n := "e")
      (tb := fun W D σ H => ∃ Ech : XK, (∀ cls d σ' H', σ'.length = 2 → Ech cls d H' → W cls d σ' H') ∧ σ[0]? = some (some (.ref f)) ∧ H c' = some (CodeO c' q) ∧ tl Ech H fun v H1 => [V.str "told", v].length ≤ sizeLine ∧ ∀ p, H1 p = none → D.rt (.ref p) (upd H1 p (.tup [.str "told", v])))
      rfl rfl scTried.nd rfl rfl LamX.takes0 (fun W pn xe tk _ => ?_)
      (HdsA.cons (Cte.three ⟨rfl, by decide, .inl G.ta⟩ ⟨rfl, by decide, .inl G.nt⟩ ⟨rfl, by decide, .inl G.nr⟩) (fun a oe cls d pn hz hf => pss_one (ps_ret (pe_tup (pa_cons (pe_xfA hz hf (pv 1)) (pa_cons (pe_xfA hz hf (pv 1)) pa_nil)))))
      (HdsA.cons (Cte.two ⟨rfl, by decide, .inl G.bt⟩ ⟨rfl, by decide, .inl G.uf⟩) (fun a oe cls d pn hz hf => pss_one (ps_ret (pe_tup (pa_cons (pe_xfA hz hf (pv 1)) (pa_cons (pe_xfA hz hf (pv 1)) pa_nil)))))
      (HdsA.cons (Cte.one ⟨rfl, by decide, .inl G.fu⟩) (fun a oe cls d pn hz hf => pss_one (ps_ret (pe_tup (pa_cons (pe_xfA hz hf (pv 1)) (pa_cons (pe_xfA hz hf (pv 1)) pa_nil)))))
      (HdsA.cons (Cte.one ⟨rfl, by decide, .inl G.tm⟩) (fun a oe cls d pn hz hf => pss_one (ps_ret (pe_tup (pa_cons (pe_xfA hz hf (pv 1)) (pa_cons (pe_xfA hz hf (pv 1)) pa_nil)))))
      (HdsA.cons (Cte.two ⟨rfl, by decide, .inl G.qe⟩ ⟨rfl, by decide, .inl G.no⟩) (fun a oe cls d pn hz hf => pss_one (ps_ret (pe_tup (pa_cons (pe_xfA hz hf (pv 1)) (pa_cons pe_str pa_nil)))))
      HdsA.nil)))))), ?_⟩
  · refine ⟨fun pins s' σ H' D I ⟨Ech, hW, h1, h2, h3⟩ => ?_⟩
    exact (pss_one (ps_ret (pe_tup (pa_cons pe_str (pa_cons (act W pn xe Ech _ _ tk hW) pa_nil))))).run pins s' σ H' D I ⟨h1, h2, h3⟩
  · refine ⟨Caught K Ta NT NR BT Uf Fu TM QE No Q, fun cls d σ' H' hlen hC => ?_, rfl, hc, h⟩
    obtain ⟨C, dd, fs, nm, rfl, rfl, pl, hdd, hl, hq⟩ := hC
    refine ⟨false, pl.n1, fun z => Bool.noConfusion z, fun _ => ⟨false, pl.n2, fun z => Bool.noConfusion z, fun _ => ⟨false, pl.n3, fun z => Bool.noConfusion z, fun _ => ⟨false, pl.n4, fun z => Bool.noConfusion z, fun _ => ⟨true, pl.y5, fun _ a na => ?_, fun z => Bool.noConfusion z⟩⟩⟩⟩⟩
    have e1 : (σ'.set 1 (some (V.ref a)))[1]? = some (some (V.ref a)) := List.getElem?_set_self (by rw [hlen]; decide)
    exact ⟨C, pl.xf, pl.nc, _, e1, rfl, rfl, dd, fs, _, rfl, hdd, hl, by show 2 ≤ sizeLine; decide, fun p hp => hq p hp⟩
end
end VQ
namespace VQ
open PySem L2 LamX
abbrev sWorth : Stmt := top 33
abbrev sFigs : Stmt := top 34
/-! ### figures -/
def figLow (w : Nat) : Nat → Str
  | 0 => ⟨#[]⟩
  | i + 1 => (⟨#[48 + w / 2 ^ i % 2]⟩ : Str) ++ figLow w i
def fig (w : Nat) : Str := figLow w 5
theorem figLow_len (w : Nat) : ∀ i, (figLow w i).length = i
  | 0 => rfl
  | i + 1 => by
    show ((⟨#[48 + w / 2 ^ i % 2]⟩ : Str) ++ figLow w i).length = i + 1
    show (#[48 + w / 2 ^ i % 2] ++ (figLow w i).cps).size = i + 1
    rw [Array.size_append]
    have := figLow_len w i
    show 1 + (figLow w i).length = i + 1
    omega
theorem str_bit (n : Nat) : (toString ((n % 2 : Nat) : Int) : Str) = ⟨#[48 + n % 2]⟩ := by
  rcases Nat.mod_two_eq_zero_or_one n with h | h
  · rw [h]; decide +kernel
  · rw [h]; decide +kernel
section
variable {P : Program} {w : World} {K : PySem.W.Frag} {mg : Str → Option Value} {base : Heap}
def spFigs : Sp := fun vs H Q _ => ∃ (n : Nat), vs = [.int (n : Int)] ∧ Q (.str (fig n)) H
theorem scFigs : FnScope ["_law_worth_here", "_law_found", "_law_at"] ["_law_worth_here"] (defScope sFigs) := ⟨rfl, rfl, rfl, by decide +kernel, rfl, by decide +kernel, by decide +kernel⟩
theorem ok_figs {f : Addr} {fd : FuncData} (F : Fun K "_law_figs" "_law_figs" sFigs f fd) (rng : mg "range" = none) (str : mg "str" = none) : FnOk P w K mg base CX0 1 f fd ["_law_worth_here"] spFigs := by
  refine F.ok scFigs (fun vs H Q E h => ?_) (fun cdv A outer s H vs Q E hr h => ?_)
  · obtain ⟨n, rfl, _⟩ := h
    rfl
  · obtain ⟨n, rfl, k⟩ := h
    refine ⟨_, pss_cons (ps_set (i := 1) scFigs.nd rfl (.inl rfl) pe_str)
      (pss_cons (ps_for PassesOwn.never rfl (pi_range1 rfl rng (pa_cons pe_int pa_nil)) (pg_name (i := 2) scFigs.nd rfl (.inl rfl))
        (pss_cons (ps_set (i := 1) scFigs.nd rfl (.inl rfl) (pe_op op_add_str (pe_callTy call_str_int (by rfl) str (by decide +kernel) (pa_cons (pe_op op_mod (pv 0) pe_int) pa_nil)) (pv 1)))
        (pss_one (ps_set (i := 0) scFigs.nd rfl (.inl rfl) (pe_op op_fdiv (pv 0) pe_int)))))
      (pss_one (ps_ret (pv 1)))), ?_⟩
    refine ⟨5, rfl, by decide, by decide, for_range (lo := 0) (n := 5) (fun i σ H' => H' = H ∧ ∃ v : Option V, σ = [some (.int ((n / 2 ^ i : Nat) : Int)), some (.str (figLow n i)), v]) ?_ ?_ ?_⟩
    · refine ⟨rfl, none, ?_⟩
      show [some (V.int (n : Int)), some (V.str (Str.ofString "")), none] = _
      rw [Nat.pow_zero, Nat.div_one, show Str.ofString "" = figLow n 0 from (show Str.ofString "" = (⟨#[]⟩ : Str) by decide +kernel)]
    · rintro i σ H' hi ⟨rfl, v, rfl⟩
      have e1 : ((n / 2 ^ i : Nat) : Int) % 2 = ((n / 2 ^ i % 2 : Nat) : Int) := by omega
      have e2 : ((n / 2 ^ i : Nat) : Int) / 2 = ((n / 2 ^ (i + 1) : Nat) : Int) := by
        rw [Nat.pow_succ, ← Nat.div_div_eq_div_mul]; omega
      refine ⟨_, rfl, _, 2, rfl, rfl, (by show (0 : Int) < 2; decide), _, rfl, ?_, _, rfl, _, _, rfl, rfl, ?_, ?_⟩
      · rw [e1]
        rcases Nat.mod_two_eq_zero_or_one (n / 2 ^ i) with h | h <;> rw [h] <;> decide
      · rw [e1, str_bit, figLow_len]
        show 1 + i ≤ sizeLine
        have : i < 5 := hi
        exact Nat.le_trans (by omega : 1 + i ≤ 6) (by decide)
      · refine ⟨_, rfl, _, 2, rfl, rfl, ⟨by decide, by decide⟩, rfl, some (.int (0 + (i : Int))), ?_⟩
        show [some (V.int (((n / 2 ^ i : Nat) : Int) / 2)), some (V.str (Str.ofString (toString (((n / 2 ^ i : Nat) : Int) % 2)) ++ figLow n i)), some (V.int (0 + (i : Int)))] = _
        rw [e2, e1, str_bit]
        rfl
    · rintro σ H' ⟨rfl, v, rfl⟩
      exact ⟨_, rfl, k⟩
/-! ### drawn worths -/
/-- a number drawn by the bag, of which R is true -/
def spDraw (R : Int → Prop) : Sp := fun vs H Q _ => ∃ (b : Addr), vs = [.ref b] ∧ Bag H b ∧ ∀ (i : Int) (H' : Hp), R i → Bag H' b → Keep b H H' → Q (.int i) H'
theorem scWorth : FnScope ["_law_bag_here"] ["_law_bag_here"] (defScope sWorth) := ⟨rfl, rfl, rfl, by decide +kernel, rfl, by decide +kernel, by decide +kernel⟩
theorem Bag.ne {H : Hp} {b p : Addr} (h : Bag H b) (n : H p = none) : p ≠ b := fun e => by
  obtain ⟨o, z⟩ := h.here
  rw [e, z] at n
  cases n
theorem ok_worth {f fO fP : Addr} {fd fdO fdP : FuncData} (F : Fun K "_law_worth" "_law_worth" sWorth f fd) (len : mg "len" = none) (P1 : At K mg "_law_pull" sPull ["_law_bag_here", "_law_size"] fP fdP) (P2 : At K mg "_law_of" sOf ["_law_bag_here", "_law_some"] fO fdO) :
    FnOk P w K mg base CX0 3 f fd ["_law_bag_here"] (spDraw fun i => 0 ≤ i ∧ i < 32) := by
  have G1 : FnOk P w K mg base CX0 1 fP fdP ["_law_bag_here", "_law_size"] spPull := ok_pull P1.fn len
  have G2 : FnOk P w K mg base CX0 2 fO fdO ["_law_bag_here", "_law_some"] (spOf K) := ok_of P2.fn len P1
  refine F.ok scWorth (fun vs H Q E h => ?_) (fun cdv A outer s H vs Q E hr h => ?_)
  · obtain ⟨b, rfl, _⟩ := h
    rfl
  · obtain ⟨b, rfl, B, k⟩ := h
    have hr1 : Room 1 _ := hr.mono (by decide)
    refine ⟨_, pss_one (ps_ret (pe_call G2 hr rfl P2.gl P2.fn.kp P2.bd .nil pass0 (pa_cons (pv 0) (pa_cons (pe_lst
      (pa_cons (pe_call G1 hr1 rfl P1.gl P1.fn.kp P1.bd .nil pass0 (pa_cons (pv 0) (pa_cons pe_int pa_nil)))
      (pa_cons (pe_call G1 hr1 rfl P1.gl P1.fn.kp P1.bd .nil pass0 (pa_cons (pv 0) (pa_cons pe_int pa_nil)))
      (pa_cons (pe_call G1 hr1 rfl P1.gl P1.fn.kp P1.bd .nil pass0 (pa_cons (pv 0) (pa_cons pe_int pa_nil)))
      (pa_cons pe_int (pa_cons pe_int pa_nil)))))) pa_nil)))), ?_⟩
    refine ⟨_, rfl, _, rfl, b, 32, rfl, B, by decide, by decide, fun d1 H1 a1 c1 B1 k1 => ?_⟩
    refine ⟨_, rfl, b, 32, rfl, B1, by decide, by decide, fun d2 H2 a2 c2 B2 k2 => ?_⟩
    refine ⟨_, rfl, b, 4, rfl, B2, by decide, by decide, fun d3 H3 a3 c3 B3 k3 => ?_⟩
    refine ⟨by show 5 ≤ sizeLine; decide, fun p hp => ?_⟩
    have sm := same_new (o := HO.lst [.int d1, .int d2, .int d3, .int 0, .int 31]) hp
    refine ⟨b, p, _, rfl, B3.same sm, B3.ne hp, SqL.of upd_same, by show 1 ≤ 5; decide, by show 5 < 1000; decide, fun v H' mem B' k' => ?_⟩
    have kk : Keep b H H' := ((k1.trans k2).trans k3).trans (Keep.trans (Same.keep sm) k')
    rcases List.mem_cons.mp mem with rfl | mem
    · exact k _ _ ⟨a1, c1⟩ B' kk
    rcases List.mem_cons.mp mem with rfl | mem
    · exact k _ _ ⟨a2, c2⟩ B' kk
    rcases List.mem_cons.mp mem with rfl | mem
    · exact k _ _ ⟨a3, by omega⟩ B' kk
    rcases List.mem_cons.mp mem with rfl | mem
    · exact k _ _ ⟨by decide, by decide⟩ B' kk
    rcases List.mem_cons.mp mem with rfl | mem
    · exact k _ _ ⟨by decide, by decide⟩ B' kk
    · cases mem
end
end VQ
namespace VQ
open PySem L2 LamX
/-! ### things of the plain kinds -/
def worthB : V → Bool
  | .int i => decide (0 ≤ i) && decide (i < 32)
  | _ => false
def basics : List String := ["NoneType", "bool", "int", "str", "list", "tuple"]
theorem basic_cases {K : PySem.W.Frag} {H : Hp} {x : V} {t : String} (h : TyX K H x (.type t)) (m : t ∈ basics) :
    (x = .non ∧ t = "NoneType") ∨ (∃ b, x = .bl b ∧ t = "bool") ∨ (∃ i, x = .int i ∧ t = "int") ∨ (∃ z, x = .str z ∧ t = "str") ∨ (∃ a, x = .ref a ∧ (t = "list" ∨ t = "tuple")) := by
  generalize e : Value.type t = tv at h
  cases h with
  | base b =>
    cases b with
    | non => cases e; exact .inl ⟨rfl, rfl⟩
    | bl y => cases e; exact .inr (.inl ⟨y, rfl, rfl⟩)
    | int i => cases e; exact .inr (.inr (.inl ⟨i, rfl, rfl⟩))
    | str y => cases e; exact .inr (.inr (.inr (.inl ⟨y, rfl, rfl⟩)))
    | flt y => cases e; exact absurd m (by decide)
    | lst _ => cases e; exact .inr (.inr (.inr (.inr ⟨_, rfl, .inl rfl⟩)))
    | frz _ => cases e; exact .inr (.inr (.inr (.inr ⟨_, rfl, .inl rfl⟩)))
    | tup _ => cases e; exact .inr (.inr (.inr (.inr ⟨_, rfl, .inr rfl⟩)))
    | dK _ => cases e; exact absurd m (by decide)
    | dT _ => cases e; exact absurd m (by decide)
    | ins _ _ _ _ _ _ => cases e
  | byt _ => cases e; exact absurd m (by decide)
  | set _ => cases e; exact absurd m (by decide)
  | kList _ _ => cases e; exact .inr (.inr (.inr (.inr ⟨_, rfl, .inl rfl⟩)))
  | kTuple _ _ => cases e; exact .inr (.inr (.inr (.inr ⟨_, rfl, .inr rfl⟩)))
  | kDict _ _ => cases e; exact absurd m (by decide)
  | fTuple _ => cases e; exact .inr (.inr (.inr (.inr ⟨_, rfl, .inr rfl⟩)))
  | fDict _ => cases e; exact absurd m (by decide)
section
variable {P : Program} {w : World} {K : PySem.W.Frag} {mg : Str → Option Value} {base : Heap}
/-- what the program's own modules ask of the names -/
structure Blt (mg : Str → Option Value) : Prop where
  isi : mg "isinstance" = none
  int : mg "int" = none
  bool : mg "bool" = none
  str : mg "str" = none
  list : mg "list" = none
  tuple : mg "tuple" = none
  len : mg "len" = none
  all : mg "all" = none
  range : mg "range" = none
/-! ### a refusal without a field -/
def spErr (K : PySem.W.Frag) (C : Addr) (nm : Str) : Sp := fun vs H Q _ => ∃ a : Addr, vs = [.ref a] ∧ H a = some (exo a C none) ∧ ∀ d, H d = none → d ≠ a → Q .non (upd (upd H d (exd d [(("called" : Str), .str nm)])) a (exo a C (some d)))
/-- the class at C, its __init__ at fI -/
structure ErrC (K : PySem.W.Frag) (mg : Str → Option Value) (x : Str) (C fI : Addr) (fd : FuncData) (qual : Str) (st : Stmt) : Prop where
  gl : mg x = some (.ref C)
  ox : OexC K C
  it : PySem.W.findIn K (.ref C) "__init__" = some (some (.ref fI))
  ty : PySem.W.typeIn K (.ref fI) = some (.type "function")
  nc : PySem.W.findIn K (.ref C) "called" = some none
  fn : Fun K "__init__" qual st fI fd
  bd : Binds K fd ["self"] []
theorem ok_err {x qual nm : Str} {st : Stmt} {C fI : Addr} {fd : FuncData} {p1 p2 p3 p4 : Pos} {j : Nat} (Er : ErrC K mg x C fI fd qual st) (sc : FnScope ["self"] ["self"] (defScope st)) (v : Vis (defScope st) "self")
    (hb : defBody st = [.Assign [.Attribute (.Name "self" p1) "called" p2] (.Constant (.str nm) j p3) p4]) : FnOk P w K mg base CX0 1 fI fd ["self"] (spErr K C nm) := by
  refine Er.fn.ok sc (fun vs H Q E h => ?_) (fun cdv A outer s H vs Q E' hr h => ?_)
  · obtain ⟨a, rfl, _⟩ := h
    rfl
  · obtain ⟨a, rfl, ha, k⟩ := h
    rw [hb]
    refine ⟨_, pss_one (ps_ost (pe_var (i := 0) rfl v) pe_str), ?_⟩
    exact ⟨_, rfl, a, C, rfl, Er.ox, Er.nc, .inl ⟨ha, fun dx hd ne => k dx hd ne⟩⟩
theorem raise_plain {C : Addr} {nm : Str} {σ : L2.St} {H : Hp} {W : XK} (h : ∀ d, H d = none → W (.ref C) (some d) (upd H d (.xd [(("called" : Str), .str nm)]))) : tMkO0 C (spErr K C nm) σ H W := by
  intro a ha
  refine ⟨a, rfl, upd_same, fun d hd ne => ⟨rfl, d, [(("called" : Str), V.str nm)], upd_same, ?_, ?_, ?_⟩⟩
  · rw [upd_ne ne, upd_same]
  · rw [upd_ne ne] at hd
    exact hd
  · have hd' : H d = none := by
      rw [upd_ne ne] at hd
      exact hd
    have e : upd (del (upd (upd (upd H a (exo a C none)) d (exd d [(("called" : Str), V.str nm)])) a (exo a C (some d))) a) d (.xd [(("called" : Str), V.str nm)]) = upd H d (.xd [(("called" : Str), V.str nm)]) := by
      funext b
      by_cases hb : b = d
      · rw [hb, upd_same, upd_same]
      · rw [upd_ne hb, upd_ne hb]
        by_cases hba : b = a
        · rw [hba, del_same, ha]
        · rw [del_ne hba, upd_ne hba, upd_ne hb, upd_ne hba]
    rw [e]
    exact h d hd'
end
end VQ
namespace VQ
open PySem L2 LamX
abbrev sIsNumber : Stmt := top 14
abbrev sIsWorth : Stmt := top 15
theorem zfill_bin : ∀ n, n < 32 → Txt.zfill (binS n) 5 = fig n := by decide +kernel
section
variable {P : Program} {w : World} {K : PySem.W.Frag} {mg : Str → Option Value} {base : Heap}
def numB (lo hi : Int) : V → Bool
  | .int i => decide (lo ≤ i) && decide (i < hi)
  | _ => false
/-- whether a thing is a number from one bound to below another -/
def spIsNumber (K : PySem.W.Frag) : Sp := fun vs H Q _ => ∃ (x : V) (t : String) (lo hi : Int), vs = [x, .int lo, .int hi] ∧ TyX K H x (.type t) ∧ t ∈ basics ∧ Q (.bl (numB lo hi x)) H
theorem scIsNumber : FnScope ["thing", "low", "behind"] ["thing", "low", "behind"] (defScope sIsNumber) := ⟨rfl, rfl, rfl, by decide +kernel, rfl, by decide +kernel, by decide +kernel⟩
theorem ok_isnumber {f : Addr} {fd : FuncData} (F : Fun K "is_number" "is_number" sIsNumber f fd) (b : Blt mg) : FnOk P w K mg base CX0 1 f fd ["thing", "low", "behind"] (spIsNumber K) := by
  refine F.ok scIsNumber (fun vs H Q E h => ?_) (fun cdv A outer s H vs Q E hr h => ?_)
  · obtain ⟨x, t, lo, hi, rfl, _⟩ := h
    rfl
  · obtain ⟨x, t, lo, hi, rfl, ty, m, k⟩ := h
    refine ⟨_, pss_one (ps_ret (pe_and (pe_callB call_isi (by rfl) b.isi (by decide +kernel) (pa_cons (pv 0) (pa_cons (pe_bltn (v := .ty "int") rfl b.int (by decide +kernel) rfl) pa_nil)))
      (pe_and (pe_not (pe_callB call_isi (by rfl) b.isi (by decide +kernel) (pa_cons (pv 0) (pa_cons (pe_bltn (v := .ty "bool") rfl b.bool (by decide +kernel) rfl) pa_nil))))
      (pe_one (pe_chain op_le op_lt (pv 1) (pv 0) (pv 2)))))), ?_⟩
    rcases basic_cases ty m with ⟨rfl, rfl⟩ | ⟨c, rfl, rfl⟩ | ⟨i, rfl, rfl⟩ | ⟨z, rfl, rfl⟩ | ⟨a, rfl, rfl | rfl⟩
    · refine ⟨_, rfl, _, _, _, _, false, rfl, .ty "int", ty, kit_ty (by decide +kernel), false, rfl, iteF ?_⟩
      exact k
    · refine ⟨_, rfl, _, _, _, _, true, rfl, .ty "int", ty, kit_ty (by decide +kernel), true, rfl, iteT ?_⟩
      refine ⟨_, rfl, _, _, _, _, true, rfl, .ty "bool", ty, kit_ty (by decide +kernel), true, rfl, false, rfl, iteF ?_⟩
      exact k
    · refine ⟨_, rfl, _, _, _, _, true, rfl, .ty "int", ty, kit_ty (by decide +kernel), true, rfl, iteT ?_⟩
      refine ⟨_, rfl, _, _, _, _, false, rfl, .ty "bool", ty, kit_ty (by decide +kernel), false, rfl, true, rfl, iteT ?_⟩
      refine ⟨_, rfl, _, rfl, lo, i, rfl, rfl, _, rfl, ?_⟩
      by_cases h : lo ≤ i
      · rw [if_pos (decide_eq_true h)]
        refine ⟨_, rfl, i, hi, rfl, rfl, ?_⟩
        have e : numB lo hi (.int i) = decide (i < hi) := by
          show (decide (lo ≤ i) && decide (i < hi)) = _
          rw [decide_eq_true h, Bool.true_and]
        rw [e] at k
        exact k
      · rw [if_neg (by simpa using h)]
        have e : numB lo hi (.int i) = false := by
          show (decide (lo ≤ i) && decide (i < hi)) = _
          rw [decide_eq_false h, Bool.false_and]
        rw [e] at k
        exact k
    · refine ⟨_, rfl, _, _, _, _, false, rfl, .ty "int", ty, kit_ty (by decide +kernel), false, rfl, iteF ?_⟩
      exact k
    · refine ⟨_, rfl, _, _, _, _, false, rfl, .ty "int", ty, kit_ty (by decide +kernel), false, rfl, iteF ?_⟩
      exact k
    · refine ⟨_, rfl, _, _, _, _, false, rfl, .ty "int", ty, kit_ty (by decide +kernel), false, rfl, iteF ?_⟩
      exact k
theorem numB_worth (x : V) : numB 0 32 x = worthB x := by
  cases x <;> rfl
/-- where a def stands that asks is_number, and where that one stands -/
structure AtW (K : PySem.W.Frag) (mg : Str → Option Value) (x : Str) (st : Stmt) (ps : List Str) (f : Addr) (fd : FuncData) : Prop where
  it : At K mg x st ps f fd
  num : ∃ (fN : Addr) (fdN : FuncData), At K mg "is_number" sIsNumber ["thing", "low", "behind"] fN fdN
theorem AtW.gl {x : Str} {st : Stmt} {ps : List Str} {f : Addr} {fd : FuncData} (a : AtW K mg x st ps f fd) : mg x = some (.ref f) := a.it.gl
theorem AtW.bd {x : Str} {st : Stmt} {ps : List Str} {f : Addr} {fd : FuncData} (a : AtW K mg x st ps f fd) : Binds K fd ps [] := a.it.bd
theorem AtW.fn {x : Str} {st : Stmt} {ps : List Str} {f : Addr} {fd : FuncData} (a : AtW K mg x st ps f fd) : Fun K x x st f fd := a.it.fn
def spIsWorth (K : PySem.W.Frag) : Sp := fun vs H Q _ => ∃ (x : V) (t : String), vs = [x] ∧ TyX K H x (.type t) ∧ t ∈ basics ∧ Q (.bl (worthB x)) H
theorem scIsWorth : FnScope ["thing"] ["thing"] (defScope sIsWorth) := ⟨rfl, rfl, rfl, by decide +kernel, rfl, by decide +kernel, by decide +kernel⟩
theorem ok_isworth {f : Addr} {fd : FuncData} {tk : Tok} (F : AtW K mg "is_worth" sIsWorth ["thing"] f fd) (b : Blt mg) (W : mg "WORTHS" = some (.int 32 tk)) : FnOk P w K mg base CX0 2 f fd ["thing"] (spIsWorth K) := by
  obtain ⟨fN, fdN, aN⟩ := F.num
  have GN : FnOk P w K mg base CX0 1 fN fdN ["thing", "low", "behind"] (spIsNumber K) := ok_isnumber aN.fn b
  refine F.it.fn.ok scIsWorth (fun vs H Q E h => ?_) (fun cdv A outer s H vs Q E hr h => ?_)
  · obtain ⟨x, t, rfl, _⟩ := h
    rfl
  · obtain ⟨x, t, rfl, ty, m, k⟩ := h
    refine ⟨_, pss_one (ps_ret (pe_call GN hr rfl aN.gl aN.fn.kp aN.bd .nil pass0 (pa_cons (pv 0) (pa_cons pe_int (pa_cons (pe_glob (v := .int 32) rfl W ⟨_, rfl⟩) pa_nil))))), ?_⟩
    refine ⟨_, rfl, x, t, 0, 32, rfl, ty, m, ?_⟩
    rw [numB_worth]
    exact k
def spFigures (K : PySem.W.Frag) (C : Addr) : Sp := fun vs H Q E => ∃ (x : V) (t : String), vs = [x] ∧ TyX K H x (.type t) ∧ t ∈ basics ∧
  (∀ n : Nat, n < 32 → x = .int (n : Int) → Q (.str (fig n)) H) ∧ (worthB x = false → ∀ d, H d = none → E (.ref C) (some d) (upd H d (.xd [(("called" : Str), .str "BadWorth")])))
end
end VQ
namespace VQ
open PySem L2 LamX
/-- two things that are the same all through, to a depth -/
inductive Alike (H : Hp) : Nat → V → V → Prop
  | non (n : Nat) : Alike H n .non .non
  | bl (n : Nat) (b : Bool) : Alike H n (.bl b) (.bl b)
  | int (n : Nat) (i : Int) : Alike H n (.int i) (.int i)
  | str (n : Nat) (z : Str) : Alike H n (.str z) (.str z)
  | lst {n : Nat} {a b : Addr} {xs ys : List V} (ha : H a = some (.lst xs)) (hb : H b = some (.lst ys)) (hl : xs.length = ys.length) (hz : ys.length ≤ 1000) (h : ∀ (i : Nat) (x y : V), xs[i]? = some x → ys[i]? = some y → Alike H n x y) : Alike H (n + 1) (.ref a) (.ref b)
  | tup {n : Nat} {a b : Addr} {xs ys : List V} (ha : H a = some (.tup xs)) (hb : H b = some (.tup ys)) (hl : xs.length = ys.length) (hz : ys.length ≤ 1000) (h : ∀ (i : Nat) (x y : V), xs[i]? = some x → ys[i]? = some y → Alike H n x y) : Alike H (n + 1) (.ref a) (.ref b)
theorem Alike.same {H H' : Hp} (s : Same H H') {n : Nat} {x y : V} (h : Alike H n x y) : Alike H' n x y := by
  induction h with
  | non n => exact .non n
  | bl n b => exact .bl n b
  | int n i => exact .int n i
  | str n z => exact .str n z
  | lst ha hb hl hz _ ih => exact .lst (s _ _ ha) (s _ _ hb) hl hz ih
  | tup ha hb hl hz _ ih => exact .tup (s _ _ ha) (s _ _ hb) hl hz ih
def spSame (n : Nat) : Sp := fun vs H Q _ => ∃ x y, vs = [x, y] ∧ Alike H n x y ∧ ∀ H', Same H H' → Q (.bl true) H'
section
variable {P : Program} {w : World} {K : PySem.W.Frag} {mg : Str → Option Value} {base : Heap}
section
variable {X : Cx} {p p0 p1 p2 p3 pos : Pos} {i k : Nat} {y : Str}
/-- isinstance(y, n) -/
theorem pe_isi {n : Str} {c : String} (he : PE X (.Name y p0) (tVar i)) (g : Gl X "isinstance") (hm : X.mg "isinstance" = none) (gn : Gl X n) (hn : X.mg n = none) (hv : bootBuiltins n = some (.type c)) (n1 : n ≠ "__name__" := by decide) (n2 : (n == ("__debug__" : Str)) = false := by decide) :
    PE X (.Call (.Name "isinstance" p) [.Name y p0, .Name n p1] [] pos) (tCB (rIsi X.K) (tCons (tVar i) (tCons (tC (.ty c)) tNil))) :=
  pe_callB call_isi g hm (by decide +kernel) (pa_cons he (pa_cons (pe_bltn (v := .ty c) gn hn hv rfl n1 n2) pa_nil))
/-- isinstance(y, (int, str)) -/
theorem pe_isiT (he : PE X (.Name y p0) (tVar i)) (g : Gl X "isinstance") (hm : X.mg "isinstance" = none) (gi : Gl X "int") (hi : X.mg "int" = none) (gs : Gl X "str") (hs : X.mg "str" = none) :
    PE X (.Call (.Name "isinstance" p) [.Name y p0, .Tuple [.Name "int" p1, .Name "str" p2] k p3] [] pos) (tCB (rIsiT X.K) (tCons (tVar i) (tCons (tTup (tCons (tC (.ty "int")) (tCons (tC (.ty "str")) tNil))) tNil))) :=
  pe_callB call_isiT g hm (by decide +kernel) (pa_cons he (pa_cons (pe_tup (pa_cons (pe_bltn (v := .ty "int") gi hi (by decide +kernel) rfl) (pa_cons (pe_bltn (v := .ty "str") gs hs (by decide +kernel) rfl) pa_nil))) pa_nil))
end
theorem rd_isi {σ : L2.St} {H : Hp} {Q : VK} {i : Nat} {x : V} {t c : String} {b : Bool} (hx : σ[i]? = some (some x)) (ty : TyX K H x (.type t)) (kb : kitB t c = some b) (h : Q (.bl b) H) : tCB (rIsi K) (tCons (tVar i) (tCons (tC (.ty c)) tNil)) σ H Q :=
  ⟨x, hx, _, _, _, _, b, rfl, .ty c, ty, kit_ty kb, h⟩
theorem TyX.basic_same {H H' : Hp} {x : V} {t : String} (s : Same H H') (ty : TyX K H x (.type t)) (m : t ∈ basics) : TyX K H' x (.type t) := by
  generalize e : Value.type t = tv at ty
  cases ty with
  | base b =>
    cases b with
    | non => exact .base .non
    | bl y => exact .base (.bl y)
    | int i => exact .base (.int i)
    | str y => exact .base (.str y)
    | flt y => exact .base (.flt y)
    | lst q => exact .base (.lst (s _ _ q))
    | frz q => exact .base (.frz (s _ _ q))
    | tup q => exact .base (.tup (s _ _ q))
    | dK q => exact .base (.dK (s _ _ q))
    | dT q => exact .base (.dT (s _ _ q))
    | ins _ _ _ _ _ _ => cases e
  | byt y => exact .byt y
  | set q => exact .set (s _ _ q)
  | kList q c => exact .kList q c
  | kTuple q c => exact .kTuple q c
  | kDict q c => exact .kDict q c
  | fTuple q => exact .fTuple (s _ _ q)
  | fDict q => exact .fDict (s _ _ q)
end
end VQ
namespace VQ
open PySem L2 LamX
abbrev sSame : Stmt := top 31
section
variable {P : Program} {w : World} {K : PySem.W.Frag} {mg : Str → Option Value} {base : Heap}
theorem scSame : FnScope ["_law_found", "_law_due", "_law_at"] ["_law_found", "_law_due"] (defScope sSame) := ⟨rfl, rfl, rfl, by decide +kernel, rfl, by decide +kernel, by decide +kernel⟩
def anyIS (t : String) : Bool := t == "int" || t == "str" || t == "bool"
theorem rd_isiT {σ : L2.St} {H : Hp} {Q : VK} {i : Nat} {x : V} {t : String} {b : Bool} (hx : σ[i]? = some (some x)) (ty : TyX K H x (.type t)) (m : t ∈ basics) (kb : PySem.W.kitAny K (.type t) [.type "int", .type "str"] = some b) (h : ∀ H', Same H H' → Q (.bl b) H') :
    tCB (rIsiT K) (tCons (tVar i) (tCons (tTup (tCons (tC (.ty "int")) (tCons (tC (.ty "str")) tNil))) tNil)) σ H Q :=
  ⟨x, hx, (by show 2 ≤ sizeLine; decide), fun p hp => ⟨x, p, _, _, _, b, rfl, upd_same, .cons (.ty "int") (.cons (.ty "str") .nil), TyX.basic_same (same_new hp) ty m, kb, h _ (same_new hp)⟩⟩
theorem kIS {t : String} {b b' : Bool} (h1 : kitB t "int" = some b) (h2 : kitB t "str" = some b') : PySem.W.kitAny K (.type t) [.type "int", .type "str"] = some (b || b') := by
  refine kitAny_cons (kit_ty h1) (fun e => ?_) (fun e => by rw [e]; rfl)
  subst e
  refine kitAny_cons (kit_ty h2) (fun e => ?_) (fun e => by rw [e]; rfl)
  subst e
  rfl
/-- the scalars' three clauses: from the first to the third -/
theorem ok_same0 {f : Addr} {fd : FuncData} (F : Fun K "_law_same" "_law_same" sSame f fd) (b : Blt mg) : FnOk P w K mg base CX0 1 f fd ["_law_found", "_law_due"] (spSame 0) := by
  refine F.ok scSame (fun vs H Q E h => ?_) (fun cdv A outer s H vs Q E hr h => ?_)
  · obtain ⟨x, y, rfl, _⟩ := h
    rfl
  · obtain ⟨x, y, rfl, al, k⟩ := h
    refine ⟨_, pss_cons (ps_if (pt_cmp (pc_isN (pv 1))) (pss_one (ps_ret (pe_cmp (pc_isN (pv 0))))) pss_nil)
      (pss_cons (ps_if (PW.pt (pw_or (pt_val (pe_isi (pv 1) rfl b.isi rfl b.bool (c := "bool") (by decide +kernel))) (pw_or1 (pt_val (pe_isi (pv 0) rfl b.isi rfl b.bool (c := "bool") (by decide +kernel))))))
        (pss_one (ps_ret (pe_and (pe_isi (pv 1) rfl b.isi rfl b.bool (c := "bool") (by decide +kernel)) (pe_and (pe_isi (pv 0) rfl b.isi rfl b.bool (c := "bool") (by decide +kernel)) (pe_one (pe_cmpR op_eq (pv 0) (pv 1) (nomark _))))))) pss_nil)
      (pss_cons (ps_if (pt_val (pe_isiT (pv 1) rfl b.isi rfl b.int rfl b.str))
        (pss_one (ps_ret (pe_and (pe_cmpR op_eq (pe_isi (pv 0) rfl b.isi rfl b.int (c := "int") (by decide +kernel)) (pe_isi (pv 1) rfl b.isi rfl b.int (c := "int") (by decide +kernel)) (nomark _)) (pe_and (pe_isiT (pv 0) rfl b.isi rfl b.int rfl b.str) (pe_one (pe_cmpR op_eq (pv 0) (pv 1) (nomark _))))))) pss_nil)
      pss_never)), ?_⟩
    cases al with
    | non => exact ⟨_, rfl, _, rfl, iteT ⟨_, rfl, k H (Same.refl H)⟩⟩
    | bl _ c =>
      refine ⟨_, rfl, _, rfl, iteF ?_⟩
      refine rd_isi rfl (.base (.bl c)) (b := true) (by decide +kernel) ⟨_, rfl, iteT ?_⟩
      refine rd_isi rfl (.base (.bl c)) (b := true) (by decide +kernel) ⟨_, rfl, iteT ?_⟩
      refine rd_isi rfl (.base (.bl c)) (b := true) (by decide +kernel) ⟨_, rfl, iteT ?_⟩
      refine ⟨_, rfl, _, rfl, rfl, ?_⟩
      rw [decide_eq_true rfl]
      exact k H (Same.refl H)
    | int _ i =>
      refine ⟨_, rfl, _, rfl, iteF ?_⟩
      refine rd_isi rfl (.base (.int i)) (b := false) (by decide +kernel) ⟨_, rfl, iteF ?_⟩
      refine rd_isi rfl (.base (.int i)) (b := false) (by decide +kernel) ⟨_, rfl, iteF ?_⟩
      refine rd_isiT rfl (.base (.int i)) (by decide) (kIS (b := true) (b' := false) (by decide +kernel) (by decide +kernel)) fun H1 s1 => ⟨_, rfl, iteT ?_⟩
      refine rd_isi rfl (.base (.int i)) (b := true) (by decide +kernel) ?_
      refine rd_isi rfl (.base (.int i)) (b := true) (by decide +kernel) ⟨rfl, _, rfl, iteT ?_⟩
      refine rd_isiT rfl (.base (.int i)) (by decide) (kIS (b := true) (b' := false) (by decide +kernel) (by decide +kernel)) fun H2 s2 => ⟨_, rfl, iteT ?_⟩
      refine ⟨_, rfl, _, rfl, rfl, ?_⟩
      rw [decide_eq_true rfl]
      exact k H2 (s1.trans s2)
    | str _ z =>
      refine ⟨_, rfl, _, rfl, iteF ?_⟩
      refine rd_isi rfl (.base (.str z)) (b := false) (by decide +kernel) ⟨_, rfl, iteF ?_⟩
      refine rd_isi rfl (.base (.str z)) (b := false) (by decide +kernel) ⟨_, rfl, iteF ?_⟩
      refine rd_isiT rfl (.base (.str z)) (by decide) (kIS (b := false) (b' := true) (by decide +kernel) (by decide +kernel)) fun H1 s1 => ⟨_, rfl, iteT ?_⟩
      refine rd_isi rfl (.base (.str z)) (b := false) (by decide +kernel) ?_
      refine rd_isi rfl (.base (.str z)) (b := false) (by decide +kernel) ⟨rfl, _, rfl, iteT ?_⟩
      refine rd_isiT rfl (.base (.str z)) (by decide) (kIS (b := false) (b' := true) (by decide +kernel) (by decide +kernel)) fun H2 s2 => ⟨_, rfl, iteT ?_⟩
      refine ⟨_, rfl, _, rfl, rfl, ?_⟩
      rw [decide_eq_true rfl]
      exact k H2 (s1.trans s2)
theorem ok_sameS {f : Addr} {fd : FuncData} {n lv : Nat} (A1 : At K mg "_law_same" sSame ["_law_found", "_law_due"] f fd) (b : Blt mg) (G : FnOk P w K mg base CX0 lv f fd ["_law_found", "_law_due"] (spSame n)) : FnOk P w K mg base CX0 (lv + 1) f fd ["_law_found", "_law_due"] (spSame (n + 1)) := by
  have F := A1.fn
  refine F.ok scSame (fun vs H Q E h => ?_) (fun cdv A outer s H vs Q E hr h => ?_)
  · obtain ⟨x, y, rfl, _⟩ := h
    rfl
  · obtain ⟨x, y, rfl, al, k⟩ := h
    refine ⟨_, pss_cons (ps_if (pt_cmp (pc_isN (pv 1))) (pss_one (ps_ret (pe_cmp (pc_isN (pv 0))))) pss_nil)
      (pss_cons (ps_if (PW.pt (pw_or (pt_val (pe_isi (pv 1) rfl b.isi rfl b.bool (c := "bool") (by decide +kernel))) (pw_or1 (pt_val (pe_isi (pv 0) rfl b.isi rfl b.bool (c := "bool") (by decide +kernel))))))
        (pss_one (ps_ret (pe_and (pe_isi (pv 1) rfl b.isi rfl b.bool (c := "bool") (by decide +kernel)) (pe_and (pe_isi (pv 0) rfl b.isi rfl b.bool (c := "bool") (by decide +kernel)) (pe_one (pe_cmpR op_eq (pv 0) (pv 1) (nomark _))))))) pss_nil)
      (pss_cons (ps_if (pt_val (pe_isiT (pv 1) rfl b.isi rfl b.int rfl b.str))
        (pss_one (ps_ret (pe_and (pe_cmpR op_eq (pe_isi (pv 0) rfl b.isi rfl b.int (c := "int") (by decide +kernel)) (pe_isi (pv 1) rfl b.isi rfl b.int (c := "int") (by decide +kernel)) (nomark _)) (pe_and (pe_isiT (pv 0) rfl b.isi rfl b.int rfl b.str) (pe_one (pe_cmpR op_eq (pv 0) (pv 1) (nomark _))))))) pss_nil)
      (pss_cons (ps_if (PW.pt (pw_or (pt_cmpR op_ne (pe_isi (pv 0) rfl b.isi rfl b.list (c := "list") (by decide +kernel)) (pe_isi (pv 1) rfl b.isi rfl b.list (c := "list") (by decide +kernel)) (nomark _))
          (pw_or1 (pt_cmpR op_ne (pe_isi (pv 0) rfl b.isi rfl b.tuple (c := "tuple") (by decide +kernel)) (pe_isi (pv 1) rfl b.isi rfl b.tuple (c := "tuple") (by decide +kernel)) (nomark _)))))
        (pss_one (ps_ret pe_bl)) pss_nil)
      (pss_one (ps_ret (pe_and (pe_cmpR op_eq (pe_callB call_len_seq (by rfl) b.len PySem.boot_len (pa_cons (pv 0) pa_nil)) (pe_callB call_len_seq (by rfl) b.len PySem.boot_len (pa_cons (pv 1) pa_nil)) (nomark _))
        (pe_one (pe_callB (cr_all rfl) (by rfl) b.all (by decide +kernel) (pa_cons
          (pe_lc (own := [("_law_at", 2)]) (g := gName 2) (tt := tYes) (te := tCall (spSame n) [] E0 (tCons (tOp (rIx K) (tVar 0) (tVar 2)) (tCons (tOp (rIx K) (tVar 1) (tVar 2)) tNil))) rfl scSame.nd (pi_range1 rfl b.range (pa_cons (pe_callB call_len_seq (by rfl) b.len PySem.boot_len (pa_cons (pv 1) pa_nil)) pa_nil))
            (blkOk_by (N := ["_law_found", "_law_due", "_law_at"]) (sc := defScope sSame) (by decide +kernel)) (fun _ _ _ _ _ => pg_name (i := 2) scSame.nd rfl (.inl rfl)) (fun _ _ _ _ _ => pts_nil)
            (fun _ _ _ _ _ => pe_call G hr rfl A1.gl A1.fn.kp A1.bd .nil pass0 (pa_cons (pe_ix ix_seq (pv 0) (pv 2) fun _ _ => rfl) (pa_cons (pe_ix ix_seq (pv 1) (pv 2) fun _ _ => rfl) pa_nil)))) pa_nil)))))))))
      , ?_⟩
    cases al with
    | non => exact ⟨_, rfl, _, rfl, iteT ⟨_, rfl, k H (Same.refl H)⟩⟩
    | bl _ c =>
      refine ⟨_, rfl, _, rfl, iteF ?_⟩
      refine rd_isi rfl (.base (.bl c)) (b := true) (by decide +kernel) ⟨_, rfl, iteT ?_⟩
      refine rd_isi rfl (.base (.bl c)) (b := true) (by decide +kernel) ⟨_, rfl, iteT ?_⟩
      refine rd_isi rfl (.base (.bl c)) (b := true) (by decide +kernel) ⟨_, rfl, iteT ?_⟩
      refine ⟨_, rfl, _, rfl, rfl, ?_⟩
      rw [decide_eq_true rfl]
      exact k H (Same.refl H)
    | int _ i =>
      refine ⟨_, rfl, _, rfl, iteF ?_⟩
      refine rd_isi rfl (.base (.int i)) (b := false) (by decide +kernel) ⟨_, rfl, iteF ?_⟩
      refine rd_isi rfl (.base (.int i)) (b := false) (by decide +kernel) ⟨_, rfl, iteF ?_⟩
      refine rd_isiT rfl (.base (.int i)) (by decide) (kIS (b := true) (b' := false) (by decide +kernel) (by decide +kernel)) fun H1 s1 => ⟨_, rfl, iteT ?_⟩
      refine rd_isi rfl (.base (.int i)) (b := true) (by decide +kernel) ?_
      refine rd_isi rfl (.base (.int i)) (b := true) (by decide +kernel) ⟨rfl, _, rfl, iteT ?_⟩
      refine rd_isiT rfl (.base (.int i)) (by decide) (kIS (b := true) (b' := false) (by decide +kernel) (by decide +kernel)) fun H2 s2 => ⟨_, rfl, iteT ?_⟩
      refine ⟨_, rfl, _, rfl, rfl, ?_⟩
      rw [decide_eq_true rfl]
      exact k H2 (s1.trans s2)
    | str _ z =>
      refine ⟨_, rfl, _, rfl, iteF ?_⟩
      refine rd_isi rfl (.base (.str z)) (b := false) (by decide +kernel) ⟨_, rfl, iteF ?_⟩
      refine rd_isi rfl (.base (.str z)) (b := false) (by decide +kernel) ⟨_, rfl, iteF ?_⟩
      refine rd_isiT rfl (.base (.str z)) (by decide) (kIS (b := false) (b' := true) (by decide +kernel) (by decide +kernel)) fun H1 s1 => ⟨_, rfl, iteT ?_⟩
      refine rd_isi rfl (.base (.str z)) (b := false) (by decide +kernel) ?_
      refine rd_isi rfl (.base (.str z)) (b := false) (by decide +kernel) ⟨rfl, _, rfl, iteT ?_⟩
      refine rd_isiT rfl (.base (.str z)) (by decide) (kIS (b := false) (b' := true) (by decide +kernel) (by decide +kernel)) fun H2 s2 => ⟨_, rfl, iteT ?_⟩
      refine ⟨_, rfl, _, rfl, rfl, ?_⟩
      rw [decide_eq_true rfl]
      exact k H2 (s1.trans s2)
    | @lst _ a c xs ys ha hc hl hz hh =>
      have tyA : ∀ H', Same H H' → TyX K H' (.ref a) (.type "list") := fun H' s' => .base (.lst (s' _ _ ha))
      have tyC : ∀ H', Same H H' → TyX K H' (.ref c) (.type "list") := fun H' s' => .base (.lst (s' _ _ hc))
      refine ⟨_, rfl, _, rfl, iteF ?_⟩
      refine rd_isi rfl (tyC H (Same.refl H)) (b := false) (by decide +kernel) ⟨_, rfl, iteF ?_⟩
      refine rd_isi rfl (tyA H (Same.refl H)) (b := false) (by decide +kernel) ⟨_, rfl, iteF ?_⟩
      refine rd_isiT rfl (tyC H (Same.refl H)) (by decide) (kIS (b := false) (b' := false) (by decide +kernel) (by decide +kernel)) fun H1 s1 => ⟨_, rfl, iteF ?_⟩
      refine rd_isi rfl (tyA H1 s1) (b := true) (by decide +kernel) ?_
      refine rd_isi rfl (tyC H1 s1) (b := true) (by decide +kernel) ⟨rfl, _, rfl, iteF ?_⟩
      refine rd_isi rfl (tyA H1 s1) (b := false) (by decide +kernel) ?_
      refine rd_isi rfl (tyC H1 s1) (b := false) (by decide +kernel) ⟨rfl, _, rfl, iteF ?_⟩
      refine ⟨_, rfl, a, xs, rfl, .inl (SqL.of (s1 _ _ ha)), _, rfl, c, ys, rfl, .inl (SqL.of (s1 _ _ hc)), rfl, _, rfl, ?_⟩
      rw [hl, decide_eq_true rfl]
      refine iteT ?_
      refine ⟨_, rfl, c, ys, rfl, .inl (SqL.of (s1 _ _ hc)), (ys.length : Int), rfl, by omega, by omega, fun D hD => ?_⟩
      rw [Int.toNat_natCast]
      refine lc_range (lo := 0) (n := ys.length) (fun i H' => Same H1 H' ∧ H' D = some (.lst ((List.replicate i true).map V.bl))) ⟨same_new hD, upd_same⟩ ?_ ?_
      · rintro i H2 hi ⟨s2, h2⟩
        refine ⟨rfl, ?_⟩
        refine iteT (B := Same H1 H2 ∧ H2 D = some (HO.lst ((List.replicate (i + 1) true).map V.bl))) ?_
        have hx : xs[i]? = some (xs[i]'(by omega)) := List.getElem?_eq_getElem _
        have hy : ys[i]? = some (ys[i]'hi) := List.getElem?_eq_getElem _
        have e00 : (0 : Int) + (i : Int) = (i : Int) := Int.zero_add _
        refine ⟨_, rfl, _, rfl, .inl ⟨a, xs, _, _, rfl, rfl, SqL.of (s2 _ _ (s1 _ _ ha)), (by rw [e00]; exact atI_nat hx), ?_⟩⟩
        refine ⟨_, rfl, _, rfl, .inl ⟨c, ys, _, _, rfl, rfl, SqL.of (s2 _ _ (s1 _ _ hc)), (by rw [e00]; exact atI_nat hy), ?_⟩⟩
        refine ⟨_, _, rfl, (hh i _ _ hx hy).same (s1.trans s2), fun H3 s3 => ?_⟩
        refine ⟨_, s3 _ _ h2, ?_, ?_, ?_⟩
        · rw [List.length_map, List.length_replicate]
          exact Nat.lt_of_lt_of_le (by omega : i < 1001) (by decide)
        · intro q o e
          have nq : q ≠ D := fun z => by
            rw [z, hD] at e
            cases e
          rw [upd_ne nq]
          exact s3 _ _ (s2 _ _ e)
        · rw [upd_same, List.replicate_succ', List.map_append]
          rfl
      · rintro H2 ⟨s2, h2⟩
        refine ⟨D, _, rfl, SqL.of h2, ?_⟩
        rw [show (List.replicate ys.length true).all id = true by simp]
        exact k H2 (s1.trans s2)
    | @tup _ a c xs ys ha hc hl hz hh =>
      have tyA : ∀ H', Same H H' → TyX K H' (.ref a) (.type "tuple") := fun H' s' => .base (.tup (s' _ _ ha))
      have tyC : ∀ H', Same H H' → TyX K H' (.ref c) (.type "tuple") := fun H' s' => .base (.tup (s' _ _ hc))
      refine ⟨_, rfl, _, rfl, iteF ?_⟩
      refine rd_isi rfl (tyC H (Same.refl H)) (b := false) (by decide +kernel) ⟨_, rfl, iteF ?_⟩
      refine rd_isi rfl (tyA H (Same.refl H)) (b := false) (by decide +kernel) ⟨_, rfl, iteF ?_⟩
      refine rd_isiT rfl (tyC H (Same.refl H)) (by decide) (kIS (b := false) (b' := false) (by decide +kernel) (by decide +kernel)) fun H1 s1 => ⟨_, rfl, iteF ?_⟩
      refine rd_isi rfl (tyA H1 s1) (b := false) (by decide +kernel) ?_
      refine rd_isi rfl (tyC H1 s1) (b := false) (by decide +kernel) ⟨rfl, _, rfl, iteF ?_⟩
      refine rd_isi rfl (tyA H1 s1) (b := true) (by decide +kernel) ?_
      refine rd_isi rfl (tyC H1 s1) (b := true) (by decide +kernel) ⟨rfl, _, rfl, iteF ?_⟩
      refine ⟨_, rfl, a, xs, rfl, .inr (SqT.of (s1 _ _ ha)), _, rfl, c, ys, rfl, .inr (SqT.of (s1 _ _ hc)), rfl, _, rfl, ?_⟩
      rw [hl, decide_eq_true rfl]
      refine iteT ?_
      refine ⟨_, rfl, c, ys, rfl, .inr (SqT.of (s1 _ _ hc)), (ys.length : Int), rfl, by omega, by omega, fun D hD => ?_⟩
      rw [Int.toNat_natCast]
      refine lc_range (lo := 0) (n := ys.length) (fun i H' => Same H1 H' ∧ H' D = some (.lst ((List.replicate i true).map V.bl))) ⟨same_new hD, upd_same⟩ ?_ ?_
      · rintro i H2 hi ⟨s2, h2⟩
        refine ⟨rfl, ?_⟩
        refine iteT (B := Same H1 H2 ∧ H2 D = some (HO.lst ((List.replicate (i + 1) true).map V.bl))) ?_
        have hx : xs[i]? = some (xs[i]'(by omega)) := List.getElem?_eq_getElem _
        have hy : ys[i]? = some (ys[i]'hi) := List.getElem?_eq_getElem _
        have e00 : (0 : Int) + (i : Int) = (i : Int) := Int.zero_add _
        refine ⟨_, rfl, _, rfl, .inr (.inl ⟨a, xs, _, _, rfl, rfl, SqT.of (s2 _ _ (s1 _ _ ha)), (by rw [e00]; exact atI_nat hx), ?_⟩)⟩
        refine ⟨_, rfl, _, rfl, .inr (.inl ⟨c, ys, _, _, rfl, rfl, SqT.of (s2 _ _ (s1 _ _ hc)), (by rw [e00]; exact atI_nat hy), ?_⟩)⟩
        refine ⟨_, _, rfl, (hh i _ _ hx hy).same (s1.trans s2), fun H3 s3 => ?_⟩
        refine ⟨_, s3 _ _ h2, ?_, ?_, ?_⟩
        · rw [List.length_map, List.length_replicate]
          exact Nat.lt_of_lt_of_le (by omega : i < 1001) (by decide)
        · intro q o e
          have nq : q ≠ D := fun z => by
            rw [z, hD] at e
            cases e
          rw [upd_ne nq]
          exact s3 _ _ (s2 _ _ e)
        · rw [upd_same, List.replicate_succ', List.map_append]
          rfl
      · rintro H2 ⟨s2, h2⟩
        refine ⟨D, _, rfl, SqL.of h2, ?_⟩
        rw [show (List.replicate ys.length true).all id = true by simp]
        exact k H2 (s1.trans s2)
/-- to any depth -/
theorem ok_same {f : Addr} {fd : FuncData} (A1 : At K mg "_law_same" sSame ["_law_found", "_law_due"] f fd) (b : Blt mg) : ∀ n : Nat, FnOk P w K mg base CX0 (n + 1) f fd ["_law_found", "_law_due"] (spSame n)
  | 0 => ok_same0 A1.fn b
  | n + 1 => ok_sameS A1 b (ok_same A1 b n)
end
end VQ
namespace VQ
open PySem L2 LamX
/-! ### walks over a text -/
theorem lc_text {z : Str} {g : TG} {tt : TT} {te : TE} {vs : List Nat} {σ : L2.St} {H1 : Hp} {D : Addr} {Qd : Hp → Prop} (Pv : Nat → Hp → Prop) (h0 : Pv 0 (upd H1 D (.lst [])))
    (turn : ∀ (i c : Nat) (H : Hp), z.cps[i]? = some c → Pv i H → g (.str ⟨#[c]⟩) (wipe σ vs) H fun σ2 H2 => wipe σ2 vs = wipe σ vs ∧ tt σ2 H2 fun b H3 => if b = true then te σ2 H3 fun y H4 => ∃ acc, H4 D = some (.lst acc) ∧ acc.length < sizeLine ∧ Pv (i + 1) (upd H4 D (.lst (acc ++ [y]))) else Pv (i + 1) H3)
    (fin : ∀ H, Pv z.cps.size H → Qd H) :
    ∃ W : Nat → Nat → Hp → Prop, (∃ m, W 0 m (upd H1 D (.lst []))) ∧ ∀ i m H, W i m H → ((Its z).stop i H ∧ Qd H) ∨ ((Its z).go i H ∧ ∃ Nx : Hp → Prop, (∀ H', Nx H' → ∃ m', m' < m ∧ W (i + 1) m' H') ∧
      ∀ x H', (Its z).yld i H x H' → g x (wipe σ vs) H' fun σ2 H2 => wipe σ2 vs = wipe σ vs ∧ tt σ2 H2 fun b H3 => if b = true then te σ2 H3 fun y H4 => ∃ acc, H4 D = some (.lst acc) ∧ acc.length < sizeLine ∧ Nx (upd H4 D (.lst (acc ++ [y]))) else Nx H3) := by
  refine ⟨fun i m H => m + i = z.cps.size ∧ Pv i H, ⟨z.cps.size, by simp, h0⟩, ?_⟩
  rintro i m H ⟨em, p⟩
  by_cases lt : i < z.cps.size
  · refine .inr ⟨lt, Pv (i + 1), fun H' p' => ⟨m - 1, by omega, by omega, p'⟩, ?_⟩
    rintro x H' ⟨rfl, c, ec, rfl⟩
    exact turn i c H' ec p
  · have e : i = z.cps.size := by omega
    subst e
    exact .inl ⟨Nat.le_refl _, fin H p⟩
theorem for_text {z : Str} {g : TG} {tb : TS} {D : Ends} {σ : L2.St} {H : Hp} (Pv : Nat → L2.St → Hp → Prop) (h0 : Pv 0 σ H)
    (turn : ∀ (i c : Nat) σ H, z.cps[i]? = some c → Pv i σ H → g (.str ⟨#[c]⟩) σ H fun σ2 H2 => tb { D with nx := Pv (i + 1), ct := Pv (i + 1), bk := D.nx } σ2 H2) (fin : ∀ σ H, Pv z.cps.size σ H → D.nx σ H) :
    ∃ W : Nat → Nat → L2.St → Hp → Prop, (∃ m, W 0 m σ H) ∧ ∀ i m σ H, W i m σ H → ((Its z).stop i H ∧ D.nx σ H) ∨ ((Its z).go i H ∧ ∃ Nx : L2.St → Hp → Prop, (∀ σ' H', Nx σ' H' → ∃ m', m' < m ∧ W (i + 1) m' σ' H') ∧
      ∀ x H', (Its z).yld i H x H' → g x σ H' fun σ2 H2 => tb { D with nx := Nx, ct := Nx, bk := D.nx } σ2 H2) := by
  refine ⟨fun i m σ H => m + i = z.cps.size ∧ Pv i σ H, ⟨z.cps.size, by simp, h0⟩, ?_⟩
  rintro i m σ H ⟨em, p⟩
  by_cases lt : i < z.cps.size
  · refine .inr ⟨lt, Pv (i + 1), fun σ' H' p' => ⟨m - 1, by omega, by omega, p'⟩, ?_⟩
    rintro x H' ⟨rfl, c, ec, rfl⟩
    exact turn i c σ H' ec p
  · have e : i = z.cps.size := by omega
    subst e
    exact .inl ⟨Nat.le_refl _, fin σ H p⟩
/-! ### beginnings: the sixty-three of them -/
def tk (z : Str) (k : Nat) : Str := ⟨(z.cps.toList.take k).toArray⟩
def begs : List Str := (List.range 6).flatMap fun k => (List.range (2 ^ k)).map fun j => tk (fig (j * 2 ^ (5 - k))) k
theorem tk_in : ∀ w, w < 32 → ∀ k, k < 6 → tk (fig w) k ∈ begs := by decide +kernel
def signB (c : Nat) : Bool := decide (c ∈ [48, 49])
def begB : V → Bool
  | .str z => decide (z.length ≤ 5) && z.cps.toList.all signB
  | _ => false
theorem begs_yes : ∀ z ∈ begs, begB (.str z) = true := by decide +kernel
theorem begs_len : ∀ z ∈ begs, z.length ≤ 5 := by decide +kernel
abbrev calledAs (nm : Str) : HO := .xd [(("called" : Str), .str nm)]
/-- a comprehension without a test -/
theorem yes_turn {σ : L2.St} {H : Hp} {A B : Hp → Prop} (h : A H) : tYes σ H fun b H3 => if b = true then A H3 else B H3 := by
  show if true = true then A H else B H
  rw [if_pos rfl]
  exact h
end VQ
namespace VQ
open PySem L2 LamX
abbrev sIsBeg : Stmt := top 16
section
variable {P : Program} {w : World} {K : PySem.W.Frag} {mg : Str → Option Value} {base : Heap}
/-- a text is no longer than can be read -/
def Short : V → Prop
  | .str z => z.length ≤ 1000
  | _ => True
def spIsBeg (K : PySem.W.Frag) : Sp := fun vs H Q _ => ∃ (x : V) (t : String), vs = [x] ∧ TyX K H x (.type t) ∧ t ∈ basics ∧ Short x ∧ ∀ H', Same H H' → Q (.bl (begB x)) H'
theorem scIsBeg : FnScope ["thing", "sign"] ["thing"] (defScope sIsBeg) := ⟨rfl, rfl, rfl, by decide +kernel, rfl, by decide +kernel, by decide +kernel⟩
theorem ok_isbeg {f : Addr} {fd : FuncData} {tk5 : Tok} (F : Fun K "is_beginning" "is_beginning" sIsBeg f fd) (b : Blt mg) (Fg : mg "FIGURES" = some (.int 5 tk5)) : FnOk P w K mg base CX0 1 f fd ["thing"] (spIsBeg K) := by
  refine F.ok scIsBeg (fun vs H Q E h => ?_) (fun cdv A outer s H vs Q E hr h => ?_)
  · obtain ⟨x, t, rfl, _⟩ := h
    rfl
  · obtain ⟨x, t, rfl, ty, m, sh, k⟩ := h
    refine ⟨_, pss_one (ps_ret (pe_and (pe_isi (pv 0) rfl b.isi rfl b.str (c := "str") (by decide +kernel))
      (pe_and (pe_cmpR op_le (pe_callB call_len_str (by rfl) b.len PySem.boot_len (pa_cons (pv 0) pa_nil)) (pe_glob (v := .int 5) rfl Fg ⟨_, rfl⟩) (nomark _))
      (pe_one (pe_callB (cr_all rfl) (by rfl) b.all (by decide +kernel) (pa_cons
        (pe_lc (own := [("sign", 1)]) (g := gName 1) (tt := tYes) (te := tOp (fun x y H Q => ∃ (c : Nat) (z : Str), x = .str ⟨#[c]⟩ ∧ y = .str z ∧ Q (.bl (decide (c ∈ z.cps.toList))) H) (tVar 1) (tC (.str "01"))) rfl scIsBeg.nd (pi_str (pv 0))
          (blkOk_by (N := ["thing", "sign"]) (sc := defScope sIsBeg) (by decide +kernel)) (fun _ _ _ _ _ => pg_name (i := 1) scIsBeg.nd rfl (.inl rfl)) (fun _ _ _ _ _ => pts_nil)
          (fun _ _ _ _ _ => pe_cmpR op_in_sign (pv 1) pe_str rfl)) pa_nil)))))), ?_⟩
    rcases basic_cases ty m with ⟨rfl, rfl⟩ | ⟨c, rfl, rfl⟩ | ⟨i, rfl, rfl⟩ | ⟨z, rfl, rfl⟩ | ⟨a, rfl, rfl | rfl⟩
    · exact rd_isi rfl ty (b := false) (by decide +kernel) ⟨_, rfl, iteF (k H (Same.refl H))⟩
    · exact rd_isi rfl ty (b := false) (by decide +kernel) ⟨_, rfl, iteF (k H (Same.refl H))⟩
    · exact rd_isi rfl ty (b := false) (by decide +kernel) ⟨_, rfl, iteF (k H (Same.refl H))⟩
    · have sh' : z.length ≤ 1000 := sh
      refine rd_isi rfl ty (b := true) (by decide +kernel) ⟨_, rfl, iteT ?_⟩
      refine ⟨_, rfl, z, rfl, Nat.le_trans sh' (by decide), (z.length : Int), 5, rfl, rfl, _, rfl, ?_⟩
      by_cases le : z.length ≤ 5
      · rw [if_pos (decide_eq_true (show (z.length : Int) ≤ 5 by omega))]
        have e : begB (.str z) = z.cps.toList.all signB := by
          show (decide (z.length ≤ 5) && z.cps.toList.all signB) = _
          rw [decide_eq_true le, Bool.true_and]
        rw [e] at k
        refine ⟨_, rfl, z, rfl, fun D hD => ?_⟩
        refine lc_text (fun i H' => Same H H' ∧ H' D = some (.lst (((z.cps.toList.take i).map signB).map V.bl))) ⟨same_new hD, upd_same⟩ ?_ ?_
        · rintro i c H2 hc ⟨s2, h2⟩
          have hi : i < z.cps.size := (Array.getElem?_eq_some_iff.mp hc).1
          refine ⟨rfl, ?_⟩
          refine iteT (B := Same H H2 ∧ H2 D = some (.lst (((z.cps.toList.take (i + 1)).map signB).map V.bl))) ?_
          refine ⟨_, rfl, c, "01", rfl, rfl, _, h2, ?_, ?_, ?_⟩
          · rw [List.length_map, List.length_map, List.length_take]
            exact Nat.lt_of_le_of_lt (Nat.min_le_left _ _) (Nat.lt_of_lt_of_le (show i < 1001 by have : z.cps.size = z.length := rfl; omega) (by decide))
          · intro q o z'
            have nq : q ≠ D := fun y => by
              rw [y, hD] at z'
              cases z'
            rw [upd_ne nq]
            exact s2 _ _ z'
          · rw [upd_same, List.take_add_one, show z.cps.toList[i]? = some c by rw [Array.getElem?_toList]; exact hc, List.map_append, List.map_append]
            rfl
        · rintro H2 ⟨s2, h2⟩
          refine ⟨D, _, rfl, SqL.of h2, ?_⟩
          have e2 : ((z.cps.toList.take z.cps.size).map signB).all id = z.cps.toList.all signB := by
            rw [List.take_of_length_le (by simp), List.all_map]
            rfl
          rw [e2]
          exact k H2 s2
      · rw [if_neg (by simpa using (show ¬ (z.length : Int) ≤ 5 by omega))]
        have e : begB (.str z) = false := by
          show (decide (z.length ≤ 5) && _) = false
          rw [decide_eq_false le, Bool.false_and]
        rw [e] at k
        exact k H (Same.refl H)
    · exact rd_isi rfl ty (b := false) (by decide +kernel) ⟨_, rfl, iteF (k H (Same.refl H))⟩
    · exact rd_isi rfl ty (b := false) (by decide +kernel) ⟨_, rfl, iteF (k H (Same.refl H))⟩
end
end VQ
namespace VQ
open PySem L2 LamX
def lastC (z : Str) : Nat := z.cps.toList.getLastD 0
def dropL (z : Str) : Str := ⟨z.cps.toList.dropLast.toArray⟩
def flip (c : Nat) : Str := if c = 48 then "1" else "0"
def bro (z : Str) : Str := dropL z ++ flip (lastC z)
theorem bro_cut : ∀ z ∈ begs, z ≠ ("" : Str) → atI z.cps.toList (-1) = some (lastC z) ∧ cutS z none (some (-1)) = dropL z ∧ (dropL z).length ≤ 5 ∧ (lastC z = 48 ∨ lastC z = 49) := by decide +kernel
theorem bro_in : ∀ z ∈ begs, z ≠ ("" : Str) → bro z ∈ begs ∧ bro z ≠ ("" : Str) ∧ bro (bro z) = z := by decide +kernel
theorem cut_to (z : Str) (k : Nat) : cutS z none (some (k : Int)) = tk z k := by
  unfold cutS tk
  rw [HT.sIx_none, HT.sIx_nat, List.drop_zero, Nat.sub_zero, show z.length = z.cps.toList.length by simp [Str.length]]
  by_cases le : k ≤ z.cps.toList.length
  · rw [Nat.min_eq_left le]
  · have le' : z.cps.toList.length ≤ k := by omega
    rw [Nat.min_eq_right le', List.take_of_length_le (Nat.le_refl _), List.take_of_length_le le']
end VQ
namespace VQ
open PySem L2 LamX
/-! ### beginnings by their signs -/
theorem begB_iff {z : Str} : begB (.str z) = true ↔ z.length ≤ 5 ∧ ∀ c ∈ z.cps.toList, signB c = true := by
  show (decide (z.length ≤ 5) && z.cps.toList.all signB) = true ↔ _
  rw [Bool.and_eq_true, decide_eq_true_eq, List.all_eq_true]
theorem sign_two {c : Nat} (h : signB c = true) : c = 48 ∨ c = 49 := by
  have := of_decide_eq_true h
  simpa using this
theorem begs_list : ∀ l : List Nat, l.length ≤ 5 → (∀ c ∈ l, signB c = true) → (⟨l.toArray⟩ : Str) ∈ begs
  | [], _, _ => by decide +kernel
  | [a], _, h => by
    rcases sign_two (h a (by simp)) with rfl | rfl <;> decide +kernel
  | [a, b], _, h => by
    rcases sign_two (h a (by simp)) with rfl | rfl <;> rcases sign_two (h b (by simp)) with rfl | rfl <;> decide +kernel
  | [a, b, c], _, h => by
    rcases sign_two (h a (by simp)) with rfl | rfl <;> rcases sign_two (h b (by simp)) with rfl | rfl <;> rcases sign_two (h c (by simp)) with rfl | rfl <;> decide +kernel
  | [a, b, c, d], _, h => by
    rcases sign_two (h a (by simp)) with rfl | rfl <;> rcases sign_two (h b (by simp)) with rfl | rfl <;> rcases sign_two (h c (by simp)) with rfl | rfl <;> rcases sign_two (h d (by simp)) with rfl | rfl <;> decide +kernel
  | [a, b, c, d, e], _, h => by
    rcases sign_two (h a (by simp)) with rfl | rfl <;> rcases sign_two (h b (by simp)) with rfl | rfl <;> rcases sign_two (h c (by simp)) with rfl | rfl <;> rcases sign_two (h d (by simp)) with rfl | rfl <;> rcases sign_two (h e (by simp)) with rfl | rfl <;> decide +kernel
  | _ :: _ :: _ :: _ :: _ :: _ :: _, h, _ => absurd h (by simp)
theorem beg_mem {z : Str} (h1 : z.length ≤ 5) (h2 : ∀ c ∈ z.cps.toList, signB c = true) : z ∈ begs := by
  have e : z = ⟨z.cps.toList.toArray⟩ := StrLaws.mk_of_toList rfl
  rw [e]
  exact begs_list _ (by simpa [Str.length] using h1) h2
theorem beg_signs {z : Str} (h : z ∈ begs) : ∀ c ∈ z.cps.toList, signB c = true := (begB_iff.mp (begs_yes z h)).2
theorem sign_bit (n : Nat) : signB (48 + n % 2) = true := by
  rcases Nat.mod_two_eq_zero_or_one n with h | h <;> rw [h] <;> rfl
theorem figLow_signs (w : Nat) : ∀ i, ∀ c ∈ (figLow w i).cps.toList, signB c = true
  | 0, c, m => by cases m
  | i + 1, c, m => by
    have m' : c ∈ (#[48 + w / 2 ^ i % 2] ++ (figLow w i).cps).toList := m
    rw [Array.toList_append] at m'
    rcases List.mem_append.mp m' with m | m
    · have e : c = 48 + w / 2 ^ i % 2 := by simpa using m
      rw [e]
      exact sign_bit _
    · exact figLow_signs w i c m
theorem fig_signs (w : Nat) : ∀ c ∈ (fig w).cps.toList, signB c = true := figLow_signs w 5
theorem fig_len (w : Nat) : (fig w).length = 5 := figLow_len w 5
theorem fig_in (w : Nat) : fig w ∈ begs := beg_mem (by rw [fig_len]; decide) (fig_signs w)
theorem tk_list (z : Str) (k : Nat) : (tk z k).cps.toList = z.cps.toList.take k := by simp [tk]
theorem tk_len (z : Str) (k : Nat) : (tk z k).length = min k z.length := by simp [tk, Str.length]
theorem tk_beg {z : Str} (h : ∀ c ∈ z.cps.toList, signB c = true) {k : Nat} (hk : k ≤ 5) : tk z k ∈ begs := by
  refine beg_mem (by rw [tk_len]; omega) fun c m => ?_
  rw [tk_list] at m
  exact h c (List.mem_of_mem_take m)
theorem app_signs {a b : Str} (ha : ∀ c ∈ a.cps.toList, signB c = true) (hb : ∀ c ∈ b.cps.toList, signB c = true) : ∀ c ∈ (a ++ b).cps.toList, signB c = true := fun c m => by
  rw [Str.cps_append, Array.toList_append] at m
  rcases List.mem_append.mp m with m | m
  · exact ha c m
  · exact hb c m
theorem m_tk (z : Str) (h : z ∈ begs) (k : Nat) (hk : k < 6) : tk z k ∈ begs := tk_beg (beg_signs h) (by omega)
theorem m_more (z : Str) (h : z ∈ begs) (w : Nat) (_ : w < 32) : tk (z ++ fig w) 5 ∈ begs ∧ (z ++ fig w).length ≤ 10 := by
  refine ⟨tk_beg (app_signs (beg_signs h) (fig_signs w)) (Nat.le_refl 5), ?_⟩
  rw [Str.length_append, fig_len]
  have := begs_len z h
  omega
/-- z begins with u, by the law -/
def beginsB (z u : Str) : Bool := decide (tk z u.length = u)
theorem st_eq (a b : Str) : Txt.startswith a b = beginsB a b := by
  unfold Txt.startswith beginsB
  rw [StrLaws.subAt_eq, List.drop_zero, Bool.eq_iff_iff, Bool.and_eq_true, decide_eq_true_eq, decide_eq_true_eq, beq_iff_eq]
  constructor
  · rintro ⟨_, e⟩
    have q : (tk a b.length).cps.toList = b.cps.toList := by rw [tk_list]; exact e
    exact Str.ext' (Array.toList_inj.mp q)
  · intro e
    have q : (tk a b.length).cps.toList = b.cps.toList := by rw [e]
    rw [tk_list] at q
    refine ⟨?_, q⟩
    have l := congrArg List.length q
    rw [List.length_take] at l
    have l1 : b.cps.toList.length = b.length := by simp [Str.length]
    have l2 : a.cps.toList.length = a.length := by simp [Str.length]
    omega
theorem begins_len {a b : Str} (h : beginsB a b = true) : b.length ≤ a.length := by
  have e := congrArg Str.length (of_decide_eq_true h)
  rw [tk_len] at e
  omega
theorem tk_all (a : Str) : tk a a.length = a := by
  refine Str.ext' (Array.toList_inj.mp ?_)
  rw [tk_list]
  exact List.take_of_length_le (by simp [Str.length])
theorem begins_eq {a b : Str} (h : beginsB a b = true) (l : a.length ≤ b.length) : a = b := by
  have e := of_decide_eq_true h
  rw [show b.length = a.length by have := begins_len h; omega, tk_all] at e
  exact e
theorem begins_self (a : Str) : beginsB a a = true := decide_eq_true (tk_all a)
end VQ
namespace VQ
open PySem L2 LamX
abbrev sBegin : Stmt := top 35
theorem cut_tk : ∀ w, w < 32 → ∀ k : Nat, k < 6 → cutS (fig w) none (some (k : Int)) = tk (fig w) k := by decide +kernel
section
variable {P : Program} {w : World} {K : PySem.W.Frag} {mg : Str → Option Value} {base : Heap}
def spBegin : Sp := fun vs H Q _ => ∃ b : Addr, vs = [.ref b] ∧ Bag H b ∧ ∀ (z : Str) (H' : Hp), z ∈ begs → Bag H' b → Keep b H H' → Q (.str z) H'
theorem scBegin : FnScope ["_law_bag_here", "_law_size"] ["_law_bag_here"] (defScope sBegin) := ⟨rfl, rfl, rfl, by decide +kernel, rfl, by decide +kernel, by decide +kernel⟩
theorem ok_begin {f fP fO fW fG : Addr} {fd fdP fdO fdW fdG : FuncData} (F : Fun K "_law_begin" "_law_begin" sBegin f fd) (b : Blt mg) (aP : At K mg "_law_pull" sPull ["_law_bag_here", "_law_size"] fP fdP) (aO : At K mg "_law_of" sOf ["_law_bag_here", "_law_some"] fO fdO)
    (aW : At K mg "_law_worth" sWorth ["_law_bag_here"] fW fdW) (aG : At K mg "_law_figs" sFigs ["_law_worth_here"] fG fdG) : FnOk P w K mg base CX0 4 f fd ["_law_bag_here"] spBegin := by
  have GO : FnOk P w K mg base CX0 2 fO fdO ["_law_bag_here", "_law_some"] (spOf K) := ok_of aO.fn b.len aP
  have GW : FnOk P w K mg base CX0 3 fW fdW ["_law_bag_here"] (spDraw fun i => 0 ≤ i ∧ i < 32) := ok_worth aW.fn b.len aP aO
  have GG : FnOk P w K mg base CX0 1 fG fdG ["_law_worth_here"] spFigs := ok_figs aG.fn b.range b.str
  refine F.ok scBegin (fun vs H Q E h => ?_) (fun cdv A outer s H vs Q E hr h => ?_)
  · obtain ⟨bg, rfl, _⟩ := h
    rfl
  · obtain ⟨bg, rfl, B, k⟩ := h
    have hr1 : Room 1 _ := hr.mono (by decide)
    have hr2 : Room 2 _ := hr.mono (by decide)
    refine ⟨_, pss_cons (ps_set (i := 1) scBegin.nd rfl (.inl rfl) (pe_call GO hr2 rfl aO.gl aO.fn.kp aO.bd .nil pass0 (pa_cons (pv 0) (pa_cons (pe_lst (pa_cons pe_int (pa_cons pe_int (pa_cons pe_int (pa_cons pe_int (pa_cons pe_int (pa_cons pe_int (pa_cons pe_int pa_nil)))))))) pa_nil))))
      (pss_one (ps_ret (pe_slice sl_str (pe_call GG hr1 rfl aG.gl aG.fn.kp aG.bd .nil pass0 (pa_cons (pe_call GW hr rfl aW.gl aW.fn.kp aW.bd .nil pass0 (pa_cons (pv 0) pa_nil)) pa_nil)) po_none (po_some (pv 1))))), ?_⟩
    refine ⟨_, rfl, by show 7 ≤ sizeLine; decide, fun p hp => ?_⟩
    have sm := same_new (o := HO.lst [.int 0, .int 0, .int 1, .int 2, .int 3, .int 4, .int 5]) hp
    refine ⟨bg, p, _, rfl, B.same sm, B.ne hp, SqL.of upd_same, by show 1 ≤ 7; decide, by show 7 < 1000; decide, fun v H1 mem B1 k1 => ?_⟩
    obtain ⟨n, rfl, hn⟩ : ∃ n : Nat, v = .int (n : Int) ∧ n < 6 := by
      rcases List.mem_cons.mp mem with rfl | mem
      · exact ⟨0, rfl, by decide⟩
      rcases List.mem_cons.mp mem with rfl | mem
      · exact ⟨0, rfl, by decide⟩
      rcases List.mem_cons.mp mem with rfl | mem
      · exact ⟨1, rfl, by decide⟩
      rcases List.mem_cons.mp mem with rfl | mem
      · exact ⟨2, rfl, by decide⟩
      rcases List.mem_cons.mp mem with rfl | mem
      · exact ⟨3, rfl, by decide⟩
      rcases List.mem_cons.mp mem with rfl | mem
      · exact ⟨4, rfl, by decide⟩
      rcases List.mem_cons.mp mem with rfl | mem
      · exact ⟨5, rfl, by decide⟩
      · cases mem
    refine ⟨_, rfl, bg, rfl, B1, fun i H2 hi B2 k2 => ?_⟩
    obtain ⟨wt, rfl⟩ := Int.eq_ofNat_of_zero_le hi.1
    have hw : wt < 32 := by omega
    refine ⟨wt, rfl, _, rfl, _, rfl, _, rfl, by rw [fig, figLow_len]; decide, ?_⟩
    rw [cut_tk wt hw n hn]
    exact k _ H2 (tk_in wt hw n hn) B2 (Keep.trans (Keep.trans (Same.keep sm) k1) k2)
end
end VQ
namespace VQ
open PySem L2 LamX
/-! ### what the laws' own bodies share -/
theorem Tabs.keep {T : List (Addr × Str)} {H H' : Hp} {b : Addr} (t : Tabs T H) (B : Bag H b) (k : Keep b H H') : Tabs T H' := fun p hp => by
  obtain ⟨l, ns, i, r, x, n, nl, h1, _⟩ := B
  obtain ⟨ps, a1, a2, a3⟩ := t p hp
  refine ⟨ps, k.1 _ _ (fun z => ?_) a1, a2, fun pos cv hc => ?_⟩
  · rw [z, h1] at a1
    cases a1
  · obtain ⟨c, e1, e2⟩ := a3 pos cv hc
    refine ⟨c, e1, k.1 _ _ (fun z => ?_) e2⟩
    rw [z, h1] at e2
    cases e2
theorem Bag.extN {H H' : Hp} {b : Addr} (B : Bag H b) (e : ExtN H H') : Bag H' b := by
  obtain ⟨l, ns, i, r, x, n, nl, h1, h2, h3⟩ := B
  exact ⟨l, ns, i, r, x, n, nl, e _ _ h1 (fun ps z => by cases z), e _ _ h2 (fun ps z => by cases z), h3⟩
theorem passCX {X : Cx} : Passes (L2.CX X.prog X.w) X E0 := fun _ _ _ _ _ _ _ ⟨_, _, _, _, _, _, _, _, _, _, _, _, z⟩ => z.elim
/-- law's promise: a list of at most 63 ints is handed in, True comes out; Pt: the table of its code object -/
def spLaw (K : PySem.W.Frag) (Pt : Addr) : Sp := fun vs H Q _ => ∃ (a : Addr) (ns : List Int), vs = [.ref a] ∧ SqL K H a (ns.map V.int) ∧ ns.length ≤ 63 ∧ H Pt = some (.tbl #[]) ∧ ∀ H', Q (.bl true) H'
theorem extN_same {H H' : Hp} (s : Same H H') : ExtN H H' := fun b o h _ => s b o h
end VQ
namespace VQ
open PySem L2 LamX
/-- the word of a call that is refused without a field -/
theorem word_refused {K : PySem.W.Frag} {Ta NT NR BT Uf Fu TM QE No C : Addr} {T : List (Addr × Str)} {nm : Str} {σ : L2.St} {H : Hp} {Q : VK} {t : XK → TE} (PL : Plain K Ta NT NR BT Uf Fu TM QE No C) (hT : Tabs T H)
    (call : ∀ (H1 : Hp) (Q1 : VK) (E : XK), ExtN H H1 → (∀ H2 d, Same H1 H2 → H2 d = none → E (.ref C) (some d) (upd H2 d (.xd [(("called" : Str), .str nm)]))) → t E σ H1 Q1) (k : ∀ H', ExtN H H' → Tabs T H' → Q (.str nm) H') :
    tLam T (fun tl H Q => TTried K Ta NT NR BT Uf Fu TM QE No tl H fun v H1 => rIxT K v (.int 0) H1 Q) t σ H Q := by
  refine ⟨hT, fun H1 e1 T1 => call H1 _ _ e1 fun H2 d s2 hd => ?_⟩
  refine ⟨C, d, _, nm, rfl, rfl, PL, upd_same, rfl, fun p hp => ⟨p, _, _, _, rfl, rfl, SqT.of upd_same, rfl, ?_⟩⟩
  have s4 := (s2.trans (same_new hd)).trans (same_new (o := .tup [.str nm, .str ""]) hp)
  exact k _ (e1.trans (extN_same s4)) (Tabs.ext T1 s4)
end VQ
namespace VQ
open PySem L2 LamX
/-! ### data that is compared -/
def Lay (n : Nat) (d : PyData) : Prop := d.canLay0 = true ∧ d.depth ≤ n
theorem lay_all {n : Nat} : ∀ {ds : List PyData}, (∀ d ∈ ds, Lay n d) → PyData.canLayAll0 ds = true ∧ PyData.depthAll ds ≤ n
  | [], _ => by
    unfold PyData.canLayAll0 PyData.depthAll
    exact ⟨rfl, Nat.zero_le _⟩
  | d :: ds, h => by
    obtain ⟨a, c⟩ := h d List.mem_cons_self
    obtain ⟨a', c'⟩ := lay_all (ds := ds) fun e m => h e (List.mem_cons_of_mem _ m)
    unfold PyData.canLayAll0 PyData.depthAll
    exact ⟨by rw [a, a']; rfl, Nat.max_le.mpr ⟨c, c'⟩⟩
theorem Lay.list {n : Nat} {ds : List PyData} (h : ∀ d ∈ ds, Lay n d) : Lay (n + 1) (.list ds) := by
  obtain ⟨a, c⟩ := lay_all h
  unfold Lay PyData.canLay0 PyData.depth
  exact ⟨a, Nat.succ_le_succ c⟩
theorem Lay.tuple {n : Nat} {ds : List PyData} (h : ∀ d ∈ ds, Lay n d) : Lay (n + 1) (.tuple ds) := by
  obtain ⟨a, c⟩ := lay_all h
  unfold Lay PyData.canLay0 PyData.depth
  exact ⟨a, Nat.succ_le_succ c⟩
theorem Lay.int (n : Nat) (i : Int) : Lay n (.int i) := by
  unfold Lay PyData.canLay0 PyData.depth
  exact ⟨rfl, Nat.zero_le _⟩
theorem Lay.str (n : Nat) {z : Str} (h : ∀ c ∈ z.cps.toList, c < 1114112) : Lay n (.str z) := by
  unfold Lay PyData.canLay0 PyData.depth
  refine ⟨?_, Nat.zero_le _⟩
  show z.cps.all (· < 0x110000) = true
  rw [← Array.all_toList, List.all_eq_true]
  exact fun c m => decide_eq_true (h c m)
theorem Lay.shaped {n : Nat} {d : PyData} (h : Lay n d) (hn : n ≤ 64) : SeqAt.shaped d = true := by
  unfold SeqAt.shaped
  rw [h.1, decide_eq_true (Nat.le_trans h.2 hn)]
  rfl
theorem lay_ints (ks : List Int) : Lay 1 (.list (ks.map PyData.int)) := .list fun d m => by
  obtain ⟨k, _, rfl⟩ := List.mem_map.mp m
  exact .int _ _
theorem dp_ints {K : PySem.W.Frag} {H : Hp} : ∀ ks : List Int, DpAll K H (ks.map V.int) (ks.map PyData.int)
  | [] => .nil
  | k :: ks => .cons (.int k) (dp_ints ks)
theorem dp_strs {K : PySem.W.Frag} {H : Hp} : ∀ zs : List Str, DpAll K H (zs.map V.str) (zs.map PyData.str)
  | [] => .nil
  | z :: zs => .cons (.str z) (dp_strs zs)
theorem eqv_nil (ds : List PyData) : PyData.eqv (.list ds) (.list []) = ds.isEmpty := by
  cases ds with
  | nil => rfl
  | cons d ds => rfl
end VQ
namespace VQ
open PySem L2 LamX
/-! ### things, rooms, boxes -/
/-- something of the plain kinds -/
def Part (K : PySem.W.Frag) (H : Hp) (x : V) : Prop := ∃ t, TyX K H x (.type t) ∧ t ∈ basics ∧ Short x
/-- a thing, and its items where it is a tuple -/
inductive Thing (K : PySem.W.Frag) (H : Hp) : V → Option (List V) → Prop
  | tup {a : Addr} {xs : List V} (h : H a = some (.tup xs)) (hp : ∀ x ∈ xs, Part K H x) (hl : xs.length ≤ 1000) : Thing K H (.ref a) (some xs)
  | oth {x : V} {t : String} (ty : TyX K H x (.type t)) (m : t ∈ basics) (nt : t ≠ "tuple") : Thing K H x none
def placesO : Option (List V) → Bool
  | none => false
  | some xs => decide (1 ≤ xs.length) && decide (xs.length ≤ 5)
def allO (p : V → Bool) : Option (List V) → Bool
  | none => false
  | some xs => placesO (some xs) && xs.all p
section
variable {P : Program} {w : World} {K : PySem.W.Frag} {mg : Str → Option Value} {base : Heap}
theorem Part.same {H H' : Hp} {x : V} (s : Same H H') (h : Part K H x) : Part K H' x := by
  obtain ⟨t, a, b, c⟩ := h
  exact ⟨t, TyX.basic_same s a b, b, c⟩
theorem Part.str {H : Hp} (z : Str) (h : z.length ≤ 1000) : Part K H (.str z) := ⟨"str", .base (.str z), by decide, h⟩
theorem Part.int {H : Hp} (i : Int) : Part K H (.int i) := ⟨"int", .base (.int i), by decide, trivial⟩
theorem Thing.same {H H' : Hp} {x : V} {o : Option (List V)} (s : Same H H') (h : Thing K H x o) : Thing K H' x o := by
  cases h with
  | tup h hp hl => exact .tup (s _ _ h) (fun x m => Part.same s (hp x m)) hl
  | oth ty m nt => exact .oth (TyX.basic_same s ty m) m nt
def spIsPlaces (K : PySem.W.Frag) : Sp := fun vs H Q _ => ∃ (x : V) (o : Option (List V)), vs = [x] ∧ Thing K H x o ∧ Q (.bl (placesO o)) H
/-- is_box, is_point -/
def spIs (K : PySem.W.Frag) (p : V → Bool) : Sp := fun vs H Q _ => ∃ (x : V) (o : Option (List V)), vs = [x] ∧ Thing K H x o ∧ ∀ H', Same H H' → Q (.bl (allO p o)) H'
/-- what a comprehension over a tuple that asks each item collects -/
theorem take_snoc {α β : Type} (g : α → β) {xs : List α} {i : Nat} {x : α} (h : xs[i]? = some x) : (xs.take i).map g ++ [g x] = (xs.take (i + 1)).map g := by
  rw [List.take_add_one, h, List.map_append]
  rfl
/-- need_box, need_point -/
def spNeedT (K : PySem.W.Frag) (p : V → Bool) (C : Addr) (nm : Str) : Sp := fun vs H Q E => ∃ (x : V) (o : Option (List V)), vs = [x] ∧ Thing K H x o ∧
  (allO p o = true → ∀ H', Same H H' → Q .non H') ∧ (allO p o = false → ∀ H' d, Same H H' → H' d = none → E (.ref C) (some d) (upd H' d (calledAs nm)))
theorem map_get {zs : List Str} {i : Nat} {x : V} (h : (zs.map V.str)[i]? = some x) : ∃ z, zs[i]? = some z ∧ x = .str z := by
  rw [List.getElem?_map] at h
  cases e : zs[i]? with
  | none => rw [e] at h; cases h
  | some z =>
    rw [e] at h
    exact ⟨z, rfl, (Option.some.inj h).symm⟩
end
end VQ
namespace VQ
open PySem L2 LamX
/-! ### names of a comprehension that the def's own state leaves out -/
theorem Inv.more {X : Cx} {pins : List (Addr × Obj)} {σ : L2.St} {H : Hp} {s : Shared} (ys : List Str) (I : Inv X pins σ H s) : Inv { X with N := X.N ++ ys } pins (σ ++ List.replicate ys.length none) H s where
  ok := ⟨I.ok.mod, I.ok.kind, I.ok.glob, I.ok.blt, I.ok.above, I.ok.inj, I.ok.has, I.ok.cab, I.ok.hd, I.ok.frames, I.ok.stk, I.ok.exf, I.ok.bs, I.ok.bsz, I.ok.noex, I.ok.exfs, I.ok.funs, I.ok.frf⟩
  os := I.os
  bare := I.bare
  base := I.base
  loc := by
    obtain ⟨m, h1, h2⟩ := I.loc
    refine ⟨m, h1, fun i x v e1 e2 e3 => ?_⟩
    by_cases lt : i < σ.length
    · rw [List.getElem?_append_left lt] at e2
      have e1 : (X.N ++ ys)[i]? = some x := e1
      rw [List.getElem?_append_left (by rw [← I.len]; exact lt)] at e1
      exact h2 i x v e1 e2 e3
    · rw [List.getElem?_append_right (by omega), List.getElem?_replicate] at e2
      split at e2 <;> cases e2
  cell := I.cell
  free := I.free
  freeC := I.freeC
  pin := I.pin
  hok := I.hok
  len := by
    show _ = (X.N ++ ys).length
    rw [List.length_append, List.length_append, List.length_replicate, I.len]
theorem Inv.less {X : Cx} {pins : List (Addr × Obj)} {σ : L2.St} {H : Hp} {s : Shared} {ys : List Str} (len : σ.length = X.N.length) (I : Inv { X with N := X.N ++ ys } pins (σ ++ List.replicate ys.length none) H s) : Inv X pins σ H s where
  ok := ⟨I.ok.mod, I.ok.kind, I.ok.glob, I.ok.blt, I.ok.above, I.ok.inj, I.ok.has, I.ok.cab, I.ok.hd, I.ok.frames, I.ok.stk, I.ok.exf, I.ok.bs, I.ok.bsz, I.ok.noex, I.ok.exfs, I.ok.funs, I.ok.frf⟩
  os := I.os
  bare := I.bare
  base := I.base
  loc := by
    obtain ⟨m, h1, h2⟩ := I.loc
    refine ⟨m, h1, fun i x v e1 e2 e3 => h2 i x v ?_ ?_ e3⟩
    · show (X.N ++ ys)[i]? = some x
      rw [List.getElem?_append_left (List.getElem?_eq_some_iff.mp e1).1]
      exact e1
    · rw [List.getElem?_append_left (List.getElem?_eq_some_iff.mp e2).1]
      exact e2
  cell := I.cell
  free := I.free
  freeC := I.freeC
  pin := I.pin
  hok := I.hok
  len := len
def tMore (n : Nat) (t : TE) : TE := fun σ H Q => t (σ ++ List.replicate n none) H Q
theorem pe_more {X : Cx} {e : Expr} {t : TE} (ys : List Str) (h : PE { X with N := X.N ++ ys } e t) : PE X e (tMore ys.length t) := by
  refine ⟨fun pins s σ H Q I hw => ?_⟩
  refine wpAny_mono (h.run pins s _ H Q (Inv.more ys I) hw) ?_ fun _ _ z => z
  rintro v s1 ⟨x, H1, I1, r1, q1⟩
  exact ⟨x, H1, Inv.less I.len I1, r1, q1⟩
end VQ
namespace VQ
open PySem L2 LamX
section
variable {P : Program} {w : World} {K : PySem.W.Frag} {mg : Str → Option Value} {base : Heap}
def spAlikeT (K : PySem.W.Frag) (C : Addr) : Sp := fun vs H Q E => ∃ (a b : Addr) (xs ys : List V), vs = [.ref a, .ref b] ∧ H a = some (.tup xs) ∧ H b = some (.tup ys) ∧
  (xs.length = ys.length → Q .non H) ∧ (xs.length ≠ ys.length → ∀ d, H d = none → E (.ref C) (some d) (upd H d (calledAs "Unlike")))
end
end VQ
namespace VQ
open PySem L2 LamX
/-! ### what two boxes are asked -/
/-- the places of a box -/
structure IsBoxS (zs : List Str) : Prop where
  beg : ∀ z ∈ zs, begB (.str z) = true
  lo : 1 ≤ zs.length
  hi : zs.length ≤ 5
theorem allO_box {o : Option (List V)} (h : allO begB o = true) : ∃ zs : List Str, o = some (zs.map V.str) ∧ IsBoxS zs := by
  cases o with
  | none => cases h
  | some xs =>
    have h' : (placesO (some xs) && xs.all begB) = true := h
    rw [Bool.and_eq_true] at h'
    obtain ⟨h1, h2⟩ := h'
    have h1' : (decide (1 ≤ xs.length) && decide (xs.length ≤ 5)) = true := h1
    rw [Bool.and_eq_true, decide_eq_true_eq, decide_eq_true_eq] at h1'
    have key : ∀ l : List V, l.all begB = true → ∃ zs : List Str, l = zs.map V.str ∧ ∀ z ∈ zs, begB (.str z) = true := by
      intro l
      induction l with
      | nil => exact fun _ => ⟨[], rfl, fun z m => by cases m⟩
      | cons x l ih =>
        intro q
        rw [List.all_cons, Bool.and_eq_true] at q
        obtain ⟨zs, e, a⟩ := ih q.2
        cases x with
        | str z =>
          refine ⟨z :: zs, by rw [e]; rfl, fun u m => ?_⟩
          rcases List.mem_cons.mp m with rfl | m
          · exact q.1
          · exact a u m
        | _ => exact absurd q.1 (by intro z; cases z)
    obtain ⟨zs, rfl, a⟩ := key xs h2
    rw [List.length_map] at h1'
    exact ⟨zs, rfl, a, h1'.1, h1'.2⟩
theorem box_allO {zs : List Str} (h : IsBoxS zs) : allO begB (some (zs.map V.str)) = true := by
  show ((decide (1 ≤ (zs.map V.str).length) && decide ((zs.map V.str).length ≤ 5)) && (zs.map V.str).all begB) = true
  rw [List.length_map, decide_eq_true h.lo, decide_eq_true h.hi, List.all_map, Bool.true_and, Bool.true_and]
  exact List.all_eq_true.mpr fun z m => h.beg z m
theorem beg_len {z : Str} (h : begB (.str z) = true) : z.length ≤ 5 := by
  have h' : (decide (z.length ≤ 5) && z.cps.toList.all signB) = true := h
  rw [Bool.and_eq_true, decide_eq_true_eq] at h'
  exact h'.1
/-- a.startswith(b) -/
def rStarts : V → List V → Hp → VK → Prop := fun x xs H Q => ∃ a b, x = .str a ∧ xs = [.str b] ∧ Q (.bl (Txt.startswith a b)) H
/-- a turn of a comprehension over zip: the lists so far -/
theorem zip_snoc {α β γ : Type} (g : α → β → γ) {zs : List α} {ws : List β} {i : Nat} {z : α} {w : β} (hz : zs[i]? = some z) (hw : ws[i]? = some w) : List.zipWith g (zs.take i) (ws.take i) ++ [g z w] = List.zipWith g (zs.take (i + 1)) (ws.take (i + 1)) := by
  have lz : i < zs.length := (List.getElem?_eq_some_iff.mp hz).1
  have lw : i < ws.length := (List.getElem?_eq_some_iff.mp hw).1
  rw [List.take_add_one, List.take_add_one, hz, hw, List.zipWith_append (by rw [List.length_take, List.length_take]; omega)]
  rfl
end VQ
namespace VQ
open PySem L2 LamX
section
variable {P : Program} {w : World} {K : PySem.W.Frag} {mg : Str → Option Value} {base : Heap}
/-- a new tuple whose items are drawn -/
def spTupDraw (ok : V → Prop) : Sp := fun vs H Q _ => ∃ (b : Addr) (n : Nat), vs = [.ref b, .int (n : Int)] ∧ Bag H b ∧ n ≤ 5 ∧ ∀ (a : Addr) (xs : List V) (H' : Hp), xs.length = n → (∀ x ∈ xs, ok x) → H a = none → H' a = some (.tup xs) → Bag H' b → Keep b H H' → Q (.ref a) H'
/-- is a text of begs -/
def IsBeg (x : V) : Prop := ∃ z, x = .str z ∧ z ∈ begs
end
end VQ
namespace VQ
open PySem L2 LamX
/-- a tuple of begs -/
def BoxAt (H : Hp) (a : Addr) (zs : List Str) : Prop := H a = some (.tup (zs.map V.str)) ∧ (∀ z ∈ zs, z ∈ begs) ∧ zs.length ≤ 5
theorem begs_of : ∀ {xs : List V}, (∀ x ∈ xs, IsBeg x) → ∃ zs : List Str, xs = zs.map V.str ∧ ∀ z ∈ zs, z ∈ begs
  | [], _ => ⟨[], rfl, fun z m => by cases m⟩
  | x :: xs, h => by
    obtain ⟨z, rfl, hz⟩ := h x List.mem_cons_self
    obtain ⟨zs, rfl, a⟩ := begs_of (xs := xs) fun y m => h y (List.mem_cons_of_mem _ m)
    refine ⟨z :: zs, rfl, fun u m => ?_⟩
    rcases List.mem_cons.mp m with rfl | m
    · exact hz
    · exact a u m
section
variable {K : PySem.W.Frag} {H H' : Hp}
theorem BoxAt.same {a : Addr} {zs : List Str} (h : BoxAt H a zs) (s : Same H H') : BoxAt H' a zs := ⟨s _ _ h.1, h.2⟩
theorem BoxAt.keep {a b : Addr} {zs : List Str} (h : BoxAt H a zs) (B : Bag H b) (k : Keep b H H') : BoxAt H' a zs := ⟨k.tup B h.1, h.2⟩
theorem BoxAt.extN {a : Addr} {zs : List Str} (h : BoxAt H a zs) (e : ExtN H H') : BoxAt H' a zs := ⟨e _ _ h.1 (fun ps z => by cases z), h.2⟩
theorem BoxAt.thing {a : Addr} {zs : List Str} (h : BoxAt H a zs) : Thing K H (.ref a) (some (zs.map V.str)) := by
  refine .tup h.1 (fun x m => ?_) (by rw [List.length_map]; exact Nat.le_trans h.2.2 (by decide))
  obtain ⟨z, mz, rfl⟩ := List.mem_map.mp m
  exact Part.str z (Nat.le_trans (begs_len z (h.2.1 z mz)) (by decide))
theorem BoxAt.is {a : Addr} {zs : List Str} (h : BoxAt H a zs) (h1 : 1 ≤ zs.length) : IsBoxS zs := ⟨fun z m => begs_yes z (h.2.1 z m), h1, h.2.2⟩
theorem strs_inj : ∀ {zs ws : List Str}, zs.map V.str = ws.map V.str → zs = ws
  | [], [], _ => rfl
  | [], _ :: _, h => by cases h
  | _ :: _, [], h => by cases h
  | z :: zs, w :: ws, h => by
    rw [List.map_cons, List.map_cons] at h
    injection h with h1 h2
    injection h1 with h1
    rw [h1, strs_inj h2]
/-! ### likeness -/
inductive Alikes (H : Hp) (n : Nat) : List V → List V → Prop
  | nil : Alikes H n [] []
  | cons {x y : V} {xs ys : List V} (h : Alike H n x y) (t : Alikes H n xs ys) : Alikes H n (x :: xs) (y :: ys)
theorem alike_strs {n : Nat} {a b : Addr} {us : List Str} (ha : H a = some (.tup (us.map V.str))) (hb : H b = some (.tup (us.map V.str))) (hl : us.length ≤ 1000) : Alike H (n + 1) (.ref a) (.ref b) := by
  refine .tup ha hb rfl (by rw [List.length_map]; exact hl) fun i x y hx hy => ?_
  rw [hx] at hy
  cases hy
  obtain ⟨z, _, rfl⟩ := map_get hx
  exact .str n z
theorem alike_list {n : Nat} {a b : Addr} {xs ys : List V} (ha : H a = some (.lst xs)) (hb : H b = some (.lst ys)) (hl : ys.length ≤ 1000) (h : Alikes H n xs ys) : Alike H (n + 1) (.ref a) (.ref b) := by
  have key : ∀ {xs ys : List V}, Alikes H n xs ys → xs.length = ys.length ∧ ∀ (i : Nat) (x y : V), xs[i]? = some x → ys[i]? = some y → Alike H n x y := by
    intro xs ys h
    induction h with
    | nil => exact ⟨rfl, fun i x y hx => by cases hx⟩
    | cons r _ ih =>
      refine ⟨by rw [List.length_cons, List.length_cons, ih.1], fun i x y hx hy => ?_⟩
      cases i with
      | zero =>
        cases hx
        cases hy
        exact r
      | succ i => exact ih.2 i x y hx hy
  obtain ⟨e, g⟩ := key h
  exact .lst ha hb e hl g
/-! ### a tuple from a place on -/
theorem cut_from (xs : List V) {k : Nat} (h : k ≤ xs.length) : cutV xs (some (k : Int)) none = xs.drop k := by
  unfold cutV
  rw [HT.sIx_nat, HT.sIx_none, Nat.min_eq_left h]
  exact List.take_of_length_le (by rw [List.length_drop]; omega)
theorem from_part {n k : Nat} (h1 : 1 ≤ k) (h2 : k ≤ n) : ¬ (HT.sIx n 0 (some (k : Int)) = 0 ∧ HT.sIx n n none = n) := fun z => by
  rw [HT.sIx_nat, Nat.min_eq_left h2] at z
  omega
end
end VQ
namespace VQ
open PySem L2 LamX
/-- a worth -/
def IsW (x : V) : Prop := ∃ n : Nat, x = .int (n : Int) ∧ n < 32
abbrev numV (n : Nat) : V := .int (n : Int)
theorem worths_of : ∀ {xs : List V}, (∀ x ∈ xs, IsW x) → ∃ ns : List Nat, xs = ns.map numV ∧ ∀ n ∈ ns, n < 32
  | [], _ => ⟨[], rfl, fun z m => by cases m⟩
  | x :: xs, h => by
    obtain ⟨n, rfl, hn⟩ := h x List.mem_cons_self
    obtain ⟨ns, rfl, a⟩ := worths_of (xs := xs) fun y m => h y (List.mem_cons_of_mem _ m)
    refine ⟨n :: ns, rfl, fun u m => ?_⟩
    rcases List.mem_cons.mp m with rfl | m
    · exact hn
    · exact a u m
theorem num_get {ns : List Nat} {i : Nat} {x : V} (h : (ns.map numV)[i]? = some x) : ∃ n, ns[i]? = some n ∧ x = numV n := by
  rw [List.getElem?_map] at h
  cases e : ns[i]? with
  | none => rw [e] at h; cases h
  | some z =>
    rw [e] at h
    exact ⟨z, rfl, (Option.some.inj h).symm⟩
end VQ
namespace VQ
open PySem L2 LamX
abbrev sPoint : Stmt := top 36
section
variable {P : Program} {w : World} {K : PySem.W.Frag} {mg : Str → Option Value} {base : Heap}
theorem scPoint : FnScope ["_law_bag_here", "_law_many", "_law_k"] ["_law_bag_here", "_law_many"] (defScope sPoint) := ⟨rfl, rfl, rfl, by decide +kernel, rfl, by decide +kernel, by decide +kernel⟩
theorem ok_point {f fG : Addr} {fd fdG : FuncData} (F : Fun K "_law_point" "_law_point" sPoint f fd) (b : Blt mg) (aG : At K mg "_law_worth" sWorth ["_law_bag_here"] fG fdG) (GG : FnOk P w K mg base CX0 3 fG fdG ["_law_bag_here"] (spDraw fun i => 0 ≤ i ∧ i < 32)) :
    FnOk P w K mg base CX0 4 f fd ["_law_bag_here", "_law_many"] (spTupDraw IsW) := by
  refine F.ok scPoint (fun vs H Q E h => ?_) (fun cdv A outer s H vs Q E hr h => ?_)
  · obtain ⟨bg, n, rfl, _⟩ := h
    rfl
  · obtain ⟨bg, n, rfl, B, hn, k⟩ := h
    refine ⟨_, pss_one (ps_ret (pe_callTy call_tuple_of (by rfl) b.tuple (by decide +kernel) (pa_cons
      (pe_lc (own := [("_law_k", 2)]) (g := gName 2) (tt := tYes) (te := tCall (spDraw fun i => 0 ≤ i ∧ i < 32) [] E0 (tCons (tVar 0) tNil)) rfl scPoint.nd (pi_range1 rfl b.range (pa_cons (pv 1) pa_nil))
        (blkOk_by (N := ["_law_bag_here", "_law_many", "_law_k"]) (sc := defScope sPoint) (by decide +kernel)) (fun _ _ _ _ _ => pg_name (i := 2) scPoint.nd rfl (.inl rfl)) (fun _ _ _ _ _ => pts_nil)
        (fun _ _ _ _ _ => pe_call GG hr rfl aG.gl aG.fn.kp aG.bd .nil pass0 (pa_cons (pv 0) pa_nil))) pa_nil))), ?_⟩
    refine ⟨_, rfl, n, rfl, by omega, by omega, fun D hD => ?_⟩
    obtain ⟨B1, K1⟩ := Bag.put (o := .lst []) B hD (Keep.refl bg H) B
    refine lc_range (lo := 0) (n := n) (fun i H' => Bag H' bg ∧ Keep bg H H' ∧ ∃ xs : List V, xs.length = i ∧ (∀ x ∈ xs, IsW x) ∧ H' D = some (.lst xs)) ⟨B1, K1, [], rfl, (fun x m => by cases m), upd_same⟩ ?_ ?_
    · rintro i H2 hi ⟨B2, K2, xs, el, ex, h2⟩
      refine ⟨rfl, yes_turn ?_⟩
      refine ⟨_, rfl, bg, rfl, B2, fun z H3 hz B3 K3 => ?_⟩
      have Db : D ≠ bg := B.ne hD
      obtain ⟨B4, K4⟩ := Bag.put (o := .lst (xs ++ [.int z])) B hD (K2.trans K3) B3
      refine ⟨_, K3.1 _ _ Db h2, by rw [el]; exact Nat.lt_of_lt_of_le (show i < 6 by omega) (by decide), B4, K4, _, by rw [List.length_append, el]; rfl, fun x m => ?_, upd_same⟩
      rcases List.mem_append.mp m with m | m
      · exact ex x m
      · obtain ⟨nz, rfl⟩ := Int.eq_ofNat_of_zero_le hz.1
        exact ⟨nz, List.mem_singleton.mp m, by omega⟩
    · rintro H2 ⟨B2, K2, xs, el, ex, h2⟩
      refine ⟨D, xs, rfl, .inl ⟨SqL.of h2, fun l hl => ?_⟩⟩
      have hl0 : H l = none := K2.free B B2 hl
      obtain ⟨B3, K3⟩ := Bag.put (o := .tup xs) B hl0 K2 B2
      exact k l xs _ el ex hl0 upd_same B3 K3
/-- the box of a point, by the law -/
def spBoxOf : Sp := fun vs H Q _ => ∃ (a : Addr) (ns : List Nat), vs = [.ref a] ∧ H a = some (.tup (ns.map numV)) ∧ ns.length ≤ 1000 ∧ ∀ (p : Addr) (H' : Hp), H p = none → Same H H' → H' p = some (.tup ((ns.map fig).map V.str)) → Q (.ref p) H'
end
end VQ
namespace VQ
open PySem L2 LamX
/-! ### the shortest beginning -/
/-- none of the worths lies under the first k signs of n -/
def sfree (n : Nat) (ms : List Nat) (k : Nat) : Bool := !(ms.any fun m => beginsB (fig m) (tk (fig n) k))
/-- the least one of 0 .. 5 of which f is true, from above -/
def dueF (f : Nat → Bool) (v : Nat → V) : Nat → V
  | 0 => .non
  | i + 1 => if f (5 - i) = true then v (5 - i) else dueF f v i
theorem due_first {f : Nat → Bool} {v : Nat → V} {i : Nat} (no : ∀ j, j < i → f j = false) (yes : f i = true) (h : i < 6) : dueF f v 6 = v i := by
  have e : dueF f v 6 = if f 0 = true then v 0 else if f 1 = true then v 1 else if f 2 = true then v 2 else if f 3 = true then v 3 else if f 4 = true then v 4 else if f 5 = true then v 5 else .non := rfl
  rw [e]
  have six : i = 0 ∨ i = 1 ∨ i = 2 ∨ i = 3 ∨ i = 4 ∨ i = 5 := by omega
  rcases six with rfl | rfl | rfl | rfl | rfl | rfl
  · rw [yes]; rfl
  · rw [no 0 (by decide), yes]; rfl
  · rw [no 0 (by decide), no 1 (by decide), yes]; rfl
  · rw [no 0 (by decide), no 1 (by decide), no 2 (by decide), yes]; rfl
  · rw [no 0 (by decide), no 1 (by decide), no 2 (by decide), no 3 (by decide), yes]; rfl
  · rw [no 0 (by decide), no 1 (by decide), no 2 (by decide), no 3 (by decide), no 4 (by decide), yes]; rfl
theorem due_none {f : Nat → Bool} {v : Nat → V} (no : ∀ j, j < 6 → f j = false) : dueF f v 6 = .non := by
  have e : dueF f v 6 = if f 0 = true then v 0 else if f 1 = true then v 1 else if f 2 = true then v 2 else if f 3 = true then v 3 else if f 4 = true then v 4 else if f 5 = true then v 5 else .non := rfl
  rw [e, no 0 (by decide), no 1 (by decide), no 2 (by decide), no 3 (by decide), no 4 (by decide), no 5 (by decide)]
  rfl
def shortV (n : Nat) (ms : List Nat) : V := dueF (sfree n ms) (fun k => .str (tk (fig n) k)) 6
def NoW (y : Int) : Prop := ¬ (0 ≤ y ∧ y < 32)
theorem worths_ints : ∀ {ys : List Int}, (∀ y ∈ ys, 0 ≤ y ∧ y < 32) → ∃ ms : List Nat, ys = ms.map Int.ofNat ∧ ∀ m ∈ ms, m < 32
  | [], _ => ⟨[], rfl, fun m h => by cases h⟩
  | y :: ys, h => by
    obtain ⟨a, b⟩ := h y List.mem_cons_self
    obtain ⟨n, rfl⟩ := Int.eq_ofNat_of_zero_le a
    obtain ⟨ms, rfl, c⟩ := worths_ints (ys := ys) fun x m => h x (List.mem_cons_of_mem _ m)
    refine ⟨n :: ms, rfl, fun x m => ?_⟩
    rcases List.mem_cons.mp m with rfl | m
    · omega
    · exact c x m
section
variable {P : Program} {w : World} {K : PySem.W.Frag} {mg : Str → Option Value} {base : Heap}
def spShortest (K : PySem.W.Frag) (CW : Addr) : Sp := fun vs H Q E => ∃ (x : Int) (l : Addr) (ys : List Int), vs = [.int x, .ref l] ∧ H l = some (.lst (ys.map V.int)) ∧ ys.length ≤ 1000 ∧
  (∀ (n : Nat) (ms : List Nat), x = (n : Int) → n < 32 → ys = ms.map Int.ofNat → (∀ m ∈ ms, m < 32) → ∀ H', Same H H' → Q (shortV n ms) H') ∧
  ((NoW x ∨ ∃ y ∈ ys, NoW y) → ∀ H' d, Same H H' → H' d = none → E (.ref CW) (some d) (upd H' d (calledAs "BadWorth")))
abbrev nShort : List Str := ["worth", "worths", "own", "others", "count", "beginning", "other"]
abbrev rStartsT : V → List V → Hp → VK → Prop := fun x xs H Q => ∃ a b, x = .str a ∧ xs = [.str b] ∧ Q (.bl (Txt.startswith a b)) H
theorem noW_worthB {y : Int} (h : worthB (.int y) = false) : NoW y := fun ⟨a, b⟩ => by
  have e : worthB (.int y) = true := by
    show (decide (0 ≤ y) && decide (y < 32)) = true
    rw [decide_eq_true a, decide_eq_true b]
    rfl
  rw [h] at e
  cases e
end
end VQ
namespace VQ
open PySem L2 LamX
/-! ### rows: a list of tuples of numbers -/
inductive Rows (H : Hp) : List V → List (List Nat) → Prop
  | nil : Rows H [] []
  | cons {a : Addr} {r : List Nat} {vs : List V} {rs : List (List Nat)} (h : H a = some (.tup (r.map numV))) (t : Rows H vs rs) : Rows H (.ref a :: vs) (r :: rs)
section
variable {K : PySem.W.Frag} {H H' : Hp}
theorem Rows.same (s : Same H H') : ∀ {vs : List V} {rs : List (List Nat)}, Rows H vs rs → Rows H' vs rs
  | _, _, .nil => .nil
  | _, _, .cons h t => .cons (s _ _ h) (Rows.same s t)
theorem Rows.keep {b : Addr} (B : Bag H b) (k : Keep b H H') : ∀ {vs : List V} {rs : List (List Nat)}, Rows H vs rs → Rows H' vs rs
  | _, _, .nil => .nil
  | _, _, .cons h t => .cons (k.tup B h) (Rows.keep B k t)
theorem Rows.len : ∀ {vs : List V} {rs : List (List Nat)}, Rows H vs rs → vs.length = rs.length
  | _, _, .nil => rfl
  | _, _, .cons _ t => by rw [List.length_cons, List.length_cons, Rows.len t]
theorem Rows.get {vs : List V} {rs : List (List Nat)} (h : Rows H vs rs) : ∀ {i : Nat} {v : V}, vs[i]? = some v → ∃ a r, v = .ref a ∧ rs[i]? = some r ∧ H a = some (.tup (r.map numV)) := by
  induction h with
  | nil => exact fun h => by cases h
  | cons h t ih =>
    intro i v e
    cases i with
    | zero =>
      cases e
      exact ⟨_, _, rfl, rfl, h⟩
    | succ i => exact ih e
theorem Rows.mem {vs : List V} {rs : List (List Nat)} (h : Rows H vs rs) {v : V} (m : v ∈ vs) : ∃ a r, v = .ref a ∧ r ∈ rs ∧ H a = some (.tup (r.map numV)) := by
  obtain ⟨i, e⟩ := List.getElem?_of_mem m
  obtain ⟨a, r, e1, e2, e3⟩ := h.get e
  exact ⟨a, r, e1, List.mem_of_getElem? e2, e3⟩
theorem Rows.snoc {a : Addr} {r : List Nat} (ha : H a = some (.tup (r.map numV))) : ∀ {vs : List V} {rs : List (List Nat)}, Rows H vs rs → Rows H (vs ++ [.ref a]) (rs ++ [r])
  | _, _, .nil => .cons ha .nil
  | _, _, .cons h t => .cons h (Rows.snoc ha t)
theorem Rows.perm {ws vs : List V} (p : ws.Perm vs) : ∀ {rs : List (List Nat)}, Rows H ws rs → ∃ ss : List (List Nat), rs.Perm ss ∧ Rows H vs ss := by
  induction p with
  | nil =>
    intro rs h
    exact ⟨rs, .refl _, h⟩
  | cons x _ ih =>
    intro rs h
    cases h with
    | cons h t =>
      obtain ⟨ss, p1, r1⟩ := ih t
      exact ⟨_ :: ss, p1.cons _, .cons h r1⟩
  | swap x y l =>
    intro rs h
    cases h with
    | cons h t =>
      cases t with
      | cons h2 t2 => exact ⟨_, .swap _ _ _, .cons h2 (.cons h t2)⟩
  | trans _ _ ih1 ih2 =>
    intro rs h
    obtain ⟨ss, p1, r1⟩ := ih1 h
    obtain ⟨ts, p2, r2⟩ := ih2 r1
    exact ⟨ts, p1.trans p2, r2⟩
/-! ### rows compared -/
abbrev numD (n : Nat) : PyData := .int (n : Int)
abbrev rowD (r : List Nat) : PyData := .tuple (r.map numD)
theorem dp_nums : ∀ r : List Nat, DpAll K H (r.map numV) (r.map numD)
  | [] => .nil
  | n :: r => .cons (.int _) (dp_nums r)
theorem Rows.dp : ∀ {vs : List V} {rs : List (List Nat)}, Rows H vs rs → DpAll K H vs (rs.map rowD)
  | _, _, .nil => .nil
  | _, _, .cons h t => .cons (.tup (SqT.of h) (dp_nums _)) (Rows.dp t)
theorem lay_nums (r : List Nat) : ∀ d ∈ r.map numD, Lay 0 d := fun d m => by
  obtain ⟨k, _, rfl⟩ := List.mem_map.mp m
  exact .int _ _
theorem lay_row (r : List Nat) : Lay 1 (rowD r) := .tuple (lay_nums r)
theorem lay_rows (rs : List (List Nat)) : Lay 2 (.list (rs.map rowD)) := .list fun d m => by
  obtain ⟨k, _, rfl⟩ := List.mem_map.mp m
  exact lay_row k
theorem eqv_nums : ∀ r q : List Nat, PyData.eqvAll (r.map numD) (q.map numD) = decide (r = q)
  | [], [] => rfl
  | [], _ :: _ => rfl
  | _ :: _, [] => rfl
  | n :: r, m :: q => by
    have ih := eqv_nums r q
    show (((n : Int) == (m : Int)) && PyData.eqvAll (r.map numD) (q.map numD)) = _
    rw [ih]
    by_cases e : n = m
    · subst e
      rw [beq_self_eq_true, Bool.true_and]
      by_cases g : r = q
      · rw [decide_eq_true g, decide_eq_true (by rw [g])]
      · rw [decide_eq_false g, decide_eq_false (fun z => g (List.cons.inj z).2)]
    · rw [show ((n : Int) == (m : Int)) = false from beq_eq_false_iff_ne.mpr (fun z => e (Int.ofNat.inj z)), Bool.false_and, decide_eq_false (fun z => e (List.cons.inj z).1)]
theorem eqv_row (r q : List Nat) : PyData.eqv (rowD r) (rowD q) = decide (r = q) := eqv_nums r q
theorem eqv_rows_any (rs : List (List Nat)) (q : List Nat) : ((rs.map rowD).any fun z => PyData.eqv z (rowD q)) = decide (q ∈ rs) := by
  rw [Bool.eq_iff_iff, List.any_eq_true, decide_eq_true_eq]
  constructor
  · rintro ⟨d, m, e⟩
    obtain ⟨r, mr, rfl⟩ := List.mem_map.mp m
    rw [eqv_row, decide_eq_true_eq] at e
    rw [← e]
    exact mr
  · intro m
    exact ⟨rowD q, List.mem_map.mpr ⟨q, m, rfl⟩, by rw [eqv_row]; exact decide_eq_true rfl⟩
end
/-! ### gaps -/
/-- what hangs behind the first c things of a point -/
def hang (rs : List (List Nat)) (c : Nat) (pt : List Nat) : List Nat := (rs.filter fun r => decide (r.take c = pt.take c)).map fun r => r.getD c 0
theorem mem_hang {rs : List (List Nat)} {c : Nat} {pt : List Nat} {n : Nat} : n ∈ hang rs c pt ↔ ∃ r ∈ rs, r.take c = pt.take c ∧ r.getD c 0 = n := by
  unfold hang
  rw [List.mem_map]
  constructor
  · rintro ⟨r, m, e⟩
    obtain ⟨m1, m2⟩ := List.mem_filter.mp m
    exact ⟨r, m1, of_decide_eq_true m2, e⟩
  · rintro ⟨r, m, e1, e2⟩
    exact ⟨r, List.mem_filter.mpr ⟨m, decide_eq_true e1⟩, e2⟩
/-- the gap parts from the rows at place i, behind k signs -/
structure GapAt (rs : List (List Nat)) (pt : List Nat) (i k : Nat) : Prop where
  lt : i < pt.length
  before : ∀ j, j < i → pt.getD j 0 ∈ hang rs j pt
  few : k < 6
  yes : ∀ m ∈ hang rs i pt, beginsB (fig m) (tk (fig (pt.getD i 0)) k) = false
  no : ∀ j, j < k → ∃ m ∈ hang rs i pt, beginsB (fig m) (tk (fig (pt.getD i 0)) j) = true
def gapBox (pt : List Nat) (i k : Nat) : List Str := ((pt.take i).map fig ++ [tk (fig (pt.getD i 0)) k]) ++ List.replicate (pt.length - i - 1) ("" : Str)
theorem sfree_iff {n : Nat} {ms : List Nat} {k : Nat} : sfree n ms k = true ↔ ∀ m ∈ ms, beginsB (fig m) (tk (fig n) k) = false := by
  unfold sfree
  rw [Bool.not_eq_true', ← Bool.not_eq_true, List.any_eq_true]
  constructor
  · intro h m mm
    rw [← Bool.not_eq_true]
    exact fun e => h ⟨m, mm, e⟩
  · rintro h ⟨m, mm, e⟩
    rw [h m mm] at e
    cases e
theorem sfree_not {n : Nat} {ms : List Nat} {k : Nat} : sfree n ms k = false ↔ ∃ m ∈ ms, beginsB (fig m) (tk (fig n) k) = true := by
  unfold sfree
  rw [Bool.not_eq_false', List.any_eq_true]
theorem begins_tk (z : Str) {k : Nat} (h : k ≤ z.length) : beginsB z (tk z k) = true := by
  unfold beginsB
  rw [tk_len, Nat.min_eq_left h]
  exact decide_eq_true rfl
theorem own_begins (n : Nat) {k : Nat} (h : k < 6) : beginsB (fig n) (tk (fig n) k) = true := begins_tk _ (by rw [fig_len]; omega)
theorem GapAt.out {rs : List (List Nat)} {pt : List Nat} {i k : Nat} (g : GapAt rs pt i k) : pt.getD i 0 ∉ hang rs i pt := fun m => by
  have := g.yes _ m
  rw [own_begins _ g.few] at this
  cases this
theorem GapAt.one {rs : List (List Nat)} {pt : List Nat} {i k i' k' : Nat} (g : GapAt rs pt i k) (g' : GapAt rs pt i' k') : i = i' ∧ k = k' := by
  have e : i = i' := by
    rcases Nat.lt_trichotomy i i' with h | h | h
    · exact absurd (g'.before i h) g.out
    · exact h
    · exact absurd (g.before i' h) g'.out
  subst e
  refine ⟨rfl, ?_⟩
  rcases Nat.lt_trichotomy k k' with h | h | h
  · obtain ⟨m, mm, q⟩ := g'.no k h
    rw [g.yes m mm] at q
    cases q
  · exact h
  · obtain ⟨m, mm, q⟩ := g.no k' h
    rw [g'.yes m mm] at q
    cases q
theorem hang_perm {rs ss : List (List Nat)} (p : rs.Perm ss) {c : Nat} {pt : List Nat} {n : Nat} : n ∈ hang rs c pt ↔ n ∈ hang ss c pt := by
  rw [mem_hang, mem_hang]
  constructor
  · rintro ⟨r, m, q⟩
    exact ⟨r, p.mem_iff.mp m, q⟩
  · rintro ⟨r, m, q⟩
    exact ⟨r, p.mem_iff.mpr m, q⟩
theorem GapAt.perm {rs ss : List (List Nat)} (p : rs.Perm ss) {pt : List Nat} {i k : Nat} (g : GapAt rs pt i k) : GapAt ss pt i k :=
  ⟨g.lt, fun j h => (hang_perm p).mp (g.before j h), g.few, fun m h => g.yes m ((hang_perm p).mpr h), fun j h => let ⟨m, a, b⟩ := g.no j h; ⟨m, (hang_perm p).mp a, b⟩⟩
theorem hang_snoc {rs : List (List Nat)} {c j : Nat} {pt r : List Nat} (h : rs[j]? = some r) : hang (rs.take (j + 1)) c pt = hang (rs.take j) c pt ++ if r.take c = pt.take c then [r.getD c 0] else [] := by
  unfold hang
  rw [List.take_add_one, h, Option.toList_some, List.filter_append, List.map_append]
  congr 1
  by_cases e : r.take c = pt.take c
  · simp [e]
  · simp [e]
theorem hang_len (rs : List (List Nat)) (c : Nat) (pt : List Nat) : (hang rs c pt).length ≤ rs.length := by
  unfold hang
  rw [List.length_map]
  exact List.length_filter_le _ _
theorem nat_ints (ms : List Nat) : ms.map numV = (ms.map Int.ofNat).map V.int := by
  rw [List.map_map]
  rfl
theorem ints_nat : ∀ {ms ks : List Nat}, ms.map Int.ofNat = ks.map Int.ofNat → ms = ks
  | [], [], _ => rfl
  | [], _ :: _, h => by cases h
  | _ :: _, [], h => by cases h
  | m :: ms, k :: ks, h => by
    rw [List.map_cons, List.map_cons] at h
    injection h with h1 h2
    rw [Int.ofNat.inj h1, ints_nat h2]
theorem getD_of {α : Type} {l : List α} {i : Nat} {x d : α} (h : l[i]? = some x) : l.getD i d = x := by
  rw [List.getD_eq_getElem?_getD, h]
  rfl
theorem getD_get {α : Type} {l : List α} {i : Nat} {d : α} (h : i < l.length) : l[i]? = some (l.getD i d) := by
  rw [List.getD_eq_getElem?_getD, List.getElem?_eq_getElem h]
  rfl
end VQ
namespace VQ
open PySem L2 LamX
abbrev rLen (K : PySem.W.Frag) : List V → Hp → VK → Prop := fun xs H Q => ∃ p ys, xs = [.ref p] ∧ (SqL K H p ys ∨ SqT K H p ys) ∧ Q (.int ys.length) H
theorem erase_perm : ∀ {ls : List V} {j : Nat} {y : V}, ls[j]? = some y → (y :: ls.eraseIdx j).Perm ls
  | [], _, _, h => by cases h
  | x :: ls, 0, y, h => by
    cases h
    exact .refl _
  | x :: ls, j + 1, y, h => ((List.Perm.swap x y _)).trans ((erase_perm (ls := ls) h).cons x)
theorem Rows.moved {H H' : Hp} (s : ∀ (a : Addr) (xs : List V), H a = some (.tup xs) → H' a = some (.tup xs)) : ∀ {vs : List V} {rs : List (List Nat)}, Rows H vs rs → Rows H' vs rs
  | _, _, .nil => .nil
  | _, _, .cons h t => .cons (s _ _ h) (Rows.moved s t)
theorem nodup_snoc {α : Type} {l : List α} {x : α} (h : l.Nodup) (n : x ∉ l) : (l ++ [x]).Nodup := by
  rw [List.nodup_append]
  refine ⟨h, List.nodup_cons.mpr ⟨by simp, List.nodup_nil⟩, fun a ma b mb e => n ?_⟩
  rw [← List.mem_singleton.mp mb, ← e]
  exact ma
section
variable {P : Program} {w : World} {K : PySem.W.Frag} {mg : Str → Option Value} {base : Heap}
/-! ### a list in another order -/
def spMixed : Sp := fun vs H Q _ => ∃ (b p : Addr) (xs : List V), vs = [.ref b, .ref p] ∧ Bag H b ∧ p ≠ b ∧ H p = some (.lst xs) ∧ xs.length < 1000 ∧
  ∀ (q : Addr) (ys : List V) (H' : Hp), ys.Perm xs → H q = none → H' q = some (.lst ys) → Bag H' b → Keep b H H' → Q (.ref q) H'
abbrev nLawMixed : List Str := ["_law_bag_here", "_law_some", "_law_left", "_law_one"]
/-! ### rows drawn -/
def spRows : Sp := fun vs H Q _ => ∃ (b : Addr) (wd mo : Nat), vs = [.ref b, .int (wd : Int), .int (mo : Int)] ∧ Bag H b ∧ wd ≤ 5 ∧ mo ≤ 500 ∧
  ∀ (l : Addr) (us : List V) (rs : List (List Nat)) (H' : Hp), H l = none → H' l = some (.lst us) → Rows H' us rs → rs.length ≤ mo → (∀ r ∈ rs, r.length = wd ∧ ∀ n ∈ r, n < 32) → rs.Nodup → Bag H' b → Keep b H H' → Q (.ref l) H'
abbrev nLawRows : List Str := ["_law_bag_here", "_law_width", "_law_most", "_law_found", "_law_few", "_law_k", "_law_row", "_law_at"]
end
end VQ
namespace VQ
open PySem PySem.Spec PyProof.Rows L2
/-! ### how many unlike texts a tuple has -/
/-- texts gone through: those met so far are in, and as many as were gone through just where they are unlike -/
def TextsIn (P : Program) (w : World) (h : Heap) (S : Addr) (zs : List PySem.Str) : Prop := ∃ c, c ≤ zs.length ∧ (c = zs.length ↔ zs.Nodup) ∧ h.SetOf (PySem.strKind P w) S (fun z => decide (z ∈ zs)) c
theorem snoc_nodup {α : Type} {l : List α} {x : α} : (l ++ [x]).Nodup ↔ l.Nodup ∧ x ∉ l := by
  rw [List.nodup_append]
  constructor
  · rintro ⟨h1, _, h3⟩
    exact ⟨h1, fun m => h3 x m x (List.mem_singleton.mpr rfl) rfl⟩
  · rintro ⟨h1, h2⟩
    refine ⟨h1, by simp, fun a ma b mb e => h2 ?_⟩
    rw [← List.mem_singleton.mp mb, ← e]
    exact ma
section
variable {P : Program} {w : World} {A : Around} {E : Value → Shared → Prop} {s : Shared}
theorem TextsIn.moved {h h' : Heap} {S : Addr} {zs : List PySem.Str} (t : TextsIn P w h S zs) (k : ∀ o, h.get? S = some o → h'.get? S = some o) : TextsIn P w h' S zs := by
  obtain ⟨c, lc, ec, o, es, ep, tb, ho, rest⟩ := t
  exact ⟨c, lc, ec, o, es, ep, tb, k _ ho, rest⟩
theorem texts_update {I : Addr} {fp wr : List Addr} {G : Array GenState → Array GenState → Prop} {n : Nat} {Pv : Nat → Value → Prop} {St : Nat → Shared → Prop} {R : Result → Shared → Prop}
    (W : WalksS P w A.in1 I fp wr G n Pv St) (S : Addr) (off : S ∉ fp) (zs : List PySem.Str) (en : n = zs.length) (few : zs.length + 1 < scanBound) (are : ∀ i v, Pv i v → ∃ z t, zs[i]? = some z ∧ v = .str z t) :
    ∀ (left i : Nat) (s : Shared), n - i = left → i ≤ n → St i s → TextsIn P w s.heap S (zs.take i) →
      (∀ s', Moved (S :: wr) G s s' → TextsIn P w s'.heap S zs → R (.ok (.ret .none)) s') →
      codeAny (model P w) A (.builtin "set.update.loop" ⟨[.ref S, .ref I], []⟩) R s := by
  have offw : S ∉ wr := fun m => off (W.sub _ m)
  have more : ∀ b ∈ wr, b ∈ S :: wr := fun b m => List.mem_cons_of_mem _ m
  intro left
  induction left with
  | zero =>
    intro i s el li st tx fin
    obtain rfl : i = n := by omega
    refine codeAny_builtin F.entry_set_update_loop ?_
    rw [Around.under_plainId F.plain_set_update_loop _]
    show wpAny _ A.in1 (pyNext (.ref I) >>= _) _ _ s
    refine wpAny_bind (W.done s _ _ st fun s1 mv => ?_)
    show wpAny _ A.in1 (ret Value.none) _ _ s1
    rw [List.take_of_length_le (show zs.length ≤ i by omega)] at tx
    exact wpAny_pure (fin s1 (mv.mono more) (tx.moved fun o e => mv.heap S o offw e))
  | succ left ih =>
    intro i s el li st tx fin
    have lt : i < n := by omega
    refine codeAny_builtin F.entry_set_update_loop ?_
    rw [Around.under_plainId F.plain_set_update_loop _]
    show wpAny _ A.in1 (pyNext (.ref I) >>= _) _ _ s
    refine wpAny_bind (W.item i s _ _ lt st fun v s1 pv st1 mv => ?_)
    obtain ⟨z, t, hz, rfl⟩ := are i v pv
    obtain ⟨c, lc, ec, so⟩ := tx.moved (h' := s1.heap) fun o e => mv.heap S o offw e
    have ln : (zs.take i).length = i := by rw [List.length_take]; omega
    rw [ln] at lc ec
    show wpAny _ A.in1 (holding [Value.str z t] (setAdd S (.str z t)) >>= _) _ _ s1
    refine wpAny_bind (wpAny_holding ?_)
    unfold setAdd
    refine wpAny_holding (wpAny_bind ((PySem.strKind P w).pyHash (k := z) (strKind_is _ _ _ _) ?_))
    refine wpAny_setAddHashed_of (knd := PySem.strKind P w) (s := { s1 with toks := s1.toks + 1 }) (strKind_is _ _ _ _) rfl so (by omega) fun h2 sb so2 => ?_
    have et : zs.take (i + 1) = zs.take i ++ [z] := by rw [List.take_add_one, hz]; rfl
    have ln1 : (zs.take (i + 1)).length = i + 1 := by rw [et, List.length_append, ln]; rfl
    have tx2 : TextsIn P w h2 S (zs.take (i + 1)) := by
      refine ⟨_, ?_, ?_, SetOf_congr so2 (fun k' => ?_) rfl⟩
      · rw [ln1]
        split <;> omega
      · rw [ln1, et, snoc_nodup, ← ec]
        by_cases q : z ∈ zs.take i
        · rw [if_pos (decide_eq_true q)]
          exact ⟨fun e => by omega, fun e => absurd q e.2⟩
        · rw [if_neg (by rw [decide_eq_false q]; exact Bool.false_ne_true)]
          exact ⟨fun e => ⟨by omega, q⟩, fun e => by omega⟩
      · rw [et]
        by_cases q : k' ∈ zs.take i <;> by_cases e : k' = z <;> simp [q, e]
    refine wpAny_pure ⟨plainId_quiet F.plain_set_update_loop _, ih (i + 1) _ (by omega) lt (W.frame _ s1 _ _ st1 (Nat.le_succ _) fun b mb o e => ?_) tx2 fun s2 mv2 tx3 => ?_⟩
    · rw [sb.2 b (fun q => off (by rw [← q]; exact mb))]
      exact e
    · refine fin s2 (Moved.trans W.gtrans ((mv.mono more).then_heap (Nat.le_succ _) fun b o nb e => ?_) mv2) tx3
      rw [sb.2 b (fun q => nb (by rw [q]; exact List.mem_cons_self))]
      exact e
/-- what stands when the tuple is gone through -/
abbrev TextsDone (P : Program) (w : World) (s : Shared) (zs : List PySem.Str) (s2 : Shared) : Prop := ∃ g tk, s2 = { s with heap := g, toks := tk } ∧ TextsIn P w g s.heap.objs.size zs ∧ ∀ b o, s.heap.get? b = some o → g.get? b = some o
theorem texts_filled {l : Addr} {its : Array Value} {zs : List PySem.Str} {Z : PySem.Fin → Shared → Prop} (calm : A.handled = none) (isl : s.heap.IsTuple l its) (are : StrsAre its.toList zs) (few : zs.length + 1 < scanBound)
    (fin : ∀ s2, TextsDone P w s zs s2 → Z (.done (.ret .none)) s2) :
    wpAny (model P w) A.in1 (Builtin.«set.__init__» ⟨[.ref s.heap.objs.size, .ref l], []⟩) Z E { s with heap := s.heap.push (bareSet w) } := by
  obtain ⟨⟨oc, od, ot, os'⟩, at_l, e1, nl, e2⟩ := isl
  dsimp only at e1 e2
  subst e1 e2
  have cnt : its.size = zs.length := by rw [← StrsAre.len_eq are, Array.length_toList]
  have here : (s.heap.push (bareSet w)).get? s.heap.objs.size = some (bareSet w) := Heap.get?_push_size _ rfl
  have tyS : Shared.TypeIs { s with heap := s.heap.push (bareSet w) } (.ref s.heap.objs.size) "set" := ⟨_, here, rfl⟩
  have at_l' := Heap.get?_push_of_some (bareSet w) at_l
  have isl' : (s.heap.push (bareSet w)).IsTuple l its := ⟨_, at_l', rfl, nl, rfl⟩
  have n1 := PySem.F.sub_tuple_set
  have n2 := PySem.F.sub_tuple_frozenset
  have n3 : (Value.type "tuple" == Value.type "dict") = false := by decide
  unfold Builtin.«set.__init__» noKeywords Builtin.Frozenset.updateFrom
  generalize itE : pyIter = it
  wp_walk
  subst itE
  refine wpAny_pyIter_tuple isl' ?_
  refine wpAny_bind (wpAny_runValue ?_)
  have lt_l : l < s.heap.objs.size := Heap.lt_size at_l
  have calm3 : A.in1.in1.handled = none := by simp [calm]
  have size1 : (s.heap.push (bareSet w)).objs.size = s.heap.objs.size + 1 := Heap.size_push ..
  have ne_l : l ≠ (s.heap.push (bareSet w)).objs.size := by
    rw [size1]
    exact Nat.ne_of_lt (Nat.lt_succ_of_lt lt_l)
  have out : s.heap.objs.size ∉ [(s.heap.push (bareSet w)).objs.size, l] := fun m => by
    rcases List.mem_cons.mp m with q | q
    · rw [size1] at q
      exact Nat.ne_of_lt (Nat.lt_succ_self _) q
    · exact Nat.ne_of_gt lt_l (List.mem_singleton.mp q)
  have vals : ∀ (i : Nat) (v : Value), its[i]? = some v → ∃ z t, zs[i]? = some z ∧ v = .str z t := fun i v hv => by
    have hi : i < zs.length := by
      rw [← cnt]
      exact (Array.getElem?_eq_some_iff.mp hv).1
    obtain ⟨t, rfl⟩ := SS.strs_at are i v (by rw [Array.getElem?_toList]; exact hv)
    refine ⟨zs.getD i Str.empty, t, ?_, rfl⟩
    rw [List.getD_eq_getElem?_getD, List.getElem?_eq_getElem hi]
    rfl
  refine texts_update ((Walks.tuple calm3 _ l ne_l its).toS) s.heap.objs.size out zs cnt few vals (its.size - 0) 0 _ (by omega) (Nat.zero_le _) ?walk ?fresh fun s2 mv R => ?_
  case walk => exact ⟨⟨_, Heap.get?_push_size _ rfl, rfl, rfl⟩, isl'.push _⟩
  case fresh =>
    refine ⟨0, Nat.zero_le _, ⟨fun _ => List.nodup_nil, fun _ => rfl⟩, _, #[], 0, _, Heap.get?_push_of_some _ here, ⟨rfl, rfl, rfl⟩, rfl, (fun e he => by simp at he), (fun k => by simp), (by decide), (by rfl), rfl⟩
  obtain ⟨g, ge, dr, tk, os2⟩ := s2
  have q1 : ge = s.gens := mv.gens
  have q2 : dr = s.drawn := mv.drawn
  have q3 : os2 = s.os := mv.os
  subst q1 q2 q3
  show wpAny _ _ _ _ _ _
  refine wpAny_pure ?_
  show wpAny _ _ (ret Value.none) _ _ _
  refine wpAny_pure (fin _ ⟨g, tk, rfl, R, fun b o z => mv.heap b o (fun m => ?_) (Heap.get?_push_of_some _ (Heap.get?_push_of_some _ z))⟩)
  have lb := Heap.lt_size z
  rcases List.mem_cons.mp m with q | q
  · exact Nat.ne_of_lt lb q
  · have q := List.mem_singleton.mp q
    rw [size1] at q
    exact Nat.ne_of_lt (Nat.lt_succ_of_lt lb) q
theorem texts_call {l : Addr} {its : Array Value} {zs : List PySem.Str} {Q : Value → Shared → Prop} (calm : A.handled = none) (isl : s.heap.IsTuple l its) (are : StrsAre its.toList zs) (few : zs.length + 1 < scanBound)
    (fin : ∀ s2, TextsDone P w s zs s2 → Q (.ref s.heap.objs.size) s2) : wpAny (model P w) A (call (.type "set") [.ref l]) Q E s := by
  obtain ⟨c0, tl, mro⟩ := F.called_set.mro
  have made := F.called_set.made
  have subt := F.called_set.sub
  have nty := F.called_set.notType
  have canc := F.called_set.canCreate
  have tyc := F.typeCall_set_1 (.ref l)
  have here : (s.heap.push (bareSet w)).get? s.heap.objs.size = some (bareSet w) := Heap.get?_push_size _ rfl
  have tyS : Shared.TypeIs { s with heap := s.heap.push (bareSet w) } (.ref s.heap.objs.size) "set" := ⟨_, here, rfl⟩
  have ini := F.called_set.init.lookup
  have inb := F.called_set.init.bind (.ref s.heap.objs.size)
  refine wpAny_call (codeAny_of_tree ?_)
  show wpAny _ _ (callAny (.type "set") _) _ _ _
  refine wpAny_pure ⟨Code.quiet_builtin _ (by decide +kernel), ?go⟩
  case go =>
  refine codeAny_builtin F.entry_type_call ?_
  rw [Around.under_plain (weight_type_call_type "set" [.ref l] []) rfl]
  repeat (any_goals (first | assumption | wp_step))
  refine codeAny_mono (code_set_led1 (w := w) (.ref l) (E := E) (Q₁ := fun v t => v = .ref s.heap.objs.size ∧ t = { s with heap := s.heap.push (bareSet w) }) ⟨rfl, rfl⟩) fun r t z => ?_
  match r, z with
  | .error e, z => exact z
  | .ok (.ret v), z =>
    obtain ⟨rfl, rfl⟩ := z
    repeat (any_goals (first | assumption | wp_step))
    refine codeAny_mono (codeAny_call_builtin (R := wants (fun v t => v = .none ∧ TextsDone P w s zs t) E) F.called_set.init.plain F.entry_set_init (check_set_init_1 tyS (texts_filled (A := A.in1) (by simp [calm]) isl are few fun s2 d => ⟨rfl, d⟩))) fun r t z => ?_
    match r, z with
    | .error e, z => exact z
    | .ok (.ret v), z =>
      obtain ⟨rfl, d⟩ := z
      obtain ⟨g, tk, rfl, d'⟩ := id d
      repeat (any_goals (first | assumption | wp_step))
      exact fin _ d
end
/-- len(set(t)), t a tuple of texts: some count, that of the tuple just where they are unlike -/
def tLenTexts (K : PySem.W.Frag) (ta : TE) : TE := fun σ H Q => ta σ H fun x H1 => ∃ (l : Addr) (zs : List PySem.Str), x = .ref l ∧ SqT K H1 l (zs.map V.str) ∧ zs.length < 1000 ∧ ∀ c : Nat, (c = zs.length ↔ zs.Nodup) → Q (.int c) H1
theorem pe_lenTexts {X : Cx} {a : Expr} {ta : TE} {p p2 q pos : Pos} (ha : PE X a ta) (hg : Gl X "len") (hm : X.mg "len" = none) (hg2 : Gl X "set") (hm2 : X.mg "set" = none) (hc : X.calm = true := by rfl)
    (na : starEach [a] X.env = (false, eval a X.env) :: starEach [] X.env := by rfl) : PE X (.Call (.Name "len" p) [.Call (.Name "set" p2) [a] [] q] [] pos) (tLenTexts X.K ta) := by
  refine ⟨fun pins s σ H Q I h => Call_ (ld_blt I hg hm boot_len (callWith_builtin1 (args_cons (Call_ (ld_blt I hg2 hm2 boot_set ?_)) rfl) rfl rfl))⟩
  refine callWith_type1 (args_cons (thn (ha.run pins s σ H _ I h) fun v s1 ⟨x, H1, I1, r1, q1⟩ => args_nil ?_) na) na rfl
  obtain ⟨l, zs, rfl, sq, few, k⟩ := q1
  cases r1
  obtain ⟨its, rv, pl, hz⟩ := I1.tuple sq
  refine texts_call (P := X.prog) (w := X.w) (I1.ok.hd hc) pl (by simpa using strsAre_of rv) (Nat.lt_of_lt_of_le (show zs.length + 1 < 1001 by omega) (by decide)) fun s2 d => args_nil ?_
  obtain ⟨g, tk, rfl, ⟨c, lc, ec, o, es, ep, tb, ho, hex, hd, _, _, _, hf, hn⟩, kk⟩ := d
  have I2 : Inv X pins σ H1 { s1 with heap := g, toks := tk } := I1.kept kk
  exact call_len_set ho hex hd hf (by rw [hn]; have : zs.length < 1000 := few; omega) ⟨.int (c : Nat), H1, I2.tok _, ⟨_, by rw [hn]⟩, k c ec⟩
end VQ
namespace VQ
open PySem L2 LamX
/-! ### comprehensions, by what they have collected -/
/-- all but one place stands as it was -/
def Off (D : Addr) (H H' : Hp) : Prop := ∀ p o, p ≠ D → H p = some o → H' p = some o
theorem Off.of {D : Addr} {H H' : Hp} (s : Same H H') : Off D H H' := fun p o _ h => s p o h
theorem Off.upd {D : Addr} {H : Hp} {o : HO} : Off D H (upd H D o) := fun p u n h => (upd_ne n).trans h
theorem sqT_same {K : PySem.W.Frag} {H H' : Hp} {a : Addr} {xs : List V} (s : Same H H') (h : SqT K H a xs) : SqT K H' a xs := by
  rcases h with (z | ⟨o, z⟩) | z
  · exact .inl (.inl (s _ _ z))
  · exact .inl (.inr ⟨o, s _ _ z⟩)
  · exact .inr z
theorem same_put {H H' : Hp} {D : Addr} {o : HO} (s : Same H H') (n : H D = none) : Same H (upd H' D o) := fun p u z => by
  rw [upd_ne (fun e => by rw [e, n] at z; cases z)]
  exact s p u z
/-- a turn of a comprehension, with what is to hold where an item is kept, and where none is -/
abbrev Trn (g : TG) (tt : TT) (te : TE) (vs : List Nat) (σ : L2.St) (x : V) (H : Hp) (k1 : VK) (k2 : Hp → Prop) : Prop := g x (wipe σ vs) H fun σ2 H2 => wipe σ2 vs = wipe σ vs ∧ tt σ2 H2 fun c H3 => if c = true then te σ2 H3 k1 else k2 H3
abbrev rInSign : R2 := fun x y H Q => ∃ (c : Nat) (z : Str), x = .str ⟨#[c]⟩ ∧ y = .str z ∧ Q (.bl (decide (c ∈ z.cps.toList))) H
abbrev rIsN1 : R2 := fun x y H Q => y = .non ∧ Q (.bl (decide (x = .non))) H
abbrev rNotN1 : R2 := fun x y H Q => y = .non ∧ Q (.bl (!decide (x = .non))) H
theorem getF {α : Type} {f : α → V} {xs : List α} {i : Nat} {v : V} (h : (xs.map f)[i]? = some v) : ∃ x, xs[i]? = some x ∧ v = f x := by
  rw [List.getElem?_map] at h
  cases e : xs[i]? with
  | none => rw [e] at h; cases h
  | some x =>
    rw [e] at h
    cases h
    exact ⟨x, rfl, rfl⟩
theorem lt_line {n : Nat} (h : n < 1000) : n < sizeLine := Nat.lt_of_lt_of_le h (by decide)
theorem lc_tupS {K : PySem.W.Frag} {a : Addr} {xs : List V} {g : TG} {tt : TT} {te : TE} {vs : List Nat} {σ : L2.St} {H1 : Hp} {D : Addr} {Qd : Hp → Prop} (A : Nat → List V → Hp → Prop) (new : H1 D = none) (sq : SqT K H1 a xs) (few : xs.length < 1000) (off : ∀ i acc H H', Off D H H' → A i acc H → A i acc H') (h0 : A 0 [] H1)
    (turn : ∀ (i : Nat) (x : V) (acc : List V) (H : Hp), xs[i]? = some x → Same H1 H → H D = some (.lst acc) → A i acc H → ∀ (k1 : VK) (k2 : Hp → Prop), (∀ y H4, Same H H4 → A (i + 1) (acc ++ [y]) H4 → k1 y H4) → (∀ H4, Same H H4 → A (i + 1) acc H4 → k2 H4) → Trn g tt te vs σ x H k1 k2)
    (fin : ∀ acc H, Same H1 H → H D = some (.lst acc) → A xs.length acc H → Qd H) :
    ∃ W : Nat → Nat → Hp → Prop, (∃ m, W 0 m (upd H1 D (.lst []))) ∧ ∀ i m H, W i m H → ((Itt K a).stop i H ∧ Qd H) ∨ ((Itt K a).go i H ∧ ∃ Nx : Hp → Prop, (∀ H', Nx H' → ∃ m', m' < m ∧ W (i + 1) m' H') ∧
      ∀ x H', (Itt K a).yld i H x H' → Trn g tt te vs σ x H' (fun y H4 => ∃ acc, H4 D = some (.lst acc) ∧ acc.length < sizeLine ∧ Nx (upd H4 D (.lst (acc ++ [y])))) Nx) := by
  refine lc_tup (xs := xs) (fun i H => Same H1 H ∧ ∃ acc, H D = some (.lst acc) ∧ acc.length ≤ i ∧ A i acc H) ⟨same_put (Same.refl H1) new, [], upd_same, Nat.zero_le _, off _ _ _ _ Off.upd h0⟩ (fun i H _ q => sqT_same q.1 sq) ?_ ?_
  · rintro i x H hx ⟨s, acc, hd, la, a⟩
    refine turn i x acc H hx s hd a _ _ (fun y H4 s4 a4 => ⟨acc, s4 _ _ hd, lt_line (Nat.lt_of_le_of_lt la (Nat.lt_trans (List.getElem?_eq_some_iff.mp hx).1 few)), same_put (s.trans s4) new, acc ++ [y], upd_same, by rw [List.length_append]; exact Nat.succ_le_succ la, off _ _ _ _ Off.upd a4⟩) fun H4 s4 a4 => ⟨s.trans s4, acc, s4 _ _ hd, Nat.le_succ_of_le la, a4⟩
  · rintro H ⟨s, acc, hd, la, a⟩
    exact fin acc H s hd a
theorem lc_listS {K : PySem.W.Frag} {a : Addr} {xs : List V} {g : TG} {tt : TT} {te : TE} {vs : List Nat} {σ : L2.St} {H1 : Hp} {D : Addr} {Qd : Hp → Prop} (A : Nat → List V → Hp → Prop) (new : H1 D = none) (sq : SqL K H1 a xs) (few : xs.length < 1000) (off : ∀ i acc H H', Off D H H' → A i acc H → A i acc H') (h0 : A 0 [] H1)
    (turn : ∀ (i : Nat) (x : V) (acc : List V) (H : Hp), xs[i]? = some x → Same H1 H → H D = some (.lst acc) → A i acc H → ∀ (k1 : VK) (k2 : Hp → Prop), (∀ y H4, Same H H4 → A (i + 1) (acc ++ [y]) H4 → k1 y H4) → (∀ H4, Same H H4 → A (i + 1) acc H4 → k2 H4) → Trn g tt te vs σ x H k1 k2)
    (fin : ∀ acc H, Same H1 H → H D = some (.lst acc) → A xs.length acc H → Qd H) :
    ∃ W : Nat → Nat → Hp → Prop, (∃ m, W 0 m (upd H1 D (.lst []))) ∧ ∀ i m H, W i m H → ((Itl K a).stop i H ∧ Qd H) ∨ ((Itl K a).go i H ∧ ∃ Nx : Hp → Prop, (∀ H', Nx H' → ∃ m', m' < m ∧ W (i + 1) m' H') ∧
      ∀ x H', (Itl K a).yld i H x H' → Trn g tt te vs σ x H' (fun y H4 => ∃ acc, H4 D = some (.lst acc) ∧ acc.length < sizeLine ∧ Nx (upd H4 D (.lst (acc ++ [y])))) Nx) := by
  refine lc_list (xs := xs) (fun i H => Same H1 H ∧ ∃ acc, H D = some (.lst acc) ∧ acc.length ≤ i ∧ A i acc H) ⟨same_put (Same.refl H1) new, [], upd_same, Nat.zero_le _, off _ _ _ _ Off.upd h0⟩ (fun i H _ q => Same.seq q.1 sq) ?_ ?_
  · rintro i x H hx ⟨s, acc, hd, la, a⟩
    refine turn i x acc H hx s hd a _ _ (fun y H4 s4 a4 => ⟨acc, s4 _ _ hd, lt_line (Nat.lt_of_le_of_lt la (Nat.lt_trans (List.getElem?_eq_some_iff.mp hx).1 few)), same_put (s.trans s4) new, acc ++ [y], upd_same, by rw [List.length_append]; exact Nat.succ_le_succ la, off _ _ _ _ Off.upd a4⟩) fun H4 s4 a4 => ⟨s.trans s4, acc, s4 _ _ hd, Nat.le_succ_of_le la, a4⟩
  · rintro H ⟨s, acc, hd, la, a⟩
    exact fin acc H s hd a
theorem lc_rangeS {lo : Int} {n : Nat} {g : TG} {tt : TT} {te : TE} {vs : List Nat} {σ : L2.St} {H1 : Hp} {D : Addr} {Qd : Hp → Prop} (A : Nat → List V → Hp → Prop) (new : H1 D = none)  (few : n < 1000) (off : ∀ i acc H H', Off D H H' → A i acc H → A i acc H') (h0 : A 0 [] H1)
    (turn : ∀ (i : Nat) (acc : List V) (H : Hp), i < n → Same H1 H → H D = some (.lst acc) → A i acc H → ∀ (k1 : VK) (k2 : Hp → Prop), (∀ y H4, Same H H4 → A (i + 1) (acc ++ [y]) H4 → k1 y H4) → (∀ H4, Same H H4 → A (i + 1) acc H4 → k2 H4) → Trn g tt te vs σ (.int (lo + i)) H k1 k2)
    (fin : ∀ acc H, Same H1 H → H D = some (.lst acc) → A n acc H → Qd H) :
    ∃ W : Nat → Nat → Hp → Prop, (∃ m, W 0 m (upd H1 D (.lst []))) ∧ ∀ i m H, W i m H → ((Itr lo n).stop i H ∧ Qd H) ∨ ((Itr lo n).go i H ∧ ∃ Nx : Hp → Prop, (∀ H', Nx H' → ∃ m', m' < m ∧ W (i + 1) m' H') ∧
      ∀ x H', (Itr lo n).yld i H x H' → Trn g tt te vs σ x H' (fun y H4 => ∃ acc, H4 D = some (.lst acc) ∧ acc.length < sizeLine ∧ Nx (upd H4 D (.lst (acc ++ [y])))) Nx) := by
  refine lc_range (lo := lo) (n := n) (fun i H => Same H1 H ∧ ∃ acc, H D = some (.lst acc) ∧ acc.length ≤ i ∧ A i acc H) ⟨same_put (Same.refl H1) new, [], upd_same, Nat.zero_le _, off _ _ _ _ Off.upd h0⟩ ?_ ?_
  · rintro i H hx ⟨s, acc, hd, la, a⟩
    refine turn i acc H hx s hd a _ _ (fun y H4 s4 a4 => ⟨acc, s4 _ _ hd, lt_line (Nat.lt_of_le_of_lt la (Nat.lt_trans hx few)), same_put (s.trans s4) new, acc ++ [y], upd_same, by rw [List.length_append]; exact Nat.succ_le_succ la, off _ _ _ _ Off.upd a4⟩) fun H4 s4 a4 => ⟨s.trans s4, acc, s4 _ _ hd, Nat.le_succ_of_le la, a4⟩
  · rintro H ⟨s, acc, hd, la, a⟩
    exact fin acc H s hd a
theorem lc_textS {z : Str} {g : TG} {tt : TT} {te : TE} {vs : List Nat} {σ : L2.St} {H1 : Hp} {D : Addr} {Qd : Hp → Prop} (A : Nat → List V → Hp → Prop) (new : H1 D = none)  (few : z.cps.size < 1000) (off : ∀ i acc H H', Off D H H' → A i acc H → A i acc H') (h0 : A 0 [] H1)
    (turn : ∀ (i c : Nat) (acc : List V) (H : Hp), z.cps[i]? = some c → Same H1 H → H D = some (.lst acc) → A i acc H → ∀ (k1 : VK) (k2 : Hp → Prop), (∀ y H4, Same H H4 → A (i + 1) (acc ++ [y]) H4 → k1 y H4) → (∀ H4, Same H H4 → A (i + 1) acc H4 → k2 H4) → Trn g tt te vs σ (.str ⟨#[c]⟩) H k1 k2)
    (fin : ∀ acc H, Same H1 H → H D = some (.lst acc) → A z.cps.size acc H → Qd H) :
    ∃ W : Nat → Nat → Hp → Prop, (∃ m, W 0 m (upd H1 D (.lst []))) ∧ ∀ i m H, W i m H → ((Its z).stop i H ∧ Qd H) ∨ ((Its z).go i H ∧ ∃ Nx : Hp → Prop, (∀ H', Nx H' → ∃ m', m' < m ∧ W (i + 1) m' H') ∧
      ∀ x H', (Its z).yld i H x H' → Trn g tt te vs σ x H' (fun y H4 => ∃ acc, H4 D = some (.lst acc) ∧ acc.length < sizeLine ∧ Nx (upd H4 D (.lst (acc ++ [y])))) Nx) := by
  refine lc_text  (fun i H => Same H1 H ∧ ∃ acc, H D = some (.lst acc) ∧ acc.length ≤ i ∧ A i acc H) ⟨same_put (Same.refl H1) new, [], upd_same, Nat.zero_le _, off _ _ _ _ Off.upd h0⟩ ?_ ?_
  · rintro i c H hx ⟨s, acc, hd, la, a⟩
    refine turn i c acc H hx s hd a _ _ (fun y H4 s4 a4 => ⟨acc, s4 _ _ hd, lt_line (Nat.lt_of_le_of_lt la (Nat.lt_trans (Array.getElem?_eq_some_iff.mp hx).1 few)), same_put (s.trans s4) new, acc ++ [y], upd_same, by rw [List.length_append]; exact Nat.succ_le_succ la, off _ _ _ _ Off.upd a4⟩) fun H4 s4 a4 => ⟨s.trans s4, acc, s4 _ _ hd, Nat.le_succ_of_le la, a4⟩
  · rintro H ⟨s, acc, hd, la, a⟩
    exact fin acc H s hd a
/-- a comprehension over enumerate of a tuple -/
theorem lc_enumT {K : PySem.W.Frag} {a : Addr} {xs : List V} {g : TG} {tt : TT} {te : TE} {vs : List Nat} {σ : L2.St} {H1 : Hp} {D : Addr} {Qd : Hp → Prop} (Pv : Nat → Hp → Prop) (h0 : Pv 0 (upd H1 D (.lst []))) (there : ∀ i H, Pv i H → SqT K H a xs)
    (turn : ∀ (i : Nat) (x : V) (T : Addr) (H : Hp), xs[i]? = some x → Pv i H → H T = none → Trn g tt te vs σ (.ref T) (upd H T (.tup [.int (i : Nat), x])) (fun y H4 => ∃ acc, H4 D = some (.lst acc) ∧ acc.length < sizeLine ∧ Pv (i + 1) (upd H4 D (.lst (acc ++ [y])))) (Pv (i + 1)))
    (fin : ∀ H, Pv xs.length H → Qd H) :
    ∃ W : Nat → Nat → Hp → Prop, (∃ m, W 0 m (upd H1 D (.lst []))) ∧ ∀ i m H, W i m H → ((IteT K a).stop i H ∧ Qd H) ∨ ((IteT K a).go i H ∧ ∃ Nx : Hp → Prop, (∀ H', Nx H' → ∃ m', m' < m ∧ W (i + 1) m' H') ∧
      ∀ x H', (IteT K a).yld i H x H' → Trn g tt te vs σ x H' (fun y H4 => ∃ acc, H4 D = some (.lst acc) ∧ acc.length < sizeLine ∧ Nx (upd H4 D (.lst (acc ++ [y])))) Nx) := by
  refine ⟨fun i m H => m + i = xs.length ∧ Pv i H, ⟨xs.length, rfl, h0⟩, ?_⟩
  rintro i m H ⟨em, p⟩
  have sq := there i H p
  by_cases lt : i < xs.length
  · refine .inr ⟨⟨xs, xs[i], sq, List.getElem?_eq_getElem lt⟩, Pv (i + 1), fun H' p' => ⟨m - 1, by omega, by omega, p'⟩, ?_⟩
    rintro v H' ⟨T, x, rfl, nT, rfl, ex⟩
    exact turn i x T H (ex xs sq) p nT
  · have e : i = xs.length := by omega
    subst e
    exact .inl ⟨⟨xs, sq, rfl⟩, fin H p⟩
theorem lc_enumTS {K : PySem.W.Frag} {a : Addr} {xs : List V} {g : TG} {tt : TT} {te : TE} {vs : List Nat} {σ : L2.St} {H1 : Hp} {D : Addr} {Qd : Hp → Prop} (A : Nat → List V → Hp → Prop) (new : H1 D = none) (sq : SqT K H1 a xs) (few : xs.length < 1000) (off : ∀ i acc H H', Off D H H' → A i acc H → A i acc H') (h0 : A 0 [] H1)
    (turn : ∀ (i : Nat) (x : V) (T : Addr) (acc : List V) (H : Hp), xs[i]? = some x → Same H1 H → H T = some (.tup [.int (i : Nat), x]) → H D = some (.lst acc) → A i acc H → ∀ (k1 : VK) (k2 : Hp → Prop), (∀ y H4, Same H H4 → A (i + 1) (acc ++ [y]) H4 → k1 y H4) → (∀ H4, Same H H4 → A (i + 1) acc H4 → k2 H4) → Trn g tt te vs σ (.ref T) H k1 k2)
    (fin : ∀ acc H, Same H1 H → H D = some (.lst acc) → A xs.length acc H → Qd H) :
    ∃ W : Nat → Nat → Hp → Prop, (∃ m, W 0 m (upd H1 D (.lst []))) ∧ ∀ i m H, W i m H → ((IteT K a).stop i H ∧ Qd H) ∨ ((IteT K a).go i H ∧ ∃ Nx : Hp → Prop, (∀ H', Nx H' → ∃ m', m' < m ∧ W (i + 1) m' H') ∧
      ∀ x H', (IteT K a).yld i H x H' → Trn g tt te vs σ x H' (fun y H4 => ∃ acc, H4 D = some (.lst acc) ∧ acc.length < sizeLine ∧ Nx (upd H4 D (.lst (acc ++ [y])))) Nx) := by
  refine lc_enumT (xs := xs) (fun i H => Same H1 H ∧ ∃ acc, H D = some (.lst acc) ∧ acc.length ≤ i ∧ A i acc H) ⟨same_put (Same.refl H1) new, [], upd_same, Nat.zero_le _, off _ _ _ _ Off.upd h0⟩ (fun i H q => sqT_same q.1 sq) ?_ ?_
  · rintro i x T H hx ⟨s, acc, hd, la, a⟩ nT
    have TD : D ≠ T := fun e => by
      rw [e, nT] at hd
      cases hd
    have sT := same_new (o := HO.tup [.int (i : Nat), x]) nT
    refine turn i x T acc _ hx (s.trans sT) upd_same (sT _ _ hd) (off _ _ _ _ (Off.of sT) a) _ _ (fun y H4 s4 a4 => ⟨acc, (sT.trans s4) _ _ hd, lt_line (Nat.lt_of_le_of_lt la (Nat.lt_trans (List.getElem?_eq_some_iff.mp hx).1 few)), same_put (s.trans (sT.trans s4)) new, acc ++ [y], upd_same, by rw [List.length_append]; exact Nat.succ_le_succ la, off _ _ _ _ Off.upd a4⟩) fun H4 s4 a4 => ⟨s.trans (sT.trans s4), acc, (sT.trans s4) _ _ hd, Nat.le_succ_of_le la, a4⟩
  · rintro H ⟨s, acc, hd, la, a⟩
    exact fin acc H s hd a
/-- .. that keeps of each item what f tells -/
theorem lc_tupF {K : PySem.W.Frag} {a : Addr} {xs : List V} {g : TG} {tt : TT} {te : TE} {vs : List Nat} {σ : L2.St} {H1 : Hp} {D : Addr} {Qd : Hp → Prop} (f : V → Option V) (new : H1 D = none) (sq : SqT K H1 a xs) (few : xs.length < 1000)
    (turn : ∀ (i : Nat) (x : V) (H : Hp), xs[i]? = some x → Same H1 H → ∀ (k1 : VK) (k2 : Hp → Prop), (∀ y H4, f x = some y → Same H H4 → k1 y H4) → (∀ H4, f x = none → Same H H4 → k2 H4) → Trn g tt te vs σ x H k1 k2)
    (fin : ∀ H, Same H1 H → H D = some (.lst (xs.filterMap f)) → Qd H) :
    ∃ W : Nat → Nat → Hp → Prop, (∃ m, W 0 m (upd H1 D (.lst []))) ∧ ∀ i m H, W i m H → ((Itt K a).stop i H ∧ Qd H) ∨ ((Itt K a).go i H ∧ ∃ Nx : Hp → Prop, (∀ H', Nx H' → ∃ m', m' < m ∧ W (i + 1) m' H') ∧
      ∀ x H', (Itt K a).yld i H x H' → Trn g tt te vs σ x H' (fun y H4 => ∃ acc, H4 D = some (.lst acc) ∧ acc.length < sizeLine ∧ Nx (upd H4 D (.lst (acc ++ [y])))) Nx) := by
  refine lc_tupS (xs := xs) (fun i acc _ => acc = (xs.take i).filterMap f) new sq few (fun _ _ _ _ _ h => h) rfl ?_ ?_
  · rintro i x acc H hx s hd rfl k1 k2 y1 y2
    have et : (xs.take (i + 1)).filterMap f = (xs.take i).filterMap f ++ (f x).toList := by
      rw [List.take_add_one, hx, List.filterMap_append]
      cases q : f x <;> simp [q]
    refine turn i x H hx s k1 k2 (fun y H4 e s4 => y1 y H4 s4 ?_) fun H4 e s4 => y2 H4 s4 ?_
    · rw [et, e]
      rfl
    · rw [et, e]
      exact (List.append_nil _).symm
  · rintro acc H s hd rfl
    rw [List.take_of_length_le (Nat.le_refl _)] at hd
    exact fin H s hd
/-- .. that tells g of each item -/
theorem lc_tupV {K : PySem.W.Frag} {a : Addr} {xs : List V} {g : TG} {tt : TT} {te : TE} {vs : List Nat} {σ : L2.St} {H1 : Hp} {D : Addr} {Qd : Hp → Prop} (f : V → V) (new : H1 D = none) (sq : SqT K H1 a xs) (few : xs.length < 1000)
    (turn : ∀ (i : Nat) (x : V) (H : Hp), xs[i]? = some x → Same H1 H → ∀ (k1 : VK) (k2 : Hp → Prop), (∀ H4, Same H H4 → k1 (f x) H4) → Trn g tt te vs σ x H k1 k2)
    (fin : ∀ H, Same H1 H → H D = some (.lst (xs.map f)) → Qd H) :
    ∃ W : Nat → Nat → Hp → Prop, (∃ m, W 0 m (upd H1 D (.lst []))) ∧ ∀ i m H, W i m H → ((Itt K a).stop i H ∧ Qd H) ∨ ((Itt K a).go i H ∧ ∃ Nx : Hp → Prop, (∀ H', Nx H' → ∃ m', m' < m ∧ W (i + 1) m' H') ∧
      ∀ x H', (Itt K a).yld i H x H' → Trn g tt te vs σ x H' (fun y H4 => ∃ acc, H4 D = some (.lst acc) ∧ acc.length < sizeLine ∧ Nx (upd H4 D (.lst (acc ++ [y])))) Nx) :=
  lc_tupF (xs := xs) (fun x => some (f x)) new sq few (fun i x H hx s k1 k2 y1 _ => turn i x H hx s k1 k2 fun H4 s4 => y1 _ H4 rfl s4) fun H s hd => fin H s (by
    have e : xs.filterMap (fun x => some (f x)) = xs.map f := by
      rw [← List.filterMap_eq_map]
      rfl
    rw [← e]
    exact hd)
/-- .. that keeps of each item what f tells -/
theorem lc_listF {K : PySem.W.Frag} {a : Addr} {xs : List V} {g : TG} {tt : TT} {te : TE} {vs : List Nat} {σ : L2.St} {H1 : Hp} {D : Addr} {Qd : Hp → Prop} (f : V → Option V) (new : H1 D = none) (sq : SqL K H1 a xs) (few : xs.length < 1000)
    (turn : ∀ (i : Nat) (x : V) (H : Hp), xs[i]? = some x → Same H1 H → ∀ (k1 : VK) (k2 : Hp → Prop), (∀ y H4, f x = some y → Same H H4 → k1 y H4) → (∀ H4, f x = none → Same H H4 → k2 H4) → Trn g tt te vs σ x H k1 k2)
    (fin : ∀ H, Same H1 H → H D = some (.lst (xs.filterMap f)) → Qd H) :
    ∃ W : Nat → Nat → Hp → Prop, (∃ m, W 0 m (upd H1 D (.lst []))) ∧ ∀ i m H, W i m H → ((Itl K a).stop i H ∧ Qd H) ∨ ((Itl K a).go i H ∧ ∃ Nx : Hp → Prop, (∀ H', Nx H' → ∃ m', m' < m ∧ W (i + 1) m' H') ∧
      ∀ x H', (Itl K a).yld i H x H' → Trn g tt te vs σ x H' (fun y H4 => ∃ acc, H4 D = some (.lst acc) ∧ acc.length < sizeLine ∧ Nx (upd H4 D (.lst (acc ++ [y])))) Nx) := by
  refine lc_listS (xs := xs) (fun i acc _ => acc = (xs.take i).filterMap f) new sq few (fun _ _ _ _ _ h => h) rfl ?_ ?_
  · rintro i x acc H hx s hd rfl k1 k2 y1 y2
    have et : (xs.take (i + 1)).filterMap f = (xs.take i).filterMap f ++ (f x).toList := by
      rw [List.take_add_one, hx, List.filterMap_append]
      cases q : f x <;> simp [q]
    refine turn i x H hx s k1 k2 (fun y H4 e s4 => y1 y H4 s4 ?_) fun H4 e s4 => y2 H4 s4 ?_
    · rw [et, e]
      rfl
    · rw [et, e]
      exact (List.append_nil _).symm
  · rintro acc H s hd rfl
    rw [List.take_of_length_le (Nat.le_refl _)] at hd
    exact fin H s hd
/-- .. that tells g of each item -/
theorem lc_listV {K : PySem.W.Frag} {a : Addr} {xs : List V} {g : TG} {tt : TT} {te : TE} {vs : List Nat} {σ : L2.St} {H1 : Hp} {D : Addr} {Qd : Hp → Prop} (f : V → V) (new : H1 D = none) (sq : SqL K H1 a xs) (few : xs.length < 1000)
    (turn : ∀ (i : Nat) (x : V) (H : Hp), xs[i]? = some x → Same H1 H → ∀ (k1 : VK) (k2 : Hp → Prop), (∀ H4, Same H H4 → k1 (f x) H4) → Trn g tt te vs σ x H k1 k2)
    (fin : ∀ H, Same H1 H → H D = some (.lst (xs.map f)) → Qd H) :
    ∃ W : Nat → Nat → Hp → Prop, (∃ m, W 0 m (upd H1 D (.lst []))) ∧ ∀ i m H, W i m H → ((Itl K a).stop i H ∧ Qd H) ∨ ((Itl K a).go i H ∧ ∃ Nx : Hp → Prop, (∀ H', Nx H' → ∃ m', m' < m ∧ W (i + 1) m' H') ∧
      ∀ x H', (Itl K a).yld i H x H' → Trn g tt te vs σ x H' (fun y H4 => ∃ acc, H4 D = some (.lst acc) ∧ acc.length < sizeLine ∧ Nx (upd H4 D (.lst (acc ++ [y])))) Nx) :=
  lc_listF (xs := xs) (fun x => some (f x)) new sq few (fun i x H hx s k1 k2 y1 _ => turn i x H hx s k1 k2 fun H4 s4 => y1 _ H4 rfl s4) fun H s hd => fin H s (by
    have e : xs.filterMap (fun x => some (f x)) = xs.map f := by
      rw [← List.filterMap_eq_map]
      rfl
    rw [← e]
    exact hd)
end VQ
namespace VQ
open PySem L2 LamX
/-! ### questions -/
abbrev letters : Str := "abcdefghijklmnopqrstuvwxyz"
def letB (c : Nat) : Bool := decide (c ∈ letters.cps.toList)
/-- a name of at most m letters -/
structure NameS (m : Nat) (z : Str) : Prop where
  lo : 1 ≤ z.length
  hi : z.length ≤ m
  nf : z ≠ "find"
  ns : z ≠ "some"
  lt : ∀ c ∈ z.cps.toList, letB c = true
inductive Term where
  | wo (n : Nat)
  | nm (z : Str)
  deriving DecidableEq
def termV : Term → V
  | .wo n => numV n
  | .nm z => .str z
theorem termV_flat (t : Term) : flatV (termV t) = true := by cases t <;> rfl
theorem terms_flat (ts : List Term) : (ts.map termV).all flatV = true := by
  rw [List.all_map]
  exact List.all_eq_true.mpr fun t _ => termV_flat t
theorem strs_flat (zs : List Str) : (zs.map V.str).all flatV = true := by
  rw [List.all_map]
  exact List.all_eq_true.mpr fun t _ => rfl
structure Qn where
  names : List Str
  many : Nat
  ties : List (Str × List Term)
  less : List (Str × Str)
/-- values and what they stand for, one by one -/
inductive Each {α : Type} (R : V → α → Prop) : List V → List α → Prop
  | nil : Each R [] []
  | cons {v : V} {x : α} {vs : List V} {xs : List α} (h : R v x) (t : Each R vs xs) : Each R (v :: vs) (x :: xs)
theorem Each.len {α : Type} {R : V → α → Prop} : ∀ {vs : List V} {xs : List α}, Each R vs xs → vs.length = xs.length
  | _, _, .nil => rfl
  | _, _, .cons _ t => congrArg (· + 1) t.len
theorem Each.get {α : Type} {R : V → α → Prop} : ∀ {vs : List V} {xs : List α}, Each R vs xs → ∀ {i : Nat} {v : V}, vs[i]? = some v → ∃ x, xs[i]? = some x ∧ R v x
  | _, _, .nil, _, _, h => by simp at h
  | _, _, .cons h t, 0, _, e => by
    cases e
    exact ⟨_, rfl, h⟩
  | _, _, .cons h t, i + 1, _, e => t.get (i := i) e
theorem Each.at_ {α : Type} {R : V → α → Prop} : ∀ {vs : List V} {xs : List α}, Each R vs xs → ∀ {i : Nat} {x : α}, xs[i]? = some x → ∃ v, vs[i]? = some v ∧ R v x
  | _, _, .nil, _, _, h => by simp at h
  | _, _, .cons h t, 0, _, e => by
    cases e
    exact ⟨_, rfl, h⟩
  | _, _, .cons h t, i + 1, _, e => t.at_ (i := i) e
theorem Each.mono {α : Type} {R S : V → α → Prop} (f : ∀ v x, R v x → S v x) : ∀ {vs : List V} {xs : List α}, Each R vs xs → Each S vs xs
  | _, _, .nil => .nil
  | _, _, .cons h t => .cons (f _ _ h) (t.mono f)
theorem Each.snoc {α : Type} {R : V → α → Prop} : ∀ {vs : List V} {xs : List α}, Each R vs xs → ∀ {v : V} {x : α}, R v x → Each R (vs ++ [v]) (xs ++ [x])
  | _, _, .nil, _, _, h => .cons h .nil
  | _, _, .cons h t, _, _, h' => .cons h (t.snoc h')
/-- tuples stand as they stood -/
def Tups (H H' : Hp) : Prop := ∀ a xs, H a = some (.tup xs) → H' a = some (.tup xs)
theorem same_tups {H H' : Hp} (s : Same H H') : Tups H H' := fun a xs h => s _ _ h
theorem Tups.trans {H H1 H2 : Hp} (a : Tups H H1) (b : Tups H1 H2) : Tups H H2 := fun p xs h => b _ _ (a _ _ h)
def TieAt (H : Hp) (v : V) (t : Str × List Term) : Prop := ∃ a c, v = .ref a ∧ H a = some (.tup [.str t.1, .ref c]) ∧ H c = some (.tup (t.2.map termV))
def PairAt (H : Hp) (v : V) (p : Str × Str) : Prop := ∃ a, v = .ref a ∧ H a = some (.tup [.str p.1, .str p.2])
theorem TieAt.moved {H H' : Hp} (s : Tups H H') {v : V} {t : Str × List Term} (h : TieAt H v t) : TieAt H' v t := by
  obtain ⟨a, c, e, h1, h2⟩ := h
  exact ⟨a, c, e, s _ _ h1, s _ _ h2⟩
theorem PairAt.moved {H H' : Hp} (s : Tups H H') {v : V} {t : Str × Str} (h : PairAt H v t) : PairAt H' v t := by
  obtain ⟨a, e, h1⟩ := h
  exact ⟨a, e, s _ _ h1⟩
def NmAt (H : Hp) (a : Addr) (zs : List Str) : Prop := H a = some (.tup (zs.map V.str))
structure QParts (H : Hp) (n t l : Addr) (q : Qn) : Prop where
  nm : NmAt H n q.names
  ti : ∃ ts, H t = some (.tup ts) ∧ Each (TieAt H) ts q.ties
  le : ∃ ls, H l = some (.tup ls) ∧ Each (PairAt H) ls q.less
def QAt (H : Hp) (a : Addr) (q : Qn) : Prop := ∃ n t l, H a = some (.tup [.ref n, .int (q.many : Nat), .ref t, .ref l]) ∧ QParts H n t l q
theorem QParts.moved {H H' : Hp} (s : Tups H H') {n t l : Addr} {q : Qn} (h : QParts H n t l q) : QParts H' n t l q := by
  obtain ⟨h1, ⟨ts, h2, h3⟩, ls, h4, h5⟩ := h
  exact ⟨s _ _ h1, ⟨ts, s _ _ h2, h3.mono fun _ _ z => z.moved s⟩, ls, s _ _ h4, h5.mono fun _ _ z => z.moved s⟩
theorem QAt.moved {H H' : Hp} (s : Tups H H') {a : Addr} {q : Qn} (h : QAt H a q) : QAt H' a q := by
  obtain ⟨n, t, l, h1, h2⟩ := h
  exact ⟨n, t, l, s _ _ h1, h2.moved s⟩
def TermOk (names : List Str) : Term → Prop
  | .wo n => n < 32
  | .nm z => z ∈ names
structure TieOk (names : List Str) (t : Str × List Term) : Prop where
  nm : NameS 8 t.1
  lo : 1 ≤ t.2.length
  hi : t.2.length ≤ 4
  tm : ∀ x ∈ t.2, TermOk names x
structure QOk (q : Qn) : Prop where
  n1 : 1 ≤ q.names.length
  n5 : q.names.length ≤ 5
  nm : ∀ z ∈ q.names, NameS 4 z
  nd : q.names.Nodup
  m1 : 1 ≤ q.many
  mn : q.many ≤ q.names.length
  t1 : 1 ≤ q.ties.length
  t6 : q.ties.length ≤ 6
  tt : ∀ t ∈ q.ties, TieOk q.names t
  l3 : q.less.length ≤ 3
  ll : ∀ p ∈ q.less, p.1 ∈ q.names ∧ p.2 ∈ q.names ∧ p.1 ≠ p.2
  all : ∀ z ∈ q.names, ∃ t ∈ q.ties, Term.nm z ∈ t.2
theorem inV_str {z : Str} {zs : List Str} : inV (.str z) (zs.map V.str) = decide (z ∈ zs) := by
  unfold inV
  rw [List.any_map]
  by_cases h : z ∈ zs
  · rw [decide_eq_true h, List.any_eq_true]
    exact ⟨z, h, beq_self_eq_true z⟩
  · rw [decide_eq_false h, List.any_eq_false]
    intro y m e
    have e' : (y == z) = true := e
    exact h (by rw [← beq_iff_eq.mp e']; exact m)
theorem inV_term {z : Str} {ts : List Term} : inV (.str z) (ts.map termV) = decide (Term.nm z ∈ ts) := by
  unfold inV
  rw [List.any_map]
  by_cases h : Term.nm z ∈ ts
  · rw [decide_eq_true h, List.any_eq_true]
    exact ⟨_, h, beq_self_eq_true z⟩
  · rw [decide_eq_false h, List.any_eq_false]
    intro y m e
    cases y with
    | wo n => cases e
    | nm y =>
      have e' : (y == z) = true := e
      exact h (by rw [← beq_iff_eq.mp e']; exact m)
/-- where a def stands, wherever -/
def AtE (K : PySem.W.Frag) (mg : Str → Option Value) (x : Str) (st : Stmt) (ps : List Str) : Prop := ∃ f fd, At K mg x st ps f fd
/-- a def that stands and keeps a promise -/
def Has (P : Program) (w : World) (K : PySem.W.Frag) (mg : Str → Option Value) (base : Heap) (C : CXT) (k : Nat) (x : Str) (st : Stmt) (ps : List Str) (sp : Sp) : Prop := ∃ f fd, At K mg x st ps f fd ∧ FnOk P w K mg base C k f fd ps sp
abbrev nIsTuple : List Str := ["thing", "least", "most"]
abbrev nIsName : List Str := ["thing", "most", "sign"]
abbrev nAreNames : List Str := ["thing", "part"]
abbrev nIsTie : List Str := ["thing", "names", "table", "terms", "term"]
abbrev nIsPair : List Str := ["thing", "names", "part"]
abbrev nAllTied : List Str := ["names", "ties", "terms", "tie", "term", "name"]
abbrev nIsQuestion : List Str := ["thing", "names", "many", "ties", "less", "tie", "pair"]
abbrev nNeedQuestion : List Str := ["question"]
structure Wq (K : PySem.W.Frag) (mg : Str → Option Value) (aB : Addr) : Prop where
  mp : ∃ t, mg "MOST_PLACES" = some (.int 5 t)
  mw : ∃ t, mg "MOST_WIDTH" = some (.int 4 t)
  ml : ∃ t, mg "MOST_LETTERS" = some (.int 8 t)
  mn : ∃ t, mg "MOST_NAME" = some (.int 4 t)
  mt : ∃ t, mg "MOST_TIES" = some (.int 6 t)
  mr : ∃ t, mg "MOST_PAIRS" = some (.int 3 t)
  wo : ∃ t, mg "WORTHS" = some (.int 32 t)
  le : ∃ t, mg "LETTERS" = some (.str letters t)
  ba : mg "BARRED" = some (.ref aB)
  bt : ∀ H, SqT K H aB [.str "find", .str "some"]
  set : mg "set" = none
section
variable {P : Program} {w : World} {K : PySem.W.Frag} {mg : Str → Option Value} {base : Heap} {aB : Addr}
/-- a thing that is no tuple, or the items of one -/
inductive TupO (K : PySem.W.Frag) (H : Hp) : V → Option (List V) → Prop
  | tup {a : Addr} {xs : List V} (h : H a = some (.tup xs)) : TupO K H (.ref a) (some xs)
  | oth {x : V} {t : String} (ty : TyX K H x (.type t)) (m : t ∈ basics) (nt : t ≠ "tuple") : TupO K H x none
def lenO (lo hi : Int) : Option (List V) → Bool
  | none => false
  | some xs => decide (lo ≤ xs.length) && decide ((xs.length : Int) ≤ hi)
def spIsTuple (K : PySem.W.Frag) : Sp := fun vs H Q _ => ∃ (x : V) (o : Option (List V)) (lo hi : Int), vs = [x, .int lo, .int hi] ∧ TupO K H x o ∧ Q (.bl (lenO lo hi o)) H
def spIsName : Sp := fun vs H Q _ => ∃ (z : Str) (m : Nat), vs = [.str z, .int (m : Nat)] ∧ NameS m z ∧ m ≤ 8 ∧ ∀ H', Same H H' → Q (.bl true) H'
def spAreNames : Sp := fun vs H Q _ => ∃ (a : Addr) (zs : List Str), vs = [.ref a] ∧ NmAt H a zs ∧ 1 ≤ zs.length ∧ zs.length ≤ 5 ∧ (∀ z ∈ zs, NameS 4 z) ∧ zs.Nodup ∧ ∀ H', Same H H' → Q (.bl true) H'
def spIsTie (K : PySem.W.Frag) : Sp := fun vs H Q _ => ∃ (v : V) (a : Addr) (zs : List Str) (t : Str × List Term), vs = [v, .ref a] ∧ TieAt H v t ∧ NmAt H a zs ∧ TieOk zs t ∧ ∀ H', Same H H' → Q (.bl true) H'
def spIsPair (K : PySem.W.Frag) : Sp := fun vs H Q _ => ∃ (v : V) (a : Addr) (zs : List Str) (p : Str × Str), vs = [v, .ref a] ∧ PairAt H v p ∧ NmAt H a zs ∧ zs.length ≤ 5 ∧ p.1 ∈ zs ∧ p.2 ∈ zs ∧ p.1 ≠ p.2 ∧ ∀ H', Same H H' → Q (.bl true) H'
end
end VQ
namespace VQ
open PySem L2 LamX
/-! ### words, numbers and signs of a text -/
abbrev digs : Str := "0123456789"
def digB (c : Nat) : Bool := decide (c ∈ digs.cps.toList)
def spanLen (p : Nat → Bool) : List Nat → Nat
  | [] => 0
  | c :: cs => if p c = true then spanLen p cs + 1 else 0
def partLen : List Nat → Nat
  | [] => 0
  | c :: cs => if letB c = true then spanLen letB (c :: cs) else if digB c = true then spanLen digB (c :: cs) else 1
theorem spanLen_le (p : Nat → Bool) : ∀ cs, spanLen p cs ≤ cs.length
  | [] => Nat.le_refl _
  | c :: cs => by
    unfold spanLen
    split
    · exact Nat.succ_le_succ (spanLen_le p cs)
    · exact Nat.zero_le _
theorem spanLen_run (p : Nat → Bool) : ∀ (w cs : List Nat), (∀ c ∈ w, p c = true) → (∀ c, cs.head? = some c → p c = false) → spanLen p (w ++ cs) = w.length
  | [], cs, _, h => by
    cases cs with
    | nil => rfl
    | cons c cs =>
      show (if p c = true then _ else 0) = 0
      rw [if_neg (by rw [h c rfl]; exact Bool.false_ne_true)]
  | c :: w, cs, hw, h => by
    show (if p c = true then spanLen p (w ++ cs) + 1 else 0) = _
    rw [if_pos (hw c List.mem_cons_self), spanLen_run p w cs (fun x m => hw x (List.mem_cons_of_mem _ m)) h]
    rfl
/-- a word, a number, or a sign -/
inductive Tok : List Nat → List Nat → Prop
  | word {w cs : List Nat} (ne : w ≠ []) (all : ∀ c ∈ w, letB c = true) (end_ : ∀ c, cs.head? = some c → letB c = false) : Tok w cs
  | num {w cs : List Nat} (ne : w ≠ []) (all : ∀ c ∈ w, digB c = true) (end_ : ∀ c, cs.head? = some c → digB c = false) : Tok w cs
  | sign {c : Nat} {cs : List Nat} (n1 : letB c = false) (n2 : digB c = false) (n3 : c ≠ 32) : Tok [c] cs
/-- a text spells these, with blanks between -/
inductive Spell : List Nat → List Str → Prop
  | nil : Spell [] []
  | blank {cs : List Nat} {ts : List Str} (h : Spell cs ts) : Spell (32 :: cs) ts
  | tok {w cs : List Nat} {ts : List Str} (t : Tok w cs) (h : Spell cs ts) : Spell (w ++ cs) (⟨w.toArray⟩ :: ts)
theorem dig_let : ∀ c, digB c = true → letB c = false := by
  intro c h
  have q : ∀ c ∈ digs.cps.toList, letB c = false := by decide +kernel
  exact q c (of_decide_eq_true h)
theorem Tok.ne {w cs : List Nat} (t : Tok w cs) : w ≠ [] := by
  cases t with
  | word ne _ _ => exact ne
  | num ne _ _ => exact ne
  | sign _ _ _ => exact List.cons_ne_nil _ _
theorem Tok.len {w cs : List Nat} (t : Tok w cs) : partLen (w ++ cs) = w.length := by
  cases t with
  | word ne all end_ =>
    cases w with
    | nil => exact absurd rfl ne
    | cons c w =>
      show (if letB c = true then _ else _) = _
      rw [if_pos (all c List.mem_cons_self)]
      exact spanLen_run letB (c :: w) cs all end_
  | num ne all end_ =>
    cases w with
    | nil => exact absurd rfl ne
    | cons c w =>
      show (if letB c = true then _ else if digB c = true then _ else _) = _
      have hd := all c List.mem_cons_self
      rw [if_neg (by rw [dig_let c hd]; exact Bool.false_ne_true), if_pos hd]
      exact spanLen_run digB (c :: w) cs all end_
  | sign n1 n2 n3 =>
    show (if letB _ = true then _ else if digB _ = true then _ else _) = _
    rw [if_neg (by rw [n1]; exact Bool.false_ne_true), if_neg (by rw [n2]; exact Bool.false_ne_true)]
    rfl
theorem Tok.first {w cs : List Nat} (t : Tok w cs) : ∃ c r, w = c :: r ∧ c ≠ 32 := by
  have h : letB 32 = false ∧ digB 32 = false := by decide +kernel
  cases t with
  | word ne all _ =>
    cases w with
    | nil => exact absurd rfl ne
    | cons c w =>
      refine ⟨c, w, rfl, fun e => ?_⟩
      have q := all c List.mem_cons_self
      rw [e, h.1] at q
      cases q
  | num ne all _ =>
    cases w with
    | nil => exact absurd rfl ne
    | cons c w =>
      refine ⟨c, w, rfl, fun e => ?_⟩
      have q := all c List.mem_cons_self
      rw [e, h.2] at q
      cases q
  | sign _ _ n3 => exact ⟨_, [], rfl, n3⟩
theorem blank_len (cs : List Nat) : partLen (32 :: cs) = 1 := by
  have h : letB 32 = false ∧ digB 32 = false := by decide +kernel
  show (if letB 32 = true then spanLen letB (32 :: cs) else if digB 32 = true then spanLen digB (32 :: cs) else 1) = 1
  rw [if_neg (by rw [h.1]; exact Bool.false_ne_true), if_neg (by rw [h.2]; exact Bool.false_ne_true)]
theorem text_at {z : Str} {i : Nat} (h : i < z.length) : ∃ c, z.cps.toList[i]? = some c ∧ z.cps.toList.drop i = c :: z.cps.toList.drop (i + 1) := by
  have h' : i < z.cps.toList.length := by
    rw [Array.length_toList]
    exact h
  exact ⟨_, List.getElem?_eq_getElem h', List.drop_eq_getElem_cons h'⟩
abbrev nPartEnd : List Str := ["text", "at", "kind"]
abbrev nPartsOf : List Str := ["text", "parts", "at", "behind"]
section
variable {P : Program} {w : World} {K : PySem.W.Frag} {mg : Str → Option Value} {base : Heap} {aB : Addr}
def spPartEnd : Sp := fun vs H Q _ => ∃ (z : Str) (i : Nat), vs = [.str z, .int (i : Nat)] ∧ z.length ≤ 900 ∧ i < z.length ∧ ∀ H', Same H H' → Q (.int ((i + partLen (z.cps.toList.drop i) : Nat) : Int)) H'
end
end VQ
namespace VQ
open PySem PySem.Spec PySem.Calls PyProof.Rows L2
/-! ### a, *b = xs and *a, b = xs -/
section
variable {prog : Program} {w : World} {A : Around} {E : Value → Shared → Prop} {s : Shared}
/-- the rest of the work, once the iterator stands at place i -/
theorem star_rest {I l : Addr} {its : List Value} {n i : Nat} {T : String} {St : Nat → Heap → Prop} {Q : List Value → Shared → Prop} {h1 : Heap} (hT : T = "str_ascii_iterator" ∨ T = "str_iterator" ∨ T = "list_iterator" ∨ T = "tuple_iterator")
    (W : Walks prog w A.in1 I [I, l] [I] its.toArray.size (fun i v => its.toArray[i]? = some v) St) (ty : ∀ i (u : Shared), St i u.heap → u.TypeIs (.ref I) T) (st : St i h1) (bI : I < h1.objs.size) (bl : l < h1.objs.size) (hi : i < n) (hn : n ≤ its.length + 1) (hz : its.length ≤ sizeLine)
    (up : ∀ b o, b ≠ I → s.heap.get? b = some o → h1.get? b = some o) (new : s.heap.objs.size ≤ I)
    (fin : ∀ (h' : Heap) (tk : Nat), (∀ b o, s.heap.get? b = some o → h'.get? b = some o) →
      Q (its.take i ++ [.ref h'.objs.size] ++ (its.drop i).drop (its.length + 1 - n)) { s with heap := h'.push { cls := .type "list", data := .seq ((its.drop i).take (its.length + 1 - n)).toArray }, toks := tk }) :
    wpAny (model prog w) A (do
      if (its.take i).length < i then
        rule "unpack.star.too-few-before"
        raiseError "ValueError" s!"not enough values to unpack (expected at least {n - 1}, got {(its.take i).length})"
      let rest ← holding (its.take i) (collect (.ref I))
      let after := n - 1 - i
      if rest.length < after then
        rule "unpack.star.too-few"
        raiseError "ValueError" s!"not enough values to unpack (expected at least {n - 1}, got {i + rest.length})"
      let mid := rest.length - after
      return its.take i ++ [← newList (rest.take mid)] ++ rest.drop mid) Q E { s with heap := h1 } := by
  have few : ¬ (its.take i).length < i := by
    rw [List.length_take]
    omega
  rw [if_neg few]
  have szA : its.toArray.size = its.length := by simp
  refine wpAny_bind (wpAny_holding (PySem.W.kun_collect (s := { s with heap := h1 }) hT W ty (k := i) (by rw [szA]; omega) st bI bl (fun h2 tk kp => ?_) (by rw [szA]; exact hz)))
  have el : its.toArray.toList = its := by simp
  rw [el]
  have len : (its.drop i).length = its.length - i := List.length_drop
  have em : (its.drop i).length - (n - 1 - i) = its.length + 1 - n := by
    rw [len]
    omega
  dsimp only
  rw [if_neg (show ¬ (its.drop i).length < n - 1 - i by rw [len]; omega), em]
  refine wpAny_bind (wpAny_newList ?_ (by rw [List.length_take, len]; omega))
  have old : ∀ b o, s.heap.get? b = some o → h2.get? b = some o := fun b o e => by
    have ne : b ≠ I := Nat.ne_of_lt (Nat.lt_of_lt_of_le (Heap.lt_size e) new)
    exact kp b o ne (up b o ne e)
  exact wpAny_pure (fin h2 tk old)
theorem star_list {l : Addr} {its : List Value} {n i : Nat} {Q : List Value → Shared → Prop} (hl : s.heap.IsList l its.toArray) (calm : A.handled = none) (hi : i < n) (hn : n ≤ its.length + 1) (hz : its.length ≤ sizeLine)
    (fin : ∀ (h' : Heap) (tk : Nat), (∀ b o, s.heap.get? b = some o → h'.get? b = some o) →
      Q (its.take i ++ [.ref h'.objs.size] ++ (its.drop i).drop (its.length + 1 - n)) { s with heap := h'.push { cls := .type "list", data := .seq ((its.drop i).take (its.length + 1 - n)).toArray }, toks := tk }) :
    wpAny (model prog w) A (unpackItems (.ref l) n (some i)) Q E s := by
  have hl0 := hl
  obtain ⟨ob, hob, _⟩ := hl0
  have lt := Heap.lt_size hob
  have ne : l ≠ s.heap.objs.size := Nat.ne_of_lt lt
  unfold unpackItems notIterableAtAll
  refine wpAny_bind (wpAny_bind (wpAny_specialOf hl.typeIs slot_list_iter.lookup (wpAny_pure ?_)))
  simp only [Bool.false_eq_true, if_false]
  refine wpAny_bind (wpAny_holding (wpAny_pyIter_list hl ?_))
  have szA : its.toArray.size = its.length := by simp
  refine wpAny_bind (wpAny_holding (PySem.W.kun_draw ne i 0 _ _ ⟨_, Heap.get?_push_size _ rfl, rfl, rfl⟩ (hl.push _) (by rw [szA]; omega) fun h1 it1 sb => ?_))
  rw [Nat.zero_add] at it1
  have l1 : h1.IsList l its.toArray := (hl.push _).extBut sb.extBut ne
  have it0 := it1
  have l0 := l1
  obtain ⟨oi, hoi, _⟩ := it0
  obtain ⟨o2, ho2, _⟩ := l0
  rw [show (its.toArray.toList.drop 0).take i = its.take i by simp]
  exact star_rest (s := s) (T := "list_iterator") (.inr (.inr (.inl rfl))) (Walks.list (A := A.in1) calm s.heap.objs.size l ne its.toArray) (fun j u st => st.1.typeIs) ⟨it1, l1⟩ (Heap.lt_size hoi) (Heap.lt_size ho2) hi hn hz (fun b o nb e => sb.extBut b o nb (Heap.get?_push_of_some _ e)) (Nat.le_refl _) fin
theorem star_tuple {l : Addr} {its : List Value} {n i : Nat} {Q : List Value → Shared → Prop} (hl : IsTup s.heap l its.toArray) (calm : A.handled = none) (hi : i < n) (hn : n ≤ its.length + 1) (hz : its.length ≤ sizeLine)
    (fin : ∀ (h' : Heap) (tk : Nat), (∀ b o, s.heap.get? b = some o → h'.get? b = some o) →
      Q (its.take i ++ [.ref h'.objs.size] ++ (its.drop i).drop (its.length + 1 - n)) { s with heap := h'.push { cls := .type "list", data := .seq ((its.drop i).take (its.length + 1 - n)).toArray }, toks := tk }) :
    wpAny (model prog w) A (unpackItems (.ref l) n (some i)) Q E s := by
  have hl0 := hl
  obtain ⟨ob, hob, _⟩ := hl0
  have lt := Heap.lt_size hob
  have ne : l ≠ s.heap.objs.size := Nat.ne_of_lt lt
  unfold unpackItems notIterableAtAll
  refine wpAny_bind (wpAny_bind (wpAny_specialOf hl.typeIs slot_tuple_iter.lookup (wpAny_pure ?_)))
  simp only [Bool.false_eq_true, if_false]
  refine wpAny_bind (wpAny_holding (iter_tuple hl ?_))
  have szA : its.toArray.size = its.length := by simp
  refine wpAny_bind (wpAny_holding (draw_tuple ne i 0 _ _ ⟨_, Heap.get?_push_size _ rfl, rfl, rfl⟩ (hl.push _) (by rw [szA]; omega) fun h1 it1 sb => ?_))
  rw [Nat.zero_add] at it1
  have l1 : IsTup h1 l its.toArray := (hl.push _).extBut sb.extBut ne
  have it0 := it1
  have l0 := l1
  obtain ⟨oi, hoi, _⟩ := it0
  obtain ⟨o2, ho2, _⟩ := l0
  rw [show (its.toArray.toList.drop 0).take i = its.take i by simp]
  exact star_rest (s := s) (T := "tuple_iterator") (.inr (.inr (.inr rfl))) (Walks.tuple (A := A.in1) calm s.heap.objs.size l ne its.toArray) (fun j u st => st.1.typeIs) ⟨it1, l1⟩ (Heap.lt_size hoi) (Heap.lt_size ho2) hi hn hz (fun b o nb e => sb.extBut b o nb (Heap.get?_push_of_some _ e)) (Nat.le_refl _) fin
end
section
variable {X : Cx} {pos : Pos}
theorem Vals.drops : ∀ {xs : List V} {us : List Value} (n : Nat), Vals xs us → Vals (xs.take n) (us.take n)
  | _, _, 0, _ => .nil
  | _, _, _ + 1, .nil => .nil
  | _, _, n + 1, .cons a t => .cons a (Vals.drops n t)
theorem Vals.app {xs ys : List V} {us ws : List Value} : Vals xs us → Vals ys ws → Vals (xs ++ ys) (us ++ ws)
  | .nil, h => h
  | .cons a t, h => .cons a (Vals.app t h)
/-- targets with one star at place i, n of them in all -/
def gStar (K : PySem.W.Frag) (n i : Nat) (t : TGs) : TG := fun v σ H Q => ∃ a xs, v = .ref a ∧ (SqL K H a xs ∨ SqT K H a xs) ∧ n ≤ xs.length + 1 ∧
  ∀ D, H D = none → t (xs.take i ++ [.ref D] ++ (xs.drop i).drop (xs.length + 1 - n)) σ (upd H D (.lst ((xs.drop i).take (xs.length + 1 - n)))) Q
theorem pg_star {es es' : List Expr} {k : Nat} {t : TGs} {n i : Nat} (hc : X.calm = true) (h : PGs X es' t) (same : (assignEach es X.env).map (·.2) = (assignEach es' X.env).map (·.2)) (hn : (assignEach es X.env).length = n := by rfl) (hst : (assignEach es X.env).findIdx? (·.1) = some i := by rfl) (hi : i < n := by decide) :
    PG X (.Tuple es k pos) (gStar X.K n i t) := by
  refine ⟨fun pins s σ H v u Q I r hw => ?_⟩
  obtain ⟨a, xs, e1, hq, few, hw⟩ := hw
  subst e1
  cases r
  rw [PyProof.Rows.assign_Tuple]
  refine wpAny_bind (wpAny_standAt ?_)
  unfold unpack
  rw [hn, hst, same]
  have go : ∀ its : List Value, Vals xs its → xs.length ≤ sizeLine → ∀ (h' : Heap) (tk : Nat), (∀ b o, s.heap.get? b = some o → h'.get? b = some o) →
      wpAny (model X.prog X.w) X.A (assignInOrder ((assignEach es' X.env).map (·.2)) (its.take i ++ [.ref h'.objs.size] ++ (its.drop i).drop (its.length + 1 - n))) (fun _ s' => ∃ σ' H', Inv X pins σ' H' s' ∧ Q σ' H') X.xe { s with heap := h'.push { cls := .type "list", data := .seq ((its.drop i).take (its.length + 1 - n)).toArray }, toks := tk } := by
    intro its rv hz h' tk kp
    have I1 : Inv X pins σ H { s with heap := h', toks := tk } := I.kept (t' := tk) kp
    have nD : H h'.objs.size = none := I1.hok.fresh (Nat.le_refl _)
    have el := rv.length
    have v2 : Vals ((xs.drop i).take (xs.length + 1 - n)) ((its.drop i).take (its.length + 1 - n)) := by
      rw [← el]
      exact Vals.drops _ (rv.drop i)
    have I2 := I1.laid (o := .lst ((xs.drop i).take (xs.length + 1 - n))) (h' := h'.push { cls := .type "list", data := .seq ((its.drop i).take (its.length + 1 - n)).toArray }) (t' := tk) (fun b o e => Heap.get?_push_of_some _ e) (Nat.le_refl _)
      ⟨by rw [List.length_take, List.length_drop]; omega, _, 0, v2, Heap.get?_push_size _ rfl⟩
    refine h.run pins _ σ _ _ _ Q I2 ?_ (hw _ nD)
    rw [← el]
    exact Vals.app (Vals.app (Vals.drops i rv) (.cons rfl .nil)) ((rv.drop i).drop _)
  rcases hq with hq | hq
  · obtain ⟨its, rv, pl, hz⟩ := I.list hq
    have hl' : s.heap.IsList a its.toArray := by
      obtain ⟨o, m, e, c, d, q⟩ := pl
      exact ⟨o, e, c, m, q⟩
    have el := rv.length
    exact wpAny_bind (wpAny_holding (star_list hl' (I.ok.hd hc) hi (by omega) (by omega) (go its rv hz)))
  · obtain ⟨its, rv, ht, hz⟩ := I.tuple hq
    have el := rv.length
    exact wpAny_bind (wpAny_holding (star_tuple ht (I.ok.hd hc) hi (by omega) (by omega) (go its rv hz)))
end
end VQ
namespace VQ
open PySem PySem.Spec PyProof.Rows L2
/-! ### a table of the top whose keys are texts -/
def keysB (K : PySem.W.Frag) (d : Addr) (ks : List Str) : Bool := match K.lookup d with
  | some ⟨_, _, .dict es _, _⟩ => es.toList.all fun e => match e.key with
    | .str x _ => decide (x ∈ ks)
    | _ => false
  | _ => false
theorem keysB_no {K : PySem.W.Frag} {d : Addr} {ks : List Str} (h : keysB K d ks = true) {z : Str} (n : z ∉ ks) : PySem.W.nsIn K d z = some none := by
  unfold keysB at h
  unfold PySem.W.nsIn
  cases q : K.lookup d with
  | none =>
    rw [q] at h
    cases h
  | some o =>
    obtain ⟨oc, od, dt, osl⟩ := o
    rw [q] at h
    cases dt with
    | dict es m =>
      have all : ∀ e ∈ es.toList, ∃ x t, e.key = .str x t ∧ x ∈ ks := fun e me => by
        have h1 := List.all_eq_true.mp h e me
        cases ek : e.key with
        | str x t =>
          rw [ek] at h1
          exact ⟨x, t, rfl, of_decide_eq_true h1⟩
        | _ =>
          rw [ek] at h1
          cases h1
      have e1 : es.toList.find? (·.key.isStr z) = none := List.find?_eq_none.mpr fun e me => by
        obtain ⟨x, t, ek, mx⟩ := all e me
        rw [ek]
        intro y
        have y2 : (x == z) = true := y
        rw [LawfulBEq.eq_of_beq y2] at mx
        exact n mx
      have e2 : es.toList.any (·.refKey) = false := by
        rw [List.any_eq_false]
        intro e me
        obtain ⟨x, t, ek, mx⟩ := all e me
        unfold DictEntry.refKey
        rw [ek]
        exact Bool.false_ne_true
      show (match es.toList.find? (·.key.isStr z) with
        | some e => some (some e.val)
        | none => if es.toList.any (·.refKey) then none else some none) = _
      rw [e1, e2]
      rfl
    | _ => cases h
/-- a table: its keys, what stands at each -/
structure TabK (K : PySem.W.Frag) (w : World) (d : Addr) (kvs : List (Str × V)) : Prop where
  kd : ∃ es n, KDict K w d es n
  yes : ∀ p ∈ kvs, ∃ u, PySem.W.nsIn K d p.1 = some (some u) ∧ RelV p.2 u
  no : ∀ z, z ∉ kvs.map (·.1) → PySem.W.nsIn K d z = some none
theorem TabK.dct {K : PySem.W.Frag} {w : World} {d : Addr} {kvs : List (Str × V)} (T : TabK K w d kvs) {p : Str × V} (m : p ∈ kvs) : KDct K w d p.1 p.2 := by
  obtain ⟨es, n, D⟩ := T.kd
  obtain ⟨u, e, r⟩ := T.yes p m
  exact ⟨es, n, u, D.at_, D.lit, e, r⟩
/-- z in the table, for any text z -/
def rInTab (K : PySem.W.Frag) (w : World) (neg : Bool) : R2 := fun x y H Q => ∃ (z : Str) (d : Addr) (kvs : List (Str × V)), x = .str z ∧ y = .ref d ∧ TabK K w d kvs ∧ Q (.bl (if neg then !decide (z ∈ kvs.map (·.1)) else decide (z ∈ kvs.map (·.1)))) H
theorem tab_some {K : PySem.W.Frag} {w : World} {d : Addr} {kvs : List (Str × V)} (T : TabK K w d kvs) (z : Str) : ∃ r, PySem.W.nsIn K d z = some r ∧ r.isSome = decide (z ∈ kvs.map (·.1)) := by
  by_cases m : z ∈ kvs.map (·.1)
  · obtain ⟨p, mp, rfl⟩ := List.mem_map.mp m
    obtain ⟨u, e, _⟩ := T.yes p mp
    exact ⟨_, e, by rw [decide_eq_true m]; rfl⟩
  · exact ⟨_, T.no z m, by rw [decide_eq_false m]; rfl⟩
theorem op_inTab {X : Cx} : OpR X (compareOp .In) (rInTab X.K X.w false) := by
  intro pins s σ H x y v u Q I rx ry h
  obtain ⟨z, d, kvs, rfl, rfl, T, q⟩ := h
  obtain ⟨es, n, D⟩ := T.kd
  obtain ⟨r, e, er⟩ := tab_some T z
  refine op_in_kd D pins s σ H _ _ v u Q I rx ry ⟨z, r, rfl, rfl, e, ?_⟩
  rw [er]
  exact q
theorem op_notInTab {X : Cx} : OpR X (compareOp .NotIn) (rInTab X.K X.w true) := by
  intro pins s σ H x y v u Q I rx ry h
  obtain ⟨z, d, kvs, rfl, rfl, T, q⟩ := h
  obtain ⟨es, n, D⟩ := T.kd
  obtain ⟨r, e, er⟩ := tab_some T z
  refine op_notIn_kd D pins s σ H _ _ v u Q I rx ry ⟨z, r, rfl, rfl, e, ?_⟩
  rw [er]
  exact q
/-! ### x in a tuple of things of any depth -/
def rInDT (K : PySem.W.Frag) : R2 := fun x y H Q => ∃ d ds, Dp K H x d ∧ Dp K H y (.tuple ds) ∧ SeqAt.shaped d = true ∧ SeqAt.shaped (.tuple ds) = true ∧ Q (.bl (ds.any fun z => PyData.eqv z d)) H
theorem op_inDT {X : Cx} (hu : X.A.units + 65 < cLine) : OpR X (compareOp .In) (rInDT X.K) := by
  intro pins s σ H x y v u Q inv rx ry h
  obtain ⟨d, ds, hd, he, sd, se, q⟩ := h
  obtain ⟨as, r1⟩ := Dp.reads inv d x v hd rx
  obtain ⟨bs, r2⟩ := Dp.reads inv (.tuple ds) y u he ry
  exact SeqAt.in_tuple_reads r2 r1 (SeqAt.canLay_of_shaped se) (SeqAt.canLay_of_shaped sd) (room_in_shaped sd hu) ⟨.bl _, H, inv, rfl, q⟩
end VQ
namespace VQ
open PySem L2 LamX
/-! ### papers as texts: numbers and beginnings read -/
abbrev sNumberIn : Stmt := top 20
abbrev nNumberIn : List Str := ["part", "sign"]
theorem scNumberIn : FnScope nNumberIn ["part"] (defScope sNumberIn) := ⟨rfl, rfl, rfl, by decide +kernel, rfl, by decide +kernel, by decide +kernel⟩
abbrev sBeginningIn : Stmt := top 21
abbrev nBeginningIn : List Str := ["part"]
theorem scBeginningIn : FnScope nBeginningIn ["part"] (defScope sBeginningIn) := ⟨rfl, rfl, rfl, by decide +kernel, rfl, by decide +kernel, by decide +kernel⟩
abbrev sLawReadNumber : Stmt := top 41
abbrev nLawReadNumber : List Str := ["_law_word", "_law_sign"]
theorem scLawReadNumber : FnScope nLawReadNumber ["_law_word"] (defScope sLawReadNumber) := ⟨rfl, rfl, rfl, by decide +kernel, rfl, by decide +kernel, by decide +kernel⟩
abbrev sLawReadBegin : Stmt := top 42
abbrev nLawReadBegin : List Str := ["_law_word", "_law_good", "_law_sign"]
theorem scLawReadBegin : FnScope nLawReadBegin ["_law_word"] (defScope sLawReadBegin) := ⟨rfl, rfl, rfl, by decide +kernel, rfl, by decide +kernel, by decide +kernel⟩
theorem dig_48 {c : Nat} (h : digB c = true) : 48 ≤ c ∧ c ≤ 57 := by
  have m : c ∈ digs.cps.toList := of_decide_eq_true h
  have e : digs.cps.toList = [48, 49, 50, 51, 52, 53, 54, 55, 56, 57] := by decide +kernel
  rw [e] at m
  simp only [List.mem_cons, List.not_mem_nil, or_false] at m
  omega
def ntxB (z : Str) : Bool := decide (1 ≤ z.length ∧ z.length ≤ 4) && (z.cps.toList.all digB && !(decide (1 < z.length) && decide (z.cps.toList.head? = some 48)))
/-- the number that a text writes -/
def numM (z : Str) : Option Nat := if ntxB z then some (NumText.digitsVal z.cps.toList) else none
def nV : Option Nat → V
  | none => .non
  | some n => numV n
def sV : Option Str → V
  | none => .non
  | some z => .str z
theorem num_int {z : Str} (h1 : 1 ≤ z.length) (h4 : z.length ≤ 4) (dg : z.cps.toList.all digB = true) : PySem.intText? z = some ((NumText.digitsVal z.cps.toList : Nat) : Int) := by
  refine intText_digits (fun c m => dig_48 (List.all_eq_true.mp dg c m)) (fun e => ?_) (by omega)
  have : z.cps.toList.length = z.length := by simp [PySem.Str.length]
  rw [e] at this
  simp at this
  omega
def begM (z : Str) : Option Str := if z = "*" then some "" else if z ≠ "" ∧ begB (.str z) = true then some z else none
theorem len_pos {z : Str} : 1 ≤ z.length ↔ z ≠ "" := by
  constructor
  · rintro h rfl
    exact absurd h (by decide)
  · intro h
    rcases Nat.eq_zero_or_pos z.length with e | e
    · exfalso
      obtain ⟨a⟩ := z
      have e2 : a.size = 0 := e
      rw [Array.eq_empty_of_size_eq_zero e2] at h
      exact h (by decide +kernel)
    · exact e
section
variable {P : Program} {w : World} {K : PySem.W.Frag} {mg : Str → Option Value} {base : Heap}
def spNum : Sp := fun vs H Q _ => ∃ z : Str, vs = [.str z] ∧ z.length ≤ 900 ∧ ∀ H', Same H H' → Q (nV (numM z)) H'
def spBegIn : Sp := fun vs H Q _ => ∃ z : Str, vs = [.str z] ∧ z.length ≤ 900 ∧ ∀ H', Same H H' → Q (sV (begM z)) H'
theorem sgn_eq {c d : Nat} {y : Str} (ey : TL.tl y = [d]) : (V.str (⟨#[c]⟩ : Str) = V.str y) ↔ c = d := by
  constructor
  · intro e
    injection e with e
    have e2 : [c] = [d] := by
      rw [← ey, ← e]
    injection e2
  · rintro rfl
    exact congrArg V.str (TL.ext_tl (by rw [ey]))
theorem t48 : TL.tl ("0" : Str) = [48] := by decide +kernel
theorem num_no {z : Str} (h : ntxB z = false) : nV (numM z) = .non := by
  unfold numM
  rw [h]
  rfl
theorem num_yes {z : Str} (h : ntxB z = true) : nV (numM z) = .int ((NumText.digitsVal z.cps.toList : Nat) : Int) := by
  unfold numM
  rw [h]
  rfl
theorem first_of {z : Str} (h : 1 ≤ z.length) : ∃ c cs, z.cps.toList = c :: cs := by
  have : z.cps.toList.length = z.length := by simp [PySem.Str.length]
  cases e : z.cps.toList with
  | nil => rw [e] at this; simp at this; omega
  | cons c cs => exact ⟨c, cs, rfl⟩
theorem has_numin (b : Blt mg) (Di : ∃ t, mg "DIGITS" = some (.str digs t)) (Md : ∃ t, mg "MOST_DIGITS" = some (.int 4 t)) (a : AtE K mg "number_in" sNumberIn ["part"]) : Has P w K mg base CX0 1 "number_in" sNumberIn ["part"] spNum := by
  obtain ⟨f, fd, a⟩ := a
  obtain ⟨td, Wdi⟩ := Di
  obtain ⟨tm, Wmd⟩ := Md
  refine ⟨f, fd, a, a.fn.ok scNumberIn (fun vs H Q E h => ?_) (fun cdv A outer s H vs Q E hr h => ?_)⟩
  · obtain ⟨z, rfl, _⟩ := h
    rfl
  · obtain ⟨z, rfl, l9, k⟩ := h
    refine ⟨_,
    (pss_cons (ps_if (PW.pt (pw_or (pt_not (pt_chain op_le op_le pe_int (pe_callB call_len_str (by rfl) b.len PySem.boot_len (pa_cons (pv 0) pa_nil)) (pe_glob (v := .int 4) rfl Wmd ⟨_, rfl⟩))) (pw_or1 (pt_not (pt_val (pe_callB (cr_all rfl) (by rfl) b.all (by decide +kernel) (pa_cons (pe_lc (own := [("sign", 1)]) (g := (gName 1)) (tt := tYes) (te := (tOp rInSign (tVar 1) (tC (.str digs)))) rfl scNumberIn.nd (pi_str (pv 0)) (blkOk_by (N := nNumberIn) (sc := defScope sNumberIn) (by decide +kernel)) (fun _ _ _ _ _ => (pg_name (i := 1) scNumberIn.nd rfl (.inl rfl))) (fun _ _ _ _ _ => pts_nil) (fun _ _ _ _ _ => (pe_cmpR op_in_sign (pv 1) (pe_glob (v := .str digs) rfl Wdi ⟨_, rfl⟩) rfl))) pa_nil)))))))
      (pss_one (ps_ret pe_non))
      pss_nil)
    (pss_cons (ps_if (PW.pt (pw_and (pt_cmpR op_gt (pe_callB call_len_str (by rfl) b.len PySem.boot_len (pa_cons (pv 0) pa_nil)) pe_int (nomark _)) (pw_and1 (pt_cmpR op_eq (pe_ix ix_str (pv 0) pe_int fun _ _ => rfl) pe_str (nomark _)))))
      (pss_one (ps_ret pe_non))
      pss_nil)
    (pss_one (ps_ret (pe_callTy call_int_str (by rfl) b.int (by decide +kernel) (pa_cons (pv 0) pa_nil)))))), ?_⟩
    have big : (900 : Nat) ≤ sizeLine := by decide
    have zz : z.cps.size = z.length := rfl
    refine ⟨_, rfl, z, rfl, by omega, 1, _, rfl, rfl, _, rfl, ?_⟩
    by_cases c1 : 1 ≤ z.length
    rotate_left
    · rw [if_neg (by simpa using (show ¬ (1 : Int) ≤ (z.length : Int) by omega))]
      refine ⟨_, rfl, iteT ?_⟩
      have e := k H (Same.refl _)
      rw [num_no (by unfold ntxB; rw [decide_eq_false (fun y => c1 y.1)]; rfl)] at e
      exact e
    rw [if_pos (decide_eq_true (show (1 : Int) ≤ (z.length : Int) by omega))]
    refine ⟨_, _, rfl, rfl, _, rfl, ?_⟩
    by_cases c4 : z.length ≤ 4
    rotate_left
    · rw [decide_eq_false (show ¬ (z.length : Int) ≤ 4 by omega)]
      refine iteT ?_
      have e := k H (Same.refl _)
      rw [num_no (by unfold ntxB; rw [decide_eq_false (fun y => c4 y.2)]; rfl)] at e
      exact e
    rw [decide_eq_true (show (z.length : Int) ≤ 4 by omega)]
    refine iteF ⟨_, rfl, z, rfl, fun D hD => ?_⟩
    refine lc_textS (fun i acc _ => acc = ((z.cps.toList.take i).map digB).map V.bl) hD (by omega) (fun _ _ _ _ _ h => h) rfl ?_ ?_
    · rintro i c acc H2 hc s2 h2 rfl k1 k2 y1 y2
      refine ⟨rfl, yes_turn ?_⟩
      refine ⟨_, rfl, c, digs, rfl, rfl, y1 _ _ (Same.refl _) ?_⟩
      rw [List.take_add_one, show z.cps.toList[i]? = some c by rw [Array.getElem?_toList]; exact hc, List.map_append, List.map_append]
      rfl
    · rintro acc H2 s2 h2 rfl
      refine ⟨D, _, rfl, SqL.of h2, ?_⟩
      have e2 : ((z.cps.toList.take z.cps.size).map digB).all id = z.cps.toList.all digB := by
        rw [List.take_of_length_le (by simp), List.all_map]
        rfl
      rw [e2]
      have kk := k H2 s2
      unfold numM ntxB at kk
      rw [decide_eq_true (show 1 ≤ z.length ∧ z.length ≤ 4 from ⟨c1, c4⟩), Bool.true_and] at kk
      cases dg : z.cps.toList.all digB with
      | false =>
        rw [dg] at kk
        exact ⟨_, rfl, iteT kk⟩
      | true =>
        rw [dg, Bool.true_and] at kk
        refine ⟨_, rfl, iteF ?_⟩
        refine ⟨_, rfl, z, rfl, by omega, _, _, rfl, rfl, _, rfl, ?_⟩
        have last := num_int c1 c4 dg
        by_cases cl : 1 < z.length
        · rw [decide_eq_true (show (1 : Int) < ((z.length : Nat) : Int) by omega)]
          rw [decide_eq_true cl, Bool.true_and] at kk
          obtain ⟨c, cs, ec⟩ := first_of c1
          have g0 : z.cps.toList[0]? = some c := by rw [ec]; rfl
          refine iteT ⟨_, rfl, z, _, c, rfl, rfl, by omega, atI_nat (j := 0) g0, rfl, _, rfl, ?_⟩
          rw [ec] at kk
          by_cases c0 : c = 48
          · rw [decide_eq_true ((sgn_eq t48).mpr c0)]
            rw [show decide (List.head? (c :: cs) = some 48) = true from decide_eq_true (by rw [c0]; rfl)] at kk
            exact iteT kk
          · rw [decide_eq_false (fun e => c0 ((sgn_eq t48).mp e))]
            rw [show decide (List.head? (c :: cs) = some 48) = false from decide_eq_false (fun e => c0 (Option.some.inj e))] at kk
            rw [← ec] at kk
            exact iteF ⟨_, rfl, z, _, rfl, last, by omega, kk⟩
        · rw [decide_eq_false (show ¬ (1 : Int) < ((z.length : Nat) : Int) by omega)]
          rw [decide_eq_false cl] at kk
          exact iteF ⟨_, rfl, z, _, rfl, last, by omega, kk⟩
theorem zero_is {z : Str} (h1 : z.length = 1) {c : Nat} {cs : List Nat} (e : z.cps.toList = c :: cs) (c0 : c = 48) : z = "0" := by
  refine TL.ext_tl ?_
  rw [t48]
  show z.cps.toList = [48]
  have l : z.cps.toList.length = 1 := by
    rw [← h1]
    simp [PySem.Str.length]
  rw [e] at l ⊢
  rw [c0]
  cases cs with
  | nil => rfl
  | cons d ds => simp at l
theorem has_lnum (b : Blt mg) (a : AtE K mg "_law_read_number" sLawReadNumber ["_law_word"]) : Has P w K mg base CX0 1 "_law_read_number" sLawReadNumber ["_law_word"] spNum := by
  obtain ⟨f, fd, a⟩ := a
  refine ⟨f, fd, a, a.fn.ok scLawReadNumber (fun vs H Q E h => ?_) (fun cdv A outer s H vs Q E hr h => ?_)⟩
  · obtain ⟨z, rfl, _⟩ := h
    rfl
  · obtain ⟨z, rfl, l9, k⟩ := h
    refine ⟨_,
    (pss_cons (ps_if (PW.pt (pw_or (pt_not (pt_chain op_le op_le pe_int (pe_callB call_len_str (by rfl) b.len PySem.boot_len (pa_cons (pv 0) pa_nil)) pe_int)) (pw_or1 (pt_not (pt_val (pe_callB (cr_all rfl) (by rfl) b.all (by decide +kernel) (pa_cons (pe_lc (own := [("_law_sign", 1)]) (g := (gName 1)) (tt := tYes) (te := (tOp rInSign (tVar 1) (tC (.str "0123456789")))) rfl scLawReadNumber.nd (pi_str (pv 0)) (blkOk_by (N := nLawReadNumber) (sc := defScope sLawReadNumber) (by decide +kernel)) (fun _ _ _ _ _ => (pg_name (i := 1) scLawReadNumber.nd rfl (.inl rfl))) (fun _ _ _ _ _ => pts_nil) (fun _ _ _ _ _ => (pe_cmpR op_in_sign (pv 1) pe_str rfl))) pa_nil)))))))
      (pss_one (ps_ret pe_non))
      pss_nil)
    (pss_one (ps_ret (pe_ifExp (PW.pt (pw_and (pt_cmpR op_eq (pe_ix ix_str (pv 0) pe_int fun _ _ => rfl) pe_str (nomark _)) (pw_and1 (pt_cmpR op_ne (pv 0) pe_str (nomark _))))) pe_non (pe_callTy call_int_str (by rfl) b.int (by decide +kernel) (pa_cons (pv 0) pa_nil)))))), ?_⟩
    have big : (900 : Nat) ≤ sizeLine := by decide
    have zz : z.cps.size = z.length := rfl
    refine ⟨_, rfl, z, rfl, by omega, 1, _, rfl, rfl, _, rfl, ?_⟩
    by_cases c1 : 1 ≤ z.length
    rotate_left
    · rw [if_neg (by simpa using (show ¬ (1 : Int) ≤ (z.length : Int) by omega))]
      refine ⟨_, rfl, iteT ?_⟩
      have e := k H (Same.refl _)
      rw [num_no (by unfold ntxB; rw [decide_eq_false (fun y => c1 y.1)]; rfl)] at e
      exact e
    rw [if_pos (decide_eq_true (show (1 : Int) ≤ (z.length : Int) by omega))]
    refine ⟨_, _, rfl, rfl, _, rfl, ?_⟩
    by_cases c4 : z.length ≤ 4
    rotate_left
    · rw [decide_eq_false (show ¬ (z.length : Int) ≤ 4 by omega)]
      refine iteT ?_
      have e := k H (Same.refl _)
      rw [num_no (by unfold ntxB; rw [decide_eq_false (fun y => c4 y.2)]; rfl)] at e
      exact e
    rw [decide_eq_true (show (z.length : Int) ≤ 4 by omega)]
    refine iteF ⟨_, rfl, z, rfl, fun D hD => ?_⟩
    refine lc_textS (fun i acc _ => acc = ((z.cps.toList.take i).map digB).map V.bl) hD (by omega) (fun _ _ _ _ _ h => h) rfl ?_ ?_
    · rintro i c acc H2 hc s2 h2 rfl k1 k2 y1 y2
      refine ⟨rfl, yes_turn ?_⟩
      refine ⟨_, rfl, c, digs, rfl, rfl, y1 _ _ (Same.refl _) ?_⟩
      rw [List.take_add_one, show z.cps.toList[i]? = some c by rw [Array.getElem?_toList]; exact hc, List.map_append, List.map_append]
      rfl
    · rintro acc H2 s2 h2 rfl
      refine ⟨D, _, rfl, SqL.of h2, ?_⟩
      have e2 : ((z.cps.toList.take z.cps.size).map digB).all id = z.cps.toList.all digB := by
        rw [List.take_of_length_le (by simp), List.all_map]
        rfl
      rw [e2]
      have kk := k H2 s2
      unfold numM ntxB at kk
      rw [decide_eq_true (show 1 ≤ z.length ∧ z.length ≤ 4 from ⟨c1, c4⟩), Bool.true_and] at kk
      cases dg : z.cps.toList.all digB with
      | false =>
        rw [dg] at kk
        exact ⟨_, rfl, iteT kk⟩
      | true =>
        rw [dg, Bool.true_and] at kk
        refine ⟨_, rfl, iteF ?_⟩
        have last := num_int c1 c4 dg
        obtain ⟨c, cs, ec⟩ := first_of c1
        have g0 : z.cps.toList[0]? = some c := by rw [ec]; rfl
        refine ⟨_, rfl, z, _, c, rfl, rfl, by omega, atI_nat (j := 0) g0, rfl, _, rfl, ?_⟩
        by_cases c0 : c = 48
        · rw [decide_eq_true ((sgn_eq t48).mpr c0)]
          rw [show decide (z.cps.toList.head? = some 48) = true from decide_eq_true (by rw [ec, c0]; rfl)] at kk
          refine iteT ⟨_, rfl, rfl, _, rfl, ?_⟩
          by_cases cl : 1 < z.length
          · rw [decide_eq_false (show ¬ V.str z = V.str "0" from fun e => by
              injection e with e
              rw [e] at cl
              exact absurd cl (by decide))]
            rw [decide_eq_true cl] at kk
            exact iteT kk
          · rw [decide_eq_true (show V.str z = V.str "0" from congrArg V.str (zero_is (by omega) ec c0))]
            rw [decide_eq_false cl] at kk
            exact iteF ⟨_, rfl, z, _, rfl, last, by omega, kk⟩
        · rw [decide_eq_false (fun e => c0 ((sgn_eq t48).mp e))]
          rw [show decide (z.cps.toList.head? = some 48) = false from decide_eq_false (by rw [ec]; exact fun e => c0 (Option.some.inj e)), Bool.and_false] at kk
          exact iteF ⟨_, rfl, z, _, rfl, last, by omega, kk⟩
theorem has_begin (b : Blt mg) (Fg : ∃ t, mg "FIGURES" = some (.int 5 t)) (ib : AtE K mg "is_beginning" sIsBeg ["thing"]) (a : AtE K mg "beginning_in" sBeginningIn ["part"]) : Has P w K mg base CX0 2 "beginning_in" sBeginningIn ["part"] spBegIn := by
  obtain ⟨f, fd, a⟩ := a
  obtain ⟨t5, Wfi⟩ := Fg
  obtain ⟨fIb, fdIb, aIb⟩ := ib
  have GIb : FnOk P w K mg base CX0 1 fIb fdIb ["thing"] (spIsBeg K) := ok_isbeg aIb.fn b Wfi
  refine ⟨f, fd, a, a.fn.ok scBeginningIn (fun vs H Q E h => ?_) (fun cdv A outer s H vs Q E hr1 h => ?_)⟩
  · obtain ⟨z, rfl, _⟩ := h
    rfl
  · obtain ⟨z, rfl, l9, k⟩ := h
    refine ⟨_,
    (pss_cons (ps_if (pt_cmpR op_eq (pv 0) pe_str (nomark _))
      (pss_one (ps_ret pe_str))
      pss_nil)
    (pss_one (ps_ret (pe_ifExp (PW.pt (pw_and (pt_cmpR op_ne (pv 0) pe_str (nomark _)) (pw_and1 (pt_val (pe_call GIb hr1 rfl aIb.gl aIb.fn.kp aIb.bd .nil pass0 (pa_cons (pv 0) pa_nil)))))) (pv 0) pe_non)))), ?_⟩
    refine ⟨_, rfl, rfl, _, rfl, ?_⟩
    by_cases c1 : z = "*"
    · rw [decide_eq_true (show V.str z = V.str "*" from congrArg V.str c1)]
      refine iteT ?_
      have e := k H (Same.refl _)
      unfold begM at e
      rw [if_pos c1] at e
      exact e
    rw [decide_eq_false (show ¬ V.str z = V.str "*" from fun e => c1 (by injection e))]
    have kk := fun H' s' => k H' s'
    unfold begM at kk
    rw [if_neg c1] at kk
    refine iteF ⟨_, rfl, rfl, _, rfl, ?_⟩
    by_cases c2 : z = ""
    · rw [decide_eq_true (show V.str z = V.str "" from congrArg V.str c2)]
      refine iteF ?_
      have e := kk H (Same.refl _)
      rw [if_neg (fun y => y.1 c2)] at e
      exact e
    rw [decide_eq_false (show ¬ V.str z = V.str "" from fun e => c2 (by injection e))]
    refine iteT ⟨_, rfl, .str z, "str", rfl, .base (.str z), by decide, show z.length ≤ 1000 by omega, fun H' s' => ⟨_, rfl, ?_⟩⟩
    have e := kk H' s'
    cases c3 : begB (.str z) with
    | false =>
      rw [if_neg (fun y => by rw [c3] at y; cases y.2)] at e
      exact iteF e
    | true =>
      rw [if_pos ⟨c2, c3⟩] at e
      exact iteT ⟨_, rfl, e⟩
theorem has_lbeg (b : Blt mg) (a : AtE K mg "_law_read_begin" sLawReadBegin ["_law_word"]) : Has P w K mg base CX0 1 "_law_read_begin" sLawReadBegin ["_law_word"] spBegIn := by
  obtain ⟨f, fd, a⟩ := a
  refine ⟨f, fd, a, a.fn.ok scLawReadBegin (fun vs H Q E h => ?_) (fun cdv A outer s H vs Q E hr h => ?_)⟩
  · obtain ⟨z, rfl, _⟩ := h
    rfl
  · obtain ⟨z, rfl, l9, k⟩ := h
    refine ⟨_,
    (pss_cons (ps_if (pt_cmpR op_eq (pv 0) pe_str (nomark _))
      (pss_one (ps_ret pe_str))
      pss_nil)
    (pss_cons (ps_set (i := 1) scLawReadBegin.nd rfl (.inl rfl) (pe_and (pe_chain op_le op_le pe_int (pe_callB call_len_str (by rfl) b.len PySem.boot_len (pa_cons (pv 0) pa_nil)) pe_int) (pe_one (pe_callB (cr_all rfl) (by rfl) b.all (by decide +kernel) (pa_cons (pe_lc (own := [("_law_sign", 2)]) (g := (gName 2)) (tt := tYes) (te := (tOp rInSign (tVar 2) (tC (.str "01")))) rfl scLawReadBegin.nd (pi_str (pv 0)) (blkOk_by (N := nLawReadBegin) (sc := defScope sLawReadBegin) (by decide +kernel)) (fun _ _ _ _ _ => (pg_name (i := 2) scLawReadBegin.nd rfl (.inl rfl))) (fun _ _ _ _ _ => pts_nil) (fun _ _ _ _ _ => (pe_cmpR op_in_sign (pv 2) pe_str rfl))) pa_nil)))))
    (pss_one (ps_ret (pe_ifExp (pt_val (pv 1)) (pv 0) pe_non))))), ?_⟩
    have big : (900 : Nat) ≤ sizeLine := by decide
    have zz : z.cps.size = z.length := rfl
    refine ⟨_, rfl, rfl, _, rfl, ?_⟩
    by_cases c1 : z = "*"
    · rw [decide_eq_true (show V.str z = V.str "*" from congrArg V.str c1)]
      refine iteT ?_
      have e := k H (Same.refl _)
      unfold begM at e
      rw [if_pos c1] at e
      exact e
    rw [decide_eq_false (show ¬ V.str z = V.str "*" from fun e => c1 (by injection e))]
    have kk := fun H' s' => k H' s'
    unfold begM at kk
    rw [if_neg c1] at kk
    refine iteF ⟨_, rfl, z, rfl, by omega, 1, _, rfl, rfl, _, rfl, ?_⟩
    by_cases c2 : 1 ≤ z.length
    rotate_left
    · rw [if_neg (by simpa using (show ¬ (1 : Int) ≤ (z.length : Int) by omega))]
      have e := kk H (Same.refl _)
      rw [if_neg (fun y => c2 (len_pos.mpr y.1))] at e
      exact ⟨_, rfl, iteF ⟨_, rfl, _, rfl, iteF e⟩⟩
    rw [if_pos (decide_eq_true (show (1 : Int) ≤ (z.length : Int) by omega))]
    refine ⟨_, _, rfl, rfl, _, rfl, ?_⟩
    have c2' := len_pos.mp c2
    by_cases c3 : z.length ≤ 5
    rotate_left
    · rw [decide_eq_false (show ¬ (z.length : Int) ≤ 5 by omega)]
      have e := kk H (Same.refl _)
      rw [if_neg (fun y => by
        have h : (decide (z.length ≤ 5) && z.cps.toList.all signB) = true := y.2
        rw [decide_eq_false c3] at h
        cases h)] at e
      exact iteF ⟨_, rfl, _, rfl, iteF e⟩
    rw [decide_eq_true (show (z.length : Int) ≤ 5 by omega)]
    refine iteT ⟨_, rfl, z, rfl, fun D hD => ?_⟩
    refine lc_textS (fun i acc _ => acc = ((z.cps.toList.take i).map signB).map V.bl) hD (by omega) (fun _ _ _ _ _ h => h) rfl ?_ ?_
    · rintro i c acc H2 hc s2 h2 rfl k1 k2 y1 y2
      refine ⟨rfl, yes_turn ?_⟩
      refine ⟨_, rfl, c, "01", rfl, rfl, y1 _ _ (Same.refl _) ?_⟩
      rw [List.take_add_one, show z.cps.toList[i]? = some c by rw [Array.getElem?_toList]; exact hc, List.map_append, List.map_append]
      rfl
    · rintro acc H2 s2 h2 rfl
      refine ⟨D, _, rfl, SqL.of h2, ?_⟩
      have e2 : ((z.cps.toList.take z.cps.size).map signB).all id = z.cps.toList.all signB := by
        rw [List.take_of_length_le (by simp), List.all_map]
        rfl
      rw [e2]
      have e3 : begB (.str z) = z.cps.toList.all signB := by
        show (decide (z.length ≤ 5) && z.cps.toList.all signB) = _
        rw [decide_eq_true c3, Bool.true_and]
      have e := kk H2 s2
      rw [e3] at e
      refine ⟨_, rfl, _, rfl, ?_⟩
      cases e4 : z.cps.toList.all signB with
      | false =>
        rw [if_neg (fun y => by rw [e4] at y; cases y.2)] at e
        exact iteF e
      | true =>
        rw [if_pos ⟨c2', e4⟩] at e
        exact iteT ⟨_, rfl, e⟩
end
end VQ
namespace VQ
open PySem L2 LamX
/-! ### boxes and points read -/
abbrev sBoxIn : Stmt := top 22
abbrev nBoxIn : List Str := ["part", "many", "box", "place"]
theorem scBoxIn : FnScope nBoxIn ["part", "many"] (defScope sBoxIn) := ⟨rfl, rfl, rfl, by decide +kernel, rfl, by decide +kernel, by decide +kernel⟩
abbrev sPointIn : Stmt := top 23
abbrev nPointIn : List Str := ["parts", "many", "point", "part", "worth"]
theorem scPointIn : FnScope nPointIn ["parts", "many"] (defScope sPointIn) := ⟨rfl, rfl, rfl, by decide +kernel, rfl, by decide +kernel, by decide +kernel⟩
def boxL (z : Str) : List V := (Txt.split z ",").map fun y => sV (begM y)
def pointL (ws : List Str) : List V := ws.map fun y => nV (numM y)
def pointB (ws : List Str) (many : Nat) : Bool := decide (ws.length = many) && (pointL ws).all worthB
def boxB (z : Str) (many : Nat) : Bool := !inV .non (boxL z) && decide ((boxL z).length = many)
theorem sV_flat (o : Option Str) : flatV (sV o) = true := by cases o <;> rfl
theorem nV_flat (o : Option Nat) : flatV (nV o) = true := by cases o <;> rfl
theorem boxL_flat (z : Str) : (boxL z).all flatV = true := by
  unfold boxL
  rw [List.all_map]
  exact List.all_eq_true.mpr fun t _ => sV_flat _
theorem pointL_flat (ws : List Str) : (pointL ws).all flatV = true := by
  unfold pointL
  rw [List.all_map]
  exact List.all_eq_true.mpr fun t _ => nV_flat _
theorem boxL_len {z : Str} (h : z.length ≤ 900) : (boxL z).length ≤ 902 := by
  have := PyProof.Rows.split_le z ","
  unfold boxL
  rw [List.length_map]
  omega
def begV : V → V
  | .str y => sV (begM y)
  | _ => .non
def numVV : V → V
  | .str y => nV (numM y)
  | _ => .non
theorem map_begV (ys : List Str) : (ys.map V.str).map begV = ys.map fun y => sV (begM y) := by
  rw [List.map_map]
  rfl
theorem map_numVV (ys : List Str) : (ys.map V.str).map numVV = pointL ys := by
  rw [List.map_map]
  rfl
section
variable {P : Program} {w : World} {K : PySem.W.Frag} {mg : Str → Option Value} {base : Heap}
def spBoxIn : Sp := fun vs H Q _ => ∃ (z : Str) (many : Nat), vs = [.str z, .int (many : Int)] ∧ z.length ≤ 900 ∧ (boxB z many = false → ∀ H', Same H H' → Q .non H') ∧ (boxB z many = true → ∀ p H', Same H H' → H' p = some (.tup (boxL z)) → Q (.ref p) H')
def spPointIn : Sp := fun vs H Q _ => ∃ (l : Addr) (ws : List Str) (many : Nat), vs = [.ref l, .int (many : Int)] ∧ H l = some (.lst (ws.map V.str)) ∧ ws.length < 1000 ∧ (∀ y ∈ ws, y.length ≤ 900) ∧
  (pointB ws many = false → ∀ H', Same H H' → Q .non H') ∧ (pointB ws many = true → ∀ p H', Same H H' → H' p = some (.tup (pointL ws)) → Q (.ref p) H')
theorem int_ne {m n : Nat} : decide (V.int (m : Int) = V.int (n : Int)) = decide (m = n) := by
  by_cases h : m = n
  · rw [decide_eq_true h, decide_eq_true (by rw [h])]
  · rw [decide_eq_false h, decide_eq_false (fun e => h (by injection e with e; omega))]
theorem has_boxin (b : Blt mg) (hBi : Has P w K mg base CX0 2 "beginning_in" sBeginningIn ["part"] spBegIn) (a : AtE K mg "box_in" sBoxIn ["part", "many"]) : Has P w K mg base CX0 3 "box_in" sBoxIn ["part", "many"] spBoxIn := by
  obtain ⟨f, fd, a⟩ := a
  obtain ⟨fBi, fdBi, aBi, GBi⟩ := hBi
  refine ⟨f, fd, a, a.fn.ok scBoxIn (fun vs H Q E h => ?_) (fun cdv A outer s H vs Q E hr2 h => ?_)⟩
  · obtain ⟨z, many, rfl, _⟩ := h
    rfl
  · obtain ⟨z, many, rfl, l9, k1, k2⟩ := h
    refine ⟨_,
    (pss_cons (ps_set (i := 2) scBoxIn.nd rfl (.inl rfl) (pe_callTy call_tuple_of (by rfl) b.tuple (by decide +kernel) (pa_cons (pe_lc (own := [("place", 3)]) (g := (gName 3)) (tt := tYes) (te := (tCall spBegIn [] E0 (tCons (tVar 3) tNil))) rfl scBoxIn.nd (pi_list (pe_split (pv 0) pe_str)) (blkOk_by (N := nBoxIn) (sc := defScope sBoxIn) (by decide +kernel)) (fun _ _ _ _ _ => (pg_name (i := 3) scBoxIn.nd rfl (.inl rfl))) (fun _ _ _ _ _ => pts_nil) (fun _ _ _ _ _ => (pe_call GBi hr2 rfl aBi.gl aBi.fn.kp aBi.bd .nil pass0 (pa_cons (pv 3) pa_nil)))) pa_nil)))
    (pss_one (ps_ret (pe_ifExp (PW.pt (pw_or (pt_cmpR op_in_seq pe_non (pv 2) rfl) (pw_or1 (pt_cmpR op_ne (pe_callB call_len_seq (by rfl) b.len PySem.boot_len (pa_cons (pv 2) pa_nil)) (pv 1) (nomark _))))) pe_non (pv 2))))), ?_⟩
    have big : (1000 : Nat) ≤ sizeLine := by decide
    have sl := PyProof.Rows.split_le z ","
    refine ⟨_, rfl, ⟨z, rfl⟩, z, ",", rfl, rfl, by decide +kernel, by omega, fun l nl => ?_⟩
    have s1 := same_new (o := HO.lst ((Txt.split z ",").map V.str)) nl
    refine ⟨l, rfl, ⟨_, SqL.of upd_same⟩, fun D hD => ?_⟩
    refine lc_listV (xs := (Txt.split z ",").map V.str) begV hD (SqL.of upd_same) (by rw [List.length_map]; omega) ?_ ?_
    · intro i x H2 hx s2 c1 c2 kk
      obtain ⟨y, hy, rfl⟩ := getF hx
      have ly := PyProof.Rows.part_short (List.mem_of_getElem? hy)
      exact ⟨rfl, yes_turn ⟨_, rfl, y, rfl, by omega, fun H4 s4 => kk H4 s4⟩⟩
    · intro H2 s2 hd
      rw [map_begV] at hd
      refine ⟨D, _, rfl, .inl ⟨SqL.of hd, fun p np => ?_⟩⟩
      have s3 := same_new (o := HO.tup (boxL z)) np
      have sA : Same H (upd H2 p (.tup (boxL z))) := s1.trans (s2.trans s3)
      refine ⟨_, rfl, p, _, rfl, .inr (SqT.of upd_same), rfl, boxL_flat z, _, rfl, ?_⟩
      unfold boxB at k1 k2
      show ite (inV .non (boxL z) = true) _ _
      cases e : inV .non (boxL z) with
      | true =>
        rw [e] at k1
        exact iteT (k1 rfl _ sA)
      | false =>
        rw [e] at k1 k2
        refine iteF ⟨_, rfl, p, _, rfl, .inr (SqT.of upd_same), _, rfl, rfl, _, rfl, ?_⟩
        show ite ((!decide (V.int ((boxL z).length : Int) = V.int (many : Int))) = true) _ _
        rw [int_ne]
        cases e2 : decide ((boxL z).length = many) with
        | true =>
          rw [e2] at k2
          exact iteF ⟨_, rfl, k2 rfl _ _ sA upd_same⟩
        | false =>
          rw [e2] at k1
          exact iteT (k1 rfl _ sA)
theorem has_pointin (b : Blt mg) (hNi : Has P w K mg base CX0 1 "number_in" sNumberIn ["part"] spNum) (hWo : Has P w K mg base CX0 2 "is_worth" sIsWorth ["thing"] (spIsWorth K)) (a : AtE K mg "point_in" sPointIn ["parts", "many"]) : Has P w K mg base CX0 3 "point_in" sPointIn ["parts", "many"] spPointIn := by
  obtain ⟨f, fd, a⟩ := a
  obtain ⟨fNi, fdNi, aNi, GNi⟩ := hNi
  obtain ⟨fWo, fdWo, aWo, GWo⟩ := hWo
  refine ⟨f, fd, a, a.fn.ok scPointIn (fun vs H Q E h => ?_) (fun cdv A outer s H vs Q E hr2 h => ?_)⟩
  · obtain ⟨l, ws, many, rfl, _⟩ := h
    rfl
  · obtain ⟨l, ws, many, rfl, hl, few, sh, k1, k2⟩ := h
    have hr1 : Room 1 _ := hr2.mono (by decide)
    refine ⟨_,
    (pss_cons (ps_set (i := 2) scPointIn.nd rfl (.inl rfl) (pe_callTy call_tuple_of (by rfl) b.tuple (by decide +kernel) (pa_cons (pe_lc (own := [("part", 3)]) (g := (gName 3)) (tt := tYes) (te := (tCall spNum [] E0 (tCons (tVar 3) tNil))) rfl scPointIn.nd (pi_list (pv 0)) (blkOk_by (N := nPointIn) (sc := defScope sPointIn) (by decide +kernel)) (fun _ _ _ _ _ => (pg_name (i := 3) scPointIn.nd rfl (.inl rfl))) (fun _ _ _ _ _ => pts_nil) (fun _ _ _ _ _ => (pe_call GNi hr1 rfl aNi.gl aNi.fn.kp aNi.bd .nil pass0 (pa_cons (pv 3) pa_nil)))) pa_nil)))
    (pss_cons (ps_if (PW.pt (pw_or (pt_cmpR op_ne (pe_callB call_len_seq (by rfl) b.len PySem.boot_len (pa_cons (pv 2) pa_nil)) (pv 1) (nomark _)) (pw_or1 (pt_not (pt_val (pe_callB (cr_all rfl) (by rfl) b.all (by decide +kernel) (pa_cons (pe_lc (own := [("worth", 4)]) (g := (gName 4)) (tt := tYes) (te := (tCall (spIsWorth K) [] E0 (tCons (tVar 4) tNil))) rfl scPointIn.nd (pi_tup (pv 2)) (blkOk_by (N := nPointIn) (sc := defScope sPointIn) (by decide +kernel)) (fun _ _ _ _ _ => (pg_name (i := 4) scPointIn.nd rfl (.inl rfl))) (fun _ _ _ _ _ => pts_nil) (fun _ _ _ _ _ => (pe_call GWo hr2 rfl aWo.gl aWo.fn.kp aWo.bd .nil pass0 (pa_cons (pv 4) pa_nil)))) pa_nil)))))))
      (pss_one (ps_ret pe_non))
      pss_nil)
    (pss_one (ps_ret (pv 2))))), ?_⟩
    refine ⟨_, rfl, l, rfl, ⟨_, SqL.of hl⟩, fun D hD => ?_⟩
    refine lc_listV (xs := ws.map V.str) numVV hD (SqL.of hl) (by rw [List.length_map]; omega) ?_ ?_
    · intro i x H2 hx s2 c1 c2 kk
      obtain ⟨y, hy, rfl⟩ := getF hx
      exact ⟨rfl, yes_turn ⟨_, rfl, y, rfl, sh y (List.mem_of_getElem? hy), fun H4 s4 => kk H4 s4⟩⟩
    · intro H2 s2 hd
      rw [map_numVV] at hd
      refine ⟨D, _, rfl, .inl ⟨SqL.of hd, fun p np => ?_⟩⟩
      have s3 := same_new (o := HO.tup (pointL ws)) np
      have sA : Same H (upd H2 p (.tup (pointL ws))) := s2.trans s3
      have el : (pointL ws).length = ws.length := List.length_map ..
      refine ⟨_, rfl, p, _, rfl, .inr (SqT.of upd_same), _, rfl, rfl, _, rfl, ?_⟩
      show ite ((!decide (V.int ((pointL ws).length : Int) = V.int (many : Int))) = true) _ _
      rw [int_ne, el]
      unfold pointB at k1 k2
      cases e2 : decide (ws.length = many) with
      | false =>
        rw [e2] at k1
        exact iteT (k1 rfl _ sA)
      | true =>
        rw [e2, Bool.true_and] at k1 k2
        refine iteF ⟨_, rfl, p, rfl, ⟨_, SqT.of upd_same⟩, fun D2 hD2 => ?_⟩
        refine lc_tupV (xs := pointL ws) (fun v => .bl (worthB v)) hD2 (SqT.of upd_same) (by omega) ?_ ?_
        · intro i x H3 hx s4 c1 c2 kk
          obtain ⟨y, hy, rfl⟩ := getF (f := fun y => nV (numM y)) hx
          refine ⟨rfl, yes_turn ⟨_, rfl, nV (numM y), ?_⟩⟩
          have kk := kk H3 (Same.refl _)
          generalize numM y = o at kk ⊢
          cases o with
          | none => exact ⟨"NoneType", rfl, .base .non, by decide, kk⟩
          | some n => exact ⟨"int", rfl, .base (.int _), by decide, kk⟩
        · intro H3 s4 hd3
          refine ⟨D2, (pointL ws).map worthB, rfl, SqL.of (by rw [hd3, List.map_map]; rfl), ?_⟩
          have ea : ((pointL ws).map worthB).all id = (pointL ws).all worthB := by
            rw [List.all_map]
            rfl
          rw [ea]
          have sB := sA.trans s4
          cases e3 : (pointL ws).all worthB with
          | false =>
            rw [e3] at k1
            exact ⟨_, rfl, iteT (k1 rfl _ sB)⟩
          | true =>
            rw [e3] at k2
            exact ⟨_, rfl, iteF ⟨_, rfl, k2 rfl _ _ sB (s4 _ _ upd_same)⟩⟩
end
end VQ
namespace VQ
open PySem L2 LamX
/-! ### steps read -/
abbrev sStepIn : Stmt := top 25
abbrev nStepIn : List Str := ["row", "many", "word", "parts", "numbers", "part"]
theorem scStepIn : FnScope nStepIn ["row", "many"] (defScope sStepIn) := ⟨rfl, rfl, rfl, by decide +kernel, rfl, by decide +kernel, by decide +kernel⟩
inductive StepR where
  | told (xs : List V)
  | box (w : Str) (ns xs : List V)
def kindB (w : Str) (n : Nat) : Bool := decide ((w = "empty" ∨ w = "less") ∧ n = 2 ∨ w = "joined" ∧ n = 3)
def stepM (ws : List Str) (many : Nat) : Option StepR := match ws with
  | [] => none
  | w :: ps => if w = "told" then (if pointB ps many then some (.told (pointL ps)) else none)
    else if kindB w ps.length then (if !inV .non (pointL ps.dropLast) && boxB (ps.getLastD "") many then some (.box w (pointL ps.dropLast) (boxL (ps.getLastD ""))) else none) else none
def StepAt (H : Hp) (v : V) : StepR → Prop
  | .told xs => ∃ a p, v = .ref a ∧ H a = some (.tup [.str "told", .ref p]) ∧ H p = some (.tup xs)
  | .box w ns xs => ∃ a p, v = .ref a ∧ H a = some (.tup (.str w :: (ns ++ [.ref p]))) ∧ H p = some (.tup xs)
theorem StepAt.moved {H H' : Hp} (s : Tups H H') {v : V} {r : StepR} (h : StepAt H v r) : StepAt H' v r := by
  cases r with
  | told xs =>
    obtain ⟨a, p, e, h1, h2⟩ := h
    exact ⟨a, p, e, s _ _ h1, s _ _ h2⟩
  | box w ns xs =>
    obtain ⟨a, p, e, h1, h2⟩ := h
    exact ⟨a, p, e, s _ _ h1, s _ _ h2⟩
/-! what None in it asks -/
def fineV : V → Bool
  | .non => true
  | .int _ => true
  | .str z => z.cps.toList.all (· < 1114112)
  | _ => false
def dV : V → PyData
  | .int i => .int i
  | .str z => .str z
  | _ => .none
theorem dp_fine {K : PySem.W.Frag} {H : Hp} : ∀ {xs : List V}, xs.all fineV = true → DpAll K H xs (xs.map dV)
  | [], _ => .nil
  | x :: xs, h => by
    rw [List.all_cons, Bool.and_eq_true] at h
    refine .cons ?_ (dp_fine h.2)
    cases x with
    | non => exact .non
    | int i => exact .int i
    | str z => exact .str z
    | _ => cases h.1
theorem lay_fine {n : Nat} {x : V} (h : fineV x = true) : Lay n (dV x) := by
  cases x with
  | non => exact ⟨rfl, Nat.zero_le _⟩
  | int i => exact .int _ _
  | str z => exact .str _ fun c m => of_decide_eq_true (List.all_eq_true.mp h c m)
  | _ => cases h
theorem none_fine {x : V} (h : fineV x = true) : PyData.eqv (dV x) .none = decide (x = .non) := by
  cases x with
  | non => rfl
  | int i => rfl
  | str z => rfl
  | _ => cases h
theorem eqV_non {x : V} (h : fineV x = true) : eqV x .non = decide (x = .non) := by
  cases x with
  | non => rfl
  | int i => rfl
  | str z => rfl
  | _ => cases h
theorem any_fine : ∀ {xs : List V}, xs.all fineV = true → ((xs.map dV).any fun z => PyData.eqv z .none) = inV .non xs
  | [], _ => rfl
  | x :: xs, h => by
    rw [List.all_cons, Bool.and_eq_true] at h
    have ih := any_fine h.2
    rw [List.map_cons, List.any_cons, ih, none_fine h.1]
    show _ = (List.any (x :: xs) fun y => eqV y .non)
    rw [List.any_cons, eqV_non h.1]
    rfl
/-- a tuple of fine things, behind them perhaps a tuple of fine things -/
def Tell (K : PySem.W.Frag) (H : Hp) (v : V) (bad : Bool) : Prop := ∃ ds, Dp K H v (.tuple ds) ∧ SeqAt.shaped (.tuple ds) = true ∧ (ds.any fun z => PyData.eqv z .none) = bad
theorem tell_flat {K : PySem.W.Frag} {H : Hp} {a : Addr} {xs : List V} (h : H a = some (.tup xs)) (f : xs.all fineV = true) : Tell K H (.ref a) (inV .non xs) := by
  refine ⟨xs.map dV, .tup (SqT.of h) (dp_fine f), (Lay.tuple (n := 0) fun d m => ?_).shaped (by decide), any_fine f⟩
  obtain ⟨x, mx, rfl⟩ := List.mem_map.mp m
  exact lay_fine (List.all_eq_true.mp f x mx)
theorem dp_app {K : PySem.W.Frag} {H : Hp} : ∀ {xs : List V} {ds : List PyData}, DpAll K H xs ds → ∀ {v : V} {d : PyData}, Dp K H v d → DpAll K H (xs ++ [v]) (ds ++ [d])
  | _, _, .nil, _, _, h => .cons h .nil
  | _, _, .cons h t, _, _, h' => .cons h (dp_app t h')
theorem tell_deep {K : PySem.W.Frag} {H : Hp} {a p : Addr} {xs ys : List V} (h : H a = some (.tup (xs ++ [.ref p]))) (f : xs.all fineV = true) (hp : H p = some (.tup ys)) (g : ys.all fineV = true) : Tell K H (.ref a) (inV .non xs) := by
  refine ⟨xs.map dV ++ [.tuple (ys.map dV)], .tup (SqT.of h) (dp_app (dp_fine f) (.tup (SqT.of hp) (dp_fine g))), (Lay.tuple (n := 1) fun d m => ?_).shaped (by decide), ?_⟩
  · rcases List.mem_append.mp m with m | m
    · obtain ⟨x, mx, rfl⟩ := List.mem_map.mp m
      exact lay_fine (List.all_eq_true.mp f x mx)
    · rw [List.mem_singleton.mp m]
      refine Lay.tuple (n := 0) fun d m => ?_
      obtain ⟨x, mx, rfl⟩ := List.mem_map.mp m
      exact lay_fine (List.all_eq_true.mp g x mx)
  · rw [List.any_append, any_fine f]
    show (inV .non xs || (false || false)) = _
    rw [Bool.or_false, Bool.or_false]
theorem sV_fine (z : Str) : fineV (sV (begM z)) = true := by
  unfold begM
  by_cases c1 : z = "*"
  · rw [if_pos c1]
    decide +kernel
  · rw [if_neg c1]
    by_cases c2 : z ≠ "" ∧ begB (.str z) = true
    · rw [if_pos c2]
      have h : (decide (z.length ≤ 5) && z.cps.toList.all signB) = true := c2.2
      rw [Bool.and_eq_true] at h
      refine List.all_eq_true.mpr fun c m => ?_
      rcases sign_two (List.all_eq_true.mp h.2 c m) with rfl | rfl <;> decide
    · rw [if_neg c2]
      rfl
theorem nV_fine (o : Option Nat) : fineV (nV o) = true := by cases o <;> rfl
theorem boxL_fine (z : Str) : (boxL z).all fineV = true := by
  unfold boxL
  rw [List.all_map]
  exact List.all_eq_true.mpr fun t _ => sV_fine _
theorem pointL_fine (ws : List Str) : (pointL ws).all fineV = true := by
  unfold pointL
  rw [List.all_map]
  exact List.all_eq_true.mpr fun t _ => nV_fine _
theorem worths_full {ws : List Str} (h : (pointL ws).all worthB = true) : inV .non (pointL ws) = false := by
  unfold inV
  rw [List.any_eq_false]
  intro x m e
  have wx := List.all_eq_true.mp h x m
  have f := List.all_eq_true.mp (pointL_fine ws) x m
  rw [eqV_non f] at e
  rw [of_decide_eq_true e] at wx
  cases wx
def KindTab (K : PySem.W.Frag) (w : World) (d : Addr) : Prop := TabK K w d [("empty", .int 1), ("less", .int 1), ("joined", .int 2)]
/-- by the table: the word is a key and the count is right -/
theorem kind_is {z : Str} (m : z ∈ (["empty", "less", "joined"] : List Str)) : ∃ n : Nat, (z, V.int (n : Int)) ∈ ([("empty", .int 1), ("less", .int 1), ("joined", .int 2)] : List (Str × V)) ∧ ∀ k, kindB z k = decide (k = n + 1) := by
  have key : ∀ k, ∀ x ∈ (["empty", "less", "joined"] : List Str), kindB x k = decide (k = (if x = "joined" then 2 else 1) + 1) := by
    intro k x mx
    unfold kindB
    refine decide_eq_decide.mpr ?_
    rcases List.mem_cons.mp mx with rfl | mx
    · simp [show ¬ (("empty" : Str) = "joined") by decide +kernel]
    rcases List.mem_cons.mp mx with rfl | mx
    · simp [show ¬ (("less" : Str) = "joined") by decide +kernel]
    · rw [List.mem_singleton.mp mx]
      simp [show ¬ (("joined" : Str) = "empty") by decide +kernel, show ¬ (("joined" : Str) = "less") by decide +kernel]
  refine ⟨if z = "joined" then 2 else 1, ?_, fun k => key k z m⟩
  rcases List.mem_cons.mp m with rfl | m
  · rw [if_neg (by decide +kernel)]
    exact List.mem_cons_self
  rcases List.mem_cons.mp m with rfl | m
  · rw [if_neg (by decide +kernel)]
    exact List.mem_cons_of_mem _ List.mem_cons_self
  · rw [List.mem_singleton.mp m, if_pos rfl]
    exact List.mem_cons_of_mem _ (List.mem_cons_of_mem _ List.mem_cons_self)
theorem kind_no {z : Str} (m : z ∉ (["empty", "less", "joined"] : List Str)) (k : Nat) : kindB z k = false := by
  unfold kindB
  refine decide_eq_false fun h => m ?_
  rcases h with ⟨rfl | rfl, _⟩ | ⟨rfl, _⟩
  · exact List.mem_cons_self
  · exact List.mem_cons_of_mem _ List.mem_cons_self
  · exact List.mem_cons_of_mem _ (List.mem_cons_of_mem _ List.mem_cons_self)
theorem cut_last (xs : List V) (h : 1 ≤ xs.length) : cutV xs none (some (-1)) = xs.dropLast := by
  unfold cutV
  rw [HT.sIx_none, show HT.sIx xs.length xs.length (some (-1)) = xs.length - 1 by
    show (if (-1 : Int) < 0 then ((-1 : Int) + (xs.length : Int)).toNat else min (-1 : Int).toNat xs.length) = _
    rw [if_pos (by decide)]
    omega]
  rw [List.drop_zero, Nat.sub_zero, List.dropLast_eq_take]
theorem at_last {α : Type} {xs : List α} {x : α} (h : xs.getLast? = some x) : atI xs (-1) = some x := by
  unfold atI ixN
  have l : 1 ≤ xs.length := by
    cases xs with
    | nil => cases h
    | cons a r => simp
  rw [if_neg (by decide), if_pos (by omega)]
  show xs[((-1 : Int) + (xs.length : Int)).toNat]? = _
  rw [show ((-1 : Int) + (xs.length : Int)).toNat = xs.length - 1 by omega, ← List.getLast?_eq_getElem?, h]
theorem word_fine {z : Str} (m : z ∈ (["empty", "less", "joined"] : List Str)) : fineV (.str z) = true := by
  rcases List.mem_cons.mp m with rfl | m
  · decide +kernel
  rcases List.mem_cons.mp m with rfl | m
  · decide +kernel
  · rw [List.mem_singleton.mp m]
    decide +kernel
theorem inV_cons (z : Str) (xs : List V) : inV .non (.str z :: xs) = inV .non xs := by
  unfold inV
  rw [List.any_cons]
  rfl
theorem inV_snoc (xs : List V) : inV .non (xs ++ [.non]) = true := by
  unfold inV
  rw [List.any_append]
  show (_ || (true || false)) = true
  rw [Bool.true_or, Bool.or_true]
theorem star_first (v : V) (vs : List V) (D : Addr) : (v :: vs).take 1 ++ [.ref D] ++ ((v :: vs).drop 1).drop ((v :: vs).length + 1 - 2) = [v, .ref D] := by
  have e : (v :: vs).length + 1 - 2 = vs.length := by rw [List.length_cons]; omega
  rw [e]
  show [v] ++ [.ref D] ++ vs.drop vs.length = _
  rw [List.drop_length]
  rfl
theorem star_first2 (v : V) (vs : List V) : ((v :: vs).drop 1).take ((v :: vs).length + 1 - 2) = vs := by
  have e : (v :: vs).length + 1 - 2 = vs.length := by rw [List.length_cons]; omega
  rw [e]
  exact List.take_length
theorem star_end (ys : List V) (v : V) (D : Addr) : (ys ++ [v]).take 0 ++ [.ref D] ++ ((ys ++ [v]).drop 0).drop ((ys ++ [v]).length + 1 - 2) = [.ref D, v] := by
  have e : (ys ++ [v]).length + 1 - 2 = ys.length := by rw [List.length_append]; show ys.length + 1 + 1 - 2 = _; omega
  rw [e, List.drop_zero, List.drop_left]
  rfl
theorem star_end2 (ys : List V) (v : V) : ((ys ++ [v]).drop 0).take ((ys ++ [v]).length + 1 - 2) = ys := by
  have e : (ys ++ [v]).length + 1 - 2 = ys.length := by rw [List.length_append]; show ys.length + 1 + 1 - 2 = _; omega
  rw [e, List.drop_zero, List.take_left]
section
variable {P : Program} {w : World} {K : PySem.W.Frag} {mg : Str → Option Value} {base : Heap} {aN : Addr}
def spStepIn (K : PySem.W.Frag) : Sp := fun vs H Q _ => ∃ (z : Str) (many : Nat), vs = [.str z, .int (many : Int)] ∧ z.length ≤ 900 ∧ (∀ r, stepM (Txt.split z " ") many = some r → ∀ v H', Same H H' → StepAt H' v r → Tell K H' v false → Q v H') ∧ (stepM (Txt.split z " ") many = none → ∀ v H', Same H H' → Tell K H' v true → Q v H')
theorem has_stepin (b : Blt mg) (gN : mg "NUMBERS" = some (.ref aN)) (T : KindTab K w aN) (hNi : Has P w K mg base CX0 1 "number_in" sNumberIn ["part"] spNum) (hXi : Has P w K mg base CX0 3 "box_in" sBoxIn ["part", "many"] spBoxIn) (hPi : Has P w K mg base CX0 3 "point_in" sPointIn ["parts", "many"] spPointIn) (a : AtE K mg "step_in" sStepIn ["row", "many"]) :
    Has P w K mg base CX0 4 "step_in" sStepIn ["row", "many"] (spStepIn K) := by
  obtain ⟨f, fd, a⟩ := a
  obtain ⟨fNi, fdNi, aNi, GNi⟩ := hNi
  obtain ⟨fXi, fdXi, aXi, GXi⟩ := hXi
  obtain ⟨fPi, fdPi, aPi, GPi⟩ := hPi
  refine ⟨f, fd, a, a.fn.ok scStepIn (fun vs H Q E h => ?_) (fun cdv A outer s H vs Q E hr3 h => ?_)⟩
  · obtain ⟨z, many, rfl, _⟩ := h
    rfl
  · obtain ⟨z, many, rfl, l9, k1, k2⟩ := h
    have hr1 : Room 1 _ := hr3.mono (by decide)
    refine ⟨_,
    (pss_cons (ps_asg (pe_split (pv 0) pe_str) (pg_star (n := 2) (i := 1) rfl (pgs_cons (pg_name (i := 2) scStepIn.nd rfl (.inl rfl)) (pgs_cons (pg_name (i := 3) scStepIn.nd rfl (.inl rfl)) pgs_nil)) rfl))
    (pss_cons (ps_if (pt_cmpR op_eq (pv 2) pe_str (nomark _))
      (pss_one (ps_ret (pe_tup (pa_cons (pv 2) (pa_cons (pe_call GPi hr3 rfl aPi.gl aPi.fn.kp aPi.bd .nil pass0 (pa_cons (pv 3) (pa_cons (pv 1) pa_nil))) pa_nil)))))
      pss_nil)
    (pss_cons (ps_if (PW.pt (pw_or (pt_cmpR op_notInTab (pv 2) (pe_glob (v := .ref aN) rfl gN rfl) rfl) (pw_or1 (pt_cmpR op_ne (pe_callB call_len_seq (by rfl) b.len PySem.boot_len (pa_cons (pv 3) pa_nil)) (pe_op op_add (pe_ix ix_kdict (pe_glob (v := .ref aN) rfl gN rfl) (pv 2) fun _ _ => rfl) pe_int) (nomark _)))))
      (pss_one (ps_ret (pe_tup (pa_cons pe_non pa_nil))))
      pss_nil)
    (pss_cons (ps_setLc (i := 4) (own := [("part", 5)]) (g := (gName 5)) (tt := tYes) (te := (tCall spNum [] E0 (tCons (tVar 5) tNil))) rfl scStepIn.nd rfl rfl (sw_true rfl rfl rfl (by decide +kernel)) (pi_list (pe_slice sl_list (pv 3) po_none (po_some (pe_un un_neg pe_int)))) (blkOk_by (N := nStepIn) (sc := defScope sStepIn) (by decide +kernel)) (fun _ _ _ _ _ => (pg_name (i := 5) scStepIn.nd rfl (.inl rfl))) (fun _ _ _ _ _ => pts_nil) (fun _ _ _ _ _ => (pe_call GNi hr1 rfl aNi.gl aNi.fn.kp aNi.bd .nil pass0 (pa_cons (pv 5) pa_nil))))
    (pss_one (ps_ret (pe_tup (pa_cons (pv 2) (StX.pa_star (pv 4) (pa_cons (pe_call GXi hr3 rfl aXi.gl aXi.fn.kp aXi.bd .nil pass0 (pa_cons (pe_ix ix_list (pv 3) (pe_un un_neg pe_int) fun _ _ => rfl) (pa_cons (pv 1) pa_nil))) pa_nil)))))))))), ?_⟩
    have big : (1000 : Nat) ≤ sizeLine := by decide
    have sl := PyProof.Rows.split_le z " "
    have sp := PyProof.Rows.split_pos z " "
    have sh : ∀ y ∈ Txt.split z " ", y.length ≤ 900 := fun y m => Nat.le_trans (PyProof.Rows.part_short m) l9
    obtain ⟨wd, ps, ews⟩ : ∃ wd ps, Txt.split z " " = wd :: ps := by
      cases q : Txt.split z " " with
      | nil => rw [q] at sp; simp at sp
      | cons wd ps => exact ⟨wd, ps, rfl⟩
    rw [ews] at k1 k2 sh sl
    refine ⟨_, rfl, ⟨z, rfl⟩, z, " ", rfl, rfl, by decide +kernel, by omega, fun l nl => ?_⟩
    rw [ews]
    refine ⟨l, _, rfl, .inl (SqL.of upd_same), by rw [List.length_map]; exact Nat.succ_le_succ (Nat.succ_le_succ (Nat.zero_le _)), fun D nD => ?_⟩
    rw [List.map_cons, star_first, star_first2]
    have s1 := same_new (o := HO.lst (V.str wd :: ps.map V.str)) nl
    have s2 := same_new (o := HO.lst (ps.map V.str)) nD
    have s12 := s1.trans s2
    refine ⟨_, _, rfl, _, _, rfl, rfl, ?_⟩
    have nDl : l ≠ D := ne_of_none upd_same nD
    refine ⟨_, rfl, rfl, _, rfl, ?_⟩
    have st : stepM (wd :: ps) many = (if wd = "told" then (if pointB ps many then some (.told (pointL ps)) else none)
      else if kindB wd ps.length then (if !inV .non (pointL ps.dropLast) && boxB (ps.getLastD "") many then some (.box wd (pointL ps.dropLast) (boxL (ps.getLastD ""))) else none) else none) := rfl
    have shp : ∀ y ∈ ps, y.length ≤ 900 := fun y m => sh y (List.mem_cons_of_mem _ m)
    have lps : ps.length < 1000 := by
      rw [List.length_cons] at sl
      omega
    by_cases c1 : wd = "told"
    · rw [decide_eq_true (show V.str wd = V.str "told" from congrArg V.str c1)]
      rw [if_pos c1] at st
      subst c1
      refine iteT ⟨_, rfl, _, rfl, _, rfl, D, ps, many, rfl, upd_same, lps, shp, fun no H3 s3 => ?_, fun yes p H3 s3 hp => ?_⟩
      · refine ⟨by show 2 ≤ sizeLine; decide, fun q nq => ?_⟩
        have s4 := same_new (o := HO.tup [.str "told", .non]) nq
        rw [no] at st
        exact k2 st _ _ (s12.trans (s3.trans s4)) (tell_flat upd_same (by decide +kernel))
      · refine ⟨by show 2 ≤ sizeLine; decide, fun q nq => ?_⟩
        have s4 := same_new (o := HO.tup [.str "told", .ref p]) nq
        rw [yes] at st
        exact k1 _ st _ _ (s12.trans (s3.trans s4)) ⟨q, p, rfl, upd_same, s4 _ _ hp⟩ (tell_deep (xs := [.str "told"]) upd_same (by decide +kernel) (s4 _ _ hp) (pointL_fine ps))
    rw [decide_eq_false (show ¬ V.str wd = V.str "told" from fun e => c1 (by injection e))]
    rw [if_neg c1] at st
    refine iteF ⟨_, rfl, wd, aN, _, rfl, rfl, T, _, rfl, ?_⟩
    have bad : stepM (wd :: ps) many = none → ∀ (H3 : Hp), Same H H3 → ∀ q, H3 q = none → Q (.ref q) (upd H3 q (.tup [.non])) := fun e H3 s3 q nq => k2 e _ _ (s3.trans (same_new nq)) (tell_flat upd_same (by decide +kernel))
    by_cases c2 : wd ∈ (["empty", "less", "joined"] : List Str)
    rotate_left
    · rw [decide_eq_false (show ¬ wd ∈ (([("empty", .int 1), ("less", .int 1), ("joined", .int 2)] : List (Str × V)).map (·.1)) from c2)]
      rw [kind_no c2] at st
      exact iteT ⟨by show 1 ≤ sizeLine; decide, bad st _ s12⟩
    rw [decide_eq_true (show wd ∈ (([("empty", .int 1), ("less", .int 1), ("joined", .int 2)] : List (Str × V)).map (·.1)) from c2)]
    obtain ⟨n, mn, ek⟩ := kind_is c2
    rw [ek] at st
    refine iteF ⟨_, rfl, D, _, rfl, .inl (SqL.of upd_same), _, rfl, aN, wd, _, rfl, rfl, T.dct mn, _, _, rfl, rfl, rfl, _, rfl, ?_⟩
    show ite ((!decide (V.int ((ps.map V.str).length : Int) = V.int ((n : Int) + 1))) = true) _ _
    rw [List.length_map, show (n : Int) + 1 = ((n + 1 : Nat) : Int) by omega, int_ne]
    by_cases c3 : ps.length = n + 1
    rotate_left
    · rw [decide_eq_false c3]
      rw [decide_eq_false c3] at st
      exact iteT ⟨by show 1 ≤ sizeLine; decide, bad st _ s12⟩
    rw [decide_eq_true c3]
    rw [decide_eq_true c3] at st
    refine iteF ?_
    have p1 : 1 ≤ ps.length := by omega
    refine ⟨_, rfl, 1, rfl, _, rfl, D, _, rfl, SqL.of upd_same, fun C nC => ?_⟩
    rw [show (-1 : Int) = -1 from rfl, cut_last _ (by rw [List.length_map]; exact p1), ← List.map_dropLast]
    have s3 := same_new (o := HO.lst (ps.dropLast.map V.str)) nC
    refine ⟨C, rfl, ⟨_, SqL.of upd_same⟩, fun G nG => ?_⟩
    refine lc_listV (xs := ps.dropLast.map V.str) numVV nG (SqL.of upd_same) (by rw [List.length_map, List.length_dropLast]; omega) ?_ ?_
    · intro i x H2 hx s4 c1 c2 kk
      obtain ⟨y, hy, rfl⟩ := getF hx
      exact ⟨rfl, yes_turn ⟨_, rfl, y, rfl, shp y (List.dropLast_subset _ (List.mem_of_getElem? hy)), fun H4 s4 => kk H4 s4⟩⟩
    · intro H4 s4 hd
      rw [map_numVV] at hd
      have hD4 : H4 D = some (.lst (ps.map V.str)) := s4 _ _ (s3 _ _ upd_same)
      have s14 := s12.trans (s3.trans s4)
      obtain ⟨la, ela⟩ : ∃ la, ps.getLast? = some la := by
        cases q : ps.getLast? with
        | none => rw [List.getLast?_eq_none_iff] at q; rw [q] at p1; simp at p1
        | some la => exact ⟨la, rfl⟩
      have elD : ps.getLastD "" = la := by
        rw [List.getLastD_eq_getLast?, ela]
        rfl
      rw [elD] at st
      have e2 : (ps.map V.str).getLast? = some (.str la) := by rw [List.getLast?_map, ela]; rfl
      have mla : la ∈ ps := List.mem_of_getLast? ela
      refine ⟨_, rfl, _, rfl, G, _, rfl, .inr (SqL.of hd), ?_⟩
      refine ⟨_, rfl, 1, rfl, D, _, -1, .str la, rfl, rfl, SqL.of hD4, at_last e2, _, rfl, la, many, rfl, shp la mla, fun no H5 s5 => ?_, fun yes p H5 s5 hp => ?_⟩
      · refine ⟨by rw [List.length_cons, List.length_append]; unfold pointL; rw [List.length_map, List.length_dropLast]; show _ + 1 + 1 ≤ _; omega, fun q nq => ?_⟩
        rw [no, Bool.and_false] at st
        have t := tell_flat (K := K) (H := upd H5 q (.tup (.str wd :: (pointL ps.dropLast ++ [.non])))) upd_same (by rw [List.all_cons, List.all_append, word_fine c2, pointL_fine]; rfl)
        rw [inV_cons, inV_snoc] at t
        exact k2 st _ _ (s14.trans (s5.trans (same_new nq))) t
      · refine ⟨by rw [List.length_cons, List.length_append]; unfold pointL; rw [List.length_map, List.length_dropLast]; show _ + 1 + 1 ≤ _; omega, fun q nq => ?_⟩
        rw [yes, Bool.and_true] at st
        have s6 := same_new (o := HO.tup (.str wd :: (pointL ps.dropLast ++ [.ref p]))) nq
        have t := tell_deep (K := K) (H := upd H5 q (.tup (.str wd :: (pointL ps.dropLast ++ [.ref p])))) (a := q) (xs := .str wd :: pointL ps.dropLast) upd_same (by rw [List.all_cons, word_fine c2, pointL_fine]; rfl) (s6 _ _ hp) (boxL_fine la)
        rw [inV_cons] at t
        cases e : inV .non (pointL ps.dropLast) with
        | true =>
          rw [e] at t st
          exact k2 st _ _ (s14.trans (s5.trans s6)) t
        | false =>
          rw [e] at t st
          exact k1 _ st _ _ (s14.trans (s5.trans s6)) ⟨q, p, rfl, upd_same, s6 _ _ hp⟩ t
end
end VQ
namespace VQ
open PySem L2 LamX
/-! ### steps read by the law -/
abbrev sLawReadStep : Stmt := top 43
abbrev nLawReadStep : List Str := ["_law_row", "_law_many", "_law_words", "_law_point_here", "_law_good", "_law_numbers", "_law_box", "_law_word", "_law_one"]
theorem scLawReadStep : FnScope nLawReadStep ["_law_row", "_law_many"] (defScope sLawReadStep) := ⟨rfl, rfl, rfl, by decide +kernel, rfl, by decide +kernel, by decide +kernel⟩
theorem cut_mid (x : V) (xs : List V) (h : 1 ≤ xs.length) : cutV (x :: xs) (some 1) (some (-1)) = xs.dropLast := by
  unfold cutV
  rw [show HT.sIx (x :: xs).length 0 (some 1) = 1 by
    show (if (1 : Int) < 0 then ((1 : Int) + ((x :: xs).length : Int)).toNat else min (1 : Int).toNat (x :: xs).length) = _
    rw [if_neg (by decide), List.length_cons]
    show min 1 (xs.length + 1) = 1
    omega,
    show HT.sIx (x :: xs).length (x :: xs).length (some (-1)) = xs.length by
    show (if (-1 : Int) < 0 then ((-1 : Int) + ((x :: xs).length : Int)).toNat else min (-1 : Int).toNat (x :: xs).length) = _
    rw [if_pos (by decide), List.length_cons]
    omega]
  show xs.take (xs.length - 1) = _
  rw [List.dropLast_eq_take]
section
variable {P : Program} {w : World} {K : PySem.W.Frag} {mg : Str → Option Value} {base : Heap}
def spLStep : Sp := fun vs H Q _ => ∃ (z : Str) (many : Nat), vs = [.str z, .int (many : Int)] ∧ z.length ≤ 900 ∧ (∀ r, stepM (Txt.split z " ") many = some r → ∀ v H', Same H H' → StepAt H' v r → Q v H') ∧ (stepM (Txt.split z " ") many = none → ∀ H', Same H H' → Q .non H')
theorem has_lstep (b : Blt mg) (hRn : Has P w K mg base CX0 1 "_law_read_number" sLawReadNumber ["_law_word"] spNum) (hRb : Has P w K mg base CX0 1 "_law_read_begin" sLawReadBegin ["_law_word"] spBegIn) (a : AtE K mg "_law_read_step" sLawReadStep ["_law_row", "_law_many"]) :
    Has P w K mg base CX0 2 "_law_read_step" sLawReadStep ["_law_row", "_law_many"] spLStep := by
  obtain ⟨f, fd, a⟩ := a
  obtain ⟨fRn, fdRn, aRn, GRn⟩ := hRn
  obtain ⟨fRb, fdRb, aRb, GRb⟩ := hRb
  refine ⟨f, fd, a, a.fn.ok scLawReadStep (fun vs H Q E h => ?_) (fun cdv A outer s H vs Q E hr1 h => ?_)⟩
  · obtain ⟨z, many, rfl, _⟩ := h
    rfl
  · obtain ⟨z, many, rfl, l9, k1, k2⟩ := h
    refine ⟨_,
    (pss_cons (ps_set (i := 2) scLawReadStep.nd rfl (.inl rfl) (pe_split (pv 0) pe_str))
    (pss_cons (ps_if (pt_cmpR op_eq (pe_ix ix_list (pv 2) pe_int fun _ _ => rfl) pe_str (nomark _))
      (pss_cons (ps_set (i := 3) scLawReadStep.nd rfl (.inl rfl) (pe_callTy call_tuple_of (by rfl) b.tuple (by decide +kernel) (pa_cons (pe_lc (own := [("_law_word", 7)]) (g := (gName 7)) (tt := tYes) (te := (tCall spNum [] E0 (tCons (tVar 7) tNil))) rfl scLawReadStep.nd (pi_list (pe_slice sl_list (pv 2) (po_some pe_int) po_none)) (blkOk_by (N := nLawReadStep) (sc := defScope sLawReadStep) (by decide +kernel)) (fun _ _ _ _ _ => (pg_name (i := 7) scLawReadStep.nd rfl (.inl rfl))) (fun _ _ _ _ _ => pts_nil) (fun _ _ _ _ _ => (pe_call GRn hr1 rfl aRn.gl aRn.fn.kp aRn.bd .nil pass0 (pa_cons (pv 7) pa_nil)))) pa_nil)))
      (pss_cons (ps_set (i := 4) scLawReadStep.nd rfl (.inl rfl) (pe_and (pe_cmpR op_eq (pe_callB call_len_seq (by rfl) b.len PySem.boot_len (pa_cons (pv 3) pa_nil)) (pv 1) (nomark _)) (pe_one (pe_callB (cr_all rfl) (by rfl) b.all (by decide +kernel) (pa_cons (pe_lc (own := [("_law_one", 8)]) (g := (gName 8)) (tt := tYes) (te := (tAndV (tOp rNotN1 (tVar 8) (tC .non)) (tOp (rI0 fun i j => .bl (decide (i < j))) (tVar 8) (tC (.int 32))))) rfl scLawReadStep.nd (pi_tup (pv 3)) (blkOk_by (N := nLawReadStep) (sc := defScope sLawReadStep) (by decide +kernel)) (fun _ _ _ _ _ => (pg_name (i := 8) scLawReadStep.nd rfl (.inl rfl))) (fun _ _ _ _ _ => pts_nil) (fun _ _ _ _ _ => (pe_and (pe_cmpR op_notN (pv 8) pe_non (nomark _)) (pe_one (pe_cmpR op_lt (pv 8) pe_int (nomark _)))))) pa_nil)))))
      (pss_one (ps_ret (pe_ifExp (pt_val (pv 4)) (pe_tup (pa_cons pe_str (pa_cons (pv 3) pa_nil))) pe_non)))))
      pss_nil)
    (C8.pss_cut (ps_if (PW.pt (pw_or (pt_cmpR op_notIn_seq (pe_ix ix_list (pv 2) pe_int fun _ _ => rfl) (pe_tup (pa_cons pe_str (pa_cons pe_str (pa_cons pe_str pa_nil)))) rfl) (pw_or1 (pt_cmpR op_ne (pe_callB call_len_seq (by rfl) b.len PySem.boot_len (pa_cons (pv 2) pa_nil)) (pe_ifExp (pt_cmpR op_eq (pe_ix ix_list (pv 2) pe_int fun _ _ => rfl) pe_str (nomark _)) pe_int pe_int) (nomark _)))))
      (pss_one (ps_ret pe_non))
      pss_nil)
    (pss_cons (ps_setLc (i := 5) (own := [("_law_word", 7)]) (g := (gName 7)) (tt := tYes) (te := (tCall spNum [] E0 (tCons (tVar 7) tNil))) rfl scLawReadStep.nd rfl rfl (sw_true rfl rfl rfl (by decide +kernel)) (pi_list (pe_slice sl_list (pv 2) (po_some pe_int) (po_some (pe_un un_neg pe_int)))) (blkOk_by (N := nLawReadStep) (sc := defScope sLawReadStep) (by decide +kernel)) (fun _ _ _ _ _ => (pg_name (i := 7) scLawReadStep.nd rfl (.inl rfl))) (fun _ _ _ _ _ => pts_nil) (fun _ _ _ _ _ => (pe_call GRn hr1 rfl aRn.gl aRn.fn.kp aRn.bd .nil pass0 (pa_cons (pv 7) pa_nil))))
    (pss_cons (ps_set (i := 6) scLawReadStep.nd rfl (.inl rfl) (pe_callTy call_tuple_of (by rfl) b.tuple (by decide +kernel) (pa_cons (pe_lc (own := [("_law_word", 7)]) (g := (gName 7)) (tt := tYes) (te := (tCall spBegIn [] E0 (tCons (tVar 7) tNil))) rfl scLawReadStep.nd (pi_list (pe_split (pe_ix ix_list (pv 2) (pe_un un_neg pe_int) fun _ _ => rfl) pe_str)) (blkOk_by (N := nLawReadStep) (sc := defScope sLawReadStep) (by decide +kernel)) (fun _ _ _ _ _ => (pg_name (i := 7) scLawReadStep.nd rfl (.inl rfl))) (fun _ _ _ _ _ => pts_nil) (fun _ _ _ _ _ => (pe_call GRb hr1 rfl aRb.gl aRb.fn.kp aRb.bd .nil pass0 (pa_cons (pv 7) pa_nil)))) pa_nil)))
    (pss_cons (ps_if (PW.pt (pw_or (pt_cmpR op_in_seq pe_non (pv 5) rfl) (pw_or (pt_cmpR op_in_seq pe_non (pv 6) rfl) (pw_or1 (pt_cmpR op_ne (pe_callB call_len_seq (by rfl) b.len PySem.boot_len (pa_cons (pv 6) pa_nil)) (pv 1) (nomark _))))))
      (pss_one (ps_ret pe_non))
      pss_nil)
    (pss_one (ps_ret (pe_op op_catA (pe_op op_catA (pe_tup (pa_cons (pe_ix ix_list (pv 2) pe_int fun _ _ => rfl) pa_nil)) (pe_callTy call_tuple_of (by rfl) b.tuple (by decide +kernel) (pa_cons (pv 5) pa_nil))) (pe_tup (pa_cons (pv 6) pa_nil))))))))))), ?_⟩
    have big : (1000 : Nat) ≤ sizeLine := by decide
    have sl := PyProof.Rows.split_le z " "
    have sp := PyProof.Rows.split_pos z " "
    have sh : ∀ y ∈ Txt.split z " ", y.length ≤ 900 := fun y m => Nat.le_trans (PyProof.Rows.part_short m) l9
    obtain ⟨wd, ps, ews⟩ : ∃ wd ps, Txt.split z " " = wd :: ps := by
      cases q : Txt.split z " " with
      | nil => rw [q] at sp; simp at sp
      | cons wd ps => exact ⟨wd, ps, rfl⟩
    rw [ews] at k1 k2 sh sl
    refine ⟨_, rfl, ⟨z, rfl⟩, z, " ", rfl, rfl, by decide +kernel, by omega, fun l nl => ?_⟩
    rw [ews]
    have s1 := same_new (o := HO.lst ((wd :: ps).map V.str)) nl
    have at0 : ∀ {xs : List V}, atI (V.str wd :: xs) 0 = some (.str wd) := atI_nat (j := 0) rfl
    have st : stepM (wd :: ps) many = (if wd = "told" then (if pointB ps many then some (.told (pointL ps)) else none)
      else if kindB wd ps.length then (if !inV .non (pointL ps.dropLast) && boxB (ps.getLastD "") many then some (.box wd (pointL ps.dropLast) (boxL (ps.getLastD ""))) else none) else none) := rfl
    have shp : ∀ y ∈ ps, y.length ≤ 900 := fun y m => sh y (List.mem_cons_of_mem _ m)
    have lps : ps.length < 1000 := by
      rw [List.length_cons] at sl
      omega
    refine ⟨_, rfl, l, _, 0, _, rfl, rfl, SqL.of upd_same, at0, rfl, _, rfl, ?_⟩
    by_cases c1 : wd = "told"
    · rw [decide_eq_true (show V.str wd = V.str "told" from congrArg V.str c1)]
      rw [if_pos c1] at st
      subst c1
      refine iteT ⟨_, rfl, 1, rfl, l, _, rfl, SqL.of upd_same, ?_⟩
      dsimp only [tNoPart]
      intro C nC
      rw [List.map_cons, show cutV (V.str "told" :: ps.map V.str) (some 1) none = ps.map V.str from cut_behind _ (k := 1) (by rw [List.length_cons]; omega)]
      have s2 := same_new (o := HO.lst (ps.map V.str)) nC
      refine ⟨C, rfl, ⟨_, SqL.of upd_same⟩, fun D nD => ?_⟩
      refine lc_listV (xs := ps.map V.str) numVV nD (SqL.of upd_same) (by rw [List.length_map]; omega) ?_ ?_
      · intro i x H2 hx s2 c1 c2 kk
        obtain ⟨y, hy, rfl⟩ := getF hx
        exact ⟨rfl, yes_turn ⟨_, rfl, y, rfl, shp y (List.mem_of_getElem? hy), fun H4 s4 => kk H4 s4⟩⟩
      · intro H3 s3 hd
        rw [map_numVV] at hd
        refine ⟨D, _, rfl, .inl ⟨SqL.of hd, fun p np => ?_⟩⟩
        have s4 := same_new (o := HO.tup (pointL ps)) np
        have sA := s1.trans (s2.trans (s3.trans s4))
        have el : (pointL ps).length = ps.length := List.length_map ..
        refine ⟨_, rfl, p, _, rfl, .inr (SqT.of upd_same), _, rfl, rfl, _, rfl, ?_⟩
        show ite (decide (V.int ((pointL ps).length : Int) = V.int (many : Int)) = true) _ _
        rw [int_ne, el]
        unfold pointB at st
        cases e2 : decide (ps.length = many) with
        | false =>
          rw [e2] at st
          exact iteF ⟨_, rfl, _, rfl, iteF (k2 st _ sA)⟩
        | true =>
          rw [e2, Bool.true_and] at st
          refine iteT ⟨_, rfl, p, rfl, ⟨_, SqT.of upd_same⟩, fun D2 hD2 => ?_⟩
          refine lc_tupV (xs := pointL ps) (fun v => .bl (worthB v)) hD2 (SqT.of upd_same) (by omega) ?_ ?_
          · intro i x H4 hx s5 c1 c2 kk
            obtain ⟨y, hy, rfl⟩ := getF (f := fun y => nV (numM y)) hx
            have kk := kk H4 (Same.refl _)
            refine ⟨rfl, yes_turn ⟨_, rfl, ?_⟩⟩
            generalize numM y = o at kk ⊢
            cases o with
            | none => exact ⟨rfl, _, rfl, iteF kk⟩
            | some n =>
              refine ⟨rfl, _, rfl, iteT ⟨_, rfl, _, _, rfl, rfl, ?_⟩⟩
              have e : worthB (nV (some n)) = decide ((n : Int) < 32) := by
                show (decide (0 ≤ (n : Int)) && decide ((n : Int) < 32)) = _
                rw [decide_eq_true (show 0 ≤ (n : Int) by omega), Bool.true_and]
              rw [e] at kk
              exact kk
          · intro H4 s5 hd3
            refine ⟨D2, (pointL ps).map worthB, rfl, SqL.of (by rw [hd3, List.map_map]; rfl), ?_⟩
            have ea : ((pointL ps).map worthB).all id = (pointL ps).all worthB := by
              rw [List.all_map]
              rfl
            rw [ea]
            have sB := sA.trans s5
            refine ⟨_, rfl, _, rfl, ?_⟩
            cases e3 : (pointL ps).all worthB with
            | false =>
              rw [e3] at st
              exact iteF (k2 st _ sB)
            | true =>
              rw [e3] at st
              refine iteT ⟨_, rfl, by show 2 ≤ sizeLine; decide, fun q nq => ?_⟩
              have s6 := same_new (o := HO.tup [.str "told", .ref p]) nq
              exact k1 _ st _ _ (sB.trans s6) ⟨q, p, rfl, upd_same, s6 _ _ (s5 _ _ upd_same)⟩
    rw [decide_eq_false (show ¬ V.str wd = V.str "told" from fun e => c1 (by injection e))]
    rw [if_neg c1] at st
    refine iteF ⟨fun σ' H' => σ' = [some (.str z), some (.int (many : Int)), some (.ref l), none, none, none, none, none, none] ∧ Same H H' ∧ H' l = some (.lst ((wd :: ps).map V.str)) ∧ 1 ≤ ps.length ∧ kindB wd ps.length = true, ?_, ?_⟩
    rotate_left
    · rintro σ' H3 ⟨rfl, s3, hl3, p1, kb⟩
      rw [kb] at st
      refine ⟨_, rfl, 1, rfl, 1, rfl, _, rfl, l, _, rfl, SqL.of hl3, ?_⟩
      dsimp only
      intro C nC
      rw [List.map_cons, cut_mid _ _ (by rw [List.length_map]; exact p1), ← List.map_dropLast]
      have s4 := same_new (o := HO.lst (ps.dropLast.map V.str)) nC
      refine ⟨C, rfl, ⟨_, SqL.of upd_same⟩, fun G nG => ?_⟩
      refine lc_listV (xs := ps.dropLast.map V.str) numVV nG (SqL.of upd_same) (by rw [List.length_map, List.length_dropLast]; omega) ?_ ?_
      · intro i x H2 hx s4 c1 c2 kk
        obtain ⟨y, hy, rfl⟩ := getF hx
        exact ⟨rfl, yes_turn ⟨_, rfl, y, rfl, shp y (List.dropLast_subset _ (List.mem_of_getElem? hy)), fun H4 s4 => kk H4 s4⟩⟩
      · intro H5 s5 hd
        rw [map_numVV] at hd
        have hl5 := s5 _ _ (s4 _ _ hl3)
        have sA := s3.trans (s4.trans s5)
        obtain ⟨la, ela⟩ : ∃ la, ps.getLast? = some la := by
          cases q : ps.getLast? with
          | none => rw [List.getLast?_eq_none_iff] at q; rw [q] at p1; simp at p1
          | some la => exact ⟨la, rfl⟩
        have elD : ps.getLastD "" = la := by
          rw [List.getLastD_eq_getLast?, ela]
          rfl
        rw [elD] at st
        have e2 : ((wd :: ps).map V.str).getLast? = some (.str la) := by
          rw [List.getLast?_map, List.getLast?_cons, ela]
          rfl
        have mla : la ∈ ps := List.mem_of_getLast? ela
        have lla := shp la mla
        have sll := PyProof.Rows.split_le la ","
        refine ⟨_, rfl, 1, rfl, l, _, -1, .str la, rfl, rfl, SqL.of hl5, at_last e2, ⟨la, rfl⟩, la, ",", rfl, rfl, by decide +kernel, by omega, fun l2 nl2 => ?_⟩
        have s6 := same_new (o := HO.lst ((Txt.split la ",").map V.str)) nl2
        refine ⟨l2, rfl, ⟨_, SqL.of upd_same⟩, fun D nD => ?_⟩
        refine lc_listV (xs := (Txt.split la ",").map V.str) begV nD (SqL.of upd_same) (by rw [List.length_map]; omega) ?_ ?_
        · intro i x H2 hx s2 c1 c2 kk
          obtain ⟨y, hy, rfl⟩ := getF hx
          have ly := PyProof.Rows.part_short (List.mem_of_getElem? hy)
          exact ⟨rfl, yes_turn ⟨_, rfl, y, rfl, by omega, fun H4 s4 => kk H4 s4⟩⟩
        · intro H7 s7 hd7
          rw [map_begV] at hd7
          refine ⟨D, _, rfl, .inl ⟨SqL.of hd7, fun p np => ?_⟩⟩
          have s8 := same_new (o := HO.tup (boxL la)) np
          have sB := sA.trans (s6.trans (s7.trans s8))
          have hG : upd H7 p (.tup (boxL la)) G = some (.lst (pointL ps.dropLast)) := s8 _ _ (s7 _ _ (s6 _ _ hd))
          have hl8 := s8 _ _ (s7 _ _ (s6 _ _ hl5))
          refine ⟨_, rfl, G, _, rfl, .inl (SqL.of hG), rfl, pointL_flat _, _, rfl, ?_⟩
          show ite (inV .non (pointL ps.dropLast) = true) _ _
          cases e3 : inV .non (pointL ps.dropLast) with
          | true =>
            rw [e3] at st
            exact iteT (k2 st _ sB)
          | false =>
            rw [e3] at st
            refine iteF ⟨_, rfl, p, _, rfl, .inr (SqT.of upd_same), rfl, boxL_flat la, _, rfl, ?_⟩
            show ite (inV .non (boxL la) = true) _ _
            unfold boxB at st
            cases e4 : inV .non (boxL la) with
            | true =>
              rw [e4] at st
              exact iteT (k2 st _ sB)
            | false =>
              rw [e4] at st
              refine iteF ⟨_, rfl, p, _, rfl, .inr (SqT.of upd_same), _, rfl, rfl, _, rfl, ?_⟩
              show ite ((!decide (V.int ((boxL la).length : Int) = V.int (many : Int))) = true) _ _
              rw [int_ne]
              cases e5 : decide ((boxL la).length = many) with
              | false =>
                rw [e5] at st
                exact iteT (k2 st _ sB)
              | true =>
                rw [e5] at st
                refine iteF ⟨_, rfl, l, _, 0, _, rfl, rfl, SqL.of hl8, at0, by show 1 ≤ sizeLine; decide, fun q1 n1 => ?_⟩
                have l2 : 2 ≤ ps.length := by
                  have kb := of_decide_eq_true kb
                  omega
                have lp : (pointL ps.dropLast).length = ps.length - 1 := by
                  unfold pointL
                  rw [List.length_map, List.length_dropLast]
                have sq1 := same_new (o := HO.tup [.str wd]) n1
                refine ⟨_, rfl, G, _, rfl, .inl ⟨SqL.of (sq1 _ _ hG), fun q2 n2 => ?_⟩⟩
                have sq2 := same_new (o := HO.tup (pointL ps.dropLast)) n2
                refine ⟨q1, q2, [.str wd], _, rfl, rfl, SqT.of (sq2 _ _ upd_same), SqT.of upd_same, by rw [lp]; show 1 + _ ≤ _; omega, (fun e => nomatch e), (fun _ e => by rw [e] at lp; simp at lp; omega), fun _ _ q3 n3 => ?_⟩
                have sq3 := same_new (o := HO.tup ([.str wd] ++ pointL ps.dropLast)) n3
                refine ⟨_, rfl, by show 1 ≤ sizeLine; decide, fun q4 n4 => ?_⟩
                have sq4 := same_new (o := HO.tup [.ref p]) n4
                refine ⟨q3, q4, [.str wd] ++ pointL ps.dropLast, [.ref p], rfl, rfl, SqT.of (sq4 _ _ upd_same), SqT.of upd_same, by rw [List.length_append, lp]; show 1 + _ + 1 ≤ _; omega, (fun e => nomatch e), (fun _ e => nomatch e), fun _ _ q5 n5 => ?_⟩
                have sq5 := same_new (o := HO.tup ([.str wd] ++ pointL ps.dropLast ++ [.ref p])) n5
                have sC := sq1.trans (sq2.trans (sq3.trans (sq4.trans sq5)))
                exact k1 _ st _ _ (sB.trans sC) ⟨q5, p, rfl, upd_same, sC _ _ upd_same⟩
    refine ⟨_, rfl, l, _, 0, _, rfl, rfl, SqL.of upd_same, at0, by show 3 ≤ sizeLine; decide, fun T nT => ?_⟩
    have sT := same_new (o := HO.tup [.str "empty", .str "less", .str "joined"]) nT
    refine ⟨T, _, rfl, .inr (SqT.of upd_same), rfl, rfl, _, rfl, ?_⟩
    have e1 : inV (.str wd) [.str "empty", .str "less", .str "joined"] = decide (wd ∈ (["empty", "less", "joined"] : List Str)) := inV_str (z := wd) (zs := ["empty", "less", "joined"])
    rw [e1]
    by_cases c2 : wd ∈ (["empty", "less", "joined"] : List Str)
    rotate_left
    · rw [decide_eq_false c2]
      rw [kind_no c2] at st
      exact iteT (k2 st _ (s1.trans sT))
    rw [decide_eq_true c2]
    have hlT := sT _ _ (show upd H l (.lst ((wd :: ps).map V.str)) l = _ from upd_same)
    have ek : kindB wd ps.length = decide ((wd :: ps).length = if wd = "joined" then 4 else 3) := by
      obtain ⟨n, mn, ek⟩ := kind_is c2
      rw [ek, List.length_cons]
      refine decide_eq_decide.mpr ?_
      by_cases c4 : wd = "joined"
      · rw [if_pos c4]
        subst c4
        have e := ek 3
        rw [show kindB "joined" 3 = true by decide +kernel] at e
        have e := of_decide_eq_true e.symm
        omega
      · rw [if_neg c4]
        have e := ek 2
        rw [show kindB wd 2 = true by
          unfold kindB
          refine decide_eq_true (.inl ⟨?_, rfl⟩)
          rcases List.mem_cons.mp c2 with q | m
          · exact .inl q
          rcases List.mem_cons.mp m with q | m
          · exact .inr q
          · exact absurd (List.mem_singleton.mp m) c4] at e
        have e := of_decide_eq_true e.symm
        omega
    refine iteF ⟨_, rfl, l, _, rfl, .inl (SqL.of hlT), _, rfl, l, _, 0, _, rfl, rfl, SqL.of hlT, at0, rfl, _, rfl, ?_⟩
    have go : ∀ {A B : Prop} (n : Nat), n = (if wd = "joined" then 4 else 3) → ((wd :: ps).length = n → 1 ≤ ps.length → kindB wd ps.length = true → B) → (stepM (wd :: ps) many = none → A) → (if (!decide (V.int ((((wd :: ps).map V.str).length : Nat) : Int) = V.int ((n : Nat) : Int))) = true then A else B) := by
      intro A B n en hB hA
      rw [List.length_map, int_ne]
      by_cases c3 : (wd :: ps).length = n
      · rw [decide_eq_true c3]
        refine iteF (hB c3 ?_ ?_)
        · rw [List.length_cons] at c3
          split at en <;> omega
        · rw [ek]
          exact decide_eq_true (by rw [← en]; exact c3)
      · rw [decide_eq_false c3]
        refine iteT (hA ?_)
        rw [ek, decide_eq_false (by rw [← en]; exact c3)] at st
        exact st
    by_cases c4 : wd = "joined"
    · rw [decide_eq_true (show V.str wd = V.str "joined" from congrArg V.str c4)]
      exact iteT ⟨rfl, _, rfl, go 4 (by rw [if_pos c4]) (fun _ p1 kb => ⟨rfl, s1.trans sT, hlT, p1, kb⟩) fun e => k2 e _ (s1.trans sT)⟩
    · rw [decide_eq_false (show ¬ V.str wd = V.str "joined" from fun e => c4 (by injection e))]
      exact iteF ⟨rfl, _, rfl, go 3 (by rw [if_neg c4]) (fun _ p1 kb => ⟨rfl, s1.trans sT, hlT, p1, kb⟩) fun e => k2 e _ (s1.trans sT)⟩
end
end VQ
namespace VQ
open PySem L2 LamX
/-! ### BadText, with its field -/
abbrev sBadText : Stmt := inClass (top 4) 0
theorem scBadText : FnScope ["self", "at"] ["self", "at"] (defScope sBadText) := ⟨rfl, rfl, rfl, by decide +kernel, rfl, by decide +kernel, by decide +kernel⟩
structure ErrF (K : PySem.W.Frag) (mg : Str → Option Value) (C fI : Addr) (fd : FuncData) : Prop where
  gl : mg "BadText" = some (.ref C)
  ox : OexC K C
  it : PySem.W.findIn K (.ref C) "__init__" = some (some (.ref fI))
  ty : PySem.W.typeIn K (.ref fI) = some (.type "function")
  nc : PySem.W.findIn K (.ref C) "called" = some none
  na : PySem.W.findIn K (.ref C) "at" = some none
  fn : Fun K "__init__" "BadText.__init__" sBadText fI fd
  bd : Binds K fd ["self", "at"] []
def atFs (y : V) : List (Str × V) := [("at", y), ("called", .str "BadText")]
section
variable {P : Program} {w : World} {K : PySem.W.Frag} {mg : Str → Option Value} {base : Heap} {Ta NT NR BT Uf Fu TM QE No : Addr}
def spErrF (C : Addr) : Sp := fun vs H Q _ => ∃ (a : Addr) (y : V), vs = [.ref a, y] ∧ H a = some (exo a C none) ∧ ∀ d, H d = none → d ≠ a → Q .non (upd (upd (upd H d (exd d [(("called" : Str), .str "BadText")])) a (exo a C (some d))) d (exd d (atFs y)))
theorem ok_errF {C fI : Addr} {fd : FuncData} (Er : ErrF K mg C fI fd) : FnOk P w K mg base CX0 1 fI fd ["self", "at"] (spErrF C) := by
  refine Er.fn.ok scBadText (fun vs H Q E h => ?_) (fun cdv A outer s H vs Q E' hr h => ?_)
  · obtain ⟨a, y, rfl, _⟩ := h
    rfl
  · obtain ⟨a, y, rfl, ha, k⟩ := h
    refine ⟨_, pss_cons (ps_ost (pv 0) pe_str) (pss_one (ps_ost (pv 0) (pv 1))), ?_⟩
    refine ⟨_, rfl, a, C, rfl, Er.ox, Er.nc, .inl ⟨ha, fun d hd ne => ?_⟩⟩
    refine ⟨_, rfl, _, rfl, a, C, rfl, Er.ox, Er.na, .inr ⟨d, _, upd_same, (upd_ne ne).trans upd_same, by show 1 ≤ 900; decide, ?_⟩⟩
    exact k d hd ne
theorem raise_at {C : Addr} {y : V} {H : Hp} {W : XK} (h : ∀ d, H d = none → W (.ref C) (some d) (upd H d (.xd (atFs y)))) : ∀ a, H a = none → spErrF C [.ref a, y] (upd H a (exo a C none))
    (fun v H2 => v = .non ∧ ∃ (d : Addr) (fs : List (Str × V)), H2 a = some (exo a C (some d)) ∧ H2 d = some (exd d fs) ∧ H d = none ∧ W (.ref C) (some d) (upd (del H2 a) d (.xd fs))) (fun _ _ _ => False) := by
  intro a ha
  refine ⟨a, y, rfl, upd_same, fun d hd ne => ⟨rfl, d, atFs y, (upd_ne ne.symm).trans upd_same, upd_same, ?_, ?_⟩⟩
  · rw [upd_ne ne] at hd
    exact hd
  · have hd' : H d = none := by
      rw [upd_ne ne] at hd
      exact hd
    have e : upd (del (upd (upd (upd (upd H a (exo a C none)) d (exd d [(("called" : Str), V.str "BadText")])) a (exo a C (some d))) d (exd d (atFs y))) a) d (.xd (atFs y)) = upd H d (.xd (atFs y)) := by
      funext b
      by_cases hb : b = d
      · rw [hb, upd_same, upd_same]
      · rw [upd_ne hb, upd_ne hb]
        by_cases hba : b = a
        · rw [hba, del_same, ha]
        · rw [del_ne hba, upd_ne hb, upd_ne hba, upd_ne hb, upd_ne hba]
    rw [e]
    exact h d hd'
/-- a refusal that the second clause takes -/
structure Second (K : PySem.W.Frag) (Ta NT NR BT Uf C : Addr) : Prop where
  n1 : PySem.W.exmAny K (.ref C) [.ref Ta, .ref NT, .ref NR] = some false
  y2 : PySem.W.exmAny K (.ref C) [.ref BT, .ref Uf] = some true
  xf : XfC K C
  nc : PySem.W.findIn K (.ref C) "called" = some none
  na : PySem.W.findIn K (.ref C) "at" = some none
def Caught2 (K : PySem.W.Frag) (Ta NT NR BT Uf : Addr) (Q : VK) : XK := fun cls d H => ∃ (C dd : Addr) (fs : List (Str × V)) (nm : Str) (y : V), cls = .ref C ∧ d = some dd ∧ Second K Ta NT NR BT Uf C ∧ H dd = some (.xd fs) ∧ fs.lookup ("called" : Str) = some (V.str nm) ∧ fs.lookup ("at" : Str) = some y ∧
  ∀ p, H p = none → Q (.ref p) (upd H p (.tup [.str nm, y]))
def TTried2 (K : PySem.W.Frag) (Ta NT NR BT Uf : Addr) : (XK → Hp → VK → Prop) → Hp → VK → Prop := fun tl H Q =>
  tl (Caught2 K Ta NT NR BT Uf Q) H fun v H1 => [V.str "told", v].length ≤ sizeLine ∧ ∀ p, H1 p = none → Q (.ref p) (upd H1 p (.tup [.str "told", v]))
theorem tried_gives2 {g : Addr} {cdg : Value} {q : Str} (G : Errs mg Ta NT NR BT Uf Fu TM QE No) : Gives2 P w K mg base ["_law_ask", "e"] "_law_tried" (defScope sTried) g cdg (defBody sTried) "_law_ask" q (TTried2 K Ta NT NR BT Uf) := by
  intro A2 outer2 f c' s H Q tl act hc h
  refine ⟨_, pss_one (ps_try_manyA (X := (cxOf C8.CX0 P w K mg base ["_law_ask", "e"] "_law_tried" (defScope sTried) g cdg A2 outer2 s H C8.E0).nox) (i := 1) (n := "e")
      (tb := fun W D σ H => ∃ Ech : XK, (∀ cls d σ' H', σ'.length = 2 → Ech cls d H' → W cls d σ' H') ∧ σ[0]? = some (some (.ref f)) ∧ H c' = some (CodeO c' q) ∧ tl Ech H fun v H1 => [V.str "told", v].length ≤ sizeLine ∧ ∀ p, H1 p = none → D.rt (.ref p) (upd H1 p (.tup [.str "told", v])))
      rfl rfl scTried.nd rfl rfl LamX.takes0 (fun W pn xe tk _ => ?_)
      (HdsA.cons (Cte.three ⟨rfl, by decide, .inl G.ta⟩ ⟨rfl, by decide, .inl G.nt⟩ ⟨rfl, by decide, .inl G.nr⟩) (fun a oe cls d pn hz hf => pss_one (ps_ret (pe_tup (pa_cons (pe_xfA hz hf (pv 1)) (pa_cons (pe_xfA hz hf (pv 1)) pa_nil)))))
      (HdsA.cons (Cte.two ⟨rfl, by decide, .inl G.bt⟩ ⟨rfl, by decide, .inl G.uf⟩) (fun a oe cls d pn hz hf => pss_one (ps_ret (pe_tup (pa_cons (pe_xfA hz hf (pv 1)) (pa_cons (pe_xfA hz hf (pv 1)) pa_nil)))))
      (HdsA.cons (Cte.one ⟨rfl, by decide, .inl G.fu⟩) (fun a oe cls d pn hz hf => pss_one (ps_ret (pe_tup (pa_cons (pe_xfA hz hf (pv 1)) (pa_cons (pe_xfA hz hf (pv 1)) pa_nil)))))
      (HdsA.cons (Cte.one ⟨rfl, by decide, .inl G.tm⟩) (fun a oe cls d pn hz hf => pss_one (ps_ret (pe_tup (pa_cons (pe_xfA hz hf (pv 1)) (pa_cons (pe_xfA hz hf (pv 1)) pa_nil)))))
      (HdsA.cons (Cte.two ⟨rfl, by decide, .inl G.qe⟩ ⟨rfl, by decide, .inl G.no⟩) (fun a oe cls d pn hz hf => pss_one (ps_ret (pe_tup (pa_cons (pe_xfA hz hf (pv 1)) (pa_cons pe_str pa_nil)))))
      HdsA.nil)))))), ?_⟩
  · refine ⟨fun pins s' σ H' D I ⟨Ech, hW, h1, h2, h3⟩ => ?_⟩
    exact (pss_one (ps_ret (pe_tup (pa_cons pe_str (pa_cons (act W pn xe Ech _ _ tk hW) pa_nil))))).run pins s' σ H' D I ⟨h1, h2, h3⟩
  · refine ⟨Caught2 K Ta NT NR BT Uf Q, fun cls d σ' H' hlen hC => ?_, rfl, hc, h⟩
    obtain ⟨C, dd, fs, nm, y, rfl, rfl, pl, hdd, hl, hy, hq⟩ := hC
    refine ⟨false, pl.n1, fun z => Bool.noConfusion z, fun _ => ⟨true, pl.y2, fun _ a na => ?_, fun z => Bool.noConfusion z⟩⟩
    have e1 : (σ'.set 1 (some (V.ref a)))[1]? = some (some (V.ref a)) := List.getElem?_set_self (by rw [hlen]; decide)
    exact ⟨C, pl.xf, pl.nc, _, e1, rfl, rfl, dd, fs, _, rfl, hdd, hl, C, pl.xf, pl.na, _, e1, rfl, rfl, dd, fs, _, rfl, hdd, hy, by show 2 ≤ sizeLine; decide, fun p hp => hq p hp⟩
end
end VQ
namespace VQ
open PySem L2 LamX
/-! ### papers read -/
abbrev sReadPaper : Stmt := top 26
abbrev nReadPaper : List Str := ["text", "many", "rows", "rest", "steps", "at", "row", "step"]
theorem scReadPaper : FnScope nReadPaper ["text", "many"] (defScope sReadPaper) := ⟨rfl, rfl, rfl, by decide +kernel, rfl, by decide +kernel, by decide +kernel⟩
abbrev sLawReadPaper : Stmt := top 44
abbrev nLawReadPaper : List Str := ["_law_text", "_law_many", "_law_rows", "_law_found", "_law_at", "_law_row", "_law_step"]
theorem scLawReadPaper : FnScope nLawReadPaper ["_law_text", "_law_many"] (defScope sLawReadPaper) := ⟨rfl, rfl, rfl, by decide +kernel, rfl, by decide +kernel, by decide +kernel⟩
def goodR (many : Nat) (row : Str) : Option StepR := stepM (Txt.split row " ") many
/-- the row of the first fault -/
def verd (many : Nat) (rest : Str) : List Str → Nat → Option Nat
  | [], k => if rest = "" then none else some k
  | r :: rs, k => if (goodR many r).isSome then verd many rest rs (k + 1) else some k
theorem verd_step {many : Nat} {rest : Str} {rows : List Str} {i : Nat} {r : Str} (h : rows[i]? = some r) : verd many rest (rows.drop i) i = if (goodR many r).isSome then verd many rest (rows.drop (i + 1)) (i + 1) else some i := by
  obtain ⟨lt, e⟩ := List.getElem?_eq_some_iff.mp h
  rw [List.drop_eq_getElem_cons lt, e]
  rfl
theorem tups_upd {H : Hp} {S : Addr} {xs ys : List V} (h : H S = some (.lst xs)) : Tups H (upd H S (.lst ys)) := fun a zs e => by
  rw [upd_ne (fun q => by rw [q, h] at e; cases e)]
  exact e
/-- a for over enumerate of a list -/
theorem for_enumL {K : PySem.W.Frag} {a : Addr} {xs : List V} {g : TG} {tb : TS} {D : Ends} {σ : L2.St} {H : Hp} (Pv : Nat → L2.St → Hp → Prop) (h0 : Pv 0 σ H) (there : ∀ i σ H, Pv i σ H → SqL K H a xs)
    (turn : ∀ (i : Nat) (x : V) (T : Addr) (σ : L2.St) (H : Hp), xs[i]? = some x → Pv i σ H → H T = none → g (.ref T) σ (upd H T (.tup [.int (i : Nat), x])) fun σ2 H2 => tb { D with nx := Pv (i + 1), ct := Pv (i + 1), bk := D.nx } σ2 H2)
    (fin : ∀ σ H, Pv xs.length σ H → D.nx σ H) :
    ∃ W : Nat → Nat → L2.St → Hp → Prop, (∃ m, W 0 m σ H) ∧ ∀ i m σ H, W i m σ H →
      ((Ite K a).stop i H ∧ D.nx σ H) ∨ ((Ite K a).go i H ∧ ∃ N : L2.St → Hp → Prop, (∀ σ' H', N σ' H' → ∃ m', m' < m ∧ W (i + 1) m' σ' H') ∧ ∀ x H', (Ite K a).yld i H x H' → g x σ H' fun σ2 H2 => tb { D with nx := N, ct := N, bk := D.nx } σ2 H2) := by
  refine ⟨fun i m σ H => m + i = xs.length ∧ Pv i σ H, ⟨xs.length, rfl, h0⟩, ?_⟩
  rintro i m σ H ⟨em, p⟩
  have sq := there i σ H p
  by_cases lt : i < xs.length
  · refine .inr ⟨⟨xs, xs[i], sq, List.getElem?_eq_getElem lt⟩, Pv (i + 1), fun σ' H' p' => ⟨m - 1, by omega, by omega, p'⟩, ?_⟩
    rintro v H' ⟨T, x, rfl, nT, rfl, ex⟩
    exact turn i x T σ H (ex xs sq) p nT
  · have e : i = xs.length := by omega
    subst e
    exact .inl ⟨⟨xs, sq, Nat.le_refl _⟩, fin σ H p⟩
section
variable {P : Program} {w : World} {K : PySem.W.Frag} {mg : Str → Option Value} {base : Heap}
def spReadPaper (CB : Addr) : Sp := fun vs H Q E => ∃ (z : Str) (many : Nat) (rows : List Str) (rest : Str), vs = [.str z, .int (many : Int)] ∧ z.length ≤ 900 ∧ Txt.split z "\n" = rows ++ [rest] ∧
  (verd many rest rows 0 = none → ∀ a us H', Same H H' → H' a = some (.lst us) → Each (StepAt H') us (rows.filterMap (goodR many)) → Q (.ref a) H') ∧ (∀ i, verd many rest rows 0 = some i → ∀ H' d, Same H H' → H' d = none → E (.ref CB) (some d) (upd H' d (.xd (atFs (.int ((i : Nat) : Int))))))
theorem has_readpaper {CB fI : Addr} {fdI : FuncData} (b : Blt mg) (en : mg "enumerate" = none) (EBadText : ErrF K mg CB fI fdI) (hSi : Has P w K mg base CX0 4 "step_in" sStepIn ["row", "many"] (spStepIn K)) (a : AtE K mg "read_paper" sReadPaper ["text", "many"]) :
    Has P w K mg base (L2.CX P w) 5 "read_paper" sReadPaper ["text", "many"] (spReadPaper CB) := by
  obtain ⟨f, fd, a⟩ := a
  obtain ⟨fSi, fdSi, aSi, GSi⟩ := hSi
  have GIBadText : FnOk P w K mg base CX0 1 fI fdI ["self", "at"] (spErrF CB) := ok_errF EBadText
  refine ⟨f, fd, a, a.fn.okX scReadPaper (fun vs H Q E h => ?_) (fun cdv A outer s H vs Q E hr4 h => ?_)⟩
  · obtain ⟨z, many, rows, rest, rfl, _⟩ := h
    rfl
  · obtain ⟨z, many, rows, rest, rfl, l9, esp, k1, k2⟩ := h
    have hr : Room 2 _ := hr4.mono (by decide)
    have hu : (A.deeper (PyProof.Rows.envOfC "read_paper" (defScope sReadPaper) s.heap.objs.size f cdv)).units + 65 < cLine := by
      have := hr4.un
      omega
    refine ⟨_,
    (pss_cons (ps_asg (pe_split (pv 0) pe_str) (pg_star (n := 2) (i := 0) rfl (pgs_cons (pg_name (i := 2) scReadPaper.nd rfl (.inl rfl)) (pgs_cons (pg_name (i := 3) scReadPaper.nd rfl (.inl rfl)) pgs_nil)) rfl))
    (pss_cons (ps_set (i := 4) scReadPaper.nd rfl (.inl rfl) (pe_lst pa_nil))
    (pss_cons (ps_for (passes_of rfl) rfl (pi_enum rfl en (pa_cons (pv 2) pa_nil)) (pg_tup rfl (pgs_cons (pg_name (i := 5) scReadPaper.nd rfl (.inl rfl)) (pgs_cons (pg_name (i := 6) scReadPaper.nd rfl (.inl rfl)) pgs_nil)))
      (pss_cons (ps_set (i := 7) scReadPaper.nd rfl (.inl rfl) (pe_call GSi hr4 rfl aSi.gl aSi.fn.kp aSi.bd .nil pass0 (pa_cons (pv 6) (pa_cons (pv 1) pa_nil))))
      (pss_cons (ps_if (pt_cmpR (op_inDT hu) pe_non (pv 7) rfl)
        (pss_one (ps_raise rfl (takes_of rfl rfl rfl rfl) (pmk_oex EBadText.ox EBadText.it EBadText.ty GIBadText hr EBadText.bd .nil pass0 rfl EBadText.gl (pa_cons (pv 5) pa_nil))))
        pss_nil)
      (pss_one (ps_expr (pe_bm PySem.F.plainAttrs_list PySem.F.slot_list_append PySem.F.type_list_append mt_append (pv 4) (pa_cons (pv 7) pa_nil)))))))
    (pss_cons (ps_if (pt_cmpR op_ne (pv 3) pe_str (nomark _))
      (pss_one (ps_raise rfl (takes_of rfl rfl rfl rfl) (pmk_oex EBadText.ox EBadText.it EBadText.ty GIBadText hr EBadText.bd .nil pass0 rfl EBadText.gl (pa_cons (pe_callB call_len_seq (by rfl) b.len PySem.boot_len (pa_cons (pv 2) pa_nil)) pa_nil))))
      pss_nil)
    (pss_one (ps_ret (pv 4))))))), ?_⟩
    have big : (1000 : Nat) ≤ sizeLine := by decide
    have sl := PyProof.Rows.split_le z "\n"
    have sh : ∀ y ∈ Txt.split z "\n", y.length ≤ 900 := fun y m => Nat.le_trans (PyProof.Rows.part_short m) l9
    rw [esp] at sl sh
    have shr : ∀ y ∈ rows, y.length ≤ 900 := fun y m => sh y (List.mem_append_left _ m)
    have lr : rows.length < 1000 := by
      rw [List.length_append] at sl
      have : rows.length + 1 ≤ z.length + 2 := sl
      omega
    refine ⟨_, rfl, ⟨z, rfl⟩, z, "\n", rfl, rfl, by decide +kernel, by omega, fun l nl => ?_⟩
    rw [esp, show (rows ++ [rest]).map V.str = rows.map V.str ++ [V.str rest] by rw [List.map_append]; rfl]
    refine ⟨l, _, rfl, .inl (SqL.of upd_same), by rw [List.length_append, List.length_map]; show 2 ≤ rows.length + 1 + 1; omega, fun R nR => ?_⟩
    rw [star_end, star_end2]
    have s1 := same_new (o := HO.lst (rows.map V.str ++ [V.str rest])) nl
    have s2 := same_new (o := HO.lst (rows.map V.str)) nR
    refine ⟨_, _, rfl, _, _, rfl, rfl, ?_⟩
    refine ⟨by show 0 ≤ sizeLine; decide, fun S nS => ?_⟩
    have s3 := same_new (o := HO.lst []) nS
    have s13 : Same H _ := s1.trans (s2.trans s3)
    have nR0 : H R = none := s1.free nR
    have nS0 : H S = none := (s1.trans s2).free nS
    have nRS : R ≠ S := ne_of_none upd_same nS
    refine ⟨_, rfl, R, _, rfl, SqL.of (s3 _ _ upd_same), ?_⟩
    refine for_enumL (xs := rows.map V.str) (fun i σ H' => (∃ x y t : Option V, σ = [some (.str z), some (.int (many : Int)), some (.ref R), some (.str rest), some (.ref S), x, y, t]) ∧ Same H H' ∧ H' R = some (.lst (rows.map V.str)) ∧ verd many rest (rows.drop i) i = verd many rest rows 0 ∧
      ∃ us, H' S = some (.lst us) ∧ us.length ≤ i ∧ Each (StepAt H') us ((rows.take i).filterMap (goodR many))) ⟨⟨_, _, _, rfl⟩, s13, s3 _ _ upd_same, rfl, [], upd_same, Nat.le_refl _, .nil⟩ (fun i σ H' q => SqL.of q.2.2.1) ?_ ?_
    · rintro i x T σ H4 hx ⟨⟨v5, v6, v7, rfl⟩, s4, hR, ev, us, hS, lu, eu⟩ nT
      obtain ⟨row, hrow, rfl⟩ := getF hx
      have lti : i < rows.length := (List.getElem?_eq_some_iff.mp hrow).1
      have sT := same_new (o := HO.tup [.int (i : Nat), .str row]) nT
      refine ⟨T, _, rfl, SqT.of upd_same, rfl, _, _, rfl, _, _, rfl, rfl, ?_⟩
      refine ⟨_, rfl, _, rfl, row, many, rfl, shr row (List.mem_of_getElem? hrow), fun r er v H5 s5 sv tv => ?_, fun er v H5 s5 tv => ?_⟩
      · obtain ⟨ds, d1, d2, d3⟩ := tv
        refine ⟨_, rfl, .none, ds, .non, d1, rfl, d2, _, rfl, ?_⟩
        rw [d3]
        have hS5 := s5 _ _ (sT _ _ hS)
        refine iteF ⟨_, rfl, .inl ⟨rfl, _, SqL.of hS5⟩, _, rfl, S, _, _, rfl, rfl, hS5, by omega, ?_⟩
        have tS := tups_upd (ys := us ++ [v]) hS5
        have s45 := s4.trans (sT.trans s5)
        rw [verd_step hrow, show goodR many row = some r from er] at ev
        refine ⟨⟨_, _, _, rfl⟩, same_put s45 nS0, (upd_ne nRS).trans (s5 _ _ (sT _ _ hR)), ev, _, upd_same, by rw [List.length_append]; show us.length + 1 ≤ _; omega, ?_⟩
        rw [List.take_add_one, hrow, List.filterMap_append]
        have e1 : List.filterMap (goodR many) (some row).toList = [r] := by
          show List.filterMap (goodR many) [row] = [r]
          rw [List.filterMap_cons, show goodR many row = some r from er]
          rfl
        rw [e1]
        exact (eu.mono fun _ _ q => q.moved (Tups.trans (same_tups (sT.trans s5)) tS)).snoc (sv.moved tS)
      · obtain ⟨ds, d1, d2, d3⟩ := tv
        refine ⟨_, rfl, .none, ds, .non, d1, rfl, d2, _, rfl, ?_⟩
        rw [d3]
        rw [verd_step hrow, show goodR many row = none from er] at ev
        exact iteT ⟨_, rfl, by show 1 ≤ 1000; decide, raise_at fun d hd => k2 i ev.symm H5 d (s4.trans (sT.trans s5)) hd⟩
    · rintro σ H4 ⟨⟨v5, v6, v7, rfl⟩, s4, hR, ev, us, hS, lu, eu⟩
      rw [List.length_map, List.take_length] at eu
      rw [List.length_map, List.drop_length] at ev
      have ev : (if rest = "" then none else some rows.length) = verd many rest rows 0 := ev
      refine ⟨_, rfl, rfl, _, rfl, ?_⟩
      by_cases c : rest = ""
      · rw [if_pos c] at ev
        rw [decide_eq_true (show V.str rest = V.str "" from congrArg V.str c)]
        exact iteF ⟨_, rfl, k1 ev.symm S us H4 s4 hS eu⟩
      · rw [if_neg c] at ev
        rw [decide_eq_false (show ¬ V.str rest = V.str "" from fun e => c (by injection e))]
        refine iteT ⟨_, rfl, R, _, rfl, .inl (SqL.of hR), ?_⟩
        rw [List.length_map]
        exact ⟨by show 1 ≤ 1000; decide, raise_at fun d hd => k2 _ ev.symm H4 d s4 hd⟩
def spLPaper : Sp := fun vs H Q _ => ∃ (z : Str) (many : Nat) (rows : List Str) (rest : Str), vs = [.str z, .int (many : Int)] ∧ z.length ≤ 900 ∧ Txt.split z "\n" = rows ++ [rest] ∧
  (verd many rest rows 0 = none → ∀ q a us H', Same H H' → H' q = some (.tup [.str "told", .ref a]) → H' a = some (.lst us) → Each (StepAt H') us (rows.filterMap (goodR many)) → Q (.ref q) H') ∧
  (∀ i, verd many rest rows 0 = some i → ∀ q H', Same H H' → H' q = some (.tup [.str "BadText", .int ((i : Nat) : Int)]) → Q (.ref q) H')
theorem has_lpaper (b : Blt mg) (en : mg "enumerate" = none) (hRs : Has P w K mg base CX0 2 "_law_read_step" sLawReadStep ["_law_row", "_law_many"] spLStep) (a : AtE K mg "_law_read_paper" sLawReadPaper ["_law_text", "_law_many"]) :
    Has P w K mg base CX0 3 "_law_read_paper" sLawReadPaper ["_law_text", "_law_many"] spLPaper := by
  obtain ⟨f, fd, a⟩ := a
  obtain ⟨fRs, fdRs, aRs, GRs⟩ := hRs
  refine ⟨f, fd, a, a.fn.ok scLawReadPaper (fun vs H Q E h => ?_) (fun cdv A outer s H vs Q E hr2 h => ?_)⟩
  · obtain ⟨z, many, rows, rest, rfl, _⟩ := h
    rfl
  · obtain ⟨z, many, rows, rest, rfl, l9, esp, k1, k2⟩ := h
    refine ⟨_,
    (pss_cons (ps_set (i := 2) scLawReadPaper.nd rfl (.inl rfl) (pe_split (pv 0) pe_str))
    (pss_cons (ps_set (i := 3) scLawReadPaper.nd rfl (.inl rfl) (pe_lst pa_nil))
    (pss_cons (ps_for PassesOwn.never rfl (pi_enum rfl en (pa_cons (pe_slice sl_list (pv 2) po_none (po_some (pe_un un_neg pe_int))) pa_nil)) (pg_tup rfl (pgs_cons (pg_name (i := 4) scLawReadPaper.nd rfl (.inl rfl)) (pgs_cons (pg_name (i := 5) scLawReadPaper.nd rfl (.inl rfl)) pgs_nil)))
      (pss_cons (ps_set (i := 6) scLawReadPaper.nd rfl (.inl rfl) (pe_call GRs hr2 rfl aRs.gl aRs.fn.kp aRs.bd .nil pass0 (pa_cons (pv 5) (pa_cons (pv 1) pa_nil))))
      (pss_cons (ps_if (pt_cmpR op_isN (pv 6) pe_non (nomark _))
        (pss_one (ps_ret (pe_tup (pa_cons pe_str (pa_cons (pv 4) pa_nil)))))
        pss_nil)
      (pss_one (ps_expr (pe_bm PySem.F.plainAttrs_list PySem.F.slot_list_append PySem.F.type_list_append mt_append (pv 3) (pa_cons (pv 6) pa_nil)))))))
    (pss_one (ps_ret (pe_ifExp (pt_cmpR op_eq (pe_ix ix_list (pv 2) (pe_un un_neg pe_int) fun _ _ => rfl) pe_str (nomark _)) (pe_tup (pa_cons pe_str (pa_cons (pv 3) pa_nil))) (pe_tup (pa_cons pe_str (pa_cons (pe_op op_sub (pe_callB call_len_seq (by rfl) b.len PySem.boot_len (pa_cons (pv 2) pa_nil)) pe_int) pa_nil))))))))), ?_⟩
    have big : (1000 : Nat) ≤ sizeLine := by decide
    have sl := PyProof.Rows.split_le z "\n"
    have sh : ∀ y ∈ Txt.split z "\n", y.length ≤ 900 := fun y m => Nat.le_trans (PyProof.Rows.part_short m) l9
    rw [esp] at sl sh
    have shr : ∀ y ∈ rows, y.length ≤ 900 := fun y m => sh y (List.mem_append_left _ m)
    have lr : rows.length < 1000 := by
      rw [List.length_append] at sl
      have : rows.length + 1 ≤ z.length + 2 := sl
      omega
    refine ⟨_, rfl, ⟨z, rfl⟩, z, "\n", rfl, rfl, by decide +kernel, by omega, fun l nl => ?_⟩
    rw [esp, show (rows ++ [rest]).map V.str = rows.map V.str ++ [V.str rest] by rw [List.map_append]; rfl]
    have s1 := same_new (o := HO.lst (rows.map V.str ++ [V.str rest])) nl
    refine ⟨by show 0 ≤ sizeLine; decide, fun S nS => ?_⟩
    have s2 := same_new (o := HO.lst []) nS
    have nlS : l ≠ S := ne_of_none upd_same nS
    have nS0 : H S = none := s1.free nS
    refine ⟨_, rfl, 1, rfl, _, rfl, l, _, rfl, SqL.of ((upd_ne nlS).trans upd_same), fun R nR => ?_⟩
    rw [show (-1 : Int) = -1 from rfl, cut_last _ (by rw [List.length_append]; show 1 ≤ _ + 1; omega), List.dropLast_concat]
    have s3 := same_new (o := HO.lst (rows.map V.str)) nR
    have s13 : Same H _ := s1.trans (s2.trans s3)
    have nRS : S ≠ R := ne_of_none upd_same nR
    refine ⟨R, _, rfl, SqL.of upd_same, ?_⟩
    refine for_enumL (xs := rows.map V.str) (fun i σ H' => (∃ x y t : Option V, σ = [some (.str z), some (.int (many : Int)), some (.ref l), some (.ref S), x, y, t]) ∧ Same H H' ∧ H' R = some (.lst (rows.map V.str)) ∧ H' l = some (.lst (rows.map V.str ++ [V.str rest])) ∧ verd many rest (rows.drop i) i = verd many rest rows 0 ∧
      ∃ us, H' S = some (.lst us) ∧ us.length ≤ i ∧ Each (StepAt H') us ((rows.take i).filterMap (goodR many))) ⟨⟨_, _, _, rfl⟩, s13, upd_same, s3 _ _ ((upd_ne nlS).trans upd_same), rfl, [], s3 _ _ upd_same, Nat.le_refl _, .nil⟩ (fun i σ H' q => SqL.of q.2.2.1) ?_ ?_
    · rintro i x T σ H4 hx ⟨⟨v5, v6, v7, rfl⟩, s4, hR, hl, ev, us, hS, lu, eu⟩ nT
      obtain ⟨row, hrow, rfl⟩ := getF hx
      have lti : i < rows.length := (List.getElem?_eq_some_iff.mp hrow).1
      have sT := same_new (o := HO.tup [.int (i : Nat), .str row]) nT
      refine ⟨T, _, rfl, SqT.of upd_same, rfl, _, _, rfl, _, _, rfl, rfl, ?_⟩
      refine ⟨_, rfl, _, rfl, row, many, rfl, shr row (List.mem_of_getElem? hrow), fun r er v H5 s5 sv => ?_, fun er H5 s5 => ?_⟩
      · obtain ⟨av, rfl⟩ : ∃ av, v = .ref av := by
          cases r with
          | told xs => obtain ⟨av, _, e, _⟩ := sv; exact ⟨av, e⟩
          | box w ns xs => obtain ⟨av, _, e, _⟩ := sv; exact ⟨av, e⟩
        refine ⟨_, rfl, rfl, _, rfl, ?_⟩
        have hS5 := s5 _ _ (sT _ _ hS)
        refine iteF ⟨_, rfl, .inl ⟨rfl, _, SqL.of hS5⟩, _, rfl, S, _, _, rfl, rfl, hS5, by omega, ?_⟩
        have tS := tups_upd (ys := us ++ [.ref av]) hS5
        have s45 := s4.trans (sT.trans s5)
        rw [verd_step hrow, show goodR many row = some r from er] at ev
        refine ⟨⟨_, _, _, rfl⟩, same_put s45 nS0, (upd_ne nRS.symm).trans (s5 _ _ (sT _ _ hR)), (upd_ne nlS).trans (s5 _ _ (sT _ _ hl)), ev, _, upd_same, by rw [List.length_append]; show us.length + 1 ≤ _; omega, ?_⟩
        rw [List.take_add_one, hrow, List.filterMap_append]
        have e1 : List.filterMap (goodR many) (some row).toList = [r] := by
          show List.filterMap (goodR many) [row] = [r]
          rw [List.filterMap_cons, show goodR many row = some r from er]
          rfl
        rw [e1]
        exact (eu.mono fun _ _ q => q.moved (Tups.trans (same_tups (sT.trans s5)) tS)).snoc (sv.moved tS)
      · refine ⟨_, rfl, rfl, _, rfl, ?_⟩
        rw [verd_step hrow, show goodR many row = none from er] at ev
        refine iteT ⟨_, rfl, by show 2 ≤ sizeLine; decide, fun q nq => ?_⟩
        exact k2 i ev.symm q _ (s4.trans (sT.trans (s5.trans (same_new nq)))) upd_same
    · rintro σ H4 ⟨⟨v5, v6, v7, rfl⟩, s4, hR, hl, ev, us, hS, lu, eu⟩
      rw [List.length_map, List.take_length] at eu
      rw [List.length_map, List.drop_length] at ev
      have ev : (if rest = "" then none else some rows.length) = verd many rest rows 0 := ev
      refine ⟨_, rfl, 1, rfl, l, _, -1, .str rest, rfl, rfl, SqL.of hl, at_last (by rw [List.getLast?_append]; rfl), rfl, _, rfl, ?_⟩
      by_cases c : rest = ""
      · rw [if_pos c] at ev
        rw [decide_eq_true (show V.str rest = V.str "" from congrArg V.str c)]
        refine iteT ⟨_, rfl, by show 2 ≤ sizeLine; decide, fun q nq => ?_⟩
        have sq := same_new (o := HO.tup [.str "told", .ref S]) nq
        exact k1 ev.symm q S us _ (s4.trans sq) upd_same (sq _ _ hS) (eu.mono fun _ _ z => z.moved (same_tups sq))
      · rw [if_neg c] at ev
        rw [decide_eq_false (show ¬ V.str rest = V.str "" from fun e => c (by injection e))]
        refine iteF ⟨_, rfl, l, _, rfl, .inl (SqL.of hl), _, _, rfl, rfl, by show 2 ≤ sizeLine; decide, fun q nq => ?_⟩
        refine k2 _ ev.symm q _ (s4.trans (same_new nq)) ?_
        rw [upd_same, List.length_append, List.length_map]
        show some (HO.tup [.str "BadText", .int (((rows.length + 1 : Nat) : Int) - 1)]) = _
        rw [show (((rows.length + 1 : Nat) : Int) - 1) = (rows.length : Int) by omega]
end
end VQ
namespace VQ
open PySem PySem.Spec PyProof.Rows L2
/-! ### list(a text) -/
def sgV (c : Nat) : V := .str ⟨#[c]⟩
theorem vals_of : ∀ (cs : List Nat) (us : List Value), us.length = cs.length → (∀ (i : Nat) (u : Value) (c : Nat), us[i]? = some u → cs[i]? = some c → RelV (sgV c) u) → Vals (cs.map sgV) us
  | [], [], _, _ => .nil
  | c :: cs, u :: us, h, k => .cons (k 0 u c rfl rfl) (vals_of cs us (by simpa using h) fun i v d e1 e2 => k (i + 1) v d e1 e2)
  | [], _ :: _, h, _ => by simp at h
  | _ :: _, [], h, _ => by simp at h
theorem call_list_txt {X : Cx} (hc : X.calm = true) : CallR X (.type "list") (fun xs H Q => ∃ z : Str, xs = [.str z] ∧ z.length ≤ sizeLine ∧ ∀ l, H l = none → Q (.ref l) (upd H l (.lst (z.cps.toList.map sgV)))) := by
  intro pins s σ H xs us Q inv r h
  obtain ⟨z, rfl, hz, q⟩ := h
  obtain ⟨u, rfl, rx⟩ := vals1 r
  obtain ⟨t, rfl⟩ := rx
  refine call_list_str (inv.ok.hd hc) z t (fun h' tk acc c kp e it => ?_) hz
  have el : acc.toList.length = z.cps.toList.length := by
    rw [Array.length_toList, Array.length_toList]
    exact it.1
  have vs : Vals (z.cps.toList.map sgV) acc.toList := vals_of _ _ el fun i v d e1 e2 => by
    rw [Array.getElem?_toList] at e1 e2
    have sa := it.2 i v e1
    obtain ⟨c, u, e3, rfl⟩ := sa
    rw [e2] at e3
    cases e3
    exact ⟨u, rfl⟩
  exact ⟨.ref s.heap.objs.size, _, inv.laid (t' := tk) kp (Nat.le_refl _) (show ObjOk X.prog X.w _ h' _ (.lst (z.cps.toList.map sgV)) from ⟨by rw [List.length_map, Array.length_toList]; exact hz, acc.toList, c, vs, by rw [e, Array.toArray_toList]⟩), rfl, q _ (inv.hok.fresh (Nat.le_refl _))⟩
end VQ
namespace VQ
open PySem L2 LamX
/-! ### steps drawn and written -/
abbrev sLawAnyBox : Stmt := top 37
abbrev nLawAnyBox : List Str := ["_law_bag_here", "_law_many", "_law_k"]
theorem scLawAnyBox : FnScope nLawAnyBox ["_law_bag_here", "_law_many"] (defScope sLawAnyBox) := ⟨rfl, rfl, rfl, by decide +kernel, rfl, by decide +kernel, by decide +kernel⟩
abbrev sLawAnySteps : Stmt := top 38
abbrev nLawAnySteps : List Str := ["_law_bag_here", "_law_many", "_law_most", "_law_found", "_law_k", "_law_number", "_law_word"]
theorem scLawAnySteps : FnScope nLawAnySteps ["_law_bag_here", "_law_many", "_law_most"] (defScope sLawAnySteps) := ⟨rfl, rfl, rfl, by decide +kernel, rfl, by decide +kernel, by decide +kernel⟩
abbrev sLawStepText : Stmt := top 39
abbrev nLawStepText : List Str := ["_law_step", "_law_box", "_law_worth_here", "_law_one", "_law_number"]
theorem scLawStepText : FnScope nLawStepText ["_law_step"] (defScope sLawStepText) := ⟨rfl, rfl, rfl, by decide +kernel, rfl, by decide +kernel, by decide +kernel⟩
abbrev sLawPaperText : Stmt := top 40
abbrev nLawPaperText : List Str := ["_law_paper", "_law_step"]
theorem scLawPaperText : FnScope nLawPaperText ["_law_paper"] (defScope sLawPaperText) := ⟨rfl, rfl, rfl, by decide +kernel, rfl, by decide +kernel, by decide +kernel⟩
abbrev sLawBentRows : Stmt := top 45
abbrev nLawBentRows : List Str := ["_law_bag_here", "_law_text", "_law_at", "_law_sign", "_law_way"]
theorem scLawBentRows : FnScope nLawBentRows ["_law_bag_here", "_law_text"] (defScope sLawBentRows) := ⟨rfl, rfl, rfl, by decide +kernel, rfl, by decide +kernel, by decide +kernel⟩
theorem join_short (y : Str) : ∀ ps : List Str, (Txt.join y ps).length ≤ (ps.map (·.length)).sum + ps.length * y.length := by
  have key : ∀ (a : List Nat) (ls : List (List Nat)), (TL.joinL a ls).length ≤ (ls.map List.length).sum + ls.length * a.length := by
    intro a ls
    induction ls with
    | nil => exact Nat.zero_le _
    | cons p r ih =>
      cases r with
      | nil =>
        show p.length ≤ _
        simp
      | cons q r =>
        show (p ++ (a ++ TL.joinL a (q :: r))).length ≤ _
        rw [List.length_append, List.length_append, List.map_cons, List.sum_cons, List.length_cons, Nat.add_mul]
        omega
  intro ps
  have e : (Txt.join y ps).length = (TL.tl (Txt.join y ps)).length := by simp [TL.tl, PySem.Str.length]
  rw [e, TL.join_eq, TL.tl_join]
  refine Nat.le_trans (key _ _) ?_
  rw [List.map_map, List.length_map]
  refine Nat.le_of_eq (congr (congrArg HAdd.hAdd (congrArg List.sum (List.map_congr_left fun z _ => ?_))) (congrArg (_ * ·) ?_))
  · simp [TL.tl, PySem.Str.length]
  · simp [TL.tl, PySem.Str.length]
/-- a step as the law draws it -/
def Drawn (H : Hp) (v : V) : Prop := ∃ a p xs, v = .ref a ∧ H p = some (.tup xs) ∧ xs.length ≤ 5 ∧ ((H a = some (.tup [.str "told", .ref p]) ∧ ∀ x ∈ xs, IsW x) ∨
  ∃ (w : Str) (ns : List V), H a = some (.tup (.str w :: (ns ++ [.ref p]))) ∧ w ≠ "told" ∧ w.length ≤ 6 ∧ ns.length ≤ 2 ∧ (∀ n ∈ ns, ∃ k : Nat, n = numV k ∧ k < 10000) ∧ ∀ x ∈ xs, IsBeg x)
theorem Drawn.moved {H H' : Hp} (s : Tups H H') {v : V} (h : Drawn H v) : Drawn H' v := by
  obtain ⟨a, p, xs, e, hp, l, q⟩ := h
  refine ⟨a, p, xs, e, s _ _ hp, l, ?_⟩
  rcases q with ⟨q, r⟩ | ⟨w, ns, q, r⟩
  · exact .inl ⟨s _ _ q, r⟩
  · exact .inr ⟨w, ns, s _ _ q, r⟩
theorem kp_tups {b : Addr} {H H' : Hp} (k : Keep b H H') (B : Bag H b) : Tups H H' := fun _ _ h => k.tup B h
section
variable {P : Program} {w : World} {K : PySem.W.Frag} {mg : Str → Option Value} {base : Heap}
theorem has_anybox (b : Blt mg) (hBe : Has P w K mg base CX0 4 "_law_begin" sBegin ["_law_bag_here"] spBegin) (a : AtE K mg "_law_any_box" sLawAnyBox ["_law_bag_here", "_law_many"]) : Has P w K mg base CX0 5 "_law_any_box" sLawAnyBox ["_law_bag_here", "_law_many"] (spTupDraw IsBeg) := by
  obtain ⟨f, fd, a⟩ := a
  obtain ⟨fBe, fdBe, aBe, GBe⟩ := hBe
  refine ⟨f, fd, a, a.fn.ok scLawAnyBox (fun vs H Q E h => ?_) (fun cdv A outer s H vs Q E hr4 h => ?_)⟩
  · obtain ⟨bg, n, rfl, _⟩ := h
    rfl
  · obtain ⟨bg, n, rfl, B, hn, k⟩ := h
    refine ⟨_,
    (pss_one (ps_ret (pe_callTy call_tuple_of (by rfl) b.tuple (by decide +kernel) (pa_cons (pe_lc (own := [("_law_k", 2)]) (g := (gName 2)) (tt := tYes) (te := (tCall spBegin [] E0 (tCons (tVar 0) tNil))) rfl scLawAnyBox.nd (pi_range1 rfl b.range (pa_cons (pv 1) pa_nil)) (blkOk_by (N := nLawAnyBox) (sc := defScope sLawAnyBox) (by decide +kernel)) (fun _ _ _ _ _ => (pg_name (i := 2) scLawAnyBox.nd rfl (.inl rfl))) (fun _ _ _ _ _ => pts_nil) (fun _ _ _ _ _ => (pe_call GBe hr4 rfl aBe.gl aBe.fn.kp aBe.bd .nil pass0 (pa_cons (pv 0) pa_nil)))) pa_nil)))), ?_⟩
    refine ⟨_, rfl, n, rfl, by omega, by omega, fun D hD => ?_⟩
    obtain ⟨B1, K1⟩ := Bag.put (o := .lst []) B hD (Keep.refl bg H) B
    refine lc_range (lo := 0) (n := n) (fun i H' => Bag H' bg ∧ Keep bg H H' ∧ ∃ xs : List V, xs.length = i ∧ (∀ x ∈ xs, IsBeg x) ∧ H' D = some (.lst xs)) ⟨B1, K1, [], rfl, (fun x m => by cases m), upd_same⟩ ?_ ?_
    · rintro i H2 hi ⟨B2, K2, xs, el, ex, h2⟩
      refine ⟨rfl, yes_turn ?_⟩
      refine ⟨_, rfl, bg, rfl, B2, fun z H3 hz B3 K3 => ?_⟩
      have Db : D ≠ bg := B.ne hD
      obtain ⟨B4, K4⟩ := Bag.put (o := .lst (xs ++ [.str z])) B hD (K2.trans K3) B3
      refine ⟨_, K3.1 _ _ Db h2, by rw [el]; exact Nat.lt_of_lt_of_le (show i < 6 by omega) (by decide), B4, K4, _, by rw [List.length_append, el]; rfl, fun x m => ?_, upd_same⟩
      rcases List.mem_append.mp m with m | m
      · exact ex x m
      · exact ⟨z, List.mem_singleton.mp m, hz⟩
    · rintro H2 ⟨B2, K2, xs, el, ex, h2⟩
      refine ⟨D, xs, rfl, .inl ⟨SqL.of h2, fun l hl => ?_⟩⟩
      have hl0 : H l = none := K2.free B B2 hl
      obtain ⟨B3, K3⟩ := Bag.put (o := .tup xs) B hl0 K2 B2
      exact k l xs _ el ex hl0 upd_same B3 K3
def spAnySteps : Sp := fun vs H Q _ => ∃ (bg : Addr) (n : Nat), vs = [.ref bg, .int (n : Int), .int 8] ∧ Bag H bg ∧ n ≤ 5 ∧ ∀ (l : Addr) (us : List V) (H' : Hp), Bag H' bg → Keep bg H H' → H' l = some (.lst us) → us.length ≤ 8 → (∀ u ∈ us, Drawn H' u) → Q (.ref l) H'
theorem has_anysteps (b : Blt mg) (hP : Has P w K mg base CX0 1 "_law_pull" sPull ["_law_bag_here", "_law_size"] spPull) (hO : Has P w K mg base CX0 2 "_law_of" sOf ["_law_bag_here", "_law_some"] (spOf K)) (hPt : Has P w K mg base CX0 4 "_law_point" sPoint ["_law_bag_here", "_law_many"] (spTupDraw IsW)) (hAb : Has P w K mg base CX0 5 "_law_any_box" sLawAnyBox ["_law_bag_here", "_law_many"] (spTupDraw IsBeg))
    (a : AtE K mg "_law_any_steps" sLawAnySteps ["_law_bag_here", "_law_many", "_law_most"]) : Has P w K mg base CX0 6 "_law_any_steps" sLawAnySteps ["_law_bag_here", "_law_many", "_law_most"] spAnySteps := by
  obtain ⟨f, fd, a⟩ := a
  obtain ⟨fP, fdP, aP, GP⟩ := hP
  obtain ⟨fO, fdO, aO, GO⟩ := hO
  obtain ⟨fPt, fdPt, aPt, GPt⟩ := hPt
  obtain ⟨fAb, fdAb, aAb, GAb⟩ := hAb
  refine ⟨f, fd, a, a.fn.ok scLawAnySteps (fun vs H Q E h => ?_) (fun cdv A outer s H vs Q E hr5 h => ?_)⟩
  · obtain ⟨bg, n, rfl, _⟩ := h
    rfl
  · obtain ⟨bg, n, rfl, B, hn, k⟩ := h
    have hr1 : Room 1 _ := hr5.mono (by decide)
    have hr2 : Room 2 _ := hr5.mono (by decide)
    have hr4 : Room 4 _ := hr5.mono (by decide)
    refine ⟨_,
    (pss_cons (ps_set (i := 3) scLawAnySteps.nd rfl (.inl rfl) (pe_lst pa_nil))
    (pss_cons (ps_for PassesOwn.never rfl (pi_range1 rfl b.range (pa_cons (pe_call GP hr1 rfl aP.gl aP.fn.kp aP.bd .nil pass0 (pa_cons (pv 0) (pa_cons (pe_op op_add (pv 2) pe_int) pa_nil))) pa_nil)) (pg_name (i := 4) scLawAnySteps.nd rfl (.inl rfl))
      (pss_cons (ps_set (i := 5) scLawAnySteps.nd rfl (.inl rfl) (pe_call GO hr2 rfl aO.gl aO.fn.kp aO.bd .nil pass0 (pa_cons (pv 0) (pa_cons (pe_lst (pa_cons pe_int (pa_cons pe_int (pa_cons (pe_call GP hr1 rfl aP.gl aP.fn.kp aP.bd .nil pass0 (pa_cons (pv 0) (pa_cons pe_int pa_nil))) (pa_cons (pe_call GP hr1 rfl aP.gl aP.fn.kp aP.bd .nil pass0 (pa_cons (pv 0) (pa_cons pe_int pa_nil))) (pa_cons pe_int pa_nil)))))) pa_nil))))
      (pss_cons (ps_set (i := 6) scLawAnySteps.nd rfl (.inl rfl) (pe_call GO hr2 rfl aO.gl aO.fn.kp aO.bd .nil pass0 (pa_cons (pv 0) (pa_cons (pe_lst (pa_cons pe_str (pa_cons pe_str (pa_cons pe_str (pa_cons pe_str pa_nil))))) pa_nil))))
      (pss_one (ps_if (pt_cmpR op_eq (pv 6) pe_str (nomark _))
        (pss_one (ps_expr (pe_bm PySem.F.plainAttrs_list PySem.F.slot_list_append PySem.F.type_list_append mt_append (pv 3) (pa_cons (pe_tup (pa_cons (pv 6) (pa_cons (pe_call GPt hr4 rfl aPt.gl aPt.fn.kp aPt.bd .nil pass0 (pa_cons (pv 0) (pa_cons (pv 1) pa_nil))) pa_nil))) pa_nil))))
        (pss_one (ps_if (pt_cmpR op_eq (pv 6) pe_str (nomark _))
          (pss_one (ps_expr (pe_bm PySem.F.plainAttrs_list PySem.F.slot_list_append PySem.F.type_list_append mt_append (pv 3) (pa_cons (pe_tup (pa_cons (pv 6) (pa_cons (pv 5) (pa_cons (pe_call GP hr1 rfl aP.gl aP.fn.kp aP.bd .nil pass0 (pa_cons (pv 0) (pa_cons pe_int pa_nil))) (pa_cons (pe_call GAb hr5 rfl aAb.gl aAb.fn.kp aAb.bd .nil pass0 (pa_cons (pv 0) (pa_cons (pv 1) pa_nil))) pa_nil))))) pa_nil))))
          (pss_one (ps_expr (pe_bm PySem.F.plainAttrs_list PySem.F.slot_list_append PySem.F.type_list_append mt_append (pv 3) (pa_cons (pe_tup (pa_cons (pv 6) (pa_cons (pv 5) (pa_cons (pe_call GAb hr5 rfl aAb.gl aAb.fn.kp aAb.bd .nil pass0 (pa_cons (pv 0) (pa_cons (pv 1) pa_nil))) pa_nil)))) pa_nil)))))))))))
    (pss_one (ps_ret (pv 3))))), ?_⟩
    refine ⟨by show 0 ≤ sizeLine; decide, fun S nS => ?_⟩
    obtain ⟨B1, K1⟩ := Bag.put (o := .lst []) B nS (Keep.refl bg H) B
    have Sb : S ≠ bg := B.ne nS
    refine ⟨_, rfl, _, rfl, 8, 1, rfl, rfl, bg, 9, rfl, B1, by decide, by decide, fun d H2 d0 d9 B2 K2 => ?_⟩
    obtain ⟨m, rfl⟩ := Int.eq_ofNat_of_zero_le d0
    refine ⟨_, rfl, by omega, by omega, ?_⟩
    refine for_range (lo := 0) (n := m) (fun i σ H' => (∃ x y z : Option V, σ = [some (.ref bg), some (.int (n : Int)), some (.int 8), some (.ref S), x, y, z]) ∧ Bag H' bg ∧ Keep bg H H' ∧ ∃ us, H' S = some (.lst us) ∧ us.length ≤ i ∧ ∀ u ∈ us, Drawn H' u) ⟨⟨_, _, _, rfl⟩, B2, K1.trans K2, [], K2.1 _ _ Sb upd_same, Nat.le_refl _, fun u m => by cases m⟩ ?_ ?_
    · rintro i σ H3 hi ⟨⟨v4, v5, v6, rfl⟩, B3, K3, us, hS, lu, du⟩
      refine ⟨_, rfl, _, rfl, bg, 10, rfl, B3, by decide, by decide, fun e1 H4 e10 e11 B4 K4 => ?_⟩
      refine ⟨_, rfl, bg, 10000, rfl, B4, by decide, by decide, fun e2 H5 e20 e21 B5 K5 => ?_⟩
      refine ⟨by show 5 ≤ sizeLine; decide, fun q nq => ?_⟩
      have k35 : Keep bg H H5 := K3.trans (K4.trans K5)
      obtain ⟨B6, K6⟩ := Bag.put (o := .lst [.int 0, .int 1, .int e1, .int e2, .int 9999]) B (k35.free B B5 nq) k35 B5
      refine ⟨bg, q, _, rfl, B6, B5.ne nq, SqL.of upd_same, by show 1 ≤ 5; decide, by show 5 < 1000; decide, fun v H7 mv B7 K7 => ?_⟩
      obtain ⟨num, rfl, hnum⟩ : ∃ num : Nat, v = numV num ∧ num < 10000 := by
        obtain ⟨m1, rfl⟩ := Int.eq_ofNat_of_zero_le e10
        obtain ⟨m2, rfl⟩ := Int.eq_ofNat_of_zero_le e20
        rcases List.mem_cons.mp mv with rfl | mv
        · exact ⟨0, rfl, by decide⟩
        rcases List.mem_cons.mp mv with rfl | mv
        · exact ⟨1, rfl, by decide⟩
        rcases List.mem_cons.mp mv with rfl | mv
        · exact ⟨m1, rfl, by omega⟩
        rcases List.mem_cons.mp mv with rfl | mv
        · exact ⟨m2, rfl, by omega⟩
        · rw [List.mem_singleton.mp mv]
          exact ⟨9999, rfl, by decide⟩
      have k37 : Keep bg H H7 := K6.trans K7
      refine ⟨_, rfl, by show 4 ≤ sizeLine; decide, fun q2 nq2 => ?_⟩
      obtain ⟨B8, K8⟩ := Bag.put (o := .lst [.str "empty", .str "less", .str "told", .str "joined"]) B (k37.free B B7 nq2) k37 B7
      refine ⟨bg, q2, _, rfl, B8, B7.ne nq2, SqL.of upd_same, by show 1 ≤ 4; decide, by show 4 < 1000; decide, fun v H9 mv B9 K9 => ?_⟩
      have k39 : Keep bg H H9 := K8.trans K9
      obtain ⟨wd, rfl, hwd⟩ : ∃ wd : Str, v = .str wd ∧ wd.length ≤ 6 := by
        rcases List.mem_cons.mp mv with rfl | mv
        · exact ⟨_, rfl, by decide +kernel⟩
        rcases List.mem_cons.mp mv with rfl | mv
        · exact ⟨_, rfl, by decide +kernel⟩
        rcases List.mem_cons.mp mv with rfl | mv
        · exact ⟨_, rfl, by decide +kernel⟩
        · rw [List.mem_singleton.mp mv]
          exact ⟨_, rfl, by decide +kernel⟩
      -- what stood there still stands
      have hS9 : H9 S = some (.lst us) := by
        have h4 := K5.1 _ _ Sb (K4.1 _ _ Sb hS)
        have h6 := (same_new (o := HO.lst [.int 0, .int 1, .int e1, .int e2, .int 9999]) nq) _ _ h4
        exact K9.1 _ _ Sb ((same_new (o := HO.lst [.str "empty", .str "less", .str "told", .str "joined"]) nq2) _ _ (K7.1 _ _ Sb h6))
      have du9 : ∀ u ∈ us, Drawn H9 u := fun u mu => by
        have d4 := (du u mu).moved (Tups.trans (kp_tups K4 B3) (kp_tups K5 B4))
        have d7 := (d4.moved (same_tups (same_new (o := HO.lst [.int 0, .int 1, .int e1, .int e2, .int 9999]) nq))).moved (kp_tups K7 B6)
        exact (d7.moved (same_tups (same_new (o := HO.lst [.str "empty", .str "less", .str "told", .str "joined"]) nq2))).moved (kp_tups K9 B8)
      -- a new step behind the others
      have fin : ∀ (T : Addr) (xs : List V) (Ha : Hp), Ha T = none → Bag Ha bg → Keep bg H9 Ha → Drawn (upd Ha T (.tup xs)) (.ref T) → ∀ {x y z : Option V}, ∃ (S' : Addr) (ys : List V) (v : V), V.ref S = .ref S' ∧ [V.ref T] = [v] ∧ upd Ha T (.tup xs) S' = some (.lst ys) ∧ ys.length < sizeLine ∧
          ((∃ x' y' z' : Option V, [some (V.ref bg), some (.int (n : Int)), some (.int 8), some (.ref S), x, y, z] = [some (V.ref bg), some (.int (n : Int)), some (.int 8), some (.ref S), x', y', z']) ∧ Bag (upd (upd Ha T (.tup xs)) S' (.lst (ys ++ [v]))) bg ∧ Keep bg H (upd (upd Ha T (.tup xs)) S' (.lst (ys ++ [v]))) ∧ ∃ us', upd (upd Ha T (.tup xs)) S' (.lst (ys ++ [v])) S = some (.lst us') ∧ us'.length ≤ i + 1 ∧ ∀ u ∈ us', Drawn (upd (upd Ha T (.tup xs)) S' (.lst (ys ++ [v]))) u) := by
        intro T xs Ha nT Ba Ka dT x y z
        have kH := k39.trans Ka
        have hSa := Ka.1 _ _ Sb hS9
        have sT := same_new (o := HO.tup xs) nT
        have nT0 := kH.free B Ba nT
        obtain ⟨Bb, Kb⟩ := Bag.put (o := .tup xs) B nT0 kH Ba
        obtain ⟨Bc, Kc⟩ := Bag.put (o := .lst (us ++ [.ref T])) B nS Kb Bb
        have tS := tups_upd (ys := us ++ [.ref T]) (sT _ _ hSa)
        refine ⟨S, us, .ref T, rfl, rfl, sT _ _ hSa, Nat.lt_of_lt_of_le (show us.length < 1000 by omega) (by decide), ⟨_, _, _, rfl⟩, Bc, Kc, _, upd_same, by rw [List.length_append]; show us.length + 1 ≤ _; omega, fun u mu => ?_⟩
        rcases List.mem_append.mp mu with mu | mu
        · exact ((du9 u mu).moved (Tups.trans (kp_tups Ka B9) (same_tups sT))).moved tS
        · rw [List.mem_singleton.mp mu]
          exact dT.moved tS
      have sq9 : ∀ (T : Addr) (xs : List V) (Ha : Hp), Ha T = none → Keep bg H9 Ha → SqL K (upd Ha T (.tup xs)) S us := fun T xs Ha nT Ka => SqL.of (same_new nT _ _ (Ka.1 _ _ Sb hS9))
      refine ⟨_, rfl, rfl, _, rfl, ?_⟩
      by_cases c1 : wd = "told"
      · rw [decide_eq_true (show V.str wd = V.str "told" from congrArg V.str c1)]
        subst c1
        refine iteT ⟨_, rfl, .inl ⟨rfl, _, SqL.of hS9⟩, _, rfl, _, rfl, _, rfl, bg, n, rfl, B9, hn, fun p xs Ha el ex np hp Ba Ka => ⟨by show 2 ≤ sizeLine; decide, fun T nT => ?_⟩⟩
        exact fin T _ Ha nT Ba Ka ⟨T, p, xs, rfl, same_new nT _ _ hp, by omega, .inl ⟨upd_same, ex⟩⟩
      rw [decide_eq_false (show ¬ V.str wd = V.str "told" from fun e => c1 (by injection e))]
      refine iteF ⟨_, rfl, rfl, _, rfl, ?_⟩
      by_cases c2 : wd = "joined"
      · rw [decide_eq_true (show V.str wd = V.str "joined" from congrArg V.str c2)]
        refine iteT ⟨_, rfl, .inl ⟨rfl, _, SqL.of hS9⟩, _, rfl, _, rfl, _, rfl, bg, 10000, rfl, B9, by decide, by decide, fun e3 Hx e30 e31 Bx Kx => ?_⟩
        obtain ⟨m3, rfl⟩ := Int.eq_ofNat_of_zero_le e30
        refine ⟨_, rfl, _, rfl, bg, n, rfl, Bx, hn, fun p xs Ha el ex np hp Ba Ka => ⟨by show 4 ≤ sizeLine; decide, fun T nT => ?_⟩⟩
        exact fin T _ Ha nT Ba (Kx.trans Ka) ⟨T, p, xs, rfl, same_new nT _ _ hp, by omega, .inr ⟨wd, [numV num, numV m3], upd_same, c1, hwd, by show 2 ≤ 2; decide, fun x mx => by
          rcases List.mem_cons.mp mx with rfl | mx
          · exact ⟨num, rfl, hnum⟩
          · exact ⟨m3, List.mem_singleton.mp mx, by omega⟩, ex⟩⟩
      · rw [decide_eq_false (show ¬ V.str wd = V.str "joined" from fun e => c2 (by injection e))]
        refine iteF ⟨_, rfl, .inl ⟨rfl, _, SqL.of hS9⟩, _, rfl, _, rfl, _, rfl, _, rfl, bg, n, rfl, B9, hn, fun p xs Ha el ex np hp Ba Ka => ⟨by show 3 ≤ sizeLine; decide, fun T nT => ?_⟩⟩
        exact fin T _ Ha nT Ba Ka ⟨T, p, xs, rfl, same_new nT _ _ hp, by omega, .inr ⟨wd, [numV num], upd_same, c1, hwd, by show 1 ≤ 2; decide, fun x mx => ⟨num, List.mem_singleton.mp mx, hnum⟩, ex⟩⟩
    · rintro σ H3 ⟨⟨v4, v5, v6, rfl⟩, B3, K3, us, hS, lu, du⟩
      exact ⟨_, rfl, k S us H3 B3 K3 hS (by omega) du⟩
end
end VQ
namespace VQ
open PySem L2 LamX
-- strI7
abbrev rStrJ : List V → Hp → VK → Prop := fun xs H Q => ∃ i, xs = [.int i] ∧ i.natAbs.log2 < 1920 ∧ Q (.str (toString i)) H
def strJ (v : V) : Str := match v with
  | .int i => toString i
  | _ => ""
def starJ (v : V) : Str := match v with
  | .str z => if z.length = 0 then "*" else z
  | _ => ""
theorem small_log {k : Nat} (h : k < 10000) : ((k : Nat) : Int).natAbs.log2 < 1920 := by
  rw [Int.natAbs_natCast]
  rcases Nat.eq_zero_or_pos k with e | e
  · rw [e]
    decide
  · exact (Nat.log2_lt (by omega)).mpr (Nat.lt_of_lt_of_le (show k < 2 ^ 14 by omega) (Nat.pow_le_pow_right (by decide) (by decide)))
theorem strJ_len {k : Nat} (h : k < 10000) : (strJ (numV k)).length ≤ 4 := PyProof.Rows.toString_length_le (v := (k : Int)) (k := 4) (by omega) (by decide) (by omega)
theorem sum_le {xs : List Str} {b : Nat} (h : ∀ z ∈ xs, z.length ≤ b) : (xs.map (·.length)).sum ≤ xs.length * b := by
  induction xs with
  | nil => exact Nat.zero_le _
  | cons x xs ih =>
    rw [List.map_cons, List.sum_cons, List.length_cons, Nat.add_mul, Nat.one_mul]
    have h1 := h x List.mem_cons_self
    have h2 := ih fun z m => h z (List.mem_cons_of_mem _ m)
    omega
/-- a join of few short texts -/
theorem join_few {y : Str} {xs : List Str} {b n : Nat} (h : ∀ z ∈ xs, z.length ≤ b) (hn : xs.length ≤ n) : (xs.map (·.length)).sum + xs.length * y.length ≤ n * b + n * y.length ∧ (Txt.join y xs).length ≤ n * b + n * y.length := by
  have h1 := sum_le h
  have h2 : xs.length * b ≤ n * b := Nat.mul_le_mul_right _ hn
  have h3 : xs.length * y.length ≤ n * y.length := Nat.mul_le_mul_right _ hn
  have h4 := join_short y xs
  exact ⟨by omega, by omega⟩
section
variable {P : Program} {w : World} {K : PySem.W.Frag} {mg : Str → Option Value} {base : Heap}
def spStepText : Sp := fun vs H Q _ => ∃ v : V, vs = [v] ∧ Drawn H v ∧ ∀ (z : Str) (H' : Hp), z.length ≤ 80 → Same H H' → Q (.str z) H'
theorem has_steptext (b : Blt mg) (a : AtE K mg "_law_step_text" sLawStepText ["_law_step"]) : Has P w K mg base CX0 1 "_law_step_text" sLawStepText ["_law_step"] spStepText := by
  obtain ⟨f, fd, a⟩ := a
  refine ⟨f, fd, a, a.fn.ok scLawStepText (fun vs H Q E h => ?_) (fun cdv A outer s H vs Q E hr h => ?_)⟩
  · obtain ⟨v, rfl, _⟩ := h
    rfl
  · obtain ⟨v, rfl, ⟨ad, p, xs, rfl, hp, l5, alt⟩, k⟩ := h
    refine ⟨_,
    (pss_cons (ps_if (pt_cmpR op_eq (pe_ix ix_tup (pv 0) pe_int fun _ _ => rfl) pe_str (nomark _))
      (pss_one (ps_ret (pe_join pe_str (pe_op op_cat (pe_lst (pa_cons pe_str pa_nil)) (pe_lc (own := [("_law_worth_here", 2)]) (g := (gName 2)) (tt := tYes) (te := (tCB rStrJ (tCons (tVar 2) tNil))) rfl scLawStepText.nd (pi_tup (pe_ix ix_tup (pv 0) pe_int fun _ _ => rfl)) (blkOk_by (N := nLawStepText) (sc := defScope sLawStepText) (by decide +kernel)) (fun _ _ _ _ _ => (pg_name (i := 2) scLawStepText.nd rfl (.inl rfl))) (fun _ _ _ _ _ => pts_nil) (fun _ _ _ _ _ => (pe_callTy call_str_int (by rfl) b.str (by decide +kernel) (pa_cons (pv 2) pa_nil))))))))
      pss_nil)
    (pss_cons (ps_set (i := 1) scLawStepText.nd rfl (.inl rfl) (pe_join pe_str (pe_lc (own := [("_law_one", 3)]) (g := (gName 3)) (tt := tYes) (te := (tOrT K (tVar 3) (tC (.str "*")))) rfl scLawStepText.nd (pi_tup (pe_ix ix_tup (pv 0) (pe_un un_neg pe_int) fun _ _ => rfl)) (blkOk_by (N := nLawStepText) (sc := defScope sLawStepText) (by decide +kernel)) (fun _ _ _ _ _ => (pg_name (i := 3) scLawStepText.nd rfl (.inl rfl))) (fun _ _ _ _ _ => pts_nil) (fun _ _ _ _ _ => (pe_orT (pv 3) (pe_one pe_str))))))
    (pss_one (ps_ret (pe_join pe_str (pe_op op_cat (pe_op op_cat (pe_lst (pa_cons (pe_ix ix_tup (pv 0) pe_int fun _ _ => rfl) pa_nil)) (pe_lc (own := [("_law_number", 4)]) (g := (gName 4)) (tt := tYes) (te := (tCB rStrJ (tCons (tVar 4) tNil))) rfl scLawStepText.nd (pi_tup (pe_slice sl_tupA (pv 0) (po_some pe_int) (po_some (pe_un un_neg pe_int)))) (blkOk_by (N := nLawStepText) (sc := defScope sLawStepText) (by decide +kernel)) (fun _ _ _ _ _ => (pg_name (i := 4) scLawStepText.nd rfl (.inl rfl))) (fun _ _ _ _ _ => pts_nil) (fun _ _ _ _ _ => (pe_callTy call_str_int (by rfl) b.str (by decide +kernel) (pa_cons (pv 4) pa_nil))))) (pe_lst (pa_cons (pv 1) pa_nil)))))))), ?_⟩
    have big : (1000 : Nat) ≤ sizeLine := by decide
    rcases alt with ⟨ha, hx⟩ | ⟨wd, ns, ha, nt, w6, n2, hn, hx⟩
    · refine ⟨_, rfl, ad, _, 0, _, rfl, rfl, SqT.of ha, atI_nat (j := 0) rfl, rfl, _, rfl, iteT ?_⟩
      refine ⟨⟨_, rfl⟩, by show 1 ≤ sizeLine; decide, fun l1 n1 => ?_⟩
      have s1 := same_new (o := HO.lst [.str "told"]) n1
      refine ⟨_, rfl, ad, _, 1, _, rfl, rfl, SqT.of (s1 _ _ ha), atI_nat (j := 1) rfl, p, rfl, ⟨_, SqT.of (s1 _ _ hp)⟩, fun D nD => ?_⟩
      refine lc_tupV (xs := xs) (fun v => .str (strJ v)) nD (SqT.of (s1 _ _ hp)) (by omega) ?_ ?_
      · intro i x H2 hx2 s2 c1 c2 kk
        obtain ⟨n, rfl, ln⟩ := hx x (List.mem_of_getElem? hx2)
        exact ⟨rfl, yes_turn ⟨_, rfl, (n : Int), rfl, small_log (by omega), kk _ (Same.refl _)⟩⟩
      · intro H2 s2 hd
        refine ⟨l1, D, _, _, rfl, rfl, s2 _ _ upd_same, hd, by rw [List.length_map]; show 1 + _ ≤ _; omega, fun q nq => ?_⟩
        have s3 := same_new (o := HO.lst ([.str "told"] ++ xs.map fun v => .str (strJ v))) nq
        have ys : ([.str "told"] ++ xs.map fun v => .str (strJ v) : List V) = (("told" : Str) :: xs.map strJ).map V.str := by
          rw [List.map_cons, List.map_map]
          rfl
        obtain ⟨j1, j2⟩ := join_few (y := " ") (xs := "told" :: xs.map strJ) (b := 6) (n := 6) (fun z m => by
          rcases List.mem_cons.mp m with rfl | m
          · decide +kernel
          · obtain ⟨v, mv, rfl⟩ := List.mem_map.mp m
            obtain ⟨n, rfl, ln⟩ := hx v mv
            exact Nat.le_trans (strJ_len (k := n) (by omega)) (by decide)) (by rw [List.length_cons, List.length_map]; omega)
        have y1 : (" " : Str).length = 1 := by decide +kernel
        rw [y1] at j1 j2
        refine ⟨" ", q, "told" :: xs.map strJ, rfl, rfl, .inl (SqL.of (by rw [upd_same, ys])), by rw [y1]; omega, k _ _ (by omega) (s1.trans (s2.trans s3))⟩
    · refine ⟨_, rfl, ad, _, 0, _, rfl, rfl, SqT.of ha, atI_nat (j := 0) rfl, rfl, _, rfl, ?_⟩
      rw [decide_eq_false (show ¬ V.str wd = V.str "told" from fun e => nt (by injection e))]
      refine iteF ⟨⟨_, rfl⟩, _, rfl, 1, rfl, ad, _, -1, _, rfl, rfl, SqT.of ha, at_last (x := V.ref p) (by rw [List.getLast?_cons, List.getLast?_append]; rfl), p, rfl, ⟨_, SqT.of hp⟩, fun D nD => ?_⟩
      refine lc_tupV (xs := xs) (fun v => .str (starJ v)) nD (SqT.of hp) (by omega) ?_ ?_
      · intro i x H2 hx2 s2 c1 c2 kk
        obtain ⟨z, rfl, mz⟩ := hx x (List.mem_of_getElem? hx2)
        have lz := begs_len z mz
        have kk := kk _ (Same.refl _)
        refine ⟨rfl, yes_turn ⟨_, rfl, _, ⟨by omega, rfl⟩, ?_⟩⟩
        have es : starJ (.str z) = if z.length = 0 then ("*" : Str) else z := rfl
        rw [es] at kk
        by_cases c0 : z.length = 0
        · rw [show (((z.length : Nat) : Int) != 0) = false by rw [c0]; rfl]
          rw [if_pos c0] at kk
          exact iteF kk
        · rw [show (((z.length : Nat) : Int) != 0) = true by simp; omega]
          rw [if_neg c0] at kk
          exact iteT kk
      · intro H2 s2 hd
        have ys : (xs.map fun v => V.str (starJ v)) = (xs.map starJ).map V.str := by rw [List.map_map]; rfl
        obtain ⟨j1, j2⟩ := join_few (y := ",") (xs := xs.map starJ) (b := 5) (n := 5) (fun z m => by
          obtain ⟨v, mv, rfl⟩ := List.mem_map.mp m
          obtain ⟨z, rfl, mz⟩ := hx v mv
          have es : starJ (.str z) = if z.length = 0 then ("*" : Str) else z := rfl
          rw [es]
          by_cases c0 : z.length = 0
          · rw [if_pos c0]
            decide +kernel
          · rw [if_neg c0]
            exact begs_len z mz) (by rw [List.length_map]; omega)
        have y1 : ("," : Str).length = 1 := by decide +kernel
        rw [y1] at j1 j2
        refine ⟨",", D, xs.map starJ, rfl, rfl, .inl (SqL.of (by rw [hd, ys])), by rw [y1]; omega, ?_⟩
        generalize Txt.join "," (xs.map starJ) = bx at j2
        have ha2 := s2 _ _ ha
        refine ⟨⟨_, rfl⟩, _, rfl, ad, _, 0, _, rfl, rfl, SqT.of ha2, atI_nat (j := 0) rfl, by show 1 ≤ sizeLine; decide, fun l1 n1 => ?_⟩
        have s3 := same_new (o := HO.lst [.str wd]) n1
        refine ⟨_, rfl, 1, rfl, 1, rfl, _, rfl, rd_cut (s3 _ _ ha2) fun q H4 s4 hq => ?_⟩
        rw [cut_mid _ _ (by rw [List.length_append]; show 1 ≤ _ + 1; omega), List.dropLast_concat] at hq
        refine ⟨q, rfl, ⟨_, SqT.of hq⟩, fun D2 nD2 => ?_⟩
        refine lc_tupV (xs := ns) (fun v => .str (strJ v)) nD2 (SqT.of hq) (by omega) ?_ ?_
        · intro i x H5 hx2 s5 c1 c2 kk
          obtain ⟨n, rfl, ln⟩ := hn x (List.mem_of_getElem? hx2)
          exact ⟨rfl, yes_turn ⟨_, rfl, (n : Int), rfl, small_log (by omega), kk _ (Same.refl _)⟩⟩
        · intro H5 s5 hd5
          refine ⟨l1, D2, _, _, rfl, rfl, s5 _ _ (s4 _ _ upd_same), hd5, by rw [List.length_map]; show 1 + _ ≤ _; omega, fun q2 nq2 => ?_⟩
          have s6 := same_new (o := HO.lst ([.str wd] ++ ns.map fun v => .str (strJ v))) nq2
          refine ⟨_, rfl, by show 1 ≤ sizeLine; decide, fun q3 nq3 => ?_⟩
          have s7 := same_new (o := HO.lst [.str bx]) nq3
          refine ⟨q2, q3, _, _, rfl, rfl, s7 _ _ upd_same, upd_same, by rw [List.length_append, List.length_map]; show 1 + _ + 1 ≤ _; omega, fun q4 nq4 => ?_⟩
          have s8 := same_new (o := HO.lst (([.str wd] ++ ns.map fun v => .str (strJ v)) ++ [.str bx])) nq4
          have zs : (([.str wd] ++ ns.map fun v => .str (strJ v)) ++ [.str bx] : List V) = (wd :: (ns.map strJ ++ [bx])).map V.str := by
            rw [List.map_cons, List.map_append, List.map_map]
            rfl
          obtain ⟨i1, i2⟩ := join_few (y := " ") (xs := ns.map strJ) (b := 4) (n := 2) (fun z m => by
            obtain ⟨v, mv, rfl⟩ := List.mem_map.mp m
            obtain ⟨n, rfl, ln⟩ := hn v mv
            exact strJ_len ln) (by rw [List.length_map]; omega)
          have i3 := join_short " " (wd :: (ns.map strJ ++ [bx]))
          have y2 : (" " : Str).length = 1 := by decide +kernel
          have e5 : ((wd :: (ns.map strJ ++ [bx])).map (·.length)).sum + (wd :: (ns.map strJ ++ [bx])).length * (" " : Str).length ≤ 80 := by
            rw [y2] at i1 ⊢
            rw [List.map_cons, List.map_append, List.sum_cons, List.sum_append, List.length_cons, List.length_append]
            show _ + (_ + (bx.length + 0)) + (_ + 1 + 1) * 1 ≤ 80
            omega
          exact ⟨" ", q4, wd :: (ns.map strJ ++ [bx]), rfl, rfl, .inl (SqL.of (by rw [upd_same, zs])), by omega, k _ _ (by omega) (s2.trans (s3.trans (s4.trans (s5.trans (s6.trans (s7.trans s8))))))⟩
def spPaperText : Sp := fun vs H Q _ => ∃ (l : Addr) (us : List V), vs = [.ref l] ∧ H l = some (.lst us) ∧ us.length ≤ 8 ∧ (∀ u ∈ us, Drawn H u) ∧ ∀ (z : Str) (H' : Hp), z.length ≤ 700 → Same H H' → Q (.str z) H'
theorem has_papertext (b : Blt mg) (hSt : Has P w K mg base CX0 1 "_law_step_text" sLawStepText ["_law_step"] spStepText) (a : AtE K mg "_law_paper_text" sLawPaperText ["_law_paper"]) : Has P w K mg base CX0 2 "_law_paper_text" sLawPaperText ["_law_paper"] spPaperText := by
  obtain ⟨f, fd, a⟩ := a
  obtain ⟨fSt, fdSt, aSt, GSt⟩ := hSt
  refine ⟨f, fd, a, a.fn.ok scLawPaperText (fun vs H Q E h => ?_) (fun cdv A outer s H vs Q E hr1 h => ?_)⟩
  · obtain ⟨l, us, rfl, _⟩ := h
    rfl
  · obtain ⟨l, us, rfl, hl, l8, du, k⟩ := h
    refine ⟨_,
    (pss_one (ps_ret (pe_join pe_str (pe_lc (own := [("_law_step", 1)]) (g := (gName 1)) (tt := tYes) (te := (tOp rAddS (tCall spStepText [] E0 (tCons (tVar 1) tNil)) (tC (.str "\n")))) rfl scLawPaperText.nd (pi_list (pv 0)) (blkOk_by (N := nLawPaperText) (sc := defScope sLawPaperText) (by decide +kernel)) (fun _ _ _ _ _ => (pg_name (i := 1) scLawPaperText.nd rfl (.inl rfl))) (fun _ _ _ _ _ => pts_nil) (fun _ _ _ _ _ => (pe_op op_add_str (pe_call GSt hr1 rfl aSt.gl aSt.fn.kp aSt.bd .nil pass0 (pa_cons (pv 1) pa_nil)) pe_str)))))), ?_⟩
    have big : (1000 : Nat) ≤ sizeLine := by decide
    refine ⟨⟨_, rfl⟩, _, rfl, l, rfl, ⟨_, SqL.of hl⟩, fun D nD => ?_⟩
    refine lc_listS (xs := us) (fun i acc _ => acc.length = i ∧ ∃ zs : List Str, acc = zs.map V.str ∧ ∀ z ∈ zs, z.length ≤ 81) nD (SqL.of hl) (by omega) (fun _ _ _ _ _ h => h) ⟨rfl, [], rfl, fun z m => by cases m⟩ ?_ ?_
    · rintro i x acc H2 hx s2 h2 ⟨la, zs, rfl, hz⟩ k1 k2 y1 y2
      refine ⟨rfl, yes_turn ⟨_, rfl, x, rfl, (du x (List.mem_of_getElem? hx)).moved (same_tups s2), fun z H3 lz s3 => ?_⟩⟩
      have n1 : ("\n" : Str).length = 1 := by decide +kernel
      refine ⟨z, "\n", rfl, rfl, by rw [n1]; omega, y1 _ _ s3 ⟨by rw [List.length_append, la]; rfl, zs ++ [z ++ "\n"], by rw [List.map_append]; rfl, fun y m => ?_⟩⟩
      rcases List.mem_append.mp m with m | m
      · exact hz y m
      · rw [List.mem_singleton.mp m]
        have e : (z ++ "\n" : Str).length = z.length + 1 := by rw [PySem.Str.length_append, n1]
        omega
    · rintro acc H2 s2 h2 ⟨la, zs, rfl, hz⟩
      rw [List.length_map] at la
      obtain ⟨j1, j2⟩ := join_few (y := "") (n := 8) hz (by omega)
      have y0 : ("" : Str).length = 0 := by decide +kernel
      rw [y0] at j1 j2
      exact ⟨"", D, zs, rfl, rfl, .inl (SqL.of h2), by rw [y0]; omega, k _ _ (by omega) s2⟩
def spBent : Sp := fun vs H Q _ => ∃ (bg : Addr) (z : Str), vs = [.ref bg, .str z] ∧ Bag H bg ∧ z.length ≤ 850 ∧ ∀ (y : Str) (H' : Hp), y.length ≤ z.length + 9 → Bag H' bg → Keep bg H H' → Q (.str y) H'
theorem cutS_to (z : Str) {k : Nat} (h : k ≤ z.length) : (cutS z none (some (k : Int))).length = k := by
  unfold cutS
  rw [HT.sIx_none, HT.sIx_nat, List.drop_zero, Nat.sub_zero, Nat.min_eq_left h]
  show (List.take k z.cps.toList).toArray.size = k
  have e : z.cps.toList.length = z.length := by simp [Str.length]
  rw [List.size_toArray, List.length_take, e]
  omega
theorem cutS_from (z : Str) (k : Nat) : (cutS z (some (k : Int)) none).length ≤ z.length - k := by
  unfold cutS
  rw [HT.sIx_none, HT.sIx_nat]
  show (List.take _ (List.drop _ z.cps.toList)).toArray.size ≤ _
  have e : z.cps.toList.length = z.length := by simp [Str.length]
  rw [List.size_toArray, List.length_take, List.length_drop, e]
  omega
theorem has_bent (b : Blt mg) (hP : Has P w K mg base CX0 1 "_law_pull" sPull ["_law_bag_here", "_law_size"] spPull) (hO : Has P w K mg base CX0 2 "_law_of" sOf ["_law_bag_here", "_law_some"] (spOf K)) (a : AtE K mg "_law_bent_rows" sLawBentRows ["_law_bag_here", "_law_text"]) :
    Has P w K mg base CX0 3 "_law_bent_rows" sLawBentRows ["_law_bag_here", "_law_text"] spBent := by
  obtain ⟨f, fd, a⟩ := a
  obtain ⟨fP, fdP, aP, GP⟩ := hP
  obtain ⟨fO, fdO, aO, GO⟩ := hO
  refine ⟨f, fd, a, a.fn.ok scLawBentRows (fun vs H Q E h => ?_) (fun cdv A outer s H vs Q E hr2 h => ?_)⟩
  · obtain ⟨bg, z, rfl, _⟩ := h
    rfl
  · obtain ⟨bg, z, rfl, B, lz, k⟩ := h
    have hr1 : Room 1 _ := hr2.mono (by decide)
    refine ⟨_,
    (pss_cons (ps_set (i := 2) scLawBentRows.nd rfl (.inl rfl) (pe_call GP hr1 rfl aP.gl aP.fn.kp aP.bd .nil pass0 (pa_cons (pv 0) (pa_cons (pe_op op_add (pe_callB call_len_str (by rfl) b.len PySem.boot_len (pa_cons (pv 1) pa_nil)) pe_int) pa_nil))))
    (pss_cons (ps_set (i := 3) scLawBentRows.nd rfl (.inl rfl) (pe_call GO hr2 rfl aO.gl aO.fn.kp aO.bd .nil pass0 (pa_cons (pv 0) (pa_cons (pe_op op_cat (pe_callTy (call_list_txt rfl) (by rfl) b.list (by decide +kernel) (pa_cons pe_str pa_nil)) (pe_lst (pa_cons pe_str (pa_cons pe_str (pa_cons pe_str (pa_cons pe_str (pa_cons pe_str (pa_cons pe_str (pa_cons pe_str (pa_cons pe_str pa_nil)))))))))) pa_nil))))
    (pss_cons (ps_set (i := 4) scLawBentRows.nd rfl (.inl rfl) (pe_call GP hr1 rfl aP.gl aP.fn.kp aP.bd .nil pass0 (pa_cons (pv 0) (pa_cons pe_int pa_nil))))
    (pss_cons (ps_if (pt_cmpR op_eq (pv 4) pe_int (nomark _))
      (pss_one (ps_ret (pe_op op_add_str (pe_op op_add_str (pe_slice sl_str (pv 1) po_none (po_some (pv 2))) (pv 3)) (pe_slice sl_str (pv 1) (po_some (pv 2)) po_none))))
      pss_nil)
    (pss_cons (ps_if (pt_cmpR op_eq (pv 4) pe_int (nomark _))
      (pss_one (ps_ret (pe_op op_add_str (pe_slice sl_str (pv 1) po_none (po_some (pv 2))) (pe_slice sl_str (pv 1) (po_some (pe_op op_add (pv 2) pe_int)) po_none))))
      pss_nil)
    (pss_one (ps_ret (pe_ifExp (pt_cmpR op_eq (pv 4) pe_int (nomark _)) (pe_slice sl_str (pv 1) po_none (po_some (pv 2))) (pe_op op_add_str (pe_op op_add_str (pe_slice sl_str (pv 1) po_none (po_some (pv 2))) (pv 3)) (pe_slice sl_str (pv 1) (po_some (pe_op op_add (pv 2) pe_int)) po_none)))))))))), ?_⟩
    have big : (2000 : Nat) ≤ sizeLine := by decide
    refine ⟨_, rfl, _, rfl, z, rfl, by omega, _, _, rfl, rfl, bg, _, rfl, B, by omega, by omega, fun d H1 d0 d1 B1 K1 => ?_⟩
    obtain ⟨at', rfl⟩ := Int.eq_ofNat_of_zero_le d0
    have la : at' ≤ z.length := by omega
    refine ⟨_, rfl, _, rfl, by decide +kernel, fun l1 n1 => ?_⟩
    generalize exs : (List.map sgV (PySem.Str.cps " 0123,*\ntje").toList) = xs1
    have x1 : ∀ v ∈ xs1, ∃ y : Str, v = .str y ∧ y.length ≤ 9 := fun v m => by
      rw [← exs] at m
      obtain ⟨c, _, rfl⟩ := List.mem_map.mp m
      exact ⟨_, rfl, by show 1 ≤ 9; decide⟩
    have lx1 : xs1.length = 11 := by
      rw [← exs, List.length_map]
      decide +kernel
    refine ⟨by show 8 ≤ sizeLine; decide, fun l2 n2 => ?_⟩
    have s1 := same_new (o := HO.lst xs1) n1
    have s2 := same_new (o := HO.lst [.str "0", .str "  ", .str "told ", .str "12345", .str "empty 0 *", .str ",1", .str "A", .str "-"]) n2
    refine ⟨l1, l2, _, _, rfl, rfl, s2 _ _ upd_same, upd_same, by rw [lx1]; show 11 + 8 ≤ _; omega, fun l3 n3 => ?_⟩
    have s3 := same_new (o := HO.lst (xs1 ++ [.str "0", .str "  ", .str "told ", .str "12345", .str "empty 0 *", .str ",1", .str "A", .str "-"])) n3
    have s13 := s1.trans (s2.trans s3)
    refine ⟨bg, l3, _, rfl, B1.same s13, (B1.same (s1.trans s2)).ne n3, SqL.of upd_same, by rw [List.length_append]; show 1 ≤ _ + 8; omega, by rw [List.length_append, lx1]; show 11 + 8 < 1000; decide, fun v H4 mv B4 K4 => ?_⟩
    obtain ⟨sg, rfl, lsg⟩ : ∃ y : Str, v = .str y ∧ y.length ≤ 9 := by
      rcases List.mem_append.mp mv with m | m
      · exact x1 v m
      · simp only [List.mem_cons, List.not_mem_nil, or_false] at m
        rcases m with rfl | rfl | rfl | rfl | rfl | rfl | rfl | rfl <;> exact ⟨_, rfl, by decide +kernel⟩
    refine ⟨_, rfl, bg, 4, rfl, B4, by decide, by decide, fun wy H5 w0 w1 B5 K5 => ?_⟩
    have kA : Keep bg H H5 := K1.trans ((Same.keep s13).trans (K4.trans K5))
    have c1 := cutS_to z la
    have c2 := cutS_from z at'
    have c3 := cutS_from z (at' + 1)
    have fin : ∀ y : Str, y.length ≤ z.length + 9 → Q (.str y) H5 := fun y ly => k y H5 ly B5 kA
    have la1 : (cutS z none (some (at' : Int)) ++ sg).length = (cutS z none (some (at' : Int))).length + sg.length := PySem.Str.length_append _ _
    refine ⟨_, rfl, rfl, _, rfl, ?_⟩
    by_cases q0 : wy = 0
    · rw [decide_eq_true (show V.int wy = V.int 0 by rw [q0])]
      refine iteT ⟨_, rfl, _, rfl, _, rfl, z, rfl, by omega, _, rfl, _, _, rfl, rfl, by omega, _, rfl, _, rfl, _, rfl, ?_⟩
      have e1 := PySem.Str.length_append (cutS z none (some (at' : Int)) ++ sg) (cutS z (some (at' : Int)) none)
      refine ⟨z, rfl, by omega, _, _, rfl, rfl, ?_, fin _ ?_⟩
      · show (cutS z none (some (at' : Int)) ++ sg).length + (cutS z (some (at' : Int)) none).length ≤ _
        omega
      · show (cutS z none (some (at' : Int)) ++ sg ++ cutS z (some (at' : Int)) none).length ≤ _
        omega
    rw [decide_eq_false (show ¬ V.int wy = V.int 0 from fun e => q0 (by injection e))]
    refine iteF ⟨_, rfl, rfl, _, rfl, ?_⟩
    by_cases q1 : wy = 1
    · rw [decide_eq_true (show V.int wy = V.int 1 by rw [q1])]
      refine iteT ⟨_, rfl, _, rfl, _, rfl, z, rfl, by omega, _, rfl, _, rfl, _, _, rfl, rfl, _, rfl, ?_⟩
      have e1 := PySem.Str.length_append (cutS z none (some (at' : Int))) (cutS z (some (((at' + 1 : Nat)) : Int)) none)
      refine ⟨z, rfl, by omega, _, _, rfl, rfl, ?_, fin _ ?_⟩
      · show (cutS z none (some (at' : Int))).length + (cutS z (some (((at' + 1 : Nat)) : Int)) none).length ≤ _
        omega
      · show (cutS z none (some (at' : Int)) ++ cutS z (some (((at' + 1 : Nat)) : Int)) none).length ≤ _
        omega
    rw [decide_eq_false (show ¬ V.int wy = V.int 1 from fun e => q1 (by injection e))]
    refine iteF ⟨_, rfl, rfl, _, rfl, ?_⟩
    by_cases q2 : wy = 2
    · rw [decide_eq_true (show V.int wy = V.int 2 by rw [q2])]
      exact iteT ⟨_, rfl, _, rfl, _, rfl, z, rfl, by omega, fin _ (by omega)⟩
    rw [decide_eq_false (show ¬ V.int wy = V.int 2 from fun e => q2 (by injection e))]
    refine iteF ⟨_, rfl, _, rfl, _, rfl, z, rfl, by omega, _, rfl, _, _, rfl, rfl, by omega, _, rfl, _, rfl, _, _, rfl, rfl, _, rfl, ?_⟩
    have e1 := PySem.Str.length_append (cutS z none (some (at' : Int)) ++ sg) (cutS z (some (((at' + 1 : Nat)) : Int)) none)
    refine ⟨z, rfl, by omega, _, _, rfl, rfl, ?_, fin _ ?_⟩
    · show (cutS z none (some (at' : Int)) ++ sg).length + (cutS z (some (((at' + 1 : Nat)) : Int)) none).length ≤ _
      omega
    · show (cutS z none (some (at' : Int)) ++ sg ++ cutS z (some (((at' + 1 : Nat)) : Int)) none).length ≤ _
      omega
end
end VQ
namespace VQ
open PySem L2 LamX
abbrev sLaw : Stmt := top 46
abbrev nLaw : List Str := ["_law_script", "_law_bag_here", "_law_some", "_law_turn", "_law_many", "_law_text", "_law_bend", "_law_size"]
theorem scLaw : FnScope nLaw ["_law_script"] (defScope sLaw) := ⟨rfl, rfl, rfl, by decide +kernel, rfl, by decide +kernel, by decide +kernel⟩
theorem alike_flat {H : Hp} {n : Nat} {x : V} (h : fineV x = true) : Alike H n x x := by
  cases x with
  | non => exact .non _
  | int i => exact .int _ _
  | str z => exact .str _ _
  | _ => cases h
theorem alike_fine {H : Hp} {n : Nat} {a b : Addr} {xs : List V} (ha : H a = some (.tup xs)) (hb : H b = some (.tup xs)) (f : xs.all fineV = true) (l : xs.length ≤ 1000) : Alike H (n + 1) (.ref a) (.ref b) := by
  refine .tup ha hb rfl l fun i x y hx hy => ?_
  rw [hx] at hy
  cases hy
  exact alike_flat (List.all_eq_true.mp f x (List.mem_of_getElem? hx))
/-- what a good row tells is fine -/
def RFine : StepR → Prop
  | .told xs => xs.all fineV = true ∧ xs.length ≤ 1000
  | .box w ns xs => ns.all fineV = true ∧ ns.length ≤ 900 ∧ xs.all fineV = true ∧ xs.length ≤ 1000
theorem good_fine {many : Nat} {row : Str} {r : StepR} (l9 : row.length ≤ 900) (h : goodR many row = some r) : RFine r := by
  have sl := PyProof.Rows.split_le row " "
  have sh : ∀ y ∈ Txt.split row " ", y.length ≤ 900 := fun y m => Nat.le_trans (PyProof.Rows.part_short m) l9
  unfold goodR at h
  generalize Txt.split row " " = ws at h sl sh
  cases ws with
  | nil => cases h
  | cons w ps =>
    have st : stepM (w :: ps) many = (if w = "told" then (if pointB ps many then some (.told (pointL ps)) else none)
      else if kindB w ps.length then (if !inV .non (pointL ps.dropLast) && boxB (ps.getLastD "") many then some (.box w (pointL ps.dropLast) (boxL (ps.getLastD ""))) else none) else none) := rfl
    rw [st] at h
    rw [List.length_cons] at sl
    split at h
    · split at h
      · cases h
        exact ⟨pointL_fine ps, by unfold pointL; rw [List.length_map]; omega⟩
      · cases h
    · split at h
      · rename_i kb
        split at h
        · cases h
          have l3 : ps.length ≤ 3 := by
            have kb := of_decide_eq_true kb
            omega
          have ll : (ps.getLastD "").length ≤ 900 := by
            cases e : ps.getLast? with
            | none =>
              rw [List.getLastD_eq_getLast?, e]
              decide
            | some la =>
              rw [List.getLastD_eq_getLast?, e]
              exact sh la (List.mem_cons_of_mem _ (List.mem_of_getLast? e))
          exact ⟨pointL_fine _, by unfold pointL; rw [List.length_map, List.length_dropLast]; omega, boxL_fine _, Nat.le_trans (boxL_len ll) (by decide)⟩
        · cases h
      · cases h
theorem alike_step {H : Hp} {v u : V} {r : StepR} (f : RFine r) (h : StepAt H v r) (h' : StepAt H u r) : Alike H 2 v u := by
  cases r with
  | told xs =>
    obtain ⟨a, p, rfl, h1, h2⟩ := h
    obtain ⟨a', p', rfl, h1', h2'⟩ := h'
    refine .tup h1 h1' rfl (by show 2 ≤ 1000; decide) fun i x y hx hy => ?_
    match i, hx, hy with
    | 0, hx, hy =>
      cases hx
      cases hy
      exact .str _ _
    | 1, hx, hy =>
      cases hx
      cases hy
      exact alike_fine h2 h2' f.1 f.2
    | i + 2, hx, _ => simp at hx
  | box w ns xs =>
    obtain ⟨a, p, rfl, h1, h2⟩ := h
    obtain ⟨a', p', rfl, h1', h2'⟩ := h'
    obtain ⟨f1, f2, f3, f4⟩ := f
    have el : ∀ q : Addr, (V.str w :: (ns ++ [.ref q])).length = ns.length + 2 := fun q => by rw [List.length_cons, List.length_append]; rfl
    refine .tup h1 h1' (by rw [el, el]) (by rw [el]; omega) fun i x y hx hy => ?_
    match i, hx, hy with
    | 0, hx, hy =>
      cases hx
      cases hy
      exact .str _ _
    | i + 1, hx, hy =>
      have hx : (ns ++ [V.ref p])[i]? = some x := hx
      have hy : (ns ++ [V.ref p'])[i]? = some y := hy
      by_cases c : i < ns.length
      · rw [List.getElem?_append_left c] at hx hy
        rw [hx] at hy
        cases hy
        exact alike_flat (List.all_eq_true.mp f1 x (List.mem_of_getElem? hx))
      · rw [List.getElem?_append_right (by omega)] at hx hy
        cases e : i - ns.length with
        | zero =>
          rw [e] at hx hy
          cases hx
          cases hy
          exact alike_fine h2 h2' f3 f4
        | succ j =>
          rw [e] at hx
          simp at hx
theorem alike_steps {H : Hp} {a b : Addr} {us ws : List V} {rs : List StepR} (ha : H a = some (.lst us)) (hb : H b = some (.lst ws)) (e : Each (StepAt H) us rs) (e' : Each (StepAt H) ws rs) (f : ∀ r ∈ rs, RFine r) (l : rs.length ≤ 1000) : Alike H 3 (.ref a) (.ref b) := by
  refine .lst ha hb (by rw [e.len, e'.len]) (by rw [e'.len]; exact l) fun i x y hx hy => ?_
  obtain ⟨r, er, hr⟩ := e.get hx
  obtain ⟨r', er', hr'⟩ := e'.get hy
  rw [er] at er'
  cases er'
  exact alike_step (f r (List.mem_of_getElem? er)) hr hr'
theorem rows_rest {z : Str} : ∃ rows rest, Txt.split z "\n" = rows ++ [rest] := by
  have sp := PyProof.Rows.split_pos z "\n"
  generalize Txt.split z "\n" = ws at sp
  refine ⟨ws.dropLast, ws.getLast (fun e => by rw [e] at sp; simp at sp), (List.dropLast_concat_getLast _).symm⟩
section
variable {P : Program} {w : World} {K : PySem.W.Frag} {mg : Str → Option Value} {base : Heap} {Ta NT NR BT Uf Fu TM QE No CB : Addr}
/-- both readers are asked of one text -/
theorem ask_ok {σ : L2.St} {H : Hp} {Q : VK} {T : List (Addr × Str)} {tz tm : TE} {z : Str} {many : Nat} (SB : Second K Ta NT NR BT Uf CB) (tabs : Tabs T H) (l9 : z.length ≤ 900) (hz : ∀ H' (Q' : VK), Q' (.str z) H' → tz σ H' Q') (hm : ∀ H' (Q' : VK), Q' (.int (many : Int)) H' → tm σ H' Q')
    (k : ∀ H', ExtN H H' → Tabs T H' → Q (.bl true) H') :
    tCall (spSame 4) [] E0 (tCons (tLam T (TTried2 K Ta NT NR BT Uf) (fun E => tCall (spReadPaper CB) [] E (tCons tz (tCons tm tNil)))) (tCons (tCall spLPaper [] E0 (tCons tz (tCons tm tNil))) tNil)) σ H Q := by
  obtain ⟨rows, rest, esp⟩ := rows_rest (z := z)
  have sh : ∀ y ∈ Txt.split z "\n", y.length ≤ 900 := fun y m => Nat.le_trans (PyProof.Rows.part_short m) l9
  have sl := PyProof.Rows.split_le z "\n"
  rw [esp] at sh sl
  have fine : ∀ r ∈ rows.filterMap (goodR many), RFine r := fun r m => by
    obtain ⟨row, mr, er⟩ := List.mem_filterMap.mp m
    exact good_fine (sh row (List.mem_append_left _ mr)) er
  have lr : (rows.filterMap (goodR many)).length ≤ 1000 := by
    have := List.length_filterMap_le (goodR many) rows
    rw [List.length_append] at sl
    have : rows.length + 1 ≤ z.length + 2 := sl
    omega
  refine ⟨tabs, fun H1 ext tabs1 => ?_⟩
  refine hz _ _ (hm _ _ ⟨z, many, rows, rest, rfl, l9, esp, fun ev a us H2 s2 ha each => ?_, fun i ev H2 d s2 nd => ?_⟩)
  · refine ⟨by show 2 ≤ sizeLine; decide, fun p np => ?_⟩
    have s3 := same_new (o := HO.tup [.str "told", .ref a]) np
    refine hz _ _ (hm _ _ ⟨z, many, rows, rest, rfl, l9, esp, fun ev' q a' us' H4 s4 hq ha' each' => ?_, fun i ev' => by rw [ev] at ev'; cases ev'⟩)
    refine ⟨_, _, rfl, ?_, fun H5 s5 => ?_⟩
    · refine .tup (s4 _ _ upd_same) hq rfl (by show 2 ≤ 1000; decide) fun i x y hx hy => ?_
      match i, hx, hy with
      | 0, hx, hy =>
        cases hx
        cases hy
        exact .str _ _
      | 1, hx, hy =>
        cases hx
        cases hy
        exact alike_steps (s4 _ _ (s3 _ _ ha)) ha' (each.mono fun _ _ q => q.moved (same_tups (s3.trans s4))) each' fine lr
      | i + 2, hx, _ => simp at hx
    · exact k H5 (ext.trans (extN_same (s2.trans (s3.trans (s4.trans s5))))) (Tabs.ext tabs1 (s2.trans (s3.trans (s4.trans s5))))
  · have s0 := same_new (o := HO.xd (atFs (.int ((i : Nat) : Int)))) nd
    refine ⟨CB, d, atFs (.int ((i : Nat) : Int)), "BadText", .int ((i : Nat) : Int), rfl, rfl, SB, upd_same, rfl, rfl, fun p np => ?_⟩
    have s3 := same_new (o := HO.tup [.str "BadText", .int ((i : Nat) : Int)]) np
    refine hz _ _ (hm _ _ ⟨z, many, rows, rest, rfl, l9, esp, (fun ev' => by rw [ev] at ev'; cases ev'), fun i' ev' q H4 s4 hq => ?_⟩)
    rw [ev] at ev'
    cases ev'
    refine ⟨_, _, rfl, ?_, fun H5 s5 => ?_⟩
    · exact alike_fine (s4 _ _ upd_same) hq (by rw [List.all_cons, show fineV (.str "BadText") = true by decide +kernel]; rfl) (by show 2 ≤ 1000; decide)
    · exact k H5 (ext.trans (extN_same (s2.trans (s0.trans (s3.trans (s4.trans s5)))))) (Tabs.ext tabs1 (s2.trans (s0.trans (s3.trans (s4.trans s5)))))
def txtB : V → Bool
  | .str z => decide (z.length ≤ 900)
  | _ => false
theorem txt_of {v : V} {xs : List V} (h : xs.all txtB = true) (m : v ∈ xs) : ∃ z : Str, v = .str z ∧ z.length ≤ 900 := by
  have hv := List.all_eq_true.mp h v m
  cases v with
  | str z => exact ⟨z, rfl, of_decide_eq_true hv⟩
  | _ => cases hv
theorem Tabs.extN {T : List (Addr × Str)} {H : Hp} {q : Addr} {o : HO} (t : Tabs T H) (n : H q = none) : Tabs T (upd H q o) := Tabs.ext t (same_new n)
theorem ok_law {f c Pt : Addr} {kV doc pm ct oc : Value} {an od : Option Addr} {osl : Array (Option Value)} {fT : Addr} {fdT : FuncData}
    (lk : K.lookup f = some ⟨oc, od, .func (PySem.W.fnOf "law" "law" (defArgs sLaw) (defBody sLaw) (defScope sLaw) .none kV doc pm an (.ref c) ct), osl⟩) (hcd : PySem.W.codeIn K (.ref c) "law" = true) (TB : TabB base mg c Pt)
    (b : Blt mg) (ER : Errs mg Ta NT NR BT Uf Fu TM QE No) (SB : Second K Ta NT NR BT Uf CB) (aT : At K mg "_law_tried" sTried ["_law_ask"] fT fdT)
    (hB : Has P w K mg base CX0 1 "_law_bag" sBag ["_law_script"] (spBag K)) (hP : Has P w K mg base CX0 1 "_law_pull" sPull ["_law_bag_here", "_law_size"] spPull) (hS : Has P w K mg base CX0 5 "_law_same" sSame ["_law_found", "_law_due"] (spSame 4))
    (hAs : Has P w K mg base CX0 6 "_law_any_steps" sLawAnySteps ["_law_bag_here", "_law_many", "_law_most"] spAnySteps) (hPx : Has P w K mg base CX0 2 "_law_paper_text" sLawPaperText ["_law_paper"] spPaperText) (hBr : Has P w K mg base CX0 3 "_law_bent_rows" sLawBentRows ["_law_bag_here", "_law_text"] spBent)
    (hRd : Has P w K mg base (L2.CX P w) 5 "read_paper" sReadPaper ["text", "many"] (spReadPaper CB)) (hRp : Has P w K mg base CX0 3 "_law_read_paper" sLawReadPaper ["_law_text", "_law_many"] spLPaper) :
    FnOk P w K mg base CX0 8 f (PySem.W.fnOf "law" "law" (defArgs sLaw) (defBody sLaw) (defScope sLaw) .none kV doc pm an (.ref c) ct) ["_law_script"] (spLaw K Pt) := by
  obtain ⟨fB, fdB, aB, GB⟩ := hB
  obtain ⟨fP, fdP, aP, GP⟩ := hP
  obtain ⟨fS, fdS, aS, GS⟩ := hS
  obtain ⟨fAs, fdAs, aAs, GAs⟩ := hAs
  obtain ⟨fPx, fdPx, aPx, GPx⟩ := hPx
  obtain ⟨fBr, fdBr, aBr, GBr⟩ := hBr
  obtain ⟨fRd, fdRd, aRd, GRd⟩ := hRd
  obtain ⟨fRp, fdRp, aRp, GRp⟩ := hRp
  obtain ⟨cdv2, D2⟩ := one_of aT scTried rfl (.inl rfl) (by decide) (by decide) (by decide)
  refine fn_of lk hcd scLaw (fun vs H Q E h => ?_) (fun A outer s H vs Q E hr7 h => ?_)
  · obtain ⟨a, ns, rfl, _⟩ := h
    rfl
  · obtain ⟨a, ns, rfl, hS, hlen, hP, k⟩ := h
    have hr1 : Room 1 _ := hr7.mono (by decide)
    have hr2 : Room 2 _ := hr7.mono (by decide)
    have hr3 : Room 3 _ := hr7.mono (by decide)
    have hr5 : Room 5 _ := hr7.mono (by decide)
    have hr6 : Room 6 _ := hr7.mono (by decide)
    refine ⟨_, PSs.nox
    (pss_cons (ps_set (i := 1) scLaw.nd rfl (.inl rfl) (pe_call GB hr1 rfl aB.gl aB.fn.kp aB.bd .nil pass0 (pa_cons (pv 0) pa_nil)))
    (pss_cons (ps_set (i := 2) scLaw.nd rfl (.inl rfl) (pe_lst (pa_cons pe_str (pa_cons pe_str (pa_cons pe_str (pa_cons pe_str (pa_cons pe_str (pa_cons pe_str (pa_cons pe_str (pa_cons pe_str (pa_cons pe_str pa_nil)))))))))))
    (pss_cons (ps_set (i := 2) scLaw.nd rfl (.inl rfl) (pe_op op_cat (pv 2) (pe_lst (pa_cons pe_str (pa_cons pe_str (pa_cons pe_str (pa_cons pe_str (pa_cons pe_str (pa_cons pe_str pa_nil)))))))))
    (pss_cons (ps_set (i := 2) scLaw.nd rfl (.inl rfl) (pe_op op_cat (pv 2) (pe_lst (pa_cons pe_str (pa_cons pe_str (pa_cons pe_str (pa_cons pe_str (pa_cons pe_str (pa_cons pe_str pa_nil)))))))))
    (pss_cons (ps_set (i := 2) scLaw.nd rfl (.inl rfl) (pe_op op_cat (pv 2) (pe_lst (pa_cons pe_str (pa_cons pe_str (pa_cons pe_str (pa_cons pe_str (pa_cons pe_str (pa_cons pe_str (pa_cons pe_str pa_nil))))))))))
    (pss_cons (ps_for PassesOwn.never rfl (pi_range1 rfl b.range (pa_cons pe_int pa_nil)) (pg_name (i := 3) scLaw.nd rfl (.inl rfl))
      (pss_cons (ps_set (i := 4) scLaw.nd rfl (.inl rfl) (pe_op op_add pe_int (pe_call GP hr1 rfl aP.gl aP.fn.kp aP.bd .nil pass0 (pa_cons (pv 1) (pa_cons pe_int pa_nil)))))
      (pss_cons (ps_set (i := 5) scLaw.nd rfl (.inr rfl) (pe_call GPx hr2 rfl aPx.gl aPx.fn.kp aPx.bd .nil pass0 (pa_cons (pe_call GAs hr6 rfl aAs.gl aAs.fn.kp aAs.bd .nil pass0 (pa_cons (pv 1) (pa_cons (pv 4) (pa_cons pe_int pa_nil)))) pa_nil)))
      (pss_cons (ps_for PassesOwn.never rfl (pi_range1 rfl b.range (pa_cons (pe_op op_add pe_int (pe_call GP hr1 rfl aP.gl aP.fn.kp aP.bd .nil pass0 (pa_cons (pv 1) (pa_cons pe_int pa_nil)))) pa_nil)) (pg_name (i := 6) scLaw.nd rfl (.inl rfl))
        (pss_one (ps_set (i := 5) scLaw.nd rfl (.inr rfl) (pe_call GBr hr3 rfl aBr.gl aBr.fn.kp aBr.bd .nil pass0 (pa_cons (pv 1) (pa_cons (pv 5) pa_nil))))))
      (pss_one (ps_for PassesOwn.never rfl (pi_list (pe_lst (pa_cons (pv 4) (pa_cons (pe_op op_add (pe_op op_mod (pv 4) pe_int) pe_int) pa_nil)))) (pg_name (i := 7) scLaw.nd rfl (.inr rfl))
        (pss_one (ps_if (pt_not (pt_val (pe_call GS hr5 rfl aS.gl aS.fn.kp aS.bd .nil pass0 (pa_cons (pe_tried (k := 5) (T := [(Pt, _)]) (t := fun E => tCall (spReadPaper CB) [] E (tCons (tVar 5) (tCons (tVar 7) tNil))) rfl D2 (tried_gives2 ER) (mk_plain TB rfl (List.mem_singleton.mpr rfl) (fun p hp _ => by rw [List.mem_singleton.mp hp]) (lamS2_by (N := nLaw) (sc := defScope sLaw) (by decide +kernel) rfl rfl) rfl (fun _ _ _ _ _ => rfl)) hr7
              (fun f c' E A outer s H hr' => (pe_call GRd hr' rfl aRd.gl aRd.fn.kp aRd.bd .nil (passes_call (takes_of rfl rfl rfl rfl) (fun _ _ _ _ h => h)) (pa_cons (pv 5) (pa_cons (pv 7) pa_nil))))) (pa_cons (pe_call GRp hr3 rfl aRp.gl aRp.fn.kp aRp.bd .nil pass0 (pa_cons (pv 5) (pa_cons (pv 7) pa_nil))) pa_nil)))))
          (pss_one (ps_ret pe_bl))
          pss_nil))))))))
    (pss_cons (ps_for PassesOwn.never rfl (pi_list (pv 2)) (pg_name (i := 5) scLaw.nd rfl (.inr rfl))
      (pss_one (ps_if (pt_not (pt_val (pe_call GS hr5 rfl aS.gl aS.fn.kp aS.bd .nil pass0 (pa_cons (pe_tried (k := 5) (T := [(Pt, _)]) (t := fun E => tCall (spReadPaper CB) [] E (tCons (tVar 5) (tCons (tC (.int 2)) tNil))) rfl D2 (tried_gives2 ER) (mk_plain TB rfl (List.mem_singleton.mpr rfl) (fun p hp _ => by rw [List.mem_singleton.mp hp]) (lamS2_by (N := nLaw) (sc := defScope sLaw) (by decide +kernel) rfl rfl) rfl (fun _ _ _ _ _ => rfl)) hr7
              (fun f c' E A outer s H hr' => (pe_call GRd hr' rfl aRd.gl aRd.fn.kp aRd.bd .nil (passes_call (takes_of rfl rfl rfl rfl) (fun _ _ _ _ h => h)) (pa_cons (pv 5) (pa_cons pe_int pa_nil))))) (pa_cons (pe_call GRp hr3 rfl aRp.gl aRp.fn.kp aRp.bd .nil pass0 (pa_cons (pv 5) (pa_cons pe_int pa_nil))) pa_nil)))))
        (pss_one (ps_ret pe_bl))
        pss_nil)))
    (pss_one (ps_ret pe_bl))))))))), ?_⟩
    have big : (1000 : Nat) ≤ sizeLine := by decide
    refine ⟨_, rfl, a, ns, rfl, hS, hlen, fun bg H1 nb B1 s1 => ?_⟩
    have T1 : Tabs [(Pt, (PyProof.Rows.envOfC "law" (defScope sLaw) s.heap.objs.size f (.ref c)).qual ++ "<lambda>")] H1 := fun q hq => by
      rw [List.mem_singleton.mp hq]
      exact TabS.nil (s1 _ _ hP)
    refine ⟨by show 9 ≤ sizeLine; decide, fun l1 n1 => ?_⟩
    generalize e1 : ([V.str "", V.str "\n", V.str "told 1 2", V.str "told 1 2\n", V.str "told 1 32\n", V.str "told 01 2\n", V.str "told 1\n", V.str "told 1 2 3\n", V.str "told 1  2\n"] : List V) = X1
    have b1 : X1.all txtB = true ∧ X1.length = 9 := by
      rw [← e1]
      exact ⟨by decide +kernel, rfl⟩
    have T2 := Tabs.ext T1 (same_new (o := HO.lst X1) n1)
    have B2 := B1.same (same_new (o := HO.lst X1) n1)
    have h1 : upd H1 l1 (.lst X1) l1 = some (.lst X1) := upd_same
    generalize upd H1 l1 (.lst X1) = H2 at T2 B2 h1 ⊢
    refine ⟨_, rfl, by show 6 ≤ sizeLine; decide, fun m0 nm0 => ?_⟩
    generalize eY0 : ([V.str "empty 0 *,*\n", V.str "empty 0 *,\n", V.str "empty 00 *,*\n", V.str "empty 0 0 *,*\n", V.str "empty *,*\n", V.str "empty 9999 *,1\n"] : List V) = Y0 at nm0 ⊢
    have bY0 : Y0.all txtB = true ∧ Y0.length = 6 := by
      rw [← eY0]
      exact ⟨by decide +kernel, rfl⟩
    refine ⟨l1, m0, _, _, rfl, rfl, same_new nm0 _ _ h1, upd_same, by rw [b1.2, bY0.2]; show 9 + 6 ≤ _; omega, fun r0 nr0 => ?_⟩
    have sr0 := (same_new (o := HO.lst Y0) nm0).trans (same_new (o := HO.lst (X1 ++ Y0)) nr0)
    have b2 : (X1 ++ Y0).all txtB = true ∧ (X1 ++ Y0).length = 15 := ⟨by rw [List.all_append, b1.1, bY0.1]; rfl, by rw [List.length_append, b1.2, bY0.2]⟩
    have T3 := Tabs.ext T2 sr0
    have B3 := B2.same sr0
    have L3 : r0 ≠ bg := (B2.same (same_new (o := HO.lst Y0) nm0)).ne nr0
    have h2 : upd (upd H2 m0 (.lst Y0)) r0 (.lst (X1 ++ Y0)) r0 = some (.lst (X1 ++ Y0)) := upd_same
    generalize upd (upd H2 m0 (.lst Y0)) r0 (.lst (X1 ++ Y0)) = H3 at T3 B3 h2 ⊢
    generalize X1 ++ Y0 = X2 at b2 h2 ⊢
    refine ⟨_, rfl, by show 6 ≤ sizeLine; decide, fun m1 nm1 => ?_⟩
    generalize eY1 : ([V.str "empty 10000 *,1\n", V.str "less 0 0,111111\n", V.str "less 0 0,11111\n", V.str "less -1 0,1\n", V.str "joined 0 1 *,*\n", V.str "joined 0 *,*\n"] : List V) = Y1 at nm1 ⊢
    have bY1 : Y1.all txtB = true ∧ Y1.length = 6 := by
      rw [← eY1]
      exact ⟨by decide +kernel, rfl⟩
    refine ⟨r0, m1, _, _, rfl, rfl, same_new nm1 _ _ h2, upd_same, by rw [b2.2, bY1.2]; show 15 + 6 ≤ _; omega, fun r1 nr1 => ?_⟩
    have sr1 := (same_new (o := HO.lst Y1) nm1).trans (same_new (o := HO.lst (X2 ++ Y1)) nr1)
    have b3 : (X2 ++ Y1).all txtB = true ∧ (X2 ++ Y1).length = 21 := ⟨by rw [List.all_append, b2.1, bY1.1]; rfl, by rw [List.length_append, b2.2, bY1.2]⟩
    have T4 := Tabs.ext T3 sr1
    have B4 := B3.same sr1
    have L4 : r1 ≠ bg := (B3.same (same_new (o := HO.lst Y1) nm1)).ne nr1
    have h3 : upd (upd H3 m1 (.lst Y1)) r1 (.lst (X2 ++ Y1)) r1 = some (.lst (X2 ++ Y1)) := upd_same
    generalize upd (upd H3 m1 (.lst Y1)) r1 (.lst (X2 ++ Y1)) = H4 at T4 B4 h3 ⊢
    generalize X2 ++ Y1 = X3 at b3 h3 ⊢
    refine ⟨_, rfl, by show 7 ≤ sizeLine; decide, fun m2 nm2 => ?_⟩
    generalize eY2 : ([V.str "joined 0 1 2 *,*\n", V.str "Told 1 2\n", V.str " told 1 2\n", V.str "told 1 2 \n", V.str "told 1 2\n\n", V.str "empty 0 2,*\n", V.str "empty 0 *,*\ntold"] : List V) = Y2 at nm2 ⊢
    have bY2 : Y2.all txtB = true ∧ Y2.length = 7 := by
      rw [← eY2]
      exact ⟨by decide +kernel, rfl⟩
    refine ⟨r1, m2, _, _, rfl, rfl, same_new nm2 _ _ h3, upd_same, by rw [b3.2, bY2.2]; show 21 + 7 ≤ _; omega, fun r2 nr2 => ?_⟩
    have sr2 := (same_new (o := HO.lst Y2) nm2).trans (same_new (o := HO.lst (X3 ++ Y2)) nr2)
    have b4 : (X3 ++ Y2).all txtB = true ∧ (X3 ++ Y2).length = 28 := ⟨by rw [List.all_append, b3.1, bY2.1]; rfl, by rw [List.length_append, b3.2, bY2.2]⟩
    have T5 := Tabs.ext T4 sr2
    have B5 := B4.same sr2
    have L5 : r2 ≠ bg := (B4.same (same_new (o := HO.lst Y2) nm2)).ne nr2
    have h4 : upd (upd H4 m2 (.lst Y2)) r2 (.lst (X3 ++ Y2)) r2 = some (.lst (X3 ++ Y2)) := upd_same
    generalize upd (upd H4 m2 (.lst Y2)) r2 (.lst (X3 ++ Y2)) = H5 at T5 B5 h4 ⊢
    generalize X3 ++ Y2 = X4 at b4 h4 ⊢
    refine ⟨_, rfl, by omega, by omega, ?_⟩
    refine for_range (lo := 0) (n := 4) (fun i σ H' => (∃ x3 x4 x5 x6 x7 : Option V, σ = [some (.ref a), some (.ref bg), some (.ref r2), x3, x4, x5, x6, x7]) ∧ Bag H' bg ∧ Tabs [(Pt, (PyProof.Rows.envOfC "law" (defScope sLaw) s.heap.objs.size f (.ref c)).qual ++ "<lambda>")] H' ∧ H' r2 = some (.lst X4)) ⟨⟨_, _, _, _, _, rfl⟩, B5, T5, h4⟩ ?_ ?_
    · rintro i σ H6 hi ⟨⟨x3, x4, x5, x6, x7, rfl⟩, B6, T6, h6⟩
      refine ⟨_, rfl, bg, 5, rfl, B6, by decide, by decide, fun d H7 d0 d5 B7 K7 => ⟨1, d, rfl, rfl, ?_⟩⟩
      obtain ⟨m, rfl⟩ := Int.eq_ofNat_of_zero_le d0
      rw [show ((fun i j : Int => V.int (i + j)) 1 (m : Int)) = V.int ((m + 1 : Nat) : Int) from congrArg V.int (by omega)]
      have T7 := Tabs.keep T6 B6 K7
      have h7 := K7.1 _ _ L5 h6
      refine ⟨_, rfl, _, rfl, bg, m + 1, rfl, B7, by omega, fun l us H8 B8 K8 hl l8 du => ⟨l, us, rfl, hl, l8, du, fun z H9 lz s9 => ?_⟩⟩
      have T9 := Tabs.ext (Tabs.keep T7 B7 K8) s9
      have h9 := s9 _ _ (K8.1 _ _ L5 h7)
      have B9 := B8.same s9
      refine ⟨_, rfl, bg, 3, rfl, B9, by decide, by decide, fun d2 H10 d20 d23 B10 K10 => ⟨1, d2, rfl, rfl, ?_⟩⟩
      obtain ⟨m2', rfl⟩ := Int.eq_ofNat_of_zero_le d20
      rw [show ((fun i j : Int => V.int (i + j)) 1 (m2' : Int)) = V.int ((m2' + 1 : Nat) : Int) from congrArg V.int (by omega)]
      refine ⟨_, rfl, by omega, by omega, ?_⟩
      refine for_range (lo := 0) (n := m2' + 1) (fun j σ H' => (∃ (zt : Str) (y3 y6 y7 : Option V), σ = [some (.ref a), some (.ref bg), some (.ref r2), y3, some (.int ((m + 1 : Nat) : Int)), some (.str zt), y6, y7] ∧ zt.length ≤ 700 + 9 * j) ∧ Bag H' bg ∧ Tabs [(Pt, (PyProof.Rows.envOfC "law" (defScope sLaw) s.heap.objs.size f (.ref c)).qual ++ "<lambda>")] H' ∧ H' r2 = some (.lst X4)) ⟨⟨z, _, _, _, rfl, by omega⟩, B10, Tabs.keep T9 B9 K10, K10.1 _ _ L5 h9⟩ ?_ ?_
      · rintro j σ H11 hj ⟨⟨zt, y3, y6, y7, rfl, lzt⟩, B11, T11, h11⟩
        refine ⟨_, rfl, _, rfl, bg, zt, rfl, B11, by omega, fun y H12 ly B12 K12 => ?_⟩
        exact ⟨⟨y, _, _, _, rfl, by omega⟩, B12, Tabs.keep T11 B11 K12, K12.1 _ _ L5 h11⟩
      · rintro σ H11 ⟨⟨zt, y3, y6, y7, rfl, lzt⟩, B11, T11, h11⟩
        refine ⟨_, rfl, _, rfl, _, _, rfl, rfl, by show (0 : Int) < 5; decide, _, _, rfl, rfl, by show 2 ≤ sizeLine; decide, fun q nq => ?_⟩
        have sq := same_new (o := HO.lst [V.int ((m + 1 : Nat) : Int), .int (((m + 1 : Nat) : Int) % 5 + 1)]) nq
        have T12 := Tabs.ext T11 sq
        refine ⟨q, rfl, ⟨_, SqL.of upd_same⟩, for_list (xs := [V.int ((m + 1 : Nat) : Int), .int (((m + 1 : Nat) : Int) % 5 + 1)]) (fun j σ H' => (∃ y3 y6 y7 : Option V, σ = [some (.ref a), some (.ref bg), some (.ref r2), y3, some (.int ((m + 1 : Nat) : Int)), some (.str zt), y6, y7]) ∧ Bag H' bg ∧ Tabs [(Pt, (PyProof.Rows.envOfC "law" (defScope sLaw) s.heap.objs.size f (.ref c)).qual ++ "<lambda>")] H' ∧ H' r2 = some (.lst X4) ∧ H' q = some (.lst [V.int ((m + 1 : Nat) : Int), .int (((m + 1 : Nat) : Int) % 5 + 1)])) ⟨⟨_, _, _, rfl⟩, B11.same sq, T12, sq _ _ h11, upd_same⟩ (fun j σ H' _ z => SqL.of z.2.2.2.2) ?_ ?_⟩
        · rintro j v σ H12 hv ⟨⟨y3, y6, y7, rfl⟩, B12, T12, h12, hq⟩
          obtain ⟨mn, rfl⟩ : ∃ mn : Nat, v = .int (mn : Int) := by
            have mv := List.mem_of_getElem? hv
            rcases List.mem_cons.mp mv with rfl | mv
            · exact ⟨m + 1, rfl⟩
            · rw [List.mem_singleton.mp mv]
              exact ⟨(m + 1) % 5 + 1, congrArg V.int (by omega)⟩
          refine ask_ok SB T12 (by omega) (fun H' Q' z => ⟨_, rfl, z⟩) (fun H' Q' z => ⟨_, rfl, z⟩) fun H13 ext T13 => ⟨_, rfl, iteF ?_⟩
          exact ⟨⟨_, _, _, rfl⟩, B12.extN ext, T13, ext _ _ h12 (fun ps z => by cases z), ext _ _ hq (fun ps z => by cases z)⟩
        · rintro σ H12 ⟨⟨y3, y6, y7, rfl⟩, B12, T12, h12, hq⟩
          exact ⟨⟨_, _, _, _, _, rfl⟩, B12, T12, h12⟩
    · rintro σ H6 ⟨⟨x3, x4, x5, x6, x7, rfl⟩, B6, T6, h6⟩
      refine ⟨_, rfl, r2, rfl, ⟨_, SqL.of h6⟩, for_list (xs := X4) (fun j σ H' => (∃ x3 x4 x5 x6 x7 : Option V, σ = [some (.ref a), some (.ref bg), some (.ref r2), x3, x4, x5, x6, x7]) ∧ Tabs [(Pt, (PyProof.Rows.envOfC "law" (defScope sLaw) s.heap.objs.size f (.ref c)).qual ++ "<lambda>")] H' ∧ H' r2 = some (.lst X4)) ⟨⟨_, _, _, _, _, rfl⟩, T6, h6⟩ (fun j σ H' _ z => SqL.of z.2.2) ?_ ?_⟩
      · rintro j v σ H7 hv ⟨⟨x3, x4, x5, x6, x7, rfl⟩, T7, h7⟩
        obtain ⟨zt, rfl, lz⟩ := txt_of b4.1 (List.mem_of_getElem? hv)
        refine ask_ok (many := 2) SB T7 lz (fun H' Q' z => ⟨_, rfl, z⟩) (fun H' Q' z => z) fun H13 ext T13 => ⟨_, rfl, iteF ?_⟩
        exact ⟨⟨_, _, _, _, _, rfl⟩, T13, ext _ _ h7 (fun ps z => by cases z)⟩
      · rintro σ H7 ⟨⟨x3, x4, x5, x6, x7, rfl⟩, T7, h7⟩
        exact k _
theorem law_whole {f c Pt fI aN : Addr} {fdI : FuncData} {kV doc pm ct oc : Value} {an od : Option Addr} {osl : Array (Option Value)} {fT fB fP fO fS fW fG fBe fPt fWo fNu : Addr} {fdT fdB fdP fdO fdS fdW fdG fdBe fdPt fdWo fdNu : FuncData} {tw t5 : PySem.Tok}
    (lk : K.lookup f = some ⟨oc, od, .func (PySem.W.fnOf "law" "law" (defArgs sLaw) (defBody sLaw) (defScope sLaw) .none kV doc pm an (.ref c) ct), osl⟩) (hcd : PySem.W.codeIn K (.ref c) "law" = true) (TB : TabB base mg c Pt)
    (b : Blt mg) (en : mg "enumerate" = none) (Ww : mg "WORTHS" = some (.int 32 tw)) (Wf : mg "FIGURES" = some (.int 5 t5)) (Di : ∃ t, mg "DIGITS" = some (.str digs t)) (Md : ∃ t, mg "MOST_DIGITS" = some (.int 4 t)) (gN : mg "NUMBERS" = some (.ref aN)) (T : KindTab K w aN)
    (ER : Errs mg Ta NT NR BT Uf Fu TM QE No) (SB : Second K Ta NT NR BT Uf CB) (EB : ErrF K mg CB fI fdI)
    (aB : At K mg "_law_bag" sBag ["_law_script"] fB fdB) (aP : At K mg "_law_pull" sPull ["_law_bag_here", "_law_size"] fP fdP) (aO : At K mg "_law_of" sOf ["_law_bag_here", "_law_some"] fO fdO) (aS : At K mg "_law_same" sSame ["_law_found", "_law_due"] fS fdS) (aT : At K mg "_law_tried" sTried ["_law_ask"] fT fdT)
    (aW : At K mg "_law_worth" sWorth ["_law_bag_here"] fW fdW) (aG : At K mg "_law_figs" sFigs ["_law_worth_here"] fG fdG) (aBe : At K mg "_law_begin" sBegin ["_law_bag_here"] fBe fdBe) (aPt : At K mg "_law_point" sPoint ["_law_bag_here", "_law_many"] fPt fdPt)
    (ab : AtE K mg "_law_any_box" sLawAnyBox ["_law_bag_here", "_law_many"]) (as : AtE K mg "_law_any_steps" sLawAnySteps ["_law_bag_here", "_law_many", "_law_most"]) (st : AtE K mg "_law_step_text" sLawStepText ["_law_step"]) (px : AtE K mg "_law_paper_text" sLawPaperText ["_law_paper"])
    (rn : AtE K mg "_law_read_number" sLawReadNumber ["_law_word"]) (rb : AtE K mg "_law_read_begin" sLawReadBegin ["_law_word"]) (rs : AtE K mg "_law_read_step" sLawReadStep ["_law_row", "_law_many"]) (rp : AtE K mg "_law_read_paper" sLawReadPaper ["_law_text", "_law_many"]) (br : AtE K mg "_law_bent_rows" sLawBentRows ["_law_bag_here", "_law_text"])
    (aNu : At K mg "is_number" sIsNumber ["thing", "low", "behind"] fNu fdNu) (aWo : At K mg "is_worth" sIsWorth ["thing"] fWo fdWo) (ib : AtE K mg "is_beginning" sIsBeg ["thing"]) (ni : AtE K mg "number_in" sNumberIn ["part"]) (bi : AtE K mg "beginning_in" sBeginningIn ["part"]) (xi : AtE K mg "box_in" sBoxIn ["part", "many"])
    (pi : AtE K mg "point_in" sPointIn ["parts", "many"]) (si : AtE K mg "step_in" sStepIn ["row", "many"]) (rd : AtE K mg "read_paper" sReadPaper ["text", "many"]) :
    FnOk P w K mg base CX0 8 f (PySem.W.fnOf "law" "law" (defArgs sLaw) (defBody sLaw) (defScope sLaw) .none kV doc pm an (.ref c) ct) ["_law_script"] (spLaw K Pt) := by
  have hP : Has P w K mg base CX0 1 "_law_pull" sPull ["_law_bag_here", "_law_size"] spPull := ⟨_, _, aP, ok_pull aP.fn b.len⟩
  have hO : Has P w K mg base CX0 2 "_law_of" sOf ["_law_bag_here", "_law_some"] (spOf K) := ⟨_, _, aO, ok_of aO.fn b.len aP⟩
  have hBe : Has P w K mg base CX0 4 "_law_begin" sBegin ["_law_bag_here"] spBegin := ⟨_, _, aBe, ok_begin aBe.fn b aP aO aW aG⟩
  have hPt : Has P w K mg base CX0 4 "_law_point" sPoint ["_law_bag_here", "_law_many"] (spTupDraw IsW) := ⟨_, _, aPt, ok_point aPt.fn b aW (ok_worth aW.fn b.len aP aO)⟩
  have hWo : Has P w K mg base CX0 2 "is_worth" sIsWorth ["thing"] (spIsWorth K) := ⟨_, _, aWo, ok_isworth ⟨aWo, _, _, aNu⟩ b Ww⟩
  have hNi := has_numin (P := P) (w := w) (base := base) b Di Md ni
  have hBi := has_begin (P := P) (w := w) (base := base) b ⟨_, Wf⟩ ib bi
  have hSi := has_stepin b gN T hNi (has_boxin b hBi xi) (has_pointin b hNi hWo pi) si
  have hRs := has_lstep (P := P) (w := w) (base := base) b (has_lnum b rn) (has_lbeg b rb) rs
  exact ok_law lk hcd TB b ER SB aT ⟨_, _, aB, ok_bag aB.fn b.list⟩ hP ⟨_, _, aS, ok_same aS b 4⟩ (has_anysteps b hP hO hPt (has_anybox b hBe ab) as) (has_papertext b (has_steptext b st) px) (has_bent b hP hO br) (has_readpaper b en EB hSi rd) (has_lpaper b en hRs rp)
end
end VQ
namespace VQ
open PySem L2 LamX
/-! ### what the top has left -/
def oexB (K : PySem.W.Frag) (C : Addr) : Bool := match K.lookup C with
  | some ⟨cl, _, .cls cd, sl⟩ => decide (cl = .type "type") && (match cd.mro with
    | top :: bm => decide (top = .ref C) && PySem.HandSPX.refsVE bm
    | [] => false) && decide (sl.size = 6) && decide (sl[4]? = some (some (.builtin "ValueError.__new__"))) && cd.hasDict && !cd.hasDel
  | _ => false
theorem six {sl : Array (Option Value)} {v : Option Value} (h : sl.size = 6) (e : sl[4]? = some v) : ∃ k0 k1 k2 k3 k5, sl = #[k0, k1, k2, k3, v, k5] := by
  obtain ⟨l⟩ := sl
  match l, h, e with
  | [k0, k1, k2, k3, k4, k5], _, e =>
    cases e
    exact ⟨k0, k1, k2, k3, k5, rfl⟩
theorem oexB_ok {K : PySem.W.Frag} {C : Addr} (q : oexB K C = true) : ∃ nm q N bs bm sn sub ab col dd k0 k1 k2 k3 k5, K.lookup C = some (excClassObj nm q C N bs bm true sn sub ab col dd k0 k1 k2 k3 k5 "ValueError.__new__") ∧ PySem.HandSPX.refsVE bm = true := by
  unfold oexB at q
  cases here : K.lookup C with
  | none => rw [here] at q; cases q
  | some o =>
    obtain ⟨cl, dc, dt, sl⟩ := o
    rw [here] at q
    cases dt with
    | cls cd =>
      obtain ⟨nm, bs, mro, ns, qn, hasD, sn, sub, ab, col, del⟩ := cd
      cases mro with
      | nil => simp at q
      | cons first bm =>
        simp only [Bool.and_eq_true, decide_eq_true_eq, Bool.not_eq_true'] at q
        obtain ⟨⟨⟨⟨⟨q1, q2, q3⟩, q4⟩, q5⟩, q6⟩, q7⟩ := q
        obtain ⟨k0, k1, k2, k3, k5, rfl⟩ := six q4 q5
        subst q1 q2 q6 q7
        exact ⟨nm, qn, ns, bs, bm, sn, sub, ab, col, dc, k0, k1, k2, k3, k5, rfl, q3⟩
    | _ => cases q
/-- an error class of the program: made by its own __init__, its field called -/
def errB (K : PySem.W.Frag) (x : Str) : Bool := oexB K (He.ga K x) && (decide (PySem.W.findIn K (.ref (He.ga K x)) "__setattr__" = some (some (.builtin "object.__setattr__"))) &&
  (decide (PySem.W.subIn K (.ref (He.ga K x)) (.type "BaseException") = some true) && (decide (PySem.W.typeIn K (.ref (He.ga K x)) = some (.type "type")) && (PySem.W.keepIn K (.ref (He.ga K x)) &&
  (decide (PySem.W.findIn K (.ref (He.ga K x)) "__init__" = some (some (.ref (He.ma K (He.ga K x) "__init__")))) && (decide (PySem.W.typeIn K (.ref (He.ma K (He.ga K x) "__init__")) = some (.type "function")) &&
  decide (PySem.W.findIn K (.ref (He.ga K x)) "called" = some none)))))))
theorem errB_ok {K : PySem.W.Frag} {mg : Str → Option Value} {x qual : Str} {st : Stmt} {fd : FuncData} (h : errB K x = true) (gl : mg x = some (.ref (He.ga K x))) (fn : Fun K "__init__" qual st (He.ma K (He.ga K x) "__init__") fd) (bd : Binds K fd ["self"] []) :
    ErrC K mg x (He.ga K x) (He.ma K (He.ga K x) "__init__") fd qual st := by
  obtain ⟨h1, h⟩ := He.ba h
  obtain ⟨h2, h⟩ := He.ba h
  obtain ⟨h3, h⟩ := He.ba h
  obtain ⟨h4, h⟩ := He.ba h
  obtain ⟨h5, h⟩ := He.ba h
  obtain ⟨h6, h⟩ := He.ba h
  obtain ⟨h7, h8⟩ := He.ba h
  exact ⟨gl, ⟨oexB_ok h1, of_decide_eq_true h2, of_decide_eq_true h3, of_decide_eq_true h4, h5⟩, of_decide_eq_true h6, of_decide_eq_true h7, of_decide_eq_true h8, fn, bd⟩
theorem fun_of_D {K : PySem.W.Frag} {x qual : Str} {st : Stmt} {f : Addr} {fd : FuncData} (F : FunD K x qual (defArgs st) (defBody st) (defScope st) [] [] f fd) : Fun K x qual st f fd := by
  obtain ⟨oc, od, dV, kV, doc, pm, an, cdv, ct, osl, e, lk, cd, dv, kw⟩ := F.ex
  rcases dv with ⟨_, rfl⟩ | ⟨z, _⟩
  · exact ⟨⟨oc, od, kV, doc, pm, an, cdv, ct, osl, e, lk, cd⟩, F.kp⟩
  · exact absurd rfl z
/-- a def of the top -/
def dd (x : Str) (st : Stmt) : He.DefD := ⟨(x, none), x, x, defArgs st, defBody st, defScope st, [], []⟩
def dm (c m q : Str) (st : Stmt) : He.DefD := ⟨(c, some m), m, q, defArgs st, defBody st, defScope st, [], []⟩
end VQ
namespace VQ
open PySem L2 LamX
def plainB (K : PySem.W.Frag) (x : Str) : Bool := decide (PySem.W.exmAny K (.ref (He.ga K x)) [.ref (He.ga K "Taken"), .ref (He.ga K "NoTable"), .ref (He.ga K "NoRow")] = some false) &&
  (decide (PySem.W.exmAny K (.ref (He.ga K x)) [.ref (He.ga K "BadText"), .ref (He.ga K "Unfit")] = some false) && (decide (PySem.W.exmAny K (.ref (He.ga K x)) [.ref (He.ga K "Full")] = some false) &&
  (decide (PySem.W.exmAny K (.ref (He.ga K x)) [.ref (He.ga K "TooMany")] = some false) && (decide (PySem.W.exmAny K (.ref (He.ga K x)) [.ref (He.ga K "QuiltError"), .ref (He.ga K "Nothing")] = some true) &&
  (xfB K (He.ga K x) && decide (PySem.W.findIn K (.ref (He.ga K x)) "called" = some none))))))
theorem plainB_ok {K : PySem.W.Frag} {x : Str} (h : plainB K x = true) : Plain K (He.ga K "Taken") (He.ga K "NoTable") (He.ga K "NoRow") (He.ga K "BadText") (He.ga K "Unfit") (He.ga K "Full") (He.ga K "TooMany") (He.ga K "QuiltError") (He.ga K "Nothing") (He.ga K x) := by
  obtain ⟨h1, h⟩ := He.ba h
  obtain ⟨h2, h⟩ := He.ba h
  obtain ⟨h3, h⟩ := He.ba h
  obtain ⟨h4, h⟩ := He.ba h
  obtain ⟨h5, h⟩ := He.ba h
  obtain ⟨h6, h7⟩ := He.ba h
  exact ⟨of_decide_eq_true h1, of_decide_eq_true h2, of_decide_eq_true h3, of_decide_eq_true h4, of_decide_eq_true h5, xfB_ok h6, of_decide_eq_true h7⟩
end VQ
namespace VQ
open PySem L2 LamX
/-! ### a class of the program as the top has left it -/
def clsB (K : PySem.W.Frag) (x : Str) : Bool := PySem.W.plainGet K (He.ga K x) Str.empty && (PySem.W.hasDictIn K (He.ga K x) && (PySem.W.plainOver K (He.ga K x) && decide (PySem.W.findIn K (.ref (He.ga K x)) "__setattr__" = some (some (.builtin "object.__setattr__")))))
theorem clsB_ok {K : PySem.W.Frag} {x : Str} (h : clsB K x = true) : Cls K (He.ga K x) := by
  obtain ⟨h1, h⟩ := He.ba h
  obtain ⟨h2, h⟩ := He.ba h
  obtain ⟨h3, h4⟩ := He.ba h
  exact ⟨h1, h2, h3, of_decide_eq_true h4⟩
def noB (K : PySem.W.Frag) (x f : Str) : Bool := decide (PySem.W.findIn K (.ref (He.ga K x)) f = some none)
theorem noB_ok {K : PySem.W.Frag} {x f : Str} (h : noB K x f = true) : NoAttr K (He.ga K x) f := by
  show PySem.W.findIn K (.ref (He.ga K x)) f = some none
  exact of_decide_eq_true h
def methB (K : PySem.W.Frag) (x m : Str) : Bool := decide (PySem.W.findIn K (.ref (He.ga K x)) m = some (some (.ref (He.ma K (He.ga K x) m)))) && (PySem.W.isFn K (.ref (He.ma K (He.ga K x) m)) && PySem.W.keepIn K (.ref (He.ma K (He.ga K x) m)))
theorem methB_ok {K : PySem.W.Frag} {x m : Str} (h : methB K x m = true) : Meth K (He.ga K x) m (He.ma K (He.ga K x) m) := by
  obtain ⟨h1, h⟩ := He.ba h
  obtain ⟨h2, h3⟩ := He.ba h
  exact ⟨of_decide_eq_true h1, h2, h3⟩
def mkB (K : PySem.W.Frag) (x : Str) : Bool := PySem.W.makesIn K (He.ga K x) && (decide (PySem.W.findIn K (.ref (He.ga K x)) "__init__" = some (some (.ref (He.ma K (He.ga K x) "__init__")))) && (PySem.W.isFn K (.ref (He.ma K (He.ga K x) "__init__")) && PySem.W.keepIn K (.ref (He.ga K x))))
theorem mkB_ok {K : PySem.W.Frag} {x : Str} (h : mkB K x = true) : Mk K (He.ga K x) (He.ma K (He.ga K x) "__init__") := by
  obtain ⟨h1, h⟩ := He.ba h
  obtain ⟨h2, h⟩ := He.ba h
  obtain ⟨h3, h4⟩ := He.ba h
  exact ⟨h1, of_decide_eq_true h2, h3, h4⟩
end VQ
namespace VQ
open PySem L2 LamX
/-! ### BadText as the top has left it; tables -/
def fldB (K : PySem.W.Frag) : Bool := errB K "BadText" && decide (PySem.W.findIn K (.ref (He.ga K "BadText")) "at" = some none)
theorem fldB_ok {K : PySem.W.Frag} {mg : Str → Option Value} {fd : FuncData} (h : fldB K = true) (gl : mg "BadText" = some (.ref (He.ga K "BadText"))) (fn : Fun K "__init__" "BadText.__init__" sBadText (He.ma K (He.ga K "BadText") "__init__") fd) (bd : Binds K fd ["self", "at"] []) :
    ErrF K mg (He.ga K "BadText") (He.ma K (He.ga K "BadText") "__init__") fd := by
  obtain ⟨h, h9⟩ := He.ba h
  obtain ⟨h1, h⟩ := He.ba h
  obtain ⟨h2, h⟩ := He.ba h
  obtain ⟨h3, h⟩ := He.ba h
  obtain ⟨h4, h⟩ := He.ba h
  obtain ⟨h5, h⟩ := He.ba h
  obtain ⟨h6, h⟩ := He.ba h
  obtain ⟨h7, h8⟩ := He.ba h
  exact ⟨gl, ⟨oexB_ok h1, of_decide_eq_true h2, of_decide_eq_true h3, of_decide_eq_true h4, h5⟩, of_decide_eq_true h6, of_decide_eq_true h7, of_decide_eq_true h8, of_decide_eq_true h9, fn, bd⟩
def secB (K : PySem.W.Frag) : Bool := decide (PySem.W.exmAny K (.ref (He.ga K "BadText")) [.ref (He.ga K "Taken"), .ref (He.ga K "NoTable"), .ref (He.ga K "NoRow")] = some false) &&
  (decide (PySem.W.exmAny K (.ref (He.ga K "BadText")) [.ref (He.ga K "BadText"), .ref (He.ga K "Unfit")] = some true) && (xfB K (He.ga K "BadText") && (decide (PySem.W.findIn K (.ref (He.ga K "BadText")) "called" = some none) && decide (PySem.W.findIn K (.ref (He.ga K "BadText")) "at" = some none))))
theorem secB_ok {K : PySem.W.Frag} (h : secB K = true) : Second K (He.ga K "Taken") (He.ga K "NoTable") (He.ga K "NoRow") (He.ga K "BadText") (He.ga K "Unfit") (He.ga K "BadText") := by
  obtain ⟨h1, h⟩ := He.ba h
  obtain ⟨h2, h⟩ := He.ba h
  obtain ⟨h3, h⟩ := He.ba h
  obtain ⟨h4, h5⟩ := He.ba h
  exact ⟨of_decide_eq_true h1, of_decide_eq_true h2, xfB_ok h3, of_decide_eq_true h4, of_decide_eq_true h5⟩
/-- a table of the top: its keys, its values -/
theorem tab_ok {K : PySem.W.Frag} {w : World} {x : Str} {kvs : List (Str × He.Dv)} (kd : ∃ es n, KDict K w (He.ga K x) es n) (hv : He.valsB K (He.ga K x) kvs = true) (hk : keysB K (He.ga K x) (kvs.map (·.1)) = true) : TabK K w (He.ga K x) (kvs.map fun q => (q.1, He.Dv.v K q.2)) := by
  refine ⟨kd, fun p mp => ?_, fun z nz => keysB_no hk (fun m => nz ?_)⟩
  · obtain ⟨q, mq, rfl⟩ := List.mem_map.mp mp
    exact He.valsB_ok hv mq
  · rw [List.map_map]
    exact m
end VQ
/-! ### the head: what the top has left, by names -/
namespace VQ
open PySem L2 LamX
def fn : List He.DefD := [dd "_law_bag" sBag, dd "_law_pull" sPull, dd "_law_of" sOf, dd "_law_same" sSame, dd "_law_tried" sTried, dd "_law_worth" sWorth, dd "_law_figs" sFigs, dd "_law_begin" sBegin, dd "_law_point" sPoint, dd "_law_any_box" sLawAnyBox, dd "_law_any_steps" sLawAnySteps, dd "_law_step_text" sLawStepText, dd "_law_paper_text" sLawPaperText, dd "_law_read_number" sLawReadNumber, dd "_law_read_begin" sLawReadBegin, dd "_law_read_step" sLawReadStep, dd "_law_read_paper" sLawReadPaper, dd "_law_bent_rows" sLawBentRows, dd "is_number" sIsNumber, dd "is_worth" sIsWorth, dd "is_beginning" sIsBeg, dd "number_in" sNumberIn, dd "beginning_in" sBeginningIn, dd "box_in" sBoxIn, dd "point_in" sPointIn, dd "step_in" sStepIn, dd "read_paper" sReadPaper, dm "BadText" "__init__" "BadText.__init__" sBadText, dd "law" sLaw]
def fa : List He.Fa := [.free "isinstance", .free "int", .free "bool", .free "str", .free "list", .free "tuple", .free "len", .free "all", .free "range", .free "enumerate", .int "WORTHS" 32, .int "FIGURES" 5, .int "MOST_DIGITS" 4, .str "DIGITS" "0123456789", .glo "NUMBERS", .glo "Taken", .glo "NoTable", .glo "NoRow", .glo "BadText", .glo "Unfit", .glo "Full", .glo "TooMany", .glo "QuiltError", .glo "Nothing", .glo "_law_bag", .glo "_law_pull", .glo "_law_of", .glo "_law_same", .glo "_law_tried", .glo "_law_worth", .glo "_law_figs", .glo "_law_begin", .glo "_law_point", .glo "_law_any_box", .glo "_law_any_steps", .glo "_law_step_text", .glo "_law_paper_text", .glo "_law_read_number", .glo "_law_read_begin", .glo "_law_read_step", .glo "_law_read_paper", .glo "_law_bent_rows", .glo "is_number", .glo "is_worth", .glo "is_beginning", .glo "number_in", .glo "beginning_in", .glo "box_in", .glo "point_in", .glo "step_in", .glo "read_paper", .glo "law"]
def ex (K : PySem.W.Frag) : Bool := (true) && ((He.valsB K (He.ga K "NUMBERS") [("empty", .int 1), ("less", .int 1), ("joined", .int 2)]) && ((keysB K (He.ga K "NUMBERS") ["empty", "less", "joined"]) && ((fldB K) && (secB K))))
def ts : List He.Tab := [((fun K => He.ga K "NUMBERS"), ["empty", "less", "joined"])]
abbrev Rw : PySem.W.OpenRow := PySem.W.OpenLaw.row PySem.Challenge.rw_voidquilt_k37_texts_that_are_no_papers
abbrev hk : PySem.W.Hook := He.hookX 6 fa fn ts [("law", none)] ex
def ob (s : PySem.W.SharedT) : He.AlX := He.obsX 6 fa fn ts [("law", none)] ex (HandSHeadRun.getT s)
theorem ob_eq (s : PySem.W.SharedT) : ob s = hk.obs s.abs := He.obsX_eq (HandSHeadRun.getT_eq s)
def loose : List PySem.Str := (["QuiltError", "Taken", "Full", "BadText", "Unfit", "TooMany", "Missing", "NoTable", "NoRow", "Nothing", "WORTHS", "FIGURES", "is_number", "is_worth", "is_beginning", "DIGITS", "MOST_DIGITS", "number_in", "beginning_in", "box_in", "point_in", "NUMBERS", "step_in", "read_paper", "_law_bag", "_law_pull", "_law_of", "_law_same", "_law_tried", "_law_worth"] : List PySem.Str) ++ (["_law_figs", "_law_begin", "_law_point", "_law_any_box", "_law_any_steps", "_law_step_text", "_law_paper_text", "_law_read_number", "_law_read_begin", "_law_read_step", "_law_read_paper", "_law_bent_rows"] : List PySem.Str)
theorem run (w : World) : HandSHeadRun.RunEq Rw (PySem.W.view Rw.prog [46]) hk ob 40000 loose w := by
  refine PySem.W.byRow2 "special-get-raises" (P := fun w => HandSHeadRun.RunEq Rw (PySem.W.view Rw.prog [46]) hk ob 40000 loose w) (fun w os => ?_) (fun w os => ?_) w
  · kernel_rfl
  · kernel_rfl
theorem at_of {K : PySem.W.Frag} {h : Heap} {mg : Str → Option Value} (X : K.In h) (G : h.Ns mainGlobals mg) {x : Str} {st : Stmt} {ps : List Str} (c : He.SaysD fa fn K) (m : dd x st ∈ fn) (g : He.Fa.glo x ∈ fa)
    (hb : ∀ (kV doc pm : Value) (an : Option Addr) (cdv ct : Value) (us : List Value), us.length = ps.length → bindArgs (PySem.W.fnOf x x (defArgs st) (defBody st) (defScope st) .none kV doc pm an cdv ct) ⟨us, []⟩ = pure (ps.zip us)) : ∃ fd, At K mg x st ps (He.ga K x) fd := by
  obtain ⟨fd, F⟩ := c.defs m
  have F' : Fun K x x st (He.ga K x) fd := fun_of_D F
  exact ⟨fd, F', He.glo_ok X G (c.facts g), F'.binds hb⟩
theorem facts {l : PySem.W.OpenLaw} {w : World} {K : PySem.W.Frag} {h : Heap} {mg : Str → Option Value} {f : Addr} (X : K.In h) (G : h.Ns mainGlobals mg) (hfa : mg ("law" : Str) = some (.ref f)) (S : He.SaysX fa fn ts [("law", none)] ex w h K) : LawAtS l w K CX0 8 63 "_law_script" mg f h := by
  have c : He.SaysD fa fn K := S.t.d
  have gl : ∀ {x : Str}, He.Fa.glo x ∈ fa → mg x = some (.ref (He.ga K x)) := fun m => He.glo_ok X G (c.facts m)
  have fr : ∀ {x : Str}, He.Fa.free x ∈ fa → mg x = none := fun m => He.free_ok X G (c.facts m)
  obtain ⟨tkWORTHS, iWORTHS⟩ := He.int_ok X G (x := "WORTHS") (i := 32) (c.facts (by simp [fa]))
  obtain ⟨tkFIGURES, iFIGURES⟩ := He.int_ok X G (x := "FIGURES") (i := 5) (c.facts (by simp [fa]))
  obtain ⟨tkMOST_DIGITS, iMOST_DIGITS⟩ := He.int_ok X G (x := "MOST_DIGITS") (i := 4) (c.facts (by simp [fa]))
  obtain ⟨tkDIGITS, iDIGITS⟩ := He.str_ok X G (x := "DIGITS") (z := "0123456789") (c.facts (by simp [fa]))
  have gNUMBERS := gl (x := "NUMBERS") (by simp [fa])
  have b : Blt mg := ⟨fr (by simp [fa]), fr (by simp [fa]), fr (by simp [fa]), fr (by simp [fa]), fr (by simp [fa]), fr (by simp [fa]), fr (by simp [fa]), fr (by simp [fa]), fr (by simp [fa])⟩
  have fenumerate : mg "enumerate" = none := fr (by simp [fa])
  have ER : Errs mg (He.ga K "Taken") (He.ga K "NoTable") (He.ga K "NoRow") (He.ga K "BadText") (He.ga K "Unfit") (He.ga K "Full") (He.ga K "TooMany") (He.ga K "QuiltError") (He.ga K "Nothing") :=
    ⟨gl (by simp [fa]), gl (by simp [fa]), gl (by simp [fa]), gl (by simp [fa]), gl (by simp [fa]), gl (by simp [fa]), gl (by simp [fa]), gl (by simp [fa]), gl (by simp [fa])⟩
  have tNUMBERS : ∃ es n, KDict K w (He.ga K "NUMBERS") es n := S.t.tab 0
  obtain ⟨fdIBadText, FIBadText⟩ := c.defs (d := dm "BadText" "__init__" "BadText.__init__" sBadText) (by simp [fn])
  have FFBadText : Fun K "__init__" "BadText.__init__" sBadText (He.ma K (He.ga K "BadText") "__init__") fdIBadText := fun_of_D FIBadText
  have bFBadText : Binds K fdIBadText ["self", "at"] [] := FFBadText.binds fun _ _ _ _ _ _ us hl => match us, hl with | [_, _], _ => rfl
  have more : ex K = true := S.more
  unfold ex at more
  obtain ⟨_, cmore⟩ := He.ba more
  obtain ⟨cb0, cmore⟩ := He.ba cmore
  obtain ⟨cb1, cmore⟩ := He.ba cmore
  obtain ⟨cb2, cmore⟩ := He.ba cmore
  have cb3 := cmore
  have vNUM := id cb0
  have kNUM := id cb1
  have fBT := id cb2
  have sBT := secB_ok cb3
  obtain ⟨fd_law_bag, a_law_bag⟩ := at_of (x := "_law_bag") (st := sBag) (ps := ["_law_script"]) X G c (by simp [fn]) (by simp [fa]) fun _ _ _ _ _ _ us hl => match us, hl with | [_], _ => rfl
  obtain ⟨fd_law_pull, a_law_pull⟩ := at_of (x := "_law_pull") (st := sPull) (ps := ["_law_bag_here", "_law_size"]) X G c (by simp [fn]) (by simp [fa]) fun _ _ _ _ _ _ us hl => match us, hl with | [_, _], _ => rfl
  obtain ⟨fd_law_of, a_law_of⟩ := at_of (x := "_law_of") (st := sOf) (ps := ["_law_bag_here", "_law_some"]) X G c (by simp [fn]) (by simp [fa]) fun _ _ _ _ _ _ us hl => match us, hl with | [_, _], _ => rfl
  obtain ⟨fd_law_same, a_law_same⟩ := at_of (x := "_law_same") (st := sSame) (ps := ["_law_found", "_law_due"]) X G c (by simp [fn]) (by simp [fa]) fun _ _ _ _ _ _ us hl => match us, hl with | [_, _], _ => rfl
  obtain ⟨fd_law_tried, a_law_tried⟩ := at_of (x := "_law_tried") (st := sTried) (ps := ["_law_ask"]) X G c (by simp [fn]) (by simp [fa]) fun _ _ _ _ _ _ us hl => match us, hl with | [_], _ => rfl
  obtain ⟨fd_law_worth, a_law_worth⟩ := at_of (x := "_law_worth") (st := sWorth) (ps := ["_law_bag_here"]) X G c (by simp [fn]) (by simp [fa]) fun _ _ _ _ _ _ us hl => match us, hl with | [_], _ => rfl
  obtain ⟨fd_law_figs, a_law_figs⟩ := at_of (x := "_law_figs") (st := sFigs) (ps := ["_law_worth_here"]) X G c (by simp [fn]) (by simp [fa]) fun _ _ _ _ _ _ us hl => match us, hl with | [_], _ => rfl
  obtain ⟨fd_law_begin, a_law_begin⟩ := at_of (x := "_law_begin") (st := sBegin) (ps := ["_law_bag_here"]) X G c (by simp [fn]) (by simp [fa]) fun _ _ _ _ _ _ us hl => match us, hl with | [_], _ => rfl
  obtain ⟨fd_law_point, a_law_point⟩ := at_of (x := "_law_point") (st := sPoint) (ps := ["_law_bag_here", "_law_many"]) X G c (by simp [fn]) (by simp [fa]) fun _ _ _ _ _ _ us hl => match us, hl with | [_, _], _ => rfl
  obtain ⟨fd_law_any_box, a_law_any_box⟩ := at_of (x := "_law_any_box") (st := sLawAnyBox) (ps := ["_law_bag_here", "_law_many"]) X G c (by simp [fn]) (by simp [fa]) fun _ _ _ _ _ _ us hl => match us, hl with | [_, _], _ => rfl
  obtain ⟨fd_law_any_steps, a_law_any_steps⟩ := at_of (x := "_law_any_steps") (st := sLawAnySteps) (ps := ["_law_bag_here", "_law_many", "_law_most"]) X G c (by simp [fn]) (by simp [fa]) fun _ _ _ _ _ _ us hl => match us, hl with | [_, _, _], _ => rfl
  obtain ⟨fd_law_step_text, a_law_step_text⟩ := at_of (x := "_law_step_text") (st := sLawStepText) (ps := ["_law_step"]) X G c (by simp [fn]) (by simp [fa]) fun _ _ _ _ _ _ us hl => match us, hl with | [_], _ => rfl
  obtain ⟨fd_law_paper_text, a_law_paper_text⟩ := at_of (x := "_law_paper_text") (st := sLawPaperText) (ps := ["_law_paper"]) X G c (by simp [fn]) (by simp [fa]) fun _ _ _ _ _ _ us hl => match us, hl with | [_], _ => rfl
  obtain ⟨fd_law_read_number, a_law_read_number⟩ := at_of (x := "_law_read_number") (st := sLawReadNumber) (ps := ["_law_word"]) X G c (by simp [fn]) (by simp [fa]) fun _ _ _ _ _ _ us hl => match us, hl with | [_], _ => rfl
  obtain ⟨fd_law_read_begin, a_law_read_begin⟩ := at_of (x := "_law_read_begin") (st := sLawReadBegin) (ps := ["_law_word"]) X G c (by simp [fn]) (by simp [fa]) fun _ _ _ _ _ _ us hl => match us, hl with | [_], _ => rfl
  obtain ⟨fd_law_read_step, a_law_read_step⟩ := at_of (x := "_law_read_step") (st := sLawReadStep) (ps := ["_law_row", "_law_many"]) X G c (by simp [fn]) (by simp [fa]) fun _ _ _ _ _ _ us hl => match us, hl with | [_, _], _ => rfl
  obtain ⟨fd_law_read_paper, a_law_read_paper⟩ := at_of (x := "_law_read_paper") (st := sLawReadPaper) (ps := ["_law_text", "_law_many"]) X G c (by simp [fn]) (by simp [fa]) fun _ _ _ _ _ _ us hl => match us, hl with | [_, _], _ => rfl
  obtain ⟨fd_law_bent_rows, a_law_bent_rows⟩ := at_of (x := "_law_bent_rows") (st := sLawBentRows) (ps := ["_law_bag_here", "_law_text"]) X G c (by simp [fn]) (by simp [fa]) fun _ _ _ _ _ _ us hl => match us, hl with | [_, _], _ => rfl
  obtain ⟨fdis_number, ais_number⟩ := at_of (x := "is_number") (st := sIsNumber) (ps := ["thing", "low", "behind"]) X G c (by simp [fn]) (by simp [fa]) fun _ _ _ _ _ _ us hl => match us, hl with | [_, _, _], _ => rfl
  obtain ⟨fdis_worth, ais_worth⟩ := at_of (x := "is_worth") (st := sIsWorth) (ps := ["thing"]) X G c (by simp [fn]) (by simp [fa]) fun _ _ _ _ _ _ us hl => match us, hl with | [_], _ => rfl
  obtain ⟨fdis_beginning, ais_beginning⟩ := at_of (x := "is_beginning") (st := sIsBeg) (ps := ["thing"]) X G c (by simp [fn]) (by simp [fa]) fun _ _ _ _ _ _ us hl => match us, hl with | [_], _ => rfl
  obtain ⟨fdnumber_in, anumber_in⟩ := at_of (x := "number_in") (st := sNumberIn) (ps := ["part"]) X G c (by simp [fn]) (by simp [fa]) fun _ _ _ _ _ _ us hl => match us, hl with | [_], _ => rfl
  obtain ⟨fdbeginning_in, abeginning_in⟩ := at_of (x := "beginning_in") (st := sBeginningIn) (ps := ["part"]) X G c (by simp [fn]) (by simp [fa]) fun _ _ _ _ _ _ us hl => match us, hl with | [_], _ => rfl
  obtain ⟨fdbox_in, abox_in⟩ := at_of (x := "box_in") (st := sBoxIn) (ps := ["part", "many"]) X G c (by simp [fn]) (by simp [fa]) fun _ _ _ _ _ _ us hl => match us, hl with | [_, _], _ => rfl
  obtain ⟨fdpoint_in, apoint_in⟩ := at_of (x := "point_in") (st := sPointIn) (ps := ["parts", "many"]) X G c (by simp [fn]) (by simp [fa]) fun _ _ _ _ _ _ us hl => match us, hl with | [_, _], _ => rfl
  obtain ⟨fdstep_in, astep_in⟩ := at_of (x := "step_in") (st := sStepIn) (ps := ["row", "many"]) X G c (by simp [fn]) (by simp [fa]) fun _ _ _ _ _ _ us hl => match us, hl with | [_, _], _ => rfl
  obtain ⟨fdread_paper, aread_paper⟩ := at_of (x := "read_paper") (st := sReadPaper) (ps := ["text", "many"]) X G c (by simp [fn]) (by simp [fa]) fun _ _ _ _ _ _ us hl => match us, hl with | [_, _], _ => rfl
  obtain ⟨fd, F⟩ := c.defs (d := dd "law" sLaw) (by simp [fn])
  have ef : f = He.ga K "law" := by
    have e := hfa.symm.trans (gl (x := "law") (by simp [fa]))
    injection e with e
    injection e
  subst ef
  have F' : Fun K "law" "law" sLaw (He.ga K "law") fd := fun_of_D F
  obtain ⟨oc, od, kV, doc, pm, an, cdv, ct, osl, efd, lk, hcd⟩ := F'.ex
  obtain ⟨cc, rfl⟩ := He.codeIn_ref hcd
  have ec : He.codeOf K ("law", none) = cc := He.codeOf_eq (p := ("law", none)) lk (by rw [efd])
  refine ⟨fd, [He.cT K ("law", none)], spLaw K (He.cT K ("law", none)).2, fun p hp => ?_, fun p hp => ?_, fun p hp => ?_, fun s u => ?_, fun H a ns hn _ hT hS => ?_, fun base KB GB TB => ?_⟩
  · obtain rfl := List.mem_singleton.mp hp
    exact S.empty _ (by simp)
  · obtain rfl := List.mem_singleton.mp hp
    exact S.out _ (by simp)
  · obtain rfl := List.mem_singleton.mp hp
    exact PySem.W.codeHd_of_K X (S.hd _ (by simp))
  · rw [efd]
    exact .of_eq rfl
  · exact ⟨a, ns, rfl, hS, hn, hT _ (List.mem_singleton.mpr rfl), fun _ => rfl⟩
  · have TB' := TB _ (List.mem_singleton.mpr rfl)
    have e1 : (He.cT K ("law", none)).1 = cc := ec
    rw [e1] at TB'
    rw [efd] at lk ⊢
    exact law_whole lk hcd TB' b fenumerate iWORTHS iFIGURES ⟨_, iDIGITS⟩ ⟨_, iMOST_DIGITS⟩ gNUMBERS (tab_ok tNUMBERS vNUM kNUM) ER sBT (fldB_ok fBT (gl (x := "BadText") (by simp [fa])) FFBadText bFBadText)
      a_law_bag a_law_pull a_law_of a_law_same a_law_tried a_law_worth a_law_figs a_law_begin a_law_point ⟨_, _, a_law_any_box⟩ ⟨_, _, a_law_any_steps⟩ ⟨_, _, a_law_step_text⟩ ⟨_, _, a_law_paper_text⟩ ⟨_, _, a_law_read_number⟩ ⟨_, _, a_law_read_begin⟩ ⟨_, _, a_law_read_step⟩ ⟨_, _, a_law_read_paper⟩ ⟨_, _, a_law_bent_rows⟩
      ais_number ais_worth ⟨_, _, ais_beginning⟩ ⟨_, _, anumber_in⟩ ⟨_, _, abeginning_in⟩ ⟨_, _, abox_in⟩ ⟨_, _, apoint_in⟩ ⟨_, _, astep_in⟩ ⟨_, _, aread_paper⟩
end VQ
open PySem PySem.W PySem.Calls PyProof.Rows
set_option maxRecDepth 100000 in
set_option maxHeartbeats 0 in
theorem PySem.Challenge.cw_voidquilt_k37_texts_that_are_no_papers_holds : PySem.Challenge.rw_voidquilt_k37_texts_that_are_no_papers.Holds := by
  w_on; o_law
  refine HandSHeadRun.head_any (r := PySem.W.OpenLaw.row PySem.Challenge.rw_voidquilt_k37_texts_that_are_no_papers) (q := view (PySem.W.OpenLaw.row PySem.Challenge.rw_voidquilt_k37_texts_that_are_no_papers).prog [46]) (H := VQ.hk) (ob := VQ.ob) (M := 40000) (loose := VQ.loose) (d := HandSHeadRun.topDef (PySem.W.OpenLaw.row PySem.Challenge.rw_voidquilt_k37_texts_that_are_no_papers).prog 46) (kwd := []) VQ.ob_eq
    (by kernel_rfl) (fun s => by kernel_rfl) VQ.run (by kernel_rfl) (by kernel_rfl) (by kernel_rfl) (by rfl) (by first | assumption | decide +kernel) (by decide +kernel) ⟨rfl, rfl, rfl, rfl, rfl, by decide +kernel⟩ ?hw ?hc
  case hw => w_witness2
  case hc =>
    refine LamX.walk_ofTsE (l := PySem.Challenge.rw_voidquilt_k37_texts_that_are_no_papers) (n := 63) (k := 8) (x := "_law_script") (CX := fun _ => L2.CX0) rfl (by decide) (by kernel_rfl) ⟨rfl, by decide, by decide⟩ ?F (fun _ _ _ _ _ z => z)
    intro w mg fa h Y G hmg0
    obtain ⟨K, KX, S⟩ := Y
    have hmg : mg ("law" : PySem.Str) = some (.ref fa) := by
      have e : (HandSHeadRun.topDef (PySem.W.OpenLaw.row PySem.Challenge.rw_voidquilt_k37_texts_that_are_no_papers).prog 46).name = ("law" : PySem.Str) := by kernel_rfl
      rw [← e]
      exact hmg0
    exact ⟨K, KX, VQ.facts KX G hmg S⟩
