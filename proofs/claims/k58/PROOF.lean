import PyProof.Rows.All
import Wide.All
import OpenK.AllK
import Wide.FinOn
import HandS.Base
import HandS.Call
import HandS.List
import HandS.Words
import HandS.WordsList
import HandS.Codes
import HandS.FStr
import PyProof.FString3
import PyProof.Rows.StrIntSpec
import PyProof.FactsAll.int_2
import KE.KxField
import HandS.Ends
import HandS.Exc
import HandS.ExcInit
import HandS.ExcField
import HandS.TryMany
import KE.KTryMore
import HandS.Lambda
import HandS.Defaults
import PyProof.DefMake
import PyProof.DefCall
import HandS.TupMul
import HandS.TupAny
import HandS.Zip
import HandS.Comp
import HandS.Iter
import KE.GoesMore
import HandS.SetFor
import HandS.Strs
import HandS.TupSets
import HandS.SortOrd
import HandS.SortRule
import PyProof.CompFree
import PyProof.RaisesMany
import HandS.IsInst
import HandS.StrMore
import HandS.WordsExc
import HandS.Text
import PyProof.StrLaws
import PyProof.StrLawsAffix
import HandS.EndTab
import HandS.HeadWalk
import HandS.Deep
import HandS.OwnEq
import HandS.More
import HandS.SlotsOwn
import OpenK.KOps
import PyProof.InstNe
import HandS.SetKeys
import HandS.ForMost
import HandS.NoneIn
import KE.KUnpackStar
import HandS.Dict
import HandS.WordsDict
import PyProof.DictCopy
import PyProof.DictUpdate
import PyProof.DictIter
import HandS.CallLocal
import HandS.Star
import HandS.ExcValue
import KE.KDictZip
import HandS.Conv
import HandS.ClsMeth
import PyProof.ExcBaseAll.LookupError
import PyProof.ExcBaseAll.IndexError
import HandS.DictComp
import HandS.Walk
import HandS.DictEq
import HandS.Head0
import HandS.Head1
import HandS.Head2
import HandS.HeadEnd
import HandS.HeadHook1
import HandS.HeadHook2
import HandS.HeadHook3
import HandS.HeadHook4
import HandS.Head4
import PySem.Challenge.RW_voidquilt_k58_books_that_are_full
set_option Elab.async false
set_option linter.all false
set_option maxRecDepth 100000
set_option maxHeartbeats 3000000
namespace VQ
open PySem L2
def top (i : Nat) : Stmt := PySem.Challenge.pw_voidquilt_k58_books_that_are_full.main.body.getD i (.Pass ⟨0, 0, 0, 0⟩)
abbrev sBag : Stmt := top 45
abbrev sPull : Stmt := top 46
abbrev sOf : Stmt := top 47
/-- a drawing bag stands at b -/
def Bag (H : Hp) (b : Addr) : Prop := ∃ (l : Addr) (ns : List Int) (i r x n : Int), l ≠ b ∧ H b = some (.lst [.ref l, .int i, .int r, .int x, .int n]) ∧ H l = some (.lst (ns.map V.int)) ∧ 0 ≤ i ∧ 0 ≤ x ∧ x < 2147483629
/-- all but b is as it was, and the list in b's first place is the same one -/
def Keep (b : Addr) (H H' : Hp) : Prop := (∀ a o, a ≠ b → H a = some o → H' a = some o) ∧ ∀ l r, H b = some (.lst (.ref l :: r)) → ∃ r', H' b = some (.lst (.ref l :: r'))
theorem Keep.refl (b : Addr) (H : Hp) : Keep b H H := ⟨fun _ _ _ h => h, fun _ r h => ⟨r, h⟩⟩
theorem Keep.trans {b : Addr} {H H1 H2 : Hp} (h1 : Keep b H H1) (h2 : Keep b H1 H2) : Keep b H H2 := ⟨fun a o n h => h2.1 a o n (h1.1 a o n h), fun l r h => let ⟨r1, e⟩ := h1.2 l r h; h2.2 l r1 e⟩
theorem Keep.upd {b l : Addr} {H : Hp} {r r' : List V} (h : H b = some (.lst (.ref l :: r))) : Keep b H (upd H b (.lst (.ref l :: r'))) := ⟨fun a u n h => by rw [upd_ne n]; exact h, fun l' r1 e => by
  rw [h] at e
  cases e
  exact ⟨r', upd_same⟩⟩
theorem Same.keep {b : Addr} {H H' : Hp} (h : Same H H') : Keep b H H' := ⟨fun a o _ e => h a o e, fun l r e => ⟨r, h _ _ e⟩⟩
theorem same_new {H : Hp} {p : Addr} {o : HO} (h : H p = none) : Same H (upd H p o) := fun a u e => by rw [upd_ne (ne_of_none e h)]; exact e
theorem Bag.here {H : Hp} {b : Addr} (h : Bag H b) : ∃ o, H b = some o := by
  obtain ⟨l, ns, i, r, x, n, _, h1, _⟩ := h
  exact ⟨_, h1⟩
theorem Bag.same {H H' : Hp} {b : Addr} (h : Bag H b) (s : Same H H') : Bag H' b := by
  obtain ⟨l, ns, i, r, x, n, nl, h1, h2, h3⟩ := h
  exact ⟨l, ns, i, r, x, n, nl, s _ _ h1, s _ _ h2, h3⟩
theorem Keep.free {b p : Addr} {H H' : Hp} (k : Keep b H H') (h : Bag H b) (h' : Bag H' b) (hp : H' p = none) : H p = none := by
  cases q : H p with
  | none => rfl
  | some o =>
    by_cases e : p = b
    · obtain ⟨o', z⟩ := h'.here
      rw [e, z] at hp
      cases hp
    · rw [k.1 p o e q] at hp
      cases hp
/-- something new is written while the bag is kept -/
theorem Bag.put {b D : Addr} {H0 H : Hp} {o : HO} (B0 : Bag H0 b) (hD : H0 D = none) (k : Keep b H0 H) (B : Bag H b) : Bag (upd H D o) b ∧ Keep b H0 (upd H D o) := by
  obtain ⟨l, ns, i, r, x, n, nl, h1, h2, h3⟩ := B0
  obtain ⟨l', ns', i', r', x', n', nl', g1, g2, g3⟩ := B
  obtain ⟨rr, e⟩ := k.2 l _ h1
  rw [g1] at e
  cases e
  have bD : b ≠ D := ne_of_none h1 hD
  have lD : l ≠ D := ne_of_none h2 hD
  refine ⟨⟨l, ns', i', r', x', n', nl', (upd_ne bD).trans g1, (upd_ne lD).trans g2, g3⟩, fun a u ne e => ?_, fun l2 r2 e => ?_⟩
  · rw [upd_ne (ne_of_none e hD)]
    exact k.1 a u ne e
  · rw [upd_ne bD]
    exact k.2 l2 r2 e
theorem Keep.tup {b a : Addr} {H H' : Hp} {xs : List V} (k : Keep b H H') (B : Bag H b) (h : H a = some (.tup xs)) : H' a = some (.tup xs) := by
  refine k.1 a _ (fun e => ?_) h
  obtain ⟨l, ns, i, r, x, n, nl, h1, _⟩ := B
  rw [e, h1] at h
  cases h
def spPull : Sp := fun vs H Q _ => ∃ (b : Addr) (s : Int), vs = [.ref b, .int s] ∧ Bag H b ∧ 1 ≤ s ∧ s < 1073741824 ∧
  ∀ (d : Int) (H' : Hp), 0 ≤ d → d < s → Bag H' b → Keep b H H' → Q (.int d) H'
section
variable {P : Program} {w : World} {K : PySem.W.Frag} {mg : Str → Option Value} {base : Heap}
theorem scPull : FnScope ["_law_bag_here", "_law_size", "_law_cell", "_law_digit"] ["_law_bag_here", "_law_size"] (defScope sPull) := ⟨rfl, rfl, rfl, by decide +kernel, rfl, by decide +kernel, by decide +kernel⟩
theorem ok_pull {f : Addr} {fd : FuncData} (F : Fun K "_law_pull" "_law_pull" sPull f fd) (len : mg "len" = none) : FnOk P w K mg base CX0 1 f fd ["_law_bag_here", "_law_size"] spPull := by
  refine F.ok scPull (fun vs H Q E h => ?_) (fun cdv A outer s H vs Q E hr h => ?_)
  · obtain ⟨b, s, rfl, _⟩ := h
    rfl
  · obtain ⟨b, z, rfl, B, z1, z2, k⟩ := h
    refine ⟨_, C8.pss_cut (ps_if (PW.pt (pw_and (pt_cmpR op_lt (pe_ix ix_list (pv 0) pe_int fun _ _ => rfl) (pv 1) (nomark _)) (pw_and1 (pt_cmpR op_lt (pe_ix ix_list (pv 0) pe_int fun _ _ => rfl)
          (pe_callB call_len_seq (by rfl) len PySem.boot_len (pa_cons (pe_ix ix_list (pv 0) pe_int fun _ _ => rfl) pa_nil)) (nomark _)))))
        (pss_cons (ps_set (i := 2) scPull.nd rfl (.inl rfl) (pe_ix ix_list (pe_ix ix_list (pv 0) pe_int fun _ _ => rfl) (pe_ix ix_list (pv 0) pe_int fun _ _ => rfl) fun _ _ => rfl))
        (pss_cons (ps_asg (pe_op op_add (pe_ix ix_list (pv 0) pe_int fun _ _ => rfl) pe_int) (pg_sub (pv 0) pe_int set_list))
        (pss_cons (ps_asg (pe_ifExp (pt_cmpR op_ge (pv 2) (pe_op op_pow pe_int pe_int) (nomark _)) (pe_op op_sub (pv 2) (pe_op op_pow pe_int pe_int)) pe_int) (pg_sub (pv 0) pe_int set_list))
        (pss_one (ps_asg (pe_op op_mod (pe_op op_add (pe_op op_add (pe_op op_mul (pe_ix ix_list (pv 0) pe_int fun _ _ => rfl) pe_int) (pe_op op_mul (pv 2) pe_int)) (pe_ix ix_list (pv 0) pe_int fun _ _ => rfl)) pe_int) (pg_sub (pv 0) pe_int set_list))))))
        pss_nil)
      (pss_cons (ps_if (pt_cmpR op_ge (pe_ix ix_list (pv 0) pe_int fun _ _ => rfl) (pv 1) (nomark _))
        (pss_cons (ps_set (i := 3) scPull.nd rfl (.inl rfl) (pe_op op_mod (pe_ix ix_list (pv 0) pe_int fun _ _ => rfl) (pv 1)))
        (pss_cons (ps_asg (pe_op op_fdiv (pe_ix ix_list (pv 0) pe_int fun _ _ => rfl) (pv 1)) (pg_sub (pv 0) pe_int set_list))
        (pss_one (ps_ret (pv 3)))))
        pss_nil)
      (pss_cons (ps_asg (pe_op op_add (pe_ix ix_list (pv 0) pe_int fun _ _ => rfl) pe_int) (pg_sub (pv 0) pe_int set_list))
      (pss_cons (ps_asg (pe_op op_mod (pe_op op_add (pe_op op_add (pe_op op_add (pe_op op_pow (pe_ix ix_list (pv 0) pe_int fun _ _ => rfl) pe_int) (pe_op op_mul pe_int (pe_ix ix_list (pv 0) pe_int fun _ _ => rfl))) (pe_op op_fdiv (pe_ix ix_list (pv 0) pe_int fun _ _ => rfl) pe_int)) pe_int) pe_int) (pg_sub (pv 0) pe_int set_list))
      (pss_one (ps_ret (pe_op op_mod (pe_op op_fdiv (pe_ix ix_list (pv 0) pe_int fun _ _ => rfl) pe_int) (pv 1)))))))
      , ?_⟩
    refine ⟨fun σ' H' => ∃ (c e : Option V), σ' = [some (.ref b), some (.int z), c, e] ∧ Bag H' b ∧ Keep b H H', ?_, ?_⟩
    · obtain ⟨l, ns, i, r, x, n, nl, h1, h2, i0, x0, x1⟩ := id B
      have m53 : ∀ y : Int, 0 ≤ y % 2147483629 ∧ y % 2147483629 < 2147483629 := fun y => ⟨Int.emod_nonneg _ (by decide), Int.emod_lt_of_pos _ (by decide)⟩
      refine ⟨_, rfl, _, _, _, _, rfl, rfl, SqL.of h1, (show atI [V.ref l, .int i, .int r, .int x, .int n] 2 = some (.int r) from rfl), _, rfl, _, _, rfl, rfl, _, rfl, ?_⟩
      refine ite2 (fun _ => ?_) (fun _ => ?_)
      · refine ⟨_, rfl, _, _, _, _, rfl, rfl, SqL.of h1, (show atI [V.ref l, .int i, .int r, .int x, .int n] 1 = some (.int i) from rfl), _, rfl, _, _, _, _, rfl, rfl, SqL.of h1, (show atI [V.ref l, .int i, .int r, .int x, .int n] 0 = some (.ref l) from rfl), l, _, rfl, .inl (SqL.of h2), _, _, rfl, rfl, _, rfl, ?_⟩
        refine ite2 (fun hlt => ?_) (fun _ => ?_)
        · have hi : i < (ns.length : Int) := by
            have q := of_decide_eq_true hlt
            rw [List.length_map] at q
            exact q
          obtain ⟨j, rfl⟩ := Int.eq_ofNat_of_zero_le i0
          have hj : j < ns.length := Int.ofNat_lt.mp hi
          have at1 : atI (ns.map V.int) (j : Int) = some (V.int (ns[j]'hj)) := atI_nat (by rw [List.getElem?_map, List.getElem?_eq_getElem hj]; rfl)
          generalize ns[j]'hj = cell at at1
          refine ⟨_, rfl, _, _, _, _, rfl, rfl, SqL.of h1, (show atI [V.ref l, .int j, .int r, .int x, .int n] 0 = some (.ref l) from rfl), _, rfl, _, _, _, _, rfl, rfl, SqL.of h1, (show atI [V.ref l, .int j, .int r, .int x, .int n] 1 = some (.int j) from rfl), l, _, _, _, rfl, rfl, SqL.of h2, at1, ?_⟩
          -- bag[1] = bag[1] + 1
          refine ⟨_, rfl, _, _, _, _, rfl, rfl, SqL.of h1, (show atI [V.ref l, .int j, .int r, .int x, .int n] 1 = some (.int j) from rfl), _, _, rfl, rfl, _, rfl, b, _, 1, 1, rfl, rfl, h1, rfl, ?_⟩
          -- bag[2] = ..
          refine ⟨_, rfl, 10, 18, rfl, rfl, ⟨by decide, by decide, by decide⟩, _, _, rfl, rfl, _, rfl, ?_⟩
          refine ite2 (fun _ => ?_) (fun _ => ?_)
          · refine ⟨_, rfl, 10, 18, rfl, rfl, ⟨by decide, by decide, by decide⟩, _, _, rfl, rfl, _, rfl, b, _, 2, 2, rfl, rfl, upd_same, rfl, ?_⟩
            refine ⟨_, rfl, b, _, _, _, rfl, rfl, SqL.of upd_same, rfl, _, 69069, rfl, rfl, .inr ⟨by decide, by decide⟩, _, rfl, _, 5, rfl, rfl, .inr ⟨by decide, by decide⟩, _, _, rfl, rfl, _, rfl, b, _, _, _, rfl, rfl, SqL.of upd_same, rfl, _, _, rfl, rfl, _, 2147483629, rfl, rfl, (show (0 : Int) < 2147483629 by decide), _, rfl, b, _, 3, 3, rfl, rfl, upd_same, rfl, ?_⟩
            refine ⟨_, _, rfl, ⟨l, ns, _, _, _, _, nl, upd_same, ?_, ?_, (m53 _).1, (m53 _).2⟩, ?_⟩
            · rw [upd_ne nl, upd_ne nl, upd_ne nl]
              exact h2
            · omega
            · exact Keep.trans (Keep.trans (Keep.upd h1) (Keep.upd upd_same)) (Keep.upd upd_same)
          · refine ⟨_, rfl, b, _, 2, 2, rfl, rfl, upd_same, rfl, ?_⟩
            refine ⟨_, rfl, b, _, _, _, rfl, rfl, SqL.of upd_same, rfl, _, 69069, rfl, rfl, .inr ⟨by decide, by decide⟩, _, rfl, _, 5, rfl, rfl, .inr ⟨by decide, by decide⟩, _, _, rfl, rfl, _, rfl, b, _, _, _, rfl, rfl, SqL.of upd_same, rfl, _, _, rfl, rfl, _, 2147483629, rfl, rfl, (show (0 : Int) < 2147483629 by decide), _, rfl, b, _, 3, 3, rfl, rfl, upd_same, rfl, ?_⟩
            refine ⟨_, _, rfl, ⟨l, ns, _, _, _, _, nl, upd_same, ?_, ?_, (m53 _).1, (m53 _).2⟩, ?_⟩
            · rw [upd_ne nl, upd_ne nl, upd_ne nl]
              exact h2
            · omega
            · exact Keep.trans (Keep.trans (Keep.upd h1) (Keep.upd upd_same)) (Keep.upd upd_same)
        · exact ⟨none, none, rfl, B, Keep.refl b H⟩
      · exact ⟨none, none, rfl, B, Keep.refl b H⟩
    · rintro σ' H' ⟨c, e, rfl, B', kp⟩
      obtain ⟨l, ns, i, r, x, n, nl, h1, h2, i0, x0, x1⟩ := id B'
      refine ⟨_, rfl, _, _, _, _, rfl, rfl, SqL.of h1, (show atI [V.ref l, .int i, .int r, .int x, .int n] 2 = some (.int r) from rfl), _, rfl, _, _, rfl, rfl, _, rfl, ?_⟩
      have m53 : ∀ y : Int, 0 ≤ y % 2147483629 ∧ y % 2147483629 < 2147483629 := fun y => ⟨Int.emod_nonneg _ (by decide), Int.emod_lt_of_pos _ (by decide)⟩
      have mz : ∀ y : Int, 0 ≤ y % z ∧ y % z < z := fun y => ⟨Int.emod_nonneg _ (by omega), Int.emod_lt_of_pos _ (by omega)⟩
      refine ite2 (fun _ => ?_) (fun _ => ?_)
      · refine ⟨_, rfl, b, _, _, _, rfl, rfl, SqL.of h1, rfl, _, rfl, _, _, rfl, rfl, (show (0 : Int) < z by omega), ?_⟩
        refine ⟨_, rfl, b, _, _, _, rfl, rfl, SqL.of h1, rfl, _, rfl, _, _, rfl, rfl, ⟨(show (0 : Int) < z by omega), z2⟩, _, rfl, b, _, 2, 2, rfl, rfl, h1, rfl, ?_⟩
        refine ⟨_, rfl, ?_⟩
        exact k _ _ (mz _).1 (mz _).2 ⟨l, ns, _, _, _, _, nl, upd_same, by rw [upd_ne nl]; exact h2, i0, x0, x1⟩ (kp.trans (Keep.upd h1))
      · refine ⟨_, rfl, b, _, _, _, rfl, rfl, SqL.of h1, rfl, _, _, rfl, rfl, _, rfl, b, _, 4, 4, rfl, rfl, h1, rfl, ?_⟩
        refine ⟨_, rfl, b, _, _, _, rfl, rfl, SqL.of upd_same, rfl, _, 3, rfl, rfl, ⟨by decide, by decide, by omega⟩, _, rfl, b, _, _, _, rfl, rfl, SqL.of upd_same, rfl, 40507, _, rfl, rfl, .inl ⟨by decide, by decide⟩, _, _, rfl, rfl, _, rfl, b, _, _, _, rfl, rfl, SqL.of upd_same, rfl, _, 101, rfl, rfl, ⟨by decide, by decide⟩, _, _, rfl, rfl, _, _, rfl, rfl, _, 2147483629, rfl, rfl, (show (0 : Int) < 2147483629 by decide), _, rfl, b, _, 3, 3, rfl, rfl, upd_same, rfl, ?_⟩
        refine ⟨_, rfl, b, _, _, _, rfl, rfl, SqL.of upd_same, rfl, _, 19, rfl, rfl, ⟨by decide, by decide⟩, _, rfl, _, _, rfl, rfl, (show (0 : Int) < z by omega), ?_⟩
        exact k _ _ (mz _).1 (mz _).2 ⟨l, ns, _, _, _, _, nl, upd_same, by rw [upd_ne nl, upd_ne nl]; exact h2, i0, (m53 _).1, (m53 _).2⟩ (kp.trans (Keep.trans (Keep.upd h1) (Keep.upd upd_same)))
/-- an item of a list that is read, drawn by the bag -/
def spOf (K : PySem.W.Frag) : Sp := fun vs H Q _ => ∃ (b p : Addr) (xs : List V), vs = [.ref b, .ref p] ∧ Bag H b ∧ p ≠ b ∧ SqL K H p xs ∧ 1 ≤ xs.length ∧ xs.length < 1000 ∧
  ∀ (v : V) (H' : Hp), v ∈ xs → Bag H' b → Keep b H H' → Q v H'
theorem Keep.seq {b a : Addr} {H H' : Hp} {xs : List V} (k : Keep b H H') (n : a ≠ b) (h : SqL K H a xs) : SqL K H' a xs := by
  rcases h with (z | ⟨o, z⟩) | z
  · exact .inl (.inl (k.1 _ _ n z))
  · exact .inl (.inr ⟨o, k.1 _ _ n z⟩)
  · exact .inr z
/-- where a def stands -/
structure At (K : PySem.W.Frag) (mg : Str → Option Value) (x : Str) (st : Stmt) (ps : List Str) (f : Addr) (fd : FuncData) : Prop where
  fn : Fun K x x st f fd
  gl : mg x = some (.ref f)
  bd : Binds K fd ps []
theorem scOf : FnScope ["_law_bag_here", "_law_some"] ["_law_bag_here", "_law_some"] (defScope sOf) := ⟨rfl, rfl, rfl, by decide +kernel, rfl, by decide +kernel, by decide +kernel⟩
theorem ok_of {f fP : Addr} {fd fdP : FuncData} (F : Fun K "_law_of" "_law_of" sOf f fd) (len : mg "len" = none) (P1 : At K mg "_law_pull" sPull ["_law_bag_here", "_law_size"] fP fdP) : FnOk P w K mg base CX0 2 f fd ["_law_bag_here", "_law_some"] (spOf K) := by
  have G : FnOk P w K mg base CX0 1 fP fdP ["_law_bag_here", "_law_size"] spPull := ok_pull P1.fn len
  refine F.ok scOf (fun vs H Q E h => ?_) (fun cdv A outer s H vs Q E hr h => ?_)
  · obtain ⟨b, p, xs, rfl, _⟩ := h
    rfl
  · obtain ⟨b, p, xs, rfl, B, np, hx, l1, l2, k⟩ := h
    refine ⟨_, pss_one (ps_ret (pe_ix ix_list (pv 1) (pe_call G hr rfl P1.gl P1.fn.kp P1.bd .nil pass0 (pa_cons (pv 0) (pa_cons (pe_callB call_len_seq (by rfl) len PySem.boot_len (pa_cons (pv 1) pa_nil)) pa_nil))) fun _ _ => rfl)), ?_⟩
    refine ⟨_, rfl, _, rfl, _, rfl, p, xs, rfl, .inl hx, b, _, rfl, B, by omega, by omega, fun d H' d0 d1 B' kp => ?_⟩
    obtain ⟨j, rfl⟩ := Int.eq_ofNat_of_zero_le d0
    have hj : j < xs.length := Int.ofNat_lt.mp d1
    exact ⟨p, xs, _, _, rfl, rfl, kp.seq np hx, atI_nat (List.getElem?_eq_getElem hj), k _ H' (List.getElem_mem hj) B' kp⟩
def spBag (K : PySem.W.Frag) : Sp := fun vs H Q _ => ∃ (a : Addr) (ns : List Int), vs = [.ref a] ∧ SqL K H a (ns.map V.int) ∧ ns.length ≤ 63 ∧ ∀ (b : Addr) (H' : Hp), H b = none → Bag H' b → Same H H' → Q (.ref b) H'
theorem scBag : FnScope ["_law_script"] ["_law_script"] (defScope sBag) := ⟨rfl, rfl, rfl, by decide +kernel, rfl, by decide +kernel, by decide +kernel⟩
theorem ok_bag {f : Addr} {fd : FuncData} (F : Fun K "_law_bag" "_law_bag" sBag f fd) (lst : mg "list" = none) : FnOk P w K mg base CX0 1 f fd ["_law_script"] (spBag K) := by
  refine F.ok scBag (fun vs H Q E h => ?_) (fun cdv A outer s H vs Q E hr h => ?_)
  · obtain ⟨a, ns, rfl, _⟩ := h
    rfl
  · obtain ⟨a, ns, rfl, hx, hl, k⟩ := h
    refine ⟨_, pss_one (ps_ret (pe_lst (pa_cons (pe_callTy call_list_of (by rfl) lst (by decide +kernel) (pa_cons (pe_slice sl_list (pv 0) po_none (po_some pe_int)) pa_nil)) (pa_cons pe_int (pa_cons pe_int (pa_cons pe_int (pa_cons pe_int pa_nil))))))), ?_⟩
    refine ⟨_, rfl, _, rfl, a, _, rfl, hx, fun p hp => ?_⟩
    refine ⟨p, _, rfl, .inl (SqL.of upd_same), fun l hl' => ?_⟩
    refine ⟨by show 5 ≤ sizeLine; decide, fun b hb => ?_⟩
    have e : cutV (ns.map V.int) none (some 63) = ns.map V.int := by
      unfold cutV
      rw [HT.sIx_none]
      show ((ns.map V.int).drop 0).take (HT.sIx _ _ (some ((63 : Nat) : Int)) - 0) = _
      rw [HT.sIx_nat, List.drop_zero, Nat.sub_zero]
      exact List.take_of_length_le (by rw [List.length_map]; omega)
    have nl : l ≠ b := fun z => by
      rw [z, upd_same] at hb
      cases hb
    have s1 : Same H (upd H p (.lst (cutV (ns.map V.int) none (some 63)))) := same_new hp
    have s2 : Same H (upd (upd H p (.lst (cutV (ns.map V.int) none (some 63)))) l (.lst (cutV (ns.map V.int) none (some 63)))) := s1.trans (same_new hl')
    refine k b _ (s2.free hb) ⟨l, ns, 0, 0, 1, 0, nl, upd_same, ?_, by decide, by decide, by decide⟩ (s2.trans (same_new hb))
    rw [upd_ne nl, upd_same, e]
end
end VQ
namespace VQ
open PySem PySem.W L2 PyProof.Rows
open Builtin Builtin.Float Builtin.Int Builtin.Str
def binS (n : Nat) : PySem.Str := ⟨((Nat.toDigits 2 n).map Char.toNat).toArray⟩
theorem ret_text2 {M : Model} {A : Around} {E : Value → Shared → Prop} {s : Shared} {X T : PySem.Str} {Q : PySem.Fin → Shared → Prop} (e : X = T) (hL : T.length ≤ sizeLine) (h : ∀ t k, Q (.done (.ret (.str T t))) { s with toks := k }) : wpAny M A (retStr X) Q E s := by
  subst e
  exact wpAny_bind (wpAny_mkStr (by exact wpAny_pure (h _ _)) hL)
theorem ite_no2 {c : Prop} [Decidable c] {X Y : Prop} (hc : ¬ c) (h : Y) : if c then X else Y := by
  rw [if_neg hc]
  exact h
theorem wpAny_eqn {α : Type} {M : Model} {A : Around} {E : Value → Shared → Prop} {s : Shared} {Q : α → Shared → Prop} {t t' : Sem α} (e : t = t') (h : wpAny M A t' Q E s) : wpAny M A t Q E s := by
  rw [e]
  exact h
theorem parse_b : parseFormatSpec [98] "int" 62 = .ok ⟨32, 62, none, false, false, none, none, none, some 98⟩ := by kernel_rfl
theorem fmtb_run {prog : Program} {w : World} {A : Around} {R : PySem.Fin → Shared → Prop} {E : Value → Shared → Prop} {s : Shared} {a : Int} {t u : Tok} (h0 : 0 ≤ a) (h1 : a < 32)
    (h : ∀ t' k, R (.done (.ret (.str (binS a.toNat) t'))) { s with toks := k }) : wpAny (model prog w) A (Builtin.«int.__format__» ⟨[.int a t, .str (⟨#[98]⟩ : PySem.Str) u], []⟩) R E s := by
  simp only [Builtin.«int.__format__», selfAndOne, noKeywords, Int.intOfSelf, asInt?, asStr?, List.isEmpty_nil, if_true, pure_bind, bind_pure, bind_assoc, Bool.false_eq_true, if_false,
    show (Value.str (⟨#[98]⟩ : PySem.Str) u == Value.none) = false from rfl, show ((⟨#[98]⟩ : PySem.Str).length == 0) = false from rfl]
  refine wpAny_bind (wpAny_typeNameOf (T := "str") (typeIs_str _ _ _) (by decide) fun kind => ?_)
  rw [if_neg (by decide)]
  apply wpAny_bind
  apply wpAny_typeNameOfCut_int
  simp only [parse_b]
  rw [if_pos (by decide)]
  refine wpAny_eqn (t' := retStr (intField' ⟨32, 62, none, false, false, none, none, none, some 98⟩ (decide (a < 0)) [] ((Nat.toDigits 2 a.natAbs).map fun c => (if (98 : Nat) == 88 then c.toUpper else c).toNat) [] 4)) ?eq ?_
  case eq => kernel_rfl
  refine ret_text2 ?e ?l h
  case e =>
    obtain ⟨m, rfl⟩ := Int.eq_ofNat_of_zero_le h0
    have hm : m < 32 := by omega
    clear h h0 h1
    revert m
    decide +kernel
  case l =>
    obtain ⟨m, rfl⟩ := Int.eq_ofNat_of_zero_le h0
    have hm : m < 32 := by omega
    clear h h0 h1
    revert m
    decide +kernel
theorem fmtb_meets {a : Int} {t : Tok} (h0 : 0 ≤ a) (h1 : a < 32) : ∀ u, Meets (Builtin.«int.__format__» ⟨[.int a t, .str (⟨#[98]⟩ : PySem.Str) u], []⟩) (fun _ R s => ∀ t' k, R (.ok (.ret (.str (binS a.toNat) t'))) { s with toks := k }) :=
  fun u prog w A R s h => fmtb_run h0 h1 fun t' k => h t' k
def tFmtB (te : TE) : TE := fun σ H Q => te σ H fun x H1 => ∃ i : Int, x = .int i ∧ 0 ≤ i ∧ i < 32 ∧ Q (.str (binS i.toNat)) H1
theorem pe_fmtB {X : Cx} {e : Expr} {te : TE} {j : Nat} {p1 p2 pos : Pos} (he : PE X e te) : PE X (.FormattedValue e (-1) (some (.JoinedStr [.Constant (.str "b") j p1] p2)) pos) (tFmtB te) := by
  refine ⟨fun pins s σ H Q I h => ?_⟩
  refine wpAny_FormattedValue_spec (thn (he.run pins s σ H _ I h) fun v s1 ⟨x, H1, I1, r1, i, ex, h0, h1, q⟩ => ?_)
  subst ex
  obtain ⟨t, rfl⟩ := r1
  refine thn ((pe_joined1 (pe_str (X := X) (x := "b") (j := j) (pos := p1)) (pos := p2)).run pins s1 σ H1 (fun v H2 => v = .str "b" ∧ H2 = H1) I1 ⟨rfl, rfl⟩) fun r s2 ⟨y, H2, I2, r2, ey, eH⟩ => ?_
  subst ey
  obtain ⟨tk, rfl⟩ := r2
  rw [eH] at I2
  refine ⟨"b", tk, rfl, ?_⟩
  exact KXf.field_int (spec' := ⟨#[98]⟩) (by decide +kernel) (by decide) (by decide) (fmtb_meets h0 h1) fun t' k => ⟨.str (binS i.toNat), H1, I2.tok _, ⟨_, rfl⟩, q⟩
end VQ
namespace VQ
open PySem PyProof.Rows L2
/-! ### an error made without things: C() -/
/-- the end of C(): a is the new error, d its dict -/
def MadeEnd (H : Hp) (C a : Addr) (Q : XK) : VK := fun v H2 => v = .non ∧ ∃ (d : Addr) (fs : List (Str × V)), H2 a = some (exo a C (some d)) ∧ H2 d = some (exd d fs) ∧ H d = none ∧ Q (.ref C) (some d) (upd (del H2 a) d (.xd fs))
def tMkO0 (C : Addr) (sp : Sp) : L2.St → Hp → XK → Prop := fun _ H Q => ∀ a, H a = none → sp [.ref a] (upd H a (exo a C none)) (MadeEnd H C a Q) E00
  where E00 : XK := fun _ _ _ => False
theorem pmk_oex0 {X : Cx} {CX : CXT} {x : Str} {C g : Addr} {k : Nat} {fd : FuncData} {ps : List Str} {sp : Sp} {p pos : Pos} (cl : OexC X.K C) (ini : PySem.W.findIn X.K (.ref C) "__init__" = some (some (.ref g))) (ity : PySem.W.typeIn X.K (.ref g) = some (.type "function"))
    (ok : FnOk X.prog X.w X.K X.mg X.base CX k g fd ps sp) (room : Room (k + 1) X.A) (bnd : Binds X.K fd ps []) (out : Passes CX X (fun _ _ _ => False)) (isG : Gl X x) (atG : X.mg x = some (.ref C)) (nodb : (x == ("__debug__" : Str)) = false := by decide) :
    PMk X (.Call (.Name x p) [] [] pos) (tMkO0 C sp) := by
  intro pn st sl H Q inv want
  refine wpAny_Call_Name_kw (ld_glob inv isG atG (PySem.W.callWith_K0 inv.kIn cl.kC ?_) nodb)
  obtain ⟨_, _, _, _, mro, _, _, _, _, _, _, _, _, _, _, here, tail⟩ := cl.cls
  obtain ⟨h0, gn, dw, tk, osx⟩ := st
  -- the new error stands behind its empty tuple of things
  generalize eA : h0.objs.size + 1 = a
  have above : h0.objs.size ≤ a := by omega
  have promise := want a (inv.hok.fresh above)
  generalize eN : (h0.push (PySem.W.kdv_tup [])).push (PySem.HandSPX.excO C h0.objs.size) = h1
  have stays : ∀ b o, h0.get? b = some o → h1.get? b = some o := fun b o z => by
    rw [← eN]
    exact Heap.get?_push_of_some _ (Heap.get?_push_of_some _ z)
  have stands : h1.get? a = some (PySem.HandSPX.excO C h0.objs.size) := by
    rw [← eN, ← eA]
    heap_get
  have inv1 : Inv X pn sl (upd H a (exo a C none)) ⟨h1, gn, dw, tk, osx⟩ := inv.laid (t' := tk) stays above (exo_ok stands)
  have self1 : Vals [V.ref a] [Value.ref a] := .cons rfl .nil
  have cnt : ([Value.ref a] ++ ([] : List Value)).length = ps.length := (ok.len _ _ _ _ promise).symm ▸ rfl
  have binds1 := bnd ⟨h1, gn, dw, tk, osx⟩ [Value.ref a] inv1.kIn cnt
  have runs := ok.run _ X.stack ⟨h1, gn, dw, tk, osx⟩ _ ⟨[Value.ref a], []⟩ [Value.ref a] [V.ref a] _ _ (room.make C [] []) (inv1.env0.make C [] []) binds1 self1 promise
  subst eN eA
  refine wpAny_call (PySem.HandSPX.call_own F.excBase_ValueError (fun Y => PySem.HandSPX.refsVE_contains Y mro tail) (inv.kIn _ _ here) (PySem.W.looks_findIn inv.kIn ini) (fun self => PySem.W.bind_fn inv.kIn self ity) (Nat.zero_le _) (codeAny_mono runs ?_))
  rintro (er | (_ | _ | _ | u)) st2 z
  · exact out pn sl _ _ er st2 inv1 z
  · exact z.elim
  · exact z.elim
  · exact z.elim
  · obtain ⟨v, H2, z1, z2, z3, z4, z5, rfl, d, fs, y1, y2, y3, y4⟩ := z
    obtain ⟨_, _, _, _, _⟩ := st2
    exact ⟨z5, mk_end (raises_own cl.exC cl.tyC) inv above stays z3 z4 z1 z2 y1 y2 y3 y4⟩
/-! ### a try with several clauses, each «as n» -/
/-- what a clause names: one class, or a tuple of two or three -/
inductive Cte (X : Cx) : Expr → List Value → Prop
  | one {x : Str} {c : Value} {np : Pos} (h : Names X x c) : Cte X (.Name x np) [c]
  | two {x y : Str} {c e : Value} {p q r : Pos} {k : Nat} (h : Names X x c) (h' : Names X y e) : Cte X (.Tuple [.Name x p, .Name y q] k r) [c, e]
  | three {x y z : Str} {c e f : Value} {p q r t : Pos} {k : Nat} (h : Names X x c) (h' : Names X y e) (h'' : Names X z f) : Cte X (.Tuple [.Name x p, .Name y q, .Name z r] k t) [c, e, f]
section
variable {X : Cx} {a : Addr} {around : List (Addr × Obj)}
theorem names_read {pn : List (Addr × Obj)} {sl : L2.St} {H : Hp} {st : Shared} {x : Str} {c : Value} {np : Pos} {Q E : Value → Shared → Prop} (nm : Names X x c) (inv : Inv (X.suite a around) pn sl H st) (q : Q c st) :
    wpAny (model X.prog X.w) (X.A.mark (some (.ref a))) (eval (.Name x np) X.env) Q E st := by
  rcases nm with ⟨n1, n2, n3 | ⟨n3, n4, n5⟩⟩
  · exact ld_glob (X := X.suite a around) inv n1 n3 q n2
  · exact ld_blt (X := X.suite a around) inv n1 n3 n4 q n5 n2
theorem cte_run {pn : List (Addr × Obj)} {sl : L2.St} {H : Hp} {st : Shared} {te : Expr} {cs : List Value} {cls : Value} {oe : Obj} {b : Bool} {Q : Bool → Shared → Prop} {E1 E2 : Value → Shared → Prop} (ct : Cte X te cs) (inv : Inv (X.suite a around) pn sl H st)
    (at_ : st.heap.get? a = some oe) (hc : oe.cls = cls) (ans : PySem.W.exmAny X.K cls cs = some b) (q : ∀ h', (∀ b o, st.heap.get? b = some o → h'.get? b = some o) → Q b { st with heap := h' }) :
    wpAny (model X.prog X.w) (X.A.mark (some (.ref a))) (eval te X.env) (fun c s1 => wpAny (model X.prog X.w) (X.A.mark (some (.ref a))) (excMatches (.ref a) c) Q E1 s1) E2 st := by
  have ty : PySem.W.Looks (model X.prog X.w) st.heap (typeOf (.ref a)) cls := fun _ _ _ _ kp z => wpAny_typeOf_ref (kp _ _ at_) (hc ▸ z)
  have grown : ∀ (us : List Value) (b : Addr) (o : Obj), st.heap.get? b = some o → (st.heap.push { cls := .type "tuple", data := .seq us.toArray }).get? b = some o := fun us b o z => Heap.get?_push_of_some _ z
  have kin : ∀ us : List Value, X.K.In (st.heap.push { cls := .type "tuple", data := .seq us.toArray }) := fun us => (show X.K.In st.heap from inv.kIn).keeps (grown us)
  cases ct with
  | one n1 =>
    obtain ⟨b1, d1, x1, y1, z1⟩ := PySem.W.exmAny_cons ans
    cases (show some false = some d1 from y1)
    rw [Bool.or_false] at z1
    subst z1
    exact names_read n1 inv ((PySem.W.exm_one (M := model X.prog X.w) inv.kIn ty x1).here (q st.heap fun _ _ z => z))
  | @two x y c e p' q' r' k n1 n2 =>
    refine wpAny_Tuple_spliced ?_
    show wpAny _ _ (spliced [(false, eval (.Name x p') X.env), (false, eval (.Name y q') X.env)]) _ _ _
    refine Calls.spliced_cons (names_read n1 inv (Calls.spliced_cons (names_read n2 inv (Calls.spliced_nil ⟨by show 2 ≤ sizeLine; decide, ?_⟩))))
    exact (PySem.W.exm_tup2 (M := model X.prog X.w) (kin [c, e]) (ty.keeps (grown [c, e])) (Heap.get?_push_size _ rfl) ans).here (q _ (grown [c, e]))
  | @three x y z c e f p' q' r' t' k n1 n2 n3 =>
    refine wpAny_Tuple_spliced ?_
    show wpAny _ _ (spliced [(false, eval (.Name x p') X.env), (false, eval (.Name y q') X.env), (false, eval (.Name z r') X.env)]) _ _ _
    refine Calls.spliced_cons (names_read n1 inv (Calls.spliced_cons (names_read n2 inv (Calls.spliced_cons (names_read n3 inv (Calls.spliced_nil ⟨by show 3 ≤ sizeLine; decide, ?_⟩))))))
    exact (PySem.W.exm_tup3 (M := model X.prog X.w) (kin [c, e, f]) (ty.keeps (grown [c, e, f])) (Heap.get?_push_size _ rfl) ans).here (q _ (grown [c, e, f]))
end
theorem fly_keeps {B h h' : Heap} {l : List Env} {a : Addr} {Z : Obj → Prop} (f : HandSPX.FlyingZ B l a Z h) (k : ∀ b o, h.get? b = some o → h'.get? b = some o) : HandSPX.FlyingZ B l a Z h' := by
  rcases f with ⟨f1, f2, f3, oe, vs, T, oT, ts, e1, e2, e3, e4, e5, e6, e7, e8, e9⟩
  exact ⟨fun b o z => k b o (f1 b o z), f2, f3.of_keeps fun b o z _ => ⟨o, k b o z, rfl⟩, oe, vs, T, oT, ts, k _ _ e1, e2, e3, e4, e5, e6, k _ _ e7, e8, e9⟩
/-- the ends of a suite whose name (slot i) goes behind it -/
def offName (i : Nat) (D : Ends) : Ends := { nx := fun σ' H' => D.nx (σ'.set i none) H', rt := D.rt, bk := fun σ' H' => D.bk (σ'.set i none) H', ct := fun σ' H' => D.ct (σ'.set i none) H' }
abbrev Suite := Addr → Value → Option Addr → TS
/-- what the clauses wish of an error of the body -/
def wManyA (K : PySem.W.Frag) (i : Nat) (Wout : WX) (D : Ends) : List (List Value × Suite) → WX
  | [] => Wout
  | (cs, ts) :: r => fun cls d σ H => ∃ b, PySem.W.exmAny K cls cs = some b ∧ (b = true → ∀ a, H a = none → ts a cls d (offName i D) (σ.set i (some (.ref a))) H) ∧ (b = false → wManyA K i Wout D r cls d σ H)
/-- a suite walked, whatever error it has caught -/
def Suited (X : Cx) (body : List Stmt) (ts : Suite) : Prop := ∀ (a : Addr) (oe : Obj) (cls : Value) (d : Option Addr) (pn : List (Addr × Obj)), Zc cls d oe → (∃ vs, oe.data = .fields vs) → PSs (X.suite a ((a, oe) :: pn)) body (ts a cls d)
inductive HdsA (X : Cx) (n : Str) : List ExceptHandler → List (List Value × Suite) → Prop
  | nil : HdsA X n [] []
  | cons {te : Expr} {cs : List Value} {ts : Suite} {b₀ : Stmt} {more : List Stmt} {pos' : Pos} {hds : List ExceptHandler} {l : List (List Value × Suite)} (hc : Cte X te cs) (hsu : Suited X (b₀ :: more) ts) (r : HdsA X n hds l) :
      HdsA X n (.ExceptHandler (some te) (some n) (b₀ :: more) pos' :: hds) ((cs, ts) :: l)
section
variable {X : Cx} {n : Str} {i : Nat} {Wout : WX} {pins : List (Addr × Obj)} {D : Ends}
/-- one after the other, from where the error at a has landed -/
theorem hds_run (two : X.stack = X.env :: X.outer) (fr : X.env.frame = some X.env.locals) (nd : X.N.Nodup) (slot : X.N[i]? = some n) (loc : X.env.kindOf n = some .local) (tk : Takes X Wout) {a : Addr} {B : Heap} {sI s' : Shared} {σ' : L2.St} {H' : Hp} {cls : Value} {d : Option Addr}
    (inv : Inv X pins σ' H' sI) (ground : ∀ b o, sI.heap.get? b = some o → b ∉ frs X.stack → B.get? b = some o) (free : H' a = none) (notL : a ≠ X.env.locals) (notF : a ∉ X.fs) (sameOs : s'.os = sI.os) (bare : AllBare s'.gens)
    {hds : List ExceptHandler} {l : List (List Value × Suite)} (H : HdsA X n hds l) : wManyA X.K i Wout D l cls d σ' H' → ∀ h : Heap, HandSPX.FlyingZ B (X.env :: X.outer) a (Zc cls d) h → sI.heap.UpToSlots h →
    wpAny (model X.prog X.w) X.A (handleBy (.ref a) X.env hds) (SP X pins D) X.xe { s' with heap := h } := by
  induction H with
  | nil =>
    intro wish h fl up
    refine wpAny_handleBy_nil ?_
    have goOn : wpAny (model X.prog X.w) X.A (setFlight (.ref a) X.env.frame) (fun _ s4 => wpAny (model X.prog X.w) X.A (throw (.ref a) : Sem Flow) (SP X pins D) X.xe s4) X.xe { s' with heap := h } := by
      rw [fr]
      exact HandSPX.setFlight_upZ fl fun h4 held up4 => wpAny_throw (tk _ _ ⟨a, B, sI, pins, σ', H', cls, d, rfl, inv, ground, up.trans up4, .inr (.inr (two ▸ held)), free, sameOs, bare, wish⟩)
    obtain ⟨_, _, _, oe, vs, T, _, _, t1, _, t3, t4, _⟩ := id fl
    unfold PySem.passOn
    refine wpAny_bind (wpAny_field t1 t3 t4 ?_)
    have isRef : ¬ ((Value.ref T == Value.none) = true) := by simp
    rw [if_neg isRef]
    first
      | exact wpAny_bind goOn
      | exact wpAny_bind (wpAny_pure (by exact wpAny_bind goOn))
  | @cons te cs ts b₀ more pos' hds2 l2 named suited _ ih =>
    rintro ⟨b, ans, yes, no⟩ h fl up
    have onGround : ∀ {g : Heap}, HandSPX.FlyingZ B (X.env :: X.outer) a (Zc cls d) g → sI.heap.UpToSlots g → Inv X pins σ' H' { s' with heap := g } := fun f u => inv.landed ground f.1 u sameOs bare
    obtain ⟨oe, vs, t1, t2, t3⟩ := fl.there
    refine wpAny_handleBy_cons (codeAny_handlers_test (cte_run named ((onGround fl up).suite t1 t3 free notL notF) t1 t2.1 ans fun g kp => ?_)) (fun z => by cases z)
    have fl2 := fly_keeps fl kp
    have up2 := up.trans (Heap.UpToSlots.of_keeps kp)
    cases b with
    | false =>
      show wpAny _ X.A (handleBy _ X.env hds2) _ _ _
      exact ih (no rfl) g fl2 up2
    | true =>
      refine codeAny_handlers_suite_as (HandSPX.lands_againZ fl2 fun g4 fl4 up4 => ?_)
      obtain ⟨o4, _, u1, u2, u3⟩ := fl4.there
      have inv4 := (onGround fl4 (up2.trans up4)).suite u1 u3 free notL notF
      refine store_ok (X := X.suite a ((a, o4) :: (X.pn ++ pins))) (v := .ref a) inv4 nd slot (.inl loc) rfl (fun s5 inv5 => ?_) (.inr loc)
      refine wpAny_mono ((suited a o4 cls d (X.pn ++ pins) u2 ⟨_, u3⟩).run [] s5 _ H' (offName i D) inv5 (yes rfl a free)) ?_ (fun _ _ z => False.elim z)
      have nameGoes : ∀ {s6 : Shared} {σ6 : L2.St} {H6 : Hp} {Q : Shared → Prop}, Inv (X.suite a ((a, o4) :: (X.pn ++ pins))) [] σ6 H6 s6 → (∀ s7, Inv X pins (σ6.set i none) H6 s7 → Q s7) →
          wpAny (model X.prog X.w) X.A (do bindName X.env n .none; unbindBehindTheSuite X.env n pos') (fun _ s7 => Q s7) X.xe s6 := fun j z => gone_ok (j.unsuite inv.ok) nd slot loc z
      rintro (_ | _ | _ | v) s6 z
      · obtain ⟨_, _, j, z⟩ := z
        exact nameGoes j fun _ j7 => ⟨_, _, j7, z⟩
      · obtain ⟨_, _, j, z⟩ := z
        exact nameGoes j fun _ j7 => ⟨_, _, j7, z⟩
      · obtain ⟨_, _, j, z⟩ := z
        exact nameGoes j fun _ j7 => ⟨_, _, j7, z⟩
      · obtain ⟨_, _, _, j, r, z⟩ := z
        exact nameGoes j fun _ j7 => ⟨_, _, _, j7, r, z⟩
/-- try: body / except .. as n: ..  (several clauses) -/
theorem ps_try_manyA {body : List Stmt} {h₀ : ExceptHandler} {hds : List ExceptHandler} {l : List (List Value × Suite)} {pos : Pos} {tb : WX → TS} (two : X.stack = X.env :: X.outer) (fr : X.env.frame = some X.env.locals) (nd : X.N.Nodup) (slot : X.N[i]? = some n) (loc : X.env.kindOf n = some .local) (tk : Takes X Wout)
    (inside : ∀ (W : WX) (pn : List (Addr × Obj)) (xe : Value → Shared → Prop), Takes (X.tr pn xe) W → PassesOwn (model X.prog X.w) X.A X.env xe → PSs (X.tr pn xe) body (tb W))
    (clauses : HdsA X n (h₀ :: hds) l) : PS X (.Try body (h₀ :: hds) [] [] pos) (fun D σ H => tb (wManyA X.K i Wout D l) D σ H) := by
  refine ⟨fun pins st sl H D inv want => wpAny_Try_except (wpAny_mono ((inside (wManyA X.K i Wout D l) (X.pn ++ pins) _ (fun u s' air => ?_) PassesOwn.looking).run [] st sl H D (inv.toTry _) want) ?_ fun e s1 z => z)⟩
  · obtain ⟨a, B, sI, _, σ', H', cls, d, rfl, j0, ground, up, sky, free, sameOs, bare, wish⟩ := air
    have frames : X.A.frames = some (X.env :: X.outer) := two ▸ inv.ok.frames
    refine Sky.land Zc.steady frames fr (show Sky B (X.env :: X.outer) a (Zc cls d) X.env.locals s'.heap from two ▸ sky) fun h3 fl up3 => ?_
    obtain ⟨oe, vs, t1, _, t3⟩ := fl.there
    have noFrame : a ∉ frs (X.env :: X.outer) := fun m => by
      obtain ⟨_, o2, e2, nf⟩ := fl.2.2.1.mem m
      rw [t1] at e2
      cases e2
      exact nf _ t3
    refine hds_run two fr nd slot loc tk (j0.ofTry inv.ok) ground free (fun z => noFrame (List.mem_filterMap.mpr ⟨X.env, List.mem_cons_self, z ▸ fr⟩)) (fun m => ?_) sameOs bare clauses wish h3 fl (up.trans up3)
    obtain ⟨ev, m1, m2⟩ := List.mem_filterMap.mp m
    exact noFrame (List.mem_filterMap.mpr ⟨ev, List.mem_cons_of_mem _ m1, m2⟩)
  · rintro (_ | _ | _ | v) s1 z
    · obtain ⟨_, _, j, z⟩ := z
      exact wpAny_execs_nil ⟨_, _, j.ofTry inv.ok, z⟩
    · obtain ⟨_, _, j, z⟩ := z
      exact ⟨_, _, j.ofTry inv.ok, z⟩
    · obtain ⟨_, _, j, z⟩ := z
      exact ⟨_, _, j.ofTry inv.ok, z⟩
    · obtain ⟨_, _, _, j, r, z⟩ := z
      exact ⟨_, _, _, j.ofTry inv.ok, r, z⟩
end
end VQ
namespace VQ
open PySem PyProof.Rows L2 LamX
/-- kept by one part of the run, then by another one over more frames, all of which are new to the first -/
theorem un_comp {fs1 fs2 : List Addr} {H H1 H2 : Hp} {h h1 h2 : Heap} (u1 : Un fs1 [] H H1 h h1) (u2 : Un fs2 [] H1 H2 h1 h2) (sub : ∀ b ∈ fs2, b ∈ fs1 ∨ h.get? b = none) : Un fs1 [] H H2 h h2 where
  keep := fun b o e n hb hx => u2.keep b o (u1.keep b o e n hb hx) (u1.free b o e n hx) (fun m => (sub b m).elim hb fun z => nomatch z.symm.trans e) hx
  slot := fun b o e n hb hx => by
    obtain ⟨sl1, e1⟩ := u1.slot b o e n hb hx
    obtain ⟨sl2, e2⟩ := u2.any e1 (u1.free b o e n hx) hx
    exact ⟨sl2, e2⟩
  free := fun b o e n hx => let ⟨o', e1⟩ := u1.there b o e hx; u2.free b o' e1 (u1.free b o e n hx) hx
  there := fun b o e hx => let ⟨o', e1⟩ := u1.there b o e hx; u2.there b o' e1 hx
  tups := fun b xs e => u2.tups b xs (u1.tups b xs e)
  frzs := fun b o u e => u2.frzs b o u (u1.frzs b o u e)
  tbls := fun b ps e => by
    obtain ⟨m1, e1⟩ := u1.tbls b ps e
    obtain ⟨m2, e2⟩ := u2.tbls b _ e1
    rw [Array.append_assoc] at e2
    exact ⟨_, e2⟩
/-- a lambda's names: captured ones, globals, and names of its own that the maker does not have -/
structure LamS2 (X : Cx) (scope : Scope) : Prop where
  kind : scope.kind = .function
  co : scope.isCoroutine = false
  gen : scope.isGenerator = false
  noCell : ∀ y ∈ scope.names, y.2 ≠ .cell
  own : ∀ y ∈ scope.names, y.2 = .local → y.1 ∉ X.N
  free : ∀ y ∈ scope.names, y.2 = .free → X.env.scope.names.lookup y.1 = some .cell ∨ X.env.scope.names.lookup y.1 = some .free
def lamS2B (N : List Str) (sc scope : Scope) : Bool := decide (scope.kind = .function) && !scope.isCoroutine && !scope.isGenerator &&
  scope.names.all fun y => !decide (y.2 = .cell) && (!decide (y.2 = .local) || !N.contains y.1) && (!decide (y.2 = .free) || decide (sc.names.lookup y.1 = some .cell) || decide (sc.names.lookup y.1 = some .free))
theorem lamS2_by {X : Cx} {N : List Str} {sc scope : Scope} (h : lamS2B N sc scope = true) (eN : X.N = N) (es : X.env.scope = sc) : LamS2 X scope := by
  subst eN es
  simp only [lamS2B, Bool.and_eq_true, Bool.or_eq_true, Bool.not_eq_true', decide_eq_true_eq, decide_eq_false_iff_not, List.all_eq_true] at h
  obtain ⟨⟨⟨h1, h2⟩, h3⟩, h4⟩ := h
  refine ⟨h1, h2, h3, fun y m => (h4 y m).1.1, fun y m e z => ?_, fun y m e => ?_⟩
  · rcases (h4 y m).1.2 with q | q
    · exact q e
    · rw [List.contains_iff_mem.mpr z] at q
      cases q
  · rcases (h4 y m).2 with (q | q) | q
    · exact absurd e q
    · exact .inl q
    · exact .inr q
/-- the lambda of X's frame at the state st: its object at f, its code object at c -/
structure LamAt (X : Cx) (sl : L2.St) (H : Hp) (st : Shared) (body : Expr) (scope : Scope) (f c : Addr) : Prop where
  inv : ∃ pins, Inv X pins sl H st
  lam : LamS2 X scope
  new : H f = none
  nofr : f ∉ frs X.stack
  fn : ∃ (fd : FuncData) (binds : List (Str × Value)), st.heap.get? f = some { cls := .type "function", data := .func fd } ∧ fd.scope = scope ∧ fd.body = .expr body ∧ fd.code = .ref c ∧ fd.qualname = X.env.qual ++ "<lambda>" ∧ fd.globals = mainGlobals ∧ fd.builtins = builtinsNs ∧
    fd.closure = cloFrom X.env.cells scope.names [] ∧ (∀ y ∈ binds, scope.names.lookup y.1 = some .local) ∧ ∀ s1 : Shared, (∀ b o, st.heap.get? b = some o → H b = none → b ∉ frs X.stack → s1.heap.get? b = some o) → BindsTo s1 fd ⟨[], []⟩ binds
/-- its body as a reading, wherever it is entered -/
abbrev LamBody (X : Cx) (scope : Scope) (body : Expr) (k : Nat) (f c : Addr) (E : XK) (tb : TE) : Prop :=
  ∀ (A : Around) (outer : List Env) (s : Shared) (H : Hp), Room k (A.deeper (lamEnv X scope s.heap.objs.size f c)) → PE (lamCx X A outer s H E scope f c) body tb
section
variable {X : Cx} {sl : L2.St} {H : Hp} {st : Shared} {body : Expr} {scope : Scope} {f c : Addr} {k : Nat} {E : XK} {tb : TE}
/-- the closure's cells are the maker's -/
theorem clo_cell {y : Str} {d : Addr} (has : ∀ z ∈ scope.names, z.2 = .free → ∃ c, X.env.cells.lookup z.1 = some c) (e : (cloFrom X.env.cells scope.names []).lookup y = some d) : X.env.cells.lookup y = some d := by
  rcases cloFrom_mem (PySem.mem_of_lookup e) with m | ⟨m1, m2⟩
  · cases m
  · obtain ⟨c1, e1⟩ := has _ m1 rfl
    have e1 : X.env.cells.lookup y = some c1 := e1
    rw [m2, e1]
    rfl
theorem lam_enter {pins : List (Addr × Obj)} {A : Around} {outer : List Env} {s1 : Shared} {H1 : Hp} {h2 : Heap} {tk : Nat} {m : Str → Option Value} (inv : Inv X pins sl H st) (L : LamS2 X scope) (e0 : Env0 X.prog X.w X.K X.mg X.base A outer s1 H1) (cool : A.handled = none)
    (un : Un (frs X.stack) [] H H1 st.heap s1.heap) (ns : h2.Ns s1.heap.objs.size m) (grown : ∀ b o, s1.heap.get? b = some o → h2.get? b = some o) : Inv (lamCx X A outer s1 H1 E scope f c) [] sl H1 { s1 with heap := h2, toks := tk } := by
  have has : ∀ z ∈ scope.names, z.2 = .free → ∃ c, X.env.cells.lookup z.1 = some c := fun z m e => (L.free z m e).elim (fun q => inv.ok.has _ (.inl q)) (fun q => inv.ok.has _ (.inr q))
  have own : ∀ {y : Str}, scope.names.lookup y = some .free → ∃ d, (cloFrom X.env.cells scope.names []).lookup y = some d := fun {y} q => mem_lookup (cloFrom_has (cells := X.env.cells) (acc := []) (PySem.mem_of_lookup q))
  have cellOn : ∀ {d : Addr} {v : Option Value}, H d = none → st.heap.IsCell d v → h2.IsCell d v := fun {d v} z ⟨o, q1, q2⟩ => by
    obtain ⟨sl', q⟩ := un.any q1 z (by simp)
    exact ⟨_, grown _ _ q, q2⟩
  have noCell : ∀ {y : Str}, scope.names.lookup y ≠ some .cell := fun {y} q => L.noCell _ (PySem.mem_of_lookup q) rfl
  have none_ : ∀ b : Addr, b ∉ (lamCx X A outer s1 H1 E scope f c).ex := fun b z => by cases (show b ∈ ([] : List Addr) from z)
  exact {
    ok := {
      mod := e0.mod
      kind := L.kind
      glob := rfl
      blt := rfl
      above := Nat.le_refl _
      inj := fun y z d q1 q2 => inv.ok.inj y z d (clo_cell has q1) (clo_cell has q2)
      has := fun y q => q.elim (fun z => absurd (show scope.names.lookup y = some .cell from z) noCell) (fun z => own z)
      cab := fun y d z _ => by cases (show false = true from z)
      hd := fun _ => cool
      frames := Around.frames_deeper e0.frames
      stk := .inr ⟨rfl, rfl⟩
      exf := fun b z => absurd z (none_ b)
      bs := e0.bs
      bsz := e0.bsz
      noex := fun b _ _ => none_ b
      exfs := fun b z => absurd z (none_ b)
      funs := e0.funs
      frf := e0.frf }
    os := rfl
    bare := e0.bare
    base := Un.kept grown
    loc := ⟨m, ns, fun i y v q1 q2 q3 => by
      rcases (show Vis scope y from q3) with q | q | q
      · exact absurd (List.mem_of_getElem? q1) (L.own _ (PySem.mem_of_lookup q) rfl)
      · exact absurd q noCell
      · obtain ⟨m0, _, look⟩ := inv.loc
        have there := L.free _ (PySem.mem_of_lookup q) rfl
        obtain ⟨u, rel, at_⟩ := look i y v q1 q2 (.inr there)
        obtain ⟨d, hd⟩ := own q
        refine ⟨u, rel, .inr ⟨.inr q, d, hd, ?_⟩⟩
        have hd' := clo_cell has hd
        rcases at_ with ⟨z, _⟩ | ⟨_, d2, z1, z2⟩
        · have z : X.env.scope.names.lookup y = some .local := z
          rcases there with t | t <;> rw [t] at z <;> cases z
        · cases z1.symm.trans hd'
          exact cellOn (inv.freeC y _ hd') z2⟩
    cell := fun y d q => by
      obtain ⟨v, z⟩ := inv.cell y d (clo_cell has q)
      exact ⟨v, cellOn (inv.freeC y d (clo_cell has q)) z⟩
    free := e0.hok.fresh (Nat.le_refl _)
    freeC := fun y d q => by
      obtain ⟨v, o, z, _⟩ := inv.cell y d (clo_cell has q)
      exact un.free d o z (inv.freeC y d (clo_cell has q)) (by simp)
    pin := fun q m => by cases (show q ∈ ([] : List (Addr × Obj)) from m)
    hok := e0.hok.kept grown
    len := inv.len }
/-- called from the frames outer, at a state that has kept what st had -/
theorem lam_runs (L : LamAt X sl H st body scope f c) (bd : LamBody X scope body k f c E tb) {A : Around} {outer : List Env} {s1 : Shared} {H1 : Hp} {Q : VK} (room : Room (k + 1) A) (e0 : Env0 X.prog X.w X.K X.mg X.base A outer s1 H1)
    (un : Un (frs X.stack) [] H H1 st.heap s1.heap) (code : H1 c = some (CodeO c (X.env.qual ++ "<lambda>"))) (want : tb sl H1 Q) :
    codeAny (model X.prog X.w) A (.call (.ref f) ⟨[], []⟩) (CR (L2.CX X.prog X.w) outer X.prog X.w H1 s1 Q E) s1 := by
  obtain ⟨pins, inv⟩ := L.inv
  obtain ⟨⟨oc, vs, t, c1, c2, c3⟩, _⟩ := e0.hok c _ code
  obtain ⟨fd, binds, o1, o2, o3, o4, o5, o6, o7, o8, o9, o10⟩ := L.fn
  have stands := un.keep f _ o1 L.new L.nofr (by simp)
  have lim : s1.heap.NoLimit := e0.mod.nolimit.keeps fun b o z => (e0.bs b o z).1
  refine PySem.W.kla_callFunE room.depth stands rfl (by rw [o2]; exact L.lam.co) (by rw [o2]; exact L.lam.gen) o3 ⟨c, oc, vs, t, o4, c1, c2, by rw [o5]; exact c3⟩ (o10 s1 (fun b o z1 z2 z3 => un.keep b o z1 z2 z3 (by simp)) _ _ _ _ ?_)
  rw [o2, o4, o5, o6, o7, o8]
  refine wpAny_newFunctionEnv L.lam.noCell o9 (fun h2 ns but => ⟨lim.fresh _ but, ?_⟩) L.lam.kind
  have grown : ∀ b o, s1.heap.get? b = some o → h2.get? b = some o := fun b o z => but.extBut b o (Nat.ne_of_lt (Heap.lt_size z)) (Heap.get?_push_of_some _ z)
  have entered := lam_enter (E := E) (f := f) (c := c) (tk := s1.toks + binds.length) inv L.lam e0 room.hd un ns grown
  refine PySem.W.kla_codeExpr (wpAny_mono ((bd A outer s1 H1 (room.deeper _)).run [] _ _ H1 Q entered want) ?_ fun _ _ z => z)
  rintro v s2 ⟨v', H2, j, rel, q⟩
  exact ⟨v', H2, j.os, j.bare, j.base, j.hok, rel, q⟩
/-- y(), y in the i-th slot of a def that was handed the lambda, entered at s2 from the frames outer2 -/
theorem pe_actG {CXg : CXT} {Eg : XK} {N : List Str} {q : Str} {sg : Scope} {g : Addr} {cd : Value} {i : Nat} {y : Str} {pn : List (Addr × Obj)} {xe : Value → Shared → Prop} {W : WX} {p1 p2 : Pos} {A2 : Around} {outer2 : List Env} {s2 : Shared} {H2 : Hp}
    (L : LamAt X sl H st body scope f c) (bd : LamBody X scope body k f c E tb) (un2 : Un (frs X.stack) [] H H2 st.heap s2.heap) (sub : ∀ b ∈ frs outer2, b ∈ frs X.stack ∨ st.heap.get? b = none)
    (tk : Takes ((cxOf CXg X.prog X.w X.K X.mg X.base N q sg g cd A2 outer2 s2 H2 Eg).tr pn xe) W) (hW : ∀ cls d σ' H', σ'.length = N.length → E cls d H' → W cls d σ' H') (room : Room (k + 1) (A2.deeper (envOfC q sg s2.heap.objs.size g cd)))
    (slot : N[i]? = some y) (vis : Vis sg y) (n1 : (y == ("__debug__" : Str)) = false := by decide) (n2 : (y == ("__classdict__" : Str)) = false := by decide) :
    PE ((cxOf CXg X.prog X.w X.K X.mg X.base N q sg g cd A2 outer2 s2 H2 Eg).tr pn xe) (.Call (.Name y p1) [] [] p2)
      (fun σ' H' Q => σ'[i]? = some (some (.ref f)) ∧ H' c = some (CodeO c (X.env.qual ++ "<lambda>")) ∧ tb sl H' Q) := by
  refine ⟨fun pz sz σz Hz Q jz ⟨w1, w2, w3⟩ => ?_⟩
  refine wpAny_Call_Name_kw (thn ((pe_var (pos := p1) (i := i) slot vis n1 n2).run pz sz σz Hz (fun v H1 => v = .ref f ∧ H1 = Hz) jz ⟨_, w1, rfl, rfl⟩) ?_)
  rintro u s1 ⟨_, _, j, rel, rfl, rfl⟩
  cases (show u = Value.ref f from rel)
  have un := un_comp un2 (show Un (frs outer2) [] H2 _ s2.heap s1.heap from j.base) sub
  obtain ⟨fd, _, o1, _⟩ := L.fn
  refine PySem.W.callWith_F0 ⟨_, _, _, _, un.keep f _ o1 L.new L.nofr (by simp)⟩ ?_
  refine wpAny_call (codeAny_mono (lam_runs (Q := Q) L bd room j.env0 un w2 w3) ?_)
  rintro (er | (_ | _ | _ | u)) s3 z
  · exact tk er s3 (XE.of_call j (fun cls d H' y => hW cls d σz H' j.len y) z)
  · exact z.elim
  · exact z.elim
  · exact z.elim
  · exact j.after z
end
/-- a def that calls what it got, from wherever it is called -/
def Gives2 (P : Program) (w : World) (K : PySem.W.Frag) (mg : Str → Option Value) (base : Heap) (N : List Str) (x : Str) (sg : Scope) (g : Addr) (cd : Value) (bg : List Stmt) (y : Str) (q : Str) (TT : (XK → Hp → VK → Prop) → Hp → VK → Prop) : Prop :=
  ∀ (A2 : Around) (outer2 : List Env) (f c : Addr) (s : Shared) (H : Hp) (Q : VK) (tl : XK → Hp → VK → Prop),
    (∀ (W : WX) (pn : List (Addr × Obj)) (xe : Value → Shared → Prop) (E : XK) (p1 p2 : Pos), Takes ((cxOf C8.CX0 P w K mg base N x sg g cd A2 outer2 s H C8.E0).tr pn xe) W → (∀ cls d σ' H', σ'.length = N.length → E cls d H' → W cls d σ' H') →
      PE ((cxOf C8.CX0 P w K mg base N x sg g cd A2 outer2 s H C8.E0).tr pn xe) (.Call (.Name y p1) [] [] p2) (fun σ' H' Q => σ'[0]? = some (some (.ref f)) ∧ H' c = some (CodeO c q) ∧ tl E H' Q)) →
    H c = some (CodeO c q) → TT tl H Q → ∃ t, PSs (cxOf C8.CX0 P w K mg base N x sg g cd A2 outer2 s H C8.E0).nox bg t ∧ t { nx := fun _ H' => Q .non H', rt := Q } (L2.start N [.ref f]) H
/-- err.f in a suite, whatever the error's class is -/
def tXfA (K : PySem.W.Frag) (a : Addr) (cls : Value) (d : Option Addr) (f : Str) (te : TE) : TE := fun σ H Q => ∃ C, XfC K C ∧ PySem.W.findIn K (.ref C) f = some none ∧ tXf a cls d C f te σ H Q
theorem pe_xfA {X : Cx} {a : Addr} {oe : Obj} {cls : Value} {d : Option Addr} {pn : List (Addr × Obj)} {e : Expr} {te : TE} {pos : Pos} {n : Str} (z : Zc cls d oe) (rec_ : ∃ vs, oe.data = .fields vs) (he : PE (X.suite a ((a, oe) :: pn)) e te)
    (plain : attributeBase e n X.env (eval e X.env) = eval e X.env := by rfl) : PE (X.suite a ((a, oe) :: pn)) (.Attribute e n pos) (tXfA X.K a cls d n te) :=
  ⟨fun pins s σ H Q I ⟨_, xc, no, h⟩ => (pe_xf xc no z rec_ he plain).run pins s σ H Q I h⟩
/-! ### x1(lambda: body), x1: return x2(a1)[0]; x2 calls what it got -/
/-- a def as it stands: its parameter, names by slot, body -/
structure One (K : PySem.W.Frag) (mg : Str → Option Value) (x : Str) (g : Addr) (cd : Value) (N : List Str) (y : Str) (sg : Scope) (bg : List Stmt) : Prop where
  at_ : mg x = some (.ref g)
  kp : PySem.W.keepIn K (.ref g) = true
  ex : ∃ (oc : Value) (od : Option Addr) (pa : Arguments) (dV kV doc pm : Value) (an : Option Addr) (ct : Value) (osl : Array (Option Value)),
    K.lookup g = some ⟨oc, od, .func (PySem.W.fnOf x x pa bg sg dV kV doc pm an cd ct), osl⟩ ∧ L2.Binds K (PySem.W.fnOf x x pa bg sg dV kV doc pm an cd ct) [y] []
  code : PySem.W.codeIn K cd x = true
  sc : FnScope N [y] sg
  slot : N[0]? = some y
  vis : Vis sg y
  n1 : (x == ("__debug__" : Str)) = false
  n2 : (y == ("__debug__" : Str)) = false
  n3 : (y == ("__classdict__" : Str)) = false
theorem start_slot {N : List Str} {y : Str} {v : V} (h : N[0]? = some y) : (L2.start N [v])[0]? = some (some v) := by
  match N, h with
  | _ :: _, _ => rfl
section
variable {X : Cx} {x1 x2 y1 y2 : Str} {g1 g2 : Addr} {cd1 cd2 : Value} {N1 N2 : List Str} {sg1 sg2 : Scope} {bg2 : List Stmt} {j0 : Nat} {q1 q2 q3 q4 q5 q6 : Pos} {TT : (XK → Hp → VK → Prop) → Hp → VK → Prop}
abbrev handsOn (x2 y1 : Str) (j0 : Nat) (q1 q2 q3 q4 q5 q6 : Pos) : List Stmt := [.Return (some (.Subscript (.Call (.Name x2 q1) [.Name y1 q2] [] q3) (.Constant (.int 0) j0 q4) q5)) q6]
/-- in x1's frame, entered at s1 from X: x2(y1) -/
theorem pe_hand (D1 : One X.K X.mg x1 g1 cd1 N1 y1 sg1 (handsOn x2 y1 j0 q1 q2 q3 q4 q5 q6)) (D2 : One X.K X.mg x2 g2 cd2 N2 y2 sg2 bg2) (isG : sg1.names.lookup x2 = some .globalImplicit) (gives : Gives2 X.prog X.w X.K X.mg X.base N2 x2 sg2 g2 cd2 bg2 y2 (X.env.qual ++ "<lambda>") TT)
    {sl : L2.St} {H : Hp} {s1 : Shared} {body : Expr} {scope : Scope} {f c : Addr} {k : Nat} {t : XK → TE} (L : LamAt X sl H s1 body scope f c) (bd : ∀ E, LamBody X scope body k f c E (t E)) (room : Room (k + 2) (X.A.deeper (envOfC x1 sg1 s1.heap.objs.size g1 cd1))) :
    PE (cxOf C8.CX0 X.prog X.w X.K X.mg X.base N1 x1 sg1 g1 cd1 X.A X.stack s1 H C8.E0) (.Call (.Name x2 q1) [.Name y1 q2] [] q3)
      (fun σ' H' Q => σ'[0]? = some (some (.ref f)) ∧ H' c = some (CodeO c (X.env.qual ++ "<lambda>")) ∧ TT (fun E H2 Q2 => t E sl H2 Q2) H' Q) := by
  refine ⟨fun pz sz σz Hz Q jz ⟨w1, w2, w3⟩ => ?_⟩
  refine wpAny_Call_Name_kw (ld_glob jz (show (envOfC x1 sg1 s1.heap.objs.size g1 cd1).kindOf x2 = some .globalImplicit from isG) D2.at_ ?_ D2.n1)
  have arg : PA (cxOf C8.CX0 X.prog X.w X.K X.mg X.base N1 x1 sg1 g1 cd1 X.A X.stack s1 H C8.E0) [.Name y1 q2] (tCons (tVar 0) tNil) := pa_cons (pe_var (i := 0) D1.slot D1.vis D1.n2 D1.n3) pa_nil
  refine PySem.W.callWith_K (h₀ := X.base) jz.ok.mod.kin D2.kp (thn (arg.run q3 pz sz σz Hz (fun vs H2 => vs = [.ref f] ∧ H2 = Hz) jz ⟨_, w1, rfl, rfl⟩) ?_) (by rfl) (by rfl)
  rintro us s2 ⟨_, _, j, rel, rfl, rfl⟩
  obtain ⟨oc, od, pa, dV, kV, doc, pm2, an, ct, osl, lk, bnd⟩ := D2.ex
  match us, rel with
  | [_], .cons r .nil =>
    cases r
    refine ⟨j.kIn, ?_⟩
    have sub : ∀ b ∈ frs (envOfC x1 sg1 s1.heap.objs.size g1 cd1 :: X.stack), b ∈ frs X.stack ∨ s1.heap.get? b = none := fun b m => by
      obtain ⟨ev, m1, m2⟩ := List.mem_filterMap.mp m
      rcases List.mem_cons.mp m1 with rfl | m1
      · cases m2
        refine .inr (Option.eq_none_iff_forall_ne_some.mpr fun o z => ?_)
        exact Nat.lt_irrefl _ (Heap.lt_size z)
      · exact .inl (List.mem_filterMap.mpr ⟨ev, m1, m2⟩)
    have inner : codeAny (model X.prog X.w) (X.A.deeper (envOfC x1 sg1 s1.heap.objs.size g1 cd1)) (.call (.ref g2) ⟨[.ref f], []⟩) (CR C8.CX0 (envOfC x1 sg1 s1.heap.objs.size g1 cd1 :: X.stack) X.prog X.w _ s2 Q C8.E0) s2 :=
      run_ofS (N := N2) (ps := [y2]) (us := [.ref f]) (vs := [.ref f]) lk D2.code D2.sc room j.env0 (bnd s2 [.ref f] j.kIn rfl) (.cons rfl .nil) rfl fun room2 => by
        obtain ⟨tt, d1, d2⟩ := gives (X.A.deeper (envOfC x1 sg1 s1.heap.objs.size g1 cd1)) (envOfC x1 sg1 s1.heap.objs.size g1 cd1 :: X.stack) f c s2 _ Q (fun E H2 Q2 => t E sl H2 Q2)
          (fun W pn xe E p1 p2 tk hW => pe_actG (i := 0) L (bd E) (show Un (frs X.stack) [] H _ s1.heap s2.heap from j.base) sub tk hW room2 D2.slot D2.vis D2.n2 D2.n3) w2 w3
        exact ⟨tt, d1.nox, d2⟩
    refine wpAny_call (codeAny_mono inner ?_)
    rintro (er | (_ | _ | _ | u)) s3 z
    · exact (show False from z).elim
    · exact z.elim
    · exact z.elim
    · exact z.elim
    · exact j.after z
/-- the lambda is made, with whatever defaults -/
def LamMk (X : Cx) (T : List (Addr × Str)) (params : Arguments) (body : Expr) (scope : Scope) (lpos : Pos) : Prop :=
  ∀ {pins : List (Addr × Obj)} {sl : L2.St} {H : Hp} {st : Shared} {Q : Value → Shared → Prop} {E : Value → Shared → Prop}, Inv X pins sl H st → Tabs T H →
    (∀ (f c : Addr) (H1 : Hp) (s1 : Shared), Inv X pins sl H1 s1 → LamAt X sl H1 s1 body scope f c → ExtN H H1 → Tabs T H1 → H1 c = some (CodeO c (X.env.qual ++ "<lambda>")) → Q (.ref f) s1) →
    wpAny (model X.prog X.w) X.A (eval (.Lambda params body scope lpos) X.env) Q E st
theorem pe_word {T : List (Addr × Str)} {k : Nat} {params : Arguments} {body : Expr} {scope : Scope} {t : XK → TE} {p lpos pos : Pos} (isG : Gl X x1) (D1 : One X.K X.mg x1 g1 cd1 N1 y1 sg1 (handsOn x2 y1 j0 q1 q2 q3 q4 q5 q6)) (isG2 : sg1.names.lookup x2 = some .globalImplicit)
    (D2 : One X.K X.mg x2 g2 cd2 N2 y2 sg2 bg2) (gives : Gives2 X.prog X.w X.K X.mg X.base N2 x2 sg2 g2 cd2 bg2 y2 (X.env.qual ++ "<lambda>") TT) (mk : LamMk X T params body scope lpos) (room : Room (k + 3) X.A) (bd : ∀ f c' E, LamBody X scope body k f c' E (t E)) :
    PE X (.Call (.Name x1 p) [.Lambda params body scope lpos] [] pos) (tLam T (fun tl H Q => TT tl H fun v H1 => rIxT X.K v (.int 0) H1 Q) t) := by
  refine ⟨fun pins st sl H Q inv ⟨tabs, want⟩ => ?_⟩
  refine wpAny_Call_Name_kw (ld_glob inv isG D1.at_ (PySem.W.callWith_K (h₀ := X.base) inv.ok.mod.kin D1.kp ?_ (by rfl) (by rfl)) D1.n1)
  refine Calls.spliced_cons (rest := backTo pos (starEach [] X.env)) (mk inv tabs fun f c' H1 s1 inv1 LA ext tabs1 co => ?_)
  refine Calls.spliced_nil ⟨inv1.kIn, ?_⟩
  obtain ⟨oc, od, pa, dV, kV, doc, pm1, an, ct, osl, lk, bnd⟩ := D1.ex
  have outerRun : codeAny (model X.prog X.w) X.A (.call (.ref g1) ⟨[.ref f], []⟩) (CR C8.CX0 X.stack X.prog X.w H1 s1 Q C8.E0) s1 :=
    run_ofS (N := N1) (ps := [y1]) (us := [.ref f]) (vs := [.ref f]) lk D1.code D1.sc room inv1.env0 (bnd s1 [.ref f] inv1.kIn rfl) (.cons rfl .nil) rfl fun room1 =>
      ⟨_, pss_one (ps_ret (pe_ix ix_tup (pe_hand D1 D2 isG2 gives LA (bd f c') room1) pe_int fun _ _ => rfl)), start_slot D1.slot, co, want H1 ext tabs1⟩
  refine wpAny_call (codeAny_mono outerRun ?_)
  rintro (er | (_ | _ | _ | u)) s3 z
  · exact (show False from z).elim
  · exact z.elim
  · exact z.elim
  · exact z.elim
  · exact inv1.after z
end
section
variable {X : Cx} {T : List (Addr × Str)} {c P : Addr} {params : Arguments} {body : Expr} {scope : Scope} {lpos : Pos}
/-- without defaults -/
theorem mk_plain (TB : TabB X.base X.mg c P) (code : X.env.code = .ref c) (mem : (P, X.env.qual ++ "<lambda>") ∈ T) (only : ∀ p ∈ T, p.1 = P → p.2 = X.env.qual ++ "<lambda>") (L : LamS2 X scope) (nodef : defaultsOf params X.env = ([], []))
    (noargs : ∀ (q : Str) (cl : List (Str × Addr)) (pm cv ctv : Value), bindArgs (PySem.W.kla_fn "<lambda>" q params body scope cl pm cv ctv) ⟨[], []⟩ = pure []) : LamMk X T params body scope lpos := by
  intro pins sl H st Q E inv tabs k
  have has : ∀ z ∈ scope.names, z.2 = .free → ∃ c, X.env.cells.lookup z.1 = some c := fun z m e => (L.free z m e).elim (fun q => inv.ok.has _ (.inl q)) (fun q => inv.ok.has _ (.inr q))
  refine lam_make2 inv TB code mem only tabs nodef has fun f c' pm ctv H1 s1 inv1 ext tabs1 obj new nofr co => ?_
  exact k f c' H1 s1 inv1 ⟨⟨pins, inv1⟩, L, new, nofr, _, [], obj, rfl, rfl, rfl, rfl, rfl, rfl, rfl, (fun y m => by cases m), (fun s2 _ => BindsTo.of_eq (noargs _ _ _ _ _))⟩ ext tabs1 co
end
end VQ
namespace VQ
open PySem PyProof.Rows L2 LamX
/-! ### a lambda with a default -/
theorem ct_step {M : Model} {A : Around} {E : Value → Shared → Prop} {s : Shared} {b : Bool} {items : List Value} {jp : Value → Sem Value} {Q : Value → Shared → Prop} (k : ∀ (ct : Value) (h1 : Heap), (∀ b o, s.heap.get? b = some o → h1.get? b = some o) → s.heap.objs.size ≤ h1.objs.size → wpAny M A (jp ct) Q E { s with heap := h1 }) :
    wpAny M A (if b = true then (do let ct ← pure Value.none; jp ct) else (do let ct ← newTextTuple items; jp ct)) Q E s := by
  cases b with
  | true => exact wpAny_bind (wpAny_pure (k .none s.heap (fun _ _ z => z) (Nat.le_refl _)))
  | false => exact wpAny_bind (wpAny_newTextTuple (k _ _ (fun _ _ z => Heap.get?_push_of_some _ z) (by rw [Heap.size_push]; omega)))
abbrev fnDfl (q : Str) (params : Arguments) (body : Expr) (scope : Scope) (cl : List (Str × Addr)) (pm : Value) (c : Addr) (ctv dV : Value) : FuncData := { PySem.W.kla_fn "<lambda>" q params body scope cl pm (.ref c) ctv with defaults := dV }
section
variable {X : Cx} {T : List (Addr × Str)} {c P : Addr} {params : Arguments} {body : Expr} {scope : Scope} {lpos : Pos}
theorem tail_run {pins : List (Addr × Obj)} {sl : L2.St} {H : Hp} {st : Shared} {Q : Value → Shared → Prop} {E : Value → Shared → Prop} {dV : Value} (inv : Inv X pins sl H st) (TB : TabB X.base X.mg c P) (code : X.env.code = .ref c) (mem : (P, X.env.qual ++ "<lambda>") ∈ T) (only : ∀ p ∈ T, p.1 = P → p.2 = X.env.qual ++ "<lambda>") (tabs : Tabs T H)
    (has : ∀ z ∈ scope.names, z.2 = .free → ∃ c, X.env.cells.lookup z.1 = some c)
    (k : ∀ (f c' : Addr) (pm ctv : Value) (H1 : Hp) (s1 : Shared), Inv X pins sl H1 s1 → ExtN H H1 → Tabs T H1 → (∀ b o, st.heap.get? b = some o → H b = none → s1.heap.get? b = some o ∧ H1 b = none) →
      s1.heap.get? f = some { cls := .type "function", data := .func (fnDfl (X.env.qual ++ "<lambda>") params body scope (cloFrom X.env.cells scope.names []) pm c' ctv dV) } → H1 f = none → f ∉ frs X.stack → H1 c' = some (CodeO c' (X.env.qual ++ "<lambda>")) → Q (.ref f) s1) :
    wpAny (model X.prog X.w) X.A (makeTail "<lambda>" (X.env.qual ++ "<lambda>") params (.expr body) scope X.env dV .none none lpos lpos.line) Q E st := by
  obtain ⟨ps, atP, trip, known⟩ := tabs _ mem
  have rawP : st.heap.get? P = some { cls := .none, data := .fields ps } := inv.hok P _ atP
  obtain ⟨bm, ob, b1, b2, b3, b4, b5, b6, b7, b8⟩ := TB.bm.keeps inv.bk
  have noFrame : ∀ f, st.heap.objs.size ≤ f → f ∉ frs X.stack := fun f above z => by
    rcases List.mem_cons.mp (inv.stkSub _ z) with e | e
    · exact absurd inv.lt (by rw [← e]; exact Nat.not_lt.mpr above)
    · exact inv.nofs above e
  have nsG : st.heap.Ns mainGlobals X.mg := inv.mod.glob.keeps inv.bk
  unfold makeTail
  rw [closure_ok has, inv.ok.glob]
  refine wpAny_bind (wpAny_pure (ct_step fun ct h1 grown sz1 => ?_))
  have hd1 := (TB.code.keeps inv.bk).keeps grown
  have rawP1 := grown _ _ rawP
  cases found : codeAmong lpos ps.toList with
  | none =>
    refine wpAny_bind (wpAny_functionCodeX code (hd1.code rawP1 trip) (hd1.tab rawP1) found fun c' h2 tk but above below _ rec_ tab2 _ => ?_)
    have nsG2 := (nsG.keeps grown).extBut but TB.gP
    refine wpAny_bind (wpAny_builtinsFor nsG2 b1 b2 (but _ _ b4 (grown _ _ b5)) b6 b7 b8 (wpAny_bind (wpAny_nsGet nsG2 (wpAny_bind (wpAny_pure (wpAny_newObj_type ?_ (by size_fits)))))))
    obtain ⟨c2, oc, vs, t, ec, r1, r2, r3⟩ := rec_
    cases ec
    have newC : H c' = none := inv.hok.fresh (Nat.le_trans sz1 above)
    have szf : st.heap.objs.size ≤ h2.objs.size := Nat.le_trans (Nat.le_trans sz1 above) (Nat.le_of_lt below)
    have old : ∀ b o, b ≠ P → st.heap.get? b = some o → h2.get? b = some o := fun b o n z => but b o n (grown b o z)
    have inv2 := inv_table (t' := tk) (more := #[rawInt lpos.line, rawInt lpos.col, .ref c']) (h' := h2.push { cls := .type "function", data := .func (fnDfl (X.env.qual ++ "<lambda>") params body scope (cloFrom X.env.cells scope.names []) ((X.mg "__name__").getD .none) c' ct dV) }) inv atP
      (fun b o n z => Heap.get?_push_of_some _ (old b o n z)) (Heap.get?_push_of_some _ tab2.2) (Nat.le_trans sz1 above) ⟨oc, vs, t, Heap.get?_push_of_some _ r1, r2, r3⟩
    have nP : ∀ b, H b = none → b ≠ P := fun b z e => by
      rw [e, atP] at z
      cases z
    have ext : ExtN H (upd (upd H P (.tbl (ps ++ #[rawInt lpos.line, rawInt lpos.col, .ref c']))) c' (CodeO c' (X.env.qual ++ "<lambda>"))) := fun b o z n => by
      have bP : b ≠ P := fun e => by
        rw [e] at z
        exact n ps (Option.some.inj (z.symm.trans atP))
      rw [upd_ne (ne_of_none z newC), upd_ne bP]
      exact z
    have glue : (ps ++ #[rawInt lpos.line, rawInt lpos.col, Value.ref c']).toList = ps.toList ++ [rawInt lpos.line, rawInt lpos.col, .ref c'] := by simp
    refine k h2.objs.size c' _ ct _ _ inv2 ext (fun p m => ?_) (fun b o z n => ⟨Heap.get?_push_of_some _ (old b o (nP b n) z), ?_⟩) (Heap.get?_push_size _ rfl) ?_ (noFrame _ szf) upd_same
    · by_cases e : p.1 = P
      · rw [only p m e, e]
        refine ⟨_, by rw [upd_ne (ne_of_none atP newC), upd_same], by rw [glue]; exact PySem.TriplesOk_snoc _ _ _ _ trip, fun p' cv hit => ?_⟩
        rw [glue] at hit
        rcases among_app _ trip hit with z | z
        · obtain ⟨c0, z1, z2⟩ := known p' cv z
          exact ⟨c0, z1, ext _ _ z2 codeO_ne⟩
        · exact ⟨c', z, upd_same⟩
      · obtain ⟨ps', a1, a2, a3⟩ := tabs p m
        refine ⟨ps', by rw [upd_ne (ne_of_none a1 newC), upd_ne e]; exact a1, a2, fun p' cv hit => ?_⟩
        obtain ⟨c0, z1, z2⟩ := a3 p' cv hit
        exact ⟨c0, z1, ext _ _ z2 codeO_ne⟩
    · have nc : b ≠ c' := Nat.ne_of_lt (Nat.lt_of_lt_of_le (Heap.lt_size z) (Nat.le_trans sz1 above))
      rw [upd_ne nc, upd_ne (nP b n)]
      exact n
    · rw [upd_ne (Nat.ne_of_gt below), upd_ne (Nat.ne_of_gt (Nat.lt_of_lt_of_le (Heap.lt_size rawP) szf))]
      exact inv.hok.fresh szf
  | some cv =>
    obtain ⟨c', e, stands⟩ := known lpos cv found
    subst e
    have nsG1 := nsG.keeps grown
    refine wpAny_bind (wpAny_functionCode_hit code (hd1.code rawP1 trip) found (wpAny_bind (wpAny_builtinsFor nsG1 b1 b2 (grown _ _ b5) b6 b7 b8 (wpAny_bind (wpAny_nsGet nsG1 (wpAny_bind (wpAny_pure (wpAny_newObj_type ?_ (by size_fits)))))))))
    have stays : ∀ b o, st.heap.get? b = some o → (h1.push { cls := .type "function", data := .func (fnDfl (X.env.qual ++ "<lambda>") params body scope (cloFrom X.env.cells scope.names []) ((X.mg "__name__").getD .none) c' ct dV) }).get? b = some o := fun b o z => Heap.get?_push_of_some _ (grown b o z)
    exact k h1.objs.size c' _ ct H _ (inv.kept stays) (ExtN.refl H) tabs (fun b o z n => ⟨stays b o z, n⟩) (Heap.get?_push_size _ rfl) (inv.hok.fresh sz1) (noFrame _ sz1) stands
/-- one default, an int -/
theorem mk_dflt {i : Int} {j : Nat} {dp : Pos} {y : Str} (TB : TabB X.base X.mg c P) (code : X.env.code = .ref c) (mem : (P, X.env.qual ++ "<lambda>") ∈ T) (only : ∀ p ∈ T, p.1 = P → p.2 = X.env.qual ++ "<lambda>") (L : LamS2 X scope)
    (defs : defaultsOf params X.env = ([eval (.Constant (.int i) j dp) X.env], [])) (nokw : params.kwonlyargs = []) (loc : scope.names.lookup y = some .local)
    (args : ∀ (q : Str) (cl : List (Str × Addr)) (pm ctv u : Value) (cv T0 : Addr), ∃ k, bindArgs (fnDfl q params body scope cl pm cv ctv (.ref T0)) ⟨[], []⟩ = seqItems? (.ref T0) >>= k ∧ k (some #[u]) = pure [(y, u)]) : LamMk X T params body scope lpos := by
  intro pins sl H st Q E inv tabs k
  have has : ∀ z ∈ scope.names, z.2 = .free → ∃ c, X.env.cells.lookup z.1 = some c := fun z m e => (L.free z m e).elim (fun q => inv.ok.has _ (.inl q)) (fun q => inv.ok.has _ (.inr q))
  rw [arm_eval_Lambda, defs]
  show wpAny _ _ (do let dv ← evalAll [eval (.Constant (.int i) j dp) X.env]; let kdv ← holding dv (evalAllOpt []); makeFunction "<lambda>" (X.env.qual ++ "<lambda>") params (.expr body) scope X.env dv kdv [] lpos lpos.line) _ _ _
  refine wpAny_bind (wpAny_evalAll_cons (wpAny_Constant_int (wpAny_evalAll_nil (wpAny_bind (wpAny_holding (wpAny_pure ?_))))))
  rw [makeFunction_eq, nokw]
  simp only [List.zip_nil_left, List.filterMap_nil, List.isEmpty_nil, List.isEmpty_cons, if_true, Bool.false_eq_true, if_false, pure_bind]
  refine wpAny_bind (wpAny_newTextTuple ?_)
  have old : ∀ b o, st.heap.get? b = some o → (st.heap.push { cls := .type "tuple", data := .seq [Value.int i st.toks].toArray }).get? b = some o := fun b o z => Heap.get?_push_of_some _ z
  have atT : (st.heap.push { cls := .type "tuple", data := .seq [Value.int i st.toks].toArray }).get? st.heap.objs.size = some { cls := .type "tuple", data := .seq [Value.int i st.toks].toArray } := Heap.get?_push_size _ rfl
  have inv1 : Inv X pins sl H { st with heap := st.heap.push { cls := .type "tuple", data := .seq [Value.int i st.toks].toArray }, toks := st.toks + 1 } := inv.kept old
  have newT : H st.heap.objs.size = none := inv.hok.fresh (Nat.le_refl _)
  have noT : st.heap.objs.size ∉ frs X.stack := fun z => by
    rcases List.mem_cons.mp (inv.stkSub _ z) with e | e
    · exact absurd inv.lt (by rw [← e]; exact Nat.lt_irrefl _)
    · exact inv.nofs (Nat.le_refl _) e
  refine tail_run inv1 TB code mem only tabs has fun f c' pm ctv H1 s1 inv2 ext tabs1 keep obj new nofr co => ?_
  obtain ⟨t1, t2⟩ := keep _ _ atT newT
  refine k f c' H1 s1 inv2 ⟨⟨pins, inv2⟩, L, new, nofr, _, [(y, Value.int i st.toks)], obj, rfl, rfl, rfl, rfl, rfl, rfl, rfl, fun z m => ?_, fun s2 stays => ?_⟩ ext tabs1 co
  · rw [List.mem_singleton.mp m]
    exact loc
  · obtain ⟨kk, e1, e2⟩ := args (X.env.qual ++ "<lambda>") (cloFrom X.env.cells scope.names []) pm ctv (.int i st.toks) c' st.heap.objs.size
    refine BindsTo.of_looks fun M => ?_
    rw [e1]
    intro A' Q' E' s3 kp q
    have there := kp _ _ (stays _ _ t1 t2 noT)
    exact wpAny_bind (wpAny_seqItems there rfl ((PySem.W.Looks.of_pure e2 : PySem.W.Looks M s2.heap _ _) A' Q' E' s3 kp q))
end
end VQ
namespace VQ
open PySem PySem.Spec PyProof.Rows L2 LamX
/-! ### a tuple times a number from 1 on -/
theorem once_mul (l : Addr) (its : Array Value) (n : Nat) (dd : Option Addr) (sl : Array (Option Value)) (u : Tok) :
    Meets (Builtin.«tuple.__mul__» ⟨[.ref l, .int 1 u], []⟩) (fun _ R s => s.heap.get? l = some ⟨.type "tuple", dd, .seq its n, sl⟩ ∧ R (.ok (.ret (.ref l))) s) :=
  .of_wp fun prog w A R s h => by
    obtain ⟨hp, g, d, tk, os⟩ := s
    obtain ⟨hl, h⟩ := h
    have f1 := AutoSeq1.idx_int
    wp_walk using wpAny_loadPart' hl
    exact ⟨_, rfl, h⟩
/-- once is the tuple itself -/
def rTimes (K : PySem.W.Frag) : R2 := fun x y H Q => ∃ (l : Addr) (k : Int) (xs : List V), x = .ref l ∧ y = .int k ∧ SqT K H l xs ∧ xs ≠ [] ∧ 1 ≤ k ∧ k ≤ 1000 ∧ xs.length ≤ 1000 ∧
  (k = 1 → Q (.ref l) H) ∧ (k ≠ 1 → ∀ p, H p = none → Q (.ref p) (upd H p (.tup (List.replicate k.toNat xs).flatten)))
theorem op_times {X : Cx} : OpR X (binaryOp .Mult) (rTimes X.K) := by
  intro pins s σ H x y v u Q I rx ry h
  obtain ⟨l, k, xs, rfl, rfl, sq, ne, k1, k2, hz, q1, q2⟩ := h
  by_cases e : k = 1
  · subst e
    cases rx
    obtain ⟨t, rfl⟩ := ry
    obtain ⟨its, r, ⟨⟨cls, dd, data, sl⟩, ho, hc, n, hd⟩, hs⟩ := I.tuple sq
    simp only at hc hd
    subst hc hd
    exact wpAny_binaryOp_repeat_ref (T := "tuple") (U := "int") (by decide) ⟨_, ho, rfl⟩ (fun s' => typeIs_int s' 1 t) noFill_tuple_mul F.fills_int_mul F.slot_int_rmul repeat_tuple F.slot_int_index.lookup
      (call_meets F.slot_int_rmul (typeIs_int s 1 t) F.entry_int_rmul (F.args_int_rmul_2 _ _) (int_rmul_tuple 1 t l its.toArray n dd sl)
        ⟨ho, rfl, ⟨_, ho, rfl⟩, call_meets F.slot_tuple_mul ⟨_, ho, rfl⟩ F.entry_tuple_mul (F.args_tuple_mul_2 _ _) (once_mul l its.toArray n dd sl t) ⟨ho, .ref l, H, I, rfl, q1 rfl⟩⟩)
  · exact op_repT pins s σ H _ _ v u Q I rx ry ⟨l, k, xs, rfl, rfl, sq, ne, by omega, k2, hz, q2 e⟩
/-! ### comprehensions over zip of two tuples -/
theorem lc_zipT {K : PySem.W.Frag} {a b : Addr} {xs ys : List V} {g : TG} {tt : TT} {te : TE} {vs : List Nat} {σ : L2.St} {H1 : Hp} {D : Addr} {Qd : Hp → Prop} (len : xs.length = ys.length) (Pv : Nat → Hp → Prop) (h0 : Pv 0 (upd H1 D (.lst []))) (both : ∀ i H, Pv i H → SqT K H a xs ∧ SqT K H b ys)
    (turn : ∀ (i : Nat) (x y : V) (T : Addr) (H : Hp), xs[i]? = some x → ys[i]? = some y → Pv i H → H T = none → g (.ref T) (wipe σ vs) (upd H T (.tup [x, y])) fun σ2 H2 => wipe σ2 vs = wipe σ vs ∧ tt σ2 H2 fun b H3 => if b = true then te σ2 H3 fun y H4 => ∃ acc, H4 D = some (.lst acc) ∧ acc.length < sizeLine ∧ Pv (i + 1) (upd H4 D (.lst (acc ++ [y]))) else Pv (i + 1) H3)
    (fin : ∀ H, Pv xs.length H → Qd H) :
    ∃ W : Nat → Nat → Hp → Prop, (∃ m, W 0 m (upd H1 D (.lst []))) ∧ ∀ i m H, W i m H → ((RZ.ItzT K a b).stop i H ∧ Qd H) ∨ ((RZ.ItzT K a b).go i H ∧ ∃ Nx : Hp → Prop, (∀ H', Nx H' → ∃ m', m' < m ∧ W (i + 1) m' H') ∧
      ∀ x H', (RZ.ItzT K a b).yld i H x H' → g x (wipe σ vs) H' fun σ2 H2 => wipe σ2 vs = wipe σ vs ∧ tt σ2 H2 fun b H3 => if b = true then te σ2 H3 fun y H4 => ∃ acc, H4 D = some (.lst acc) ∧ acc.length < sizeLine ∧ Nx (upd H4 D (.lst (acc ++ [y]))) else Nx H3) := by
  refine ⟨fun i m H => m + i = xs.length ∧ Pv i H, ⟨xs.length, by simp, h0⟩, ?_⟩
  rintro i m H ⟨em, p⟩
  obtain ⟨sx, sy⟩ := both i H p
  by_cases lt : i < xs.length
  · have lt' : i < ys.length := by rw [← len]; exact lt
    refine .inr ⟨⟨xs, ys, xs[i], ys[i], sx, sy, List.getElem?_eq_getElem lt, List.getElem?_eq_getElem lt'⟩, Pv (i + 1), fun H' p' => ⟨m - 1, by omega, by omega, p'⟩, ?_⟩
    rintro v H' ⟨T, x, y, rfl, nT, rfl, e1, e2⟩
    exact turn i x y T H (e1 xs sx) (e2 ys sy) p nT
  · have e : i = xs.length := by omega
    subst e
    exact .inl ⟨⟨xs, ys, sx, sy, .inl (Nat.le_refl _)⟩, fin H p⟩
end VQ
namespace VQ
open PySem PySem.Spec PyProof.Rows L2
/-! ### enumerate of a tuple -/
abbrev tiO (l : Addr) : Obj := { cls := .type "tuple_iterator", data := .fields #[.ref l, .int 0 0] }
abbrev enO (it : Addr) : Obj := { cls := .type "enumerate", data := .fields #[.none, .bool false, .ref it, rawInt 0, .none, .none] }
theorem enum_newT (l : Addr) (its : Array Value) (n : Nat) (dd : Option Addr) (sl : Array (Option Value)) :
    Meets (Builtin.«enumerate.__new__» ⟨[.type "enumerate", .ref l], []⟩) (fun _ R s => s.heap.get? l = some ⟨.type "tuple", dd, .seq its n, sl⟩ ∧
      R (.ok (.ret (.ref (s.heap.push (tiO l)).objs.size))) { s with heap := (s.heap.push (tiO l)).push (enO s.heap.objs.size) }) :=
  .of_wp fun prog w A R s z => by
    obtain ⟨hp, g, d, tk, os⟩ := s
    obtain ⟨hl, z⟩ := z
    have isSub := sub_enumerate
    have tupL : Heap.IsTuple (Shared.heap ⟨hp, g, d, tk, os⟩) l its := ⟨_, hl, rfl, n, rfl⟩
    wp_walk using AutoSeq1.wpAny_loadPart' hl
    refine wpAny_stack_any fun _ => wpAny_pure ?_
    split
    · rename_i c _ _ _ _ _
      cases (c == Value.type "enumerate") <;>
      · wp_walk using AutoSeq1.wpAny_loadPart' hl, wpAny_pyIter_tuple tupL
        exact ⟨_, rfl, z⟩
    · wp_walk using AutoSeq1.wpAny_loadPart' hl, wpAny_pyIter_tuple tupL
      exact ⟨_, rfl, z⟩
theorem enum_callT {prog : Program} {w : World} {A : Around} {E : Value → Shared → Prop} {s : Shared} {l : Addr} {its : Array Value} {Q : Value → Shared → Prop} (tupL : s.heap.IsTuple l its)
    (k : ∀ g : Heap, IsEnum g (s.heap.objs.size + 1) s.heap.objs.size 0 .none → g.IsTupleIter s.heap.objs.size l 0 → (∀ b o, s.heap.get? b = some o → g.get? b = some o) → Q (.ref (s.heap.objs.size + 1)) { s with heap := g }) :
    wpAny (model prog w) A (call (.type "enumerate") [.ref l]) Q E s := by
  obtain ⟨⟨c, dd, dt, sl⟩, hl, c1, n, c2⟩ := tupL
  have c1 : c = .type "tuple" := c1
  have c2 : dt = .seq its n := c2
  subst c1 c2
  refine callType_new F.called_enumerate (by decide) (F.typeCall_enumerate_1 _) (F.newCall_enumerate_1 _) (fun x => F.args_object_init_2 x _) F.entry_enumerate_new (enum_newT l its n dd sl) ⟨hl, ?_⟩
  have sz : (s.heap.push (tiO l)).objs.size = s.heap.objs.size + 1 := Heap.size_push ..
  show _ ∧ _
  rw [sz]
  have en : IsEnum ((s.heap.push (tiO l)).push (enO s.heap.objs.size)) (s.heap.objs.size + 1) s.heap.objs.size 0 .none := by
    have q := Heap.get?_push_size (s.heap.push (tiO l)) (o := enO s.heap.objs.size) rfl
    rw [sz] at q
    exact q
  exact ⟨⟨_, en, rfl⟩, k _ en ⟨_, Heap.get?_push_of_some _ (Heap.get?_push_size _ rfl), rfl, rfl⟩ fun b o q => Heap.get?_push_of_some _ (Heap.get?_push_of_some _ q)⟩
/-- the tuple at a, each item in a new pair with its place -/
def IteT (K : PySem.W.Frag) (a : Addr) : It :=
  ⟨fun i H => ∃ (xs : List V) (x : V), SqT K H a xs ∧ xs[i]? = some x, fun i H v H' => ∃ T x, v = .ref T ∧ H T = none ∧ H' = upd H T (.tup [.int (i : Nat), x]) ∧ ∀ xs, SqT K H a xs → xs[i]? = some x, fun i H => ∃ xs : List V, SqT K H a xs ∧ xs.length = i⟩
theorem turn_enumT {P : Program} {w : World} {K : PySem.W.Frag} {elts : List Expr} {kk : Nat} {tpos : Pos} (a e it : Addr) :
    Turn P w K (.Tuple elts kk tpos) (IteT K a) [e, it] e (fun i h => (∃ old, IsEnum h e it ((i : Nat) : Int) old) ∧ h.IsTupleIter it a i) where
  mem := by simp
  obj := fun i h ⟨⟨old, he⟩, o, ho, hc, hd⟩ b hb => by
    have z : b = e ∨ b = it := by simpa using hb
    rcases z with rfl | rfl
    · exact ⟨_, he, fun v q => nomatch q⟩
    · exact ⟨o, ho, fun v q => by rw [hd] at q; cases q⟩
  keep := fun i h h' ⟨⟨old, he⟩, ti⟩ k => ⟨⟨old, k e (by simp) _ he⟩, ti.at fun o q => k it (by simp) o q⟩
  item := by
    rintro X rfl rfl rfl calm i pins s σ H E inv fp ⟨⟨old, he⟩, ti⟩ ⟨xs, x, sq, hx⟩
    obtain ⟨its, rv, tp, _⟩ := inv.tuple sq
    obtain ⟨u, hu, ru⟩ := rv.get hx
    have tp' : s.heap.IsTuple a its.toArray := tp
    have le : e < s.heap.objs.size := Heap.lt_size he
    have li : it < s.heap.objs.size := by obtain ⟨_, q, _⟩ := ti; exact Heap.lt_size q
    have ea : e ≠ a := fun z => by
      obtain ⟨o, ho, hc, _⟩ := tp'
      rw [← z, he] at ho
      cases ho
      injection hc with q
      exact absurd q (by decide)
    have ai : a ≠ it := fun z => by
      obtain ⟨o, ho, hc, _⟩ := tp'
      obtain ⟨o', ho', hc', _⟩ := ti
      rw [z, ho'] at ho
      cases ho
      rw [hc'] at hc
      injection hc with q
      exact absurd q (by decide)
    have ei : e ≠ it := fun z => by
      obtain ⟨o', ho', hc', _⟩ := ti
      rw [← z, he] at ho'
      cases ho'
      injection hc' with q
      exact absurd q (by decide)
    have hi : i < its.toArray.size := by
      have := (List.getElem?_eq_some_iff.mp hu).1
      simpa using this
    refine wpAny_pyNext_enum_itemD (Draws.tuple (A := X.A.in1) (inv.ok.hd calm) it a ai its.toArray) he ⟨ti, tp'⟩ hi ei (by simp [ei, ea]) fun y h1 tk py eo st hT _ kp => ?_
    have eu : y = u := by
      have q : its[i]? = some y := by simpa using py
      rw [hu] at q
      exact (Option.some.inj q).symm
    subst eu
    refine ⟨_, rfl, wpAny_letOwnedTupleGo_enum (s := { s with heap := h1, toks := tk + 1 }) eo fun h2 he2 sb => ?_⟩
    have hT2 : h2.get? s.heap.objs.size = some { cls := .type "tuple", data := .seq #[.int i tk, y] } := (sb.2 _ (Nat.ne_of_gt le)).trans hT
    have new : ObjOk X.prog X.w (upd H s.heap.objs.size (.tup [.int (i : Nat), x])) h2 s.heap.objs.size (.tup [.int (i : Nat), x]) :=
      ⟨by show 2 ≤ sizeLine; decide, [.int i tk, y], .cons ⟨_, rfl⟩ (.cons ru .nil), ⟨_, hT2, rfl, _, rfl⟩⟩
    have inv1 : Inv X pins σ (upd H s.heap.objs.size (.tup [.int (i : Nat), x])) { s with heap := h2, toks := tk + 1 } :=
      inv.turnedNew (ch := [e, it]) (fun b ob hb q => (sb.2 b (fun z => hb (by simp [z]))).trans (kp b ob (fun z => hb (by simp [z])) (fun z => hb (by simp [z])) q)) fp (Nat.le_refl _) new
    refine ⟨.ref s.heap.objs.size, _, inv1, rfl, ⟨_, x, rfl, inv.hok.fresh (Nat.le_refl _), rfl, fun ys hy => by rw [inv.tuple_inj hy sq]; exact hx⟩, ⟨⟨y, ?_⟩, st.1.at fun o q => (sb.2 it (Ne.symm ei)).trans q⟩, fun b hb => ?_⟩
    · rw [show ((i + 1 : Nat) : Int) = (i : Int) + 1 by omega]
      exact he2
    · have lb : b < s.heap.objs.size := by
        have z : b = e ∨ b = it := by simpa using hb
        rcases z with rfl | rfl
        · exact le
        · exact li
      rw [upd_ne (Nat.ne_of_lt lb)]
      exact (fp b hb).1
  done := by
    rintro X rfl rfl rfl calm i pins s σ H E inv fp ⟨⟨old, he⟩, ti⟩ ⟨xs, sq, hx⟩
    obtain ⟨its, rv, tp, _⟩ := inv.tuple sq
    obtain ⟨f0, f1, f2, f3, f4, f5⟩ := fp it (by simp)
    have tp' : s.heap.IsTuple a its.toArray := tp
    have ai : a ≠ it := fun z => by
      obtain ⟨o, ho, hc, _⟩ := tp'
      obtain ⟨o', ho', hc', _⟩ := ti
      rw [z, ho'] at ho
      cases ho
      rw [hc'] at hc
      injection hc with q
      exact absurd q (by decide)
    have sz : its.toArray.size = i := by
      have := rv.length
      simp
      omega
    refine wpAny_pyNext_enum_endD (n := its.toArray.size) (Draws.tuple (A := X.A.in1) (inv.ok.hd calm) it a ai its.toArray) he ⟨by rw [sz]; exact ti, tp'⟩ fun h1 eb => ⟨rfl, inv.turned (t' := s.toks) (fun b o hb q => eb b o hb q) f0 f1 f3 f4 f5⟩
  self := fun A i s Q E ⟨⟨_, he⟩, _⟩ h => wpAny_pyIter_enum he h
def iEnumT (K : PySem.W.Frag) (ta : TA) : TI := fun σ H R => ta σ H fun vs H1 => ∃ a xs, vs = [.ref a] ∧ SqT K H1 a xs ∧ R (IteT K a) H1
theorem pi_enumT {X : Cx} {e : Expr} {ta : TA} {p pos tpos : Pos} {elts : List Expr} {kk : Nat} (isG : Gl X "enumerate") (atG : X.mg "enumerate" = none) (ha : PA X [e] ta) (hs : starEach [e] X.env = [(false, eval e X.env)] := by rfl) :
    PI X (.Tuple elts kk tpos) (.Call (.Name "enumerate" p) [e] [] pos) (iEnumT X.K ta) := by
  refine ⟨fun pins s σ H R inv h => Call_ (ld_blt inv isG atG boot_enumerate (callWith_type1 (thn (ha.run pos pins s σ H _ inv h) fun us s1 ⟨vs, H1, I1, r1, q1⟩ => ?_) hs rfl))⟩
  obtain ⟨a, xs, rfl, sq, q⟩ := q1
  cases r1 with
  | cons r rr =>
    cases rr
    cases r
    obtain ⟨its, rv, tp, _⟩ := I1.tuple sq
    refine enum_callT tp fun g he ti kp => wpAny_pyIter_enum he ?_
    refine ⟨s1.heap.objs.size + 1, [s1.heap.objs.size + 1, s1.heap.objs.size], _, _, H1, rfl, I1.kept (t' := s1.toks) kp, turn_enumT a (s1.heap.objs.size + 1) s1.heap.objs.size, ⟨⟨.none, he⟩, ti⟩, fun b hb => ?_, q⟩
    have le : s1.heap.objs.size ≤ b := by
      have z : b = s1.heap.objs.size + 1 ∨ b = s1.heap.objs.size := by simpa using hb
      rcases z with rfl | rfl
      · exact Nat.le_succ _
      · exact Nat.le_refl _
    exact I1.fpOk le (I1.hok.fresh le)
/-- a for over enumerate of a tuple, by what holds between two turns -/
theorem for_enumT {K : PySem.W.Frag} {a : Addr} {xs : List V} {g : TG} {tb : TS} {D : Ends} {σ : L2.St} {H : Hp} (Pv : Nat → L2.St → Hp → Prop) (h0 : Pv 0 σ H) (there : ∀ i σ H, Pv i σ H → SqT K H a xs)
    (turn : ∀ (i : Nat) (x : V) (T : Addr) (σ : L2.St) (H : Hp), xs[i]? = some x → Pv i σ H → H T = none → g (.ref T) σ (upd H T (.tup [.int (i : Nat), x])) fun σ2 H2 => tb { D with nx := Pv (i + 1), ct := Pv (i + 1), bk := D.nx } σ2 H2)
    (fin : ∀ σ H, Pv xs.length σ H → D.nx σ H) :
    ∃ W : Nat → Nat → L2.St → Hp → Prop, (∃ m, W 0 m σ H) ∧ ∀ i m σ H, W i m σ H →
      ((IteT K a).stop i H ∧ D.nx σ H) ∨ ((IteT K a).go i H ∧ ∃ N : L2.St → Hp → Prop, (∀ σ' H', N σ' H' → ∃ m', m' < m ∧ W (i + 1) m' σ' H') ∧ ∀ x H', (IteT K a).yld i H x H' → g x σ H' fun σ2 H2 => tb { D with nx := N, ct := N, bk := D.nx } σ2 H2) := by
  refine ⟨fun i m σ H => m + i = xs.length ∧ Pv i σ H, ⟨xs.length, rfl, h0⟩, ?_⟩
  rintro i m σ H ⟨em, p⟩
  have sq := there i σ H p
  by_cases lt : i < xs.length
  · refine .inr ⟨⟨xs, xs[i], sq, List.getElem?_eq_getElem lt⟩, Pv (i + 1), fun σ' H' p' => ⟨m - 1, by omega, by omega, p'⟩, ?_⟩
    rintro v H' ⟨T, x, rfl, nT, rfl, ex⟩
    exact turn i x T σ H (ex xs sq) p nT
  · have e : i = xs.length := by omega
    subst e
    exact .inl ⟨⟨xs, sq, rfl⟩, fin σ H p⟩
end VQ
namespace VQ
open PySem L2 LamX
section
variable {K : PySem.W.Frag}
/-! ### tuples put together, cut -/
theorem rd_cat {H : Hp} {a b : Addr} {xs ys : List V} {Q : VK} (ha : H a = some (.tup xs)) (hb : H b = some (.tup ys)) (hl : xs.length + ys.length ≤ 1000)
    (k : ∀ (p : Addr) (H' : Hp), Same H H' → H' p = some (.tup (xs ++ ys)) → Q (.ref p) H') : rCatA K (.ref a) (.ref b) H Q := by
  refine ⟨a, b, xs, ys, rfl, rfl, SqT.of ha, SqT.of hb, Nat.le_trans hl (by decide), fun e => ?_, fun _ e => ?_, fun _ _ p hp => k p _ (same_new hp) upd_same⟩
  · subst e
    exact k b H (Same.refl H) hb
  · subst e
    exact k a H (Same.refl H) (by rw [List.append_nil]; exact ha)
theorem rd_cut {H : Hp} {a : Addr} {xs : List V} {lo hi : Option Int} {Q : VK} (ha : H a = some (.tup xs)) (k : ∀ (p : Addr) (H' : Hp), Same H H' → H' p = some (.tup (cutV xs lo hi)) → Q (.ref p) H') : rSlA K (.ref a) lo hi H Q := by
  refine ⟨a, xs, rfl, SqT.of ha, fun e => k a H (Same.refl H) ?_, fun _ p hp => k p _ (same_new hp) upd_same⟩
  have q : cutV xs lo hi = xs := by
    unfold cutV
    rw [e.1, e.2, List.drop_zero, Nat.sub_zero, List.take_length]
  rw [q]
  exact ha
theorem cut_upto (xs : List V) {k : Nat} (h : k ≤ xs.length) : cutV xs none (some (k : Int)) = xs.take k := by
  unfold cutV
  rw [HT.sIx_nat, HT.sIx_none, Nat.min_eq_left h, List.drop_zero, Nat.sub_zero]
theorem cut_behind (xs : List V) {k : Nat} (h : k ≤ xs.length) : cutV xs (some (k : Int)) none = xs.drop k := by
  unfold cutV
  rw [HT.sIx_nat, HT.sIx_none, Nat.min_eq_left h]
  exact List.take_of_length_le (by rw [List.length_drop]; omega)
end
end VQ
namespace VQ
open PySem PySem.Spec PyProof.Rows L2 LamX
/-! ### a tuple times nought -/
abbrev noneO : Obj := { cls := .type "tuple", data := .seq #[] }
theorem nought_mul (l : Addr) (its : Array Value) (n : Nat) (dd : Option Addr) (sl : Array (Option Value)) (u : Tok) (ne : its.isEmpty = false) :
    Meets (Builtin.«tuple.__mul__» ⟨[.ref l, .int 0 u], []⟩) (fun _ R s => s.heap.get? l = some ⟨.type "tuple", dd, .seq its n, sl⟩ ∧ R (.ok (.ret (.ref s.heap.objs.size))) { s with heap := s.heap.push noneO }) :=
  .of_wp fun prog w A R s h => by
    obtain ⟨hp, g, d, tk, os⟩ := s
    obtain ⟨hl, h⟩ := h
    have f1 := AutoSeq1.idx_int
    have c1 : (its.isEmpty || ((0 : Int) == 1)) = false := by rw [ne]; rfl
    wp_walk using wpAny_loadPart' hl
    repeat (first
      | (refine wpAny_ite_false (decide_eq_false (by rw [c1]; exact Bool.false_ne_true)) ?_; wp_walk using wpAny_loadPart' hl))
    exact ⟨_, rfl, h⟩
def rTimes0 (K : PySem.W.Frag) : R2 := fun x y H Q => ∃ (l : Addr) (k : Int) (xs : List V), x = .ref l ∧ y = .int k ∧ SqT K H l xs ∧ xs ≠ [] ∧ 0 ≤ k ∧ k ≤ 1000 ∧ xs.length ≤ 1000 ∧
  (k = 1 → Q (.ref l) H) ∧ (k ≠ 1 → ∀ p, H p = none → Q (.ref p) (upd H p (.tup (List.replicate k.toNat xs).flatten)))
theorem op_times0 {X : Cx} : OpR X (binaryOp .Mult) (rTimes0 X.K) := by
  intro pins s σ H x y v u Q I rx ry h
  obtain ⟨l, k, xs, rfl, rfl, sq, ne, k1, k2, hz, q1, q2⟩ := h
  by_cases e : k = 0
  · subst e
    cases rx
    obtain ⟨t, rfl⟩ := ry
    obtain ⟨its, r, ⟨⟨cls, dd, data, sl⟩, ho, hc, n, hd⟩, hs⟩ := I.tuple sq
    simp only at hc hd
    subst hc hd
    have ni : its.toArray.isEmpty = false := by
      cases its with
      | nil => exact absurd (List.eq_nil_of_length_eq_zero r.length) ne
      | cons a b => rfl
    refine wpAny_binaryOp_repeat_ref (T := "tuple") (U := "int") (by decide) ⟨_, ho, rfl⟩ (fun s' => typeIs_int s' 0 t) noFill_tuple_mul F.fills_int_mul F.slot_int_rmul repeat_tuple F.slot_int_index.lookup
      (call_meets F.slot_int_rmul (typeIs_int s 0 t) F.entry_int_rmul (F.args_int_rmul_2 _ _) (int_rmul_tuple 0 t l its.toArray n dd sl)
        ⟨ho, rfl, ⟨_, ho, rfl⟩, call_meets F.slot_tuple_mul ⟨_, ho, rfl⟩ F.entry_tuple_mul (F.args_tuple_mul_2 _ _) (nought_mul l its.toArray n dd sl t ni) ⟨ho, ?_⟩⟩)
    have q : Q (.ref s.heap.objs.size) (upd H s.heap.objs.size (.tup [])) := q2 (by decide) _ (I.hok.fresh (Nat.le_refl _))
    exact ⟨.ref s.heap.objs.size, _, I.laid (t' := s.toks) (o := .tup []) (fun b ob z => Heap.get?_push_of_some _ z) (Nat.le_refl _) ⟨Nat.zero_le _, [], .nil, IsTup.new _ _⟩, rfl, q⟩
  · exact op_times pins s σ H _ _ v u Q I rx ry ⟨l, k, xs, rfl, rfl, sq, ne, by omega, k2, hz, q1, q2⟩
end VQ
namespace VQ
open PySem PySem.Spec PyProof.Rows L2
/-! ### set(xs) of a list of numbers -/
/-- a set as it is made, without members -/
abbrev bareSet (w : World) : Obj := { cls := .type "set", dict := none, data := .set #[] 0 (.fresh 0 0 (!w.params.followText "set-order")) }
/-- what stands when the list is gone through -/
abbrev SetDone (w : World) (s : Shared) (ns : List Int) (s2 : Shared) : Prop := ∃ g tk c, s2 = { s with heap := g, toks := tk } ∧ SetR w g s.heap.objs.size (fun j => decide (j ∈ ns)) c ∧ c ≤ ns.length ∧ ∀ b o, s.heap.get? b = some o → g.get? b = some o
section
variable {P : Program} {w : World} {A : Around} {E : Value → Shared → Prop} {s : Shared}
theorem set_filled {l : Addr} {its : Array Value} {ns : List Int} {Z : PySem.Fin → Shared → Prop} (calm : A.handled = none) (isl : s.heap.IsList l its) (are : IntsAre its.toList ns) (few : ns.length + 1 < scanBound)
    (fin : ∀ s2, SetDone w s ns s2 → Z (.done (.ret .none)) s2) :
    wpAny (model P w) A.in1 (Builtin.«set.__init__» ⟨[.ref s.heap.objs.size, .ref l], []⟩) Z E { s with heap := s.heap.push (bareSet w) } := by
  obtain ⟨⟨oc, od, ot, os'⟩, at_l, e1, nl, e2⟩ := isl
  dsimp only at e1 e2
  subst e1 e2
  have cnt : its.size = ns.length := (Array.length_toList).symm.trans (IntsAre.length are)
  have here : (s.heap.push (bareSet w)).get? s.heap.objs.size = some (bareSet w) := Heap.get?_push_size _ rfl
  have tyS : Shared.TypeIs { s with heap := s.heap.push (bareSet w) } (.ref s.heap.objs.size) "set" := ⟨_, here, rfl⟩
  have at_l' := Heap.get?_push_of_some (bareSet w) at_l
  have isl' : (s.heap.push (bareSet w)).IsList l its := ⟨_, at_l', rfl, nl, rfl⟩
  have n1 := F.sub_list_set
  have n2 := F.sub_list_frozenset
  have n3 : (Value.type "list" == Value.type "dict") = false := by decide
  unfold Builtin.«set.__init__» noKeywords Builtin.Frozenset.updateFrom
  generalize itE : pyIter = it
  wp_walk
  subst itE
  refine wpAny_pyIter_list isl' ?_
  refine wpAny_bind (wpAny_runValue ?_)
  have lt_l : l < s.heap.objs.size := Heap.lt_size at_l
  have calm3 : A.in1.in1.handled = none := by simp [calm]
  have size1 : (s.heap.push (bareSet w)).objs.size = s.heap.objs.size + 1 := Heap.size_push ..
  have ne_l : l ≠ (s.heap.push (bareSet w)).objs.size := by
    rw [size1]
    exact Nat.ne_of_lt (Nat.lt_succ_of_lt lt_l)
  have out : s.heap.objs.size ∉ [(s.heap.push (bareSet w)).objs.size, l] := fun m => by
    rcases List.mem_cons.mp m with q | q
    · rw [size1] at q
      exact Nat.ne_of_lt (Nat.lt_succ_self _) q
    · exact Nat.ne_of_gt lt_l (List.mem_singleton.mp q)
  have vals : ∀ (i : Nat) (v : Value), its[i]? = some v → ∃ k t, ns[i]? = some k ∧ v = .int k t := fun i v hv => by
    have hi : i < ns.length := by
      rw [← cnt]
      exact (Array.getElem?_eq_some_iff.mp hv).1
    obtain ⟨t, ht⟩ := are.get i _ (List.getElem?_eq_getElem hi)
    rw [Array.getElem?_toList, hv] at ht
    exact ⟨_, t, List.getElem?_eq_getElem hi, Option.some.inj ht⟩
  refine set_update_ints ((Walks.list calm3 _ l ne_l its).toS) s.heap.objs.size out ns cnt few vals (its.size - 0) 0 _ (by omega) (Nat.zero_le _) ?walk
    ⟨0, Nat.le_refl 0, ?fresh⟩ fun s2 c mv hc R => ?_
  case walk => exact ⟨⟨_, Heap.get?_push_size _ rfl, rfl, rfl⟩, isl'.push _⟩
  case fresh => exact setR_new_at (w := w) (Heap.get?_push_of_some _ here)
  obtain ⟨g, ge, dr, tk, os2⟩ := s2
  have q1 : ge = s.gens := mv.gens
  have q2 : dr = s.drawn := mv.drawn
  have q3 : os2 = s.os := mv.os
  subst q1 q2 q3
  show wpAny _ _ _ _ _ _
  refine wpAny_pure ?_
  show wpAny _ _ (ret Value.none) _ _ _
  refine wpAny_pure (fin _ ⟨g, tk, c, rfl, R, by omega, fun b o z => mv.heap b o (fun m => ?_) (Heap.get?_push_of_some _ (Heap.get?_push_of_some _ z))⟩)
  have lb := Heap.lt_size z
  rcases List.mem_cons.mp m with q | q
  · exact Nat.ne_of_lt lb q
  · have q := List.mem_singleton.mp q
    rw [size1] at q
    exact Nat.ne_of_lt (Nat.lt_succ_of_lt lb) q
theorem set_call {l : Addr} {its : Array Value} {ns : List Int} {Q : Value → Shared → Prop} (calm : A.handled = none) (isl : s.heap.IsList l its) (are : IntsAre its.toList ns) (few : ns.length + 1 < scanBound)
    (fin : ∀ s2, SetDone w s ns s2 → Q (.ref s.heap.objs.size) s2) : wpAny (model P w) A (call (.type "set") [.ref l]) Q E s := by
  obtain ⟨c0, tl, mro⟩ := F.called_set.mro
  have made := F.called_set.made
  have subt := F.called_set.sub
  have nty := F.called_set.notType
  have canc := F.called_set.canCreate
  have tyc := F.typeCall_set_1 (.ref l)
  have here : (s.heap.push (bareSet w)).get? s.heap.objs.size = some (bareSet w) := Heap.get?_push_size _ rfl
  have tyS : Shared.TypeIs { s with heap := s.heap.push (bareSet w) } (.ref s.heap.objs.size) "set" := ⟨_, here, rfl⟩
  have ini := F.called_set.init.lookup
  have inb := F.called_set.init.bind (.ref s.heap.objs.size)
  refine wpAny_call (codeAny_of_tree ?_)
  show wpAny _ _ (callAny (.type "set") _) _ _ _
  refine wpAny_pure ⟨Code.quiet_builtin _ (by decide +kernel), ?go⟩
  case go =>
  refine codeAny_builtin F.entry_type_call ?_
  rw [Around.under_plain (weight_type_call_type "set" [.ref l] []) rfl]
  repeat (any_goals (first | assumption | wp_step))
  refine codeAny_mono (code_set_led1 (w := w) (.ref l) (E := E) (Q₁ := fun v t => v = .ref s.heap.objs.size ∧ t = { s with heap := s.heap.push (bareSet w) }) ⟨rfl, rfl⟩) fun r t z => ?_
  match r, z with
  | .error e, z => exact z
  | .ok (.ret v), z =>
    obtain ⟨rfl, rfl⟩ := z
    repeat (any_goals (first | assumption | wp_step))
    refine codeAny_mono (codeAny_call_builtin (R := wants (fun v t => v = .none ∧ SetDone w s ns t) E) F.called_set.init.plain F.entry_set_init (check_set_init_1 tyS (set_filled (A := A.in1) (by simp [calm]) isl are few fun s2 d => ⟨rfl, d⟩))) fun r t z => ?_
    match r, z with
    | .error e, z => exact z
    | .ok (.ret v), z =>
      obtain ⟨rfl, d⟩ := z
      obtain ⟨g, tk, c, rfl, d'⟩ := id d
      repeat (any_goals (first | assumption | wp_step))
      exact fin _ d
end
/-- set(xs), xs a list of numbers -/
def rSetI (K : PySem.W.Frag) (w : World) : List V → Hp → VK → Prop := fun xs H Q => ∃ (l : Addr) (ns : List Int), xs = [V.ref l] ∧ SqL K H l (ns.map V.int) ∧ ns.length < 1000 ∧
  ∀ (a : Addr) (c : Nat), H a = none → c ≤ ns.length → Q (.ref a) (upd H a (SetO w a (fun j => decide (j ∈ ns)) c))
theorem cr_setI {X : Cx} (hc : X.calm = true) : CallR X (.type "set") (rSetI X.K X.w) := by
  intro pins s σ H xs us Q I r h
  obtain ⟨l, ns, rfl, hl, few, q⟩ := h
  rw [Vals.ref1 r]
  obtain ⟨its, rv, pl, hz⟩ := I.list hl
  have hn : H s.heap.objs.size = none := I.hok.fresh (Nat.le_refl _)
  refine set_call (P := X.prog) (w := X.w) (I.ok.hd hc) pl.isList (by simpa using ints_of_vals rv) (Nat.lt_of_lt_of_le (show ns.length + 1 < 1001 by omega) (by decide)) fun s2 d => ?_
  obtain ⟨g, tk, c, rfl, R, lc, k⟩ := d
  exact ⟨.ref s.heap.objs.size, _, I.laid (t' := tk) k (Nat.le_refl _) (setO_new R), rfl, q _ c hn lc⟩
end VQ
namespace VQ
open PySem PySem.Spec PyProof.Rows L2
/-! ### sorted(xs) of tuples of as many numbers each, any count of them -/
theorem swo_rank (r : Value → Int) : SrtO.Swo fun v u => decide (r v < r u) := by
  refine ⟨fun x y h => ?_, fun x y z h1 h2 => ?_⟩
  · have := of_decide_eq_true h
    exact decide_eq_false (by omega)
  · have a := of_decide_eq_false h1
    have b := of_decide_eq_false h2
    exact decide_eq_false (by omega)
section
variable {prog : Program} {w : World} {A : Around} {E : Value → Shared → Prop} {s : Shared}
theorem tups_sortable {a : Addr} {vs : List Value} {d : Nat} {B : Int} (h0 : 0 < vs.length) (hd : 1 ≤ d) (x : TS.TupsOk s.heap d B vs) (ha : ∀ o, s.heap.get? a = some o → o.cls ≠ .type "tuple") (r : Value → Int) (hr : ∀ v, v ∈ vs → ∀ ns, TS.TupInts s.heap v ns → r v = TS.code B ns) :
    SrtO.SortableO prog w A s a vs fun v u => decide (r v < r u) := by
  intro h' keep
  have kp : ∀ b o, s.heap.get? b = some o → o.cls = .type "tuple" → h'.get? b = some o := fun b o e c => keep b o (fun z => by subst z; exact ha o e c) e
  have x' : TS.TupsOk h' d B vs := x.keeps kp
  obtain ⟨fs, h1, h2, h3⟩ := TS.firsts_of hd vs x'
  refine ⟨tuples' true, fun Q E hq => ?_, fun p q hp hq => ?_⟩
  · refine PySem.W.kat_kind (T := .type "int") h1 (by omega) (fun f hm => ?_) (by rfl) ?_
    · obtain ⟨n, t, rfl⟩ := h3 f hm
      exact PySem.W.Looks.of_pure rfl
    · have e : (Value.type "int" != Value.type "tuple") = true := by first | decide +kernel | rfl | decide
      rw [e]
      exact hq
  · obtain ⟨ns0, t0, l0, b0⟩ := x p.1 hp
    obtain ⟨ms0, u0, k0, c0⟩ := x q.1 hq
    have ep := hr _ hp _ t0
    have eq' := hr _ hq _ u0
    obtain ⟨pa, xs, e1, ⟨o, ho, hc, n, hdt⟩, i⟩ := t0.keeps kp
    obtain ⟨qa, ys, e2, ⟨o', ho', hc', n', hdt'⟩, i'⟩ := u0.keeps kp
    show wpAny (model prog w) A (keyLt' (tuples' true) p.1 q.1) (fun z s' => s' = _ ∧ z = decide (r p.1 < r q.1)) _ _
    rw [ep, eq', e1, e2]
    refine PySem.W.kat_lt ho hdt ho' hdt' ?_
    have sz : decide (xs.size < ys.size) = false := by
      have l1 := i.length
      have l2 := i'.length
      rw [Array.length_toList] at l1 l2
      exact decide_eq_false (by omega)
    rw [sz]
    exact TS.lex_ints 0 i i' (by omega) b0 c0 ⟨rfl, rfl⟩
end
def rSortM (K : PySem.W.Frag) (d : Nat) (B : Int) : List V → Hp → VK → Prop := fun vs H Q => ∃ (a : Addr) (xs : List V), vs = [V.ref a] ∧ SqL K H a xs ∧ (∀ x ∈ xs, ∃ ns, TupI K H x ns ∧ ns.length = d ∧ TS.Bd B ns) ∧
  ∀ (ys : List V) (p : Addr), ys.Perm xs → ys.Pairwise (fun x y => ∀ n m, TupI K H x n → TupI K H y m → TS.code B n ≤ TS.code B m) → H p = none → Q (.ref p) (upd H p (.lst ys))
theorem cr_sortM {X : Cx} {d : Nat} {B : Int} (hd : 1 ≤ d) : CallR X (.builtin "sorted") (rSortM X.K d B) := by
  intro pins s σ H vs us Q inv r h
  obtain ⟨a, xs, rfl, hs, hx, q⟩ := h
  obtain ⟨its, rv, hl, hz⟩ := inv.list hs
  rw [Vals.ref1 r]
  obtain ⟨e1, e2⟩ := bkV_refs rv fun x m => by
    obtain ⟨ns, ⟨t, e, _⟩, _⟩ := hx x m
    exact ⟨t, e⟩
  have ok : TS.TupsOk s.heap d B its := fun v hv => by
    obtain ⟨t, rfl⟩ := e2 v hv
    have hm : V.ref t ∈ xs := by
      rw [e1]
      exact List.mem_map.mpr ⟨_, hv, rfl⟩
    obtain ⟨ns, ⟨t', e, ht⟩, hn, hb⟩ := hx _ hm
    cases e
    exact ⟨ns, tupI_raw inv ht, hn, hb⟩
  refine SrtO.sorted_ord (swo_rank fun v => TS.code B (TS.intsOf s.heap v)) hl.isList (by rw [← rv.length]; exact hz) (fun h2 h₁ a' ha kk => ?_) fun out h1 h2 => ?_
  · refine tups_sortable (s := { s with heap := h₁ }) (by omega) hd (ok.keeps fun b o e _ => (kk b o e).2) (fun o e => ?_) _ fun v hv ns t => ?_
    · have e' : some o = some (seqObj "list" its.toArray 0) := e.symm.trans ha
      cases e'
      intro c
      exact absurd (Value.type.inj c) (by decide)
    · obtain ⟨ns0, t0, _⟩ := ok v hv
      have en : ns = ns0 := t.ints.symm.trans (t0.keeps fun b o e _ => (kk b o e).2).ints
      rw [en]
      show TS.code B (TS.intsOf s.heap v) = TS.code B ns0
      rw [t0.ints]
  · obtain ⟨ep, he'⟩ := PyProof.Rows.sortedAll_at s.heap its out.toArray
    have h3 : ∀ u ∈ out, ∃ a, u = Value.ref a := fun u hu => e2 u (h2.perm.mem_iff.mp hu)
    have hp : (out.map bkV).Perm xs := by
      rw [e1]
      exact h2.perm.map bkV
    have hlen : (out.map bkV).length ≤ sizeLine := by
      rw [hp.length_eq]
      exact hz
    refine ⟨.ref _, upd H (s.heap.objs.size + 1) (.lst (out.map bkV)), inv.laid (t' := s.toks) (fun _ _ => PyProof.Rows.sortedAll_old) (Nat.le_succ _) ⟨hlen, out, ep, bkV_vals h3, he'⟩, rfl, q _ _ hp ?_ (inv.hok.fresh (Nat.le_succ _))⟩
    rw [List.pairwise_map]
    refine List.Pairwise.imp (fun {u v} huv n m hn hm => ?_) h1
    obtain ⟨t, et, ht⟩ := hn
    obtain ⟨t', et', ht'⟩ := hm
    have eu := bkV_ref et
    have ev := bkV_ref et'
    subst eu ev
    have z := of_decide_eq_false huv
    rw [(tupI_raw inv ht).ints, (tupI_raw inv ht').ints] at z
    omega
end VQ
namespace VQ
open PySem PyProof.Rows L2
/-! ### a comprehension out of whose element an exception may fly -/
theorem note_frame {x : Value} {env env' : Env} (h : env'.frame = env.frame) : noteFrame x env' = noteFrame x env := by
  unfold noteFrame PySem.frameOf
  rw [h]
/-- as compPost, but that the frame which the exception is handed on from is told -/
def cPost (M : Model) (A : Around) (E : Value → Shared → Prop) (use : Option (Value → Sem Unit)) (Q : Value → Shared → Prop) (acc : Value) (C : Addr) (fr : Option Addr) (r : Result) (s' : Shared) : Prop :=
  match r with
  | .ok f => compPost M A E use Q acc C (.ok f) s'
  | .error x => ∃ m, s'.heap.Ns C m ∧ ∀ h', Heap.SameBut C s'.heap h' → ∀ ev : Env, ev.frame = fr → wpAny M A (passOn "comprehension.variables-let-go" x ev : Sem Value) (fun _ _ => False) E { s' with heap := h' }
theorem comp_freeX {M : Model} {A : Around} {E : Value → Shared → Prop} {s : Shared} {env : Env} {e : Expr} {scope : Scope} {pos : Pos} {newAcc first : Sem Value} {g : Comprehension} {gs : List Comprehension} {cl : List (Str × Addr)} {use : Option (Value → Sem Unit)} {Q : Value → Shared → Prop}
    (clauses : clausesOf e = g :: gs) (folded : ∀ x, foldedSetIterable g.iter env x = pure x) (closes : closureFor scope env = pure cl) (kind : scope.kind = .function) (locals : ∀ x ∈ scope.names, x.2 = .local → scope.names.lookup x.1 = some .local)
    (h : wpAny M A first (fun x t1 => wpAny M A (pyIter x) (fun it t2 => wpAny M A newAcc (fun acc t3 => wpAny M A (newFunctionEnv scope env.globals cl [] env.qual none .none (some env)) (fun ev t4 =>
        codeAny M A (.compStart e 0 it acc { ev with scope := relabel scope env }) (cPost M A E use Q acc ev.locals ev.frame) t4) E t3) E t2) E t1) E s) : wpAny M A (comprehension e scope env pos newAcc false first use) Q E s := by
  unfold comprehension
  rw [closes, clauses]
  refine wpAny_bind (wpAny_mono h (fun x t1 g1 => wpAny_bind (wpAny_standAt (wpAny_bind (wpAny_of_eq (folded x) (wpAny_bind (wpAny_holding (wpAny_mono g1 (fun it t2 g2 =>
    wpAny_standIf (wpAny_bind (wpAny_mono g2 (fun acc t3 g3 => wpAny_bind (wpAny_pure (wpAny_bind (wpAny_mono g3 (fun ev t4 g4 => ?_) fun _ _ y => y)))) fun _ _ y => y))) fun _ _ y => y))))))) fun _ _ y => y)
  dsimp only
  have own : ∀ x ∈ (scope.names.filter fun x => (x.2 == .local || x.2 == .cell) && x.1 != (".0" : Str)).reverse, x.2 = .local → Env.kindOf { ev with scope := relabel scope env } x.1 = some .local := fun x m l => lookup_relabel_local (locals x (List.mem_filter.mp (List.mem_reverse.mp m)).1 l)
  have own2 : ∀ x ∈ (scope.names.filter fun x => (x.2 == .local || x.2 == .cell) && x.1 != (".0" : Str)).reverse.drop 1 ++ (scope.names.filter fun x => (x.2 == .local || x.2 == .cell) && x.1 != (".0" : Str)).reverse.take 1, x.2 = .local → Env.kindOf { ev with scope := relabel scope env } x.1 = some .local := fun x m l => by
    rcases List.mem_append.mp m with m | m
    · exact own x (List.mem_of_mem_drop m) l
    · exact own x (List.mem_of_mem_take m) l
  refine wpAny_holding (wpAny_bind (wpAny_attempt (wpAny_holding (wpAny_run (codeAny_mono g4 fun r t5 g5 => ?_)))))
  cases r with
  | ok f =>
    cases use with
    | none =>
      obtain ⟨m, ns, g6⟩ := g5
      exact wpAny_bind (wpAny_holding (wpAny_comp_letGo (cenv := { ev with scope := relabel scope env }) kind _ t5 m own ns fun k _ _ sb => wpAny_pure (g6 k sb)))
    | some u =>
      refine wpAny_bind (wpAny_rule (wpAny_bind (wpAny_holding (wpAny_mono g5 (fun _ t6 g6 => ?_) fun _ _ y => y))))
      obtain ⟨m, ns, g7⟩ := g6
      exact wpAny_bind (wpAny_comp_letGo (cenv := { ev with scope := relabel scope env }) kind _ t6 m own2 ns fun k _ _ sb => wpAny_pure (g7 k sb))
  | error x =>
    obtain ⟨m, ns, g6⟩ := g5
    exact wpAny_bind (wpAny_holding (wpAny_comp_letGo (cenv := { ev with scope := relabel scope env }) kind _ t5 m own ns fun k _ _ sb => wpAny_mono (g6 k sb _ rfl) (fun _ _ z => z.elim) fun _ _ y => y))
theorem frames_on {h h' B B' : Heap} (k : ∀ L o, B.get? L = none → h.get? L = some o → h'.get? L = some o ∧ B'.get? L = none) : ∀ {l : List Env}, h.FunFrames B l → h'.FunFrames B' l
  | [], _ => trivial
  | _ :: _, ⟨a1, ⟨L, o, a2, a3, a4, a5⟩, a6⟩ => ⟨a1, ⟨L, o, a2, (k L o a3 a4).2, (k L o a3 a4).1, a5⟩, frames_on k a6⟩
/-- the exception of a call within the block, led to the def's own air -/
theorem comp_air {X : Cx} {pins : List (Addr × Obj)} {σ : L2.St} {H3 H9 H' : Hp} {s3 s9 s10 : Shared} {ce : Env} {fp : List Addr} {C a : Addr} {B : Heap} {cls : Value} {d : Option Addr} {W : WX} {use : Option (Value → Sem Unit)} {Qf : Value → Shared → Prop} {acc : Value} {m9 : Str → Option Value}
    (two : X.stack = X.env :: X.outer) (fr : X.env.frame = some X.env.locals) (tk : Takes X W) (eF : ce.frame = X.env.frame) (I3 : Inv X pins σ H3 s3) (newC : s3.heap.get? C = none) (okC : FpOk X pins H9 C) (okF : ∀ b ∈ fp, FpOk X pins H3 b)
    (un : Un (frs X.stack) fp H3 H9 s3.heap s9.heap) (os9 : s9.os = s3.os) (ns9 : s9.heap.Ns C m9) (fl : HandSPX.FlyingZ B X.stack a (Zc cls d) s10.heap) (hok : HOk X.prog X.w H' B) (ub : UB (frs X.stack) H9 H' s9.heap B s10.heap) (na : H' a = none) (os10 : s10.os = s9.os) (ag : AllBare s10.gens)
    (w : W cls d σ H') : notedBy (model X.prog X.w) X.A ce (fun e s' => cPost (model X.prog X.w) X.A X.xe use Qf acc C ce.frame (.error e) s') (.ref a) s10 := by
  have frames : X.A.frames = some (X.env :: X.outer) := by rw [I3.ok.frames, two]
  obtain ⟨oC, es, ep, atC, dC, keysC, findC⟩ := ns9
  have offC : C ∉ frs X.stack := fun z => by
    rcases List.mem_cons.mp (I3.stkSub C z) with q | q
    · exact okC.2.1 q
    · exact okC.2.2.1 q
  have inB : B.get? C = some oC := ub.keep C oC atC okC.1 offC
  have freeC : H' C = none := ub.free C oC atC okC.1
  unfold notedBy
  rw [note_frame eF]
  refine HandSPX.looks_onZ Zc.steady frames fr (two ▸ fl) fun h11 held up => ?_
  have at11 : h11.get? C = some oC := held.1 C oC inB
  refine ⟨m9, ⟨oC, es, ep, at11, dC, keysC, findC⟩, fun h12 sb ev efr => ?_⟩
  obtain ⟨B2, b1, b2⟩ := L2.restrict B fun b => decide (b ≠ C)
  have inB2 : ∀ b o, B2.get? b = some o → b ≠ C ∧ B.get? b = some o := fun b o e => by
    by_cases q : b = C
    · rw [b2 b (by simp [q])] at e
      cases e
    · rw [b1 b (by simp [q])] at e
      exact ⟨q, e⟩
  have toB2 : ∀ b o, b ≠ C → B.get? b = some o → B2.get? b = some o := fun b o q e => by
    rw [b1 b (by simp [q])]
    exact e
  have noB2 : ∀ b, B.get? b = none → B2.get? b = none := fun b e => by
    by_cases q : b = C
    · exact b2 b (by simp [q])
    · rw [b1 b (by simp [q])]
      exact e
  have stay2 : B2.StaysIn h12 := fun b o e => by
    obtain ⟨q, e⟩ := inB2 b o e
    exact (sb.2 b q).trans (held.1 b o e)
  have neC : ∀ (b : Addr) (o : Obj) (vs : Array Value), h11.get? b = some o → o.data = .fields vs → b ≠ C := fun b o vs e dd q => by
    rw [q, at11] at e
    cases e
    rw [dC] at dd
    cases dd
  obtain ⟨k1, k2, k3, oe, vs, T, oT, ts, t1, t2, t3, t4, t5, t6, t7, t8, t9⟩ := id held
  have aC := neC a oe vs t1 t3
  have TC := neC T oT ts t7 t8
  have e12 : h12.get? a = some oe := (sb.2 a aC).trans t1
  have held2 : HandSPX.HeldZ B2 (X.env :: X.outer) a (Zc cls d) X.env.locals h12 := by
    refine ⟨stay2, noB2 a k2, frames_on (fun L o e1 e2 => ⟨(sb.2 L fun q => by rw [q, inB] at e1; cases e1).trans e2, noB2 L e1⟩) k3, oe, vs, T, oT, ts, e12, t2, t3, t4, noB2 T t5, t6, (sb.2 T TC).trans t7, t8, t9⟩
  unfold PySem.passOn
  refine wpAny_bind (wpAny_field e12 t3 t4 ?_)
  have isRef : ¬ ((Value.ref T == Value.none) = true) := by simp
  rw [if_neg isRef, efr, eF, fr]
  refine wpAny_bind (HandSPX.setFlight_onZ held2 fun h13 held3 up3 => wpAny_throw (tk _ _ ?_))
  obtain ⟨G, g1, g2⟩ := L2.restrict h13 fun b => (B2.get? b).isSome || decide (b ∈ frs X.stack)
  have gB : ∀ b o, B2.get? b = some o → G.get? b = some o := fun b o e => by
    rw [g1 b (by simp [e])]
    exact held3.1 b o e
  have gF : ∀ b, b ∈ frs X.stack → G.get? b = h13.get? b := fun b hb => g1 b (by simp [hb])
  have gO : ∀ b o, G.get? b = some o → h13.get? b = some o ∧ ((B2.get? b).isSome = true ∨ b ∈ frs X.stack) := fun b o e => by
    cases q : ((B2.get? b).isSome || decide (b ∈ frs X.stack)) with
    | false =>
      rw [g2 b q] at e
      cases e
    | true =>
      rw [g1 b q] at e
      exact ⟨e, by simpa [Bool.or_eq_true] using q⟩
  have old : ∀ b o, s3.heap.get? b = some o → b ≠ C := fun b o e q => by
    rw [q, newC] at e
    cases e
  have hok2 : HOk X.prog X.w H' B2 := fun b o q => (hok b o q).stay (fun c u hc r => toB2 c u (fun z => by
    rcases hc with hc | hc
    · rw [← hc, z, freeC] at q
      cases q
    · rw [z, freeC] at hc
      cases hc) r) (fun _ r => r) fun _ _ r => r
  have slots : ∀ b o, s3.heap.get? b = some o → b ∈ frs X.stack → b ∉ fp → ∃ sl, G.get? b = some { o with slots := sl } := fun b o e hb hx => by
    obtain ⟨_, o', e', nf⟩ := I3.stack.mem hb
    rw [e] at e'
    cases e'
    obtain ⟨sl1, e1⟩ := un.slot b o e (I3.stkFree b hb) hb hx
    obtain ⟨sl2, e2⟩ := ub.slot b _ e1 hb
    obtain ⟨sl3, e3⟩ := up b _ e2 nf
    obtain ⟨sl4, e4⟩ := up3 b _ ((sb.2 b (old b o e)).trans e3) nf
    exact ⟨sl4, by rw [gF b hb]; exact e4⟩
  refine ⟨a, B2, { s3 with heap := G, gens := s10.gens, drawn := s10.drawn, toks := s10.toks }, pins, σ, H', cls, d, rfl, ?_, fun b o e hb => ?_, Heap.UpToSlots.of_keeps fun b o e => (gO b o e).1, .inr (.inr (two ▸ held3)), na, os10.trans os9, ag, w⟩
  · refine I3.call (ch := fp) ⟨fun b o e n hb hx => gB b o (toB2 b o (old b o e) (ub.keep b o (un.keep b o e n hb hx) (un.free b o e n hx) hb)), fun b o e n hb hx => slots b o e hb hx, fun b o e n hx => ?_, fun b o e hx => ?_, fun b xs e => ub.tups b xs (un.tups b xs e), fun b o u e => ub.frzs b o u (un.frzs b o u e), fun b ps e => ?_⟩ (hok2.kept gB) ag fun b hb => ?_
    · obtain ⟨o', e'⟩ := un.there b o e hx
      exact ub.free b o' e' (un.free b o e n hx)
    · by_cases hb : b ∈ frs X.stack
      · obtain ⟨sl, q⟩ := slots b o e hb hx
        exact ⟨_, q⟩
      · obtain ⟨o', e'⟩ := un.there b o e hx
        obtain ⟨o2, q⟩ := ub.there b o' e' hb
        exact ⟨o2, gB b o2 (toB2 b o2 (old b o e) q)⟩
    · obtain ⟨m1, e1⟩ := un.tbls b ps e
      obtain ⟨m2, e2⟩ := ub.tbls b _ e1
      rw [Array.append_assoc] at e2
      exact ⟨_, e2⟩
    · have z := okF b hb
      exact ⟨z.2.2.2.1, z.2.1, z.2.2.2.2.1, z.2.2.2.2.2⟩
  · obtain ⟨e', q⟩ := gO b o e
    rcases q with q | q
    · obtain ⟨o', q⟩ := Option.isSome_iff_exists.mp q
      have z := held3.1 b o' q
      rw [e'] at z
      cases z
      exact q
    · exact absurd q hb
theorem Inv.air {X : Cx} {pins : List (Addr × Obj)} {σ : L2.St} {H : Hp} {s : Shared} (xe : Value → Shared → Prop) (I : Inv X pins σ H s) : Inv { X with xe := xe } pins σ H s where
  ok := ⟨I.ok.mod, I.ok.kind, I.ok.glob, I.ok.blt, I.ok.above, I.ok.inj, I.ok.has, I.ok.cab, I.ok.hd, I.ok.frames, I.ok.stk, I.ok.exf, I.ok.bs, I.ok.bsz, I.ok.noex, I.ok.exfs, I.ok.funs, I.ok.frf⟩
  os := I.os
  bare := I.bare
  base := I.base
  loc := I.loc
  cell := I.cell
  free := I.free
  freeC := I.freeC
  pin := I.pin
  hok := I.hok
  len := I.len
/-- the element, wherever the block stands: what its calls let out is taken -/
abbrev EltX (X : Cx) (scope : Scope) (elt : Expr) (te : TE) (E : XK) : Prop := ∀ (s : Shared) (H : Hp) (C : Addr) (cl : List (Str × Addr)) (fp : List Addr) (xe : Value → Shared → Prop), Passes (L2.CX X.prog X.w) { X.blk s H scope (compEnvC scope cl C X.env) fp with xe := xe } E → PE { X.blk s H scope (compEnvC scope cl C X.env) fp with xe := xe } elt te
theorem lcX_core {X : Cx} {pins : List (Addr × Obj)} {s : Shared} {σ : L2.St} {H : Hp} {Q : VK} {elt tg iter : Expr} {ifs : List Expr} {scope : Scope} {own : List (Str × Nat)} {pos pos' : Pos} {wi : TI} {g : TG} {tt : TT} {te : TE} {use : Option (Value → Sem Unit)} {Qf : Value → Shared → Prop} {W : WX} {E : XK}
    (two : X.stack = X.env :: X.outer) (fr : X.env.frame = some X.env.locals) (tk : Takes X W) (wish : ∀ cls d H', E cls d H' → W cls d σ H') (calm : X.calm = true) (nd : X.N.Nodup) (inv : Inv X pins σ H s) (hi : PI X tg iter wi) (ok : BlkOk X.N X.env.scope scope own)
    (hg : ∀ (s : Shared) (H : Hp) (C : Addr) (cl : List (Str × Addr)) (fp : List Addr), PG (X.blk s H scope (compEnvC scope cl C X.env) fp) tg g) (ht : ∀ (s : Shared) (H : Hp) (C : Addr) (cl : List (Str × Addr)) (fp : List Addr), PTs (X.blk s H scope (compEnvC scope cl C X.env) fp) ifs tt)
    (he : EltX X scope elt te E) (folded : ∀ x, foldedSetIterable iter X.env x = pure x) (want : tLc wi g tt te (own.map (·.2)) σ H Q)
    (ends : ∀ D C s' m H', Inv X pins σ H' s' → Q (.ref D) H' → s'.heap.Ns C m → FpOk X pins H' C → compPost (model X.prog X.w) X.A X.xe use Qf (.ref D) C (.ok .next) s') :
    wpAny (model X.prog X.w) X.A (comprehension (.ListComp elt [⟨tg, iter, ifs, 0⟩] scope pos) scope X.env pos' (newList []) false (eval iter X.env) use) Qf X.xe s := by
  have frees : ∀ y ∈ scope.names, y.2 = .free → ∃ c, X.env.cells.lookup y.1 = some c := fun y m e => by
    rcases ok.free y m e with k | k
    · exact inv.ok.has _ (.inl k)
    · exact inv.ok.has _ (.inr k)
  refine comp_freeX (use := use) rfl folded (closure_ok frees) ok.kind (fun y m e => by rw [ok.uniq y m, e]) (thn (hi.run pins s σ H _ inv want) fun xv t1 hx => thn hx fun itv t2 h2 => ?_)
  obtain ⟨it, fp, tn, J, H2, e, J2, T, st2, f2, q⟩ := h2
  subst e
  refine wpAny_newObj_type (newEnv_comp ?_) (by show 0 ≤ sizeLine; decide)
  generalize eD : t2.heap.objs.size = D
  have newD : H2 D = none := J2.hok.fresh (Nat.le_of_eq eD)
  obtain ⟨Wt, ⟨m0, w0⟩, turn⟩ := q D newD
  generalize e3 : ({ t2 with heap := t2.heap.push { cls := .type "list", data := .seq ([] : List Value).toArray } } : Shared) = t3
  have J3 : Inv X pins σ (upd H2 D (.lst [])) t3 := by
    rw [← e3]
    refine J2.laid (t' := t2.toks) (fun b o z => Heap.get?_push_of_some _ z) (Nat.le_of_eq eD) ⟨Nat.zero_le _, [], 0, .nil, ?_⟩
    rw [← eD]
    exact Heap.get?_push_size _ rfl
  have p3 : t3.heap = t2.heap.push { cls := .type "list", data := .seq ([] : List Value).toArray } := by rw [← e3]
  have below : ∀ b ∈ fp, b < t2.heap.objs.size := fun b hb => by
    obtain ⟨o, z, _⟩ := T.obj _ _ st2 b hb
    exact Heap.lt_size z
  have f3 : ∀ b ∈ fp, FpOk X pins (upd H2 D (.lst [])) b ∧ b < t3.heap.objs.size := fun b hb => by
    have lt := below b hb
    refine ⟨⟨?_, (f2 b hb).2⟩, by rw [p3, Heap.size_push]; exact Nat.lt_succ_of_lt lt⟩
    rw [upd_ne (by rw [← eD]; exact Nat.ne_of_lt lt)]
    exact (f2 b hb).1
  have st3 : tn 0 t3.heap := T.keep _ _ _ st2 fun b _ o z => by rw [p3]; exact Heap.get?_push_of_some _ z
  have J4 := block_start J3 ok nd f3
  have pg := hg t3 (upd H2 D (.lst [])) t3.heap.objs.size (cellsFrom (t3.heap.objs.size + 1) scope.names (cloFrom X.env.cells scope.names [])) fp
  have pt := ht t3 (upd H2 D (.lst [])) t3.heap.objs.size (cellsFrom (t3.heap.objs.size + 1) scope.names (cloFrom X.env.cells scope.names [])) fp
  have pe := he t3 (upd H2 D (.lst [])) t3.heap.objs.size (cellsFrom (t3.heap.objs.size + 1) scope.names (cloFrom X.env.cells scope.names [])) fp
  show codeAny _ _ (.compStart (.ListComp elt [⟨tg, iter, ifs, 0⟩] scope pos) 0 (.ref it) (.ref D) (compEnvC scope (cellsFrom (t3.heap.objs.size + 1) scope.names (cloFrom X.env.cells scope.names [])) t3.heap.objs.size X.env)) (cPost (model X.prog X.w) X.A X.xe use Qf (.ref D) t3.heap.objs.size X.env.frame) { t3 with heap := pushCells (t3.heap.push { cls := .type "dict", data := .dict #[] }) scope.names }
  have nfp : ∀ b ∈ fp, (upd H2 D (.lst [])) b = none := fun b hb => (f3 b hb).1.1
  generalize ece : compEnvC scope (cellsFrom (t3.heap.objs.size + 1) scope.names (cloFrom X.env.cells scope.names [])) t3.heap.objs.size X.env = ce at J4 pg pt pe ⊢
  have cL : ce.locals = t3.heap.objs.size := by subst ece; rfl
  have cF : ce.frame = X.env.frame := by subst ece; rfl
  generalize eH3 : upd H2 D (.lst []) = H3 at J3 J4 pg pt pe w0 nfp f3
  generalize e4 : ({ t3 with heap := pushCells (t3.heap.push { cls := .type "dict", data := .dict #[] }) scope.names } : Shared) = t4 at J4 ⊢
  have st4 : tn 0 t4.heap := T.keep _ _ _ st3 fun b _ o z => by rw [← e4]; exact pushCells_keeps _ _ _ _ (Heap.get?_push_of_some _ z)
  have newC : t3.heap.get? t3.heap.objs.size = none := by
    cases z : t3.heap.get? t3.heap.objs.size with
    | none => rfl
    | some o => exact absurd (Heap.lt_size z) (Nat.lt_irrefl _)
  -- what flies out of the element
  have passes : Passes (L2.CX X.prog X.w) { X.blk t3 H3 scope ce fp with xe := notedBy (model X.prog X.w) X.A ce (fun e s' => cPost (model X.prog X.w) X.A X.xe use Qf (.ref D) t3.heap.objs.size X.env.frame (.error e) s') } E := by
    intro pz σz Hz sz u sz' Ix cx
    obtain ⟨a, B, H', cls, d, rfl, fl, hok, ub, na, os, ag, hE⟩ := cx
    have Ib : Inv (X.blk t3 H3 scope ce fp) pz σz Hz sz := Inv.air (fun _ _ => False) Ix
    have nC : Hz t3.heap.objs.size = none := by
      have z : Hz ce.locals = none := Ib.free
      rw [cL] at z
      exact z
    obtain ⟨m, hn, _⟩ := Ib.loc
    have hn : sz.heap.Ns ce.locals m := hn
    rw [cL] at hn
    have z := comp_air (use := use) (Qf := Qf) (acc := .ref D) (ce := ce) two fr tk cF J3 newC (J3.fpOk (Nat.le_refl _) nC) (fun b hb => (f3 b hb).1) Ib.base Ib.os hn fl hok ub na os ag (wish cls d H' hE)
    rw [cF] at z
    exact z
  have pe := pe _ passes
  have stat : ∀ {σ' : L2.St} {H' : Hp} {s' : Shared}, Inv (X.blk t3 H3 scope ce fp) [] σ' H' s' → (∀ b ∈ fp, H' b = none) → ∀ b ∈ fp, FpOk (X.blk t3 H3 scope ce fp) [] H' b := fun {σ' H' s'} I' none_ b hb =>
    ⟨none_ b hb, (I'.ok.exf b hb).1, I'.ok.exfs b hb, .inl hb, fun x c z => (I'.ok.exf b hb).2 x c z, fun p hp => absurd (show p ∈ ([] : List (Addr × Obj)) ++ [] from hp) (by simp)⟩
  have loop : codeAny (model X.prog X.w) X.A (.compLoop (.ListComp elt [⟨tg, iter, ifs, 0⟩] scope pos) 0 (.ref it) (.ref D) ce) (cPost (model X.prog X.w) X.A X.xe use Qf (.ref D) t3.heap.objs.size X.env.frame) t4 := by
    refine compLoop_any (fun n s' => ∃ i H', Inv (X.blk t3 H3 scope ce fp) [] (wipe σ (own.map (·.2))) H' s' ∧ tn i s'.heap ∧ (∀ b ∈ fp, H' b = none) ∧ Wt i n H') ?_ m0 ⟨0, H3, J4, st4, nfp, w0⟩
    rintro n t5 ⟨i, H5, J5, st5, n5, w5⟩
    rcases turn i n H5 w5 with ⟨stop, qq⟩ | ⟨go, Nx, less, step⟩
    · have over := T.done (X.blk t3 H3 scope ce fp) rfl rfl rfl calm i [] t5 _ H5 (fun _ _ => False) J5 (stat J5 n5) st5 stop
      refine thnF over fun r t6 ⟨er, J6⟩ => ?_
      subst er
      have J7 : Inv X pins σ H5 t6 := J3.call' (ch := fp) J6.os J6.base J6.hok J6.bare fun b hb => ⟨(f3 b hb).1.2.2.2.1, (f3 b hb).1.2.1, (f3 b hb).1.2.2.2.2.1, (f3 b hb).1.2.2.2.2.2⟩
      have nC : H5 t3.heap.objs.size = none := by
        have z : H5 ce.locals = none := J6.free
        rw [cL] at z
        exact z
      obtain ⟨m, hn, _⟩ := J6.loc
      have hn : t6.heap.Ns ce.locals m := hn
      rw [cL] at hn
      exact ends D t3.heap.objs.size t6 m H5 J7 qq hn (J3.fpOk (Nat.le_refl _) nC)
    · have next := T.item (X.blk t3 H3 scope ce fp) rfl rfl rfl calm i [] t5 _ H5 (fun _ _ => False) J5 (stat J5 n5) st5 go
      refine thnF next fun r t6 ⟨u, er, h6⟩ => ?_
      subst er
      refine thnF h6 fun _ t7 ⟨x, H7, J7, r7, y7, st7, n7⟩ => ?_
      have J7' := J7.pinned (stat J7 n7) (T.obj _ _ st7)
      refine thnF (pg.run _ t7 _ H7 x u _ J7' r7 (step x H7 y7)) fun _ t8 ⟨σ8, H8, J8, hw8, q8⟩ => ?_
      refine thnF (pt.run _ t8 σ8 H8 _ J8 q8) fun b t9 ⟨H9, J9, q9⟩ => ?_
      have fin : ∀ {s' : Shared} {H' : Hp}, Inv (X.blk t3 H3 scope ce fp) ([] ++ pinsAt fp t7.heap) σ8 H' s' → Nx H' → ∃ m, m < n ∧ ∃ i H', Inv (X.blk t3 H3 scope ce fp) [] (wipe σ (own.map (·.2))) H' s' ∧ tn i s'.heap ∧ (∀ b ∈ fp, H' b = none) ∧ Wt i m H' := fun {s' H'} I' nx => by
        obtain ⟨m', lm, w'⟩ := less H' nx
        have pinned : ∀ b ∈ fp, ∀ o, t7.heap.get? b = some o → s'.heap.get? b = some o ∧ H' b = none := fun b hb o z =>
          let y := I'.pin (b, o) (List.mem_append_right _ (List.mem_append_right _ (mem_pinsAt hb z)))
          ⟨y.1, y.2.1⟩
        have el : (wipe σ (own.map (·.2))).length = σ8.length := by rw [← hw8, wipe_length]
        refine ⟨m', lm, i + 1, H', (I'.unpinned (pins := [])).weak el (fun j v z => ?_), T.keep _ _ _ st7 fun b hb o z => (pinned b hb o z).1, fun b hb => ?_, w'⟩
        · rw [← hw8] at z
          exact (wipe_some z).1
        · obtain ⟨o, z, _⟩ := T.obj _ _ st7 b hb
          exact (pinned b hb o z).2
      cases b with
      | false =>
        simp only [Bool.false_eq_true, if_false] at q9 ⊢
        exact fin J9 q9
      | true =>
        simp only [if_true] at q9 ⊢
        refine wpAny_mono (pe.run _ t9 σ8 H9 _ (Inv.air _ J9) q9) (fun z t10 ⟨yv, H10, J10, r10, acc, d10, z10, nx⟩ => ?_) fun _ _ y => y
        have J10' : Inv (X.blk t3 H3 scope ce fp) ([] ++ pinsAt fp t7.heap) σ8 H10 t10 := Inv.air (fun _ _ => False) J10
        exact app_ok (X := X.blk t3 H3 scope ce fp) J10' d10 z10 r10 fun t11 J11 => fin J11 nx
  exact codeAny_compStart_list loop (T.self X.A 0 _ _ _ st4 loop)
/-- name = [..] on one line, the name a local; the element's calls may refuse -/
theorem ps_setLcX {X : Cx} {i : Nat} {y : Str} {py : Pos} {elt tg iter : Expr} {ifs : List Expr} {scope : Scope} {own : List (Str × Nat)} {pos spos : Pos} {wi : TI} {g : TG} {tt : TT} {te : TE} {E : XK} (two : X.stack = X.env :: X.outer) (fr : X.env.frame = some X.env.locals) (tk : Takes X (fun cls d _ H => E cls d H))
    (calm : X.calm = true) (nd : X.N.Nodup) (slot : X.N[i]? = some y) (loc : X.env.scope.names.lookup y = some .local) (sw : swapsWith (.ListComp elt [⟨tg, iter, ifs, 0⟩] scope pos) (some (.Name y py)) spos.line X.env = pure true) (hi : PI X tg iter wi) (ok : BlkOk X.N X.env.scope scope own)
    (hg : ∀ (s : Shared) (H : Hp) (C : Addr) (cl : List (Str × Addr)) (fp : List Addr), PG (X.blk s H scope (compEnvC scope cl C X.env) fp) tg g) (ht : ∀ (s : Shared) (H : Hp) (C : Addr) (cl : List (Str × Addr)) (fp : List Addr), PTs (X.blk s H scope (compEnvC scope cl C X.env) fp) ifs tt)
    (he : EltX X scope elt te E) (folded : ∀ x, foldedSetIterable iter X.env x = pure x := by intro _; rfl) : PS X (.Assign [.Name y py] (.ListComp elt [⟨tg, iter, ifs, 0⟩] scope pos) spos) (tAsg (tLc wi g tt te (own.map (·.2))) (gName i)) := by
  refine ⟨fun pins s σ H D inv want => ?_⟩
  rw [exec_Assign_Name_used _ _ _ _ sw]
  refine wpAny_bind (wpAny_standAt (wpAny_bind ?_))
  show wpAny _ X.A (do let _ ← comprehension (.ListComp elt [⟨tg, iter, ifs, 0⟩] scope pos) scope X.env (firstIterPos [⟨tg, iter, ifs, 0⟩] pos) (newList []) false (eval iter X.env) (some (assign (.Name y py) X.env))) _ _ s
  have want : tLc wi g tt te (own.map (·.2)) σ H (fun x H1 => gName i x σ H1 D.nx) := want
  refine wpAny_bind (thn (lcX_core (Qf := fun _ s' => SP X pins D .next s') two fr tk (fun _ _ _ z => z) calm nd inv hi ok hg ht he folded want fun L C s' m H' I' q hn f => ?_) fun _ s' z => wpAny_pure (wpAny_pure z))
  show wpAny _ _ (assign (.Name y py) X.env (.ref L)) _ _ _
  refine wpAny_assign_Name (store_ok2 (v := V.ref L) I' nd slot (.inl loc) rfl (fun s2 J2 ⟨a, sb, ha⟩ => ?_) (.inr loc))
  obtain ⟨f0, f1, f2, f3, f4, f5⟩ := f
  have aC : C ≠ a := by
    rcases ha with z | z
    · rw [z]
      exact f1
    · exact fun e => f4 y a z e.symm
  exact ⟨m, hn.sameBut sb aC, fun h3 sb3 => ⟨_, H', J2.turned (t' := s2.toks) (fun b o hb e => (sb3.2 b hb).trans e) f0 f1 f3 f4 f5, q⟩⟩
end VQ
namespace VQ
open PySem L2 LamX
abbrev sTried : Stmt := top 49
/-- where the error classes stand that the law names -/
structure Errs (mg : Str → Option Value) (Ta NT NR BT Uf Fu TM QE No : Addr) : Prop where
  ta : mg "Taken" = some (.ref Ta)
  nt : mg "NoTable" = some (.ref NT)
  nr : mg "NoRow" = some (.ref NR)
  bt : mg "BadText" = some (.ref BT)
  uf : mg "Unfit" = some (.ref Uf)
  fu : mg "Full" = some (.ref Fu)
  tm : mg "TooMany" = some (.ref TM)
  qe : mg "QuiltError" = some (.ref QE)
  no : mg "Nothing" = some (.ref No)
/-- a refusal without a field: the last clause takes it -/
structure Plain (K : PySem.W.Frag) (Ta NT NR BT Uf Fu TM QE No C : Addr) : Prop where
  n1 : PySem.W.exmAny K (.ref C) [.ref Ta, .ref NT, .ref NR] = some false
  n2 : PySem.W.exmAny K (.ref C) [.ref BT, .ref Uf] = some false
  n3 : PySem.W.exmAny K (.ref C) [.ref Fu] = some false
  n4 : PySem.W.exmAny K (.ref C) [.ref TM] = some false
  y5 : PySem.W.exmAny K (.ref C) [.ref QE, .ref No] = some true
  xf : XfC K C
  nc : PySem.W.findIn K (.ref C) "called" = some none
/-- what is wished of an error: the tuple of its name and a blank -/
def Caught (K : PySem.W.Frag) (Ta NT NR BT Uf Fu TM QE No : Addr) (Q : VK) : XK := fun cls d H => ∃ (C dd : Addr) (fs : List (Str × V)) (nm : Str), cls = .ref C ∧ d = some dd ∧ Plain K Ta NT NR BT Uf Fu TM QE No C ∧ H dd = some (.xd fs) ∧ fs.lookup ("called" : Str) = some (V.str nm) ∧
  ∀ p, H p = none → Q (.ref p) (upd H p (.tup [.str nm, .str ""]))
def TTried (K : PySem.W.Frag) (Ta NT NR BT Uf Fu TM QE No : Addr) : (XK → Hp → VK → Prop) → Hp → VK → Prop := fun tl H Q =>
  tl (Caught K Ta NT NR BT Uf Fu TM QE No Q) H fun v H1 => [V.str "told", v].length ≤ sizeLine ∧ ∀ p, H1 p = none → Q (.ref p) (upd H1 p (.tup [.str "told", v]))
/-- a def of one parameter as it stands -/
theorem one_of {K : PySem.W.Frag} {mg : Str → Option Value} {x y : Str} {st : Stmt} {f : Addr} {fd : FuncData} {N : List Str} (A1 : At K mg x st [y] f fd) (sc : FnScope N [y] (defScope st)) (slot : N[0]? = some y) (vis : Vis (defScope st) y) (n1 : (x == ("__debug__" : Str)) = false) (n2 : (y == ("__debug__" : Str)) = false) (n3 : (y == ("__classdict__" : Str)) = false) :
    ∃ cd, One K mg x f cd N y (defScope st) (defBody st) := by
  obtain ⟨oc, od, kV, doc, pm, an, cdv, ct, osl, e, lk, code⟩ := A1.fn.ex
  have bd := A1.bd
  rw [e] at lk bd
  exact ⟨cdv, A1.gl, A1.fn.kp, ⟨oc, od, _, _, kV, doc, pm, an, ct, osl, lk, bd⟩, code, sc, slot, vis, n1, n2, n3⟩
theorem scTried : FnScope ["_law_ask", "e"] ["_law_ask"] (defScope sTried) := ⟨rfl, rfl, rfl, by decide +kernel, rfl, by decide +kernel, by decide +kernel⟩
section
variable {P : Program} {w : World} {K : PySem.W.Frag} {mg : Str → Option Value} {base : Heap} {Ta NT NR BT Uf Fu TM QE No : Addr}
theorem tried_gives {g : Addr} {cdg : Value} {q : Str} (G : Errs mg Ta NT NR BT Uf Fu TM QE No) : Gives2 P w K mg base ["_law_ask", "e"] "_law_tried" (defScope sTried) g cdg (defBody sTried) "_law_ask" q (TTried K Ta NT NR BT Uf Fu TM QE No) := by
  intro A2 outer2 f c' s H Q tl act hc h
  refine ⟨_, pss_one (ps_try_manyA (X := (cxOf C8.CX0 P w K mg base ["_law_ask", "e"] "_law_tried" (defScope sTried) g cdg A2 outer2 s H C8.E0).nox) (i := 1) (n := "e")
      (tb := fun W D σ H => ∃ Ech : XK, (∀ cls d σ' H', σ'.length = 2 → Ech cls d H' → W cls d σ' H') ∧ σ[0]? = some (some (.ref f)) ∧ H c' = some (CodeO c' q) ∧ tl Ech H fun v H1 => [V.str "told", v].length ≤ sizeLine ∧ ∀ p, H1 p = none → D.rt (.ref p) (upd H1 p (.tup [.str "told", v])))
      rfl rfl scTried.nd rfl rfl LamX.takes0 (fun W pn xe tk _ => ?_)
      (HdsA.cons (Cte.three ⟨rfl, by decide, .inl G.ta⟩ ⟨rfl, by decide, .inl G.nt⟩ ⟨rfl, by decide, .inl G.nr⟩) (fun a oe cls d pn hz hf => pss_one (ps_ret (pe_tup (pa_cons (pe_xfA hz hf (pv 1)) (pa_cons (pe_xfA hz hf (pv 1)) pa_nil)))))
      (HdsA.cons (Cte.two ⟨rfl, by decide, .inl G.bt⟩ ⟨rfl, by decide, .inl G.uf⟩) (fun a oe cls d pn hz hf => pss_one (ps_ret (pe_tup (pa_cons (pe_xfA hz hf (pv 1)) (pa_cons (pe_xfA hz hf (pv 1)) pa_nil)))))
      (HdsA.cons (Cte.one ⟨rfl, by decide, .inl G.fu⟩) (fun a oe cls d pn hz hf => pss_one (ps_ret (pe_tup (pa_cons (pe_xfA hz hf (pv 1)) (pa_cons (pe_xfA hz hf (pv 1)) pa_nil)))))
      (HdsA.cons (Cte.one ⟨rfl, by decide, .inl G.tm⟩) (fun a oe cls d pn hz hf => pss_one (ps_ret (pe_tup (pa_cons (pe_xfA hz hf (pv 1)) (pa_cons (pe_xfA hz hf (pv 1)) pa_nil)))))
      (HdsA.cons (Cte.two ⟨rfl, by decide, .inl G.qe⟩ ⟨rfl, by decide, .inl G.no⟩) (fun a oe cls d pn hz hf => pss_one (ps_ret (pe_tup (pa_cons (pe_xfA hz hf (pv 1)) (pa_cons pe_str pa_nil)))))
      HdsA.nil)))))), ?_⟩
  · refine ⟨fun pins s' σ H' D I ⟨Ech, hW, h1, h2, h3⟩ => ?_⟩
    exact (pss_one (ps_ret (pe_tup (pa_cons pe_str (pa_cons (act W pn xe Ech _ _ tk hW) pa_nil))))).run pins s' σ H' D I ⟨h1, h2, h3⟩
  · refine ⟨Caught K Ta NT NR BT Uf Fu TM QE No Q, fun cls d σ' H' hlen hC => ?_, rfl, hc, h⟩
    obtain ⟨C, dd, fs, nm, rfl, rfl, pl, hdd, hl, hq⟩ := hC
    refine ⟨false, pl.n1, fun z => Bool.noConfusion z, fun _ => ⟨false, pl.n2, fun z => Bool.noConfusion z, fun _ => ⟨false, pl.n3, fun z => Bool.noConfusion z, fun _ => ⟨false, pl.n4, fun z => Bool.noConfusion z, fun _ => ⟨true, pl.y5, fun _ a na => ?_, fun z => Bool.noConfusion z⟩⟩⟩⟩⟩
    have e1 : (σ'.set 1 (some (V.ref a)))[1]? = some (some (V.ref a)) := List.getElem?_set_self (by rw [hlen]; decide)
    exact ⟨C, pl.xf, pl.nc, _, e1, rfl, rfl, dd, fs, _, rfl, hdd, hl, by show 2 ≤ sizeLine; decide, fun p hp => hq p hp⟩
end
end VQ
namespace VQ
open PySem L2 LamX
/-! ### figures -/
def figLow (w : Nat) : Nat → Str
  | 0 => ⟨#[]⟩
  | i + 1 => (⟨#[48 + w / 2 ^ i % 2]⟩ : Str) ++ figLow w i
def fig (w : Nat) : Str := figLow w 5
theorem figLow_len (w : Nat) : ∀ i, (figLow w i).length = i
  | 0 => rfl
  | i + 1 => by
    show ((⟨#[48 + w / 2 ^ i % 2]⟩ : Str) ++ figLow w i).length = i + 1
    show (#[48 + w / 2 ^ i % 2] ++ (figLow w i).cps).size = i + 1
    rw [Array.size_append]
    have := figLow_len w i
    show 1 + (figLow w i).length = i + 1
    omega
theorem str_bit (n : Nat) : (toString ((n % 2 : Nat) : Int) : Str) = ⟨#[48 + n % 2]⟩ := by
  rcases Nat.mod_two_eq_zero_or_one n with h | h
  · rw [h]; decide +kernel
  · rw [h]; decide +kernel
section
variable {P : Program} {w : World} {K : PySem.W.Frag} {mg : Str → Option Value} {base : Heap}
def spFigs : Sp := fun vs H Q _ => ∃ (n : Nat), vs = [.int (n : Int)] ∧ Q (.str (fig n)) H
/-! ### drawn worths -/
/-- a number drawn by the bag, of which R is true -/
def spDraw (R : Int → Prop) : Sp := fun vs H Q _ => ∃ (b : Addr), vs = [.ref b] ∧ Bag H b ∧ ∀ (i : Int) (H' : Hp), R i → Bag H' b → Keep b H H' → Q (.int i) H'
theorem Bag.ne {H : Hp} {b p : Addr} (h : Bag H b) (n : H p = none) : p ≠ b := fun e => by
  obtain ⟨o, z⟩ := h.here
  rw [e, z] at n
  cases n
end
end VQ
namespace VQ
open PySem L2 LamX
/-! ### things of the plain kinds -/
def worthB : V → Bool
  | .int i => decide (0 ≤ i) && decide (i < 32)
  | _ => false
def basics : List String := ["NoneType", "bool", "int", "str", "list", "tuple"]
theorem basic_cases {K : PySem.W.Frag} {H : Hp} {x : V} {t : String} (h : TyX K H x (.type t)) (m : t ∈ basics) :
    (x = .non ∧ t = "NoneType") ∨ (∃ b, x = .bl b ∧ t = "bool") ∨ (∃ i, x = .int i ∧ t = "int") ∨ (∃ z, x = .str z ∧ t = "str") ∨ (∃ a, x = .ref a ∧ (t = "list" ∨ t = "tuple")) := by
  generalize e : Value.type t = tv at h
  cases h with
  | base b =>
    cases b with
    | non => cases e; exact .inl ⟨rfl, rfl⟩
    | bl y => cases e; exact .inr (.inl ⟨y, rfl, rfl⟩)
    | int i => cases e; exact .inr (.inr (.inl ⟨i, rfl, rfl⟩))
    | str y => cases e; exact .inr (.inr (.inr (.inl ⟨y, rfl, rfl⟩)))
    | flt y => cases e; exact absurd m (by decide)
    | lst _ => cases e; exact .inr (.inr (.inr (.inr ⟨_, rfl, .inl rfl⟩)))
    | frz _ => cases e; exact .inr (.inr (.inr (.inr ⟨_, rfl, .inl rfl⟩)))
    | tup _ => cases e; exact .inr (.inr (.inr (.inr ⟨_, rfl, .inr rfl⟩)))
    | dK _ => cases e; exact absurd m (by decide)
    | dT _ => cases e; exact absurd m (by decide)
    | ins _ _ _ _ _ _ => cases e
  | byt _ => cases e; exact absurd m (by decide)
  | set _ => cases e; exact absurd m (by decide)
  | kList _ _ => cases e; exact .inr (.inr (.inr (.inr ⟨_, rfl, .inl rfl⟩)))
  | kTuple _ _ => cases e; exact .inr (.inr (.inr (.inr ⟨_, rfl, .inr rfl⟩)))
  | kDict _ _ => cases e; exact absurd m (by decide)
  | fTuple _ => cases e; exact .inr (.inr (.inr (.inr ⟨_, rfl, .inr rfl⟩)))
  | fDict _ => cases e; exact absurd m (by decide)
section
variable {P : Program} {w : World} {K : PySem.W.Frag} {mg : Str → Option Value} {base : Heap}
/-- what the program's own modules ask of the names -/
structure Blt (mg : Str → Option Value) : Prop where
  isi : mg "isinstance" = none
  int : mg "int" = none
  bool : mg "bool" = none
  str : mg "str" = none
  list : mg "list" = none
  tuple : mg "tuple" = none
  len : mg "len" = none
  all : mg "all" = none
  range : mg "range" = none
/-! ### a refusal without a field -/
def spErr (K : PySem.W.Frag) (C : Addr) (nm : Str) : Sp := fun vs H Q _ => ∃ a : Addr, vs = [.ref a] ∧ H a = some (exo a C none) ∧ ∀ d, H d = none → d ≠ a → Q .non (upd (upd H d (exd d [(("called" : Str), .str nm)])) a (exo a C (some d)))
/-- the class at C, its __init__ at fI -/
structure ErrC (K : PySem.W.Frag) (mg : Str → Option Value) (x : Str) (C fI : Addr) (fd : FuncData) (qual : Str) (st : Stmt) : Prop where
  gl : mg x = some (.ref C)
  ox : OexC K C
  it : PySem.W.findIn K (.ref C) "__init__" = some (some (.ref fI))
  ty : PySem.W.typeIn K (.ref fI) = some (.type "function")
  nc : PySem.W.findIn K (.ref C) "called" = some none
  fn : Fun K "__init__" qual st fI fd
  bd : Binds K fd ["self"] []
theorem ok_err {x qual nm : Str} {st : Stmt} {C fI : Addr} {fd : FuncData} {p1 p2 p3 p4 : Pos} {j : Nat} (Er : ErrC K mg x C fI fd qual st) (sc : FnScope ["self"] ["self"] (defScope st)) (v : Vis (defScope st) "self")
    (hb : defBody st = [.Assign [.Attribute (.Name "self" p1) "called" p2] (.Constant (.str nm) j p3) p4]) : FnOk P w K mg base CX0 1 fI fd ["self"] (spErr K C nm) := by
  refine Er.fn.ok sc (fun vs H Q E h => ?_) (fun cdv A outer s H vs Q E' hr h => ?_)
  · obtain ⟨a, rfl, _⟩ := h
    rfl
  · obtain ⟨a, rfl, ha, k⟩ := h
    rw [hb]
    refine ⟨_, pss_one (ps_ost (pe_var (i := 0) rfl v) pe_str), ?_⟩
    exact ⟨_, rfl, a, C, rfl, Er.ox, Er.nc, .inl ⟨ha, fun dx hd ne => k dx hd ne⟩⟩
theorem raise_plain {C : Addr} {nm : Str} {σ : L2.St} {H : Hp} {W : XK} (h : ∀ d, H d = none → W (.ref C) (some d) (upd H d (.xd [(("called" : Str), .str nm)]))) : tMkO0 C (spErr K C nm) σ H W := by
  intro a ha
  refine ⟨a, rfl, upd_same, fun d hd ne => ⟨rfl, d, [(("called" : Str), V.str nm)], upd_same, ?_, ?_, ?_⟩⟩
  · rw [upd_ne ne, upd_same]
  · rw [upd_ne ne] at hd
    exact hd
  · have hd' : H d = none := by
      rw [upd_ne ne] at hd
      exact hd
    have e : upd (del (upd (upd (upd H a (exo a C none)) d (exd d [(("called" : Str), V.str nm)])) a (exo a C (some d))) a) d (.xd [(("called" : Str), V.str nm)]) = upd H d (.xd [(("called" : Str), V.str nm)]) := by
      funext b
      by_cases hb : b = d
      · rw [hb, upd_same, upd_same]
      · rw [upd_ne hb, upd_ne hb]
        by_cases hba : b = a
        · rw [hba, del_same, ha]
        · rw [del_ne hba, upd_ne hba, upd_ne hb, upd_ne hba]
    rw [e]
    exact h d hd'
end
end VQ
namespace VQ
open PySem L2 LamX
abbrev sIsNumber : Stmt := top 19
abbrev sIsWorth : Stmt := top 20
theorem zfill_bin : ∀ n, n < 32 → Txt.zfill (binS n) 5 = fig n := by decide +kernel
section
variable {P : Program} {w : World} {K : PySem.W.Frag} {mg : Str → Option Value} {base : Heap}
def numB (lo hi : Int) : V → Bool
  | .int i => decide (lo ≤ i) && decide (i < hi)
  | _ => false
/-- whether a thing is a number from one bound to below another -/
def spIsNumber (K : PySem.W.Frag) : Sp := fun vs H Q _ => ∃ (x : V) (t : String) (lo hi : Int), vs = [x, .int lo, .int hi] ∧ TyX K H x (.type t) ∧ t ∈ basics ∧ Q (.bl (numB lo hi x)) H
theorem scIsNumber : FnScope ["thing", "low", "behind"] ["thing", "low", "behind"] (defScope sIsNumber) := ⟨rfl, rfl, rfl, by decide +kernel, rfl, by decide +kernel, by decide +kernel⟩
theorem ok_isnumber {f : Addr} {fd : FuncData} (F : Fun K "is_number" "is_number" sIsNumber f fd) (b : Blt mg) : FnOk P w K mg base CX0 1 f fd ["thing", "low", "behind"] (spIsNumber K) := by
  refine F.ok scIsNumber (fun vs H Q E h => ?_) (fun cdv A outer s H vs Q E hr h => ?_)
  · obtain ⟨x, t, lo, hi, rfl, _⟩ := h
    rfl
  · obtain ⟨x, t, lo, hi, rfl, ty, m, k⟩ := h
    refine ⟨_, pss_one (ps_ret (pe_and (pe_callB call_isi (by rfl) b.isi (by decide +kernel) (pa_cons (pv 0) (pa_cons (pe_bltn (v := .ty "int") rfl b.int (by decide +kernel) rfl) pa_nil)))
      (pe_and (pe_not (pe_callB call_isi (by rfl) b.isi (by decide +kernel) (pa_cons (pv 0) (pa_cons (pe_bltn (v := .ty "bool") rfl b.bool (by decide +kernel) rfl) pa_nil))))
      (pe_one (pe_chain op_le op_lt (pv 1) (pv 0) (pv 2)))))), ?_⟩
    rcases basic_cases ty m with ⟨rfl, rfl⟩ | ⟨c, rfl, rfl⟩ | ⟨i, rfl, rfl⟩ | ⟨z, rfl, rfl⟩ | ⟨a, rfl, rfl | rfl⟩
    · refine ⟨_, rfl, _, _, _, _, false, rfl, .ty "int", ty, kit_ty (by decide +kernel), false, rfl, iteF ?_⟩
      exact k
    · refine ⟨_, rfl, _, _, _, _, true, rfl, .ty "int", ty, kit_ty (by decide +kernel), true, rfl, iteT ?_⟩
      refine ⟨_, rfl, _, _, _, _, true, rfl, .ty "bool", ty, kit_ty (by decide +kernel), true, rfl, false, rfl, iteF ?_⟩
      exact k
    · refine ⟨_, rfl, _, _, _, _, true, rfl, .ty "int", ty, kit_ty (by decide +kernel), true, rfl, iteT ?_⟩
      refine ⟨_, rfl, _, _, _, _, false, rfl, .ty "bool", ty, kit_ty (by decide +kernel), false, rfl, true, rfl, iteT ?_⟩
      refine ⟨_, rfl, _, rfl, lo, i, rfl, rfl, _, rfl, ?_⟩
      by_cases h : lo ≤ i
      · rw [if_pos (decide_eq_true h)]
        refine ⟨_, rfl, i, hi, rfl, rfl, ?_⟩
        have e : numB lo hi (.int i) = decide (i < hi) := by
          show (decide (lo ≤ i) && decide (i < hi)) = _
          rw [decide_eq_true h, Bool.true_and]
        rw [e] at k
        exact k
      · rw [if_neg (by simpa using h)]
        have e : numB lo hi (.int i) = false := by
          show (decide (lo ≤ i) && decide (i < hi)) = _
          rw [decide_eq_false h, Bool.false_and]
        rw [e] at k
        exact k
    · refine ⟨_, rfl, _, _, _, _, false, rfl, .ty "int", ty, kit_ty (by decide +kernel), false, rfl, iteF ?_⟩
      exact k
    · refine ⟨_, rfl, _, _, _, _, false, rfl, .ty "int", ty, kit_ty (by decide +kernel), false, rfl, iteF ?_⟩
      exact k
    · refine ⟨_, rfl, _, _, _, _, false, rfl, .ty "int", ty, kit_ty (by decide +kernel), false, rfl, iteF ?_⟩
      exact k
theorem numB_worth (x : V) : numB 0 32 x = worthB x := by
  cases x <;> rfl
/-- where a def stands that asks is_number, and where that one stands -/
structure AtW (K : PySem.W.Frag) (mg : Str → Option Value) (x : Str) (st : Stmt) (ps : List Str) (f : Addr) (fd : FuncData) : Prop where
  it : At K mg x st ps f fd
  num : ∃ (fN : Addr) (fdN : FuncData), At K mg "is_number" sIsNumber ["thing", "low", "behind"] fN fdN
theorem AtW.gl {x : Str} {st : Stmt} {ps : List Str} {f : Addr} {fd : FuncData} (a : AtW K mg x st ps f fd) : mg x = some (.ref f) := a.it.gl
theorem AtW.bd {x : Str} {st : Stmt} {ps : List Str} {f : Addr} {fd : FuncData} (a : AtW K mg x st ps f fd) : Binds K fd ps [] := a.it.bd
theorem AtW.fn {x : Str} {st : Stmt} {ps : List Str} {f : Addr} {fd : FuncData} (a : AtW K mg x st ps f fd) : Fun K x x st f fd := a.it.fn
def spIsWorth (K : PySem.W.Frag) : Sp := fun vs H Q _ => ∃ (x : V) (t : String), vs = [x] ∧ TyX K H x (.type t) ∧ t ∈ basics ∧ Q (.bl (worthB x)) H
theorem scIsWorth : FnScope ["thing"] ["thing"] (defScope sIsWorth) := ⟨rfl, rfl, rfl, by decide +kernel, rfl, by decide +kernel, by decide +kernel⟩
theorem ok_isworth {f : Addr} {fd : FuncData} {tk : Tok} (F : AtW K mg "is_worth" sIsWorth ["thing"] f fd) (b : Blt mg) (W : mg "WORTHS" = some (.int 32 tk)) : FnOk P w K mg base CX0 2 f fd ["thing"] (spIsWorth K) := by
  obtain ⟨fN, fdN, aN⟩ := F.num
  have GN : FnOk P w K mg base CX0 1 fN fdN ["thing", "low", "behind"] (spIsNumber K) := ok_isnumber aN.fn b
  refine F.it.fn.ok scIsWorth (fun vs H Q E h => ?_) (fun cdv A outer s H vs Q E hr h => ?_)
  · obtain ⟨x, t, rfl, _⟩ := h
    rfl
  · obtain ⟨x, t, rfl, ty, m, k⟩ := h
    refine ⟨_, pss_one (ps_ret (pe_call GN hr rfl aN.gl aN.fn.kp aN.bd .nil pass0 (pa_cons (pv 0) (pa_cons pe_int (pa_cons (pe_glob (v := .int 32) rfl W ⟨_, rfl⟩) pa_nil))))), ?_⟩
    refine ⟨_, rfl, x, t, 0, 32, rfl, ty, m, ?_⟩
    rw [numB_worth]
    exact k
def spFigures (K : PySem.W.Frag) (C : Addr) : Sp := fun vs H Q E => ∃ (x : V) (t : String), vs = [x] ∧ TyX K H x (.type t) ∧ t ∈ basics ∧
  (∀ n : Nat, n < 32 → x = .int (n : Int) → Q (.str (fig n)) H) ∧ (worthB x = false → ∀ d, H d = none → E (.ref C) (some d) (upd H d (.xd [(("called" : Str), .str "BadWorth")])))
end
end VQ
namespace VQ
open PySem L2 LamX
/-- two things that are the same all through, to a depth -/
inductive Alike (H : Hp) : Nat → V → V → Prop
  | non (n : Nat) : Alike H n .non .non
  | bl (n : Nat) (b : Bool) : Alike H n (.bl b) (.bl b)
  | int (n : Nat) (i : Int) : Alike H n (.int i) (.int i)
  | str (n : Nat) (z : Str) : Alike H n (.str z) (.str z)
  | lst {n : Nat} {a b : Addr} {xs ys : List V} (ha : H a = some (.lst xs)) (hb : H b = some (.lst ys)) (hl : xs.length = ys.length) (hz : ys.length ≤ 1000) (h : ∀ (i : Nat) (x y : V), xs[i]? = some x → ys[i]? = some y → Alike H n x y) : Alike H (n + 1) (.ref a) (.ref b)
  | tup {n : Nat} {a b : Addr} {xs ys : List V} (ha : H a = some (.tup xs)) (hb : H b = some (.tup ys)) (hl : xs.length = ys.length) (hz : ys.length ≤ 1000) (h : ∀ (i : Nat) (x y : V), xs[i]? = some x → ys[i]? = some y → Alike H n x y) : Alike H (n + 1) (.ref a) (.ref b)
theorem Alike.same {H H' : Hp} (s : Same H H') {n : Nat} {x y : V} (h : Alike H n x y) : Alike H' n x y := by
  induction h with
  | non n => exact .non n
  | bl n b => exact .bl n b
  | int n i => exact .int n i
  | str n z => exact .str n z
  | lst ha hb hl hz _ ih => exact .lst (s _ _ ha) (s _ _ hb) hl hz ih
  | tup ha hb hl hz _ ih => exact .tup (s _ _ ha) (s _ _ hb) hl hz ih
def spSame (n : Nat) : Sp := fun vs H Q _ => ∃ x y, vs = [x, y] ∧ Alike H n x y ∧ ∀ H', Same H H' → Q (.bl true) H'
section
variable {P : Program} {w : World} {K : PySem.W.Frag} {mg : Str → Option Value} {base : Heap}
section
variable {X : Cx} {p p0 p1 p2 p3 pos : Pos} {i k : Nat} {y : Str}
/-- isinstance(y, n) -/
theorem pe_isi {n : Str} {c : String} (he : PE X (.Name y p0) (tVar i)) (g : Gl X "isinstance") (hm : X.mg "isinstance" = none) (gn : Gl X n) (hn : X.mg n = none) (hv : bootBuiltins n = some (.type c)) (n1 : n ≠ "__name__" := by decide) (n2 : (n == ("__debug__" : Str)) = false := by decide) :
    PE X (.Call (.Name "isinstance" p) [.Name y p0, .Name n p1] [] pos) (tCB (rIsi X.K) (tCons (tVar i) (tCons (tC (.ty c)) tNil))) :=
  pe_callB call_isi g hm (by decide +kernel) (pa_cons he (pa_cons (pe_bltn (v := .ty c) gn hn hv rfl n1 n2) pa_nil))
/-- isinstance(y, (int, str)) -/
theorem pe_isiT (he : PE X (.Name y p0) (tVar i)) (g : Gl X "isinstance") (hm : X.mg "isinstance" = none) (gi : Gl X "int") (hi : X.mg "int" = none) (gs : Gl X "str") (hs : X.mg "str" = none) :
    PE X (.Call (.Name "isinstance" p) [.Name y p0, .Tuple [.Name "int" p1, .Name "str" p2] k p3] [] pos) (tCB (rIsiT X.K) (tCons (tVar i) (tCons (tTup (tCons (tC (.ty "int")) (tCons (tC (.ty "str")) tNil))) tNil))) :=
  pe_callB call_isiT g hm (by decide +kernel) (pa_cons he (pa_cons (pe_tup (pa_cons (pe_bltn (v := .ty "int") gi hi (by decide +kernel) rfl) (pa_cons (pe_bltn (v := .ty "str") gs hs (by decide +kernel) rfl) pa_nil))) pa_nil))
end
theorem rd_isi {σ : L2.St} {H : Hp} {Q : VK} {i : Nat} {x : V} {t c : String} {b : Bool} (hx : σ[i]? = some (some x)) (ty : TyX K H x (.type t)) (kb : kitB t c = some b) (h : Q (.bl b) H) : tCB (rIsi K) (tCons (tVar i) (tCons (tC (.ty c)) tNil)) σ H Q :=
  ⟨x, hx, _, _, _, _, b, rfl, .ty c, ty, kit_ty kb, h⟩
theorem TyX.basic_same {H H' : Hp} {x : V} {t : String} (s : Same H H') (ty : TyX K H x (.type t)) (m : t ∈ basics) : TyX K H' x (.type t) := by
  generalize e : Value.type t = tv at ty
  cases ty with
  | base b =>
    cases b with
    | non => exact .base .non
    | bl y => exact .base (.bl y)
    | int i => exact .base (.int i)
    | str y => exact .base (.str y)
    | flt y => exact .base (.flt y)
    | lst q => exact .base (.lst (s _ _ q))
    | frz q => exact .base (.frz (s _ _ q))
    | tup q => exact .base (.tup (s _ _ q))
    | dK q => exact .base (.dK (s _ _ q))
    | dT q => exact .base (.dT (s _ _ q))
    | ins _ _ _ _ _ _ => cases e
  | byt y => exact .byt y
  | set q => exact .set (s _ _ q)
  | kList q c => exact .kList q c
  | kTuple q c => exact .kTuple q c
  | kDict q c => exact .kDict q c
  | fTuple q => exact .fTuple (s _ _ q)
  | fDict q => exact .fDict (s _ _ q)
end
end VQ
namespace VQ
open PySem L2 LamX
abbrev sSame : Stmt := top 48
section
variable {P : Program} {w : World} {K : PySem.W.Frag} {mg : Str → Option Value} {base : Heap}
theorem scSame : FnScope ["_law_found", "_law_due", "_law_at"] ["_law_found", "_law_due"] (defScope sSame) := ⟨rfl, rfl, rfl, by decide +kernel, rfl, by decide +kernel, by decide +kernel⟩
def anyIS (t : String) : Bool := t == "int" || t == "str" || t == "bool"
theorem rd_isiT {σ : L2.St} {H : Hp} {Q : VK} {i : Nat} {x : V} {t : String} {b : Bool} (hx : σ[i]? = some (some x)) (ty : TyX K H x (.type t)) (m : t ∈ basics) (kb : PySem.W.kitAny K (.type t) [.type "int", .type "str"] = some b) (h : ∀ H', Same H H' → Q (.bl b) H') :
    tCB (rIsiT K) (tCons (tVar i) (tCons (tTup (tCons (tC (.ty "int")) (tCons (tC (.ty "str")) tNil))) tNil)) σ H Q :=
  ⟨x, hx, (by show 2 ≤ sizeLine; decide), fun p hp => ⟨x, p, _, _, _, b, rfl, upd_same, .cons (.ty "int") (.cons (.ty "str") .nil), TyX.basic_same (same_new hp) ty m, kb, h _ (same_new hp)⟩⟩
theorem kIS {t : String} {b b' : Bool} (h1 : kitB t "int" = some b) (h2 : kitB t "str" = some b') : PySem.W.kitAny K (.type t) [.type "int", .type "str"] = some (b || b') := by
  refine kitAny_cons (kit_ty h1) (fun e => ?_) (fun e => by rw [e]; rfl)
  subst e
  refine kitAny_cons (kit_ty h2) (fun e => ?_) (fun e => by rw [e]; rfl)
  subst e
  rfl
/-- the scalars' three clauses: from the first to the third -/
theorem ok_same0 {f : Addr} {fd : FuncData} (F : Fun K "_law_same" "_law_same" sSame f fd) (b : Blt mg) : FnOk P w K mg base CX0 1 f fd ["_law_found", "_law_due"] (spSame 0) := by
  refine F.ok scSame (fun vs H Q E h => ?_) (fun cdv A outer s H vs Q E hr h => ?_)
  · obtain ⟨x, y, rfl, _⟩ := h
    rfl
  · obtain ⟨x, y, rfl, al, k⟩ := h
    refine ⟨_, pss_cons (ps_if (pt_cmp (pc_isN (pv 1))) (pss_one (ps_ret (pe_cmp (pc_isN (pv 0))))) pss_nil)
      (pss_cons (ps_if (PW.pt (pw_or (pt_val (pe_isi (pv 1) rfl b.isi rfl b.bool (c := "bool") (by decide +kernel))) (pw_or1 (pt_val (pe_isi (pv 0) rfl b.isi rfl b.bool (c := "bool") (by decide +kernel))))))
        (pss_one (ps_ret (pe_and (pe_isi (pv 1) rfl b.isi rfl b.bool (c := "bool") (by decide +kernel)) (pe_and (pe_isi (pv 0) rfl b.isi rfl b.bool (c := "bool") (by decide +kernel)) (pe_one (pe_cmpR op_eq (pv 0) (pv 1) (nomark _))))))) pss_nil)
      (pss_cons (ps_if (pt_val (pe_isiT (pv 1) rfl b.isi rfl b.int rfl b.str))
        (pss_one (ps_ret (pe_and (pe_cmpR op_eq (pe_isi (pv 0) rfl b.isi rfl b.int (c := "int") (by decide +kernel)) (pe_isi (pv 1) rfl b.isi rfl b.int (c := "int") (by decide +kernel)) (nomark _)) (pe_and (pe_isiT (pv 0) rfl b.isi rfl b.int rfl b.str) (pe_one (pe_cmpR op_eq (pv 0) (pv 1) (nomark _))))))) pss_nil)
      pss_never)), ?_⟩
    cases al with
    | non => exact ⟨_, rfl, _, rfl, iteT ⟨_, rfl, k H (Same.refl H)⟩⟩
    | bl _ c =>
      refine ⟨_, rfl, _, rfl, iteF ?_⟩
      refine rd_isi rfl (.base (.bl c)) (b := true) (by decide +kernel) ⟨_, rfl, iteT ?_⟩
      refine rd_isi rfl (.base (.bl c)) (b := true) (by decide +kernel) ⟨_, rfl, iteT ?_⟩
      refine rd_isi rfl (.base (.bl c)) (b := true) (by decide +kernel) ⟨_, rfl, iteT ?_⟩
      refine ⟨_, rfl, _, rfl, rfl, ?_⟩
      rw [decide_eq_true rfl]
      exact k H (Same.refl H)
    | int _ i =>
      refine ⟨_, rfl, _, rfl, iteF ?_⟩
      refine rd_isi rfl (.base (.int i)) (b := false) (by decide +kernel) ⟨_, rfl, iteF ?_⟩
      refine rd_isi rfl (.base (.int i)) (b := false) (by decide +kernel) ⟨_, rfl, iteF ?_⟩
      refine rd_isiT rfl (.base (.int i)) (by decide) (kIS (b := true) (b' := false) (by decide +kernel) (by decide +kernel)) fun H1 s1 => ⟨_, rfl, iteT ?_⟩
      refine rd_isi rfl (.base (.int i)) (b := true) (by decide +kernel) ?_
      refine rd_isi rfl (.base (.int i)) (b := true) (by decide +kernel) ⟨rfl, _, rfl, iteT ?_⟩
      refine rd_isiT rfl (.base (.int i)) (by decide) (kIS (b := true) (b' := false) (by decide +kernel) (by decide +kernel)) fun H2 s2 => ⟨_, rfl, iteT ?_⟩
      refine ⟨_, rfl, _, rfl, rfl, ?_⟩
      rw [decide_eq_true rfl]
      exact k H2 (s1.trans s2)
    | str _ z =>
      refine ⟨_, rfl, _, rfl, iteF ?_⟩
      refine rd_isi rfl (.base (.str z)) (b := false) (by decide +kernel) ⟨_, rfl, iteF ?_⟩
      refine rd_isi rfl (.base (.str z)) (b := false) (by decide +kernel) ⟨_, rfl, iteF ?_⟩
      refine rd_isiT rfl (.base (.str z)) (by decide) (kIS (b := false) (b' := true) (by decide +kernel) (by decide +kernel)) fun H1 s1 => ⟨_, rfl, iteT ?_⟩
      refine rd_isi rfl (.base (.str z)) (b := false) (by decide +kernel) ?_
      refine rd_isi rfl (.base (.str z)) (b := false) (by decide +kernel) ⟨rfl, _, rfl, iteT ?_⟩
      refine rd_isiT rfl (.base (.str z)) (by decide) (kIS (b := false) (b' := true) (by decide +kernel) (by decide +kernel)) fun H2 s2 => ⟨_, rfl, iteT ?_⟩
      refine ⟨_, rfl, _, rfl, rfl, ?_⟩
      rw [decide_eq_true rfl]
      exact k H2 (s1.trans s2)
theorem ok_sameS {f : Addr} {fd : FuncData} {n lv : Nat} (A1 : At K mg "_law_same" sSame ["_law_found", "_law_due"] f fd) (b : Blt mg) (G : FnOk P w K mg base CX0 lv f fd ["_law_found", "_law_due"] (spSame n)) : FnOk P w K mg base CX0 (lv + 1) f fd ["_law_found", "_law_due"] (spSame (n + 1)) := by
  have F := A1.fn
  refine F.ok scSame (fun vs H Q E h => ?_) (fun cdv A outer s H vs Q E hr h => ?_)
  · obtain ⟨x, y, rfl, _⟩ := h
    rfl
  · obtain ⟨x, y, rfl, al, k⟩ := h
    refine ⟨_, pss_cons (ps_if (pt_cmp (pc_isN (pv 1))) (pss_one (ps_ret (pe_cmp (pc_isN (pv 0))))) pss_nil)
      (pss_cons (ps_if (PW.pt (pw_or (pt_val (pe_isi (pv 1) rfl b.isi rfl b.bool (c := "bool") (by decide +kernel))) (pw_or1 (pt_val (pe_isi (pv 0) rfl b.isi rfl b.bool (c := "bool") (by decide +kernel))))))
        (pss_one (ps_ret (pe_and (pe_isi (pv 1) rfl b.isi rfl b.bool (c := "bool") (by decide +kernel)) (pe_and (pe_isi (pv 0) rfl b.isi rfl b.bool (c := "bool") (by decide +kernel)) (pe_one (pe_cmpR op_eq (pv 0) (pv 1) (nomark _))))))) pss_nil)
      (pss_cons (ps_if (pt_val (pe_isiT (pv 1) rfl b.isi rfl b.int rfl b.str))
        (pss_one (ps_ret (pe_and (pe_cmpR op_eq (pe_isi (pv 0) rfl b.isi rfl b.int (c := "int") (by decide +kernel)) (pe_isi (pv 1) rfl b.isi rfl b.int (c := "int") (by decide +kernel)) (nomark _)) (pe_and (pe_isiT (pv 0) rfl b.isi rfl b.int rfl b.str) (pe_one (pe_cmpR op_eq (pv 0) (pv 1) (nomark _))))))) pss_nil)
      (pss_cons (ps_if (PW.pt (pw_or (pt_cmpR op_ne (pe_isi (pv 0) rfl b.isi rfl b.list (c := "list") (by decide +kernel)) (pe_isi (pv 1) rfl b.isi rfl b.list (c := "list") (by decide +kernel)) (nomark _))
          (pw_or1 (pt_cmpR op_ne (pe_isi (pv 0) rfl b.isi rfl b.tuple (c := "tuple") (by decide +kernel)) (pe_isi (pv 1) rfl b.isi rfl b.tuple (c := "tuple") (by decide +kernel)) (nomark _)))))
        (pss_one (ps_ret pe_bl)) pss_nil)
      (pss_one (ps_ret (pe_and (pe_cmpR op_eq (pe_callB call_len_seq (by rfl) b.len PySem.boot_len (pa_cons (pv 0) pa_nil)) (pe_callB call_len_seq (by rfl) b.len PySem.boot_len (pa_cons (pv 1) pa_nil)) (nomark _))
        (pe_one (pe_callB (cr_all rfl) (by rfl) b.all (by decide +kernel) (pa_cons
          (pe_lc (own := [("_law_at", 2)]) (g := gName 2) (tt := tYes) (te := tCall (spSame n) [] E0 (tCons (tOp (rIx K) (tVar 0) (tVar 2)) (tCons (tOp (rIx K) (tVar 1) (tVar 2)) tNil))) rfl scSame.nd (pi_range1 rfl b.range (pa_cons (pe_callB call_len_seq (by rfl) b.len PySem.boot_len (pa_cons (pv 1) pa_nil)) pa_nil))
            (blkOk_by (N := ["_law_found", "_law_due", "_law_at"]) (sc := defScope sSame) (by decide +kernel)) (fun _ _ _ _ _ => pg_name (i := 2) scSame.nd rfl (.inl rfl)) (fun _ _ _ _ _ => pts_nil)
            (fun _ _ _ _ _ => pe_call G hr rfl A1.gl A1.fn.kp A1.bd .nil pass0 (pa_cons (pe_ix ix_seq (pv 0) (pv 2) fun _ _ => rfl) (pa_cons (pe_ix ix_seq (pv 1) (pv 2) fun _ _ => rfl) pa_nil)))) pa_nil)))))))))
      , ?_⟩
    cases al with
    | non => exact ⟨_, rfl, _, rfl, iteT ⟨_, rfl, k H (Same.refl H)⟩⟩
    | bl _ c =>
      refine ⟨_, rfl, _, rfl, iteF ?_⟩
      refine rd_isi rfl (.base (.bl c)) (b := true) (by decide +kernel) ⟨_, rfl, iteT ?_⟩
      refine rd_isi rfl (.base (.bl c)) (b := true) (by decide +kernel) ⟨_, rfl, iteT ?_⟩
      refine rd_isi rfl (.base (.bl c)) (b := true) (by decide +kernel) ⟨_, rfl, iteT ?_⟩
      refine ⟨_, rfl, _, rfl, rfl, ?_⟩
      rw [decide_eq_true rfl]
      exact k H (Same.refl H)
    | int _ i =>
      refine ⟨_, rfl, _, rfl, iteF ?_⟩
      refine rd_isi rfl (.base (.int i)) (b := false) (by decide +kernel) ⟨_, rfl, iteF ?_⟩
      refine rd_isi rfl (.base (.int i)) (b := false) (by decide +kernel) ⟨_, rfl, iteF ?_⟩
      refine rd_isiT rfl (.base (.int i)) (by decide) (kIS (b := true) (b' := false) (by decide +kernel) (by decide +kernel)) fun H1 s1 => ⟨_, rfl, iteT ?_⟩
      refine rd_isi rfl (.base (.int i)) (b := true) (by decide +kernel) ?_
      refine rd_isi rfl (.base (.int i)) (b := true) (by decide +kernel) ⟨rfl, _, rfl, iteT ?_⟩
      refine rd_isiT rfl (.base (.int i)) (by decide) (kIS (b := true) (b' := false) (by decide +kernel) (by decide +kernel)) fun H2 s2 => ⟨_, rfl, iteT ?_⟩
      refine ⟨_, rfl, _, rfl, rfl, ?_⟩
      rw [decide_eq_true rfl]
      exact k H2 (s1.trans s2)
    | str _ z =>
      refine ⟨_, rfl, _, rfl, iteF ?_⟩
      refine rd_isi rfl (.base (.str z)) (b := false) (by decide +kernel) ⟨_, rfl, iteF ?_⟩
      refine rd_isi rfl (.base (.str z)) (b := false) (by decide +kernel) ⟨_, rfl, iteF ?_⟩
      refine rd_isiT rfl (.base (.str z)) (by decide) (kIS (b := false) (b' := true) (by decide +kernel) (by decide +kernel)) fun H1 s1 => ⟨_, rfl, iteT ?_⟩
      refine rd_isi rfl (.base (.str z)) (b := false) (by decide +kernel) ?_
      refine rd_isi rfl (.base (.str z)) (b := false) (by decide +kernel) ⟨rfl, _, rfl, iteT ?_⟩
      refine rd_isiT rfl (.base (.str z)) (by decide) (kIS (b := false) (b' := true) (by decide +kernel) (by decide +kernel)) fun H2 s2 => ⟨_, rfl, iteT ?_⟩
      refine ⟨_, rfl, _, rfl, rfl, ?_⟩
      rw [decide_eq_true rfl]
      exact k H2 (s1.trans s2)
    | @lst _ a c xs ys ha hc hl hz hh =>
      have tyA : ∀ H', Same H H' → TyX K H' (.ref a) (.type "list") := fun H' s' => .base (.lst (s' _ _ ha))
      have tyC : ∀ H', Same H H' → TyX K H' (.ref c) (.type "list") := fun H' s' => .base (.lst (s' _ _ hc))
      refine ⟨_, rfl, _, rfl, iteF ?_⟩
      refine rd_isi rfl (tyC H (Same.refl H)) (b := false) (by decide +kernel) ⟨_, rfl, iteF ?_⟩
      refine rd_isi rfl (tyA H (Same.refl H)) (b := false) (by decide +kernel) ⟨_, rfl, iteF ?_⟩
      refine rd_isiT rfl (tyC H (Same.refl H)) (by decide) (kIS (b := false) (b' := false) (by decide +kernel) (by decide +kernel)) fun H1 s1 => ⟨_, rfl, iteF ?_⟩
      refine rd_isi rfl (tyA H1 s1) (b := true) (by decide +kernel) ?_
      refine rd_isi rfl (tyC H1 s1) (b := true) (by decide +kernel) ⟨rfl, _, rfl, iteF ?_⟩
      refine rd_isi rfl (tyA H1 s1) (b := false) (by decide +kernel) ?_
      refine rd_isi rfl (tyC H1 s1) (b := false) (by decide +kernel) ⟨rfl, _, rfl, iteF ?_⟩
      refine ⟨_, rfl, a, xs, rfl, .inl (SqL.of (s1 _ _ ha)), _, rfl, c, ys, rfl, .inl (SqL.of (s1 _ _ hc)), rfl, _, rfl, ?_⟩
      rw [hl, decide_eq_true rfl]
      refine iteT ?_
      refine ⟨_, rfl, c, ys, rfl, .inl (SqL.of (s1 _ _ hc)), (ys.length : Int), rfl, by omega, by omega, fun D hD => ?_⟩
      rw [Int.toNat_natCast]
      refine lc_range (lo := 0) (n := ys.length) (fun i H' => Same H1 H' ∧ H' D = some (.lst ((List.replicate i true).map V.bl))) ⟨same_new hD, upd_same⟩ ?_ ?_
      · rintro i H2 hi ⟨s2, h2⟩
        refine ⟨rfl, ?_⟩
        refine iteT (B := Same H1 H2 ∧ H2 D = some (HO.lst ((List.replicate (i + 1) true).map V.bl))) ?_
        have hx : xs[i]? = some (xs[i]'(by omega)) := List.getElem?_eq_getElem _
        have hy : ys[i]? = some (ys[i]'hi) := List.getElem?_eq_getElem _
        have e00 : (0 : Int) + (i : Int) = (i : Int) := Int.zero_add _
        refine ⟨_, rfl, _, rfl, .inl ⟨a, xs, _, _, rfl, rfl, SqL.of (s2 _ _ (s1 _ _ ha)), (by rw [e00]; exact atI_nat hx), ?_⟩⟩
        refine ⟨_, rfl, _, rfl, .inl ⟨c, ys, _, _, rfl, rfl, SqL.of (s2 _ _ (s1 _ _ hc)), (by rw [e00]; exact atI_nat hy), ?_⟩⟩
        refine ⟨_, _, rfl, (hh i _ _ hx hy).same (s1.trans s2), fun H3 s3 => ?_⟩
        refine ⟨_, s3 _ _ h2, ?_, ?_, ?_⟩
        · rw [List.length_map, List.length_replicate]
          exact Nat.lt_of_lt_of_le (by omega : i < 1001) (by decide)
        · intro q o e
          have nq : q ≠ D := fun z => by
            rw [z, hD] at e
            cases e
          rw [upd_ne nq]
          exact s3 _ _ (s2 _ _ e)
        · rw [upd_same, List.replicate_succ', List.map_append]
          rfl
      · rintro H2 ⟨s2, h2⟩
        refine ⟨D, _, rfl, SqL.of h2, ?_⟩
        rw [show (List.replicate ys.length true).all id = true by simp]
        exact k H2 (s1.trans s2)
    | @tup _ a c xs ys ha hc hl hz hh =>
      have tyA : ∀ H', Same H H' → TyX K H' (.ref a) (.type "tuple") := fun H' s' => .base (.tup (s' _ _ ha))
      have tyC : ∀ H', Same H H' → TyX K H' (.ref c) (.type "tuple") := fun H' s' => .base (.tup (s' _ _ hc))
      refine ⟨_, rfl, _, rfl, iteF ?_⟩
      refine rd_isi rfl (tyC H (Same.refl H)) (b := false) (by decide +kernel) ⟨_, rfl, iteF ?_⟩
      refine rd_isi rfl (tyA H (Same.refl H)) (b := false) (by decide +kernel) ⟨_, rfl, iteF ?_⟩
      refine rd_isiT rfl (tyC H (Same.refl H)) (by decide) (kIS (b := false) (b' := false) (by decide +kernel) (by decide +kernel)) fun H1 s1 => ⟨_, rfl, iteF ?_⟩
      refine rd_isi rfl (tyA H1 s1) (b := false) (by decide +kernel) ?_
      refine rd_isi rfl (tyC H1 s1) (b := false) (by decide +kernel) ⟨rfl, _, rfl, iteF ?_⟩
      refine rd_isi rfl (tyA H1 s1) (b := true) (by decide +kernel) ?_
      refine rd_isi rfl (tyC H1 s1) (b := true) (by decide +kernel) ⟨rfl, _, rfl, iteF ?_⟩
      refine ⟨_, rfl, a, xs, rfl, .inr (SqT.of (s1 _ _ ha)), _, rfl, c, ys, rfl, .inr (SqT.of (s1 _ _ hc)), rfl, _, rfl, ?_⟩
      rw [hl, decide_eq_true rfl]
      refine iteT ?_
      refine ⟨_, rfl, c, ys, rfl, .inr (SqT.of (s1 _ _ hc)), (ys.length : Int), rfl, by omega, by omega, fun D hD => ?_⟩
      rw [Int.toNat_natCast]
      refine lc_range (lo := 0) (n := ys.length) (fun i H' => Same H1 H' ∧ H' D = some (.lst ((List.replicate i true).map V.bl))) ⟨same_new hD, upd_same⟩ ?_ ?_
      · rintro i H2 hi ⟨s2, h2⟩
        refine ⟨rfl, ?_⟩
        refine iteT (B := Same H1 H2 ∧ H2 D = some (HO.lst ((List.replicate (i + 1) true).map V.bl))) ?_
        have hx : xs[i]? = some (xs[i]'(by omega)) := List.getElem?_eq_getElem _
        have hy : ys[i]? = some (ys[i]'hi) := List.getElem?_eq_getElem _
        have e00 : (0 : Int) + (i : Int) = (i : Int) := Int.zero_add _
        refine ⟨_, rfl, _, rfl, .inr (.inl ⟨a, xs, _, _, rfl, rfl, SqT.of (s2 _ _ (s1 _ _ ha)), (by rw [e00]; exact atI_nat hx), ?_⟩)⟩
        refine ⟨_, rfl, _, rfl, .inr (.inl ⟨c, ys, _, _, rfl, rfl, SqT.of (s2 _ _ (s1 _ _ hc)), (by rw [e00]; exact atI_nat hy), ?_⟩)⟩
        refine ⟨_, _, rfl, (hh i _ _ hx hy).same (s1.trans s2), fun H3 s3 => ?_⟩
        refine ⟨_, s3 _ _ h2, ?_, ?_, ?_⟩
        · rw [List.length_map, List.length_replicate]
          exact Nat.lt_of_lt_of_le (by omega : i < 1001) (by decide)
        · intro q o e
          have nq : q ≠ D := fun z => by
            rw [z, hD] at e
            cases e
          rw [upd_ne nq]
          exact s3 _ _ (s2 _ _ e)
        · rw [upd_same, List.replicate_succ', List.map_append]
          rfl
      · rintro H2 ⟨s2, h2⟩
        refine ⟨D, _, rfl, SqL.of h2, ?_⟩
        rw [show (List.replicate ys.length true).all id = true by simp]
        exact k H2 (s1.trans s2)
/-- to any depth -/
theorem ok_same {f : Addr} {fd : FuncData} (A1 : At K mg "_law_same" sSame ["_law_found", "_law_due"] f fd) (b : Blt mg) : ∀ n : Nat, FnOk P w K mg base CX0 (n + 1) f fd ["_law_found", "_law_due"] (spSame n)
  | 0 => ok_same0 A1.fn b
  | n + 1 => ok_sameS A1 b (ok_same A1 b n)
end
end VQ
namespace VQ
open PySem L2 LamX
/-! ### walks over a text -/
theorem lc_text {z : Str} {g : TG} {tt : TT} {te : TE} {vs : List Nat} {σ : L2.St} {H1 : Hp} {D : Addr} {Qd : Hp → Prop} (Pv : Nat → Hp → Prop) (h0 : Pv 0 (upd H1 D (.lst [])))
    (turn : ∀ (i c : Nat) (H : Hp), z.cps[i]? = some c → Pv i H → g (.str ⟨#[c]⟩) (wipe σ vs) H fun σ2 H2 => wipe σ2 vs = wipe σ vs ∧ tt σ2 H2 fun b H3 => if b = true then te σ2 H3 fun y H4 => ∃ acc, H4 D = some (.lst acc) ∧ acc.length < sizeLine ∧ Pv (i + 1) (upd H4 D (.lst (acc ++ [y]))) else Pv (i + 1) H3)
    (fin : ∀ H, Pv z.cps.size H → Qd H) :
    ∃ W : Nat → Nat → Hp → Prop, (∃ m, W 0 m (upd H1 D (.lst []))) ∧ ∀ i m H, W i m H → ((Its z).stop i H ∧ Qd H) ∨ ((Its z).go i H ∧ ∃ Nx : Hp → Prop, (∀ H', Nx H' → ∃ m', m' < m ∧ W (i + 1) m' H') ∧
      ∀ x H', (Its z).yld i H x H' → g x (wipe σ vs) H' fun σ2 H2 => wipe σ2 vs = wipe σ vs ∧ tt σ2 H2 fun b H3 => if b = true then te σ2 H3 fun y H4 => ∃ acc, H4 D = some (.lst acc) ∧ acc.length < sizeLine ∧ Nx (upd H4 D (.lst (acc ++ [y]))) else Nx H3) := by
  refine ⟨fun i m H => m + i = z.cps.size ∧ Pv i H, ⟨z.cps.size, by simp, h0⟩, ?_⟩
  rintro i m H ⟨em, p⟩
  by_cases lt : i < z.cps.size
  · refine .inr ⟨lt, Pv (i + 1), fun H' p' => ⟨m - 1, by omega, by omega, p'⟩, ?_⟩
    rintro x H' ⟨rfl, c, ec, rfl⟩
    exact turn i c H' ec p
  · have e : i = z.cps.size := by omega
    subst e
    exact .inl ⟨Nat.le_refl _, fin H p⟩
theorem for_text {z : Str} {g : TG} {tb : TS} {D : Ends} {σ : L2.St} {H : Hp} (Pv : Nat → L2.St → Hp → Prop) (h0 : Pv 0 σ H)
    (turn : ∀ (i c : Nat) σ H, z.cps[i]? = some c → Pv i σ H → g (.str ⟨#[c]⟩) σ H fun σ2 H2 => tb { D with nx := Pv (i + 1), ct := Pv (i + 1), bk := D.nx } σ2 H2) (fin : ∀ σ H, Pv z.cps.size σ H → D.nx σ H) :
    ∃ W : Nat → Nat → L2.St → Hp → Prop, (∃ m, W 0 m σ H) ∧ ∀ i m σ H, W i m σ H → ((Its z).stop i H ∧ D.nx σ H) ∨ ((Its z).go i H ∧ ∃ Nx : L2.St → Hp → Prop, (∀ σ' H', Nx σ' H' → ∃ m', m' < m ∧ W (i + 1) m' σ' H') ∧
      ∀ x H', (Its z).yld i H x H' → g x σ H' fun σ2 H2 => tb { D with nx := Nx, ct := Nx, bk := D.nx } σ2 H2) := by
  refine ⟨fun i m σ H => m + i = z.cps.size ∧ Pv i σ H, ⟨z.cps.size, by simp, h0⟩, ?_⟩
  rintro i m σ H ⟨em, p⟩
  by_cases lt : i < z.cps.size
  · refine .inr ⟨lt, Pv (i + 1), fun σ' H' p' => ⟨m - 1, by omega, by omega, p'⟩, ?_⟩
    rintro x H' ⟨rfl, c, ec, rfl⟩
    exact turn i c σ H' ec p
  · have e : i = z.cps.size := by omega
    subst e
    exact .inl ⟨Nat.le_refl _, fin σ H p⟩
/-! ### beginnings: the sixty-three of them -/
def tk (z : Str) (k : Nat) : Str := ⟨(z.cps.toList.take k).toArray⟩
def begs : List Str := (List.range 6).flatMap fun k => (List.range (2 ^ k)).map fun j => tk (fig (j * 2 ^ (5 - k))) k
theorem tk_in : ∀ w, w < 32 → ∀ k, k < 6 → tk (fig w) k ∈ begs := by decide +kernel
def signB (c : Nat) : Bool := decide (c ∈ [48, 49])
def begB : V → Bool
  | .str z => decide (z.length ≤ 5) && z.cps.toList.all signB
  | _ => false
theorem begs_yes : ∀ z ∈ begs, begB (.str z) = true := by decide +kernel
theorem begs_len : ∀ z ∈ begs, z.length ≤ 5 := by decide +kernel
abbrev calledAs (nm : Str) : HO := .xd [(("called" : Str), .str nm)]
/-- a comprehension without a test -/
theorem yes_turn {σ : L2.St} {H : Hp} {A B : Hp → Prop} (h : A H) : tYes σ H fun b H3 => if b = true then A H3 else B H3 := by
  show if true = true then A H else B H
  rw [if_pos rfl]
  exact h
end VQ
namespace VQ
open PySem L2 LamX
section
variable {P : Program} {w : World} {K : PySem.W.Frag} {mg : Str → Option Value} {base : Heap}
/-- a text is no longer than can be read -/
def Short : V → Prop
  | .str z => z.length ≤ 1000
  | _ => True
def spIsBeg (K : PySem.W.Frag) : Sp := fun vs H Q _ => ∃ (x : V) (t : String), vs = [x] ∧ TyX K H x (.type t) ∧ t ∈ basics ∧ Short x ∧ ∀ H', Same H H' → Q (.bl (begB x)) H'
end
end VQ
namespace VQ
open PySem L2 LamX
def lastC (z : Str) : Nat := z.cps.toList.getLastD 0
def dropL (z : Str) : Str := ⟨z.cps.toList.dropLast.toArray⟩
def flip (c : Nat) : Str := if c = 48 then "1" else "0"
def bro (z : Str) : Str := dropL z ++ flip (lastC z)
theorem bro_cut : ∀ z ∈ begs, z ≠ ("" : Str) → atI z.cps.toList (-1) = some (lastC z) ∧ cutS z none (some (-1)) = dropL z ∧ (dropL z).length ≤ 5 ∧ (lastC z = 48 ∨ lastC z = 49) := by decide +kernel
theorem bro_in : ∀ z ∈ begs, z ≠ ("" : Str) → bro z ∈ begs ∧ bro z ≠ ("" : Str) ∧ bro (bro z) = z := by decide +kernel
theorem cut_to (z : Str) (k : Nat) : cutS z none (some (k : Int)) = tk z k := by
  unfold cutS tk
  rw [HT.sIx_none, HT.sIx_nat, List.drop_zero, Nat.sub_zero, show z.length = z.cps.toList.length by simp [Str.length]]
  by_cases le : k ≤ z.cps.toList.length
  · rw [Nat.min_eq_left le]
  · have le' : z.cps.toList.length ≤ k := by omega
    rw [Nat.min_eq_right le', List.take_of_length_le (Nat.le_refl _), List.take_of_length_le le']
end VQ
namespace VQ
open PySem L2 LamX
/-! ### beginnings by their signs -/
theorem begB_iff {z : Str} : begB (.str z) = true ↔ z.length ≤ 5 ∧ ∀ c ∈ z.cps.toList, signB c = true := by
  show (decide (z.length ≤ 5) && z.cps.toList.all signB) = true ↔ _
  rw [Bool.and_eq_true, decide_eq_true_eq, List.all_eq_true]
theorem sign_two {c : Nat} (h : signB c = true) : c = 48 ∨ c = 49 := by
  have := of_decide_eq_true h
  simpa using this
theorem begs_list : ∀ l : List Nat, l.length ≤ 5 → (∀ c ∈ l, signB c = true) → (⟨l.toArray⟩ : Str) ∈ begs
  | [], _, _ => by decide +kernel
  | [a], _, h => by
    rcases sign_two (h a (by simp)) with rfl | rfl <;> decide +kernel
  | [a, b], _, h => by
    rcases sign_two (h a (by simp)) with rfl | rfl <;> rcases sign_two (h b (by simp)) with rfl | rfl <;> decide +kernel
  | [a, b, c], _, h => by
    rcases sign_two (h a (by simp)) with rfl | rfl <;> rcases sign_two (h b (by simp)) with rfl | rfl <;> rcases sign_two (h c (by simp)) with rfl | rfl <;> decide +kernel
  | [a, b, c, d], _, h => by
    rcases sign_two (h a (by simp)) with rfl | rfl <;> rcases sign_two (h b (by simp)) with rfl | rfl <;> rcases sign_two (h c (by simp)) with rfl | rfl <;> rcases sign_two (h d (by simp)) with rfl | rfl <;> decide +kernel
  | [a, b, c, d, e], _, h => by
    rcases sign_two (h a (by simp)) with rfl | rfl <;> rcases sign_two (h b (by simp)) with rfl | rfl <;> rcases sign_two (h c (by simp)) with rfl | rfl <;> rcases sign_two (h d (by simp)) with rfl | rfl <;> rcases sign_two (h e (by simp)) with rfl | rfl <;> decide +kernel
  | _ :: _ :: _ :: _ :: _ :: _ :: _, h, _ => absurd h (by simp)
theorem beg_mem {z : Str} (h1 : z.length ≤ 5) (h2 : ∀ c ∈ z.cps.toList, signB c = true) : z ∈ begs := by
  have e : z = ⟨z.cps.toList.toArray⟩ := StrLaws.mk_of_toList rfl
  rw [e]
  exact begs_list _ (by simpa [Str.length] using h1) h2
theorem beg_signs {z : Str} (h : z ∈ begs) : ∀ c ∈ z.cps.toList, signB c = true := (begB_iff.mp (begs_yes z h)).2
theorem sign_bit (n : Nat) : signB (48 + n % 2) = true := by
  rcases Nat.mod_two_eq_zero_or_one n with h | h <;> rw [h] <;> rfl
theorem figLow_signs (w : Nat) : ∀ i, ∀ c ∈ (figLow w i).cps.toList, signB c = true
  | 0, c, m => by cases m
  | i + 1, c, m => by
    have m' : c ∈ (#[48 + w / 2 ^ i % 2] ++ (figLow w i).cps).toList := m
    rw [Array.toList_append] at m'
    rcases List.mem_append.mp m' with m | m
    · have e : c = 48 + w / 2 ^ i % 2 := by simpa using m
      rw [e]
      exact sign_bit _
    · exact figLow_signs w i c m
theorem fig_signs (w : Nat) : ∀ c ∈ (fig w).cps.toList, signB c = true := figLow_signs w 5
theorem fig_len (w : Nat) : (fig w).length = 5 := figLow_len w 5
theorem fig_in (w : Nat) : fig w ∈ begs := beg_mem (by rw [fig_len]; decide) (fig_signs w)
theorem tk_list (z : Str) (k : Nat) : (tk z k).cps.toList = z.cps.toList.take k := by simp [tk]
theorem tk_len (z : Str) (k : Nat) : (tk z k).length = min k z.length := by simp [tk, Str.length]
theorem tk_beg {z : Str} (h : ∀ c ∈ z.cps.toList, signB c = true) {k : Nat} (hk : k ≤ 5) : tk z k ∈ begs := by
  refine beg_mem (by rw [tk_len]; omega) fun c m => ?_
  rw [tk_list] at m
  exact h c (List.mem_of_mem_take m)
theorem app_signs {a b : Str} (ha : ∀ c ∈ a.cps.toList, signB c = true) (hb : ∀ c ∈ b.cps.toList, signB c = true) : ∀ c ∈ (a ++ b).cps.toList, signB c = true := fun c m => by
  rw [Str.cps_append, Array.toList_append] at m
  rcases List.mem_append.mp m with m | m
  · exact ha c m
  · exact hb c m
theorem m_tk (z : Str) (h : z ∈ begs) (k : Nat) (hk : k < 6) : tk z k ∈ begs := tk_beg (beg_signs h) (by omega)
theorem m_more (z : Str) (h : z ∈ begs) (w : Nat) (_ : w < 32) : tk (z ++ fig w) 5 ∈ begs ∧ (z ++ fig w).length ≤ 10 := by
  refine ⟨tk_beg (app_signs (beg_signs h) (fig_signs w)) (Nat.le_refl 5), ?_⟩
  rw [Str.length_append, fig_len]
  have := begs_len z h
  omega
/-- z begins with u, by the law -/
def beginsB (z u : Str) : Bool := decide (tk z u.length = u)
theorem st_eq (a b : Str) : Txt.startswith a b = beginsB a b := by
  unfold Txt.startswith beginsB
  rw [StrLaws.subAt_eq, List.drop_zero, Bool.eq_iff_iff, Bool.and_eq_true, decide_eq_true_eq, decide_eq_true_eq, beq_iff_eq]
  constructor
  · rintro ⟨_, e⟩
    have q : (tk a b.length).cps.toList = b.cps.toList := by rw [tk_list]; exact e
    exact Str.ext' (Array.toList_inj.mp q)
  · intro e
    have q : (tk a b.length).cps.toList = b.cps.toList := by rw [e]
    rw [tk_list] at q
    refine ⟨?_, q⟩
    have l := congrArg List.length q
    rw [List.length_take] at l
    have l1 : b.cps.toList.length = b.length := by simp [Str.length]
    have l2 : a.cps.toList.length = a.length := by simp [Str.length]
    omega
theorem begins_len {a b : Str} (h : beginsB a b = true) : b.length ≤ a.length := by
  have e := congrArg Str.length (of_decide_eq_true h)
  rw [tk_len] at e
  omega
theorem tk_all (a : Str) : tk a a.length = a := by
  refine Str.ext' (Array.toList_inj.mp ?_)
  rw [tk_list]
  exact List.take_of_length_le (by simp [Str.length])
theorem begins_eq {a b : Str} (h : beginsB a b = true) (l : a.length ≤ b.length) : a = b := by
  have e := of_decide_eq_true h
  rw [show b.length = a.length by have := begins_len h; omega, tk_all] at e
  exact e
theorem begins_self (a : Str) : beginsB a a = true := decide_eq_true (tk_all a)
end VQ
namespace VQ
open PySem L2 LamX
/-- the worths under a beginning -/
def underN (z : Str) : List Nat := (List.range 32).filter fun w => decide (tk (fig w) z.length = z)
def underL (z : Str) : List Int := (underN z).map Int.ofNat
theorem cut_any (z : Str) (k : Nat) : cutS z none (some (k : Int)) = tk z k := by
  unfold cutS tk
  rw [HT.sIx_none, HT.sIx_nat, List.drop_zero, Nat.sub_zero]
  have e : z.length = z.cps.toList.length := by simp [Str.length]
  rw [e]
  by_cases le : k ≤ z.cps.toList.length
  · rw [Nat.min_eq_left le]
  · rw [Nat.min_eq_right (by omega), List.take_of_length_le (Nat.le_refl _), List.take_of_length_le (by omega)]
section
variable {P : Program} {w : World} {K : PySem.W.Frag} {mg : Str → Option Value} {base : Heap}
def spUnder : Sp := fun vs H Q _ => ∃ z : Str, vs = [.str z] ∧ z.length ≤ 1000 ∧ ∀ (p : Addr) (H' : Hp), H p = none → Same H H' → H' p = some (.lst ((underL z).map V.int)) → Q (.ref p) H'
end
end VQ
namespace VQ
open PySem L2 LamX
/-! ### what the laws' own bodies share -/
theorem Tabs.keep {T : List (Addr × Str)} {H H' : Hp} {b : Addr} (t : Tabs T H) (B : Bag H b) (k : Keep b H H') : Tabs T H' := fun p hp => by
  obtain ⟨l, ns, i, r, x, n, nl, h1, _⟩ := B
  obtain ⟨ps, a1, a2, a3⟩ := t p hp
  refine ⟨ps, k.1 _ _ (fun z => ?_) a1, a2, fun pos cv hc => ?_⟩
  · rw [z, h1] at a1
    cases a1
  · obtain ⟨c, e1, e2⟩ := a3 pos cv hc
    refine ⟨c, e1, k.1 _ _ (fun z => ?_) e2⟩
    rw [z, h1] at e2
    cases e2
theorem Bag.extN {H H' : Hp} {b : Addr} (B : Bag H b) (e : ExtN H H') : Bag H' b := by
  obtain ⟨l, ns, i, r, x, n, nl, h1, h2, h3⟩ := B
  exact ⟨l, ns, i, r, x, n, nl, e _ _ h1 (fun ps z => by cases z), e _ _ h2 (fun ps z => by cases z), h3⟩
theorem passCX {X : Cx} : Passes (L2.CX X.prog X.w) X E0 := fun _ _ _ _ _ _ _ ⟨_, _, _, _, _, _, _, _, _, _, _, _, z⟩ => z.elim
/-- law's promise: a list of at most 63 ints is handed in, True comes out; Pt: the table of its code object -/
def spLaw (K : PySem.W.Frag) (Pt : Addr) : Sp := fun vs H Q _ => ∃ (a : Addr) (ns : List Int), vs = [.ref a] ∧ SqL K H a (ns.map V.int) ∧ ns.length ≤ 63 ∧ H Pt = some (.tbl #[]) ∧ ∀ H', Q (.bl true) H'
theorem extN_same {H H' : Hp} (s : Same H H') : ExtN H H' := fun b o h _ => s b o h
end VQ
namespace VQ
open PySem L2 LamX
/-! ### data that is compared -/
def Lay (n : Nat) (d : PyData) : Prop := d.canLay0 = true ∧ d.depth ≤ n
theorem lay_all {n : Nat} : ∀ {ds : List PyData}, (∀ d ∈ ds, Lay n d) → PyData.canLayAll0 ds = true ∧ PyData.depthAll ds ≤ n
  | [], _ => by
    unfold PyData.canLayAll0 PyData.depthAll
    exact ⟨rfl, Nat.zero_le _⟩
  | d :: ds, h => by
    obtain ⟨a, c⟩ := h d List.mem_cons_self
    obtain ⟨a', c'⟩ := lay_all (ds := ds) fun e m => h e (List.mem_cons_of_mem _ m)
    unfold PyData.canLayAll0 PyData.depthAll
    exact ⟨by rw [a, a']; rfl, Nat.max_le.mpr ⟨c, c'⟩⟩
theorem Lay.list {n : Nat} {ds : List PyData} (h : ∀ d ∈ ds, Lay n d) : Lay (n + 1) (.list ds) := by
  obtain ⟨a, c⟩ := lay_all h
  unfold Lay PyData.canLay0 PyData.depth
  exact ⟨a, Nat.succ_le_succ c⟩
theorem Lay.tuple {n : Nat} {ds : List PyData} (h : ∀ d ∈ ds, Lay n d) : Lay (n + 1) (.tuple ds) := by
  obtain ⟨a, c⟩ := lay_all h
  unfold Lay PyData.canLay0 PyData.depth
  exact ⟨a, Nat.succ_le_succ c⟩
theorem Lay.int (n : Nat) (i : Int) : Lay n (.int i) := by
  unfold Lay PyData.canLay0 PyData.depth
  exact ⟨rfl, Nat.zero_le _⟩
theorem Lay.str (n : Nat) {z : Str} (h : ∀ c ∈ z.cps.toList, c < 1114112) : Lay n (.str z) := by
  unfold Lay PyData.canLay0 PyData.depth
  refine ⟨?_, Nat.zero_le _⟩
  show z.cps.all (· < 0x110000) = true
  rw [← Array.all_toList, List.all_eq_true]
  exact fun c m => decide_eq_true (h c m)
theorem Lay.shaped {n : Nat} {d : PyData} (h : Lay n d) (hn : n ≤ 64) : SeqAt.shaped d = true := by
  unfold SeqAt.shaped
  rw [h.1, decide_eq_true (Nat.le_trans h.2 hn)]
  rfl
theorem lay_ints (ks : List Int) : Lay 1 (.list (ks.map PyData.int)) := .list fun d m => by
  obtain ⟨k, _, rfl⟩ := List.mem_map.mp m
  exact .int _ _
theorem dp_ints {K : PySem.W.Frag} {H : Hp} : ∀ ks : List Int, DpAll K H (ks.map V.int) (ks.map PyData.int)
  | [] => .nil
  | k :: ks => .cons (.int k) (dp_ints ks)
theorem dp_strs {K : PySem.W.Frag} {H : Hp} : ∀ zs : List Str, DpAll K H (zs.map V.str) (zs.map PyData.str)
  | [] => .nil
  | z :: zs => .cons (.str z) (dp_strs zs)
theorem eqv_nil (ds : List PyData) : PyData.eqv (.list ds) (.list []) = ds.isEmpty := by
  cases ds with
  | nil => rfl
  | cons d ds => rfl
end VQ
namespace VQ
open PySem L2 LamX
/-! ### things, rooms, boxes -/
/-- something of the plain kinds -/
def Part (K : PySem.W.Frag) (H : Hp) (x : V) : Prop := ∃ t, TyX K H x (.type t) ∧ t ∈ basics ∧ Short x
/-- a thing, and its items where it is a tuple -/
inductive Thing (K : PySem.W.Frag) (H : Hp) : V → Option (List V) → Prop
  | tup {a : Addr} {xs : List V} (h : H a = some (.tup xs)) (hp : ∀ x ∈ xs, Part K H x) (hl : xs.length ≤ 1000) : Thing K H (.ref a) (some xs)
  | oth {x : V} {t : String} (ty : TyX K H x (.type t)) (m : t ∈ basics) (nt : t ≠ "tuple") : Thing K H x none
def placesO : Option (List V) → Bool
  | none => false
  | some xs => decide (1 ≤ xs.length) && decide (xs.length ≤ 5)
def allO (p : V → Bool) : Option (List V) → Bool
  | none => false
  | some xs => placesO (some xs) && xs.all p
section
variable {P : Program} {w : World} {K : PySem.W.Frag} {mg : Str → Option Value} {base : Heap}
theorem Part.same {H H' : Hp} {x : V} (s : Same H H') (h : Part K H x) : Part K H' x := by
  obtain ⟨t, a, b, c⟩ := h
  exact ⟨t, TyX.basic_same s a b, b, c⟩
theorem Part.str {H : Hp} (z : Str) (h : z.length ≤ 1000) : Part K H (.str z) := ⟨"str", .base (.str z), by decide, h⟩
theorem Part.int {H : Hp} (i : Int) : Part K H (.int i) := ⟨"int", .base (.int i), by decide, trivial⟩
theorem Thing.same {H H' : Hp} {x : V} {o : Option (List V)} (s : Same H H') (h : Thing K H x o) : Thing K H' x o := by
  cases h with
  | tup h hp hl => exact .tup (s _ _ h) (fun x m => Part.same s (hp x m)) hl
  | oth ty m nt => exact .oth (TyX.basic_same s ty m) m nt
def spIsPlaces (K : PySem.W.Frag) : Sp := fun vs H Q _ => ∃ (x : V) (o : Option (List V)), vs = [x] ∧ Thing K H x o ∧ Q (.bl (placesO o)) H
/-- is_box, is_point -/
def spIs (K : PySem.W.Frag) (p : V → Bool) : Sp := fun vs H Q _ => ∃ (x : V) (o : Option (List V)), vs = [x] ∧ Thing K H x o ∧ ∀ H', Same H H' → Q (.bl (allO p o)) H'
/-- what a comprehension over a tuple that asks each item collects -/
theorem take_snoc {α β : Type} (g : α → β) {xs : List α} {i : Nat} {x : α} (h : xs[i]? = some x) : (xs.take i).map g ++ [g x] = (xs.take (i + 1)).map g := by
  rw [List.take_add_one, h, List.map_append]
  rfl
/-- need_box, need_point -/
def spNeedT (K : PySem.W.Frag) (p : V → Bool) (C : Addr) (nm : Str) : Sp := fun vs H Q E => ∃ (x : V) (o : Option (List V)), vs = [x] ∧ Thing K H x o ∧
  (allO p o = true → ∀ H', Same H H' → Q .non H') ∧ (allO p o = false → ∀ H' d, Same H H' → H' d = none → E (.ref C) (some d) (upd H' d (calledAs nm)))
theorem map_get {zs : List Str} {i : Nat} {x : V} (h : (zs.map V.str)[i]? = some x) : ∃ z, zs[i]? = some z ∧ x = .str z := by
  rw [List.getElem?_map] at h
  cases e : zs[i]? with
  | none => rw [e] at h; cases h
  | some z =>
    rw [e] at h
    exact ⟨z, rfl, (Option.some.inj h).symm⟩
end
end VQ
namespace VQ
open PySem L2 LamX
/-! ### names of a comprehension that the def's own state leaves out -/
theorem Inv.more {X : Cx} {pins : List (Addr × Obj)} {σ : L2.St} {H : Hp} {s : Shared} (ys : List Str) (I : Inv X pins σ H s) : Inv { X with N := X.N ++ ys } pins (σ ++ List.replicate ys.length none) H s where
  ok := ⟨I.ok.mod, I.ok.kind, I.ok.glob, I.ok.blt, I.ok.above, I.ok.inj, I.ok.has, I.ok.cab, I.ok.hd, I.ok.frames, I.ok.stk, I.ok.exf, I.ok.bs, I.ok.bsz, I.ok.noex, I.ok.exfs, I.ok.funs, I.ok.frf⟩
  os := I.os
  bare := I.bare
  base := I.base
  loc := by
    obtain ⟨m, h1, h2⟩ := I.loc
    refine ⟨m, h1, fun i x v e1 e2 e3 => ?_⟩
    by_cases lt : i < σ.length
    · rw [List.getElem?_append_left lt] at e2
      have e1 : (X.N ++ ys)[i]? = some x := e1
      rw [List.getElem?_append_left (by rw [← I.len]; exact lt)] at e1
      exact h2 i x v e1 e2 e3
    · rw [List.getElem?_append_right (by omega), List.getElem?_replicate] at e2
      split at e2 <;> cases e2
  cell := I.cell
  free := I.free
  freeC := I.freeC
  pin := I.pin
  hok := I.hok
  len := by
    show _ = (X.N ++ ys).length
    rw [List.length_append, List.length_append, List.length_replicate, I.len]
theorem Inv.less {X : Cx} {pins : List (Addr × Obj)} {σ : L2.St} {H : Hp} {s : Shared} {ys : List Str} (len : σ.length = X.N.length) (I : Inv { X with N := X.N ++ ys } pins (σ ++ List.replicate ys.length none) H s) : Inv X pins σ H s where
  ok := ⟨I.ok.mod, I.ok.kind, I.ok.glob, I.ok.blt, I.ok.above, I.ok.inj, I.ok.has, I.ok.cab, I.ok.hd, I.ok.frames, I.ok.stk, I.ok.exf, I.ok.bs, I.ok.bsz, I.ok.noex, I.ok.exfs, I.ok.funs, I.ok.frf⟩
  os := I.os
  bare := I.bare
  base := I.base
  loc := by
    obtain ⟨m, h1, h2⟩ := I.loc
    refine ⟨m, h1, fun i x v e1 e2 e3 => h2 i x v ?_ ?_ e3⟩
    · show (X.N ++ ys)[i]? = some x
      rw [List.getElem?_append_left (List.getElem?_eq_some_iff.mp e1).1]
      exact e1
    · rw [List.getElem?_append_left (List.getElem?_eq_some_iff.mp e2).1]
      exact e2
  cell := I.cell
  free := I.free
  freeC := I.freeC
  pin := I.pin
  hok := I.hok
  len := len
def tMore (n : Nat) (t : TE) : TE := fun σ H Q => t (σ ++ List.replicate n none) H Q
theorem pe_more {X : Cx} {e : Expr} {t : TE} (ys : List Str) (h : PE { X with N := X.N ++ ys } e t) : PE X e (tMore ys.length t) := by
  refine ⟨fun pins s σ H Q I hw => ?_⟩
  refine wpAny_mono (h.run pins s _ H Q (Inv.more ys I) hw) ?_ fun _ _ z => z
  rintro v s1 ⟨x, H1, I1, r1, q1⟩
  exact ⟨x, H1, Inv.less I.len I1, r1, q1⟩
end VQ
namespace VQ
open PySem L2 LamX
section
variable {P : Program} {w : World} {K : PySem.W.Frag} {mg : Str → Option Value} {base : Heap}
def spAlikeT (K : PySem.W.Frag) (C : Addr) : Sp := fun vs H Q E => ∃ (a b : Addr) (xs ys : List V), vs = [.ref a, .ref b] ∧ H a = some (.tup xs) ∧ H b = some (.tup ys) ∧
  (xs.length = ys.length → Q .non H) ∧ (xs.length ≠ ys.length → ∀ d, H d = none → E (.ref C) (some d) (upd H d (calledAs "Unlike")))
end
end VQ
namespace VQ
open PySem L2 LamX
/-! ### what two boxes are asked -/
/-- the places of a box -/
structure IsBoxS (zs : List Str) : Prop where
  beg : ∀ z ∈ zs, begB (.str z) = true
  lo : 1 ≤ zs.length
  hi : zs.length ≤ 5
theorem allO_box {o : Option (List V)} (h : allO begB o = true) : ∃ zs : List Str, o = some (zs.map V.str) ∧ IsBoxS zs := by
  cases o with
  | none => cases h
  | some xs =>
    have h' : (placesO (some xs) && xs.all begB) = true := h
    rw [Bool.and_eq_true] at h'
    obtain ⟨h1, h2⟩ := h'
    have h1' : (decide (1 ≤ xs.length) && decide (xs.length ≤ 5)) = true := h1
    rw [Bool.and_eq_true, decide_eq_true_eq, decide_eq_true_eq] at h1'
    have key : ∀ l : List V, l.all begB = true → ∃ zs : List Str, l = zs.map V.str ∧ ∀ z ∈ zs, begB (.str z) = true := by
      intro l
      induction l with
      | nil => exact fun _ => ⟨[], rfl, fun z m => by cases m⟩
      | cons x l ih =>
        intro q
        rw [List.all_cons, Bool.and_eq_true] at q
        obtain ⟨zs, e, a⟩ := ih q.2
        cases x with
        | str z =>
          refine ⟨z :: zs, by rw [e]; rfl, fun u m => ?_⟩
          rcases List.mem_cons.mp m with rfl | m
          · exact q.1
          · exact a u m
        | _ => exact absurd q.1 (by intro z; cases z)
    obtain ⟨zs, rfl, a⟩ := key xs h2
    rw [List.length_map] at h1'
    exact ⟨zs, rfl, a, h1'.1, h1'.2⟩
theorem box_allO {zs : List Str} (h : IsBoxS zs) : allO begB (some (zs.map V.str)) = true := by
  show ((decide (1 ≤ (zs.map V.str).length) && decide ((zs.map V.str).length ≤ 5)) && (zs.map V.str).all begB) = true
  rw [List.length_map, decide_eq_true h.lo, decide_eq_true h.hi, List.all_map, Bool.true_and, Bool.true_and]
  exact List.all_eq_true.mpr fun z m => h.beg z m
theorem beg_len {z : Str} (h : begB (.str z) = true) : z.length ≤ 5 := by
  have h' : (decide (z.length ≤ 5) && z.cps.toList.all signB) = true := h
  rw [Bool.and_eq_true, decide_eq_true_eq] at h'
  exact h'.1
/-- a.startswith(b) -/
def rStarts : V → List V → Hp → VK → Prop := fun x xs H Q => ∃ a b, x = .str a ∧ xs = [.str b] ∧ Q (.bl (Txt.startswith a b)) H
/-- a turn of a comprehension over zip: the lists so far -/
theorem zip_snoc {α β γ : Type} (g : α → β → γ) {zs : List α} {ws : List β} {i : Nat} {z : α} {w : β} (hz : zs[i]? = some z) (hw : ws[i]? = some w) : List.zipWith g (zs.take i) (ws.take i) ++ [g z w] = List.zipWith g (zs.take (i + 1)) (ws.take (i + 1)) := by
  have lz : i < zs.length := (List.getElem?_eq_some_iff.mp hz).1
  have lw : i < ws.length := (List.getElem?_eq_some_iff.mp hw).1
  rw [List.take_add_one, List.take_add_one, hz, hw, List.zipWith_append (by rw [List.length_take, List.length_take]; omega)]
  rfl
end VQ
namespace VQ
open PySem L2 LamX
section
variable {P : Program} {w : World} {K : PySem.W.Frag} {mg : Str → Option Value} {base : Heap}
/-- a new tuple whose items are drawn -/
def spTupDraw (ok : V → Prop) : Sp := fun vs H Q _ => ∃ (b : Addr) (n : Nat), vs = [.ref b, .int (n : Int)] ∧ Bag H b ∧ n ≤ 5 ∧ ∀ (a : Addr) (xs : List V) (H' : Hp), xs.length = n → (∀ x ∈ xs, ok x) → H a = none → H' a = some (.tup xs) → Bag H' b → Keep b H H' → Q (.ref a) H'
/-- is a text of begs -/
def IsBeg (x : V) : Prop := ∃ z, x = .str z ∧ z ∈ begs
end
end VQ
namespace VQ
open PySem L2 LamX
/-- a tuple of begs -/
def BoxAt (H : Hp) (a : Addr) (zs : List Str) : Prop := H a = some (.tup (zs.map V.str)) ∧ (∀ z ∈ zs, z ∈ begs) ∧ zs.length ≤ 5
theorem begs_of : ∀ {xs : List V}, (∀ x ∈ xs, IsBeg x) → ∃ zs : List Str, xs = zs.map V.str ∧ ∀ z ∈ zs, z ∈ begs
  | [], _ => ⟨[], rfl, fun z m => by cases m⟩
  | x :: xs, h => by
    obtain ⟨z, rfl, hz⟩ := h x List.mem_cons_self
    obtain ⟨zs, rfl, a⟩ := begs_of (xs := xs) fun y m => h y (List.mem_cons_of_mem _ m)
    refine ⟨z :: zs, rfl, fun u m => ?_⟩
    rcases List.mem_cons.mp m with rfl | m
    · exact hz
    · exact a u m
section
variable {K : PySem.W.Frag} {H H' : Hp}
theorem BoxAt.same {a : Addr} {zs : List Str} (h : BoxAt H a zs) (s : Same H H') : BoxAt H' a zs := ⟨s _ _ h.1, h.2⟩
theorem BoxAt.keep {a b : Addr} {zs : List Str} (h : BoxAt H a zs) (B : Bag H b) (k : Keep b H H') : BoxAt H' a zs := ⟨k.tup B h.1, h.2⟩
theorem BoxAt.extN {a : Addr} {zs : List Str} (h : BoxAt H a zs) (e : ExtN H H') : BoxAt H' a zs := ⟨e _ _ h.1 (fun ps z => by cases z), h.2⟩
theorem BoxAt.thing {a : Addr} {zs : List Str} (h : BoxAt H a zs) : Thing K H (.ref a) (some (zs.map V.str)) := by
  refine .tup h.1 (fun x m => ?_) (by rw [List.length_map]; exact Nat.le_trans h.2.2 (by decide))
  obtain ⟨z, mz, rfl⟩ := List.mem_map.mp m
  exact Part.str z (Nat.le_trans (begs_len z (h.2.1 z mz)) (by decide))
theorem BoxAt.is {a : Addr} {zs : List Str} (h : BoxAt H a zs) (h1 : 1 ≤ zs.length) : IsBoxS zs := ⟨fun z m => begs_yes z (h.2.1 z m), h1, h.2.2⟩
theorem strs_inj : ∀ {zs ws : List Str}, zs.map V.str = ws.map V.str → zs = ws
  | [], [], _ => rfl
  | [], _ :: _, h => by cases h
  | _ :: _, [], h => by cases h
  | z :: zs, w :: ws, h => by
    rw [List.map_cons, List.map_cons] at h
    injection h with h1 h2
    injection h1 with h1
    rw [h1, strs_inj h2]
/-! ### likeness -/
inductive Alikes (H : Hp) (n : Nat) : List V → List V → Prop
  | nil : Alikes H n [] []
  | cons {x y : V} {xs ys : List V} (h : Alike H n x y) (t : Alikes H n xs ys) : Alikes H n (x :: xs) (y :: ys)
theorem alike_strs {n : Nat} {a b : Addr} {us : List Str} (ha : H a = some (.tup (us.map V.str))) (hb : H b = some (.tup (us.map V.str))) (hl : us.length ≤ 1000) : Alike H (n + 1) (.ref a) (.ref b) := by
  refine .tup ha hb rfl (by rw [List.length_map]; exact hl) fun i x y hx hy => ?_
  rw [hx] at hy
  cases hy
  obtain ⟨z, _, rfl⟩ := map_get hx
  exact .str n z
theorem alike_list {n : Nat} {a b : Addr} {xs ys : List V} (ha : H a = some (.lst xs)) (hb : H b = some (.lst ys)) (hl : ys.length ≤ 1000) (h : Alikes H n xs ys) : Alike H (n + 1) (.ref a) (.ref b) := by
  have key : ∀ {xs ys : List V}, Alikes H n xs ys → xs.length = ys.length ∧ ∀ (i : Nat) (x y : V), xs[i]? = some x → ys[i]? = some y → Alike H n x y := by
    intro xs ys h
    induction h with
    | nil => exact ⟨rfl, fun i x y hx => by cases hx⟩
    | cons r _ ih =>
      refine ⟨by rw [List.length_cons, List.length_cons, ih.1], fun i x y hx hy => ?_⟩
      cases i with
      | zero =>
        cases hx
        cases hy
        exact r
      | succ i => exact ih.2 i x y hx hy
  obtain ⟨e, g⟩ := key h
  exact .lst ha hb e hl g
/-! ### a tuple from a place on -/
theorem cut_from (xs : List V) {k : Nat} (h : k ≤ xs.length) : cutV xs (some (k : Int)) none = xs.drop k := by
  unfold cutV
  rw [HT.sIx_nat, HT.sIx_none, Nat.min_eq_left h]
  exact List.take_of_length_le (by rw [List.length_drop]; omega)
theorem from_part {n k : Nat} (h1 : 1 ≤ k) (h2 : k ≤ n) : ¬ (HT.sIx n 0 (some (k : Int)) = 0 ∧ HT.sIx n n none = n) := fun z => by
  rw [HT.sIx_nat, Nat.min_eq_left h2] at z
  omega
end
end VQ
namespace VQ
open PySem L2 LamX
/-! ### things that are neither boxes nor points -/
/-- what a plain thing's kind lives on -/
def Held (H H' : Hp) : Prop := ∀ a o, H a = some o → (∀ ps, o ≠ .tbl ps) → H' a = some o ∨ ∃ xs ys, o = .lst xs ∧ H' a = some (.lst ys)
theorem Same.held {H H' : Hp} (s : Same H H') : Held H H' := fun a o h _ => .inl (s a o h)
theorem ExtN.held {H H' : Hp} (s : ExtN H H') : Held H H' := fun a o h n => .inl (s a o h n)
theorem Keep.held {b : Addr} {H H' : Hp} (k : Keep b H H') (B : Bag H b) (B' : Bag H' b) : Held H H' := fun a o h _ => by
  by_cases e : a = b
  · obtain ⟨l, ns, i, r, x, n, nl, h1, _⟩ := B
    obtain ⟨l', ns', i', r', x', n', nl', g1, _⟩ := B'
    rw [e, h1] at h
    exact .inr ⟨_, _, (Option.some.inj h).symm, by rw [e]; exact g1⟩
  · exact .inl (k.1 a o e h)
section
variable {P : Program} {w : World} {K : PySem.W.Frag} {mg : Str → Option Value} {base : Heap}
theorem TyX.basic_held {H H' : Hp} {x : V} {t : String} (s : Held H H') (ty : TyX K H x (.type t)) (m : t ∈ basics) : TyX K H' x (.type t) := by
  generalize e : Value.type t = tv at ty
  cases ty with
  | base b =>
    cases b with
    | non => exact .base .non
    | bl y => exact .base (.bl y)
    | int i => exact .base (.int i)
    | str y => exact .base (.str y)
    | flt y => exact .base (.flt y)
    | lst q =>
      rcases s _ _ q (fun ps z => by cases z) with q' | ⟨_, _, _, q'⟩
      · exact .base (.lst q')
      · exact .base (.lst q')
    | frz q =>
      rcases s _ _ q (fun ps z => by cases z) with q' | ⟨_, _, z, _⟩
      · exact .base (.frz q')
      · cases z
    | tup q =>
      rcases s _ _ q (fun ps z => by cases z) with q' | ⟨_, _, z, _⟩
      · exact .base (.tup q')
      · cases z
    | dK q => cases e; exact absurd m (by decide)
    | dT q => cases e; exact absurd m (by decide)
    | ins _ _ _ _ _ _ => cases e
  | byt y => exact .byt y
  | set q => cases e; exact absurd m (by decide)
  | kList q c => exact .kList q c
  | kTuple q c => exact .kTuple q c
  | kDict q c => exact .kDict q c
  | fTuple q =>
    rcases s _ _ q (fun ps z => by cases z) with q' | ⟨_, _, z, _⟩
    · exact .fTuple q'
    · cases z
  | fDict q => cases e; exact absurd m (by decide)
theorem Part.held {H H' : Hp} {x : V} (s : Held H H') (h : Part K H x) : Part K H' x := by
  obtain ⟨t, a, b, c⟩ := h
  exact ⟨t, TyX.basic_held s a b, b, c⟩
theorem Thing.held {H H' : Hp} {x : V} {o : Option (List V)} (s : Held H H') (h : Thing K H x o) : Thing K H' x o := by
  cases h with
  | tup h hp hl =>
    rcases s _ _ h (fun ps z => by cases z) with q' | ⟨_, _, z, _⟩
    · exact .tup q' (fun x m => Part.held s (hp x m)) hl
    · cases z
  | oth ty m nt => exact .oth (TyX.basic_held s ty m) m nt
/-- no box and no point -/
def Bad (K : PySem.W.Frag) (H : Hp) (v : V) : Prop := ∃ o, Thing K H v o ∧ allO begB o = false ∧ allO worthB o = false
theorem Bad.held {H H' : Hp} {x : V} (s : Held H H') (h : Bad K H x) : Bad K H' x := by
  obtain ⟨o, a, b, c⟩ := h
  exact ⟨o, a.held s, b, c⟩
theorem Bad.same {H H' : Hp} {x : V} (s : Same H H') (h : Bad K H x) : Bad K H' x := h.held (Same.held s)
theorem Bad.oth {H : Hp} {x : V} {t : String} (ty : TyX K H x (.type t)) (m : t ∈ basics) (nt : t ≠ "tuple") : Bad K H x := ⟨none, .oth ty m nt, rfl, rfl⟩
theorem Bad.tup {H : Hp} {a : Addr} {xs : List V} (h : H a = some (.tup xs)) (hp : ∀ x ∈ xs, Part K H x) (hl : xs.length ≤ 1000) (n1 : allO begB (some xs) = false) (n2 : allO worthB (some xs) = false) : Bad K H (.ref a) := ⟨_, .tup h hp hl, n1, n2⟩
/-- as many times the same -/
theorem allO_rep {p : V → Bool} {x : V} {n : Nat} (h : p x = false) (hn : 1 ≤ n) : allO p (some (List.replicate n x)) = false := by
  show (_ && (List.replicate n x).all p) = false
  obtain ⟨m, rfl⟩ : ∃ m, n = m + 1 := ⟨n - 1, by omega⟩
  rw [List.replicate_succ, List.all_cons, h, Bool.false_and, Bool.and_false]
theorem allO_len {p : V → Bool} {xs : List V} (h : ¬ (1 ≤ xs.length ∧ xs.length ≤ 5)) : allO p (some xs) = false := by
  show ((decide (1 ≤ xs.length) && decide (xs.length ≤ 5)) && _) = false
  by_cases q : 1 ≤ xs.length
  · rw [decide_eq_false (show ¬ xs.length ≤ 5 from fun z => h ⟨q, z⟩), Bool.and_false, Bool.false_and]
  · rw [decide_eq_false q, Bool.false_and, Bool.false_and]
theorem Bad.rep {H : Hp} {a : Addr} {x : V} {n : Nat} (h : H a = some (.tup (List.replicate n x))) (hp : Part K H x) (h1 : 1 ≤ n) (h2 : n ≤ 1000) (n1 : begB x = false) (n2 : worthB x = false) : Bad K H (.ref a) :=
  .tup h (fun y m => by rw [List.eq_of_mem_replicate m]; exact hp) (by rw [List.length_replicate]; exact h2) (allO_rep n1 h1) (allO_rep n2 h1)
theorem flat_one {n : Nat} {x : V} : (List.replicate n [x]).flatten = List.replicate n x := by
  induction n with
  | zero => rfl
  | succ n ih => rw [List.replicate_succ, List.flatten_cons, ih, List.replicate_succ]; rfl
/-- (x,) * n -/
theorem rd_times {x : V} {n : Nat} {Q : VK} {H : Hp} {σ : L2.St} {i : Nat} (hσ : σ[i]? = some (some (.int (n : Int)))) (n1 : 1 ≤ n) (n2 : n ≤ 1000)
    (k : ∀ (p : Addr) (H' : Hp), Same H H' → H p = none → H' p = some (.tup (List.replicate n x)) → Q (.ref p) H') : tOp (rTimes K) (tTup (tCons (tC x) tNil)) (tVar i) σ H Q := by
  refine ⟨by show 1 ≤ sizeLine; decide, fun p hp => ⟨_, hσ, p, n, [x], rfl, rfl, SqT.of upd_same, by simp, by omega, by omega, by show 1 ≤ 1000; decide, fun e => ?_, fun _ q hq => ?_⟩⟩
  · have e' : n = 1 := by omega
    subst e'
    exact k p _ (same_new hp) hp upd_same
  · have s2 := (same_new (o := .tup [x]) hp).trans (same_new (o := .tup (List.replicate (n : Int).toNat [x]).flatten) hq)
    refine k q _ s2 ((same_new (o := .tup [x]) hp).free hq) ?_
    rw [upd_same, flat_one]
    rfl
theorem rd_six {x : V} {Q : VK} {H : Hp} {σ : L2.St} (k : ∀ (p : Addr) (H' : Hp), Same H H' → H p = none → H' p = some (.tup (List.replicate 6 x)) → Q (.ref p) H') : tOp (rTimes K) (tTup (tCons (tC x) tNil)) (tC (.int 6)) σ H Q := by
  obtain ⟨a, c⟩ := rd_times (K := K) (x := x) (σ := [some (.int ((6 : Nat) : Int))]) (i := 0) rfl (by decide) (by decide) k
  refine ⟨a, fun p hp => ?_⟩
  obtain ⟨v, e, r⟩ := c p hp
  cases e
  exact r
def spOddThing (K : PySem.W.Frag) : Sp := fun vs H Q _ => ∃ (b : Addr) (n : Nat), vs = [.ref b, .int (n : Int)] ∧ Bag H b ∧ 1 ≤ n ∧ n ≤ 5 ∧ ∀ (v : V) (H' : Hp), Bad K H' v → Bag H' b → Keep b H H' → Q v H'
end
end VQ
namespace VQ
open PySem L2 LamX
/-- a worth -/
def IsW (x : V) : Prop := ∃ n : Nat, x = .int (n : Int) ∧ n < 32
abbrev numV (n : Nat) : V := .int (n : Int)
theorem worths_of : ∀ {xs : List V}, (∀ x ∈ xs, IsW x) → ∃ ns : List Nat, xs = ns.map numV ∧ ∀ n ∈ ns, n < 32
  | [], _ => ⟨[], rfl, fun z m => by cases m⟩
  | x :: xs, h => by
    obtain ⟨n, rfl, hn⟩ := h x List.mem_cons_self
    obtain ⟨ns, rfl, a⟩ := worths_of (xs := xs) fun y m => h y (List.mem_cons_of_mem _ m)
    refine ⟨n :: ns, rfl, fun u m => ?_⟩
    rcases List.mem_cons.mp m with rfl | m
    · exact hn
    · exact a u m
theorem num_get {ns : List Nat} {i : Nat} {x : V} (h : (ns.map numV)[i]? = some x) : ∃ n, ns[i]? = some n ∧ x = numV n := by
  rw [List.getElem?_map] at h
  cases e : ns[i]? with
  | none => rw [e] at h; cases h
  | some z =>
    rw [e] at h
    exact ⟨z, rfl, (Option.some.inj h).symm⟩
end VQ
namespace VQ
open PySem L2 LamX
section
variable {P : Program} {w : World} {K : PySem.W.Frag} {mg : Str → Option Value} {base : Heap}
/-- the box of a point, by the law -/
def spBoxOf : Sp := fun vs H Q _ => ∃ (a : Addr) (ns : List Nat), vs = [.ref a] ∧ H a = some (.tup (ns.map numV)) ∧ ns.length ≤ 1000 ∧ ∀ (p : Addr) (H' : Hp), H p = none → Same H H' → H' p = some (.tup ((ns.map fig).map V.str)) → Q (.ref p) H'
end
end VQ
namespace VQ
open PySem L2 LamX
/-! ### the shortest beginning -/
/-- none of the worths lies under the first k signs of n -/
def sfree (n : Nat) (ms : List Nat) (k : Nat) : Bool := !(ms.any fun m => beginsB (fig m) (tk (fig n) k))
/-- the least one of 0 .. 5 of which f is true, from above -/
def dueF (f : Nat → Bool) (v : Nat → V) : Nat → V
  | 0 => .non
  | i + 1 => if f (5 - i) = true then v (5 - i) else dueF f v i
theorem due_first {f : Nat → Bool} {v : Nat → V} {i : Nat} (no : ∀ j, j < i → f j = false) (yes : f i = true) (h : i < 6) : dueF f v 6 = v i := by
  have e : dueF f v 6 = if f 0 = true then v 0 else if f 1 = true then v 1 else if f 2 = true then v 2 else if f 3 = true then v 3 else if f 4 = true then v 4 else if f 5 = true then v 5 else .non := rfl
  rw [e]
  have six : i = 0 ∨ i = 1 ∨ i = 2 ∨ i = 3 ∨ i = 4 ∨ i = 5 := by omega
  rcases six with rfl | rfl | rfl | rfl | rfl | rfl
  · rw [yes]; rfl
  · rw [no 0 (by decide), yes]; rfl
  · rw [no 0 (by decide), no 1 (by decide), yes]; rfl
  · rw [no 0 (by decide), no 1 (by decide), no 2 (by decide), yes]; rfl
  · rw [no 0 (by decide), no 1 (by decide), no 2 (by decide), no 3 (by decide), yes]; rfl
  · rw [no 0 (by decide), no 1 (by decide), no 2 (by decide), no 3 (by decide), no 4 (by decide), yes]; rfl
theorem due_none {f : Nat → Bool} {v : Nat → V} (no : ∀ j, j < 6 → f j = false) : dueF f v 6 = .non := by
  have e : dueF f v 6 = if f 0 = true then v 0 else if f 1 = true then v 1 else if f 2 = true then v 2 else if f 3 = true then v 3 else if f 4 = true then v 4 else if f 5 = true then v 5 else .non := rfl
  rw [e, no 0 (by decide), no 1 (by decide), no 2 (by decide), no 3 (by decide), no 4 (by decide), no 5 (by decide)]
  rfl
def shortV (n : Nat) (ms : List Nat) : V := dueF (sfree n ms) (fun k => .str (tk (fig n) k)) 6
def NoW (y : Int) : Prop := ¬ (0 ≤ y ∧ y < 32)
theorem worths_ints : ∀ {ys : List Int}, (∀ y ∈ ys, 0 ≤ y ∧ y < 32) → ∃ ms : List Nat, ys = ms.map Int.ofNat ∧ ∀ m ∈ ms, m < 32
  | [], _ => ⟨[], rfl, fun m h => by cases h⟩
  | y :: ys, h => by
    obtain ⟨a, b⟩ := h y List.mem_cons_self
    obtain ⟨n, rfl⟩ := Int.eq_ofNat_of_zero_le a
    obtain ⟨ms, rfl, c⟩ := worths_ints (ys := ys) fun x m => h x (List.mem_cons_of_mem _ m)
    refine ⟨n :: ms, rfl, fun x m => ?_⟩
    rcases List.mem_cons.mp m with rfl | m
    · omega
    · exact c x m
section
variable {P : Program} {w : World} {K : PySem.W.Frag} {mg : Str → Option Value} {base : Heap}
def spShortest (K : PySem.W.Frag) (CW : Addr) : Sp := fun vs H Q E => ∃ (x : Int) (l : Addr) (ys : List Int), vs = [.int x, .ref l] ∧ H l = some (.lst (ys.map V.int)) ∧ ys.length ≤ 1000 ∧
  (∀ (n : Nat) (ms : List Nat), x = (n : Int) → n < 32 → ys = ms.map Int.ofNat → (∀ m ∈ ms, m < 32) → ∀ H', Same H H' → Q (shortV n ms) H') ∧
  ((NoW x ∨ ∃ y ∈ ys, NoW y) → ∀ H' d, Same H H' → H' d = none → E (.ref CW) (some d) (upd H' d (calledAs "BadWorth")))
abbrev nShort : List Str := ["worth", "worths", "own", "others", "count", "beginning", "other"]
abbrev rStartsT : V → List V → Hp → VK → Prop := fun x xs H Q => ∃ a b, x = .str a ∧ xs = [.str b] ∧ Q (.bl (Txt.startswith a b)) H
theorem noW_worthB {y : Int} (h : worthB (.int y) = false) : NoW y := fun ⟨a, b⟩ => by
  have e : worthB (.int y) = true := by
    show (decide (0 ≤ y) && decide (y < 32)) = true
    rw [decide_eq_true a, decide_eq_true b]
    rfl
  rw [h] at e
  cases e
end
end VQ
namespace VQ
open PySem L2 LamX
/-! ### rows: a list of tuples of numbers -/
inductive Rows (H : Hp) : List V → List (List Nat) → Prop
  | nil : Rows H [] []
  | cons {a : Addr} {r : List Nat} {vs : List V} {rs : List (List Nat)} (h : H a = some (.tup (r.map numV))) (t : Rows H vs rs) : Rows H (.ref a :: vs) (r :: rs)
section
variable {K : PySem.W.Frag} {H H' : Hp}
theorem Rows.same (s : Same H H') : ∀ {vs : List V} {rs : List (List Nat)}, Rows H vs rs → Rows H' vs rs
  | _, _, .nil => .nil
  | _, _, .cons h t => .cons (s _ _ h) (Rows.same s t)
theorem Rows.keep {b : Addr} (B : Bag H b) (k : Keep b H H') : ∀ {vs : List V} {rs : List (List Nat)}, Rows H vs rs → Rows H' vs rs
  | _, _, .nil => .nil
  | _, _, .cons h t => .cons (k.tup B h) (Rows.keep B k t)
theorem Rows.len : ∀ {vs : List V} {rs : List (List Nat)}, Rows H vs rs → vs.length = rs.length
  | _, _, .nil => rfl
  | _, _, .cons _ t => by rw [List.length_cons, List.length_cons, Rows.len t]
theorem Rows.get {vs : List V} {rs : List (List Nat)} (h : Rows H vs rs) : ∀ {i : Nat} {v : V}, vs[i]? = some v → ∃ a r, v = .ref a ∧ rs[i]? = some r ∧ H a = some (.tup (r.map numV)) := by
  induction h with
  | nil => exact fun h => by cases h
  | cons h t ih =>
    intro i v e
    cases i with
    | zero =>
      cases e
      exact ⟨_, _, rfl, rfl, h⟩
    | succ i => exact ih e
theorem Rows.mem {vs : List V} {rs : List (List Nat)} (h : Rows H vs rs) {v : V} (m : v ∈ vs) : ∃ a r, v = .ref a ∧ r ∈ rs ∧ H a = some (.tup (r.map numV)) := by
  obtain ⟨i, e⟩ := List.getElem?_of_mem m
  obtain ⟨a, r, e1, e2, e3⟩ := h.get e
  exact ⟨a, r, e1, List.mem_of_getElem? e2, e3⟩
theorem Rows.snoc {a : Addr} {r : List Nat} (ha : H a = some (.tup (r.map numV))) : ∀ {vs : List V} {rs : List (List Nat)}, Rows H vs rs → Rows H (vs ++ [.ref a]) (rs ++ [r])
  | _, _, .nil => .cons ha .nil
  | _, _, .cons h t => .cons h (Rows.snoc ha t)
theorem Rows.perm {ws vs : List V} (p : ws.Perm vs) : ∀ {rs : List (List Nat)}, Rows H ws rs → ∃ ss : List (List Nat), rs.Perm ss ∧ Rows H vs ss := by
  induction p with
  | nil =>
    intro rs h
    exact ⟨rs, .refl _, h⟩
  | cons x _ ih =>
    intro rs h
    cases h with
    | cons h t =>
      obtain ⟨ss, p1, r1⟩ := ih t
      exact ⟨_ :: ss, p1.cons _, .cons h r1⟩
  | swap x y l =>
    intro rs h
    cases h with
    | cons h t =>
      cases t with
      | cons h2 t2 => exact ⟨_, .swap _ _ _, .cons h2 (.cons h t2)⟩
  | trans _ _ ih1 ih2 =>
    intro rs h
    obtain ⟨ss, p1, r1⟩ := ih1 h
    obtain ⟨ts, p2, r2⟩ := ih2 r1
    exact ⟨ts, p1.trans p2, r2⟩
/-! ### rows compared -/
abbrev numD (n : Nat) : PyData := .int (n : Int)
abbrev rowD (r : List Nat) : PyData := .tuple (r.map numD)
theorem dp_nums : ∀ r : List Nat, DpAll K H (r.map numV) (r.map numD)
  | [] => .nil
  | n :: r => .cons (.int _) (dp_nums r)
theorem Rows.dp : ∀ {vs : List V} {rs : List (List Nat)}, Rows H vs rs → DpAll K H vs (rs.map rowD)
  | _, _, .nil => .nil
  | _, _, .cons h t => .cons (.tup (SqT.of h) (dp_nums _)) (Rows.dp t)
theorem lay_nums (r : List Nat) : ∀ d ∈ r.map numD, Lay 0 d := fun d m => by
  obtain ⟨k, _, rfl⟩ := List.mem_map.mp m
  exact .int _ _
theorem lay_row (r : List Nat) : Lay 1 (rowD r) := .tuple (lay_nums r)
theorem lay_rows (rs : List (List Nat)) : Lay 2 (.list (rs.map rowD)) := .list fun d m => by
  obtain ⟨k, _, rfl⟩ := List.mem_map.mp m
  exact lay_row k
theorem eqv_nums : ∀ r q : List Nat, PyData.eqvAll (r.map numD) (q.map numD) = decide (r = q)
  | [], [] => rfl
  | [], _ :: _ => rfl
  | _ :: _, [] => rfl
  | n :: r, m :: q => by
    have ih := eqv_nums r q
    show (((n : Int) == (m : Int)) && PyData.eqvAll (r.map numD) (q.map numD)) = _
    rw [ih]
    by_cases e : n = m
    · subst e
      rw [beq_self_eq_true, Bool.true_and]
      by_cases g : r = q
      · rw [decide_eq_true g, decide_eq_true (by rw [g])]
      · rw [decide_eq_false g, decide_eq_false (fun z => g (List.cons.inj z).2)]
    · rw [show ((n : Int) == (m : Int)) = false from beq_eq_false_iff_ne.mpr (fun z => e (Int.ofNat.inj z)), Bool.false_and, decide_eq_false (fun z => e (List.cons.inj z).1)]
theorem eqv_row (r q : List Nat) : PyData.eqv (rowD r) (rowD q) = decide (r = q) := eqv_nums r q
theorem eqv_rows_any (rs : List (List Nat)) (q : List Nat) : ((rs.map rowD).any fun z => PyData.eqv z (rowD q)) = decide (q ∈ rs) := by
  rw [Bool.eq_iff_iff, List.any_eq_true, decide_eq_true_eq]
  constructor
  · rintro ⟨d, m, e⟩
    obtain ⟨r, mr, rfl⟩ := List.mem_map.mp m
    rw [eqv_row, decide_eq_true_eq] at e
    rw [← e]
    exact mr
  · intro m
    exact ⟨rowD q, List.mem_map.mpr ⟨q, m, rfl⟩, by rw [eqv_row]; exact decide_eq_true rfl⟩
end
/-! ### gaps -/
/-- what hangs behind the first c things of a point -/
def hang (rs : List (List Nat)) (c : Nat) (pt : List Nat) : List Nat := (rs.filter fun r => decide (r.take c = pt.take c)).map fun r => r.getD c 0
theorem mem_hang {rs : List (List Nat)} {c : Nat} {pt : List Nat} {n : Nat} : n ∈ hang rs c pt ↔ ∃ r ∈ rs, r.take c = pt.take c ∧ r.getD c 0 = n := by
  unfold hang
  rw [List.mem_map]
  constructor
  · rintro ⟨r, m, e⟩
    obtain ⟨m1, m2⟩ := List.mem_filter.mp m
    exact ⟨r, m1, of_decide_eq_true m2, e⟩
  · rintro ⟨r, m, e1, e2⟩
    exact ⟨r, List.mem_filter.mpr ⟨m, decide_eq_true e1⟩, e2⟩
/-- the gap parts from the rows at place i, behind k signs -/
structure GapAt (rs : List (List Nat)) (pt : List Nat) (i k : Nat) : Prop where
  lt : i < pt.length
  before : ∀ j, j < i → pt.getD j 0 ∈ hang rs j pt
  few : k < 6
  yes : ∀ m ∈ hang rs i pt, beginsB (fig m) (tk (fig (pt.getD i 0)) k) = false
  no : ∀ j, j < k → ∃ m ∈ hang rs i pt, beginsB (fig m) (tk (fig (pt.getD i 0)) j) = true
def gapBox (pt : List Nat) (i k : Nat) : List Str := ((pt.take i).map fig ++ [tk (fig (pt.getD i 0)) k]) ++ List.replicate (pt.length - i - 1) ("" : Str)
theorem sfree_iff {n : Nat} {ms : List Nat} {k : Nat} : sfree n ms k = true ↔ ∀ m ∈ ms, beginsB (fig m) (tk (fig n) k) = false := by
  unfold sfree
  rw [Bool.not_eq_true', ← Bool.not_eq_true, List.any_eq_true]
  constructor
  · intro h m mm
    rw [← Bool.not_eq_true]
    exact fun e => h ⟨m, mm, e⟩
  · rintro h ⟨m, mm, e⟩
    rw [h m mm] at e
    cases e
theorem sfree_not {n : Nat} {ms : List Nat} {k : Nat} : sfree n ms k = false ↔ ∃ m ∈ ms, beginsB (fig m) (tk (fig n) k) = true := by
  unfold sfree
  rw [Bool.not_eq_false', List.any_eq_true]
theorem begins_tk (z : Str) {k : Nat} (h : k ≤ z.length) : beginsB z (tk z k) = true := by
  unfold beginsB
  rw [tk_len, Nat.min_eq_left h]
  exact decide_eq_true rfl
theorem own_begins (n : Nat) {k : Nat} (h : k < 6) : beginsB (fig n) (tk (fig n) k) = true := begins_tk _ (by rw [fig_len]; omega)
theorem GapAt.out {rs : List (List Nat)} {pt : List Nat} {i k : Nat} (g : GapAt rs pt i k) : pt.getD i 0 ∉ hang rs i pt := fun m => by
  have := g.yes _ m
  rw [own_begins _ g.few] at this
  cases this
theorem GapAt.one {rs : List (List Nat)} {pt : List Nat} {i k i' k' : Nat} (g : GapAt rs pt i k) (g' : GapAt rs pt i' k') : i = i' ∧ k = k' := by
  have e : i = i' := by
    rcases Nat.lt_trichotomy i i' with h | h | h
    · exact absurd (g'.before i h) g.out
    · exact h
    · exact absurd (g.before i' h) g'.out
  subst e
  refine ⟨rfl, ?_⟩
  rcases Nat.lt_trichotomy k k' with h | h | h
  · obtain ⟨m, mm, q⟩ := g'.no k h
    rw [g.yes m mm] at q
    cases q
  · exact h
  · obtain ⟨m, mm, q⟩ := g.no k' h
    rw [g'.yes m mm] at q
    cases q
theorem hang_perm {rs ss : List (List Nat)} (p : rs.Perm ss) {c : Nat} {pt : List Nat} {n : Nat} : n ∈ hang rs c pt ↔ n ∈ hang ss c pt := by
  rw [mem_hang, mem_hang]
  constructor
  · rintro ⟨r, m, q⟩
    exact ⟨r, p.mem_iff.mp m, q⟩
  · rintro ⟨r, m, q⟩
    exact ⟨r, p.mem_iff.mpr m, q⟩
theorem GapAt.perm {rs ss : List (List Nat)} (p : rs.Perm ss) {pt : List Nat} {i k : Nat} (g : GapAt rs pt i k) : GapAt ss pt i k :=
  ⟨g.lt, fun j h => (hang_perm p).mp (g.before j h), g.few, fun m h => g.yes m ((hang_perm p).mpr h), fun j h => let ⟨m, a, b⟩ := g.no j h; ⟨m, (hang_perm p).mp a, b⟩⟩
theorem hang_snoc {rs : List (List Nat)} {c j : Nat} {pt r : List Nat} (h : rs[j]? = some r) : hang (rs.take (j + 1)) c pt = hang (rs.take j) c pt ++ if r.take c = pt.take c then [r.getD c 0] else [] := by
  unfold hang
  rw [List.take_add_one, h, Option.toList_some, List.filter_append, List.map_append]
  congr 1
  by_cases e : r.take c = pt.take c
  · simp [e]
  · simp [e]
theorem hang_len (rs : List (List Nat)) (c : Nat) (pt : List Nat) : (hang rs c pt).length ≤ rs.length := by
  unfold hang
  rw [List.length_map]
  exact List.length_filter_le _ _
theorem nat_ints (ms : List Nat) : ms.map numV = (ms.map Int.ofNat).map V.int := by
  rw [List.map_map]
  rfl
theorem ints_nat : ∀ {ms ks : List Nat}, ms.map Int.ofNat = ks.map Int.ofNat → ms = ks
  | [], [], _ => rfl
  | [], _ :: _, h => by cases h
  | _ :: _, [], h => by cases h
  | m :: ms, k :: ks, h => by
    rw [List.map_cons, List.map_cons] at h
    injection h with h1 h2
    rw [Int.ofNat.inj h1, ints_nat h2]
theorem getD_of {α : Type} {l : List α} {i : Nat} {x d : α} (h : l[i]? = some x) : l.getD i d = x := by
  rw [List.getD_eq_getElem?_getD, h]
  rfl
theorem getD_get {α : Type} {l : List α} {i : Nat} {d : α} (h : i < l.length) : l[i]? = some (l.getD i d) := by
  rw [List.getD_eq_getElem?_getD, List.getElem?_eq_getElem h]
  rfl
end VQ
namespace VQ
open PySem L2 LamX
abbrev rLen (K : PySem.W.Frag) : List V → Hp → VK → Prop := fun xs H Q => ∃ p ys, xs = [.ref p] ∧ (SqL K H p ys ∨ SqT K H p ys) ∧ Q (.int ys.length) H
theorem erase_perm : ∀ {ls : List V} {j : Nat} {y : V}, ls[j]? = some y → (y :: ls.eraseIdx j).Perm ls
  | [], _, _, h => by cases h
  | x :: ls, 0, y, h => by
    cases h
    exact .refl _
  | x :: ls, j + 1, y, h => ((List.Perm.swap x y _)).trans ((erase_perm (ls := ls) h).cons x)
theorem Rows.moved {H H' : Hp} (s : ∀ (a : Addr) (xs : List V), H a = some (.tup xs) → H' a = some (.tup xs)) : ∀ {vs : List V} {rs : List (List Nat)}, Rows H vs rs → Rows H' vs rs
  | _, _, .nil => .nil
  | _, _, .cons h t => .cons (s _ _ h) (Rows.moved s t)
theorem nodup_snoc {α : Type} {l : List α} {x : α} (h : l.Nodup) (n : x ∉ l) : (l ++ [x]).Nodup := by
  rw [List.nodup_append]
  refine ⟨h, List.nodup_cons.mpr ⟨by simp, List.nodup_nil⟩, fun a ma b mb e => n ?_⟩
  rw [← List.mem_singleton.mp mb, ← e]
  exact ma
section
variable {P : Program} {w : World} {K : PySem.W.Frag} {mg : Str → Option Value} {base : Heap}
/-! ### a list in another order -/
def spMixed : Sp := fun vs H Q _ => ∃ (b p : Addr) (xs : List V), vs = [.ref b, .ref p] ∧ Bag H b ∧ p ≠ b ∧ H p = some (.lst xs) ∧ xs.length < 1000 ∧
  ∀ (q : Addr) (ys : List V) (H' : Hp), ys.Perm xs → H q = none → H' q = some (.lst ys) → Bag H' b → Keep b H H' → Q (.ref q) H'
abbrev nLawMixed : List Str := ["_law_bag_here", "_law_some", "_law_left", "_law_one"]
/-! ### rows drawn -/
def spRows : Sp := fun vs H Q _ => ∃ (b : Addr) (wd mo : Nat), vs = [.ref b, .int (wd : Int), .int (mo : Int)] ∧ Bag H b ∧ wd ≤ 5 ∧ mo ≤ 500 ∧
  ∀ (l : Addr) (us : List V) (rs : List (List Nat)) (H' : Hp), H l = none → H' l = some (.lst us) → Rows H' us rs → rs.length ≤ mo → (∀ r ∈ rs, r.length = wd ∧ ∀ n ∈ r, n < 32) → rs.Nodup → Bag H' b → Keep b H H' → Q (.ref l) H'
abbrev nLawRows : List Str := ["_law_bag_here", "_law_width", "_law_most", "_law_found", "_law_few", "_law_k", "_law_row", "_law_at"]
end
end VQ
namespace VQ
open PySem PySem.Calls PyProof.Rows L2 SlX
/-! ### ==, != , len and repr of own objects -/
/-- what stands on the right: an instance of the same class, None or a list -/
inductive Rgt (K : PySem.W.Frag) (H : Hp) (C : Addr) : V → Prop
  | own {b dy : Addr} {gs : List (Str × V)} (h : H b = some (.ins C dy gs)) : Rgt K H C (.ref b)
  | non (n : PySem.W.subIn K (.type "NoneType") (.ref C) = some false) : Rgt K H C .non
  | lst {b : Addr} {xs : List V} (h : H b = some (.lst xs)) (n : PySem.W.subIn K (.type "list") (.ref C) = some false) : Rgt K H C (.ref b)
section
variable {X : Cx} {pins : List (Addr × Obj)} {σ : L2.St} {H : Hp} {s : Shared} {C f : Addr} {fd : FuncData} {CX : CXT} {n : Nat} {sp : Sp} {E : XK} {ps : List Str}
theorem Rgt.looks {y : V} {u : Value} (I : Inv X pins σ H s) (r : Rgt X.K H C y) (ry : RelV y u) : ∃ tb, PySem.W.Looks (model X.prog X.w) s.heap (typeOf u) tb ∧ PySem.W.notFirst X.K C tb = true := by
  cases r with
  | own h =>
    cases ry
    obtain ⟨mB, J', _⟩ := ins_get I.hok h
    obtain ⟨od', J', _⟩ := J'.look
    exact ⟨_, J'.type, by simp [PySem.W.notFirst]⟩
  | non e =>
    cases ry
    exact ⟨.type "NoneType", PySem.W.Looks.of_pure rfl, by unfold PySem.W.notFirst; rw [e]; simp⟩
  | lst h e =>
    cases ry
    obtain ⟨_, its, k, r, h1⟩ := I.hok _ _ h
    refine ⟨.type "list", fun A Q E s' kp q => wpAny_typeOf_ref (kp _ _ h1) q, by unfold PySem.W.notFirst; rw [e]; simp⟩
def rOwnE (K : PySem.W.Frag) (C : Addr) (sp : Sp) (E : XK) : R2 := fun x y H Q => ∃ a dx fs, x = .ref a ∧ H a = some (.ins C dx fs) ∧ Rgt K H C y ∧ sp [x, y] H Q E
theorem op_ownE (F : FnOk X.prog X.w X.K X.mg X.base CX n f fd ps sp) (hs : PySem.W.findIn X.K (.ref C) "__eq__" = some (some (.ref f))) (hf : PySem.W.isFn X.K (.ref f) = true) (hb : Binds X.K fd ps []) (hr : Room n X.A) (hx : Passes CX X E) :
    OpR X (compareOp .Eq) (rOwnE X.K C sp E) := by
  intro pins s σ H x y v u Q I rx ry h
  obtain ⟨a, dx, fs, rfl, ha, rg, q⟩ := h
  cases (show v = Value.ref a from rx)
  obtain ⟨tb, lk, nf⟩ := rg.looks I ry
  obtain ⟨mA, J, _⟩ := ins_get I.hok ha
  obtain ⟨od, J, _⟩ := J.look
  obtain ⟨m, hF⟩ := I.fr
  show wpAny (model X.prog X.w) X.A (richCompare .Eq (.ref a) u) (EP X pins σ Q) X.xe s
  refine PySem.W.cmp_K (op := .Eq) (tb := tb) hr.units0 hF I.ok.mod.kin J lk nf hs hf ?_
  refine wpAny_mono (wpAny_call (run_fnR (us := [.ref a, u]) (vs := [.ref a, y]) (F.raw hb .nil) hr hx I (.cons rfl (.cons ry .nil)) q)) (fun w s' z => ?_) fun _ _ x => x
  obtain ⟨z', H', I', rz, qz⟩ := z
  exact cmpback rz ⟨z', H', I', rz, qz⟩
/-- len(x) -/
def rOwnL (C : Addr) (sp : Sp) (E : XK) : List V → Hp → VK → Prop := fun xs H Q => ∃ a dx fs, xs = [V.ref a] ∧ H a = some (.ins C dx fs) ∧ sp [.ref a] H (fun z H' => ∃ i : Nat, z = .int (i : Int) ∧ i < 2 ^ 62 ∧ Q z H') E
theorem cr_ownL (F : FnOk X.prog X.w X.K X.mg X.base CX n f fd ps sp) (hs : PySem.W.findIn X.K (.ref C) "__len__" = some (some (.ref f))) (hf : PySem.W.isFn X.K (.ref f) = true) (hb : Binds X.K fd ps []) (hr : Room (n + 1) X.A) (hx : Passes CX X E) :
    CallR X (.builtin "len") (rOwnL C sp E) := by
  intro pins s σ H xs us Q I r h
  obtain ⟨a, dx, fs, rfl, ha, q⟩ := h
  obtain ⟨u, rfl, ru⟩ := r.one
  cases (show u = Value.ref a from ru)
  obtain ⟨mA, J, _⟩ := ins_get I.hok ha
  obtain ⟨od, J, _⟩ := J.look
  obtain ⟨m, hF⟩ := I.fr
  refine PySem.W.len_K hF I.ok.mod.kin J hs hf (wpAny_mono (wpAny_call (run_at (us := [.ref a]) (ws := [.ref a]) (F.raw hb .nil) (Room.in1 hr) I.env0.in1 hx I (.cons rfl .nil) q)) (fun w s' z => ?_) fun _ _ x => x)
  obtain ⟨z', H', I', rz, i, ei, li, qz⟩ := z
  subst ei
  obtain ⟨t, e⟩ := (show ∃ t, w = Value.int (i : Int) t from rz)
  cases e
  exact ⟨⟨Int.natCast_nonneg _, by omega⟩, .int (i : Int), H', I'.tok _, ⟨_, rfl⟩, qz⟩
/-- repr(x) -/
def rOwnR (C : Addr) (sp : Sp) (E : XK) : List V → Hp → VK → Prop := fun xs H Q => ∃ a dx fs, xs = [V.ref a] ∧ H a = some (.ins C dx fs) ∧ sp [.ref a] H (fun z H' => ∃ x : Str, z = .str x ∧ Q z H') E
theorem cr_ownR (F : FnOk X.prog X.w X.K X.mg X.base CX n f fd ps sp) (hs : PySem.W.findIn X.K (.ref C) "__repr__" = some (some (.ref f))) (hf : PySem.W.isFn X.K (.ref f) = true) (hb : Binds X.K fd ps []) (hr : Room (n + 1) X.A) (hx : Passes CX X E) :
    CallR X (.builtin "repr") (rOwnR C sp E) := by
  intro pins s σ H xs us Q I r h
  obtain ⟨a, dx, fs, rfl, ha, q⟩ := h
  obtain ⟨u, rfl, ru⟩ := r.one
  cases (show u = Value.ref a from ru)
  obtain ⟨mA, J, _⟩ := ins_get I.hok ha
  obtain ⟨od, J, _⟩ := J.look
  obtain ⟨m, hF⟩ := I.fr
  have hr1 : Room n X.A.in1 := Room.in1 hr
  refine PySem.W.repr_K hr1.units0 hF I.ok.mod.kin J hs hf (wpAny_mono (wpAny_call (run_at (us := [.ref a]) (ws := [.ref a]) (F.raw hb .nil) hr1 I.env0.in1 hx I (.cons rfl .nil) q)) (fun w s' z => ?_) fun _ _ x => x)
  obtain ⟨z', H', I', rz, i, ei, qz⟩ := z
  subst ei
  obtain ⟨t, e⟩ := (show ∃ t, w = Value.str i t from rz)
  cases e
  exact ⟨.str i, H', I', ⟨_, rfl⟩, qz⟩
/-! != by the default: not == -/
theorem one_bind (self : Value) : bindSpecial (.builtin "object.__ne__") self = pure (.builtin "object.__ne__", [self]) :=
  (Slot.of (T := "object") (name := "__ne__") (owner := "object") (n := "__ne__") (by rw [typeLookup_type, builtinLookup_eq_fast]; kernel_rfl) (by decide +kernel) (by decide +kernel) (by decide +kernel)
    (.inl (by decide +kernel)) (by rw [isSubtype_type]; kernel_rfl)).bind self
theorem ifBound_B {K : PySem.W.Frag} {prog : Program} {w : World} {A : Around} {E : Value → Shared → Prop} {s : Shared} {x C : Addr} {ox : Obj} {od : Option Obj} {args : List Value} {Q : Option Value → Shared → Prop} (X : K.In s.heap) (I : PySem.W.InstAt s.heap x ox C od) (hs : PySem.W.findIn K (.ref C) "__ne__" = some (some (.builtin "object.__ne__")))
    (h : wpAny (model prog w) A (call (.builtin "object.__ne__") (.ref x :: args)) (fun v => Q (some v)) E s) : wpAny (model prog w) A (callSpecialIfBound? (.ref x) "__ne__" args) Q E s := by
  simp only [callSpecialIfBound?, bindSpecialIfBound?]
  refine wpAny_holding (wpAny_bind (wpAny_bind (wpAny_bind (I.type.here ((PySem.W.looks_findIn X hs).here ?_)))))
  refine wpAny_bind (wpAny_askSetting (wpAny_ite ?_))
  have fin : wpAny (model prog w) A (call (.builtin "object.__ne__") ([.ref x] ++ args) >>= fun v => pure (some v)) Q E s := wpAny_bind (wpAny_mono h (fun v s' h' => wpAny_pure h') fun _ _ h' => h')
  rw [one_bind]
  split
  · exact wpAny_bind (wpAny_pure (wpAny_pure (by exact fin)))
  · exact wpAny_tryCatch (wpAny_bind (wpAny_pure (wpAny_pure (by exact fin))))
theorem objNe_run {K : PySem.W.Frag} {prog : Program} {w : World} {A : Around} {E : Value → Shared → Prop} {s : Shared} {x C g : Addr} {ox : Obj} {od : Option Obj} {u : Value} {Q : Fin → Shared → Prop} (kin : K.In s.heap) (at_ : PySem.W.InstAt s.heap x ox C od) (units : A.units < cLine)
    (he : PySem.W.findIn K (.ref C) "__eq__" = some (some (.ref g))) (fn : PySem.W.isFn K (.ref g) = true) (run : wpAny (model prog w) A (call (.ref g) [.ref x, u]) (fun v s' => ∃ yes, v = .bool yes ∧ Q (.done (.ret (.bool (!yes)))) s') E s) :
    wpAny (model prog w) A (Builtin.«object.__ne__» ⟨[.ref x, u], []⟩) Q E s := by
  unfold Builtin.«object.__ne__»
  repeat (first
    | (with_reducible refine wpAny_cRoomFor units ?_)
    | (refine wpAny_bind (m := callSpecialIfBound? (.ref x) (Str.ofString "__eq__") [u]) (PySem.W.ifBound_K kin at_ he fn (wpAny_mono run (fun v s' got => by
        obtain ⟨yes, rfl, want⟩ := got
        repeat (first | exact want | exact wpAny_pure want | exact wpAny_truthy_bool want | (refine wpAny_bind (m := truthy (.bool _)) (wpAny_truthy_bool ?_)) | wp_step)) fun _ _ z => z)))
    | wp_step)
theorem tryNe_run {K : PySem.W.Frag} {prog : Program} {w : World} {A : Around} {E : Value → Shared → Prop} {s : Shared} {x C g : Addr} {ox : Obj} {od : Option Obj} {u : Value} {Q : Option Value → Shared → Prop} (kin : K.In s.heap) (at_ : PySem.W.InstAt s.heap x ox C od) (units : A.in1.units < cLine)
    (he : PySem.W.findIn K (.ref C) "__eq__" = some (some (.ref g))) (fn : PySem.W.isFn K (.ref g) = true) (hn : PySem.W.findIn K (.ref C) "__ne__" = some (some (.builtin "object.__ne__"))) (top : PySem.W.subIn K (.ref C) (.type "object") = some true)
    (run : wpAny (model prog w) A.in1 (call (.ref g) [.ref x, u]) (fun v s' => ∃ yes, v = .bool yes ∧ Q (some (.bool (!yes))) s') E s) :
    wpAny (model prog w) A (tryCompare (.ref x) "__ne__" u) Q E s := by
  unfold tryCompare
  refine wpAny_bind (ifBound_B kin at_ hn (wpAny_call (codeAny_call_builtin (by decide +kernel) PySem.F.cmpEntry_ne (@PySem.W.check_slot (model prog w) _ _ _ "object.__ne__" "object" "__ne__" (.ref x) [u] [] _ PySem.F.cmpKind_ne PySem.F.cmpSplit_ne (at_.type.andThen (PySem.W.looks_subIn kin top)) (PySem.F.cmpArgs_ne _ _) ?_))))
  refine objNe_run kin at_ units he fn (wpAny_mono run (fun v s' got => ?_) fun _ _ z => z)
  obtain ⟨yes, rfl, want⟩ := got
  exact ⟨yes, rfl, wpAny_pure want⟩
def rOwnN (K : PySem.W.Frag) (C : Addr) (sp : Sp) (E : XK) : R2 := fun x y H Q => ∃ a dx fs, x = .ref a ∧ H a = some (.ins C dx fs) ∧ Rgt K H C y ∧ sp [x, y] H (fun z H' => ∃ yes, z = .bl yes ∧ Q (.bl (!yes)) H') E
theorem op_ownN (F : FnOk X.prog X.w X.K X.mg X.base CX n f fd ps sp) (he : PySem.W.findIn X.K (.ref C) "__eq__" = some (some (.ref f))) (fn : PySem.W.isFn X.K (.ref f) = true) (hb : Binds X.K fd ps []) (hn : PySem.W.findIn X.K (.ref C) "__ne__" = some (some (.builtin "object.__ne__")))
    (top : PySem.W.subIn X.K (.ref C) (.type "object") = some true) (room : Room (n + 1) X.A) (hx : Passes CX X E) : OpR X (compareOp .NotEq) (rOwnN X.K C sp E) := by
  intro pins s σ H x y v u Q inv rx ry want
  obtain ⟨a, dx, fs, rfl, ha, rg, q⟩ := want
  cases (show v = Value.ref a from rx)
  obtain ⟨tb, lk, nf⟩ := rg.looks inv ry
  obtain ⟨mA, J0, _⟩ := ins_get inv.hok ha
  obtain ⟨od, J, _⟩ := J0.look
  have room1 : Room n X.A.in1 := Room.in1 room
  have one : wpAny (model X.prog X.w) X.A (tryCompare (.ref a) "__ne__" u) (fun r s' => ∃ z, r = some z ∧ EP X pins σ Q z s') X.xe s := by
    refine tryNe_run inv.kIn J room1.units0 he fn hn top (wpAny_mono (wpAny_call (run_at (us := [.ref a, u]) (ws := [.ref a, y]) (F.raw hb .nil) room1 inv.env0.in1 hx inv (.cons rfl (.cons ry .nil)) q)) (fun r s' got => ?_) fun _ _ z => z)
    obtain ⟨z', H', I', rz, yes, ez, qz⟩ := got
    subst ez
    cases (show r = Value.bool yes from rz)
    exact ⟨yes, rfl, _, rfl, .bl (!yes), H', I', rfl, qz⟩
  show wpAny (model X.prog X.w) X.A (richCompare .NotEq (.ref a) u) (EP X pins σ Q) X.xe s
  have fin : ∀ {k : Option Value → Sem Value}, (∀ z, k (some z) = pure z) → wpAny (model X.prog X.w) X.A (tryCompare (.ref a) "__ne__" u >>= k) (EP X pins σ Q) X.xe s := fun hk => by
    refine wpAny_bind (wpAny_mono one (fun r s' got => ?_) fun _ _ z => z)
    obtain ⟨z, rfl, ep⟩ := got
    rw [hk]
    exact wpAny_pure ep
  unfold richCompare
  simp only [oneThing_ref]
  refine wpAny_holding (wpAny_bind (wpAny_cRoomFor room.units0 (wpAny_bind (J.type.here (wpAny_bind (lk.here ?_))))))
  split
  · rename_i other
    have below : PySem.W.subIn X.K tb (.ref C) = some false := by
      rcases Bool.or_eq_true_iff.mp nf with z | z
      · rw [beq_iff_eq.mp z] at other
        simp at other
      · exact beq_iff_eq.mp z
    refine wpAny_bind ((PySem.W.looks_subIn inv.kIn below).here ?_)
    simp only [Bool.false_eq_true, if_false]
    exact fin fun _ => rfl
  · refine wpAny_bind (wpAny_pure ?_)
    simp only [Bool.false_eq_true, if_false]
    exact fin fun _ => rfl
end
end VQ
namespace VQ
open PySem PySem.Spec PyProof.Rows L2
/-! ### how many unlike texts a tuple has -/
/-- texts gone through: those met so far are in, and as many as were gone through just where they are unlike -/
def TextsIn (P : Program) (w : World) (h : Heap) (S : Addr) (zs : List PySem.Str) : Prop := ∃ c, c ≤ zs.length ∧ (c = zs.length ↔ zs.Nodup) ∧ h.SetOf (PySem.strKind P w) S (fun z => decide (z ∈ zs)) c
theorem snoc_nodup {α : Type} {l : List α} {x : α} : (l ++ [x]).Nodup ↔ l.Nodup ∧ x ∉ l := by
  rw [List.nodup_append]
  constructor
  · rintro ⟨h1, _, h3⟩
    exact ⟨h1, fun m => h3 x m x (List.mem_singleton.mpr rfl) rfl⟩
  · rintro ⟨h1, h2⟩
    refine ⟨h1, by simp, fun a ma b mb e => h2 ?_⟩
    rw [← List.mem_singleton.mp mb, ← e]
    exact ma
section
variable {P : Program} {w : World} {A : Around} {E : Value → Shared → Prop} {s : Shared}
theorem TextsIn.moved {h h' : Heap} {S : Addr} {zs : List PySem.Str} (t : TextsIn P w h S zs) (k : ∀ o, h.get? S = some o → h'.get? S = some o) : TextsIn P w h' S zs := by
  obtain ⟨c, lc, ec, o, es, ep, tb, ho, rest⟩ := t
  exact ⟨c, lc, ec, o, es, ep, tb, k _ ho, rest⟩
theorem texts_update {I : Addr} {fp wr : List Addr} {G : Array GenState → Array GenState → Prop} {n : Nat} {Pv : Nat → Value → Prop} {St : Nat → Shared → Prop} {R : Result → Shared → Prop}
    (W : WalksS P w A.in1 I fp wr G n Pv St) (S : Addr) (off : S ∉ fp) (zs : List PySem.Str) (en : n = zs.length) (few : zs.length + 1 < scanBound) (are : ∀ i v, Pv i v → ∃ z t, zs[i]? = some z ∧ v = .str z t) :
    ∀ (left i : Nat) (s : Shared), n - i = left → i ≤ n → St i s → TextsIn P w s.heap S (zs.take i) →
      (∀ s', Moved (S :: wr) G s s' → TextsIn P w s'.heap S zs → R (.ok (.ret .none)) s') →
      codeAny (model P w) A (.builtin "set.update.loop" ⟨[.ref S, .ref I], []⟩) R s := by
  have offw : S ∉ wr := fun m => off (W.sub _ m)
  have more : ∀ b ∈ wr, b ∈ S :: wr := fun b m => List.mem_cons_of_mem _ m
  intro left
  induction left with
  | zero =>
    intro i s el li st tx fin
    obtain rfl : i = n := by omega
    refine codeAny_builtin F.entry_set_update_loop ?_
    rw [Around.under_plainId F.plain_set_update_loop _]
    show wpAny _ A.in1 (pyNext (.ref I) >>= _) _ _ s
    refine wpAny_bind (W.done s _ _ st fun s1 mv => ?_)
    show wpAny _ A.in1 (ret Value.none) _ _ s1
    rw [List.take_of_length_le (show zs.length ≤ i by omega)] at tx
    exact wpAny_pure (fin s1 (mv.mono more) (tx.moved fun o e => mv.heap S o offw e))
  | succ left ih =>
    intro i s el li st tx fin
    have lt : i < n := by omega
    refine codeAny_builtin F.entry_set_update_loop ?_
    rw [Around.under_plainId F.plain_set_update_loop _]
    show wpAny _ A.in1 (pyNext (.ref I) >>= _) _ _ s
    refine wpAny_bind (W.item i s _ _ lt st fun v s1 pv st1 mv => ?_)
    obtain ⟨z, t, hz, rfl⟩ := are i v pv
    obtain ⟨c, lc, ec, so⟩ := tx.moved (h' := s1.heap) fun o e => mv.heap S o offw e
    have ln : (zs.take i).length = i := by rw [List.length_take]; omega
    rw [ln] at lc ec
    show wpAny _ A.in1 (holding [Value.str z t] (setAdd S (.str z t)) >>= _) _ _ s1
    refine wpAny_bind (wpAny_holding ?_)
    unfold setAdd
    refine wpAny_holding (wpAny_bind ((PySem.strKind P w).pyHash (k := z) (strKind_is _ _ _ _) ?_))
    refine wpAny_setAddHashed_of (knd := PySem.strKind P w) (s := { s1 with toks := s1.toks + 1 }) (strKind_is _ _ _ _) rfl so (by omega) fun h2 sb so2 => ?_
    have et : zs.take (i + 1) = zs.take i ++ [z] := by rw [List.take_add_one, hz]; rfl
    have ln1 : (zs.take (i + 1)).length = i + 1 := by rw [et, List.length_append, ln]; rfl
    have tx2 : TextsIn P w h2 S (zs.take (i + 1)) := by
      refine ⟨_, ?_, ?_, SetOf_congr so2 (fun k' => ?_) rfl⟩
      · rw [ln1]
        split <;> omega
      · rw [ln1, et, snoc_nodup, ← ec]
        by_cases q : z ∈ zs.take i
        · rw [if_pos (decide_eq_true q)]
          exact ⟨fun e => by omega, fun e => absurd q e.2⟩
        · rw [if_neg (by rw [decide_eq_false q]; exact Bool.false_ne_true)]
          exact ⟨fun e => ⟨by omega, q⟩, fun e => by omega⟩
      · rw [et]
        by_cases q : k' ∈ zs.take i <;> by_cases e : k' = z <;> simp [q, e]
    refine wpAny_pure ⟨plainId_quiet F.plain_set_update_loop _, ih (i + 1) _ (by omega) lt (W.frame _ s1 _ _ st1 (Nat.le_succ _) fun b mb o e => ?_) tx2 fun s2 mv2 tx3 => ?_⟩
    · rw [sb.2 b (fun q => off (by rw [← q]; exact mb))]
      exact e
    · refine fin s2 (Moved.trans W.gtrans ((mv.mono more).then_heap (Nat.le_succ _) fun b o nb e => ?_) mv2) tx3
      rw [sb.2 b (fun q => nb (by rw [q]; exact List.mem_cons_self))]
      exact e
/-- what stands when the tuple is gone through -/
abbrev TextsDone (P : Program) (w : World) (s : Shared) (zs : List PySem.Str) (s2 : Shared) : Prop := ∃ g tk, s2 = { s with heap := g, toks := tk } ∧ TextsIn P w g s.heap.objs.size zs ∧ ∀ b o, s.heap.get? b = some o → g.get? b = some o
theorem texts_filled {l : Addr} {its : Array Value} {zs : List PySem.Str} {Z : PySem.Fin → Shared → Prop} (calm : A.handled = none) (isl : s.heap.IsTuple l its) (are : StrsAre its.toList zs) (few : zs.length + 1 < scanBound)
    (fin : ∀ s2, TextsDone P w s zs s2 → Z (.done (.ret .none)) s2) :
    wpAny (model P w) A.in1 (Builtin.«set.__init__» ⟨[.ref s.heap.objs.size, .ref l], []⟩) Z E { s with heap := s.heap.push (bareSet w) } := by
  obtain ⟨⟨oc, od, ot, os'⟩, at_l, e1, nl, e2⟩ := isl
  dsimp only at e1 e2
  subst e1 e2
  have cnt : its.size = zs.length := by rw [← StrsAre.len_eq are, Array.length_toList]
  have here : (s.heap.push (bareSet w)).get? s.heap.objs.size = some (bareSet w) := Heap.get?_push_size _ rfl
  have tyS : Shared.TypeIs { s with heap := s.heap.push (bareSet w) } (.ref s.heap.objs.size) "set" := ⟨_, here, rfl⟩
  have at_l' := Heap.get?_push_of_some (bareSet w) at_l
  have isl' : (s.heap.push (bareSet w)).IsTuple l its := ⟨_, at_l', rfl, nl, rfl⟩
  have n1 := PySem.F.sub_tuple_set
  have n2 := PySem.F.sub_tuple_frozenset
  have n3 : (Value.type "tuple" == Value.type "dict") = false := by decide
  unfold Builtin.«set.__init__» noKeywords Builtin.Frozenset.updateFrom
  generalize itE : pyIter = it
  wp_walk
  subst itE
  refine wpAny_pyIter_tuple isl' ?_
  refine wpAny_bind (wpAny_runValue ?_)
  have lt_l : l < s.heap.objs.size := Heap.lt_size at_l
  have calm3 : A.in1.in1.handled = none := by simp [calm]
  have size1 : (s.heap.push (bareSet w)).objs.size = s.heap.objs.size + 1 := Heap.size_push ..
  have ne_l : l ≠ (s.heap.push (bareSet w)).objs.size := by
    rw [size1]
    exact Nat.ne_of_lt (Nat.lt_succ_of_lt lt_l)
  have out : s.heap.objs.size ∉ [(s.heap.push (bareSet w)).objs.size, l] := fun m => by
    rcases List.mem_cons.mp m with q | q
    · rw [size1] at q
      exact Nat.ne_of_lt (Nat.lt_succ_self _) q
    · exact Nat.ne_of_gt lt_l (List.mem_singleton.mp q)
  have vals : ∀ (i : Nat) (v : Value), its[i]? = some v → ∃ z t, zs[i]? = some z ∧ v = .str z t := fun i v hv => by
    have hi : i < zs.length := by
      rw [← cnt]
      exact (Array.getElem?_eq_some_iff.mp hv).1
    obtain ⟨t, rfl⟩ := SS.strs_at are i v (by rw [Array.getElem?_toList]; exact hv)
    refine ⟨zs.getD i Str.empty, t, ?_, rfl⟩
    rw [List.getD_eq_getElem?_getD, List.getElem?_eq_getElem hi]
    rfl
  refine texts_update ((Walks.tuple calm3 _ l ne_l its).toS) s.heap.objs.size out zs cnt few vals (its.size - 0) 0 _ (by omega) (Nat.zero_le _) ?walk ?fresh fun s2 mv R => ?_
  case walk => exact ⟨⟨_, Heap.get?_push_size _ rfl, rfl, rfl⟩, isl'.push _⟩
  case fresh =>
    refine ⟨0, Nat.zero_le _, ⟨fun _ => List.nodup_nil, fun _ => rfl⟩, _, #[], 0, _, Heap.get?_push_of_some _ here, ⟨rfl, rfl, rfl⟩, rfl, (fun e he => by simp at he), (fun k => by simp), (by decide), (by rfl), rfl⟩
  obtain ⟨g, ge, dr, tk, os2⟩ := s2
  have q1 : ge = s.gens := mv.gens
  have q2 : dr = s.drawn := mv.drawn
  have q3 : os2 = s.os := mv.os
  subst q1 q2 q3
  show wpAny _ _ _ _ _ _
  refine wpAny_pure ?_
  show wpAny _ _ (ret Value.none) _ _ _
  refine wpAny_pure (fin _ ⟨g, tk, rfl, R, fun b o z => mv.heap b o (fun m => ?_) (Heap.get?_push_of_some _ (Heap.get?_push_of_some _ z))⟩)
  have lb := Heap.lt_size z
  rcases List.mem_cons.mp m with q | q
  · exact Nat.ne_of_lt lb q
  · have q := List.mem_singleton.mp q
    rw [size1] at q
    exact Nat.ne_of_lt (Nat.lt_succ_of_lt lb) q
theorem texts_call {l : Addr} {its : Array Value} {zs : List PySem.Str} {Q : Value → Shared → Prop} (calm : A.handled = none) (isl : s.heap.IsTuple l its) (are : StrsAre its.toList zs) (few : zs.length + 1 < scanBound)
    (fin : ∀ s2, TextsDone P w s zs s2 → Q (.ref s.heap.objs.size) s2) : wpAny (model P w) A (call (.type "set") [.ref l]) Q E s := by
  obtain ⟨c0, tl, mro⟩ := F.called_set.mro
  have made := F.called_set.made
  have subt := F.called_set.sub
  have nty := F.called_set.notType
  have canc := F.called_set.canCreate
  have tyc := F.typeCall_set_1 (.ref l)
  have here : (s.heap.push (bareSet w)).get? s.heap.objs.size = some (bareSet w) := Heap.get?_push_size _ rfl
  have tyS : Shared.TypeIs { s with heap := s.heap.push (bareSet w) } (.ref s.heap.objs.size) "set" := ⟨_, here, rfl⟩
  have ini := F.called_set.init.lookup
  have inb := F.called_set.init.bind (.ref s.heap.objs.size)
  refine wpAny_call (codeAny_of_tree ?_)
  show wpAny _ _ (callAny (.type "set") _) _ _ _
  refine wpAny_pure ⟨Code.quiet_builtin _ (by decide +kernel), ?go⟩
  case go =>
  refine codeAny_builtin F.entry_type_call ?_
  rw [Around.under_plain (weight_type_call_type "set" [.ref l] []) rfl]
  repeat (any_goals (first | assumption | wp_step))
  refine codeAny_mono (code_set_led1 (w := w) (.ref l) (E := E) (Q₁ := fun v t => v = .ref s.heap.objs.size ∧ t = { s with heap := s.heap.push (bareSet w) }) ⟨rfl, rfl⟩) fun r t z => ?_
  match r, z with
  | .error e, z => exact z
  | .ok (.ret v), z =>
    obtain ⟨rfl, rfl⟩ := z
    repeat (any_goals (first | assumption | wp_step))
    refine codeAny_mono (codeAny_call_builtin (R := wants (fun v t => v = .none ∧ TextsDone P w s zs t) E) F.called_set.init.plain F.entry_set_init (check_set_init_1 tyS (texts_filled (A := A.in1) (by simp [calm]) isl are few fun s2 d => ⟨rfl, d⟩))) fun r t z => ?_
    match r, z with
    | .error e, z => exact z
    | .ok (.ret v), z =>
      obtain ⟨rfl, d⟩ := z
      obtain ⟨g, tk, rfl, d'⟩ := id d
      repeat (any_goals (first | assumption | wp_step))
      exact fin _ d
end
/-- len(set(t)), t a tuple of texts: some count, that of the tuple just where they are unlike -/
def tLenTexts (K : PySem.W.Frag) (ta : TE) : TE := fun σ H Q => ta σ H fun x H1 => ∃ (l : Addr) (zs : List PySem.Str), x = .ref l ∧ SqT K H1 l (zs.map V.str) ∧ zs.length < 1000 ∧ ∀ c : Nat, (c = zs.length ↔ zs.Nodup) → Q (.int c) H1
theorem pe_lenTexts {X : Cx} {a : Expr} {ta : TE} {p p2 q pos : Pos} (ha : PE X a ta) (hg : Gl X "len") (hm : X.mg "len" = none) (hg2 : Gl X "set") (hm2 : X.mg "set" = none) (hc : X.calm = true := by rfl)
    (na : starEach [a] X.env = (false, eval a X.env) :: starEach [] X.env := by rfl) : PE X (.Call (.Name "len" p) [.Call (.Name "set" p2) [a] [] q] [] pos) (tLenTexts X.K ta) := by
  refine ⟨fun pins s σ H Q I h => Call_ (ld_blt I hg hm boot_len (callWith_builtin1 (args_cons (Call_ (ld_blt I hg2 hm2 boot_set ?_)) rfl) rfl rfl))⟩
  refine callWith_type1 (args_cons (thn (ha.run pins s σ H _ I h) fun v s1 ⟨x, H1, I1, r1, q1⟩ => args_nil ?_) na) na rfl
  obtain ⟨l, zs, rfl, sq, few, k⟩ := q1
  cases r1
  obtain ⟨its, rv, pl, hz⟩ := I1.tuple sq
  refine texts_call (P := X.prog) (w := X.w) (I1.ok.hd hc) pl (by simpa using strsAre_of rv) (Nat.lt_of_lt_of_le (show zs.length + 1 < 1001 by omega) (by decide)) fun s2 d => args_nil ?_
  obtain ⟨g, tk, rfl, ⟨c, lc, ec, o, es, ep, tb, ho, hex, hd, _, _, _, hf, hn⟩, kk⟩ := d
  have I2 : Inv X pins σ H1 { s1 with heap := g, toks := tk } := I1.kept kk
  exact call_len_set ho hex hd hf (by rw [hn]; have : zs.length < 1000 := few; omega) ⟨.int (c : Nat), H1, I2.tok _, ⟨_, by rw [hn]⟩, k c ec⟩
end VQ
namespace VQ
open PySem PySem.Spec PyProof.Rows L2
/-! ### tuple.index, flat items -/
def rTIndex (K : PySem.W.Frag) : V → List V → Hp → VK → Prop := fun x xs H Q => ∃ (a : Addr) (ys : List V) (y : V) (j : Nat) (z : V), x = V.ref a ∧ xs = [y] ∧ SqT K H a ys ∧ flatV y = true ∧ ys.all flatV = true ∧ ys[j]? = some z ∧ eqV z y = true ∧
  (∀ (m : Nat) (z' : V), m < j → ys[m]? = some z' → eqV z' y = false) ∧ Q (.int (j : Nat)) H
theorem mt_tindex {X : Cx} : MtR X "tuple.index" (rTIndex X.K) := by
  intro pins s σ H x xs v us Q I rx rxs h
  obtain ⟨a, ys, y, j, z, rfl, rfl, hs, fy, fys, hz, hzj, hno, q⟩ := h
  cases rx
  cases rxs with
  | cons ry rt =>
    rename_i uy ut
    cases rt
    obtain ⟨its, rv, ⟨⟨cls, dd, data, sl⟩, ho, hc, n, hd⟩, hlen⟩ := I.tuple hs
    simp only at hc hd
    subst hc hd
    obtain ⟨u, hu, ru⟩ := rv.get hz
    obtain ⟨hjl, hje⟩ := List.getElem?_eq_some_iff.mp hu
    have hvl := rv.length
    have hj : j < its.toArray.size := by simpa using hjl
    refine call_meets PySem.F.slot_tuple_index ⟨_, ho, rfl⟩ PySem.F.entry_tuple_index (PySem.F.args_tuple_index_2 _ _)
      (TI.tuple_indexAt a its.toArray n dd sl uy (eqU y) j hj ?_ ?_) ⟨ho, fun u' hu' => mem_eqAt ry fy rv fys u' (by simpa using hu'), ?_⟩
    · have e1 : its.toArray[j] = u := by simpa using hje
      rw [e1, eqU_of ru (flat_at fys hz)]
      exact hzj
    · intro m hm hmj
      have hml : m < its.length := by simpa using hm
      have hmy : m < ys.length := by omega
      have hy' : ys[m]? = some ys[m] := List.getElem?_eq_getElem hmy
      obtain ⟨u2, hu2, ru2⟩ := rv.get hy'
      obtain ⟨_, hme⟩ := List.getElem?_eq_some_iff.mp hu2
      have e1 : its.toArray[m] = u2 := by simpa using hme
      rw [e1, eqU_of ru2 (flat_at fys hy')]
      exact hno m _ hmj hy'
    · exact ⟨.int (j : Nat), H, I.tok _, ⟨_, rfl⟩, q⟩
end VQ
namespace VQ
open PySem PySem.Spec PyProof.Rows L2
/-! ### tuples of which it is known that they have no dict: their methods can be called -/
def TupN (H : Hp) (a : Addr) (xs : List V) : Prop := ∃ o : Obj, o.dict = none ∧ H a = some (.frz o (.tup xs))
theorem TupN.same {H H' : Hp} (s : Same H H') {a : Addr} {xs : List V} (h : TupN H a xs) : TupN H' a xs := by
  obtain ⟨o, d, e⟩ := h
  exact ⟨o, d, s _ _ e⟩
theorem TupN.sq {K : PySem.W.Frag} {H : Hp} {a : Addr} {xs : List V} (h : TupN H a xs) : SqT K H a xs := by
  obtain ⟨o, d, e⟩ := h
  exact .inl (.inr ⟨o, e⟩)
theorem TupN.ty {K : PySem.W.Frag} {H : Hp} {a : Addr} {xs : List V} (h : TupN H a xs) : TyX K H (.ref a) (.type "tuple") := by
  obtain ⟨o, d, e⟩ := h
  exact .fTuple e
theorem TupN.upd {H : Hp} {a : Addr} {xs : List V} {o : Obj} (d : o.dict = none) : TupN (upd H a (.frz o (.tup xs))) a xs := ⟨o, d, upd_same⟩
/-- a written tuple, such a one -/
def tTupN (t : TA) : TE := fun σ H Q => t σ H fun xs H1 => xs.length ≤ sizeLine ∧ ∀ (p : Addr) (o : Obj), H1 p = none → o.dict = none → Q (.ref p) (upd H1 p (.frz o (.tup xs)))
theorem pe_tupN {X : Cx} {es : List Expr} {t : TA} {x1} {pos : Pos} (h : PA X es t) : PE X (.Tuple es x1 pos) (tTupN t) := by
  refine ⟨fun pins s σ H Q I hq => ?_⟩
  refine wpAny_Tuple_spliced (thn (h.run pos pins s σ H _ I hq) fun us s1 ⟨xs, H1, I1, r, z, q⟩ => ⟨by rw [← r.length]; exact z, ?_⟩)
  have hf : H1 s1.heap.objs.size = none := I1.hok.fresh (Nat.le_refl _)
  refine ⟨.ref s1.heap.objs.size, _, I1.laid (o := .frz { cls := .type "tuple", data := .seq us.toArray } (.tup xs)) (t' := s1.toks) (fun b u e => Heap.get?_push_of_some _ e) (Nat.le_refl _) ?_, rfl, q _ _ hf rfl⟩
  exact ⟨Heap.get?_push_size _ rfl, z, us, r, ⟨_, Heap.get?_push_size _ rfl, rfl, _, rfl⟩⟩
/-- tuple(xs), such a one -/
def rTupN (K : PySem.W.Frag) : List V → Hp → VK → Prop := fun xs H Q => ∃ p ys, xs = [.ref p] ∧ SqL K H p ys ∧ ∀ (l : Addr) (o : Obj), H l = none → o.dict = none → Q (.ref l) (upd H l (.frz o (.tup ys)))
theorem call_tuple_N {X : Cx} : CallR X (.type "tuple") (rTupN X.K) := by
  intro pins s σ H xs us Q I r h
  obtain ⟨p, ys, rfl, hq, q⟩ := h
  obtain ⟨u, rfl, rx⟩ := vals1 r
  cases rx
  obtain ⟨its, r', pl, hz⟩ := I.list hq
  have hlen := r'.length
  refine call_tuple_list pl.isList (fun h' kp => ?_) (by simp only [List.size_toArray] <;> omega)
  have I1 : Inv X pins σ H { s with heap := h' } := I.kept (t' := s.toks) kp
  have I2 : Inv X pins σ (L2.upd H h'.objs.size (.frz { cls := .type "tuple", data := .seq its.toArray } (.tup ys))) { s with heap := h'.push { cls := .type "tuple", data := .seq its.toArray } } :=
    I1.laid (t' := s.toks) (fun b o e => Heap.get?_push_of_some _ e) (Nat.le_refl _) (show ObjOk X.prog X.w _ _ _ (.frz _ (.tup ys)) from ⟨Heap.get?_push_size _ rfl, hz, its, r', IsTup.new _ _⟩)
  exact ⟨.ref h'.objs.size, _, I2, rfl, q _ _ (I1.hok.fresh (Nat.le_refl _)) rfl⟩
/-- a method of such a tuple -/
def tBMN (r : V → List V → Hp → VK → Prop) (to : TE) (t : TA) : TE := fun σ H Q => to σ H fun x H1 => (∃ p xs, x = .ref p ∧ TupN H1 p xs) ∧ t σ H1 fun xs H2 => r x xs H2 Q
theorem pe_bmN {X : Cx} {o e : Expr} {es : List Expr} {to : TE} {t : TA} {name : Str} {apos cpos : Pos} {id : String} {r : V → List V → Hp → VK → Prop} (slot : Slot "tuple" name id) (hty : typeOf (.builtin id) = pure (.type "method_descriptor")) (hm : MtR X id r) (ho : PE X o to) (ha : PA X (e :: es) t)
    (hbase : attributeBase o name X.env (eval o X.env) = eval o X.env := by rfl)
    (hfew : ((backTo cpos (starEach (e :: es) X.env)).all (fun x => !x.1) && (backToKw cpos (keywordEach [] X.env)).all (fun x => x.1.isSome)
      && decide ((e :: es).length + ([] : List Keyword).length + (if ([] : List Keyword).isEmpty then 0 else 1) < 30)) = true := by rfl)
    (hline : (apos.endLine == cpos.line) = true := by rfl) (hs : starEach (e :: es) X.env = (false, eval e X.env) :: starEach es X.env := by rfl) (hplain : (backTo cpos (starEach es X.env)).any (·.1) = false := by rfl) :
    PE X (.Call (.Attribute o name apos) (e :: es) [] cpos) (tBMN r to t) := by
  refine ⟨fun pins s σ H Q I h => ?_⟩
  refine wpAny_Call_method_late hbase hfew hline rfl (thn (ho.run pins s σ H _ I h) fun v s1 ⟨x, H1, I1, r1, ty, q1⟩ => ?_)
  obtain ⟨p, xs, rfl, ob, hd, hp⟩ := ty
  cases r1
  obtain ⟨hg, hk⟩ := (show ObjOk X.prog X.w H1 s1.heap p (.frz ob (.tup xs)) from I1.hok p _ hp)
  obtain ⟨_, its, _, o', ho', hc, _⟩ := hk
  refine ⟨"tuple", id, PySem.F.plainAttrs_tuple, slot, hty, ⟨o', ho', hc⟩, fun a e => ?_, ?_⟩
  · cases e
    exact ⟨ob, hg, hd⟩
  have hA := ha.run cpos pins s1 σ H1 _ I1 q1
  rw [hs] at hA ⊢
  refine Calls.callWith_builtin (by show (false || (backTo cpos (starEach es X.env)).any (·.1)) = false; rw [hplain] <;> rfl) (Calls.evalArgs_plain ?_)
  exact thn hA fun us s2 ⟨vs, H2, I2, r2, q2⟩ => hm pins s2 σ H2 (.ref p) vs (.ref p) us Q I2 rfl r2 q2
end VQ
namespace VQ
open PySem L2 LamX
/-! ### comprehensions, by what they have collected -/
/-- all but one place stands as it was -/
def Off (D : Addr) (H H' : Hp) : Prop := ∀ p o, p ≠ D → H p = some o → H' p = some o
theorem Off.of {D : Addr} {H H' : Hp} (s : Same H H') : Off D H H' := fun p o _ h => s p o h
theorem Off.upd {D : Addr} {H : Hp} {o : HO} : Off D H (upd H D o) := fun p u n h => (upd_ne n).trans h
theorem sqT_same {K : PySem.W.Frag} {H H' : Hp} {a : Addr} {xs : List V} (s : Same H H') (h : SqT K H a xs) : SqT K H' a xs := by
  rcases h with (z | ⟨o, z⟩) | z
  · exact .inl (.inl (s _ _ z))
  · exact .inl (.inr ⟨o, s _ _ z⟩)
  · exact .inr z
theorem same_put {H H' : Hp} {D : Addr} {o : HO} (s : Same H H') (n : H D = none) : Same H (upd H' D o) := fun p u z => by
  rw [upd_ne (fun e => by rw [e, n] at z; cases z)]
  exact s p u z
/-- a turn of a comprehension, with what is to hold where an item is kept, and where none is -/
abbrev Trn (g : TG) (tt : TT) (te : TE) (vs : List Nat) (σ : L2.St) (x : V) (H : Hp) (k1 : VK) (k2 : Hp → Prop) : Prop := g x (wipe σ vs) H fun σ2 H2 => wipe σ2 vs = wipe σ vs ∧ tt σ2 H2 fun c H3 => if c = true then te σ2 H3 k1 else k2 H3
abbrev rInSign : R2 := fun x y H Q => ∃ (c : Nat) (z : Str), x = .str ⟨#[c]⟩ ∧ y = .str z ∧ Q (.bl (decide (c ∈ z.cps.toList))) H
abbrev rIsN1 : R2 := fun x y H Q => y = .non ∧ Q (.bl (decide (x = .non))) H
abbrev rNotN1 : R2 := fun x y H Q => y = .non ∧ Q (.bl (!decide (x = .non))) H
theorem getF {α : Type} {f : α → V} {xs : List α} {i : Nat} {v : V} (h : (xs.map f)[i]? = some v) : ∃ x, xs[i]? = some x ∧ v = f x := by
  rw [List.getElem?_map] at h
  cases e : xs[i]? with
  | none => rw [e] at h; cases h
  | some x =>
    rw [e] at h
    cases h
    exact ⟨x, rfl, rfl⟩
theorem lt_line {n : Nat} (h : n < 1000) : n < sizeLine := Nat.lt_of_lt_of_le h (by decide)
theorem lc_tupS {K : PySem.W.Frag} {a : Addr} {xs : List V} {g : TG} {tt : TT} {te : TE} {vs : List Nat} {σ : L2.St} {H1 : Hp} {D : Addr} {Qd : Hp → Prop} (A : Nat → List V → Hp → Prop) (new : H1 D = none) (sq : SqT K H1 a xs) (few : xs.length < 1000) (off : ∀ i acc H H', Off D H H' → A i acc H → A i acc H') (h0 : A 0 [] H1)
    (turn : ∀ (i : Nat) (x : V) (acc : List V) (H : Hp), xs[i]? = some x → Same H1 H → H D = some (.lst acc) → A i acc H → ∀ (k1 : VK) (k2 : Hp → Prop), (∀ y H4, Same H H4 → A (i + 1) (acc ++ [y]) H4 → k1 y H4) → (∀ H4, Same H H4 → A (i + 1) acc H4 → k2 H4) → Trn g tt te vs σ x H k1 k2)
    (fin : ∀ acc H, Same H1 H → H D = some (.lst acc) → A xs.length acc H → Qd H) :
    ∃ W : Nat → Nat → Hp → Prop, (∃ m, W 0 m (upd H1 D (.lst []))) ∧ ∀ i m H, W i m H → ((Itt K a).stop i H ∧ Qd H) ∨ ((Itt K a).go i H ∧ ∃ Nx : Hp → Prop, (∀ H', Nx H' → ∃ m', m' < m ∧ W (i + 1) m' H') ∧
      ∀ x H', (Itt K a).yld i H x H' → Trn g tt te vs σ x H' (fun y H4 => ∃ acc, H4 D = some (.lst acc) ∧ acc.length < sizeLine ∧ Nx (upd H4 D (.lst (acc ++ [y])))) Nx) := by
  refine lc_tup (xs := xs) (fun i H => Same H1 H ∧ ∃ acc, H D = some (.lst acc) ∧ acc.length ≤ i ∧ A i acc H) ⟨same_put (Same.refl H1) new, [], upd_same, Nat.zero_le _, off _ _ _ _ Off.upd h0⟩ (fun i H _ q => sqT_same q.1 sq) ?_ ?_
  · rintro i x H hx ⟨s, acc, hd, la, a⟩
    refine turn i x acc H hx s hd a _ _ (fun y H4 s4 a4 => ⟨acc, s4 _ _ hd, lt_line (Nat.lt_of_le_of_lt la (Nat.lt_trans (List.getElem?_eq_some_iff.mp hx).1 few)), same_put (s.trans s4) new, acc ++ [y], upd_same, by rw [List.length_append]; exact Nat.succ_le_succ la, off _ _ _ _ Off.upd a4⟩) fun H4 s4 a4 => ⟨s.trans s4, acc, s4 _ _ hd, Nat.le_succ_of_le la, a4⟩
  · rintro H ⟨s, acc, hd, la, a⟩
    exact fin acc H s hd a
theorem lc_listS {K : PySem.W.Frag} {a : Addr} {xs : List V} {g : TG} {tt : TT} {te : TE} {vs : List Nat} {σ : L2.St} {H1 : Hp} {D : Addr} {Qd : Hp → Prop} (A : Nat → List V → Hp → Prop) (new : H1 D = none) (sq : SqL K H1 a xs) (few : xs.length < 1000) (off : ∀ i acc H H', Off D H H' → A i acc H → A i acc H') (h0 : A 0 [] H1)
    (turn : ∀ (i : Nat) (x : V) (acc : List V) (H : Hp), xs[i]? = some x → Same H1 H → H D = some (.lst acc) → A i acc H → ∀ (k1 : VK) (k2 : Hp → Prop), (∀ y H4, Same H H4 → A (i + 1) (acc ++ [y]) H4 → k1 y H4) → (∀ H4, Same H H4 → A (i + 1) acc H4 → k2 H4) → Trn g tt te vs σ x H k1 k2)
    (fin : ∀ acc H, Same H1 H → H D = some (.lst acc) → A xs.length acc H → Qd H) :
    ∃ W : Nat → Nat → Hp → Prop, (∃ m, W 0 m (upd H1 D (.lst []))) ∧ ∀ i m H, W i m H → ((Itl K a).stop i H ∧ Qd H) ∨ ((Itl K a).go i H ∧ ∃ Nx : Hp → Prop, (∀ H', Nx H' → ∃ m', m' < m ∧ W (i + 1) m' H') ∧
      ∀ x H', (Itl K a).yld i H x H' → Trn g tt te vs σ x H' (fun y H4 => ∃ acc, H4 D = some (.lst acc) ∧ acc.length < sizeLine ∧ Nx (upd H4 D (.lst (acc ++ [y])))) Nx) := by
  refine lc_list (xs := xs) (fun i H => Same H1 H ∧ ∃ acc, H D = some (.lst acc) ∧ acc.length ≤ i ∧ A i acc H) ⟨same_put (Same.refl H1) new, [], upd_same, Nat.zero_le _, off _ _ _ _ Off.upd h0⟩ (fun i H _ q => Same.seq q.1 sq) ?_ ?_
  · rintro i x H hx ⟨s, acc, hd, la, a⟩
    refine turn i x acc H hx s hd a _ _ (fun y H4 s4 a4 => ⟨acc, s4 _ _ hd, lt_line (Nat.lt_of_le_of_lt la (Nat.lt_trans (List.getElem?_eq_some_iff.mp hx).1 few)), same_put (s.trans s4) new, acc ++ [y], upd_same, by rw [List.length_append]; exact Nat.succ_le_succ la, off _ _ _ _ Off.upd a4⟩) fun H4 s4 a4 => ⟨s.trans s4, acc, s4 _ _ hd, Nat.le_succ_of_le la, a4⟩
  · rintro H ⟨s, acc, hd, la, a⟩
    exact fin acc H s hd a
theorem lc_rangeS {lo : Int} {n : Nat} {g : TG} {tt : TT} {te : TE} {vs : List Nat} {σ : L2.St} {H1 : Hp} {D : Addr} {Qd : Hp → Prop} (A : Nat → List V → Hp → Prop) (new : H1 D = none)  (few : n < 1000) (off : ∀ i acc H H', Off D H H' → A i acc H → A i acc H') (h0 : A 0 [] H1)
    (turn : ∀ (i : Nat) (acc : List V) (H : Hp), i < n → Same H1 H → H D = some (.lst acc) → A i acc H → ∀ (k1 : VK) (k2 : Hp → Prop), (∀ y H4, Same H H4 → A (i + 1) (acc ++ [y]) H4 → k1 y H4) → (∀ H4, Same H H4 → A (i + 1) acc H4 → k2 H4) → Trn g tt te vs σ (.int (lo + i)) H k1 k2)
    (fin : ∀ acc H, Same H1 H → H D = some (.lst acc) → A n acc H → Qd H) :
    ∃ W : Nat → Nat → Hp → Prop, (∃ m, W 0 m (upd H1 D (.lst []))) ∧ ∀ i m H, W i m H → ((Itr lo n).stop i H ∧ Qd H) ∨ ((Itr lo n).go i H ∧ ∃ Nx : Hp → Prop, (∀ H', Nx H' → ∃ m', m' < m ∧ W (i + 1) m' H') ∧
      ∀ x H', (Itr lo n).yld i H x H' → Trn g tt te vs σ x H' (fun y H4 => ∃ acc, H4 D = some (.lst acc) ∧ acc.length < sizeLine ∧ Nx (upd H4 D (.lst (acc ++ [y])))) Nx) := by
  refine lc_range (lo := lo) (n := n) (fun i H => Same H1 H ∧ ∃ acc, H D = some (.lst acc) ∧ acc.length ≤ i ∧ A i acc H) ⟨same_put (Same.refl H1) new, [], upd_same, Nat.zero_le _, off _ _ _ _ Off.upd h0⟩ ?_ ?_
  · rintro i H hx ⟨s, acc, hd, la, a⟩
    refine turn i acc H hx s hd a _ _ (fun y H4 s4 a4 => ⟨acc, s4 _ _ hd, lt_line (Nat.lt_of_le_of_lt la (Nat.lt_trans hx few)), same_put (s.trans s4) new, acc ++ [y], upd_same, by rw [List.length_append]; exact Nat.succ_le_succ la, off _ _ _ _ Off.upd a4⟩) fun H4 s4 a4 => ⟨s.trans s4, acc, s4 _ _ hd, Nat.le_succ_of_le la, a4⟩
  · rintro H ⟨s, acc, hd, la, a⟩
    exact fin acc H s hd a
theorem lc_textS {z : Str} {g : TG} {tt : TT} {te : TE} {vs : List Nat} {σ : L2.St} {H1 : Hp} {D : Addr} {Qd : Hp → Prop} (A : Nat → List V → Hp → Prop) (new : H1 D = none)  (few : z.cps.size < 1000) (off : ∀ i acc H H', Off D H H' → A i acc H → A i acc H') (h0 : A 0 [] H1)
    (turn : ∀ (i c : Nat) (acc : List V) (H : Hp), z.cps[i]? = some c → Same H1 H → H D = some (.lst acc) → A i acc H → ∀ (k1 : VK) (k2 : Hp → Prop), (∀ y H4, Same H H4 → A (i + 1) (acc ++ [y]) H4 → k1 y H4) → (∀ H4, Same H H4 → A (i + 1) acc H4 → k2 H4) → Trn g tt te vs σ (.str ⟨#[c]⟩) H k1 k2)
    (fin : ∀ acc H, Same H1 H → H D = some (.lst acc) → A z.cps.size acc H → Qd H) :
    ∃ W : Nat → Nat → Hp → Prop, (∃ m, W 0 m (upd H1 D (.lst []))) ∧ ∀ i m H, W i m H → ((Its z).stop i H ∧ Qd H) ∨ ((Its z).go i H ∧ ∃ Nx : Hp → Prop, (∀ H', Nx H' → ∃ m', m' < m ∧ W (i + 1) m' H') ∧
      ∀ x H', (Its z).yld i H x H' → Trn g tt te vs σ x H' (fun y H4 => ∃ acc, H4 D = some (.lst acc) ∧ acc.length < sizeLine ∧ Nx (upd H4 D (.lst (acc ++ [y])))) Nx) := by
  refine lc_text  (fun i H => Same H1 H ∧ ∃ acc, H D = some (.lst acc) ∧ acc.length ≤ i ∧ A i acc H) ⟨same_put (Same.refl H1) new, [], upd_same, Nat.zero_le _, off _ _ _ _ Off.upd h0⟩ ?_ ?_
  · rintro i c H hx ⟨s, acc, hd, la, a⟩
    refine turn i c acc H hx s hd a _ _ (fun y H4 s4 a4 => ⟨acc, s4 _ _ hd, lt_line (Nat.lt_of_le_of_lt la (Nat.lt_trans (Array.getElem?_eq_some_iff.mp hx).1 few)), same_put (s.trans s4) new, acc ++ [y], upd_same, by rw [List.length_append]; exact Nat.succ_le_succ la, off _ _ _ _ Off.upd a4⟩) fun H4 s4 a4 => ⟨s.trans s4, acc, s4 _ _ hd, Nat.le_succ_of_le la, a4⟩
  · rintro H ⟨s, acc, hd, la, a⟩
    exact fin acc H s hd a
/-- a comprehension over enumerate of a tuple -/
theorem lc_enumT {K : PySem.W.Frag} {a : Addr} {xs : List V} {g : TG} {tt : TT} {te : TE} {vs : List Nat} {σ : L2.St} {H1 : Hp} {D : Addr} {Qd : Hp → Prop} (Pv : Nat → Hp → Prop) (h0 : Pv 0 (upd H1 D (.lst []))) (there : ∀ i H, Pv i H → SqT K H a xs)
    (turn : ∀ (i : Nat) (x : V) (T : Addr) (H : Hp), xs[i]? = some x → Pv i H → H T = none → Trn g tt te vs σ (.ref T) (upd H T (.tup [.int (i : Nat), x])) (fun y H4 => ∃ acc, H4 D = some (.lst acc) ∧ acc.length < sizeLine ∧ Pv (i + 1) (upd H4 D (.lst (acc ++ [y])))) (Pv (i + 1)))
    (fin : ∀ H, Pv xs.length H → Qd H) :
    ∃ W : Nat → Nat → Hp → Prop, (∃ m, W 0 m (upd H1 D (.lst []))) ∧ ∀ i m H, W i m H → ((IteT K a).stop i H ∧ Qd H) ∨ ((IteT K a).go i H ∧ ∃ Nx : Hp → Prop, (∀ H', Nx H' → ∃ m', m' < m ∧ W (i + 1) m' H') ∧
      ∀ x H', (IteT K a).yld i H x H' → Trn g tt te vs σ x H' (fun y H4 => ∃ acc, H4 D = some (.lst acc) ∧ acc.length < sizeLine ∧ Nx (upd H4 D (.lst (acc ++ [y])))) Nx) := by
  refine ⟨fun i m H => m + i = xs.length ∧ Pv i H, ⟨xs.length, rfl, h0⟩, ?_⟩
  rintro i m H ⟨em, p⟩
  have sq := there i H p
  by_cases lt : i < xs.length
  · refine .inr ⟨⟨xs, xs[i], sq, List.getElem?_eq_getElem lt⟩, Pv (i + 1), fun H' p' => ⟨m - 1, by omega, by omega, p'⟩, ?_⟩
    rintro v H' ⟨T, x, rfl, nT, rfl, ex⟩
    exact turn i x T H (ex xs sq) p nT
  · have e : i = xs.length := by omega
    subst e
    exact .inl ⟨⟨xs, sq, rfl⟩, fin H p⟩
theorem lc_enumTS {K : PySem.W.Frag} {a : Addr} {xs : List V} {g : TG} {tt : TT} {te : TE} {vs : List Nat} {σ : L2.St} {H1 : Hp} {D : Addr} {Qd : Hp → Prop} (A : Nat → List V → Hp → Prop) (new : H1 D = none) (sq : SqT K H1 a xs) (few : xs.length < 1000) (off : ∀ i acc H H', Off D H H' → A i acc H → A i acc H') (h0 : A 0 [] H1)
    (turn : ∀ (i : Nat) (x : V) (T : Addr) (acc : List V) (H : Hp), xs[i]? = some x → Same H1 H → H T = some (.tup [.int (i : Nat), x]) → H D = some (.lst acc) → A i acc H → ∀ (k1 : VK) (k2 : Hp → Prop), (∀ y H4, Same H H4 → A (i + 1) (acc ++ [y]) H4 → k1 y H4) → (∀ H4, Same H H4 → A (i + 1) acc H4 → k2 H4) → Trn g tt te vs σ (.ref T) H k1 k2)
    (fin : ∀ acc H, Same H1 H → H D = some (.lst acc) → A xs.length acc H → Qd H) :
    ∃ W : Nat → Nat → Hp → Prop, (∃ m, W 0 m (upd H1 D (.lst []))) ∧ ∀ i m H, W i m H → ((IteT K a).stop i H ∧ Qd H) ∨ ((IteT K a).go i H ∧ ∃ Nx : Hp → Prop, (∀ H', Nx H' → ∃ m', m' < m ∧ W (i + 1) m' H') ∧
      ∀ x H', (IteT K a).yld i H x H' → Trn g tt te vs σ x H' (fun y H4 => ∃ acc, H4 D = some (.lst acc) ∧ acc.length < sizeLine ∧ Nx (upd H4 D (.lst (acc ++ [y])))) Nx) := by
  refine lc_enumT (xs := xs) (fun i H => Same H1 H ∧ ∃ acc, H D = some (.lst acc) ∧ acc.length ≤ i ∧ A i acc H) ⟨same_put (Same.refl H1) new, [], upd_same, Nat.zero_le _, off _ _ _ _ Off.upd h0⟩ (fun i H q => sqT_same q.1 sq) ?_ ?_
  · rintro i x T H hx ⟨s, acc, hd, la, a⟩ nT
    have TD : D ≠ T := fun e => by
      rw [e, nT] at hd
      cases hd
    have sT := same_new (o := HO.tup [.int (i : Nat), x]) nT
    refine turn i x T acc _ hx (s.trans sT) upd_same (sT _ _ hd) (off _ _ _ _ (Off.of sT) a) _ _ (fun y H4 s4 a4 => ⟨acc, (sT.trans s4) _ _ hd, lt_line (Nat.lt_of_le_of_lt la (Nat.lt_trans (List.getElem?_eq_some_iff.mp hx).1 few)), same_put (s.trans (sT.trans s4)) new, acc ++ [y], upd_same, by rw [List.length_append]; exact Nat.succ_le_succ la, off _ _ _ _ Off.upd a4⟩) fun H4 s4 a4 => ⟨s.trans (sT.trans s4), acc, (sT.trans s4) _ _ hd, Nat.le_succ_of_le la, a4⟩
  · rintro H ⟨s, acc, hd, la, a⟩
    exact fin acc H s hd a
/-- .. that keeps of each item what f tells -/
theorem lc_tupF {K : PySem.W.Frag} {a : Addr} {xs : List V} {g : TG} {tt : TT} {te : TE} {vs : List Nat} {σ : L2.St} {H1 : Hp} {D : Addr} {Qd : Hp → Prop} (f : V → Option V) (new : H1 D = none) (sq : SqT K H1 a xs) (few : xs.length < 1000)
    (turn : ∀ (i : Nat) (x : V) (H : Hp), xs[i]? = some x → Same H1 H → ∀ (k1 : VK) (k2 : Hp → Prop), (∀ y H4, f x = some y → Same H H4 → k1 y H4) → (∀ H4, f x = none → Same H H4 → k2 H4) → Trn g tt te vs σ x H k1 k2)
    (fin : ∀ H, Same H1 H → H D = some (.lst (xs.filterMap f)) → Qd H) :
    ∃ W : Nat → Nat → Hp → Prop, (∃ m, W 0 m (upd H1 D (.lst []))) ∧ ∀ i m H, W i m H → ((Itt K a).stop i H ∧ Qd H) ∨ ((Itt K a).go i H ∧ ∃ Nx : Hp → Prop, (∀ H', Nx H' → ∃ m', m' < m ∧ W (i + 1) m' H') ∧
      ∀ x H', (Itt K a).yld i H x H' → Trn g tt te vs σ x H' (fun y H4 => ∃ acc, H4 D = some (.lst acc) ∧ acc.length < sizeLine ∧ Nx (upd H4 D (.lst (acc ++ [y])))) Nx) := by
  refine lc_tupS (xs := xs) (fun i acc _ => acc = (xs.take i).filterMap f) new sq few (fun _ _ _ _ _ h => h) rfl ?_ ?_
  · rintro i x acc H hx s hd rfl k1 k2 y1 y2
    have et : (xs.take (i + 1)).filterMap f = (xs.take i).filterMap f ++ (f x).toList := by
      rw [List.take_add_one, hx, List.filterMap_append]
      cases q : f x <;> simp [q]
    refine turn i x H hx s k1 k2 (fun y H4 e s4 => y1 y H4 s4 ?_) fun H4 e s4 => y2 H4 s4 ?_
    · rw [et, e]
      rfl
    · rw [et, e]
      exact (List.append_nil _).symm
  · rintro acc H s hd rfl
    rw [List.take_of_length_le (Nat.le_refl _)] at hd
    exact fin H s hd
/-- .. that tells g of each item -/
theorem lc_tupV {K : PySem.W.Frag} {a : Addr} {xs : List V} {g : TG} {tt : TT} {te : TE} {vs : List Nat} {σ : L2.St} {H1 : Hp} {D : Addr} {Qd : Hp → Prop} (f : V → V) (new : H1 D = none) (sq : SqT K H1 a xs) (few : xs.length < 1000)
    (turn : ∀ (i : Nat) (x : V) (H : Hp), xs[i]? = some x → Same H1 H → ∀ (k1 : VK) (k2 : Hp → Prop), (∀ H4, Same H H4 → k1 (f x) H4) → Trn g tt te vs σ x H k1 k2)
    (fin : ∀ H, Same H1 H → H D = some (.lst (xs.map f)) → Qd H) :
    ∃ W : Nat → Nat → Hp → Prop, (∃ m, W 0 m (upd H1 D (.lst []))) ∧ ∀ i m H, W i m H → ((Itt K a).stop i H ∧ Qd H) ∨ ((Itt K a).go i H ∧ ∃ Nx : Hp → Prop, (∀ H', Nx H' → ∃ m', m' < m ∧ W (i + 1) m' H') ∧
      ∀ x H', (Itt K a).yld i H x H' → Trn g tt te vs σ x H' (fun y H4 => ∃ acc, H4 D = some (.lst acc) ∧ acc.length < sizeLine ∧ Nx (upd H4 D (.lst (acc ++ [y])))) Nx) :=
  lc_tupF (xs := xs) (fun x => some (f x)) new sq few (fun i x H hx s k1 k2 y1 _ => turn i x H hx s k1 k2 fun H4 s4 => y1 _ H4 rfl s4) fun H s hd => fin H s (by
    have e : xs.filterMap (fun x => some (f x)) = xs.map f := by
      rw [← List.filterMap_eq_map]
      rfl
    rw [← e]
    exact hd)
/-- .. that keeps of each item what f tells -/
theorem lc_listF {K : PySem.W.Frag} {a : Addr} {xs : List V} {g : TG} {tt : TT} {te : TE} {vs : List Nat} {σ : L2.St} {H1 : Hp} {D : Addr} {Qd : Hp → Prop} (f : V → Option V) (new : H1 D = none) (sq : SqL K H1 a xs) (few : xs.length < 1000)
    (turn : ∀ (i : Nat) (x : V) (H : Hp), xs[i]? = some x → Same H1 H → ∀ (k1 : VK) (k2 : Hp → Prop), (∀ y H4, f x = some y → Same H H4 → k1 y H4) → (∀ H4, f x = none → Same H H4 → k2 H4) → Trn g tt te vs σ x H k1 k2)
    (fin : ∀ H, Same H1 H → H D = some (.lst (xs.filterMap f)) → Qd H) :
    ∃ W : Nat → Nat → Hp → Prop, (∃ m, W 0 m (upd H1 D (.lst []))) ∧ ∀ i m H, W i m H → ((Itl K a).stop i H ∧ Qd H) ∨ ((Itl K a).go i H ∧ ∃ Nx : Hp → Prop, (∀ H', Nx H' → ∃ m', m' < m ∧ W (i + 1) m' H') ∧
      ∀ x H', (Itl K a).yld i H x H' → Trn g tt te vs σ x H' (fun y H4 => ∃ acc, H4 D = some (.lst acc) ∧ acc.length < sizeLine ∧ Nx (upd H4 D (.lst (acc ++ [y])))) Nx) := by
  refine lc_listS (xs := xs) (fun i acc _ => acc = (xs.take i).filterMap f) new sq few (fun _ _ _ _ _ h => h) rfl ?_ ?_
  · rintro i x acc H hx s hd rfl k1 k2 y1 y2
    have et : (xs.take (i + 1)).filterMap f = (xs.take i).filterMap f ++ (f x).toList := by
      rw [List.take_add_one, hx, List.filterMap_append]
      cases q : f x <;> simp [q]
    refine turn i x H hx s k1 k2 (fun y H4 e s4 => y1 y H4 s4 ?_) fun H4 e s4 => y2 H4 s4 ?_
    · rw [et, e]
      rfl
    · rw [et, e]
      exact (List.append_nil _).symm
  · rintro acc H s hd rfl
    rw [List.take_of_length_le (Nat.le_refl _)] at hd
    exact fin H s hd
/-- .. that tells g of each item -/
theorem lc_listV {K : PySem.W.Frag} {a : Addr} {xs : List V} {g : TG} {tt : TT} {te : TE} {vs : List Nat} {σ : L2.St} {H1 : Hp} {D : Addr} {Qd : Hp → Prop} (f : V → V) (new : H1 D = none) (sq : SqL K H1 a xs) (few : xs.length < 1000)
    (turn : ∀ (i : Nat) (x : V) (H : Hp), xs[i]? = some x → Same H1 H → ∀ (k1 : VK) (k2 : Hp → Prop), (∀ H4, Same H H4 → k1 (f x) H4) → Trn g tt te vs σ x H k1 k2)
    (fin : ∀ H, Same H1 H → H D = some (.lst (xs.map f)) → Qd H) :
    ∃ W : Nat → Nat → Hp → Prop, (∃ m, W 0 m (upd H1 D (.lst []))) ∧ ∀ i m H, W i m H → ((Itl K a).stop i H ∧ Qd H) ∨ ((Itl K a).go i H ∧ ∃ Nx : Hp → Prop, (∀ H', Nx H' → ∃ m', m' < m ∧ W (i + 1) m' H') ∧
      ∀ x H', (Itl K a).yld i H x H' → Trn g tt te vs σ x H' (fun y H4 => ∃ acc, H4 D = some (.lst acc) ∧ acc.length < sizeLine ∧ Nx (upd H4 D (.lst (acc ++ [y])))) Nx) :=
  lc_listF (xs := xs) (fun x => some (f x)) new sq few (fun i x H hx s k1 k2 y1 _ => turn i x H hx s k1 k2 fun H4 s4 => y1 _ H4 rfl s4) fun H s hd => fin H s (by
    have e : xs.filterMap (fun x => some (f x)) = xs.map f := by
      rw [← List.filterMap_eq_map]
      rfl
    rw [← e]
    exact hd)
end VQ
namespace VQ
open PySem PySem.Spec PySem.Calls PyProof.Rows L2
/-! ### a, *b = xs and *a, b = xs -/
section
variable {prog : Program} {w : World} {A : Around} {E : Value → Shared → Prop} {s : Shared}
/-- the rest of the work, once the iterator stands at place i -/
theorem star_rest {I l : Addr} {its : List Value} {n i : Nat} {T : String} {St : Nat → Heap → Prop} {Q : List Value → Shared → Prop} {h1 : Heap} (hT : T = "str_ascii_iterator" ∨ T = "str_iterator" ∨ T = "list_iterator" ∨ T = "tuple_iterator")
    (W : Walks prog w A.in1 I [I, l] [I] its.toArray.size (fun i v => its.toArray[i]? = some v) St) (ty : ∀ i (u : Shared), St i u.heap → u.TypeIs (.ref I) T) (st : St i h1) (bI : I < h1.objs.size) (bl : l < h1.objs.size) (hi : i < n) (hn : n ≤ its.length + 1) (hz : its.length ≤ sizeLine)
    (up : ∀ b o, b ≠ I → s.heap.get? b = some o → h1.get? b = some o) (new : s.heap.objs.size ≤ I)
    (fin : ∀ (h' : Heap) (tk : Nat), (∀ b o, s.heap.get? b = some o → h'.get? b = some o) →
      Q (its.take i ++ [.ref h'.objs.size] ++ (its.drop i).drop (its.length + 1 - n)) { s with heap := h'.push { cls := .type "list", data := .seq ((its.drop i).take (its.length + 1 - n)).toArray }, toks := tk }) :
    wpAny (model prog w) A (do
      if (its.take i).length < i then
        rule "unpack.star.too-few-before"
        raiseError "ValueError" s!"not enough values to unpack (expected at least {n - 1}, got {(its.take i).length})"
      let rest ← holding (its.take i) (collect (.ref I))
      let after := n - 1 - i
      if rest.length < after then
        rule "unpack.star.too-few"
        raiseError "ValueError" s!"not enough values to unpack (expected at least {n - 1}, got {i + rest.length})"
      let mid := rest.length - after
      return its.take i ++ [← newList (rest.take mid)] ++ rest.drop mid) Q E { s with heap := h1 } := by
  have few : ¬ (its.take i).length < i := by
    rw [List.length_take]
    omega
  rw [if_neg few]
  have szA : its.toArray.size = its.length := by simp
  refine wpAny_bind (wpAny_holding (PySem.W.kun_collect (s := { s with heap := h1 }) hT W ty (k := i) (by rw [szA]; omega) st bI bl (fun h2 tk kp => ?_) (by rw [szA]; exact hz)))
  have el : its.toArray.toList = its := by simp
  rw [el]
  have len : (its.drop i).length = its.length - i := List.length_drop
  have em : (its.drop i).length - (n - 1 - i) = its.length + 1 - n := by
    rw [len]
    omega
  dsimp only
  rw [if_neg (show ¬ (its.drop i).length < n - 1 - i by rw [len]; omega), em]
  refine wpAny_bind (wpAny_newList ?_ (by rw [List.length_take, len]; omega))
  have old : ∀ b o, s.heap.get? b = some o → h2.get? b = some o := fun b o e => by
    have ne : b ≠ I := Nat.ne_of_lt (Nat.lt_of_lt_of_le (Heap.lt_size e) new)
    exact kp b o ne (up b o ne e)
  exact wpAny_pure (fin h2 tk old)
theorem star_list {l : Addr} {its : List Value} {n i : Nat} {Q : List Value → Shared → Prop} (hl : s.heap.IsList l its.toArray) (calm : A.handled = none) (hi : i < n) (hn : n ≤ its.length + 1) (hz : its.length ≤ sizeLine)
    (fin : ∀ (h' : Heap) (tk : Nat), (∀ b o, s.heap.get? b = some o → h'.get? b = some o) →
      Q (its.take i ++ [.ref h'.objs.size] ++ (its.drop i).drop (its.length + 1 - n)) { s with heap := h'.push { cls := .type "list", data := .seq ((its.drop i).take (its.length + 1 - n)).toArray }, toks := tk }) :
    wpAny (model prog w) A (unpackItems (.ref l) n (some i)) Q E s := by
  have hl0 := hl
  obtain ⟨ob, hob, _⟩ := hl0
  have lt := Heap.lt_size hob
  have ne : l ≠ s.heap.objs.size := Nat.ne_of_lt lt
  unfold unpackItems notIterableAtAll
  refine wpAny_bind (wpAny_bind (wpAny_specialOf hl.typeIs slot_list_iter.lookup (wpAny_pure ?_)))
  simp only [Bool.false_eq_true, if_false]
  refine wpAny_bind (wpAny_holding (wpAny_pyIter_list hl ?_))
  have szA : its.toArray.size = its.length := by simp
  refine wpAny_bind (wpAny_holding (PySem.W.kun_draw ne i 0 _ _ ⟨_, Heap.get?_push_size _ rfl, rfl, rfl⟩ (hl.push _) (by rw [szA]; omega) fun h1 it1 sb => ?_))
  rw [Nat.zero_add] at it1
  have l1 : h1.IsList l its.toArray := (hl.push _).extBut sb.extBut ne
  have it0 := it1
  have l0 := l1
  obtain ⟨oi, hoi, _⟩ := it0
  obtain ⟨o2, ho2, _⟩ := l0
  rw [show (its.toArray.toList.drop 0).take i = its.take i by simp]
  exact star_rest (s := s) (T := "list_iterator") (.inr (.inr (.inl rfl))) (Walks.list (A := A.in1) calm s.heap.objs.size l ne its.toArray) (fun j u st => st.1.typeIs) ⟨it1, l1⟩ (Heap.lt_size hoi) (Heap.lt_size ho2) hi hn hz (fun b o nb e => sb.extBut b o nb (Heap.get?_push_of_some _ e)) (Nat.le_refl _) fin
theorem star_tuple {l : Addr} {its : List Value} {n i : Nat} {Q : List Value → Shared → Prop} (hl : IsTup s.heap l its.toArray) (calm : A.handled = none) (hi : i < n) (hn : n ≤ its.length + 1) (hz : its.length ≤ sizeLine)
    (fin : ∀ (h' : Heap) (tk : Nat), (∀ b o, s.heap.get? b = some o → h'.get? b = some o) →
      Q (its.take i ++ [.ref h'.objs.size] ++ (its.drop i).drop (its.length + 1 - n)) { s with heap := h'.push { cls := .type "list", data := .seq ((its.drop i).take (its.length + 1 - n)).toArray }, toks := tk }) :
    wpAny (model prog w) A (unpackItems (.ref l) n (some i)) Q E s := by
  have hl0 := hl
  obtain ⟨ob, hob, _⟩ := hl0
  have lt := Heap.lt_size hob
  have ne : l ≠ s.heap.objs.size := Nat.ne_of_lt lt
  unfold unpackItems notIterableAtAll
  refine wpAny_bind (wpAny_bind (wpAny_specialOf hl.typeIs slot_tuple_iter.lookup (wpAny_pure ?_)))
  simp only [Bool.false_eq_true, if_false]
  refine wpAny_bind (wpAny_holding (iter_tuple hl ?_))
  have szA : its.toArray.size = its.length := by simp
  refine wpAny_bind (wpAny_holding (draw_tuple ne i 0 _ _ ⟨_, Heap.get?_push_size _ rfl, rfl, rfl⟩ (hl.push _) (by rw [szA]; omega) fun h1 it1 sb => ?_))
  rw [Nat.zero_add] at it1
  have l1 : IsTup h1 l its.toArray := (hl.push _).extBut sb.extBut ne
  have it0 := it1
  have l0 := l1
  obtain ⟨oi, hoi, _⟩ := it0
  obtain ⟨o2, ho2, _⟩ := l0
  rw [show (its.toArray.toList.drop 0).take i = its.take i by simp]
  exact star_rest (s := s) (T := "tuple_iterator") (.inr (.inr (.inr rfl))) (Walks.tuple (A := A.in1) calm s.heap.objs.size l ne its.toArray) (fun j u st => st.1.typeIs) ⟨it1, l1⟩ (Heap.lt_size hoi) (Heap.lt_size ho2) hi hn hz (fun b o nb e => sb.extBut b o nb (Heap.get?_push_of_some _ e)) (Nat.le_refl _) fin
end
section
variable {X : Cx} {pos : Pos}
theorem Vals.drops : ∀ {xs : List V} {us : List Value} (n : Nat), Vals xs us → Vals (xs.take n) (us.take n)
  | _, _, 0, _ => .nil
  | _, _, _ + 1, .nil => .nil
  | _, _, n + 1, .cons a t => .cons a (Vals.drops n t)
theorem Vals.app {xs ys : List V} {us ws : List Value} : Vals xs us → Vals ys ws → Vals (xs ++ ys) (us ++ ws)
  | .nil, h => h
  | .cons a t, h => .cons a (Vals.app t h)
/-- targets with one star at place i, n of them in all -/
def gStar (K : PySem.W.Frag) (n i : Nat) (t : TGs) : TG := fun v σ H Q => ∃ a xs, v = .ref a ∧ (SqL K H a xs ∨ SqT K H a xs) ∧ n ≤ xs.length + 1 ∧
  ∀ D, H D = none → t (xs.take i ++ [.ref D] ++ (xs.drop i).drop (xs.length + 1 - n)) σ (upd H D (.lst ((xs.drop i).take (xs.length + 1 - n)))) Q
theorem pg_star {es es' : List Expr} {k : Nat} {t : TGs} {n i : Nat} (hc : X.calm = true) (h : PGs X es' t) (same : (assignEach es X.env).map (·.2) = (assignEach es' X.env).map (·.2)) (hn : (assignEach es X.env).length = n := by rfl) (hst : (assignEach es X.env).findIdx? (·.1) = some i := by rfl) (hi : i < n := by decide) :
    PG X (.Tuple es k pos) (gStar X.K n i t) := by
  refine ⟨fun pins s σ H v u Q I r hw => ?_⟩
  obtain ⟨a, xs, e1, hq, few, hw⟩ := hw
  subst e1
  cases r
  rw [PyProof.Rows.assign_Tuple]
  refine wpAny_bind (wpAny_standAt ?_)
  unfold unpack
  rw [hn, hst, same]
  have go : ∀ its : List Value, Vals xs its → xs.length ≤ sizeLine → ∀ (h' : Heap) (tk : Nat), (∀ b o, s.heap.get? b = some o → h'.get? b = some o) →
      wpAny (model X.prog X.w) X.A (assignInOrder ((assignEach es' X.env).map (·.2)) (its.take i ++ [.ref h'.objs.size] ++ (its.drop i).drop (its.length + 1 - n))) (fun _ s' => ∃ σ' H', Inv X pins σ' H' s' ∧ Q σ' H') X.xe { s with heap := h'.push { cls := .type "list", data := .seq ((its.drop i).take (its.length + 1 - n)).toArray }, toks := tk } := by
    intro its rv hz h' tk kp
    have I1 : Inv X pins σ H { s with heap := h', toks := tk } := I.kept (t' := tk) kp
    have nD : H h'.objs.size = none := I1.hok.fresh (Nat.le_refl _)
    have el := rv.length
    have v2 : Vals ((xs.drop i).take (xs.length + 1 - n)) ((its.drop i).take (its.length + 1 - n)) := by
      rw [← el]
      exact Vals.drops _ (rv.drop i)
    have I2 := I1.laid (o := .lst ((xs.drop i).take (xs.length + 1 - n))) (h' := h'.push { cls := .type "list", data := .seq ((its.drop i).take (its.length + 1 - n)).toArray }) (t' := tk) (fun b o e => Heap.get?_push_of_some _ e) (Nat.le_refl _)
      ⟨by rw [List.length_take, List.length_drop]; omega, _, 0, v2, Heap.get?_push_size _ rfl⟩
    refine h.run pins _ σ _ _ _ Q I2 ?_ (hw _ nD)
    rw [← el]
    exact Vals.app (Vals.app (Vals.drops i rv) (.cons rfl .nil)) ((rv.drop i).drop _)
  rcases hq with hq | hq
  · obtain ⟨its, rv, pl, hz⟩ := I.list hq
    have hl' : s.heap.IsList a its.toArray := by
      obtain ⟨o, m, e, c, d, q⟩ := pl
      exact ⟨o, e, c, m, q⟩
    have el := rv.length
    exact wpAny_bind (wpAny_holding (star_list hl' (I.ok.hd hc) hi (by omega) (by omega) (go its rv hz)))
  · obtain ⟨its, rv, ht, hz⟩ := I.tuple hq
    have el := rv.length
    exact wpAny_bind (wpAny_holding (star_tuple ht (I.ok.hd hc) hi (by omega) (by omega) (go its rv hz)))
end
end VQ
namespace VQ
open PySem PySem.Spec PyProof.Rows L2
/-! ### a table of the top whose keys are texts -/
def keysB (K : PySem.W.Frag) (d : Addr) (ks : List Str) : Bool := match K.lookup d with
  | some ⟨_, _, .dict es _, _⟩ => es.toList.all fun e => match e.key with
    | .str x _ => decide (x ∈ ks)
    | _ => false
  | _ => false
theorem keysB_no {K : PySem.W.Frag} {d : Addr} {ks : List Str} (h : keysB K d ks = true) {z : Str} (n : z ∉ ks) : PySem.W.nsIn K d z = some none := by
  unfold keysB at h
  unfold PySem.W.nsIn
  cases q : K.lookup d with
  | none =>
    rw [q] at h
    cases h
  | some o =>
    obtain ⟨oc, od, dt, osl⟩ := o
    rw [q] at h
    cases dt with
    | dict es m =>
      have all : ∀ e ∈ es.toList, ∃ x t, e.key = .str x t ∧ x ∈ ks := fun e me => by
        have h1 := List.all_eq_true.mp h e me
        cases ek : e.key with
        | str x t =>
          rw [ek] at h1
          exact ⟨x, t, rfl, of_decide_eq_true h1⟩
        | _ =>
          rw [ek] at h1
          cases h1
      have e1 : es.toList.find? (·.key.isStr z) = none := List.find?_eq_none.mpr fun e me => by
        obtain ⟨x, t, ek, mx⟩ := all e me
        rw [ek]
        intro y
        have y2 : (x == z) = true := y
        rw [LawfulBEq.eq_of_beq y2] at mx
        exact n mx
      have e2 : es.toList.any (·.refKey) = false := by
        rw [List.any_eq_false]
        intro e me
        obtain ⟨x, t, ek, mx⟩ := all e me
        unfold DictEntry.refKey
        rw [ek]
        exact Bool.false_ne_true
      show (match es.toList.find? (·.key.isStr z) with
        | some e => some (some e.val)
        | none => if es.toList.any (·.refKey) then none else some none) = _
      rw [e1, e2]
      rfl
    | _ => cases h
/-- a table: its keys, what stands at each -/
structure TabK (K : PySem.W.Frag) (w : World) (d : Addr) (kvs : List (Str × V)) : Prop where
  kd : ∃ es n, KDict K w d es n
  yes : ∀ p ∈ kvs, ∃ u, PySem.W.nsIn K d p.1 = some (some u) ∧ RelV p.2 u
  no : ∀ z, z ∉ kvs.map (·.1) → PySem.W.nsIn K d z = some none
theorem TabK.dct {K : PySem.W.Frag} {w : World} {d : Addr} {kvs : List (Str × V)} (T : TabK K w d kvs) {p : Str × V} (m : p ∈ kvs) : KDct K w d p.1 p.2 := by
  obtain ⟨es, n, D⟩ := T.kd
  obtain ⟨u, e, r⟩ := T.yes p m
  exact ⟨es, n, u, D.at_, D.lit, e, r⟩
/-- z in the table, for any text z -/
def rInTab (K : PySem.W.Frag) (w : World) (neg : Bool) : R2 := fun x y H Q => ∃ (z : Str) (d : Addr) (kvs : List (Str × V)), x = .str z ∧ y = .ref d ∧ TabK K w d kvs ∧ Q (.bl (if neg then !decide (z ∈ kvs.map (·.1)) else decide (z ∈ kvs.map (·.1)))) H
theorem tab_some {K : PySem.W.Frag} {w : World} {d : Addr} {kvs : List (Str × V)} (T : TabK K w d kvs) (z : Str) : ∃ r, PySem.W.nsIn K d z = some r ∧ r.isSome = decide (z ∈ kvs.map (·.1)) := by
  by_cases m : z ∈ kvs.map (·.1)
  · obtain ⟨p, mp, rfl⟩ := List.mem_map.mp m
    obtain ⟨u, e, _⟩ := T.yes p mp
    exact ⟨_, e, by rw [decide_eq_true m]; rfl⟩
  · exact ⟨_, T.no z m, by rw [decide_eq_false m]; rfl⟩
theorem op_inTab {X : Cx} : OpR X (compareOp .In) (rInTab X.K X.w false) := by
  intro pins s σ H x y v u Q I rx ry h
  obtain ⟨z, d, kvs, rfl, rfl, T, q⟩ := h
  obtain ⟨es, n, D⟩ := T.kd
  obtain ⟨r, e, er⟩ := tab_some T z
  refine op_in_kd D pins s σ H _ _ v u Q I rx ry ⟨z, r, rfl, rfl, e, ?_⟩
  rw [er]
  exact q
theorem op_notInTab {X : Cx} : OpR X (compareOp .NotIn) (rInTab X.K X.w true) := by
  intro pins s σ H x y v u Q I rx ry h
  obtain ⟨z, d, kvs, rfl, rfl, T, q⟩ := h
  obtain ⟨es, n, D⟩ := T.kd
  obtain ⟨r, e, er⟩ := tab_some T z
  refine op_notIn_kd D pins s σ H _ _ v u Q I rx ry ⟨z, r, rfl, rfl, e, ?_⟩
  rw [er]
  exact q
/-! ### x in a tuple of things of any depth -/
def rInDT (K : PySem.W.Frag) : R2 := fun x y H Q => ∃ d ds, Dp K H x d ∧ Dp K H y (.tuple ds) ∧ SeqAt.shaped d = true ∧ SeqAt.shaped (.tuple ds) = true ∧ Q (.bl (ds.any fun z => PyData.eqv z d)) H
theorem op_inDT {X : Cx} (hu : X.A.units + 65 < cLine) : OpR X (compareOp .In) (rInDT X.K) := by
  intro pins s σ H x y v u Q inv rx ry h
  obtain ⟨d, ds, hd, he, sd, se, q⟩ := h
  obtain ⟨as, r1⟩ := Dp.reads inv d x v hd rx
  obtain ⟨bs, r2⟩ := Dp.reads inv (.tuple ds) y u he ry
  exact SeqAt.in_tuple_reads r2 r1 (SeqAt.canLay_of_shaped se) (SeqAt.canLay_of_shaped sd) (room_in_shaped sd hu) ⟨.bl _, H, inv, rfl, q⟩
end VQ
namespace VQ
open PySem PySem.Spec PyProof.Rows L2
/-! ### {**d, k: v} -/
section
variable {prog : Program} {w : World} {A : Around} {E : Value → Shared → Prop} {s : Shared} {κ : Type} [DecidableEq κ] {knd : KeyKind prog w κ}
theorem put_pairs {d : Addr} {kvs : List (κ × Value)} {k : κ} {key v : Value} {Q : Unit → Shared → Prop} (isK : knd.is k key = true) (dd : s.heap.DictOf knd d kvs) (few : kvs.length ≤ sizeLine)
    (fin : ∀ h', h'.DictOf knd d (stored kvs k v) → Heap.SameBut d s.heap h' → Q () { s with heap := h' }) : wpAny (model prog w) A (dictPut d (knd.hash k) key v) Q E s := by
  obtain ⟨o, es, ep, here, exact', data, ks, prs, nd⟩ := dd
  have small : es.size ≤ sizeLine := by
    have e1 := prs.length
    have e2 : es.toList.length = es.size := by simp
    omega
  have same : (es.findIdx? fun e => knd.is k e.key) = kvs.findIdx? fun kv => decide (kv.1 = k) := by
    rw [← prs.findIdx k]
    obtain ⟨l⟩ := es
    simp
  unfold dictPut
  refine wpAny_bind (wpAny_dictFind_of isK here data ks ?_)
  cases q : es.findIdx? fun e => knd.is k e.key with
  | some i =>
    have yes := any_of_findIdx_some (same ▸ q)
    refine wpAny_updateDict here data (fin _ ⟨_, _, ep, Heap.get?_update_self _ here (Obj.isFreed_of_dict (Obj.data_mapDict data _)), exact'.mapDict _, Obj.data_mapDict data _, ks.modify _ _, ?_, ?_⟩ (Heap.SameBut.update ..))
    · rw [stored, if_pos yes]
      have onL : (es.toList.findIdx? fun e => knd.is k e.key) = some i := by
        rw [← q]
        obtain ⟨l⟩ := es
        simp
      have done := prs.modify nd onL v
      obtain ⟨l⟩ := es
      simpa using done
    · rw [stored, if_pos yes, keys_map_store]
      exact nd
  | none =>
    have out : k ∉ kvs.map (·.1) := not_mem_of_findIdx_none (same ▸ q)
    have no : ¬ (kvs.any fun kv => decide (kv.1 = k)) = true := fun y => by
      obtain ⟨kv, m, e⟩ := List.any_eq_true.mp y
      exact out (List.mem_map.mpr ⟨kv, m, of_decide_eq_true e⟩)
    refine wpAny_updateDictKeys (hz := small) here data (fin _ ⟨_, _, ep + 1, Heap.get?_update_self _ here (Obj.isFreed_of_dict (Obj.data_mapDictKeys data _)), exact'.mapDictKeys _, Obj.data_mapDictKeys data _, ks.push isK _, ?_, ?_⟩ (Heap.SameBut.update ..))
    · rw [stored, if_neg no]
      have done := prs.append isK (knd.hash k) v
      obtain ⟨l⟩ := es
      simpa using done
    · rw [stored, if_neg no, List.map_append]
      exact nd_snoc nd out
omit [DecidableEq κ] in
theorem stored_le [DecidableEq κ] (acc : List (κ × Value)) (k : κ) (v : Value) : (stored acc k v).length ≤ acc.length + 1 := by
  unfold stored
  split
  · rw [List.length_map]
    omega
  · rw [List.length_append]
    exact Nat.le_refl _
omit [DecidableEq κ] in
theorem merged_le [DecidableEq κ] : ∀ (acc more : List (κ × Value)), (merged acc more).length ≤ acc.length + more.length
  | acc, [] => Nat.le_refl _
  | acc, p :: r => by
    have h1 := merged_le (stored acc p.1 p.2) r
    have h2 := stored_le acc p.1 p.2
    show (merged (stored acc p.1 p.2) r).length ≤ _
    rw [List.length_cons]
    omega
omit [DecidableEq κ] in
theorem merged_snoc [DecidableEq κ] (acc more : List (κ × Value)) (p : κ × Value) : merged acc (more ++ [p]) = stored (merged acc more) p.1 p.2 := by
  unfold merged
  rw [List.foldl_append]
  rfl
/-- a dict whose keys are no objects, merged into another one -/
theorem merge_pairs {d a : Addr} {acc kvs : List (κ × Value)} {Q : Unit → Shared → Prop} (ne : a ≠ d) (low : (a == sysModules) = false) (plain : ∀ k b, knd.is k (.ref b) = false) (dd : s.heap.DictOf knd d acc) (da : s.heap.DictOf knd a kvs) (few : acc.length + kvs.length ≤ sizeLine)
    (fin : ∀ h', h'.DictOf knd d (merged acc kvs) → Heap.SameBut d s.heap h' → Q () { s with heap := h' }) : wpAny (model prog w) A (mergeMapping d (.ref a) false) Q E s := by
  have ty := da.typeIs
  obtain ⟨o, es, ep, here, exD, data, ks, prs, nd⟩ := id da
  obtain ⟨od, esd, epd, hered, exd, datad, ksd, prsd, ndd⟩ := id dd
  unfold mergeMapping
  refine wpAny_bind (wpAny_isInstance ty isSubtype_dict_dict ?_)
  simp only [if_true]
  refine wpAny_bind (wpAny_specialOf ty F.slot_dict_iter.lookup ?_)
  simp only [beq_self_eq_true]
  refine wpAny_bind (wpAny_pure ?_)
  simp only [low, Bool.false_eq_true, if_false]
  refine wpAny_bind (wpAny_dictEntries hered datad ?_)
  have main : ∀ s1 : Shared, s1 = s → wpAny (model prog w) A (do
      let size := (← dictEntries a).size
      let epoch ← dictEpoch a
      for i in List.range size do
        let some e := (← dictEntries a)[i]? | unsupported "dict.changed-during-merge"
        holding [e.key, e.val] (dictPut d e.hash e.key e.val)
        if (← dictEpoch a) != epoch then unsupported "dict.changed-during-merge") Q E s1 := by
    rintro s1 rfl
    refine wpAny_bind (wpAny_dictEntries here data ?_)
    refine wpAny_bind (wpAny_dictEpoch here data ?_)
    refine wpAny_bind ?_
    have sz : es.size = kvs.length := by
      rw [← prs.length]
      simp
    have nn : ∀ (j : Nat) (s2 : Shared), s2 = s1 → True := fun _ _ _ => trivial
    refine wpAny_forIn_list _ (fun rest _ t => ∃ (i : Nat) (h' : Heap), rest = List.range' i (es.size - i) ∧ i ≤ es.size ∧ t = { s1 with heap := h' } ∧ h'.DictOf knd d (merged acc (kvs.take i)) ∧ Heap.SameBut d s1.heap h') _ ?_ ?_ (List.range es.size) PUnit.unit ⟨0, s1.heap, by rw [List.range_eq_range', Nat.sub_zero], Nat.zero_le _, rfl, dd, Heap.SameBut.refl ..⟩
    · rintro x rest _ t ⟨i, h', er, li, rfl, dh, sb⟩
      have lt : i < es.size := by
        rcases Nat.lt_or_ge i es.size with c | c
        · exact c
        · rw [show es.size - i = 0 by omega] at er
          cases er
      obtain ⟨n, en⟩ : ∃ n, es.size - i = n + 1 := ⟨es.size - i - 1, by omega⟩
      rw [en, List.range'_succ] at er
      injection er with ex er
      subst ex
      have here' : h'.get? a = some o := (sb.2 a ne).trans here
      refine wpAny_bind (wpAny_dictEntries (s := { s1 with heap := h' }) here' data ?_)
      have get : es[x]? = some es[x] := Array.getElem?_eq_getElem lt
      rw [get]
      have ltk : x < kvs.length := by omega
      have both := prs.get? (i := x) (e := es[x]) (k := kvs[x].1) (v := kvs[x].2) (by rw [Array.getElem?_toList]; exact get) (List.getElem?_eq_getElem ltk)
      obtain ⟨k', ik', hk'⟩ := ks es[x] (Array.getElem_mem lt)
      have ek : k' = kvs[x].1 := knd.inj _ _ _ ik' both.1
      refine wpAny_bind (wpAny_holding ?_)
      rw [hk', ek]
      refine put_pairs (s := { s1 with heap := h' }) both.1 dh ?_ fun h2 dh2 sb2 => ?_
      · have := merged_le acc (kvs.take x)
        rw [List.length_take] at this
        omega
      · refine wpAny_bind (wpAny_dictEpoch (s := { s1 with heap := h2 }) ((sb2.2 a ne).trans here') data ?_)
        simp only [bne_self_eq_false, Bool.false_eq_true, if_false]
        refine wpAny_pure ⟨x + 1, h2, ?_, by omega, rfl, ?_, sb.trans sb2⟩
        · rw [er]
          congr 1
          omega
        · rw [List.take_add_one, List.getElem?_eq_getElem ltk, Option.toList_some, merged_snoc]
          rw [both.2] at dh2
          exact dh2
    · rintro _ t ⟨i, h', er, li, rfl, dh, sb⟩
      have ei : i = es.size := by
        rcases Nat.lt_or_ge i es.size with c | c
        · obtain ⟨n, en⟩ : ∃ n, es.size - i = n + 1 := ⟨es.size - i - 1, by omega⟩
          rw [en, List.range'_succ] at er
          cases er
        · omega
      rw [ei, sz, List.take_length] at dh
      exact wpAny_pure (fin h' dh sb)
  by_cases emp : esd.isEmpty = true
  · rw [if_pos emp]
    refine wpAny_bind (wpAny_dictEntries here data ?_)
    refine wpAny_bind ?_
    rw [← Array.forIn_toList]
    refine wpAny_forIn_list _ (fun rest _ t => (∀ e ∈ rest, ∀ b, e.key ≠ .ref b) ∧ t = s) _ ?_ ?_ es.toList PUnit.unit ⟨fun e m b eb => ?_, rfl⟩
    · rintro e rest _ t ⟨nr, rfl⟩
      have ne0 := nr e List.mem_cons_self
      cases ek : e.key with
      | ref b => exact absurd ek (ne0 b)
      | _ => exact wpAny_pure ⟨fun e' m' => nr e' (List.mem_cons_of_mem _ m'), rfl⟩
    · rintro _ t ⟨_, rfl⟩
      exact main _ rfl
    · obtain ⟨k, ik, _⟩ := ks e (by simpa using m)
      rw [eb, plain] at ik
      cases ik
  · rw [if_neg emp]
    exact main s rfl
end
theorem merged_new {κ : Type} [DecidableEq κ] : ∀ (more acc : List (κ × Value)), (more.map (·.1)).Nodup → (∀ p ∈ more, p.1 ∉ acc.map (·.1)) → merged acc more = acc ++ more
  | [], acc, _, _ => (List.append_nil _).symm
  | p :: r, acc, nd, out => by
    have no : ¬ (acc.any fun kv => decide (kv.1 = p.1)) = true := fun y => by
      obtain ⟨kv, m, e⟩ := List.any_eq_true.mp y
      exact out p List.mem_cons_self (List.mem_map.mpr ⟨kv, m, of_decide_eq_true e⟩)
    have e1 : stored acc p.1 p.2 = acc ++ [p] := by
      rw [stored, if_neg no]
    rw [List.map_cons, List.nodup_cons] at nd
    show merged (stored acc p.1 p.2) r = _
    rw [e1, merged_new r (acc ++ [p]) nd.2 fun q mq => ?_, List.append_assoc]
    · rfl
    · rw [List.map_append]
      intro m
      rcases List.mem_append.mp m with m | m
      · exact out q (List.mem_cons_of_mem _ mq) m
      · have : q.1 = p.1 := List.mem_singleton.mp m
        exact nd.1 (List.mem_map.mpr ⟨q, mq, this⟩)
theorem mix_noref {P : Program} {w : World} (k : L2.Key) (b : Addr) : (mixKind P w).is k (.ref b) = false := by
  cases k <;> rfl
section
variable {X : Cx} {pos : Pos}
/-- {**m, k: v} -/
def tSpread (tm tk tv : TE) : TE := fun σ H Q => ∀ p, H p = none → tm σ (upd H p (.dK [])) fun x H1 => ∃ (a : Addr) (kvs : List (L2.Key × V)), x = .ref a ∧ H1 a = some (.dK kvs) ∧ a ≠ p ∧ H1 p = some (.dK []) ∧ kvs.length < sizeLine ∧
  ∀ q, upd H1 p (.dK kvs) q = none → tPairs [(tk, tv)] σ (upd (upd H1 p (.dK kvs)) q (.dK [])) fun ps H3 => ∃ (z : V) (key : L2.Key), ps = [(kV key, z)] ∧ H3 q = some (.dK []) ∧ H3 p = some (.dK kvs) ∧ Q (.ref p) (upd (upd H3 q (.dK [(key, z)])) p (.dK (putK kvs key z)))
theorem pe_spread {m k v : Expr} {tm tk tv : TE} (hm : PE X m tm) (hk : PE X k tk) (hv : PE X v tv) : PE X (.Dict [none, some k] [m, v] pos) (tSpread tm tk tv) := by
  refine ⟨fun pins s σ H Q inv want => ?_⟩
  have ev : eval (.Dict [none, some k] [m, v] pos) X.env = (do
      standAt pos
      dictDisplay ((evalEachOpt [none, some k] X.env).zip ((evalEach [m, v] X.env).map fun v => do let x ← v; standAt pos; pure x))) := rfl
  rw [ev]
  refine wpAny_bind (wpAny_standAt ?_)
  show wpAny _ _ (dictDisplay [(none, do let x ← eval m X.env; standAt pos; pure x), (some (eval k X.env), do let x ← eval v X.env; standAt pos; pure x)]) _ _ _
  unfold dictDisplay
  simp only [List.forIn_cons, List.forIn_nil]
  refine wpAny_bind (wpAny_bind (wpAny_bind ?_))
  simp only [List.isEmpty_nil, if_true]
  refine wpAny_pure ?_
  refine wpAny_bind (wpAny_alloc ?_)
  have big := inv.big
  have np := inv.hok.fresh (Nat.le_refl s.heap.objs.size)
  have inv1 := inv.laid (a := s.heap.objs.size) (o := .dK []) (h' := s.heap.push { cls := .type "dict", data := .dict #[] }) (t' := s.toks) (fun _ _ q => Heap.get?_push_of_some _ q) (Nat.le_refl _) (dk_empty s.heap big)
  generalize s.heap.objs.size = p at *
  refine wpAny_bind (wpAny_holding (wpAny_bind (thn (hm.run pins _ σ _ _ inv1 (want p np)) fun u s1 ⟨x, H1, I1, rx, w1⟩ => ?_)))
  obtain ⟨a, kvs, rfl, ha, nap, hp, room, w1⟩ := w1
  cases rx
  refine wpAny_bind (wpAny_standAt (wpAny_pure ?_))
  obtain ⟨za, la, va, ra, da⟩ := dk_of I1.hok ha
  obtain ⟨zp, lp, vp, rp, dp⟩ := dk_of I1.hok hp
  cases rp
  refine wpAny_bind (wpAny_onRaise (wpAny_tryCatch (wpAny_onRaise (wpAny_holding (merge_pairs nap la mix_noref dp da (by rw [List.length_nil, ← ra.length]; omega) fun h1 d1 sb1 => ?_)))))
  have nda : (va.map (·.1)).Nodup := by
    obtain ⟨_, _, _, _, _, _, _, _, n⟩ := da
    exact n
  rw [merged_new va [] nda (fun _ _ m => by cases m), List.nil_append] at d1
  have he1 : ∃ q, h1.get? p = some q := let ⟨q, _, _, hq, _⟩ := d1; ⟨q, hq⟩
  have I2 := d_write (t' := s1.toks) (ob := .dK kvs) I1 (by rw [hp]; exact True.intro) sb1 he1 (dk_new (by omega) lp ra d1)
  refine wpAny_pure ?_
  simp only [List.nil_append, List.length_singleton]
  rw [if_neg (show ¬ ((1 : Nat) == 17) = true by decide)]
  refine wpAny_bind (wpAny_pure (wpAny_pure ?_))
  simp only [List.isEmpty_cons, Bool.false_eq_true, if_false]
  refine wpAny_bind (wpAny_bind (wpAny_holding ?_))
  have nq := I2.hok.fresh (Nat.le_refl h1.objs.size)
  have inv3 := I2.laid (a := h1.objs.size) (o := .dK []) (h' := h1.push { cls := .type "dict", data := .dict #[] }) (t' := s1.toks) (fun _ _ q => Heap.get?_push_of_some _ q) (Nat.le_refl _) (dk_empty h1 I2.big)
  have neq : p ≠ h1.objs.size := by
    obtain ⟨q, hq⟩ := he1
    exact Nat.ne_of_lt (Heap.lt_size hq)
  have low2 : (h1.objs.size == sysModules) = false := beq_eq_false_iff_ne.mpr (Nat.ne_of_gt I2.big)
  refine wpAny_subDict (knd := mixKind X.prog X.w) (s := { s1 with heap := h1 }) (by show 1 ≤ 15; decide) ?_
  show wpAny _ _ (evalPairs [(eval k X.env, do let x ← eval v X.env; standAt pos; pure x)]) _ _ { s1 with heap := h1.push { cls := .type "dict", data := .dict #[] } }
  generalize h1.objs.size = q at *
  have pp : PPs X pos [some k] [v] [(tk, tv)] := pps_cons hk hv pps_nil
  refine thn (pp.run pins _ σ _ _ inv3 (w1 q nq)) fun ws s2 ⟨ps, H3, I3, rel, z, key, eps, hq3, hp3, want3⟩ => ?_
  subst eps
  obtain ⟨rs, car, kv⟩ := carries_of (P := X.prog) (w := X.w) (kvs := [(key, z)]) rel
  obtain ⟨zq, lq, vq, rq, dq⟩ := dk_of I3.hok hq3
  cases rq
  refine ⟨rs, car, dq, fun h3 d3 sb3 => ?_⟩
  obtain ⟨r1, rfl⟩ : ∃ r1, rs = [r1] := by
    have e := kv.length
    match rs, e with
    | [r1], _ => exact ⟨r1, rfl⟩
  have em : merged [] [r1] = [r1] := merged_new [r1] [] (by simp) (fun _ _ m => by cases m)
  rw [em] at d3
  have he3 : ∃ o, h3.get? q = some o := let ⟨o, _, _, ho, _⟩ := d3; ⟨o, ho⟩
  have I4 := d_write (t' := s2.toks + ws.length) (ob := .dK [(key, z)]) I3 (by rw [hq3]; exact True.intro) sb3 he3 (dk_new (by show 1 ≤ sizeLine; decide) lq kv d3)
  have hp4 : upd H3 q (.dK [(key, z)]) p = some (.dK kvs) := (upd_ne neq).trans hp3
  obtain ⟨z4, l4, v4, r4, d4⟩ := dk_of I4.hok hp4
  obtain ⟨z5, l5, v5, r5, d5⟩ := dk_of I4.hok (show upd H3 q (.dK [(key, z)]) q = some (.dK [(key, z)]) from upd_same)
  refine wpAny_bind (wpAny_onRaise (wpAny_holding (merge_pairs (s := { s2 with heap := h3, toks := s2.toks + ws.length }) neq.symm low2 mix_noref d4 d3 (by rw [← r4.length]; show kvs.length + 1 ≤ _; omega) fun h6 d6 sb6 => ?_)))
  refine wpAny_pure (wpAny_pure ?_)
  have he6 : ∃ o, h6.get? p = some o := let ⟨o, _, _, ho, _⟩ := d6; ⟨o, ho⟩
  have kvm : KV (putK kvs key z) (merged v4 [r1]) := KV.merge (more := [(key, z)]) kv r4
  have len : (putK kvs key z).length ≤ sizeLine := by
    have := length_putK kvs key z
    omega
  have I6 := d_write (t' := s2.toks + ws.length) (ob := .dK (putK kvs key z)) I4 (by rw [hp4]; exact True.intro) sb6 he6 (dk_new len l4 kvm d6)
  exact ⟨.ref p, _, I6, rfl, want3⟩
end
end VQ
namespace VQ
open PySem PySem.Spec PyProof.Rows L2
/-! ### x(e, *xs), x a local name that holds one of several defs -/
structure HeldX (P : Program) (w : World) (K : PySem.W.Frag) (mg : Str → Option Value) (base : Heap) (k : Nat) (f : Addr) (sp : Sp) : Prop where
  ex : ∃ (fd : FuncData) (ps : List Str), FnOk P w K mg base (L2.CX P w) k f fd ps sp ∧ PySem.W.keepIn K (.ref f) = true ∧ Binds K fd ps []
def tCallX (P : Program) (w : World) (K : PySem.W.Frag) (mg : Str → Option Value) (base : Heap) (k i : Nat) (E : XK) (t : TA) : TE := fun σ H Q => ∃ (f : Addr) (sp : Sp), σ[i]? = some (some (.ref f)) ∧ HeldX P w K mg base k f sp ∧ t σ H fun vs H1 => sp vs H1 Q E
theorem pe_callX {X : Cx} {k i : Nat} {x : Str} {p pos : Pos} {e : Expr} {es : List Expr} {t : TA} {E : XK} (room : Room k X.A) (hN : X.N[i]? = some x) (hv : Vis X.env.scope x) (out : Passes (L2.CX X.prog X.w) X E) (ha : PA X (e :: es) t)
    (hdb : (x == ("__debug__" : Str)) = false := by decide) (hcd : (x == ("__classdict__" : Str)) = false := by decide)
    (he : starEach (e :: es) X.env = (false, eval e X.env) :: starEach es X.env := by rfl) (hst : (backTo pos (starEach es X.env)).any (·.1) = true := by rfl) : PE X (.Call (.Name x p) (e :: es) [] pos) (tCallX X.prog X.w X.K X.mg X.base k i E t) := by
  refine ⟨fun pins s σ H Q inv want => ?_⟩
  obtain ⟨f, sp, hs, ⟨fd, ps, F, hk, hb⟩, ht⟩ := want
  refine wpAny_Call_Name_kw (thn ((pe_var (pos := p) hN hv hdb hcd).run pins s σ H (fun v H1 => v = .ref f ∧ H1 = H) inv ⟨.ref f, hs, rfl, rfl⟩) fun u s1 ⟨v, H1, inv1, r1, q1⟩ => ?_)
  obtain ⟨rfl, rfl⟩ := q1
  cases r1
  refine PySem.W.callWith_S2 (h₀ := X.base) inv.ok.mod.kin hk (thn (ha.run pos pins s1 σ _ _ inv1 ht) fun us s2 ⟨vs, H2, inv2, r, q⟩ => ⟨inv2.kIn, ?_⟩) he hst
  refine run_fn F room hb .nil out inv2 r ?_
  show sp (vs ++ []) H2 Q E
  rw [List.append_nil]
  exact q
/-! ### d.get(z) of a table of the top -/
def tGetTab (K : PySem.W.Frag) (w : World) (td ty : TE) : TE := fun σ H Q => td σ H fun x H1 => ∃ (d : Addr) (kvs : List (Str × V)), x = .ref d ∧ TabK K w d kvs ∧ ty σ H1 fun y H2 => ∃ z : Str, y = .str z ∧
  (∀ v, (z, v) ∈ kvs → Q v H2) ∧ (z ∉ kvs.map (·.1) → Q .non H2)
theorem pe_getTab {X : Cx} {o e : Expr} {apos cpos : Pos} {td ty : TE} (ho : PE X o td) (he : PE X e ty) (m : M1 X o "get" apos e cpos) : PE X (.Call (.Attribute o "get" apos) [e] [] cpos) (tGetTab X.K X.w td ty) := by
  refine ⟨fun pins s σ H Q inv want => ?_⟩
  refine wpAny_Call_method m.base m.few m.line PySem.F.plainAttrs_dict PySem.F.slot_dict_get PySem.F.type_dict_get (thn (ho.run pins s σ H _ inv want) fun u s1 ⟨x, H1, inv1, rx, d, kvs, ex, T, q1⟩ => ?_)
  subst ex
  obtain rfl : u = Value.ref d := rx
  obtain ⟨es, n, D⟩ := T.kd
  refine ⟨kd_type D inv1, fun b q => ?_, ?_⟩
  · cases q
    exact ⟨_, inv1.kIn _ _ D.at_, rfl⟩
  rw [m.trees]
  refine Calls.callWith_builtin rfl (Calls.evalArgs_plain (Calls.spliced_cons (thn (he.run pins s1 σ H1 _ inv1 q1) fun iv s2 ⟨y, H2, inv2, ry, z, ey, yes, no⟩ => Calls.spliced_nil ?_)))
  subst ey
  obtain ⟨t, rfl⟩ := ry
  have mp := PySem.W.mapOf_K (prog := X.prog) (w := X.w) inv2.kIn D.at_ D.lit
  refine call_meetsIn PySem.F.slot_dict_get (kd_type D inv2) PySem.F.entry_dict_get (PySem.F.args_dict_get_2 _ _) (meets_dict_get (strKind X.prog X.w) d (strKind_is X.prog X.w z t) D.low) ⟨_, mp, ?_⟩
  by_cases c : z ∈ kvs.map (·.1)
  · obtain ⟨p, mp', rfl⟩ := List.mem_map.mp c
    obtain ⟨u0, e0, r0⟩ := T.yes p mp'
    rw [PySem.W.find_K D.at_ e0]
    exact ⟨p.2, H2, inv2.tok _, r0, yes p.2 mp'⟩
  · rw [PySem.W.find_K D.at_ (T.no z c)]
    exact ⟨.non, H2, inv2.tok _, rfl, no c⟩
end VQ
namespace VQ
open PySem PySem.Spec PyProof.Rows L2
/-! ### len(set(xs)), xs a list of tuples of numbers -/
theorem nodup_len {α : Type} [DecidableEq α] : ∀ (l m : List α), l.Nodup → (∀ x ∈ l, x ∈ m) → l.length ≤ m.length
  | [], m, _, _ => Nat.zero_le _
  | x :: l, m, nd, sub => by
    rw [List.nodup_cons] at nd
    have mx := sub x List.mem_cons_self
    have ih := nodup_len l (m.erase x) nd.2 fun y my => by
      have ne : y ≠ x := fun e => nd.1 (by rw [← e]; exact my)
      exact (List.mem_erase_of_ne ne).mpr (sub y (List.mem_cons_of_mem _ my))
    rw [List.length_erase_of_mem mx] at ih
    have : 0 < m.length := List.length_pos_of_mem mx
    rw [List.length_cons]
    omega
theorem twice_less {α : Type} [DecidableEq α] : ∀ (m : List α), ¬ m.Nodup → ∃ r : List α, r.length + 1 = m.length ∧ ∀ x ∈ m, x ∈ r
  | [], h => absurd List.nodup_nil h
  | x :: m, h => by
    by_cases c : x ∈ m
    · exact ⟨m, rfl, fun y my => by
        rcases List.mem_cons.mp my with rfl | my
        · exact c
        · exact my⟩
    · have h' : ¬ m.Nodup := fun n => h (List.nodup_cons.mpr ⟨c, n⟩)
      obtain ⟨r, e, s⟩ := twice_less m h'
      refine ⟨x :: r, by rw [List.length_cons, List.length_cons, e], fun y my => ?_⟩
      rcases List.mem_cons.mp my with rfl | my
      · exact List.mem_cons_self
      · exact List.mem_cons_of_mem _ (s y my)
section
variable {X : Cx}
def tLenSetT (K : PySem.W.Frag) (ta : TE) : TE := fun σ H Q => ta σ H fun x H1 => ∃ (l : Addr) (ks : List (Addr × List Int)), x = V.ref l ∧ (SqL K H1 l (ks.map fun p => V.ref p.1)) ∧ (∀ p ∈ ks, SqT K H1 p.1 (p.2.map V.int)) ∧ ks.length < 64 ∧
  ∀ n : Nat, ((ks.map (·.2)).Nodup → n = ks.length) → (¬ (ks.map (·.2)).Nodup → n < ks.length) → Q (.int (n : Int)) H1
theorem pe_lenSetT {a : Expr} {ta : TE} {p p2 q pos : Pos} (calm : X.calm = true) (hu : X.A.units + 64 < cLine) (ha : PE X a ta) (hg : Gl X "len") (hm : X.mg "len" = none) (hg2 : Gl X "set") (hm2 : X.mg "set" = none)
    (na : starEach [a] X.env = (false, eval a X.env) :: starEach [] X.env := by rfl) : PE X (.Call (.Name "len" p) [.Call (.Name "set" p2) [a] [] q] [] pos) (tLenSetT X.K ta) := by
  refine ⟨fun pins s σ H Q inv want => Call_ (ld_blt inv hg hm PySem.boot_len (PyProof.Rows.callWith_builtin1 (PyProof.Rows.args_cons ?_ rfl) rfl rfl))⟩
  refine Call_ (ld_blt inv hg2 hm2 PyProof.Rows.boot_set ?_)
  refine PyProof.Rows.callWith_type1 (PyProof.Rows.args_cons (thn (ha.run pins s σ H _ inv want) fun v s1 ⟨x, H1, inv1, r1, q1⟩ => PyProof.Rows.args_nil ?_) na) na rfl
  obtain ⟨l, ks, rfl, sq, tup, few, w1⟩ := q1
  cases r1
  obtain ⟨its, rv, pl, _⟩ := inv1.list sq
  refine call_set_tups (P := X.prog) (w := X.w) ks (inv1.ok.hd calm) pl.isList (by simpa using refs_of_vals rv) (fun p hp => inv1.isT (tup p hp)) few (by omega) fun h' tk L es ep t R g kp => ?_
  refine PyProof.Rows.args_nil ?_
  have inv2 : Inv X pins σ H1 { s1 with heap := h', toks := tk } := inv1.kept (t' := tk) kp
  obtain ⟨o, ho, hex, hd⟩ := R.ob
  have sz := R.size (s := { s1 with heap := h', toks := tk })
  have up : ∀ y ∈ L.map (·.2), y ∈ ks.map (·.2) := fun y my => by
    obtain ⟨p, mp, rfl⟩ := List.mem_map.mp my
    exact List.mem_map_of_mem (List.mem_of_mem_take (g.sub p mp))
  have down : ∀ y ∈ ks.map (·.2), y ∈ L.map (·.2) := fun y my => by
    obtain ⟨p, mp, rfl⟩ := List.mem_map.mp my
    exact g.all p (by rw [List.take_length]; exact mp)
  have le1 := nodup_len _ _ R.nd up
  rw [List.length_map, List.length_map] at le1
  refine call_len_set ho hex hd (R.fits (s := { s1 with heap := h', toks := tk })) (by rw [sz]; omega) ⟨.int (L.length : Int), H1, (inv2.tok _).tok _, ⟨_, by rw [sz]⟩, w1 L.length (fun nd => ?_) fun nn => ?_⟩
  · have le2 := nodup_len _ _ nd down
    rw [List.length_map, List.length_map] at le2
    omega
  · obtain ⟨r, er, sr⟩ := twice_less _ nn
    have le3 := nodup_len _ r R.nd fun y my => sr y (up y my)
    rw [List.length_map] at le3 er
    omega
end
end VQ
namespace VQ
open PySem PySem.Spec PyProof.Rows L2
/-! ### sorted(xs) of at most one thing: nothing is compared -/
theorem swo_none : SrtO.Swo fun (_ _ : Value) => false := ⟨fun _ _ _ => rfl, fun _ _ _ _ _ => rfl⟩
def rSort1 (K : PySem.W.Frag) : List V → Hp → VK → Prop := fun vs H Q => ∃ (a : Addr) (xs : List V), vs = [V.ref a] ∧ SqL K H a xs ∧ xs.length ≤ 1 ∧ ∀ p : Addr, H p = none → Q (.ref p) (upd H p (.lst xs))
theorem one_perm {α : Type} {xs ys : List α} (h : xs.length ≤ 1) (p : ys.Perm xs) : ys = xs := by
  match xs, h with
  | [], _ => exact List.Perm.eq_nil p
  | [x], _ => exact List.perm_singleton.mp p
theorem cr_sort1 {X : Cx} : CallR X (.builtin "sorted") (rSort1 X.K) := by
  intro pins s σ H vs us Q inv r h
  obtain ⟨a, xs, rfl, hs, few, q⟩ := h
  obtain ⟨its, rv, hl, hz⟩ := inv.list hs
  rw [Vals.ref1 r]
  have li : its.length ≤ 1 := by rw [← rv.length]; exact few
  refine SrtO.sorted_ord swo_none hl.isList (by rw [← rv.length]; exact hz) (fun h2 => absurd h2 (by omega)) fun out h1 h2 => ?_
  obtain ⟨ep, he'⟩ := PyProof.Rows.sortedAll_at s.heap its out.toArray
  have eo : out = its := one_perm li h2.perm
  subst eo
  exact ⟨.ref _, upd H (s.heap.objs.size + 1) (.lst xs), inv.laid (t' := s.toks) (fun _ _ => PyProof.Rows.sortedAll_old) (Nat.le_succ _) ⟨hz, out, ep, rv, he'⟩, rfl, q _ (inv.hok.fresh (Nat.le_succ _))⟩
/-- either of two rules of a call -/
theorem cr_or {X : Cx} {f : Value} {r1 r2 : List V → Hp → VK → Prop} (h1 : CallR X f r1) (h2 : CallR X f r2) : CallR X f (fun vs H Q => r1 vs H Q ∨ r2 vs H Q) := by
  intro pins s σ H vs us Q inv r h
  rcases h with h | h
  · exact h1 pins s σ H vs us Q inv r h
  · exact h2 pins s σ H vs us Q inv r h
end VQ
namespace VQ
open PySem PySem.Spec PyProof.Rows L2 RZ
open PySem.Sem (wp)
/-! ### list(zip(t, u)), both tuples of one length -/
theorem zip_no_len : typeLookup (.type "zip") "__len__" = pure none := am_miss_of_fast (by decide +kernel)
theorem zip_no_hint : typeLookup (.type "zip") "__length_hint__" = pure none := am_miss_of_fast (by decide +kernel)
section
variable {prog : Program} {w : World} {A : Around} {E : Value → Shared → Prop} {s : Shared}
theorem zipH_next_item {z TI TO T i1 i2 l1 l2 : Addr} {f : Bool} {oT : Obj} {k1 k2 : Nat} {xs ys : Array Value} {x y : Value} {Q : Value → Shared → Prop} (D : ZipApart z TI TO i1 i2 l1 l2)
    (hz : IsZipHeld s.heap z TI TO T f) (hT : s.heap.get? T = some oT) (hTI : IsPair s.heap TI (.ref i1) (.ref i2))
    (h1 : s.heap.IsTupleIter i1 l1 k1) (h2 : s.heap.IsTupleIter i2 l2 k2) (hl1 : s.heap.IsTuple l1 xs) (hl2 : s.heap.IsTuple l2 ys) (hx : xs[k1]? = some x) (hy : ys[k2]? = some y)
    (hQ : ∀ h', IsZipHeld h' z TI TO T true → h'.IsTupleIter i1 l1 (k1 + 1) → h'.IsTupleIter i2 l2 (k2 + 1) → IsPair h' s.heap.objs.size x y → h'.objs.size = s.heap.objs.size + 1 →
      (∀ c o, c ≠ z → c ≠ i1 → c ≠ i2 → s.heap.get? c = some o → h'.get? c = some o) → Q (.ref s.heap.objs.size) { s with heap := h' }) :
    wpAny (model prog w) A (Builtin.«zip.__next__» ⟨[.ref z], []⟩) (fun fin s' => ∃ v, fin = .done (.ret v) ∧ Q v s') E s := by
  show wpAny _ _ (field (.ref z) 2 >>= _) _ _ _
  refine wpAny_bind (wpAny_field hz rfl (x := .bool false) rfl ?_)
  show wpAny _ _ (field (.ref z) 3 >>= _) _ _ _
  refine wpAny_bind (wpAny_field hz rfl (x := .ref TI) rfl ?_)
  refine wpAny_bind (wpAny_seqItems hTI rfl ?_)
  show wpAny _ _ (Builtin.SmallTypes.ownedTupleIsFree (.ref z) >>= _) _ _ _
  refine wpAny_bind (wpAny_tupleHeld_zip hz hT fun h₁ hz₁ hs₁ => ?_)
  simp only [Bool.false_eq_true, if_false]
  refine wpAny_bind ?_
  rw [← Array.forIn_toList]
  simp only [List.forIn_cons, List.forIn_nil]
  refine wpAny_bind (wpAny_bind (wpAny_holding ?_))
  show wpAny _ _ (Builtin.SmallTypes.nextOf (.ref i1) >>= _) _ _ _
  refine wpAny_bind (nextOf_tuple_item (s := { s with heap := h₁ }) (h1.extBut hs₁.extBut D.i1z) (hl1.extBut hs₁.extBut D.l1z) hx fun h₂ h1₂ hs₂ => wpAny_pure ?_)
  refine wpAny_pure ?_
  refine wpAny_bind (wpAny_bind (wpAny_holding ?_))
  show wpAny _ _ (Builtin.SmallTypes.nextOf (.ref i2) >>= _) _ _ _
  refine wpAny_bind (nextOf_tuple_item (s := { s with heap := h₂ }) ((h2.extBut hs₁.extBut D.i2z).extBut hs₂.extBut D.i12.symm) ((hl2.extBut hs₁.extBut D.l2z).extBut hs₂.extBut D.l2i1) hy fun h₃ h2₃ hs₃ => wpAny_pure ?_)
  refine wpAny_pure (wpAny_pure ?_)
  show wpAny _ _ (newTuple [x, y] >>= _) _ _ _
  refine wpAny_bind (wpAny_newTuple ?_)
  have hsz : h₃.objs.size = s.heap.objs.size := by rw [hs₃.1, hs₂.1, hs₁.1]
  have hz₃ : IsZipHeld h₃ z TI TO T true := hs₃.extBut _ _ D.i2z.symm (hs₂.extBut _ _ D.i1z.symm hz₁)
  have hk : ∀ c o, c ≠ z → c ≠ i1 → c ≠ i2 → s.heap.get? c = some o → h₃.get? c = some o := fun c o c1 c2 c3 e => hs₃.extBut _ _ c3 (hs₂.extBut _ _ c2 (hs₁.extBut _ _ c1 e))
  have h1₃ : h₃.IsTupleIter i1 l1 (k1 + 1) := h1₂.extBut hs₃.extBut D.i12
  refine wpAny_pure ⟨_, rfl, ?_⟩
  show Q (.ref h₃.objs.size) _
  have hp : IsPair (h₃.push { cls := .type "tuple", data := .seq #[x, y] }) h₃.objs.size x y := Heap.get?_push_size _ rfl
  have hz4 : (h₃.push { cls := .type "tuple", data := .seq #[x, y] }).objs.size = h₃.objs.size + 1 := Heap.size_push ..
  rw [hsz] at hp hz4 ⊢
  exact hQ _ (Heap.get?_push_of_some _ hz₃) (h1₃.at fun o e => Heap.get?_push_of_some _ e) (h2₃.at fun o e => Heap.get?_push_of_some _ e) hp hz4 fun c o c1 c2 c3 e => Heap.get?_push_of_some _ (hk c o c1 c2 c3 e)
theorem zipH_next_end {z TI TO T i1 i2 l1 l2 : Addr} {f : Bool} {oT : Obj} {k1 k2 : Nat} {xs ys : Array Value} {Q : Fin → Shared → Prop} (hh : A.handled = none) (D : ZipApart z TI TO i1 i2 l1 l2)
    (hz : IsZipHeld s.heap z TI TO T f) (hT : s.heap.get? T = some oT) (hTI : IsPair s.heap TI (.ref i1) (.ref i2))
    (h1 : s.heap.IsTupleIter i1 l1 k1) (h2 : s.heap.IsTupleIter i2 l2 k2) (hl1 : s.heap.IsTuple l1 xs) (hl2 : s.heap.IsTuple l2 ys) (hx : xs[k1]? = none)
    (hE : ∀ h' e, (∀ c o, c ≠ z → c ≠ i1 → c ≠ i2 → s.heap.get? c = some o → h'.get? c = some o) → (∃ o, h'.get? e = some o ∧ o.cls = .type "StopIteration") → E (.ref e) { s with heap := h' }) :
    wpAny (model prog w) A (Builtin.«zip.__next__» ⟨[.ref z], []⟩) Q E s := by
  show wpAny _ _ (field (.ref z) 2 >>= _) _ _ _
  refine wpAny_bind (wpAny_field hz rfl (x := .bool false) rfl ?_)
  show wpAny _ _ (field (.ref z) 3 >>= _) _ _ _
  refine wpAny_bind (wpAny_field hz rfl (x := .ref TI) rfl ?_)
  refine wpAny_bind (wpAny_seqItems hTI rfl ?_)
  show wpAny _ _ (Builtin.SmallTypes.ownedTupleIsFree (.ref z) >>= _) _ _ _
  refine wpAny_bind (wpAny_tupleHeld_zip hz hT fun h₁ hz₁ hs₁ => ?_)
  simp only [Bool.false_eq_true, if_false]
  refine wpAny_bind ?_
  rw [← Array.forIn_toList]
  simp only [List.forIn_cons, List.forIn_nil]
  refine wpAny_bind (wpAny_bind (wpAny_holding ?_))
  show wpAny _ _ (Builtin.SmallTypes.nextOf (.ref i1) >>= _) _ _ _
  refine wpAny_bind (nextOf_tuple_end (s := { s with heap := h₁ }) hh (h1.extBut hs₁.extBut D.i1z) (hl1.extBut hs₁.extBut D.l1z) hx fun h₂ e hs₂ he => ?_)
  exact hE h₂ e (fun c o c1 c2 _ x => hs₂ _ _ c2 (hs₁.extBut _ _ c1 x)) he
theorem pyNext_zipH_item {z TI TO T i1 i2 l1 l2 : Addr} {f : Bool} {oT : Obj} {k1 k2 : Nat} {xs ys : Array Value} {x y : Value} {Q : Option Value → Shared → Prop} (D : ZipApart z TI TO i1 i2 l1 l2)
    (hz : IsZipHeld s.heap z TI TO T f) (hT : s.heap.get? T = some oT) (hTI : IsPair s.heap TI (.ref i1) (.ref i2))
    (h1 : s.heap.IsTupleIter i1 l1 k1) (h2 : s.heap.IsTupleIter i2 l2 k2) (hl1 : s.heap.IsTuple l1 xs) (hl2 : s.heap.IsTuple l2 ys) (hx : xs[k1]? = some x) (hy : ys[k2]? = some y)
    (hQ : ∀ h', IsZipHeld h' z TI TO T true → h'.IsTupleIter i1 l1 (k1 + 1) → h'.IsTupleIter i2 l2 (k2 + 1) → IsPair h' s.heap.objs.size x y → h'.objs.size = s.heap.objs.size + 1 →
      (∀ c o, c ≠ z → c ≠ i1 → c ≠ i2 → s.heap.get? c = some o → h'.get? c = some o) → Q (some (.ref s.heap.objs.size)) { s with heap := h' }) :
    wpAny (model prog w) A (pyNext (.ref z)) Q E s := by
  have hTy : s.TypeIs (.ref z) "zip" := ⟨_, hz, rfl⟩
  unfold pyNext
  exact wpAny_bind (wpAny_attempt (wpAny_callSpecial?_slot (name := Str.ofString "__next__") hTy F.slot_zip_next
    (wpAny_call_entry F.slot_zip_next hTy F.entry_zip_next
      (zipH_next_item D hz hT hTI h1 h2 hl1 hl2 hx hy fun h' a1 a3 a4 a5 a6 a7 => wpAny_pure (hQ h' a1 a3 a4 a5 a6 a7)) (F.args_zip_next_1 _))))
theorem pyNext_zipH_end {z TI TO T i1 i2 l1 l2 : Addr} {f : Bool} {oT : Obj} {k1 k2 : Nat} {xs ys : Array Value} {Q : Option Value → Shared → Prop} (hh : A.handled = none) (D : ZipApart z TI TO i1 i2 l1 l2)
    (hz : IsZipHeld s.heap z TI TO T f) (hT : s.heap.get? T = some oT) (hTI : IsPair s.heap TI (.ref i1) (.ref i2))
    (h1 : s.heap.IsTupleIter i1 l1 k1) (h2 : s.heap.IsTupleIter i2 l2 k2) (hl1 : s.heap.IsTuple l1 xs) (hl2 : s.heap.IsTuple l2 ys) (hx : xs[k1]? = none)
    (hQ : ∀ h', (∀ c o, c ≠ z → c ≠ i1 → c ≠ i2 → s.heap.get? c = some o → h'.get? c = some o) → Q none { s with heap := h' }) : wpAny (model prog w) A (pyNext (.ref z)) Q E s := by
  have hTy : s.TypeIs (.ref z) "zip" := ⟨_, hz, rfl⟩
  unfold pyNext
  refine wpAny_bind (wpAny_attempt (wpAny_callSpecial?_slot (name := Str.ofString "__next__") hTy F.slot_zip_next
    (wpAny_call_entry F.slot_zip_next hTy F.entry_zip_next (zipH_next_end hh D hz hT hTI h1 h2 hl1 hl2 hx fun h' e hk he => ?_) (F.args_zip_next_1 _))))
  obtain ⟨o, ho, hc⟩ := he
  refine wpAny_bind (wpAny_isInstance (T := "StopIteration") (b := true) ⟨o, ho, hc⟩ isSubtype_stop ?_)
  exact wpAny_pure (hQ _ hk)
/-- what stands at turn i -/
structure ZS (h : Heap) (z TI TO i1 i2 l1 l2 S base i : Nat) (xs ys acc : Array Value) (c : Nat) : Prop where
  zp : (i = 0 ∧ IsZip h z TI TO .none ∧ ∃ a b, IsPair h TO a b) ∨ (0 < i ∧ ∃ f, IsZipHeld h z TI TO base f)
  ti : IsPair h TI (.ref i1) (.ref i2)
  t1 : h.IsTupleIter i1 l1 i
  t2 : h.IsTupleIter i2 l2 i
  x1 : h.IsTuple l1 xs
  x2 : h.IsTuple l2 ys
  ls : h.get? S = some { cls := .type "list", dict := none, data := .seq acc c, slots := #[] }
  ac : acc.toList = (List.range i).map fun j => Value.ref (base + j)
  pr : ∀ j, j < i → ∃ x y, xs[j]? = some x ∧ ys[j]? = some y ∧ IsPair h (base + j) x y
  sz : h.objs.size = base + i
theorem zip_loop {z TI TO i1 i2 l1 l2 S base n : Nat} {xs ys : Array Value} {res : Value} {R : Result → Shared → Prop} (hh : A.in1.handled = none) (D : ZipApart z TI TO i1 i2 l1 l2) (lx : xs.size = n) (ly : ys.size = n) (hn : n ≤ 1000)
    (Sz : S ≠ z) (STI : S ≠ TI) (STO : S ≠ TO) (S1 : S ≠ i1) (S2 : S ≠ i2) (Sl1 : S ≠ l1) (Sl2 : S ≠ l2) (bz : z < base) (bI : TI < base) (bO : TO < base) (b1 : i1 < base) (b2 : i2 < base) (bS : S < base) :
    ∀ (k i : Nat) (s : Shared) (acc : Array Value) (c : Nat), n - i = k → i ≤ n → ZS s.heap z TI TO i1 i2 l1 l2 S base i xs ys acc c →
    (∀ h' acc' c', (∀ b o, b ≠ z → b ≠ TO → b ≠ i1 → b ≠ i2 → b ≠ S → s.heap.get? b = some o → h'.get? b = some o) → h'.get? S = some { cls := .type "list", dict := none, data := .seq acc' c', slots := #[] } →
      acc'.toList = (List.range n).map (fun j => Value.ref (base + j)) → (∀ j, j < n → ∃ x y, xs[j]? = some x ∧ ys[j]? = some y ∧ IsPair h' (base + j) x y) → R (.ok (.ret res)) { s with heap := h' }) →
    codeAny (model prog w) A (.builtin "list.extend.loop" ⟨[.ref S, .ref z, res], []⟩) R s := by
  intro k
  induction k with
  | zero =>
    intro i s acc c hk hi Z hR
    have hin : i = n := by omega
    subst hin
    refine codeAny_builtin F.entry_extend_loop ?_
    rw [Around.under_plainId F.plain_extend_loop _]
    show wpAny _ A.in1 (pyNext (.ref z) >>= _) _ _ s
    have hx : xs[i]? = none := Array.getElem?_eq_none (by omega)
    have fin : ∀ h' : Heap, (∀ b o, b ≠ z → b ≠ TO → b ≠ i1 → b ≠ i2 → s.heap.get? b = some o → h'.get? b = some o) → R (.ok (.ret res)) { s with heap := h' } := fun h' kp =>
      hR h' acc c (fun b o n1 n2 n3 n4 _ e => kp b o n1 n2 n3 n4 e) (kp _ _ Sz STO S1 S2 Z.ls) Z.ac fun j hj => by
        obtain ⟨x, y, e1, e2, e3⟩ := Z.pr j hj
        exact ⟨x, y, e1, e2, kp _ _ (by omega) (by omega) (by omega) (by omega) e3⟩
    rcases Z.zp with ⟨_, hz, a, b, hTO⟩ | ⟨_, f, hz⟩
    · refine wpAny_bind (pyNext_zipT_end hh D hz Z.ti hTO Z.t1 Z.t2 Z.x1 Z.x2 (.inl hx) fun h' kp => ?_)
      exact wpAny_pure (fin h' kp)
    · obtain ⟨x, y, _, _, hT⟩ := Z.pr 0 (by omega)
      refine wpAny_bind (pyNext_zipH_end hh D hz hT Z.ti Z.t1 Z.t2 Z.x1 Z.x2 hx fun h' kp => ?_)
      exact wpAny_pure (fin h' fun b o n1 n2 n3 n4 e => kp b o n1 n3 n4 e)
  | succ k ih =>
    intro i s acc c hk hi Z hR
    have hlt : i < n := by omega
    refine codeAny_builtin F.entry_extend_loop ?_
    rw [Around.under_plainId F.plain_extend_loop _]
    show wpAny _ A.in1 (pyNext (.ref z) >>= _) _ _ s
    have hx : xs[i]? = some xs[i] := Array.getElem?_eq_getElem (by omega)
    have hy : ys[i]? = some ys[i] := Array.getElem?_eq_getElem (by omega)
    generalize xs[i] = x at hx
    generalize ys[i] = y at hy
    have szi := Z.sz
    have la : acc.size = i := by
      have e := congrArg List.length Z.ac
      rw [List.length_map, List.length_range, Array.length_toList] at e
      exact e
    have px : ∀ (Q' : Option Value → Shared → Prop) (E' : Value → Shared → Prop), (∀ h' : Heap, (∃ f, IsZipHeld h' z TI TO base f) → h'.IsTupleIter i1 l1 (i + 1) → h'.IsTupleIter i2 l2 (i + 1) → IsPair h' (base + i) x y → h'.objs.size = base + (i + 1) →
        (∀ c o, c ≠ z → c ≠ TO → c ≠ i1 → c ≠ i2 → s.heap.get? c = some o → h'.get? c = some o) → Q' (some (.ref (base + i))) { s with heap := h' }) → wpAny (model prog w) A.in1 (pyNext (.ref z)) Q' E' s := by
      intro Q' E' q
      rcases Z.zp with ⟨i0, hz, a, b, hTO⟩ | ⟨_, f, hz⟩
      · subst i0
        refine pyNext_zipT_item D hz Z.ti hTO Z.t1 Z.t2 Z.x1 Z.x2 hx hy fun h' z' TO' h1' h2' hT hsz kp => ?_
        rw [szi] at hT hsz z' ⊢
        exact q h' ⟨false, z'⟩ h1' h2' hT hsz kp
      · obtain ⟨x0, y0, _, _, hT⟩ := Z.pr 0 (by omega)
        refine pyNext_zipH_item D hz hT Z.ti Z.t1 Z.t2 Z.x1 Z.x2 hx hy fun h' z' h1' h2' hT' hsz kp => ?_
        rw [szi] at hT' hsz ⊢
        exact q h' ⟨true, z'⟩ h1' h2' hT' hsz fun c o n1 n2 n3 n4 e => kp c o n1 n3 n4 e
    refine wpAny_bind (px _ _ fun h' hz' h1' h2' hT hsz kp => ?_)
    have hS' := kp _ _ Sz STO S1 S2 Z.ls
    show wpAny _ A.in1 (updateSeq S (·.push (.ref (base + i))) >>= _) _ _ _
    refine wpAny_bind ?_
    have up : ∀ b o, b ≠ S → h'.get? b = some o → (h'.update S (Obj.mapSeq (·.push (Value.ref (base + i))))).get? b = some o := fun b o nb e => (Heap.get?_update_other _ _ (Ne.symm nb)).trans e
    have big : (1000 : Nat) < sizeLine := by decide
    refine wpAny_updateSeq hS' rfl (wpAny_pure ⟨plainId_quiet F.plain_extend_loop _, ih (i + 1) _ (acc.push (.ref (base + i))) (c + 1) (by omega) hlt ?_ fun h2 acc' c' kp2 hS2 a2 p2 => ?_⟩) (by omega) (by show (acc.push (Value.ref (base + i))).size ≤ sizeLine + 1; rw [Array.size_push, la]; omega)
    · obtain ⟨f, hz'⟩ := hz'
      obtain ⟨o1, q1, r1⟩ := Z.x1
      obtain ⟨o2, q2, r2⟩ := Z.x2
      refine ⟨.inr ⟨Nat.succ_pos _, f, up _ _ (Ne.symm Sz) hz'⟩, up _ _ (Ne.symm STI) (kp _ _ D.TIz D.TITO D.TIi1 D.TIi2 Z.ti), h1'.at fun o e => up _ o (Ne.symm S1) e, h2'.at fun o e => up _ o (Ne.symm S2) e,
        ⟨o1, up _ _ (Ne.symm Sl1) (kp _ _ D.l1z D.l1TO D.l1i1 D.l1i2 q1), r1⟩, ⟨o2, up _ _ (Ne.symm Sl2) (kp _ _ D.l2z D.l2TO D.l2i1 D.l2i2 q2), r2⟩, ?_, ?_, fun j hj => ?_, ?_⟩
      · refine (Heap.get?_update_self _ hS' rfl).trans ?_
        show some (⟨_, _, .seq (acc.push (.ref (base + i))) (if (acc.push (Value.ref (base + i))).size == acc.size then c else c + 1), _⟩ : Obj) = _
        rw [if_neg (by rw [Array.size_push]; simp)]
      · rw [List.range_succ, List.map_append, ← Z.ac]
        simp
      · by_cases e : j = i
        · subst e
          exact ⟨x, y, hx, hy, up _ _ (by omega) hT⟩
        · obtain ⟨x0, y0, e1, e2, e3⟩ := Z.pr j (by omega)
          exact ⟨x0, y0, e1, e2, up _ _ (by omega) (kp _ _ (by omega) (by omega) (by omega) (by omega) e3)⟩
      · show (h'.update S _).objs.size = _
        rw [Heap.size_update, hsz]
    · exact hR h2 acc' c' (fun b o n1 n2 n3 n4 n5 e => kp2 b o n1 n2 n3 n4 n5 (up _ _ n5 (kp _ _ n1 n2 n3 n4 e))) hS2 a2 p2
theorem extend_zip {z TI TO i1 i2 l1 l2 S base n : Nat} {xs ys : Array Value} {res : Value} {R : Result → Shared → Prop} {c₀ : Nat} (hh : A.handled = none) (D : ZipApart z TI TO i1 i2 l1 l2) (lx : xs.size = n) (ly : ys.size = n) (hn : n ≤ 1000)
    (Sz : S ≠ z) (STI : S ≠ TI) (STO : S ≠ TO) (S1 : S ≠ i1) (S2 : S ≠ i2) (Sl1 : S ≠ l1) (Sl2 : S ≠ l2) (bz : z < base) (bI : TI < base) (bO : TO < base) (b1 : i1 < base) (b2 : i2 < base) (bS : S < base) (Z : ZS s.heap z TI TO i1 i2 l1 l2 S base 0 xs ys #[] c₀)
    (hR : ∀ h' acc' c', (∀ b o, b ≠ z → b ≠ TO → b ≠ i1 → b ≠ i2 → b ≠ S → s.heap.get? b = some o → h'.get? b = some o) → h'.get? S = some { cls := .type "list", dict := none, data := .seq acc' c', slots := #[] } →
      acc'.toList = (List.range n).map (fun j => Value.ref (base + j)) → (∀ j, j < n → ∃ x y, xs[j]? = some x ∧ ys[j]? = some y ∧ IsPair h' (base + j) x y) → R (.ok (.ret res)) { s with heap := h' }) :
    wpAny (model prog w) A.in1 (Builtin.List.listExtendWith (.ref S) (.ref z) res)
      (fun fin s' => match fin with | .done f => R (.ok f) s' | .again c' => c'.quiet = true ∧ codeAny (model prog w) A c' R s') (fun e s' => R (.error e) s') s := by
  obtain ⟨hz, ta, tb, hTO⟩ : IsZip s.heap z TI TO .none ∧ ∃ a b, IsPair s.heap TO a b := by
    rcases Z.zp with ⟨_, hz, t⟩ | ⟨h, _⟩
    · exact ⟨hz, t⟩
    · exact absurd h (Nat.lt_irrefl 0)
  have hTy : s.TypeIs (.ref z) "zip" := ⟨_, hz, rfl⟩
  unfold Builtin.List.listExtendWith
  refine wpAny_bind (wpAny_typeOf hTy ?_)
  have h1 : Builtin.List.listSameRef (.ref S) (.ref z) = false := by simp [Builtin.List.listSameRef, Sz]
  have h2 : (Value.type "zip" == Value.type "list") = false := by decide
  have h3 : (Value.type "zip" == Value.type "tuple") = false := by decide
  simp only [h1, h2, h3, Bool.or_false, Bool.false_eq_true, if_false]
  refine wpAny_bind (wpAny_pyIter_zip hz ?_)
  refine wpAny_bind (wpAny_holding ?_)
  unfold Builtin.List.listLengthHint
  refine wpAny_bind (wpAny_specialOf hTy zip_no_len ?_)
  show wpAny _ A.in1 (specialOf (Value.ref z) (Str.ofString "__length_hint__") >>= _) _ _ _
  refine wpAny_bind (wpAny_specialOf hTy zip_no_hint ?_)
  refine wpAny_pure ?_
  show wpAny _ A.in1 (rule "list.extend.makes-room" >>= fun _ => Builtin.List.listTouch (.ref S) >>= fun _ =>
    again (.builtin "list.extend.loop" ⟨[.ref S, .ref z, res], []⟩)) _ _ _
  refine wpAny_bind (wpAny_rule ?_)
  refine wpAny_bind ?_
  show wpAny _ A.in1 (updateSeq S (·.push .none) >>= fun _ => updateSeq S (·.pop)) _ _ _
  have hS := Z.ls
  refine wpAny_bind (wpAny_updateSeq hS rfl ?_)
  have hS₂ := Heap.get?_update_self (Obj.mapSeq (·.push Value.none)) hS rfl
  refine wpAny_updateSeq (hz := by seq_fits) hS₂ rfl ?_
  have hS₃ := Heap.get?_update_self (Obj.mapSeq (·.pop)) hS₂ rfl
  have oth : ∀ b o, b ≠ S → s.heap.get? b = some o → ((s.heap.update S (Obj.mapSeq (·.push Value.none))).update S (Obj.mapSeq (·.pop))).get? b = some o :=
    fun b o hb e => (Heap.get?_update_other _ _ (Ne.symm hb)).trans ((Heap.get?_update_other _ _ (Ne.symm hb)).trans e)
  obtain ⟨o1, q1, r1⟩ := Z.x1
  obtain ⟨o2, q2, r2⟩ := Z.x2
  refine wpAny_pure ⟨plainId_quiet F.plain_extend_loop _, zip_loop hh D lx ly hn Sz STI STO S1 S2 Sl1 Sl2 bz bI bO b1 b2 bS n 0 _ _ _ rfl (Nat.zero_le _)
    ⟨.inl ⟨rfl, oth _ _ (Ne.symm Sz) hz, ta, tb, oth _ _ (Ne.symm STO) hTO⟩, oth _ _ (Ne.symm STI) Z.ti, Z.t1.at fun o e => oth _ o (Ne.symm S1) e, Z.t2.at fun o e => oth _ o (Ne.symm S2) e, ⟨o1, oth _ _ (Ne.symm Sl1) q1, r1⟩, ⟨o2, oth _ _ (Ne.symm Sl2) q2, r2⟩, hS₃, rfl, fun j hj => absurd hj (Nat.not_lt_zero _), ?_⟩
    fun h' acc' c' kp e a p => ?_⟩
  · show ((s.heap.update S _).update S _).objs.size = _
    rw [Heap.size_update, Heap.size_update, Z.sz]
  · exact hR h' acc' c' (fun b o n1 n2 n3 n4 n5 e => kp b o n1 n2 n3 n4 n5 (oth _ _ n5 e)) e a p
theorem call_list_zip {z TI TO i1 i2 l1 l2 n : Nat} {xs ys : Array Value} {Q : Value → Shared → Prop} (hh : A.handled = none) (D : ZipApart z TI TO i1 i2 l1 l2) (lx : xs.size = n) (ly : ys.size = n) (hn : n ≤ 1000)
    (hz : IsZip s.heap z TI TO .none) (hTI : IsPair s.heap TI (.ref i1) (.ref i2)) {ta tb : Value} (hTO : IsPair s.heap TO ta tb) (h1 : s.heap.IsTupleIter i1 l1 0) (h2 : s.heap.IsTupleIter i2 l2 0) (hl1 : s.heap.IsTuple l1 xs) (hl2 : s.heap.IsTuple l2 ys)
    (hQ : ∀ h' acc' c', (∀ b o, b ≠ z → b ≠ TO → b ≠ i1 → b ≠ i2 → s.heap.get? b = some o → h'.get? b = some o) → h'.get? s.heap.objs.size = some { cls := .type "list", dict := none, data := .seq acc' c', slots := #[] } →
      acc'.toList = (List.range n).map (fun j => Value.ref (s.heap.objs.size + 1 + j)) → (∀ j, j < n → ∃ x y, xs[j]? = some x ∧ ys[j]? = some y ∧ IsPair h' (s.heap.objs.size + 1 + j) x y) → Q (.ref s.heap.objs.size) { s with heap := h' }) :
    wpAny (model prog w) A (call (.type "list") [.ref z]) Q E s := by
  refine callType_codes (Q₁ := fun obj s₁ => obj = .ref s.heap.objs.size ∧ s₁ = { s with heap := s.heap.push { cls := .type "list", data := .seq #[] } }) F.called_list (F.typeCall_list_1 _) F.entry_list_init
    (code_list_new _ ⟨rfl, rfl⟩) fun obj s₁ h₁ => ?_
  obtain ⟨rfl, rfl⟩ := h₁
  have hS : (s.heap.push { cls := .type "list", data := .seq #[] }).get? s.heap.objs.size = some { cls := .type "list", data := .seq #[] } := Heap.get?_push_size _ rfl
  have lz := Heap.lt_size hz
  have lI := Heap.lt_size hTI
  have lO := Heap.lt_size hTO
  have lt1 : i1 < s.heap.objs.size := by obtain ⟨_, e, _⟩ := h1; exact Heap.lt_size e
  have lt2 : i2 < s.heap.objs.size := by obtain ⟨_, e, _⟩ := h2; exact Heap.lt_size e
  obtain ⟨o1, q1, r1⟩ := hl1
  obtain ⟨o2, q2, r2⟩ := hl2
  have ll1 := Heap.lt_size q1
  have ll2 := Heap.lt_size q2
  have ne : ∀ b, b < s.heap.objs.size → s.heap.objs.size ≠ b := fun b h => Nat.ne_of_gt h
  have su : ∀ b, b < s.heap.objs.size → b < s.heap.objs.size + 1 := fun b h => Nat.lt_succ_of_lt h
  refine ⟨⟨_, hS, rfl⟩, F.args_list_init_2 _ _, ?_⟩
  show wpAny _ A.in1.in1 (do let old ← Builtin.List.listItems (.ref s.heap.objs.size); Builtin.List.listUpdate (.ref s.heap.objs.size) (fun _ => #[]); letGo old.toList.reverse; Builtin.List.listExtendWith (.ref s.heap.objs.size) (.ref z) .none) _ _ _
  refine wpAny_bind ?_
  unfold Builtin.List.listItems
  refine wpAny_bind (wpAny_seqItems hS rfl (wpAny_pure ?_))
  show wpAny _ A.in1.in1 (updateSeq s.heap.objs.size (fun _ => #[]) >>= fun _ => letGo (#[] : Array Value).toList.reverse >>= fun _ => Builtin.List.listExtendWith (.ref s.heap.objs.size) (.ref z) .none) _ _ _
  refine wpAny_bind (wpAny_updateSeq hS rfl ?_)
  have hS₂ := Heap.get?_update_self (Obj.mapSeq (fun _ => (#[] : Array Value))) hS rfl
  have oth : ∀ b o, s.heap.get? b = some o → ((s.heap.push { cls := .type "list", data := .seq #[] }).update s.heap.objs.size (Obj.mapSeq (fun _ => (#[] : Array Value)))).get? b = some o :=
    fun b o e => (Heap.get?_update_other _ _ (Nat.ne_of_gt (Heap.lt_size e))).trans (Heap.get?_push_of_some _ e)
  refine wpAny_bind (wpAny_letGo ?_)
  refine extend_zip (A := A.in1) (base := s.heap.objs.size + 1) hh D lx ly hn (ne _ lz) (ne _ lI) (ne _ lO) (ne _ lt1) (ne _ lt2) (ne _ ll1) (ne _ ll2) (su _ lz) (su _ lI) (su _ lO) (su _ lt1) (su _ lt2) (Nat.lt_succ_self _)
    ⟨.inl ⟨rfl, oth _ _ hz, ta, tb, oth _ _ hTO⟩, oth _ _ hTI, h1.at fun o e => oth _ o e, h2.at fun o e => oth _ o e, ⟨o1, oth _ _ q1, r1⟩, ⟨o2, oth _ _ q2, r2⟩, hS₂, rfl, fun j hj => absurd hj (Nat.not_lt_zero _), ?_⟩ fun h' acc' c' kp e a p => ?_
  · show ((s.heap.push _).update s.heap.objs.size _).objs.size = _
    rw [Heap.size_update, Heap.size_push]
  · exact ⟨rfl, hQ h' acc' c' (fun b o n1 n2 n3 n4 e => kp b o n1 n2 n3 n4 (Nat.ne_of_lt (Heap.lt_size e)) (oth _ _ e)) e a p⟩
end
/-! #### as the layer has it -/
theorem ne1 {b j m : Nat} (h : j ≠ m) : b + j ≠ b + m := fun e => h (Nat.add_left_cancel e)
theorem ne2 {b s m x : Nat} (h : s ≤ b) (l : x < s) : x ≠ b + m := fun e => by omega
theorem ne3 {S m : Nat} : S ≠ S + 1 + m := fun e => by omega
def layT (H : Hp) (base : Nat) (xs ys : List V) : Nat → Hp
  | 0 => H
  | j + 1 => upd (layT H base xs ys j) (base + j) (.tup [xs.getD j .non, ys.getD j .non])
theorem layT_old {H : Hp} {base : Nat} {xs ys : List V} : ∀ {j : Nat} {a : Nat}, (∀ m, m < j → a ≠ base + m) → layT H base xs ys j a = H a
  | 0, _, _ => rfl
  | j + 1, a, h => (upd_ne (h j (Nat.lt_succ_self j))).trans (layT_old fun m hm => h m (Nat.lt_succ_of_lt hm))
theorem layT_at {H : Hp} {base : Nat} {xs ys : List V} : ∀ {j m : Nat}, m < j → layT H base xs ys j (base + m) = some (.tup [xs.getD m .non, ys.getD m .non])
  | 0, _, h => absurd h (Nat.not_lt_zero _)
  | j + 1, m, h => by
    by_cases e : m = j
    · rw [e]
      exact upd_same
    · exact (upd_ne (ne1 e)).trans (layT_at (by omega))
theorem layT_all {X : Cx} {pins : List (Addr × Obj)} {σ : L2.St} {H : Hp} {s : Shared} {base : Nat} {xs ys : List V} {us vs : List Value} (I : Inv X pins σ H s) (hb : s.heap.objs.size ≤ base) (rx : Vals xs us) (ry : Vals ys vs) (len : xs.length = ys.length) :
    ∀ (j : Nat) (G : Heap), j ≤ xs.length → (∀ b o, s.heap.get? b = some o → G.get? b = some o) → (∀ m, m < j → ∃ x y, us[m]? = some x ∧ vs[m]? = some y ∧ IsPair G (base + m) x y) → Inv X pins σ (layT H base xs ys j) { s with heap := G }
  | 0, G, _, kp, _ => I.kept (t' := s.toks) kp
  | j + 1, G, hj, kp, pr => by
    obtain ⟨G', g1, g2⟩ := restrict G fun b => decide (b ≠ base + j)
    have kp' : ∀ b o, s.heap.get? b = some o → G'.get? b = some o := fun b o e => by
      rw [g1 b (decide_eq_true (ne2 hb (Heap.lt_size e)))]
      exact kp b o e
    have I' := layT_all I hb rx ry len j G' (by omega) kp' fun m hm => by
      obtain ⟨x, y, e1, e2, e3⟩ := pr m (by omega)
      exact ⟨x, y, e1, e2, (g1 _ (decide_eq_true (ne1 (Nat.ne_of_lt hm)))).trans e3⟩
    obtain ⟨x, y, e1, e2, e3⟩ := pr j (Nat.lt_succ_self j)
    have ex : xs[j]? = some (xs.getD j .non) := by rw [List.getD_eq_getElem?_getD, List.getElem?_eq_getElem (by omega)]; rfl
    have ey : ys[j]? = some (ys.getD j .non) := by rw [List.getD_eq_getElem?_getD, List.getElem?_eq_getElem (by omega)]; rfl
    obtain ⟨x', h1, r1⟩ := rx.get ex
    obtain ⟨y', h2, r2⟩ := ry.get ey
    rw [e1] at h1
    rw [e2] at h2
    cases h1
    cases h2
    have nw : layT H base xs ys j (base + j) = none := (layT_old fun m hm => ne1 (Nat.ne_of_gt hm)).trans (I.hok.fresh (Nat.le_trans hb (Nat.le_add_right _ _)))
    exact I'.laidN (t' := s.toks) (fun b o e => by
      by_cases c : b = base + j
      · have := g2 b (decide_eq_false (by rw [c]; exact fun h => h rfl))
        have e' : G'.get? b = some o := e
        rw [this] at e'
        cases e'
      · exact (g1 b (decide_eq_true c)).symm.trans e) (g2 _ (decide_eq_false fun h => h rfl)) nw ⟨by show 2 ≤ sizeLine; decide, [x, y], .cons r1 (.cons r2 .nil), ⟨_, e3, rfl, _, rfl⟩⟩
theorem vals_refs : ∀ l : List Addr, Vals (l.map V.ref) (l.map Value.ref)
  | [] => .nil
  | a :: l => .cons rfl (vals_refs l)
def tListZip (K : PySem.W.Frag) (ta : TA) : TE := fun σ H Q => ta σ H fun vs H1 => ∃ (a b : Addr) (xs ys : List V), vs = [.ref a, .ref b] ∧ SqT K H1 a xs ∧ SqT K H1 b ys ∧ xs.length = ys.length ∧ xs.length ≤ 1000 ∧
  ∀ (p : Addr) (ps : List Addr) (H2 : Hp), H1 p = none → Same H1 H2 → H2 p = some (.lst (ps.map V.ref)) → ps.length = xs.length → (∀ (i : Nat) (q : Addr) (x y : V), ps[i]? = some q → xs[i]? = some x → ys[i]? = some y → H2 q = some (.tup [x, y])) → Q (.ref p) H2
theorem pe_listzip {X : Cx} {e e2 : Expr} {ta : TA} {p p2 pos pos2 : Pos} (hg : Gl X "list") (hm : X.mg "list" = none) (hg2 : Gl X "zip") (hm2 : X.mg "zip" = none) (ha : PA X [e, e2] ta) (hc : X.calm = true := by rfl)
    (hs : starEach [e, e2] X.env = (false, eval e X.env) :: starEach [e2] X.env := by rfl) (hpl : (backTo pos2 (starEach [e2] X.env)).any (·.1) = false := by rfl) :
    PE X (.Call (.Name "list" p) [.Call (.Name "zip" p2) [e, e2] [] pos2] [] pos) (tListZip X.K ta) := by
  refine ⟨fun pins s σ H Q inv want => Call_ (ld_blt inv hg hm PyProof.Rows.boot_list (PyProof.Rows.callWith_type1 (PyProof.Rows.args_cons (Call_ (ld_blt inv hg2 hm2 PyProof.Rows.boot_zip ?_)) rfl) rfl rfl))⟩
  refine PyProof.Rows.callWith_type1 (thn (ha.run pos2 pins s σ H _ inv want) fun us s1 ⟨vs, H1, I1, r1, q1⟩ => ?_) hs hpl
  obtain ⟨a, b, xs, ys, ev, hqx, hqy, len, few, q⟩ := q1
  subst ev
  cases r1 with
  | cons r rr =>
    cases rr with
    | cons r' rr =>
      cases rr
      cases r
      cases r'
      obtain ⟨its, rv, p1, _⟩ := I1.tuple hqx
      obtain ⟨its2, rv2, p2, _⟩ := I1.tuple hqy
      obtain ⟨o1, ho1, t1⟩ := id p1
      obtain ⟨o2, ho2, t2⟩ := id p2
      have l1 := rv.length
      have l2 := rv2.length
      refine call_zipT (show s1.heap.IsTuple a its.toArray from p1) (show s1.heap.IsTuple b its2.toArray from p2) fun h' hz hTI hTO h1 h2 hsz hk => PyProof.Rows.args_nil ?_
      have D := PySem.W.ktu_apart s1.heap.objs.size a b (Heap.lt_size ho1) (Heap.lt_size ho2)
      refine call_list_zip (s := { s1 with heap := h' }) (n := xs.length) (xs := its.toArray) (ys := its2.toArray) (I1.ok.hd hc) D (by rw [List.size_toArray]; omega) (by rw [List.size_toArray]; omega) few hz hTI hTO h1 h2 ⟨o1, hk _ _ ho1, t1⟩ ⟨o2, hk _ _ ho2, t2⟩ fun h2 acc c kp hS ea pr => ?_
      have kept : ∀ b o, s1.heap.get? b = some o → h2.get? b = some o := fun b o e => by
        have lb := Heap.lt_size e
        exact kp b o (Nat.ne_of_lt (Nat.lt_of_lt_of_le lb (Nat.le_add_right _ _))) (Nat.ne_of_lt (Nat.lt_of_lt_of_le lb (Nat.le_add_right _ _))) (Nat.ne_of_lt lb) (Nat.ne_of_lt (Nat.lt_of_lt_of_le lb (Nat.le_add_right _ _))) (hk b o e)
      have hS' : h2.get? h'.objs.size = some { cls := .type "list", dict := none, data := .seq acc c, slots := #[] } := hS
      have pr' : ∀ j, j < xs.length → ∃ x y, its[j]? = some x ∧ its2[j]? = some y ∧ IsPair h2 (h'.objs.size + 1 + j) x y := fun j hj => by
        obtain ⟨x, y, e1, e2, e3⟩ := pr j hj
        exact ⟨x, y, by simpa using e1, by simpa using e2, e3⟩
      have ea' : acc.toList = (List.range xs.length).map (fun j => Value.ref (h'.objs.size + 1 + j)) := ea
      show ∃ v H', _
      generalize h'.objs.size = S at hS' pr' ea' hsz ⊢
      obtain ⟨G, g1, g2⟩ := restrict h2 fun b => decide (b ≠ S)
      have IA := layT_all I1 (base := S + 1) (by omega) rv rv2 len xs.length G (Nat.le_refl _) (fun b o e => (g1 b (decide_eq_true (Nat.ne_of_lt (Nat.lt_of_lt_of_le (Heap.lt_size e) (by omega))))).trans (kept b o e)) fun m hm => by
        obtain ⟨x, y, e1, e2, e3⟩ := pr' m hm
        exact ⟨x, y, e1, e2, (g1 _ (decide_eq_true (Ne.symm ne3))).trans e3⟩
      have hS0 : H1 S = none := I1.hok.fresh (by omega)
      have nw : layT H1 (S + 1) xs ys xs.length S = none := (layT_old fun m hm => ne3).trans hS0
      have big : (1000 : Nat) < sizeLine := by decide
      have vv : Vals (((List.range xs.length).map fun j => S + 1 + j).map V.ref) acc.toList := by
        rw [ea', show (List.range xs.length).map (fun j => Value.ref (S + 1 + j)) = ((List.range xs.length).map fun j => S + 1 + j).map Value.ref by rw [List.map_map]; rfl]
        exact vals_refs _
      have IB := IA.laidN (t' := s1.toks) (h' := h2) (a := S) (o := .lst (((List.range xs.length).map fun j => S + 1 + j).map V.ref)) (fun b o e => by
        by_cases c : b = S
        · have := g2 b (decide_eq_false (by rw [c]; exact fun h => h rfl))
          have e' : G.get? b = some o := e
          rw [this] at e'
          cases e'
        · exact (g1 b (decide_eq_true c)).symm.trans e) (g2 _ (decide_eq_false fun h => h rfl)) nw ⟨by rw [List.length_map, List.length_map, List.length_range]; omega, acc.toList, c, vv, by rw [hS', Array.toArray_toList]⟩
      refine ⟨.ref S, _, IB, rfl, q S _ _ hS0 (fun x o e => ?_) upd_same (by rw [List.length_map, List.length_range]) fun i t x y et ex ey => ?_⟩
      · rw [upd_ne (fun c => by rw [c, hS0] at e; cases e), layT_old fun m hm c => by rw [c, I1.hok.fresh (by omega)] at e; cases e]
        exact e
      · have li : i < xs.length := (List.getElem?_eq_some_iff.mp ex).1
        rw [List.getElem?_map, List.getElem?_range li] at et
        have et' : S + 1 + i = t := by injection et
        subst et'
        rw [upd_ne (Ne.symm ne3), layT_at li, List.getD_eq_getElem?_getD, List.getD_eq_getElem?_getD, ex, ey]
        rfl
end VQ
namespace VQ
open PySem L2 LamX
/-! ### questions -/
abbrev letters : Str := "abcdefghijklmnopqrstuvwxyz"
def letB (c : Nat) : Bool := decide (c ∈ letters.cps.toList)
/-- a name of at most m letters -/
structure NameS (m : Nat) (z : Str) : Prop where
  lo : 1 ≤ z.length
  hi : z.length ≤ m
  nf : z ≠ "find"
  ns : z ≠ "some"
  lt : ∀ c ∈ z.cps.toList, letB c = true
inductive Term where
  | wo (n : Nat)
  | nm (z : Str)
  deriving DecidableEq
def termV : Term → V
  | .wo n => numV n
  | .nm z => .str z
theorem termV_flat (t : Term) : flatV (termV t) = true := by cases t <;> rfl
theorem terms_flat (ts : List Term) : (ts.map termV).all flatV = true := by
  rw [List.all_map]
  exact List.all_eq_true.mpr fun t _ => termV_flat t
theorem strs_flat (zs : List Str) : (zs.map V.str).all flatV = true := by
  rw [List.all_map]
  exact List.all_eq_true.mpr fun t _ => rfl
structure Qn where
  names : List Str
  many : Nat
  ties : List (Str × List Term)
  less : List (Str × Str)
/-- values and what they stand for, one by one -/
inductive Each {α : Type} (R : V → α → Prop) : List V → List α → Prop
  | nil : Each R [] []
  | cons {v : V} {x : α} {vs : List V} {xs : List α} (h : R v x) (t : Each R vs xs) : Each R (v :: vs) (x :: xs)
theorem Each.len {α : Type} {R : V → α → Prop} : ∀ {vs : List V} {xs : List α}, Each R vs xs → vs.length = xs.length
  | _, _, .nil => rfl
  | _, _, .cons _ t => congrArg (· + 1) t.len
theorem Each.get {α : Type} {R : V → α → Prop} : ∀ {vs : List V} {xs : List α}, Each R vs xs → ∀ {i : Nat} {v : V}, vs[i]? = some v → ∃ x, xs[i]? = some x ∧ R v x
  | _, _, .nil, _, _, h => by simp at h
  | _, _, .cons h t, 0, _, e => by
    cases e
    exact ⟨_, rfl, h⟩
  | _, _, .cons h t, i + 1, _, e => t.get (i := i) e
theorem Each.at_ {α : Type} {R : V → α → Prop} : ∀ {vs : List V} {xs : List α}, Each R vs xs → ∀ {i : Nat} {x : α}, xs[i]? = some x → ∃ v, vs[i]? = some v ∧ R v x
  | _, _, .nil, _, _, h => by simp at h
  | _, _, .cons h t, 0, _, e => by
    cases e
    exact ⟨_, rfl, h⟩
  | _, _, .cons h t, i + 1, _, e => t.at_ (i := i) e
theorem Each.mono {α : Type} {R S : V → α → Prop} (f : ∀ v x, R v x → S v x) : ∀ {vs : List V} {xs : List α}, Each R vs xs → Each S vs xs
  | _, _, .nil => .nil
  | _, _, .cons h t => .cons (f _ _ h) (t.mono f)
theorem Each.snoc {α : Type} {R : V → α → Prop} : ∀ {vs : List V} {xs : List α}, Each R vs xs → ∀ {v : V} {x : α}, R v x → Each R (vs ++ [v]) (xs ++ [x])
  | _, _, .nil, _, _, h => .cons h .nil
  | _, _, .cons h t, _, _, h' => .cons h (t.snoc h')
/-- tuples stand as they stood -/
def Tups (H H' : Hp) : Prop := (∀ a xs, H a = some (.tup xs) → H' a = some (.tup xs)) ∧ ∀ a xs, TupN H a xs → TupN H' a xs
theorem same_tups {H H' : Hp} (s : Same H H') : Tups H H' := ⟨fun a xs h => s _ _ h, fun a xs h => h.same s⟩
theorem Tups.trans {H H1 H2 : Hp} (a : Tups H H1) (b : Tups H1 H2) : Tups H H2 := ⟨fun p xs h => b.1 _ _ (a.1 _ _ h), fun p xs h => b.2 _ _ (a.2 _ _ h)⟩
def TieAt (H : Hp) (v : V) (t : Str × List Term) : Prop := ∃ a c, v = .ref a ∧ H a = some (.tup [.str t.1, .ref c]) ∧ TupN H c (t.2.map termV)
def PairAt (H : Hp) (v : V) (p : Str × Str) : Prop := ∃ a, v = .ref a ∧ H a = some (.tup [.str p.1, .str p.2])
theorem TieAt.moved {H H' : Hp} (s : Tups H H') {v : V} {t : Str × List Term} (h : TieAt H v t) : TieAt H' v t := by
  obtain ⟨a, c, e, h1, h2⟩ := h
  exact ⟨a, c, e, s.1 _ _ h1, s.2 _ _ h2⟩
theorem PairAt.moved {H H' : Hp} (s : Tups H H') {v : V} {t : Str × Str} (h : PairAt H v t) : PairAt H' v t := by
  obtain ⟨a, e, h1⟩ := h
  exact ⟨a, e, s.1 _ _ h1⟩
def NmAt (H : Hp) (a : Addr) (zs : List Str) : Prop := H a = some (.tup (zs.map V.str))
/-- names in a tuple whose methods can be called -/
def NmN (H : Hp) (a : Addr) (zs : List Str) : Prop := TupN H a (zs.map V.str)
theorem NmN.same {H H' : Hp} (s : Same H H') {a : Addr} {zs : List Str} (h : NmN H a zs) : NmN H' a zs := TupN.same s h
theorem NmN.sq {K : PySem.W.Frag} {H : Hp} {a : Addr} {zs : List Str} (h : NmN H a zs) : SqT K H a (zs.map V.str) := TupN.sq h
structure QParts (H : Hp) (n t l : Addr) (q : Qn) : Prop where
  nm : NmN H n q.names
  ti : ∃ ts, H t = some (.tup ts) ∧ Each (TieAt H) ts q.ties
  le : ∃ ls, H l = some (.tup ls) ∧ Each (PairAt H) ls q.less
def QAt (H : Hp) (a : Addr) (q : Qn) : Prop := ∃ n t l, H a = some (.tup [.ref n, .int (q.many : Nat), .ref t, .ref l]) ∧ QParts H n t l q
theorem QParts.moved {H H' : Hp} (s : Tups H H') {n t l : Addr} {q : Qn} (h : QParts H n t l q) : QParts H' n t l q := by
  obtain ⟨h1, ⟨ts, h2, h3⟩, ls, h4, h5⟩ := h
  exact ⟨s.2 _ _ h1, ⟨ts, s.1 _ _ h2, h3.mono fun _ _ z => z.moved s⟩, ls, s.1 _ _ h4, h5.mono fun _ _ z => z.moved s⟩
theorem QAt.moved {H H' : Hp} (s : Tups H H') {a : Addr} {q : Qn} (h : QAt H a q) : QAt H' a q := by
  obtain ⟨n, t, l, h1, h2⟩ := h
  exact ⟨n, t, l, s.1 _ _ h1, h2.moved s⟩
def TermOk (names : List Str) : Term → Prop
  | .wo n => n < 32
  | .nm z => z ∈ names
structure TieOk (names : List Str) (t : Str × List Term) : Prop where
  nm : NameS 8 t.1
  lo : 1 ≤ t.2.length
  hi : t.2.length ≤ 4
  tm : ∀ x ∈ t.2, TermOk names x
structure QOk (q : Qn) : Prop where
  n1 : 1 ≤ q.names.length
  n5 : q.names.length ≤ 5
  nm : ∀ z ∈ q.names, NameS 4 z
  nd : q.names.Nodup
  m1 : 1 ≤ q.many
  mn : q.many ≤ q.names.length
  t1 : 1 ≤ q.ties.length
  t6 : q.ties.length ≤ 6
  tt : ∀ t ∈ q.ties, TieOk q.names t
  l3 : q.less.length ≤ 3
  ll : ∀ p ∈ q.less, p.1 ∈ q.names ∧ p.2 ∈ q.names ∧ p.1 ≠ p.2
  all : ∀ z ∈ q.names, ∃ t ∈ q.ties, Term.nm z ∈ t.2
theorem inV_str {z : Str} {zs : List Str} : inV (.str z) (zs.map V.str) = decide (z ∈ zs) := by
  unfold inV
  rw [List.any_map]
  by_cases h : z ∈ zs
  · rw [decide_eq_true h, List.any_eq_true]
    exact ⟨z, h, beq_self_eq_true z⟩
  · rw [decide_eq_false h, List.any_eq_false]
    intro y m e
    have e' : (y == z) = true := e
    exact h (by rw [← beq_iff_eq.mp e']; exact m)
theorem inV_term {z : Str} {ts : List Term} : inV (.str z) (ts.map termV) = decide (Term.nm z ∈ ts) := by
  unfold inV
  rw [List.any_map]
  by_cases h : Term.nm z ∈ ts
  · rw [decide_eq_true h, List.any_eq_true]
    exact ⟨_, h, beq_self_eq_true z⟩
  · rw [decide_eq_false h, List.any_eq_false]
    intro y m e
    cases y with
    | wo n => cases e
    | nm y =>
      have e' : (y == z) = true := e
      exact h (by rw [← beq_iff_eq.mp e']; exact m)
/-- where a def stands, wherever -/
def AtE (K : PySem.W.Frag) (mg : Str → Option Value) (x : Str) (st : Stmt) (ps : List Str) : Prop := ∃ f fd, At K mg x st ps f fd
/-- a def that stands and keeps a promise -/
def Has (P : Program) (w : World) (K : PySem.W.Frag) (mg : Str → Option Value) (base : Heap) (C : CXT) (k : Nat) (x : Str) (st : Stmt) (ps : List Str) (sp : Sp) : Prop := ∃ f fd, At K mg x st ps f fd ∧ FnOk P w K mg base C k f fd ps sp
abbrev nIsTuple : List Str := ["thing", "least", "most"]
abbrev sIsName : Stmt := top 28
abbrev nIsName : List Str := ["thing", "most", "sign"]
theorem scIsName : FnScope nIsName ["thing", "most"] (defScope sIsName) := ⟨rfl, rfl, rfl, by decide +kernel, rfl, by decide +kernel, by decide +kernel⟩
abbrev nAreNames : List Str := ["thing", "part"]
abbrev nIsTie : List Str := ["thing", "names", "table", "terms", "term"]
abbrev nIsPair : List Str := ["thing", "names", "part"]
abbrev nAllTied : List Str := ["names", "ties", "terms", "tie", "term", "name"]
abbrev nIsQuestion : List Str := ["thing", "names", "many", "ties", "less", "tie", "pair"]
abbrev nNeedQuestion : List Str := ["question"]
structure Wq (K : PySem.W.Frag) (mg : Str → Option Value) (aB : Addr) : Prop where
  mp : ∃ t, mg "MOST_PLACES" = some (.int 5 t)
  mw : ∃ t, mg "MOST_WIDTH" = some (.int 4 t)
  ml : ∃ t, mg "MOST_LETTERS" = some (.int 8 t)
  mn : ∃ t, mg "MOST_NAME" = some (.int 4 t)
  mt : ∃ t, mg "MOST_TIES" = some (.int 6 t)
  mr : ∃ t, mg "MOST_PAIRS" = some (.int 3 t)
  wo : ∃ t, mg "WORTHS" = some (.int 32 t)
  le : ∃ t, mg "LETTERS" = some (.str letters t)
  ba : mg "BARRED" = some (.ref aB)
  bt : ∀ H, SqT K H aB [.str "find", .str "some"]
  set : mg "set" = none
section
variable {P : Program} {w : World} {K : PySem.W.Frag} {mg : Str → Option Value} {base : Heap} {aB : Addr}
/-- a thing that is no tuple, or the items of one -/
inductive TupO (K : PySem.W.Frag) (H : Hp) : V → Option (List V) → Prop
  | tup {a : Addr} {xs : List V} (h : H a = some (.tup xs)) : TupO K H (.ref a) (some xs)
  | nod {a : Addr} {xs : List V} (h : TupN H a xs) : TupO K H (.ref a) (some xs)
  | oth {x : V} {t : String} (ty : TyX K H x (.type t)) (m : t ∈ basics) (nt : t ≠ "tuple") : TupO K H x none
def lenO (lo hi : Int) : Option (List V) → Bool
  | none => false
  | some xs => decide (lo ≤ xs.length) && decide ((xs.length : Int) ≤ hi)
def spIsTuple (K : PySem.W.Frag) : Sp := fun vs H Q _ => ∃ (x : V) (o : Option (List V)) (lo hi : Int), vs = [x, .int lo, .int hi] ∧ TupO K H x o ∧ Q (.bl (lenO lo hi o)) H
def spIsName : Sp := fun vs H Q _ => ∃ (z : Str) (m : Nat), vs = [.str z, .int (m : Nat)] ∧ NameS m z ∧ m ≤ 8 ∧ ∀ H', Same H H' → Q (.bl true) H'
theorem has_isname (b : Blt mg) (W : Wq K mg aB) (a : AtE K mg "is_name" sIsName ["thing", "most"]) : Has P w K mg base CX0 1 "is_name" sIsName ["thing", "most"] spIsName := by
  obtain ⟨f, fd, a⟩ := a
  obtain ⟨tle, Wle⟩ := W.le
  refine ⟨f, fd, a, a.fn.ok scIsName (fun vs H Q E h => ?_) (fun cdv A outer s H vs Q E hr h => ?_)⟩
  · obtain ⟨z, m, rfl, _⟩ := h
    rfl
  · obtain ⟨z, m, rfl, nz, m8, k⟩ := h
    refine ⟨_,
    (pss_cons (ps_if (PW.pt (pw_or (pt_not (pt_val (pe_isi (pv 0) rfl b.isi rfl b.str (c := "str") (by decide +kernel)))) (pw_or1 (pt_not (pt_chain op_le op_le pe_int (pe_callB call_len_str (by rfl) b.len PySem.boot_len (pa_cons (pv 0) pa_nil)) (pv 1))))))
      (pss_one (ps_ret pe_bl))
      pss_nil)
    (pss_one (ps_ret (pe_and (pe_cmpR op_notIn_seq (pv 0) (pe_glob (v := .ref aB) rfl W.ba rfl) rfl) (pe_one (pe_callB (cr_all rfl) (by rfl) b.all (by decide +kernel) (pa_cons (pe_lc (own := [("sign", 2)]) (g := (gName 2)) (tt := tYes) (te := (tOp rInSign (tVar 2) (tC (.str letters)))) rfl scIsName.nd (pi_str (pv 0)) (blkOk_by (N := nIsName) (sc := defScope sIsName) (by decide +kernel)) (fun _ _ _ _ _ => (pg_name (i := 2) scIsName.nd rfl (.inl rfl))) (fun _ _ _ _ _ => pts_nil) (fun _ _ _ _ _ => (pe_cmpR op_in_sign (pv 2) (pe_glob (v := .str letters) rfl Wle ⟨_, rfl⟩) rfl))) pa_nil))))))), ?_⟩
    have l8 := nz.hi
    refine rd_isi rfl (.base (.str z)) (b := true) (by decide +kernel) ⟨_, rfl, iteF ?_⟩
    refine ⟨_, rfl, z, rfl, Nat.le_trans (show z.length ≤ 1000 by omega) (by decide), 1, _, rfl, rfl, _, rfl, ?_⟩
    rw [if_pos (decide_eq_true (show (1 : Int) ≤ (z.length : Int) by have := nz.lo; omega))]
    refine ⟨_, rfl, _, _, rfl, rfl, _, rfl, ?_⟩
    rw [decide_eq_true (show (z.length : Int) ≤ (m : Int) by omega)]
    refine iteF ?_
    refine ⟨_, rfl, aB, _, rfl, .inr (W.bt H), rfl, rfl, _, rfl, ?_⟩
    have e1 : inV (.str z) [.str "find", .str "some"] = false := by
      have e := inV_str (z := z) (zs := ["find", "some"])
      rw [show ([.str "find", .str "some"] : List V) = (["find", "some"] : List Str).map V.str from rfl, e]
      refine decide_eq_false fun m => ?_
      rcases List.mem_cons.mp m with q | q
      · exact nz.nf q
      · exact nz.ns (List.mem_singleton.mp q)
    rw [e1]
    refine iteT ?_
    refine ⟨_, rfl, z, rfl, fun D hD => ?_⟩
    refine lc_textS (fun i acc _ => acc = ((z.cps.toList.take i).map letB).map V.bl) hD (show z.cps.size < 1000 by have : z.cps.size = z.length := rfl; omega) (fun _ _ _ _ _ h => h) rfl ?_ ?_
    · rintro i c acc H2 hc s2 h2 rfl k1 k2 y1 y2
      refine ⟨rfl, yes_turn ?_⟩
      refine ⟨_, rfl, c, letters, rfl, rfl, y1 _ _ (Same.refl _) ?_⟩
      rw [List.take_add_one, show z.cps.toList[i]? = some c by rw [Array.getElem?_toList]; exact hc, List.map_append, List.map_append]
      rfl
    · rintro acc H2 s2 h2 rfl
      refine ⟨D, _, rfl, SqL.of h2, ?_⟩
      have e2 : ((z.cps.toList.take z.cps.size).map letB).all id = true := by
        rw [List.take_of_length_le (by simp), List.all_map]
        exact List.all_eq_true.mpr fun c m => nz.lt c m
      rw [e2]
      exact k H2 s2
def spAreNames : Sp := fun vs H Q _ => ∃ (a : Addr) (zs : List Str), vs = [.ref a] ∧ NmN H a zs ∧ 1 ≤ zs.length ∧ zs.length ≤ 5 ∧ (∀ z ∈ zs, NameS 4 z) ∧ zs.Nodup ∧ ∀ H', Same H H' → Q (.bl true) H'
def spIsTie (K : PySem.W.Frag) : Sp := fun vs H Q _ => ∃ (v : V) (a : Addr) (zs : List Str) (t : Str × List Term), vs = [v, .ref a] ∧ TieAt H v t ∧ NmN H a zs ∧ TieOk zs t ∧ ∀ H', Same H H' → Q (.bl true) H'
def spIsPair (K : PySem.W.Frag) : Sp := fun vs H Q _ => ∃ (v : V) (a : Addr) (zs : List Str) (p : Str × Str), vs = [v, .ref a] ∧ PairAt H v p ∧ NmN H a zs ∧ zs.length ≤ 5 ∧ p.1 ∈ zs ∧ p.2 ∈ zs ∧ p.1 ≠ p.2 ∧ ∀ H', Same H H' → Q (.bl true) H'
end
end VQ
namespace VQ
open PySem L2 LamX
/-! ### comprehensions with two clauses -/
theorem lc2_tup {K : PySem.W.Frag} {a : Addr} {xs : List V} {g g1 : TG} {tt tt1 : TT} {wi1 : TI} {te : TE} {vs vs1 : List Nat} {σ : L2.St} {H1 : Hp} {D : Addr} {Qd : Hp → Prop} (Pv : Nat → Hp → Prop) (h0 : Pv 0 (upd H1 D (.lst []))) (there : ∀ i H, Pv i H → SqT K H a xs)
    (turn : ∀ (i : Nat) (x : V) (H : Hp), xs[i]? = some x → Pv i H → g x (wipe σ vs) H fun σ2 H2 => wipe σ2 vs = wipe σ vs ∧ tt σ2 H2 fun c H3 =>
      if c = true then wi1 σ2 H3 fun J1 H4 => ∃ W1 : Nat → Nat → Hp → Prop, (∃ m, W1 0 m H4) ∧ ∀ j k H, W1 j k H →
        (J1.stop j H ∧ Pv (i + 1) H) ∨ (J1.go j H ∧ ∃ Nx1 : Hp → Prop, (∀ H', Nx1 H' → ∃ k', k' < k ∧ W1 (j + 1) k' H') ∧ ∀ x H', J1.yld j H x H' → g1 x (wipe σ2 vs1) H' fun σ3 H5 => wipe σ3 vs1 = wipe σ2 vs1 ∧ tt1 σ3 H5 fun c H6 =>
          if c = true then te σ3 H6 fun y H7 => ∃ acc, H7 D = some (.lst acc) ∧ acc.length < sizeLine ∧ Nx1 (upd H7 D (.lst (acc ++ [y]))) else Nx1 H6)
      else Pv (i + 1) H3) (fin : ∀ H, Pv xs.length H → Qd H) :
    ∃ W : Nat → Nat → Hp → Prop, (∃ m, W 0 m (upd H1 D (.lst []))) ∧ ∀ i m H, W i m H →
      ((Itt K a).stop i H ∧ Qd H) ∨ ((Itt K a).go i H ∧ ∃ Nx : Hp → Prop, (∀ H', Nx H' → ∃ m', m' < m ∧ W (i + 1) m' H') ∧ ∀ x H', (Itt K a).yld i H x H' → g x (wipe σ vs) H' fun σ2 H2 => wipe σ2 vs = wipe σ vs ∧ tt σ2 H2 fun c H3 =>
        if c = true then wi1 σ2 H3 fun J1 H4 => ∃ W1 : Nat → Nat → Hp → Prop, (∃ m, W1 0 m H4) ∧ ∀ j k H, W1 j k H →
          (J1.stop j H ∧ Nx H) ∨ (J1.go j H ∧ ∃ Nx1 : Hp → Prop, (∀ H', Nx1 H' → ∃ k', k' < k ∧ W1 (j + 1) k' H') ∧ ∀ x H', J1.yld j H x H' → g1 x (wipe σ2 vs1) H' fun σ3 H5 => wipe σ3 vs1 = wipe σ2 vs1 ∧ tt1 σ3 H5 fun c H6 =>
            if c = true then te σ3 H6 fun y H7 => ∃ acc, H7 D = some (.lst acc) ∧ acc.length < sizeLine ∧ Nx1 (upd H7 D (.lst (acc ++ [y]))) else Nx1 H6)
        else Nx H3) := by
  refine ⟨fun i m H => m + i = xs.length ∧ Pv i H, ⟨xs.length, rfl, h0⟩, ?_⟩
  rintro i m H ⟨em, p⟩
  have sq := there i H p
  by_cases lt : i < xs.length
  · refine .inr ⟨⟨xs, xs[i], sq, List.getElem?_eq_getElem lt⟩, Pv (i + 1), fun H' p' => ⟨m - 1, by omega, by omega, p'⟩, ?_⟩
    rintro x H' ⟨rfl, ex⟩
    exact turn i x _ (ex xs sq) p
  · obtain rfl : i = xs.length := by omega
    exact .inl ⟨⟨xs, sq, Nat.le_refl _⟩, fin H p⟩
theorem in_tup {K : PySem.W.Frag} {a : Addr} {ys : List V} {g1 : TG} {tt1 : TT} {te : TE} {vs1 : List Nat} {σ2 : L2.St} {H4 : Hp} {D : Addr} {Nx : Hp → Prop} (Pw : Nat → Hp → Prop) (h0 : Pw 0 H4) (there : ∀ i H, Pw i H → SqT K H a ys)
    (turn : ∀ (j : Nat) (y : V) (H : Hp), ys[j]? = some y → Pw j H → Trn g1 tt1 te vs1 σ2 y H (fun y H7 => ∃ acc, H7 D = some (.lst acc) ∧ acc.length < sizeLine ∧ Pw (j + 1) (upd H7 D (.lst (acc ++ [y])))) (Pw (j + 1))) (fin : ∀ H, Pw ys.length H → Nx H) :
    ∃ W1 : Nat → Nat → Hp → Prop, (∃ m, W1 0 m H4) ∧ ∀ j k H, W1 j k H →
      ((Itt K a).stop j H ∧ Nx H) ∨ ((Itt K a).go j H ∧ ∃ Nx1 : Hp → Prop, (∀ H', Nx1 H' → ∃ k', k' < k ∧ W1 (j + 1) k' H') ∧ ∀ x H', (Itt K a).yld j H x H' → Trn g1 tt1 te vs1 σ2 x H' (fun y H7 => ∃ acc, H7 D = some (.lst acc) ∧ acc.length < sizeLine ∧ Nx1 (upd H7 D (.lst (acc ++ [y])))) Nx1) := by
  refine ⟨fun i m H => m + i = ys.length ∧ Pw i H, ⟨ys.length, rfl, h0⟩, ?_⟩
  rintro i m H ⟨em, p⟩
  have sq := there i H p
  by_cases lt : i < ys.length
  · refine .inr ⟨⟨ys, ys[i], sq, List.getElem?_eq_getElem lt⟩, Pw (i + 1), fun H' p' => ⟨m - 1, by omega, by omega, p'⟩, ?_⟩
    rintro x H' ⟨rfl, ex⟩
    exact turn i x _ (ex ys sq) p
  · obtain rfl : i = ys.length := by omega
    exact .inl ⟨⟨ys, sq, Nat.le_refl _⟩, fin H p⟩
abbrev nOwnPlaces : List Str := ["question", "tie", "terms", "at", "name"]
abbrev nOwnNames : List Str := ["question", "tie", "at"]
section
variable {P : Program} {w : World} {K : PySem.W.Frag} {mg : Str → Option Value} {base : Heap} {aB : Addr}
def spAllTied (K : PySem.W.Frag) : Sp := fun vs H Q _ => ∃ (n t l : Addr) (q : Qn), vs = [.ref n, .ref t] ∧ QParts H n t l q ∧ QOk q ∧ ∀ H', Same H H' → Q (.bl true) H'
def spIsQn : Sp := fun vs H Q _ => ∃ (a : Addr) (q : Qn), vs = [.ref a] ∧ QAt H a q ∧ QOk q ∧ ∀ H', Same H H' → Q (.bl true) H'
theorem all_true {α : Type} (xs : List α) : (xs.map fun _ => true).all id = true := by
  rw [List.all_map]
  exact List.all_eq_true.mpr fun _ _ => rfl
def spNeedQn : Sp := fun vs H Q _ => ∃ (a : Addr) (q : Qn), vs = [.ref a] ∧ QAt H a q ∧ QOk q ∧ ∀ H', Same H H' → Q .non H'
/-! ### a tie's own names -/
def ownZ (q : Qn) (t : Nat) : List Str := q.names.filter fun z => decide (Term.nm z ∈ (q.ties.getD t ("", [])).2)
def placesM (names : List Str) (ts : List Term) : Nat → List Nat
  | 0 => []
  | i + 1 => placesM names ts i ++ (if Term.nm (names.getD i "") ∈ ts then [i] else [])
theorem placesM_names (names : List Str) (ts : List Term) : ∀ i, i ≤ names.length → (placesM names ts i).map (fun j => names.getD j "") = (names.take i).filter fun z => decide (Term.nm z ∈ ts)
  | 0, _ => rfl
  | i + 1, h => by
    have lt : i < names.length := h
    have e : names[i]? = some names[i] := List.getElem?_eq_getElem lt
    have e2 : names.getD i "" = names[i] := by rw [List.getD_eq_getElem?_getD, e]; rfl
    rw [List.take_add_one, e, List.filter_append, ← placesM_names names ts i (by omega)]
    show (placesM names ts i ++ _).map _ = _
    rw [List.map_append, e2]
    congr 1
    show _ = List.filter _ [names[i]]
    by_cases m : Term.nm names[i] ∈ ts
    · rw [if_pos m, List.filter_cons_of_pos (by rw [decide_eq_true m])]
      show [names.getD i ""] = _
      rw [e2]
      rfl
    · rw [if_neg m, List.filter_cons_of_neg (by rw [decide_eq_false m]; exact Bool.false_ne_true)]
      rfl
theorem placesM_lt (names : List Str) (ts : List Term) : ∀ i, ∀ j ∈ placesM names ts i, j < i
  | 0, j, m => by cases m
  | i + 1, j, m => by
    rcases List.mem_append.mp m with m | m
    · exact Nat.lt_succ_of_lt (placesM_lt names ts i j m)
    · by_cases c : Term.nm (names.getD i "") ∈ ts
      · rw [if_pos c] at m
        rw [List.mem_singleton.mp m]
        exact Nat.lt_succ_self i
      · rw [if_neg c] at m
        cases m
theorem placesM_len (names : List Str) (ts : List Term) : ∀ i, (placesM names ts i).length ≤ i
  | 0 => Nat.le_refl 0
  | i + 1 => by
    have := placesM_len names ts i
    show (placesM names ts i ++ _).length ≤ _
    rw [List.length_append]
    split <;> simp <;> omega
def spOwnP : Sp := fun vs H Q _ => ∃ (a : Addr) (q : Qn) (t : Nat) (tie : Str × List Term), vs = [.ref a, .int (t : Nat)] ∧ QAt H a q ∧ QOk q ∧ q.ties[t]? = some tie ∧
  ∀ (p : Addr) (H' : Hp), H p = none → Same H H' → H' p = some (.lst ((placesM q.names tie.2 q.names.length).map numV)) → Q (.ref p) H'
def spOwnN : Sp := fun vs H Q _ => ∃ (a : Addr) (q : Qn) (t : Nat), vs = [.ref a, .int (t : Nat)] ∧ QAt H a q ∧ QOk q ∧ t < q.ties.length ∧
  ∀ (p : Addr) (H' : Hp), H p = none → Same H H' → NmAt H' p (ownZ q t) → Q (.ref p) H'
end
end VQ
namespace VQ
open PySem L2 LamX
theorem tups_lst {H : Hp} {a : Addr} {xs ys : List V} (h : H a = some (.lst xs)) : Tups H (upd H a (.lst ys)) := by
  have ne : ∀ p o, (∀ zs, o ≠ .lst zs) → H p = some o → upd H a (.lst ys) p = some o := fun p o no hp => by
    rw [upd_ne (fun e => by rw [e, h] at hp; injection hp with hp; exact no _ hp.symm)]
    exact hp
  exact ⟨fun p zs hp => ne p _ (fun _ e => by cases e) hp, fun p zs ⟨o, d, hp⟩ => ⟨o, d, ne p _ (fun _ e => by cases e) hp⟩⟩
theorem NmN.keep {H H' : Hp} {b n : Addr} {zs : List Str} (h : NmN H n zs) (B : Bag H b) (k : Keep b H H') : NmN H' n zs := by
  obtain ⟨o, d, e⟩ := h
  obtain ⟨l, ns, i, r, x, m, nl, h1, _⟩ := B
  exact ⟨o, d, k.1 _ _ (fun q => by rw [q, h1] at e; cases e) e⟩
theorem NmN.ne {H : Hp} {b n : Addr} {zs : List Str} (h : NmN H n zs) (B : Bag H b) : n ≠ b := fun q => by
  obtain ⟨o, d, e⟩ := h
  obtain ⟨l, ns, i, r, x, m, nl, h1, _⟩ := B
  rw [q, h1] at e
  cases e
theorem TupN.keep {H H' : Hp} {b n : Addr} {xs : List V} (h : TupN H n xs) (B : Bag H b) (k : Keep b H H') : TupN H' n xs := by
  obtain ⟨o, d, e⟩ := h
  obtain ⟨l, ns, i, r, x, m, nl, h1, _⟩ := B
  exact ⟨o, d, k.1 _ _ (fun q => by rw [q, h1] at e; cases e) e⟩
end VQ
namespace VQ
open PySem L2 LamX
/-! ### names drawn -/
def chV (c : Nat) : V := .str ⟨#[c]⟩
theorem letters_at {d : Int} (h0 : 0 ≤ d) (h1 : d < 26) : ∃ c, atI letters.cps.toList d = some c ∧ letB c = true := by
  obtain ⟨n, rfl⟩ := Int.eq_ofNat_of_zero_le h0
  have hn : n < letters.cps.toList.length := by
    have e : letters.cps.toList.length = 26 := by decide +kernel
    omega
  exact ⟨_, atI_nat (List.getElem?_eq_getElem hn), decide_eq_true (List.getElem_mem hn)⟩
theorem joinL_nil : ∀ ps : List (List Nat), TL.joinL [] ps = ps.flatten
  | [] => rfl
  | [p] => by simp [TL.joinL]
  | p :: q :: r => by
    show p ++ ([] ++ TL.joinL [] (q :: r)) = _
    rw [joinL_nil (q :: r)]
    rfl
theorem join_chs (cs : List Nat) : Txt.join "" (cs.map fun c => (⟨#[c]⟩ : Str)) = ⟨cs.toArray⟩ := by
  have e : TL.tl (Txt.join "" (cs.map fun c => (⟨#[c]⟩ : Str))) = cs := by
    rw [TL.join_eq, TL.tl_join]
    show TL.joinL [] _ = _
    rw [joinL_nil, List.map_map]
    induction cs with
    | nil => rfl
    | cons c cs ih =>
      show [c] ++ (List.map _ cs).flatten = _
      rw [ih]
      rfl
  generalize Txt.join "" (cs.map fun c => (⟨#[c]⟩ : Str)) = z at e
  obtain ⟨a⟩ := z
  have e' : a.toList = cs := e
  rw [← e', Array.toArray_toList]
theorem chs_sum (cs : List Nat) : ((cs.map fun c => (⟨#[c]⟩ : Str)).map (·.length)).sum + (cs.map fun c => (⟨#[c]⟩ : Str)).length * ("" : Str).length = cs.length := by
  show _ + _ * 0 = _
  rw [Nat.mul_zero, Nat.add_zero]
  induction cs with
  | nil => rfl
  | cons c cs ih =>
    rw [List.map_cons, List.map_cons, List.sum_cons, ih]
    show 1 + cs.length = cs.length + 1
    omega
theorem name_chs {m : Nat} {cs : List Nat} (h1 : 1 ≤ cs.length) (hm : cs.length ≤ m) (hl : ∀ c ∈ cs, letB c = true) (nf : (⟨cs.toArray⟩ : Str) ≠ "find") (ns : (⟨cs.toArray⟩ : Str) ≠ "some") : NameS m ⟨cs.toArray⟩ :=
  ⟨h1, hm, nf, ns, fun c m => hl c (by simpa using m)⟩
theorem NameS.of_len {m : Nat} {cs : List Nat} (h1 : 1 ≤ cs.length) (hm : cs.length ≤ m) (h4 : cs.length ≠ 4) (hl : ∀ c ∈ cs, letB c = true) : NameS m ⟨cs.toArray⟩ :=
  name_chs h1 hm hl (fun e => h4 (by have := congrArg PySem.Str.length e; exact this)) fun e => h4 (by have := congrArg PySem.Str.length e; exact this)
theorem NameS.mono {m n : Nat} {z : Str} (h : NameS m z) (l : m ≤ n) : NameS n z := ⟨h.lo, Nat.le_trans h.hi l, h.nf, h.ns, h.lt⟩
abbrev sLawPool : Stmt := top 50
abbrev nLawPool : List Str := ["_law_bag_here", "_law_many", "_law_most", "_law_letters", "_law_size", "_law_place", "_law_begin", "_law_same_here", "_law_found", "_law_k", "_law_row", "_law_word", "_law_at"]
theorem scLawPool : FnScope nLawPool ["_law_bag_here", "_law_many", "_law_most"] (defScope sLawPool) := ⟨rfl, rfl, rfl, by decide +kernel, rfl, by decide +kernel, by decide +kernel⟩
abbrev nLawTerm : List Str := ["_law_bag_here", "_law_names_here"]
abbrev nLawTerms : List Str := ["_law_bag_here", "_law_names_here", "_law_width", "_law_k"]
abbrev nLawNames : List Str := ["_law_bag_here", "_law_many"]
abbrev nLawPairs : List Str := ["_law_bag_here", "_law_names_here", "_law_most", "_law_found", "_law_k", "_law_one", "_law_other"]
abbrev nLawUnlikeNames : List Str := ["_law_bag_here", "_law_many", "_law_found", "_law_one"]
section
variable {P : Program} {w : World} {K : PySem.W.Frag} {mg : Str → Option Value} {base : Heap} {aB : Addr}
/-- an item of a list or a tuple, drawn -/
def spOfA (K : PySem.W.Frag) : Sp := fun vs H Q _ => ∃ (b p : Addr) (xs : List V), vs = [.ref b, .ref p] ∧ Bag H b ∧ (H p = some (.lst xs) ∨ H p = some (.tup xs) ∨ TupN H p xs) ∧ p ≠ b ∧ 1 ≤ xs.length ∧ xs.length < 1000 ∧
  ∀ (v : V) (H' : Hp), v ∈ xs → Bag H' b → Keep b H H' → Q v H'
theorem has_ofA (b : Blt mg) (hP : Has P w K mg base CX0 1 "_law_pull" sPull ["_law_bag_here", "_law_size"] spPull) (a : AtE K mg "_law_of" sOf ["_law_bag_here", "_law_some"]) : Has P w K mg base CX0 2 "_law_of" sOf ["_law_bag_here", "_law_some"] (spOfA K) := by
  obtain ⟨f, fd, a⟩ := a
  obtain ⟨fP, fdP, aP, GP⟩ := hP
  refine ⟨f, fd, a, a.fn.ok scOf (fun vs H Q E h => ?_) (fun cdv A outer s H vs Q E hr h => ?_)⟩
  · obtain ⟨b, p, xs, rfl, _⟩ := h
    rfl
  · obtain ⟨bg, p, xs, rfl, B, hp, np, l1, l2, k⟩ := h
    refine ⟨_, pss_one (ps_ret (pe_ix ix_seq (pv 1) (pe_call GP hr rfl aP.gl aP.fn.kp aP.bd .nil pass0 (pa_cons (pv 0) (pa_cons (pe_callB call_len_seq (by rfl) b.len PySem.boot_len (pa_cons (pv 1) pa_nil)) pa_nil))) fun _ _ => rfl)), ?_⟩
    have sq : SqL K H p xs ∨ SqT K H p xs := hp.imp SqL.of fun h => h.elim SqT.of TupN.sq
    refine ⟨_, rfl, _, rfl, _, rfl, p, xs, rfl, sq, bg, _, rfl, B, by omega, by omega, fun d H' d0 d1 B' kp => ?_⟩
    obtain ⟨j, rfl⟩ := Int.eq_ofNat_of_zero_le d0
    have hj : j < xs.length := Int.ofNat_lt.mp d1
    have kk := k _ H' (List.getElem_mem hj) B' kp
    rcases hp with hp | hp | hp
    · exact .inl ⟨p, xs, _, _, rfl, rfl, SqL.of (kp.1 _ _ np hp), atI_nat (List.getElem?_eq_getElem hj), kk⟩
    · exact .inr (.inl ⟨p, xs, _, _, rfl, rfl, SqT.of (kp.1 _ _ np hp), atI_nat (List.getElem?_eq_getElem hj), kk⟩)
    · exact .inr (.inl ⟨p, xs, _, _, rfl, rfl, (hp.keep B kp).sq, atI_nat (List.getElem?_eq_getElem hj), kk⟩)
/-- how a drawn name lies over the letters that all share -/
def PoolAt (cs : List Nat) (en : Nat) (g : Int) (z : Str) : Prop := z.length = 3 ∨ ∃ (i : Nat) (us : List Nat) (c : Nat), i < 8 ∧ z = ⟨us.toArray⟩ ∧ (∀ j, j < cs.length → j ≠ en → us[j]? = cs[j]?) ∧ us[en]? = some c ∧ atI letters.cps.toList ((g + 7 * (0 + (i : Nat))) % 26) = some c
theorem pool_letter {d : Int} {c : Nat} (h0 : 0 ≤ d) (h1 : d < 26) (h : atI letters.cps.toList d = some c) : d = (c : Int) - 97 := by
  have key : ∀ n : Fin 26, atI letters.cps.toList ((n.val : Nat) : Int) = some (97 + n.val) := by decide +kernel
  obtain ⟨n, rfl⟩ := Int.eq_ofNat_of_zero_le h0
  have e := key ⟨n, Int.ofNat_lt.mp h1⟩
  rw [e] at h
  have := Option.some.inj h
  show (n : Int) = _
  have h2 : 97 + n = c := this
  omega
theorem pool_apart {cs : List Nat} {en : Nat} {g : Int} (le : en < cs.length) (h1 : PoolAt cs en g "ninth") (h2 : PoolAt cs en g "tenth") : False := by
  rcases h1 with h1 | ⟨i, us, c, hi, e1, a1, b1, d1⟩
  · exact absurd h1 (by decide +kernel)
  rcases h2 with h2 | ⟨k, ws, e, hk, e2, a2, b2, d2⟩
  · exact absurd h2 (by decide +kernel)
  have u1 : us = [110, 105, 110, 116, 104] := by
    have := congrArg (fun z : Str => z.cps.toList) e1
    exact this.symm.trans (by decide +kernel)
  have u2 : ws = [116, 101, 110, 116, 104] := by
    have := congrArg (fun z : Str => z.cps.toList) e2
    exact this.symm.trans (by decide +kernel)
  subst u1 u2
  have n0 : ∀ j, j < 2 → j < cs.length → j ≠ en → False := fun j j2 jl je => by
    have e := (a1 j jl je).trans (a2 j jl je).symm
    match j, j2 with
    | 0, _ => exact absurd (Option.some.inj e) (by decide)
    | 1, _ => exact absurd (Option.some.inj e) (by decide)
  by_cases l2 : 2 ≤ cs.length
  · by_cases z : en = 0
    · exact n0 1 (by decide) (by omega) (by omega)
    · exact n0 0 (by decide) (by omega) (by omega)
  · have z : en = 0 := by omega
    subst z
    have c1 : c = 110 := (Option.some.inj b1).symm
    have c2 : e = 116 := (Option.some.inj b2).symm
    subst c1 c2
    have q1 := pool_letter (Int.emod_nonneg _ (by decide)) (Int.emod_lt_of_pos _ (by decide)) d1
    have q2 := pool_letter (Int.emod_nonneg _ (by decide)) (Int.emod_lt_of_pos _ (by decide)) d2
    omega
def spPool : Sp := fun vs H Q _ => ∃ (b : Addr) (many most : Nat), vs = [.ref b, .int (many : Nat), .int (most : Nat)] ∧ Bag H b ∧ many ≤ 8 ∧ 1 ≤ most ∧ most ≤ 8 ∧
  ∀ (p : Addr) (zs : List Str) (H' : Hp), zs.length = many → (∀ z ∈ zs, NameS most z) → ¬ (("ninth" : Str) ∈ zs ∧ ("tenth" : Str) ∈ zs) → H p = none → H' p = some (.lst (zs.map V.str)) → Bag H' b → Keep b H H' → Q (.ref p) H'
theorem has_pool (b : Blt mg) (hP : Has P w K mg base CX0 1 "_law_pull" sPull ["_law_bag_here", "_law_size"] spPull) (a : AtE K mg "_law_pool" sLawPool ["_law_bag_here", "_law_many", "_law_most"]) : Has P w K mg base CX0 2 "_law_pool" sLawPool ["_law_bag_here", "_law_many", "_law_most"] spPool := by
  obtain ⟨f, fd, a⟩ := a
  obtain ⟨fP, fdP, aP, GP⟩ := hP
  refine ⟨f, fd, a, a.fn.ok scLawPool (fun vs H Q E h => ?_) (fun cdv A outer s H vs Q E hr1 h => ?_)⟩
  · obtain ⟨b, many, most, rfl, _⟩ := h
    rfl
  · obtain ⟨bg, many, most, rfl, B, m5, q1, q8, k⟩ := h
    refine ⟨_,
    (pss_cons (ps_set (i := 3) scLawPool.nd rfl (.inr rfl) pe_str)
    (pss_cons (ps_set (i := 4) scLawPool.nd rfl (.inl rfl) (pe_op op_add pe_int (pe_call GP hr1 rfl aP.gl aP.fn.kp aP.bd .nil pass0 (pa_cons (pv 0) (pa_cons (pv 2) pa_nil)))))
    (pss_cons (ps_par (i := 5) (j := 6) rfl scLawPool.nd rfl rfl (by decide) rfl rfl (pa_cons (pe_call GP hr1 rfl aP.gl aP.fn.kp aP.bd .nil pass0 (pa_cons (pv 0) (pa_cons (pv 4) pa_nil))) (pa_cons (pe_call GP hr1 rfl aP.gl aP.fn.kp aP.bd .nil pass0 (pa_cons (pv 0) (pa_cons pe_int pa_nil))) pa_nil)) rfl)
    (pss_cons (ps_setLc (i := 7) (own := [("_law_k", 9)]) (g := (gName 9)) (tt := tYes) (te := (tOp rIxS (tVar 3) (tCall spPull [] E0 (tCons (tVar 0) (tCons (tC (.int 26)) tNil))))) rfl scLawPool.nd rfl rfl (sw_true rfl rfl rfl (by decide +kernel)) (pi_range1 rfl b.range (pa_cons (pv 4) pa_nil)) (blkOk_by (N := nLawPool) (sc := defScope sLawPool) (by decide +kernel)) (fun _ _ _ _ _ => (pg_name (i := 9) scLawPool.nd rfl (.inl rfl))) (fun _ _ _ _ _ => pts_nil) (fun _ _ _ _ _ => (pe_ix ix_str (pv 3) (pe_call GP hr1 rfl aP.gl aP.fn.kp aP.bd .nil pass0 (pa_cons (pv 0) (pa_cons pe_int pa_nil))) fun _ _ => rfl)))
    (pss_cons (ps_set (i := 8) scLawPool.nd rfl (.inl rfl) (pe_lst pa_nil))
    (pss_cons (ps_for PassesOwn.never rfl (pi_range1 rfl b.range (pa_cons (pv 1) pa_nil)) (pg_name (i := 9) scLawPool.nd rfl (.inl rfl))
      (pss_cons (ps_set (i := 10) scLawPool.nd rfl (.inl rfl) (pe_callTy call_list_of (by rfl) b.list (by decide +kernel) (pa_cons (pv 7) pa_nil)))
      (C8.pss_cut (ps_if (pt_cmpR op_eq (pe_call GP hr1 rfl aP.gl aP.fn.kp aP.bd .nil pass0 (pa_cons (pv 0) (pa_cons pe_int pa_nil))) pe_int (nomark _))
        (pss_one (ps_set (i := 10) scLawPool.nd rfl (.inl rfl) (pe_op op_cat (pv 10) (pe_lc (own := [("_law_at", 12)]) (g := (gName 12)) (tt := tYes) (te := (tOp rIxS (tVar 3) (tCall spPull [] E0 (tCons (tVar 0) (tCons (tC (.int 26)) tNil))))) rfl scLawPool.nd (pi_range1 rfl b.range (pa_cons (pe_call GP hr1 rfl aP.gl aP.fn.kp aP.bd .nil pass0 (pa_cons (pv 0) (pa_cons (pe_op op_add (pe_op op_sub (pv 2) (pv 4)) pe_int) pa_nil))) pa_nil)) (blkOk_by (N := nLawPool) (sc := defScope sLawPool) (by decide +kernel)) (fun _ _ _ _ _ => (pg_name (i := 12) scLawPool.nd rfl (.inl rfl))) (fun _ _ _ _ _ => pts_nil) (fun _ _ _ _ _ => (pe_ix ix_str (pv 3) (pe_call GP hr1 rfl aP.gl aP.fn.kp aP.bd .nil pass0 (pa_cons (pv 0) (pa_cons pe_int pa_nil))) fun _ _ => rfl))))))
        pss_nil)
      (pss_cons (ps_asg (pe_ix ix_str (pv 3) (pe_op op_mod (pe_op op_add (pv 6) (pe_op op_mul pe_int (pv 9))) pe_int) fun _ _ => rfl) (pg_sub (pv 10) (pv 5) set_list))
      (pss_cons (ps_set (i := 11) scLawPool.nd rfl (.inl rfl) (pe_join pe_str (pv 10)))
      (pss_one (ps_expr (pe_bm PySem.F.plainAttrs_list PySem.F.slot_list_append PySem.F.type_list_append mt_append (pv 8) (pa_cons (pe_ifExp (pt_cmpR op_notIn_seq (pv 11) (pe_tup (pa_cons pe_str (pa_cons pe_str pa_nil))) rfl) (pv 11) (pe_join pe_str (pe_slice sl_list (pv 10) po_none (po_some pe_int)))) pa_nil)))))))))
    (pss_one (ps_ret (pv 8))))))))), ?_⟩
    refine ⟨_, rfl, _, rfl, bg, _, rfl, B, by omega, by omega, fun d H1 d0 d1 B1 k1 => ⟨_, _, rfl, rfl, ?_⟩⟩
    obtain ⟨dn, rfl⟩ := Int.eq_ofNat_of_zero_le d0
    obtain ⟨sz, es⟩ : ∃ sz : Nat, sz = 1 + dn := ⟨_, rfl⟩
    have es' : (1 : Int) + (dn : Int) = ((sz : Nat) : Int) := by omega
    show gName 4 (V.int ((1 : Int) + (dn : Int))) _ _ _
    rw [es']
    have sz8 : sz ≤ most := by omega
    refine ⟨_, rfl, _, rfl, bg, _, rfl, B1, by omega, by omega, fun e H2 e0 e1 B2 k2 => ?_⟩
    refine ⟨_, rfl, bg, _, rfl, B2, by omega, by omega, fun g H3 g0 g1 B3 k3 => ⟨_, _, rfl, ?_⟩⟩
    obtain ⟨en, rfl⟩ := Int.eq_ofNat_of_zero_le e0
    have le : en < sz := Int.ofNat_lt.mp e1
    have K3 := (k1.trans k2).trans k3
    refine ⟨_, rfl, _, rfl, by omega, by omega, fun D hD => ?_⟩
    have hD0 := K3.free B B3 hD
    have Db : D ≠ bg := B.ne hD0
    obtain ⟨B4, K4⟩ := Bag.put (o := .lst []) B hD0 K3 B3
    have low : ("abcdefghijklmnopqrstuvwxyz" : Str).length ≤ sizeLine := by decide +kernel
    refine lc_range (lo := 0) (n := sz) (fun i H' => Bag H' bg ∧ Keep bg H H' ∧ ∃ cs : List Nat, cs.length = i ∧ (∀ c ∈ cs, letB c = true) ∧ H' D = some (.lst (cs.map chV))) ⟨B4, K4, [], rfl, (fun x m => by cases m), upd_same⟩ ?_ ?_
    · rintro i H5 hi ⟨B5, K5, cs, el, ec, h5⟩
      refine ⟨rfl, yes_turn ?_⟩
      refine ⟨_, rfl, _, rfl, bg, _, rfl, B5, by omega, by omega, fun x H6 x0 x1 B6 k6 => ?_⟩
      obtain ⟨c, ac, lc⟩ := letters_at x0 x1
      obtain ⟨B7, K7⟩ := Bag.put (o := .lst (cs.map chV ++ [chV c])) B hD0 (K5.trans k6) B6
      refine ⟨_, _, c, rfl, rfl, low, ac, _, k6.1 _ _ Db h5, by rw [List.length_map]; exact lt_line (by omega), B7, K7, cs ++ [c], by rw [List.length_append, el]; rfl, fun y m => ?_, ?_⟩
      · rcases List.mem_append.mp m with m | m
        · exact ec y m
        · rw [List.mem_singleton.mp m]
          exact lc
      · rw [List.map_append]
        exact upd_same
    · rintro H5 ⟨B5, K5, cs, el, ec, h5⟩
      refine ⟨by show 0 ≤ sizeLine; decide, fun F hF => ?_⟩
      have hF0 := K5.free B B5 hF
      have Fb : F ≠ bg := B.ne hF0
      have FD : D ≠ F := ne_of_none h5 hF
      obtain ⟨B6, K6⟩ := Bag.put (o := .lst []) B hF0 K5 B5
      refine ⟨_, rfl, _, rfl, by omega, by omega, ?_⟩
      refine for_range (lo := 0) (n := many) (fun i σ H' => ∃ x y z : Option V, σ = [some (.ref bg), some (.int (many : Nat)), some (.int (most : Nat)), some (.str letters), some (.int (sz : Nat)), some (.int (en : Nat)), some (.int g), some (.ref D), some (.ref F), x, y, z, none] ∧
          Bag H' bg ∧ Keep bg H H' ∧ H' D = some (.lst (cs.map chV)) ∧ ∃ zs : List Str, zs.length = i ∧ (∀ z ∈ zs, NameS most z) ∧ (∀ z ∈ zs, PoolAt cs en g z) ∧ H' F = some (.lst (zs.map V.str)))
        ⟨none, none, none, rfl, B6, K6, (upd_ne FD).trans h5, [], rfl, (fun z m => by cases m), (fun z m => by cases m), upd_same⟩ ?_ ?_
      · rintro i σ H7 hi ⟨x, y, z, rfl, B7, K7, h7, zs, lz, nz, pz, f7⟩
        refine ⟨_, rfl, D, _, rfl, .inl (SqL.of h7), fun R hR => ?_⟩
        have hR0 := K7.free B B7 hR
        have RD : D ≠ R := ne_of_none h7 hR
        have RF : F ≠ R := ne_of_none f7 hR
        have Rb : R ≠ bg := B.ne hR0
        obtain ⟨B8, K8⟩ := Bag.put (o := .lst (cs.map chV)) B hR0 K7 B7
        have h8 := (upd_ne (H := H7) (o := .lst (cs.map chV)) RD).trans h7
        have f8 := (upd_ne (H := H7) (o := .lst (cs.map chV)) RF).trans f7
        refine ⟨fun σ' H' => ∃ (R' : Addr) (us : List Nat), σ' = [some (.ref bg), some (.int (many : Nat)), some (.int (most : Nat)), some (.str letters), some (.int (sz : Nat)), some (.int (en : Nat)), some (.int g), some (.ref D), some (.ref F), some (.int (0 + (i : Nat))), some (.ref R'), z, none] ∧
            H R' = none ∧ R' ≠ D ∧ R' ≠ F ∧ sz ≤ us.length ∧ (∃ ds : List Nat, us = cs ++ ds) ∧ us.length ≤ most ∧ (∀ c ∈ us, letB c = true) ∧ H' R' = some (.lst (us.map chV)) ∧ H' D = some (.lst (cs.map chV)) ∧ H' F = some (.lst (zs.map V.str)) ∧ Bag H' bg ∧ Keep bg H H', ?_, ?_⟩
        · refine ⟨_, rfl, bg, _, rfl, B8, by omega, by omega, fun u H9 u0 u1 B9 k9 => ⟨rfl, _, rfl, ?_⟩⟩
          have r9 := k9.1 _ _ Rb (upd_same (H := H7) (a := R) (o := .lst (cs.map chV)))
          have h9 := k9.1 _ _ Db h8
          have f9 := k9.1 _ _ Fb f8
          have K9 := K8.trans k9
          by_cases c0 : u = 0
          · rw [decide_eq_true (by rw [c0])]
            refine iteT ?_
            refine ⟨_, rfl, _, rfl, _, rfl, _, rfl, _, _, rfl, rfl, _, _, rfl, rfl, bg, _, rfl, B9, by omega, by omega, fun v H10 v0 v1 B10 k10 => ?_⟩
            obtain ⟨vn, rfl⟩ := Int.eq_ofNat_of_zero_le v0
            have r10 := k10.1 _ _ Rb r9
            have h10 := k10.1 _ _ Db h9
            have f10 := k10.1 _ _ Fb f9
            have K10 := K9.trans k10
            refine ⟨_, rfl, by omega, by omega, fun G hG => ?_⟩
            have hG0 := K10.free B B10 hG
            have Gb : G ≠ bg := B.ne hG0
            have GR : R ≠ G := ne_of_none r10 hG
            have GD : D ≠ G := ne_of_none h10 hG
            have GF : F ≠ G := ne_of_none f10 hG
            obtain ⟨B11, K11⟩ := Bag.put (o := .lst []) B hG0 K10 B10
            refine lc_range (lo := 0) (n := vn) (fun i H' => Bag H' bg ∧ Keep bg H H' ∧ H' R = some (.lst (cs.map chV)) ∧ H' D = some (.lst (cs.map chV)) ∧ H' F = some (.lst (zs.map V.str)) ∧ ∃ ds : List Nat, ds.length = i ∧ (∀ c ∈ ds, letB c = true) ∧ H' G = some (.lst (ds.map chV)))
              ⟨B11, K11, (upd_ne GR).trans r10, (upd_ne GD).trans h10, (upd_ne GF).trans f10, [], rfl, (fun x m => by cases m), upd_same⟩ ?_ ?_
            · rintro i2 H12 hi2 ⟨B12, K12, r12, h12, f12, ds, ed, ec', g12⟩
              refine ⟨rfl, yes_turn ?_⟩
              refine ⟨_, rfl, _, rfl, bg, _, rfl, B12, by omega, by omega, fun x H13 x0 x1 B13 k13 => ?_⟩
              obtain ⟨c, ac, lc⟩ := letters_at x0 x1
              obtain ⟨B14, K14⟩ := Bag.put (o := .lst (ds.map chV ++ [chV c])) B hG0 (K12.trans k13) B13
              refine ⟨_, _, c, rfl, rfl, low, ac, _, k13.1 _ _ Gb g12, by rw [List.length_map]; exact lt_line (by omega), B14, K14, (upd_ne GR).trans (k13.1 _ _ Rb r12), (upd_ne GD).trans (k13.1 _ _ Db h12), (upd_ne GF).trans (k13.1 _ _ Fb f12), ds ++ [c], by rw [List.length_append, ed]; rfl, fun y m => ?_, ?_⟩
              · rcases List.mem_append.mp m with m | m
                · exact ec' y m
                · rw [List.mem_singleton.mp m]
                  exact lc
              · rw [List.map_append]
                exact upd_same
            · rintro H12 ⟨B12, K12, r12, h12, f12, ds, ed, ec', g12⟩
              refine ⟨R, G, _, _, rfl, rfl, r12, g12, Nat.le_of_lt (lt_line (by rw [List.length_map, List.length_map]; omega)), fun S hS => ?_⟩
              have hS0 := K12.free B B12 hS
              obtain ⟨B13, K13⟩ := Bag.put (o := .lst (cs.map chV ++ ds.map chV)) B hS0 K12 B12
              refine ⟨S, cs ++ ds, rfl, hS0, (ne_of_none h12 hS).symm, (ne_of_none f12 hS).symm, by rw [List.length_append]; omega, ⟨ds, rfl⟩, by rw [List.length_append]; omega, fun c m => ?_, ?_, (upd_ne (ne_of_none h12 hS)).trans h12, (upd_ne (ne_of_none f12 hS)).trans f12, B13, K13⟩
              · rcases List.mem_append.mp m with m | m
                · exact ec c m
                · exact ec' c m
              · rw [List.map_append]
                exact upd_same
          · rw [decide_eq_false (fun q => c0 (by injection q))]
            exact iteF ⟨R, cs, rfl, hR0, RD.symm, RF.symm, by omega, ⟨[], (List.append_nil _).symm⟩, by omega, ec, r9, h9, f9, B9, K9⟩
        · rintro σ' H9 ⟨R', us, rfl, hR', RD', RF', u1, ⟨us0, eus⟩, u8, lu, r9, h9, f9, B9, K9⟩
          have Rb' : R' ≠ bg := B.ne hR'
          obtain ⟨c, ac, lc⟩ := letters_at (d := (g + 7 * (0 + (i : Nat))) % 26) (Int.emod_nonneg _ (by decide)) (Int.emod_lt_of_pos _ (by decide))
          refine ⟨_, rfl, _, rfl, _, rfl, _, _, rfl, rfl, .inl ⟨by decide, by decide⟩, _, _, rfl, rfl, _, _, rfl, rfl, by show (0 : Int) < 26; decide, _, _, c, rfl, rfl, low, ac, ?_⟩
          refine ⟨_, rfl, _, rfl, R', _, _, en, rfl, rfl, r9, ?_, ?_⟩
          · unfold ixN
            rw [List.length_map, if_pos (by omega), if_pos (by omega)]
            rfl
          have e1 : (us.map chV).set en (chV c) = (us.set en c).map chV := by rw [List.map_set]
          rw [show (V.str ⟨#[c]⟩ : V) = chV c from rfl, e1]
          have lu' : ∀ c' ∈ us.set en c, letB c' = true := fun c' m => by
            rcases List.mem_or_eq_of_mem_set m with m | m
            · exact lu c' m
            · rw [m]
              exact lc
          have ll : (us.set en c).length = us.length := List.length_set
          have tp : ∀ j, j < cs.length → j ≠ en → (us.set en c)[j]? = cs[j]? := fun j jl je => by
            rw [List.getElem?_set_ne (fun q => je q.symm), eus, List.getElem?_append_left jl]
          have te : (us.set en c)[en]? = some c := List.getElem?_set_self (by omega)
          generalize us.set en c = ts at lu' ll tp te ⊢
          obtain ⟨B10, K10⟩ := Bag.put (o := .lst (ts.map chV)) B hR' K9 B9
          have ech : ∀ xs : List Nat, xs.map chV = (xs.map fun c => (⟨#[c]⟩ : Str)).map V.str := fun xs => by
            rw [List.map_map]
            rfl
          refine ⟨⟨_, rfl⟩, _, rfl, "", R', ts.map (fun c => (⟨#[c]⟩ : Str)), rfl, rfl, .inl (SqL.of (by rw [upd_same, ech])), by rw [chs_sum]; omega, ?_⟩
          rw [join_chs]
          have h10 := (upd_ne (H := H9) (o := .lst (ts.map chV)) RD'.symm).trans h9
          have f10 := (upd_ne (H := H9) (o := .lst (ts.map chV)) RF'.symm).trans f9
          refine ⟨_, rfl, .inl ⟨rfl, _, SqL.of f10⟩, _, rfl, by show 2 ≤ sizeLine; decide, fun T hT => ?_⟩
          have hT0 := K10.free B B10 hT
          obtain ⟨B11, K11⟩ := Bag.put (o := .tup [.str "find", .str "some"]) B hT0 K10 B10
          have h11 := (upd_ne (o := .tup [.str "find", .str "some"]) (ne_of_none h10 hT)).trans h10
          have f11 := (upd_ne (o := .tup [.str "find", .str "some"]) (ne_of_none f10 hT)).trans f10
          refine ⟨T, _, rfl, .inr (SqT.of upd_same), rfl, rfl, _, rfl, ?_⟩
          have ein := inV_str (z := (⟨ts.toArray⟩ : Str)) (zs := ["find", "some"])
          rw [show ([.str "find", .str "some"] : List V) = (["find", "some"] : List Str).map V.str from rfl, ein]
          by_cases bad : (⟨ts.toArray⟩ : Str) ∈ (["find", "some"] : List Str)
          · rw [decide_eq_true bad]
            refine iteF ?_
            have l4 : ts.length = 4 := by
              have e4 : ∀ z ∈ (["find", "some"] : List Str), z.length = 4 := by decide +kernel
              exact e4 _ bad
            have r11 := (upd_ne (o := .tup [.str "find", .str "some"]) (ne_of_none (upd_same (H := H9) (a := R') (o := .lst (ts.map chV))) hT)).trans (upd_same (H := H9) (a := R') (o := .lst (ts.map chV)))
            refine ⟨⟨_, rfl⟩, _, rfl, _, rfl, R', _, rfl, SqL.of r11, fun U hU => ?_⟩
            have hU0 := K11.free B B11 hU
            have e5 : cutV (ts.map chV) none (some 3) = (ts.take 3).map chV := by
              have e6 := cut_upto (ts.map chV) (k := 3) (by rw [List.length_map]; omega)
              rw [List.map_take]
              exact e6
            rw [show cutV (ts.map chV) (none : Option Int) (some 3) = (ts.take 3).map chV from e5]
            obtain ⟨B12, K12⟩ := Bag.put (o := .lst ((ts.take 3).map chV)) B hU0 K11 B11
            have h12 := (upd_ne (o := .lst ((ts.take 3).map chV)) (ne_of_none h11 hU)).trans h11
            have f12 := (upd_ne (o := .lst ((ts.take 3).map chV)) (ne_of_none f11 hU)).trans f11
            refine ⟨"", U, (ts.take 3).map (fun c => (⟨#[c]⟩ : Str)), rfl, rfl, .inl (SqL.of (by rw [upd_same, ech])), by rw [chs_sum, List.length_take]; omega, ?_⟩
            rw [join_chs]
            obtain ⟨B13, K13⟩ := Bag.put (o := .lst (zs.map V.str ++ [.str ⟨(ts.take 3).toArray⟩])) B hF0 K12 B12
            refine ⟨F, _, _, rfl, rfl, f12, by rw [List.length_map]; exact lt_line (by omega), _, _, _, rfl, B13, K13, (upd_ne FD).trans h12, zs ++ [⟨(ts.take 3).toArray⟩], by rw [List.length_append, lz]; rfl, fun z m => ?_, fun z m => ?_, ?_⟩
            · rcases List.mem_append.mp m with m | m
              · exact nz z m
              · rw [List.mem_singleton.mp m]
                have l3 : (ts.take 3).length = 3 := by rw [List.length_take]; omega
                exact NameS.of_len (by omega) (by omega) (by omega) fun c' m => lu' c' (List.mem_of_mem_take m)
            · rcases List.mem_append.mp m with m | m
              · exact pz z m
              · rw [List.mem_singleton.mp m]
                exact .inl (show (ts.take 3).length = 3 by rw [List.length_take]; omega)
            · rw [List.map_append]
              exact upd_same
          · rw [decide_eq_false bad]
            refine iteT ?_
            obtain ⟨B13, K13⟩ := Bag.put (o := .lst (zs.map V.str ++ [.str ⟨ts.toArray⟩])) B hF0 K11 B11
            refine ⟨_, rfl, F, _, _, rfl, rfl, f11, by rw [List.length_map]; exact lt_line (by omega), _, _, _, rfl, B13, K13, (upd_ne FD).trans h11, zs ++ [⟨ts.toArray⟩], by rw [List.length_append, lz]; rfl, fun z m => ?_, fun z m => ?_, ?_⟩
            · rcases List.mem_append.mp m with m | m
              · exact nz z m
              · rw [List.mem_singleton.mp m]
                exact name_chs (by omega) (by omega) lu' (fun e => bad (by rw [e]; exact List.mem_cons_self)) fun e => bad (by rw [e]; exact List.mem_cons_of_mem _ List.mem_cons_self)
            · rcases List.mem_append.mp m with m | m
              · exact pz z m
              · rw [List.mem_singleton.mp m]
                exact .inr ⟨i, ts, c, by omega, rfl, tp, te, ac⟩
            · rw [List.map_append]
              exact upd_same
      · rintro σ H7 ⟨x, y, z, rfl, B7, K7, h7, zs, lz, nz, pz, f7⟩
        exact ⟨_, rfl, k F zs H7 lz nz (fun q => pool_apart (by omega) (pz _ q.1) (pz _ q.2)) hF0 f7 B7 K7⟩
end
end VQ
namespace VQ
open PySem PySem.Spec PyProof.Rows L2
/-! ### exceptions over LookupError and IndexError whose __init__ is walked -/
section
open PySem.HandSPX PySem.Builtin PySem.Builtin.ObjectAttr
abbrev tailL : List Value := [.type "LookupError", .type "Exception", .type "BaseException", .type "object"]
abbrev tailI : List Value := [.type "IndexError", .type "LookupError", .type "Exception", .type "BaseException", .type "object"]
/-- own classes, then this tail -/
def refsT (tl : List Value) : List Value → Bool
  | .ref c :: r => refsT tl r
  | l => decide (l = tl)
theorem refsT_two {tl : List Value} : ∀ l : List Value, refsT tl l = true → (∃ c r, l = .ref c :: r ∧ refsT tl r = true) ∨ l = tl := fun l h => by
  match l, h with
  | .ref c :: r, h => exact .inl ⟨c, r, rfl, h⟩
  | [], h => exact .inr (of_decide_eq_true h)
  | .none :: r, h => exact .inr (of_decide_eq_true h)
  | .ellipsis :: r, h => exact .inr (of_decide_eq_true h)
  | .notImplemented :: r, h => exact .inr (of_decide_eq_true h)
  | .bool _ :: r, h => exact .inr (of_decide_eq_true h)
  | .int _ _ :: r, h => exact .inr (of_decide_eq_true h)
  | .float _ _ :: r, h => exact .inr (of_decide_eq_true h)
  | .str _ _ :: r, h => exact .inr (of_decide_eq_true h)
  | .bytes _ _ :: r, h => exact .inr (of_decide_eq_true h)
  | .type _ :: r, h => exact .inr (of_decide_eq_true h)
  | .builtin _ :: r, h => exact .inr (of_decide_eq_true h)
/-- what is asked of a tail -/
structure TailOk (tl : List Value) : Prop where
  by_ : ∀ self, refuseLoop self "__setattr__" tl = pure ()
  ob : tl.contains (.type "object") = true
theorem tailL_ok : TailOk tailL := ⟨fun self => by kernel_rfl, by decide +kernel⟩
theorem tailI_ok : TailOk tailI := ⟨fun self => by kernel_rfl, by decide +kernel⟩
theorem refsT_by {tl : List Value} (T : TailOk tl) (self : Value) {l : List Value} (h : refsT tl l = true) : refuseLoop self "__setattr__" l = pure () := by
  induction l with
  | nil =>
    rcases refsT_two [] h with ⟨c, r, e, _⟩ | e
    · cases e
    · rw [e]
      exact T.by_ self
  | cons a l ih =>
    rcases refsT_two (a :: l) h with ⟨c, r, e, h'⟩ | e
    · obtain ⟨e1, e2⟩ := List.cons.inj e
      subst e1
      subst e2
      rw [refuseLoop_ref]
      exact ih h'
    · rw [e]
      exact T.by_ self
theorem refsT_has {tl : List Value} (Y : String) {l : List Value} (h : refsT tl l = true) : l.contains (.type Y) = tl.contains (.type Y) := by
  induction l with
  | nil =>
    rcases refsT_two [] h with ⟨c, r, e, _⟩ | e
    · cases e
    · rw [e]
  | cons a l ih =>
    rcases refsT_two (a :: l) h with ⟨c, r, e, h'⟩ | e
    · obtain ⟨e1, e2⟩ := List.cons.inj e
      subst e1
      subst e2
      rw [List.contains_cons, ih h']
      rfl
    · rw [e]
theorem has_ne {l : List Value} (h : l.contains (.type "object") = true) : l.isEmpty = false := by
  cases l with
  | nil => cases h
  | cons a l => rfl
section
variable {prog : Program} {w : World} {A : Around} {R : Result → Shared → Prop} {hp : Heap} {g : Array GenState} {d : Drawn} {t : Nat} {os : OsState}
variable {K : W.Frag} {name : Str} {tk : Tok} {v : Value} {x C : Addr} {fv : Array Value} {cd : ClassData} {tl : List Value}
/-- the first field: a dict is laid -/
theorem set_first (T : TailOk tl) (X : K.In hp) (hx : hp.get? x = some { cls := .ref C, data := .fields fv }) (hcd : W.clsIn K C = some cd) (hm : refsT tl cd.mro = true) (hh : cd.hasDict = true) (ha : W.findIn K (.ref C) name = some none)
    (fin : ∀ h' tk' dx, (∀ b o, b ≠ x → hp.get? b = some o → h'.get? b = some o) → hp.objs.size ≤ dx → dx ≠ x → h'.get? x = some { cls := .ref C, dict := some dx, data := .fields fv } → h'.Ns1 dx (fun y => if y = name then some v else none) → R (.ok (.ret .none)) ⟨h', g, d, tk', os⟩) :
    codeAny (model prog w) A (.call (.builtin "object.__setattr__") ⟨[.ref x, .str name tk, v], []⟩) R ⟨hp, g, d, t, os⟩ := by
  have J : W.InstAt hp x { cls := .ref C, data := .fields fv } C none := ⟨hx, rfl, rfl, trivial⟩
  have SF := F.store_object
  have has : cd.mro.contains (.type "object") = true := by rw [refsT_has "object" hm]; exact T.ob
  have em := has_ne has
  have xs : x ≠ hp.objs.size := Nat.ne_of_lt (Heap.lt_size hx)
  have inO : W.Looks (model prog w) hp (isInstance (.ref x) (.type "object")) true := J.type.andThen (W.looks_mroIn X (by unfold W.mroIn; rw [hcd, Option.bind_some, if_neg (by rw [em]; exact Bool.false_ne_true), has]))
  have Lm : W.Looks (model prog w) hp (mroOf (.ref C)) cd.mro := (W.looks_clsIn X hcd).andThen .now
  have Lt : W.Looks (model prog w) hp (storeTaker? none) none := .now
  have Lc : W.Looks (model prog w) hp (classData C) cd := W.looks_clsIn X hcd
  have ck := SF.args (.ref x) (.str name tk) v
  refine codeAny_call_builtin SF.slot.plain SF.entry (@W.check_slot (model prog w) _ _ ⟨hp, g, d, t, os⟩ "object.__setattr__" "object" "__setattr__" (.ref x) [.str name tk, v] [] _ SF.kind SF.split inO ck ?_)
  rw [W.osa_eq, refuse_eq]
  refine wpAny_bind (wpAny_bind (J.type.at ?_))
  refine wpAny_bind (Lm.at ?_)
  rw [refsT_by T _ hm]
  refine wpAny_pure (wpAny_bind (J.type.at ?_))
  refine wpAny_bind ((W.looks_findIn X ha).at ?_)
  refine wpAny_bind (Lt.at ?_)
  show wpAny _ _ (storeInOwnDict (.ref x) (.ref C) (.str name tk) name v false) _ _ _
  obtain ⟨nm, bs, mro, ns, qn, hd, sn, sb, ab, col, del⟩ := cd
  dsimp only at hh
  subst hh
  unfold storeInOwnDict ownDictForStores
  repeat (first | with_reducible refine store_in_new ?_ ?_ | with_reducible refine wpAny_loadPart_at hx ?_ | with_reducible refine Lc.at ?_ | wp_step)
  · exact ⟨_, #[], _, (Heap.get?_update_ne _ _ _ _ xs.symm).trans (Heap.get?_push_at rfl rfl), rfl, fun e m => absurd m (by simp), fun _ => rfl⟩
  · intro h' tk' hn' hs
    have hx1 : (hp.push { cls := .type "dict", data := .dict #[] }).get? x = some { cls := .ref C, data := .fields fv } := Heap.get?_push_of_some _ hx
    refine fin h' tk' hp.objs.size (fun b o hb ho => ?_) (Nat.le_refl _) xs.symm ((hs.2 x xs).trans (Heap.get?_update_self _ hx1 rfl)) hn'
    rw [hs.2 b (Nat.ne_of_lt (Heap.lt_size ho)), Heap.get?_update_ne _ _ _ _ hb]
    exact Heap.get?_push_of_some _ ho
/-- a further field -/
theorem set_next {dx : Addr} {m0 : Str → Option Value} {nl : List Str} (T : TailOk tl) (X : K.In hp) (hx : hp.get? x = some { cls := .ref C, dict := some dx, data := .fields fv }) (hns : hp.Ns1 dx m0) (hw : Within m0 nl) (hz : nl.length ≤ 1000) (hcd : W.clsIn K C = some cd) (hm : refsT tl cd.mro = true) (hh : cd.hasDict = true) (ha : W.findIn K (.ref C) name = some none)
    (fin : ∀ h' tk', (∀ b o, b ≠ dx → hp.get? b = some o → h'.get? b = some o) → h'.Ns1 dx (fun y => if y = name then some v else m0 y) → R (.ok (.ret .none)) ⟨h', g, d, tk', os⟩) :
    codeAny (model prog w) A (.call (.builtin "object.__setattr__") ⟨[.ref x, .str name tk, v], []⟩) R ⟨hp, g, d, t, os⟩ := by
  obtain ⟨oD, esD, epD, hoD, hdD, _⟩ := hns.count hw
  have J : W.InstAt hp x { cls := .ref C, dict := some dx, data := .fields fv } C (some oD) := ⟨hx, rfl, rfl, hoD⟩
  have SF := F.store_object
  have has : cd.mro.contains (.type "object") = true := by rw [refsT_has "object" hm]; exact T.ob
  have em := has_ne has
  have inO : W.Looks (model prog w) hp (isInstance (.ref x) (.type "object")) true := J.type.andThen (W.looks_mroIn X (by unfold W.mroIn; rw [hcd, Option.bind_some, if_neg (by rw [em]; exact Bool.false_ne_true), has]))
  have Lm : W.Looks (model prog w) hp (mroOf (.ref C)) cd.mro := (W.looks_clsIn X hcd).andThen .now
  have Lt : W.Looks (model prog w) hp (storeTaker? none) none := .now
  have Lc : W.Looks (model prog w) hp (classData C) cd := W.looks_clsIn X hcd
  have ck := SF.args (.ref x) (.str name tk) v
  refine codeAny_call_builtin SF.slot.plain SF.entry (@W.check_slot (model prog w) _ _ ⟨hp, g, d, t, os⟩ "object.__setattr__" "object" "__setattr__" (.ref x) [.str name tk, v] [] _ SF.kind SF.split inO ck ?_)
  rw [W.osa_eq, refuse_eq]
  refine wpAny_bind (wpAny_bind (J.type.at ?_))
  refine wpAny_bind (Lm.at ?_)
  rw [refsT_by T _ hm]
  refine wpAny_pure (wpAny_bind (J.type.at ?_))
  refine wpAny_bind ((W.looks_findIn X ha).at ?_)
  refine wpAny_bind (Lt.at ?_)
  show wpAny _ _ (storeInOwnDict (.ref x) (.ref C) (.str name tk) name v false) _ _ _
  obtain ⟨nm, bs, mro, ns, qn, hd, sn, sb, ab, col, del⟩ := cd
  dsimp only at hh
  subst hh
  unfold storeInOwnDict ownDictForStores
  repeat (first | with_reducible refine PySem.OEX.store_in_old hns hw hz ?_ | with_reducible refine wpAny_loadPart_at hx ?_ | with_reducible refine Lc.at ?_ | wp_step)
  intro h' tk' hn' hs
  refine fin h' tk' (fun b o hb ho => ?_) hn'
  rw [hs.2 b hb]
  exact ho
end
end
end VQ
namespace VQ
open PySem PySem.Spec PyProof.Rows L2
/-! ### self.f = e, C(e, ..) for such exceptions -/
structure OexT (K : PySem.W.Frag) (C : Addr) (tl : List Value) (newId : String) : Prop where
  cls : ∃ nm q N bs bm sn sub ab col dd k0 k1 k2 k3 k5, K.lookup C = some (excClassObj nm q C N bs bm true sn sub ab col dd k0 k1 k2 k3 k5 newId) ∧ refsT tl bm = true
  sa : PySem.W.findIn K (.ref C) "__setattr__" = some (some (.builtin "object.__setattr__"))
  exC : PySem.W.subIn K (.ref C) (.type "BaseException") = some true
  tyC : PySem.W.typeIn K (.ref C) = some (.type "type")
  kC : PySem.W.keepIn K (.ref C) = true
section
variable {X : Cx} {pins : List (Addr × Obj)} {σ : L2.St} {H : Hp} {s : Shared} {a C dx : Addr} {f : Str} {y : V} {u : Value} {fs : List (Str × V)} {Q : Unit → Shared → Prop} {E : Value → Shared → Prop} {A : Around} {tl : List Value} {newId : String}
theorem OexT.data {K : PySem.W.Frag} (T : OexT K C tl newId) : ∃ cd, PySem.W.clsIn K C = some cd ∧ refsT tl cd.mro = true ∧ cd.hasDict = true := by
  obtain ⟨nm, q, N, bs, bm, sn, sub, ab, col, dd, k0, k1, k2, k3, k5, hC, hbm⟩ := T.cls
  refine ⟨{ name := nm, bases := bs, mro := .ref C :: bm, ns := N, qualname := q, hasDict := true, slotNames := sn, subclasses := sub, abstract := ab, collection := col, hasDel := false }, ?_, hbm, rfl⟩
  unfold PySem.W.clsIn
  rw [hC] <;> rfl
theorem field_new (ok : TailOk tl) (T : OexT X.K C tl newId) (I : Inv X pins σ H s) (e : H a = some (exo a C none)) (hno : PySem.W.findIn X.K (.ref C) f = some none) (ry : RelV y u)
    (fin : ∀ dx s', H dx = none → dx ≠ a → Inv X pins σ (upd (upd H dx (exd dx [(f, y)])) a (exo a C (some dx))) s' → Q () s') : wpAny (model X.prog X.w) A (setAttr (.ref a) f u) Q E s := by
  obtain ⟨cd, hcl, hmro, hdict⟩ := T.data
  obtain ⟨t1, ho⟩ := exo_at I.hok e
  obtain ⟨hp, g, d, t, os⟩ := s
  refine PySem.W.set_plain I.kIn (od := none) ⟨ho, rfl, rfl, trivial⟩ T.sa ?_
  refine set_first ok I.kIn ho hcl hmro hdict hno (fun h' tk' dx kp dn dne hx hn => ?_)
  have fresh : H dx = none := I.hok.fresh dn
  have far : ∀ {c : Addr} {o : Obj}, hp.get? c = some o → c ≠ dx := fun {c o} z => Nat.ne_of_lt (Nat.lt_of_lt_of_le (Heap.lt_size z) dn)
  have off : ∀ {c : Addr}, H c = none → c ≠ a := fun {c} z y' => by rw [y', e] at z; cases z
  have there : ∀ c o, hp.get? c = some o → ∃ o', h'.get? c = some o' := fun c o z => by
    by_cases hc : c = a
    · exact ⟨_, hc ▸ hx⟩
    · exact ⟨o, kp c o hc z⟩
  have U : Un X.fs [] H (upd (upd H dx (exd dx [(f, y)])) a (exo a C (some dx))) hp h' := {
    keep := fun c o z n' _ _ => kp c o (off n') z
    slot := fun c o z n' _ _ => ⟨o.slots, kp c o (off n') z⟩
    free := fun c o z n' _ => (upd_ne (off n')).trans ((upd_ne (far z)).trans n')
    there := fun c o z _ => there c o z
    tups := fun c xs z => (upd_ne (at_ne e z exo_tup)).trans ((upd_ne (ne_of_none z fresh)).trans z)
    frzs := fun c o v z => (upd_ne (at_ne e z exo_frz)).trans ((upd_ne (ne_of_none z fresh)).trans z)
    tbls := fun c ps z => ⟨#[], by rw [upd_ne (at_ne e z exo_tbl), upd_ne (ne_of_none z fresh), z]; simp⟩ }
  show Q () _
  refine fin dx _ fresh dne (I.un (t' := tk') U fun c o z => ?_)
  by_cases hc : c = a
  · subst hc
    rw [upd_same] at z
    cases z
    exact exo_ok hx
  rw [upd_ne hc] at z
  by_cases hd : c = dx
  · subst hd
    rw [upd_same] at z
    cases z
    exact exd_ok hn (relO_put (fs := []) ry fun g => True.intro)
  rw [upd_ne hd] at z
  have stay : ∀ c' v, (c' = c ∨ H c' = some (.own c)) → hp.get? c' = some v → h'.get? c' = some v := fun c' v hh zz => kp c' v (by
    rcases hh with hh | hh
    · rw [hh]
      exact hc
    · exact at_ne e hh exo_own) zz
  exact (I.hok c o z).stay stay (fun c' hh => (upd_ne (at_ne e hh exo_own)).trans ((upd_ne (ne_of_none hh fresh)).trans hh)) (fun c' xs hh => (upd_ne (at_ne e hh exo_tup)).trans ((upd_ne (ne_of_none hh fresh)).trans hh))
theorem field_more (ok : TailOk tl) (T : OexT X.K C tl newId) (I : Inv X pins σ H s) (e : H a = some (exo a C (some dx))) (ed : H dx = some (exd dx fs)) (few : fs.length ≤ 900) (hno : PySem.W.findIn X.K (.ref C) f = some none) (ry : RelV y u)
    (fin : ∀ s', Inv X pins σ (upd H dx (exd dx ((f, y) :: fs))) s' → Q () s') : wpAny (model X.prog X.w) A (setAttr (.ref a) f u) Q E s := by
  obtain ⟨cd, hcl, hmro, hdict⟩ := T.data
  obtain ⟨t1, ho⟩ := exo_at I.hok e
  obtain ⟨mA, hns, rel⟩ := exd_at I.hok ed
  have wi := within_of rel
  obtain ⟨hp, g, d, t, os⟩ := s
  obtain ⟨oD, _, _, hoD, _, _⟩ := hns.count wi
  refine PySem.W.set_plain I.kIn (od := some oD) ⟨ho, rfl, rfl, hoD⟩ T.sa ?_
  refine set_next ok I.kIn ho hns wi (by rw [List.length_map]; omega) hcl hmro hdict hno (fun h' tk' kp hn => ?_)
  obtain ⟨o', _, _, e', _⟩ := id hn
  exact fin _ (I.write (t' := tk') (x := dx) (e := dx) (o := exd dx ((f, y) :: fs)) (by rw [ed]; exact True.intro) (.inl rfl) kp ⟨o', e'⟩ (exd_ok hn (relO_put ry rel)))
end
/-- self.f = e -/
def tOstT (K : PySem.W.Frag) (tl : List Value) (newId : String) (f : Str) (to te : TE) : TS := fun D σ H => te σ H fun y H1 => to σ H1 fun x H2 => ∃ a C : Addr, x = .ref a ∧ OexT K C tl newId ∧ PySem.W.findIn K (.ref C) f = some none ∧
  ((H2 a = some (exo a C none) ∧ ∀ dx, H2 dx = none → dx ≠ a → D.nx σ (upd (upd H2 dx (exd dx [(f, y)])) a (exo a C (some dx)))) ∨
    ∃ (dx : Addr) (fs : List (Str × V)), H2 a = some (exo a C (some dx)) ∧ H2 dx = some (exd dx fs) ∧ fs.length ≤ 900 ∧ D.nx σ (upd H2 dx (exd dx ((f, y) :: fs))))
section
variable {X : Cx} {o e : Expr} {es : List Expr} {to te : TE} {ta : TA} {f : Str} {p p' pos : Pos} {tl : List Value} {B newId initId : String}
theorem ps_ostT (ok : TailOk tl) (ho : PE X o to) (he : PE X e te) (hs : swapsWith e (some (.Attribute o f p')) pos.line X.env = pure false := by rfl) : PS X (.Assign [.Attribute o f p'] e pos) (tOstT X.K tl newId f to te) := by
  refine ⟨fun pins s σ H D I want => ?_⟩
  refine plainObj_wpAny_Assign_Attribute (thn (he.run pins s σ H _ I want) fun v s1 ⟨y, H1, I1, r1, q1⟩ => ?_) hs
  refine thn (ho.run pins s1 σ H1 _ I1 q1) fun u s2 ⟨x, H2, I2, r2, a, C, ex, T, hno, q⟩ => ?_
  subst ex
  obtain rfl : u = Value.ref a := r2
  rcases q with ⟨ea, q⟩ | ⟨dx, fs, ea, ed, few, q⟩
  · exact field_new ok T I2 ea hno r1 fun dx s' n ne J => ⟨σ, _, J, q dx n ne⟩
  · exact field_more ok T I2 ea ed few hno r1 fun s' J => ⟨σ, _, J, q⟩
/-- C(e, ..), C's own __init__ keeping sp -/
theorem pmk_oexT {CX : CXT} {x : Str} {C fI : Addr} {k : Nat} {fd : FuncData} {ps : List Str} {sp : Sp} {ds : List Value} {dvs : List V} (FB : ExcBaseFacts B newId initId tl) (T : OexT X.K C tl newId) (iC : PySem.W.findIn X.K (.ref C) "__init__" = some (some (.ref fI))) (tI : PySem.W.typeIn X.K (.ref fI) = some (.type "function"))
    (F1 : FnOk X.prog X.w X.K X.mg X.base CX k fI fd ps sp) (hr : Room (k + 1) X.A) (hb : Binds X.K fd ps ds) (hd : Vals dvs ds) (hx : Passes CX X (fun _ _ _ => False)) (hg : Gl X x) (hm : X.mg x = some (.ref C)) (ha : PA X (e :: es) ta)
    (hdb : (x == ("__debug__" : Str)) = false := by decide) (he : starEach (e :: es) X.env = (false, eval e X.env) :: starEach es X.env := by rfl) (hpl : (backTo pos (starEach es X.env)).any (·.1) = false := by rfl) :
    PMk X (.Call (.Name x p) (e :: es) [] pos) (tMkO C sp dvs ta) := by
  intro pins s σ H Q I want
  obtain ⟨nm, q, N, bs, bm, sn, sub, ab, col, dd, k0, k1, k2, k3, k5, hC, hbm⟩ := T.cls
  refine wpAny_Call_Name_kw (ld_glob I hg hm ?_ hdb)
  refine PySem.W.callWith_K (h₀ := X.base) I.ok.mod.kin T.kC (thn (ha.run pos pins s σ H _ I want) fun us s1 ⟨vs, H1, I1, r1, hz, q1⟩ => ?_) he hpl
  refine ⟨I1.kIn, ?_⟩
  show wpAny _ _ (call (.ref C) us) _ _ _
  obtain ⟨hp, g, dr, tk, os⟩ := s1
  obtain ⟨n, en⟩ : ∃ n, n = hp.objs.size + 1 := ⟨_, rfl⟩
  have big : hp.objs.size ≤ n := by omega
  have fresh : H1 n = none := I1.hok.fresh big
  have pre := q1 n fresh
  obtain ⟨hp2, ehp⟩ : ∃ hp2, hp2 = (hp.push (PySem.W.kdv_tup us)).push (PySem.HandSPX.excO C hp.objs.size) := ⟨_, rfl⟩
  have kp : ∀ c o, hp.get? c = some o → hp2.get? c = some o := fun c o z => by
    rw [ehp]
    exact Heap.get?_push_of_some _ (Heap.get?_push_of_some _ z)
  have got : hp2.get? n = some (PySem.HandSPX.excO C hp.objs.size) := by
    rw [ehp, en]
    heap_get
  have I2 : Inv X pins σ (upd H1 n (exo n C none)) ⟨hp2, g, dr, tk, os⟩ := I1.laid (t' := tk) (a := n) (o := exo n C none) (h' := hp2) kp big (exo_ok got)
  have r2 : Vals (V.ref n :: (vs ++ dvs)) (Value.ref n :: (us ++ ds)) := .cons rfl (r1.append hd)
  have lens : (Value.ref n :: us ++ ds).length = ps.length := (r2.length.symm.trans (F1.len _ _ _ _ pre)).symm ▸ rfl
  have few : us.length ≤ sizeLine := by
    have := Paired.length r1
    rw [sizeLine_eq]
    omega
  have go := F1.run _ X.stack _ _ ⟨Value.ref n :: us, []⟩ (Value.ref n :: (us ++ ds)) _ _ (fun _ _ _ => False) (hr.make C us []) (I2.env0.make C us []) (hb _ (Value.ref n :: us) I2.kIn lens) r2 pre
  subst ehp
  subst en
  refine wpAny_call (PySem.HandSPX.call_own FB (fun Y => refsT_has Y hbm) (I1.kIn _ _ hC) (PySem.W.looks_findIn I1.kIn iC) (fun self => PySem.W.bind_fn I1.kIn self tI) few (codeAny_mono go fun r s' got' => ?_))
  cases r with
  | error er => exact hx pins σ _ _ er s' I2 got'
  | ok fl =>
    cases fl with
    | next => exact False.elim got'
    | brk => exact False.elim got'
    | cont => exact False.elim got'
    | ret u =>
      obtain ⟨v, H2, os2, bare2, un2, hok2, rv, ev, d, fs, ea, ed, hd1, q2⟩ := got'
      subst ev
      obtain ⟨h2, g2, d2, t2, os'⟩ := s'
      exact ⟨rv, mk_end (raises_own T.exC T.tyC) I1 big kp un2 hok2 os2 bare2 ea ed hd1 q2⟩
end
/-! ### C.m(e, ..), C a class of the program, m a plain def of it -/
section
variable {X : Cx} {CX : CXT} {k : Nat} {C g : Addr} {mc : Value} {fd : FuncData} {ps : List Str} {ds : List Value} {dvs : List V} {sp : Sp} {E : XK} {o e : Expr} {es : List Expr} {m : Str} {pos apos : Pos} {ta : TE} {t : TA} {pl : Sem Bool}
def tClsM (C : Addr) (sp : Sp) (dvs : List V) (E : XK) (ta : TE) (t : TA) : TE := fun σ H Q => ta σ H fun x H1 => x = .ref C ∧ t σ H1 fun vs H2 => sp (vs ++ dvs) H2 Q E
theorem pe_clsM (he : PE X o ta) (r : ClX.CRead X.K C mc) (c : PySem.W.findCls X.K (.ref C) mc m = some (.val (.ref g))) (F : FnOk X.prog X.w X.K X.mg X.base CX k g fd ps sp) (hr : Room k X.A) (hk : PySem.W.keepIn X.K (.ref g) = true) (hb : Binds X.K fd ps ds) (hd : Vals dvs ds) (hx : Passes CX X E) (ha : PA X (e :: es) t)
    (hst : starEach (e :: es) X.env = (false, eval e X.env) :: starEach es X.env := by rfl) (hpl : (backTo pos (starEach es X.env)).any (·.1) = false := by rfl)
    (ht : eval (.Call (.Attribute o m apos) (e :: es) [] pos) X.env = (do
      let ov ← eval o X.env
      standAt apos.atName
      let (fn, front) ← holding [ov] (getMethod ov m pl)
      callWith pos fn front (backTo pos (starEach (e :: es) X.env)) (backToKw pos (keywordEach [] X.env))) := by rfl) : PE X (.Call (.Attribute o m apos) (e :: es) [] pos) (tClsM C sp dvs E ta t) := by
  refine ⟨fun pins s σ H Q I want => ?_⟩
  refine PySem.W.methodCall_KW (pl := pl) (thn (he.run pins s σ H _ I want) fun u s1 ⟨x, H1, I1, rx, ex, q⟩ => ?_) ht
  subst ex
  obtain rfl : u = Value.ref C := rx
  refine PySem.W.method_cls I1.kIn r.ga (PySem.W.cls_value I1.kIn r.rd c rfl ?_)
  have I1' := I1.tok (s1.toks + 1)
  refine PySem.W.callWith_K (h₀ := X.base) I.ok.mod.kin hk (thn (ha.run pos pins _ σ H1 _ I1' q) fun us s2 ⟨vs, H2, I2, r2, q2⟩ => ⟨I2.kIn, ?_⟩) hst hpl
  exact run_fn F hr hb hd hx I2 r2 q2
end
end VQ
namespace VQ
open PySem L2 LamX
/-! ### tables of a book, what is handed in being good -/
abbrev sIsRow : Stmt := top 29
abbrev nIsRow : List Str := ["thing", "width", "part"]
theorem scIsRow : FnScope nIsRow ["thing", "width"] (defScope sIsRow) := ⟨rfl, rfl, rfl, by decide +kernel, rfl, by decide +kernel, by decide +kernel⟩
abbrev sAreRows : Stmt := top 30
abbrev nAreRows : List Str := ["thing", "width", "part"]
theorem scAreRows : FnScope nAreRows ["thing", "width"] (defScope sAreRows) := ⟨rfl, rfl, rfl, by decide +kernel, rfl, by decide +kernel, by decide +kernel⟩
abbrev sTableOf : Stmt := top 32
abbrev nTableOf : List Str := ["tables", "name"]
theorem scTableOf : FnScope nTableOf ["tables", "name"] (defScope sTableOf) := ⟨rfl, rfl, rfl, by decide +kernel, rfl, by decide +kernel, by decide +kernel⟩
abbrev sWithRows : Stmt := top 33
abbrev nWithRows : List Str := ["tables", "name", "rows", "width"]
theorem scWithRows : FnScope nWithRows ["tables", "name", "rows"] (defScope sWithRows) := ⟨rfl, rfl, rfl, by decide +kernel, rfl, by decide +kernel, by decide +kernel⟩
abbrev sMakeTable : Stmt := top 34
abbrev nMakeTable : List Str := ["tables", "name", "width"]
theorem scMakeTable : FnScope nMakeTable ["tables", "name", "width"] (defScope sMakeTable) := ⟨rfl, rfl, rfl, by decide +kernel, rfl, by decide +kernel, by decide +kernel⟩
abbrev sFillTable : Stmt := top 38
abbrev nFillTable : List Str := ["tables", "name", "rows", "width"]
theorem scFillTable : FnScope nFillTable ["tables", "name", "rows"] (defScope sFillTable) := ⟨rfl, rfl, rfl, by decide +kernel, rfl, by decide +kernel, by decide +kernel⟩
/-- a table: its width, its rows -/
def TabAt (H : Hp) (v : V) (wd : Nat) (rs : List (List Nat)) : Prop := ∃ t r us, v = .ref t ∧ H t = some (.tup [.int (wd : Int), .ref r]) ∧ H r = some (.tup us) ∧ Rows H us rs
theorem TabAt.same {H H' : Hp} (s : Same H H') {v : V} {wd : Nat} {rs : List (List Nat)} (h : TabAt H v wd rs) : TabAt H' v wd rs := by
  obtain ⟨t, r, us, e, h1, h2, h3⟩ := h
  exact ⟨t, r, us, e, s _ _ h1, s _ _ h2, h3.same s⟩
abbrev Tbs := Str → Option (Nat × List (List Nat))
def TabO (H : Hp) : Option V → Option (Nat × List (List Nat)) → Prop
  | some v, some t => TabAt H v t.1 t.2
  | none, none => True
  | _, _ => False
/-- n tables by their names -/
def TsAt (H : Hp) (a : Addr) (n : Nat) (f : Tbs) : Prop := ∃ kvs : List (L2.Key × V), H a = some (.dK kvs) ∧ kvs.length = n ∧ ∀ nm : Str, TabO H (valV kvs (Sum.inr nm)) (f nm)
theorem TabO.same {H H' : Hp} (s : Same H H') {o : Option V} {t : Option (Nat × List (List Nat))} (h : TabO H o t) : TabO H' o t := by
  cases o <;> cases t
  · trivial
  · exact h
  · exact h
  · exact TabAt.same s h
theorem TsAt.same {H H' : Hp} (s : Same H H') {a : Addr} {n : Nat} {f : Tbs} (h : TsAt H a n f) : TsAt H' a n f := by
  obtain ⟨kvs, h1, h2, h3⟩ := h
  exact ⟨kvs, s _ _ h1, h2, fun nm => (h3 nm).same s⟩
def fset (f : Tbs) (nm : Str) (t : Nat × List (List Nat)) : Tbs := fun z => if z = nm then some t else f z
theorem putK_old {kvs : List (L2.Key × V)} {k : L2.Key} {v x : V} (h : valV kvs k = some x) : (putK kvs k v).length = kvs.length := by
  have e : (kvs.any fun kv => decide (kv.1 = k)) = true := by rw [valV_any, h]; rfl
  unfold putK
  rw [if_pos e, List.length_map]
theorem putK_fresh {kvs : List (L2.Key × V)} {k : L2.Key} {v : V} (h : valV kvs k = none) : (putK kvs k v).length = kvs.length + 1 := by
  rw [putK_new v h, List.length_append]
  rfl
theorem ts_put {H : Hp} {a : Addr} {kvs : List (L2.Key × V)} {f : Tbs} {nm : Str} {v : V} {t : Nat × List (List Nat)} (ha : H a = some (.dK (putK kvs (Sum.inr nm) v))) (old : ∀ z : Str, TabO H (valV kvs (Sum.inr z)) (f z)) (hv : TabAt H v t.1 t.2) : TsAt H a (putK kvs (Sum.inr nm) v).length (fset f nm t) := by
  refine ⟨_, ha, rfl, fun z => ?_⟩
  rw [valV_put]
  unfold fset
  by_cases c : z = nm
  · rw [if_pos (by rw [c]), if_pos c]
    exact hv
  · rw [if_neg (fun e => c (by injection e)), if_neg c]
    exact old z
theorem rows_ks {K : PySem.W.Frag} {H : Hp} : ∀ {us : List V} {rs : List (List Nat)}, Rows H us rs → ∃ ks : List (Addr × List Int), us = ks.map (fun p => V.ref p.1) ∧ ks.map (·.2) = rs.map (fun r => r.map fun n => ((n : Nat) : Int)) ∧ ∀ p ∈ ks, SqT K H p.1 (p.2.map V.int)
  | _, _, .nil => ⟨[], rfl, rfl, fun p m => by cases m⟩
  | _, _, .cons (a := a) (r := r) h t => by
    obtain ⟨ks, e1, e2, e3⟩ := rows_ks (K := K) t
    refine ⟨(a, r.map fun n => ((n : Nat) : Int)) :: ks, by rw [e1]; rfl, by rw [List.map_cons, e2]; rfl, fun p m => ?_⟩
    rcases List.mem_cons.mp m with rfl | m
    · refine SqT.of ?_
      rw [h, List.map_map]
      rfl
    · exact e3 p m
theorem cast_inj : ∀ {r q : List Nat}, (r.map fun n => ((n : Nat) : Int)) = (q.map fun n => ((n : Nat) : Int)) → r = q
  | [], [], _ => rfl
  | [], _ :: _, h => by cases h
  | _ :: _, [], h => by cases h
  | x :: r, y :: q, h => by
    rw [List.map_cons, List.map_cons] at h
    injection h with h1 h2
    rw [cast_inj h2, show x = y by omega]
theorem nodup_casts {rs : List (List Nat)} (h : rs.Nodup) : (rs.map (fun r => r.map fun n => ((n : Nat) : Int))).Nodup := by
  induction rs with
  | nil => exact List.nodup_nil
  | cons r rs ih =>
    rw [List.nodup_cons] at h
    rw [List.map_cons, List.nodup_cons]
    refine ⟨fun m => ?_, ih h.2⟩
    obtain ⟨q, mq, e⟩ := List.mem_map.mp m
    rw [cast_inj e] at mq
    exact h.1 mq
def rSortW (K : PySem.W.Frag) : List V → Hp → VK → Prop := fun vs H Q => ∃ d : Nat, 1 ≤ d ∧ rSortM K d 32 vs H Q
theorem cr_sortW {X : Cx} : CallR X (.builtin "sorted") (rSortW X.K) := by
  intro pins s σ H vs us Q inv r ⟨d, hd, h⟩
  exact cr_sortM hd pins s σ H vs us Q inv r h
/-- isinstance(y, (list, tuple)) -/
theorem pe_isiLT {X : Cx} {p p0 p1 p2 p3 pos : Pos} {i k : Nat} {y : Str} (he : PE X (.Name y p0) (tVar i)) (g : Gl X "isinstance") (hm : X.mg "isinstance" = none) (gi : Gl X "list") (hi : X.mg "list" = none) (gs : Gl X "tuple") (hs : X.mg "tuple" = none) :
    PE X (.Call (.Name "isinstance" p) [.Name y p0, .Tuple [.Name "list" p1, .Name "tuple" p2] k p3] [] pos) (tCB (rIsiT X.K) (tCons (tVar i) (tCons (tTup (tCons (tC (.ty "list")) (tCons (tC (.ty "tuple")) tNil))) tNil))) :=
  pe_callB call_isiT g hm (by decide +kernel) (pa_cons he (pa_cons (pe_tup (pa_cons (pe_bltn (v := .ty "list") gi hi (by decide +kernel) rfl) (pa_cons (pe_bltn (v := .ty "tuple") gs hs (by decide +kernel) rfl) pa_nil))) pa_nil))
section
variable {P : Program} {w : World} {K : PySem.W.Frag} {mg : Str → Option Value} {base : Heap} {aB : Addr}
def RowOk (wd : Nat) (r : List Nat) : Prop := r.length = wd ∧ ∀ n ∈ r, n < 32
def spIsRow : Sp := fun vs H Q _ => ∃ (a : Addr) (r : List Nat) (wd : Nat), vs = [.ref a, .int (wd : Int)] ∧ H a = some (.tup (r.map numV)) ∧ RowOk wd r ∧ wd ≤ 4 ∧ ∀ H', Same H H' → Q (.bl true) H'
theorem has_isrow (b : Blt mg) (hWo : Has P w K mg base CX0 2 "is_worth" sIsWorth ["thing"] (spIsWorth K)) (a : AtE K mg "is_row" sIsRow ["thing", "width"]) : Has P w K mg base CX0 3 "is_row" sIsRow ["thing", "width"] spIsRow := by
  obtain ⟨f, fd, a⟩ := a
  obtain ⟨fWo, fdWo, aWo, GWo⟩ := hWo
  refine ⟨f, fd, a, a.fn.ok scIsRow (fun vs H Q E h => ?_) (fun cdv A outer s H vs Q E hr2 h => ?_)⟩
  · obtain ⟨ad, r, wd, rfl, _⟩ := h
    rfl
  · obtain ⟨ad, r, wd, rfl, ha, ok, w4, k⟩ := h
    refine ⟨_,
    (pss_one (ps_ret (pe_and (pe_isi (pv 0) rfl b.isi rfl b.tuple (c := "tuple") (by decide +kernel)) (pe_and (pe_cmpR op_eq (pe_callB call_len_seq (by rfl) b.len PySem.boot_len (pa_cons (pv 0) pa_nil)) (pv 1) (nomark _)) (pe_one (pe_callB (cr_all rfl) (by rfl) b.all (by decide +kernel) (pa_cons (pe_lc (own := [("part", 2)]) (g := (gName 2)) (tt := tYes) (te := (tCall (spIsWorth K) [] E0 (tCons (tVar 2) tNil))) rfl scIsRow.nd (pi_tup (pv 0)) (blkOk_by (N := nIsRow) (sc := defScope sIsRow) (by decide +kernel)) (fun _ _ _ _ _ => (pg_name (i := 2) scIsRow.nd rfl (.inl rfl))) (fun _ _ _ _ _ => pts_nil) (fun _ _ _ _ _ => (pe_call GWo hr2 rfl aWo.gl aWo.fn.kp aWo.bd .nil pass0 (pa_cons (pv 2) pa_nil)))) pa_nil))))))), ?_⟩
    refine rd_isi rfl (.base (.tup ha)) (b := true) (by decide +kernel) ⟨_, rfl, iteT ?_⟩
    refine ⟨_, rfl, ad, _, rfl, .inr (SqT.of ha), _, rfl, rfl, _, rfl, ?_⟩
    rw [List.length_map, ok.1, decide_eq_true rfl]
    refine iteT ⟨_, rfl, ad, rfl, ⟨_, SqT.of ha⟩, fun D hD => ?_⟩
    refine lc_tupV (xs := r.map numV) (fun _ => .bl true) hD (SqT.of ha) (by rw [List.length_map, ok.1]; omega) ?_ ?_
    · intro i x H2 hx s2 c1 c2 kk
      obtain ⟨n, hn, rfl⟩ := getF hx
      have ln := ok.2 n (List.mem_of_getElem? hn)
      have e : worthB (numV n) = true := by
        show (decide (0 ≤ (n : Int)) && decide ((n : Int) < 32)) = true
        rw [decide_eq_true (show 0 ≤ (n : Int) by omega), decide_eq_true (show (n : Int) < 32 by omega)]
        rfl
      refine ⟨rfl, yes_turn ⟨_, rfl, numV n, "int", rfl, .base (.int _), by decide, ?_⟩⟩
      rw [e]
      exact kk _ (Same.refl _)
    · intro H2 s2 hd
      refine ⟨D, (r.map numV).map (fun _ => true), rfl, SqL.of (by rw [hd, List.map_map, List.map_map, List.map_map]; rfl), ?_⟩
      have e : ((r.map numV).map (fun _ => true)).all id = true := by
        rw [List.all_map]
        exact List.all_eq_true.mpr fun _ _ => rfl
      rw [e]
      exact k H2 s2
def spAreRows (K : PySem.W.Frag) : Sp := fun vs H Q _ => ∃ (l : Addr) (us : List V) (rs : List (List Nat)) (wd : Nat), vs = [.ref l, .int (wd : Int)] ∧ H l = some (.lst us) ∧ Rows H us rs ∧ (∀ r ∈ rs, RowOk wd r) ∧ wd ≤ 4 ∧ rs.Nodup ∧ rs.length < 60 ∧ ∀ H', Same H H' → Q (.bl true) H'
theorem has_arerows (b : Blt mg) (st : mg "set" = none) (hIr : Has P w K mg base CX0 3 "is_row" sIsRow ["thing", "width"] spIsRow) (a : AtE K mg "are_rows" sAreRows ["thing", "width"]) : Has P w K mg base CX0 4 "are_rows" sAreRows ["thing", "width"] (spAreRows K) := by
  obtain ⟨f, fd, a⟩ := a
  obtain ⟨fIr, fdIr, aIr, GIr⟩ := hIr
  refine ⟨f, fd, a, a.fn.ok scAreRows (fun vs H Q E h => ?_) (fun cdv A outer s H vs Q E hr3 h => ?_)⟩
  · obtain ⟨l, us, rs, wd, rfl, _⟩ := h
    rfl
  · obtain ⟨l, us, rs, wd, rfl, hl, ro, ok, w4, nd, few, k⟩ := h
    have hu : (A.deeper (PyProof.Rows.envOfC "are_rows" (defScope sAreRows) s.heap.objs.size f cdv)).units + 64 < cLine := hr3.units
    refine ⟨_,
    (pss_cons (ps_if (PW.pt (pw_or (pt_not (pt_val (pe_isiLT (pv 0) rfl b.isi rfl b.list rfl b.tuple))) (pw_or1 (pt_not (pt_val (pe_callB (cr_all rfl) (by rfl) b.all (by decide +kernel) (pa_cons (pe_lc (own := [("part", 2)]) (g := (gName 2)) (tt := tYes) (te := (tCall spIsRow [] E0 (tCons (tVar 2) (tCons (tVar 1) tNil)))) rfl scAreRows.nd (pi_list (pv 0)) (blkOk_by (N := nAreRows) (sc := defScope sAreRows) (by decide +kernel)) (fun _ _ _ _ _ => (pg_name (i := 2) scAreRows.nd rfl (.inl rfl))) (fun _ _ _ _ _ => pts_nil) (fun _ _ _ _ _ => (pe_call GIr hr3 rfl aIr.gl aIr.fn.kp aIr.bd .nil pass0 (pa_cons (pv 2) (pa_cons (pv 1) pa_nil))))) pa_nil)))))))
      (pss_one (ps_ret pe_bl))
      pss_nil)
    (pss_one (ps_ret (pe_cmpR op_eq (pe_lenSetT rfl hu (pv 0) (by rfl) b.len (by rfl) st) (pe_callB call_len_seq (by rfl) b.len PySem.boot_len (pa_cons (pv 0) pa_nil)) (nomark _))))), ?_⟩
    have len := ro.len
    refine ⟨_, rfl, by show 2 ≤ sizeLine; decide, fun T nT => ?_⟩
    have sT := same_new (o := HO.tup [.ty "list", .ty "tuple"]) nT
    refine ⟨.ref l, T, _, .type "list", _, true, rfl, upd_same, .cons (.ty "list") (.cons (.ty "tuple") .nil), .base (.lst (sT _ _ hl)), by rfl, _, rfl, iteF ?_⟩
    have ro1 := ro.same sT
    refine ⟨_, rfl, l, rfl, ⟨_, SqL.of (sT _ _ hl)⟩, fun D hD => ?_⟩
    refine lc_listV (xs := us) (fun _ => .bl true) hD (SqL.of (sT _ _ hl)) (by rw [len]; omega) ?_ ?_
    · intro i x H2 hx s2 c1 c2 kk
      obtain ⟨ad, r, rfl, hr, ha⟩ := ro1.get hx
      exact ⟨rfl, yes_turn ⟨_, rfl, _, rfl, ad, r, wd, rfl, s2 _ _ ha, ok r (List.mem_of_getElem? hr), w4, fun H3 s3 => kk _ s3⟩⟩
    · intro H2 s2 hd
      refine ⟨D, us.map (fun _ => true), rfl, SqL.of (by rw [hd, List.map_map]; rfl), ?_⟩
      have e : (us.map (fun _ => true)).all id = true := by
        rw [List.all_map]
        exact List.all_eq_true.mpr fun _ _ => rfl
      rw [e]
      refine ⟨true, rfl, iteF ?_⟩
      have s3 := sT.trans s2
      obtain ⟨ks, e1, e2, e3⟩ := rows_ks (K := K) (ro.same s3)
      have el : ks.length = rs.length := by rw [← len, e1, List.length_map]
      refine ⟨_, rfl, l, ks, rfl, SqL.of (by rw [← e1]; exact s3 _ _ hl), e3, by omega, fun n n1 n2 => ?_⟩
      have en := n1 (by rw [e2]; exact nodup_casts nd)
      refine ⟨_, rfl, l, us, rfl, .inl (SqL.of (s3 _ _ hl)), ?_⟩
      refine ⟨rfl, ?_⟩
      rw [show (V.int (n : Int)) = V.int (us.length : Int) by rw [en, el, len], decide_eq_true rfl]
      exact k _ s3
def spTableOf : Sp := fun vs H Q _ => ∃ (a : Addr) (nm : Str) (n : Nat) (f : Tbs) (t : Nat × List (List Nat)), vs = [.ref a, .str nm] ∧ TsAt H a n f ∧ f nm = some t ∧ n < 100 ∧ ∀ v, TabAt H v t.1 t.2 → Q v H
theorem has_tableof (b : Blt mg) (a : AtE K mg "table_of" sTableOf ["tables", "name"]) : Has P w K mg base CX0 1 "table_of" sTableOf ["tables", "name"] spTableOf := by
  obtain ⟨f, fd, a⟩ := a
  refine ⟨f, fd, a, a.fn.ok scTableOf (fun vs H Q E h => ?_) (fun cdv A outer s H vs Q E hr0 h => ?_)⟩
  · obtain ⟨ad, nm, n, tb, t, rfl, _⟩ := h
    rfl
  · obtain ⟨ad, nm, n, tb, t, rfl, ⟨kvs, hk, lk, all⟩, ht, few, k⟩ := h
    have hu1 : (A.deeper (PyProof.Rows.envOfC "table_of" (defScope sTableOf) s.heap.objs.size f cdv)).units + 1 < cLine := by
      have := hr0.units
      omega
    refine ⟨_,
    (pss_cons (ps_if (PW.pt (pw_or (pt_not (pt_val (pe_isi (pv 1) rfl b.isi rfl b.str (c := "str") (by decide +kernel)))) (pw_or1 (pt_cmp (pc_dnotin hu1 (pv 1) (pv 0))))))
      (pss_one ps_never)
      pss_nil)
    (pss_one (ps_ret (pe_dget hu1 (pv 0) (pv 1) fun _ _ => rfl)))), ?_⟩
    have h1 := all nm
    rw [ht] at h1
    cases ev : valV kvs (Sum.inr nm) with
    | none =>
      rw [ev] at h1
      exact h1.elim
    | some v =>
      rw [ev] at h1
      have dg : DGet H ad (.str nm) (some v) := .inl ⟨kvs, Sum.inr nm, .inl hk, rfl, ev.symm⟩
      refine rd_isi rfl (.base (.str nm)) (b := true) (by decide +kernel) ⟨_, rfl, iteF ?_⟩
      exact ⟨_, rfl, _, rfl, ad, _, rfl, dg, _, rfl, iteF ⟨_, rfl, _, rfl, ad, v, rfl, dg, k v h1⟩⟩
def Sorted (rs : List (List Nat)) : Prop := rs.Pairwise fun x y => TS.code 32 (x.map fun n => ((n : Nat) : Int)) ≤ TS.code 32 (y.map fun n => ((n : Nat) : Int))
/-- what sorted(rows) hands out -/
theorem sort_rowsW {K : PySem.W.Frag} {H : Hp} {l : Addr} {us : List V} {rs : List (List Nat)} {wd : Nat} {Q : VK} (hl : H l = some (.lst us)) (ro : Rows H us rs) (w1 : 1 ≤ wd) (hrs : ∀ r ∈ rs, RowOk wd r)
    (k : ∀ (p : Addr) (ys : List V) (ss : List (List Nat)), H p = none → Rows H ys ss → ss.Perm rs → Sorted ss → Q (.ref p) (upd H p (.lst ys))) : rSortW K [.ref l] H Q := by
  have tup : ∀ {a : Addr} {r : List Nat}, H a = some (.tup (r.map numV)) → TupI K H (.ref a) (r.map fun n => ((n : Nat) : Int)) := fun {a r} h => ⟨a, rfl, SqT.of (by rw [h, List.map_map]; rfl)⟩
  refine ⟨wd, w1, l, us, rfl, SqL.of hl, fun x mx => ?_, fun ys p pm pw np => ?_⟩
  · obtain ⟨a, r, rfl, mr, ha⟩ := ro.mem mx
    obtain ⟨e1, e2⟩ := hrs r mr
    refine ⟨_, tup ha, by rw [List.length_map, e1], fun m mm => ?_⟩
    obtain ⟨n, mn, rfl⟩ := List.mem_map.mp mm
    have := e2 n mn
    exact ⟨by omega, by omega⟩
  obtain ⟨ss, ps, rss⟩ := Rows.perm pm.symm ro
  refine k p ys ss np rss ps.symm ?_
  refine List.pairwise_iff_getElem.mpr fun i j li lj lt => ?_
  have li' : i < ys.length := by rw [rss.len]; exact li
  have lj' : j < ys.length := by rw [rss.len]; exact lj
  obtain ⟨a, q', e1, e2, e3⟩ := rss.get (List.getElem?_eq_getElem li')
  obtain ⟨c, r', f1, f2, f3⟩ := rss.get (List.getElem?_eq_getElem lj')
  rw [List.getElem?_eq_getElem li] at e2
  rw [List.getElem?_eq_getElem lj] at f2
  cases e2
  cases f2
  exact List.pairwise_iff_getElem.mp pw i j li' lj' lt _ _ (by rw [e1]; exact tup e3) (by rw [f1]; exact tup f3)
def spWithRows (K : PySem.W.Frag) : Sp := fun vs H Q _ => ∃ (a l : Addr) (us : List V) (nm : Str) (n : Nat) (f : Tbs) (t : Nat × List (List Nat)) (rs : List (List Nat)), vs = [.ref a, .str nm, .ref l] ∧ TsAt H a n f ∧ f nm = some t ∧ n < 100 ∧ 1 ≤ t.1 ∧ t.1 ≤ 4 ∧ H l = some (.lst us) ∧ Rows H us rs ∧ (∀ r ∈ rs, RowOk t.1 r) ∧ rs.length < 100 ∧
  ∀ (p d : Addr) (ss : List (List Nat)) (H' : Hp), Same H H' → H' p = some (.tup [.ref d, .int (rs.length : Int)]) → TsAt H' d n (fset f nm (t.1, ss)) → ss.Perm rs → Sorted ss → Q (.ref p) H'
theorem has_withrows (b : Blt mg) (so : mg "sorted" = none) (a : AtE K mg "with_rows" sWithRows ["tables", "name", "rows"]) : Has P w K mg base CX0 1 "with_rows" sWithRows ["tables", "name", "rows"] (spWithRows K) := by
  obtain ⟨f, fd, a⟩ := a
  refine ⟨f, fd, a, a.fn.ok scWithRows (fun vs H Q E h => ?_) (fun cdv A outer s H vs Q E hr0 h => ?_)⟩
  · obtain ⟨ad, l, us, nm, n, tb, t, rs, rfl, _⟩ := h
    rfl
  · obtain ⟨ad, l, us, nm, n, tb, t, rs, rfl, ⟨kvs, hk, lk, all⟩, ht, few, t1, t4, hl, ro, ok, fr, k⟩ := h
    have hu1 : (A.deeper (PyProof.Rows.envOfC "with_rows" (defScope sWithRows) s.heap.objs.size f cdv)).units + 1 < cLine := by
      have := hr0.units
      omega
    refine ⟨_,
    (pss_cons (ps_set (i := 3) scWithRows.nd rfl (.inl rfl) (pe_ix ix_tup (pe_dget hu1 (pv 0) (pv 1) fun _ _ => rfl) pe_int fun _ _ => rfl))
    (pss_one (ps_ret (pe_tup (pa_cons (pe_spread (pv 0) (pv 1) (pe_tup (pa_cons (pv 3) (pa_cons (pe_callTy call_tuple_of (by rfl) b.tuple (by decide +kernel) (pa_cons (pe_callB cr_sortW (by rfl) so (by decide +kernel) (pa_cons (pv 2) pa_nil)) pa_nil)) pa_nil)))) (pa_cons (pe_callB call_len_seq (by rfl) b.len PySem.boot_len (pa_cons (pv 2) pa_nil)) pa_nil)))))), ?_⟩
    have h1 := all nm
    rw [ht] at h1
    cases ev : valV kvs (Sum.inr nm) with
    | none =>
      rw [ev] at h1
      exact h1.elim
    | some v =>
      rw [ev] at h1
      have dg : DGet H ad (.str nm) (some v) := .inl ⟨kvs, Sum.inr nm, .inl hk, rfl, ev.symm⟩
      obtain ⟨ta, ra, vs0, rfl, htb, hr, old⟩ := h1
      refine ⟨_, rfl, _, rfl, ad, _, rfl, dg, ?_⟩
      refine ⟨ta, _, 0, _, rfl, rfl, SqT.of htb, rfl, ?_⟩
      intro pd npd
      have nad : ad ≠ pd := ne_of_none hk npd
      refine ⟨_, rfl, ad, kvs, rfl, (upd_ne nad).trans hk, nad, upd_same, by rw [lk]; exact Nat.lt_trans few (by decide), fun q nq => ?_⟩
      have nqp : q ≠ pd := fun e => by rw [e, upd_same] at nq; cases nq
      have nqH : H q = none := by
        rw [upd_ne nqp, upd_ne nqp] at nq
        exact nq
      have s2 : Same H (upd (upd (upd H pd (.dK [])) pd (.dK kvs)) q (.dK [])) := fun x o h => by
        rw [upd_ne (ne_of_none h nqH), upd_ne (ne_of_none h npd), upd_ne (ne_of_none h npd)]
        exact h
      have p2 : (upd (upd (upd H pd (.dK [])) pd (.dK kvs)) q (.dK [])) pd = some (.dK kvs) := (upd_ne nqp.symm).trans upd_same
      have q2 : (upd (upd (upd H pd (.dK [])) pd (.dK kvs)) q (.dK [])) q = some (.dK []) := upd_same
      generalize (upd (upd (upd H pd (.dK [])) pd (.dK kvs)) q (.dK [])) = H2 at s2 p2 q2
      refine ⟨_, rfl, _, rfl, _, rfl, sort_rowsW (s2 _ _ hl) (ro.same s2) t1 ok fun ps ys ss nps ros pm sr => ?_⟩
      refine ⟨ps, ys, rfl, .inl ⟨SqL.of upd_same, fun tl ntl => ?_⟩⟩
      have s3 : Same H2 (upd (upd H2 ps (.lst ys)) tl (.tup ys)) := (same_new nps).trans (same_new ntl)
      have tl3 : (upd (upd H2 ps (.lst ys)) tl (.tup ys)) tl = some (.tup ys) := upd_same
      generalize (upd (upd H2 ps (.lst ys)) tl (.tup ys)) = H3 at s3 tl3
      refine ⟨by show 2 ≤ sizeLine; decide, fun T nT => ?_⟩
      have s4 : Same H3 (upd H3 T (.tup [.int (t.1 : Int), .ref tl])) := same_new nT
      have T4 : (upd H3 T (.tup [.int (t.1 : Int), .ref tl])) T = some (.tup [.int (t.1 : Int), .ref tl]) := upd_same
      have nTp : T ≠ pd := (ne_of_none (s3 _ _ p2) nT).symm
      have nTq : T ≠ q := (ne_of_none (s3 _ _ q2) nT).symm
      have ntp : tl ≠ pd := fun e => by rw [e] at ntl; rw [upd_ne (ne_of_none p2 nps), p2] at ntl; cases ntl
      have ntq : tl ≠ q := fun e => by rw [e] at ntl; rw [upd_ne (ne_of_none q2 nps), q2] at ntl; cases ntl
      refine ⟨.ref T, Sum.inr nm, rfl, s4 _ _ (s3 _ _ q2), s4 _ _ (s3 _ _ p2), ?_⟩
      have sH := s2.trans (s3.trans s4)
      have p4 := s4 _ _ (s3 _ _ p2)
      have tl4 := s4 _ _ tl3
      have q4 := s4 _ _ (s3 _ _ q2)
      have ro4 := ros.same (s3.trans s4)
      generalize (upd H3 T (.tup [.int (t.1 : Int), .ref tl])) = H4 at sH T4 p4 tl4 ro4 q4
      have s5 : Same H (upd (upd H4 q (.dK [(Sum.inr nm, .ref T)])) pd (.dK (putK kvs (Sum.inr nm) (.ref T)))) := fun x o h => by
        rw [upd_ne (ne_of_none h npd), upd_ne (ne_of_none h nqH)]
        exact sH _ _ h
      have p5 : (upd (upd H4 q (.dK [(Sum.inr nm, .ref T)])) pd (.dK (putK kvs (Sum.inr nm) (.ref T)))) pd = some (.dK (putK kvs (Sum.inr nm) (.ref T))) := upd_same
      have mv : ∀ (x : Addr) (xs : List V), H4 x = some (.tup xs) → (upd (upd H4 q (.dK [(Sum.inr nm, .ref T)])) pd (.dK (putK kvs (Sum.inr nm) (.ref T)))) x = some (.tup xs) := fun x xs h => by
        rw [upd_ne (fun e => by rw [e, p4] at h; cases h), upd_ne (fun e => by rw [e, q4] at h; cases h)]
        exact h
      have T5 := mv _ _ T4
      have tl5 := mv _ _ tl4
      have ro5 := ro4.moved mv
      generalize (upd (upd H4 q (.dK [(Sum.inr nm, .ref T)])) pd (.dK (putK kvs (Sum.inr nm) (.ref T)))) = H5 at s5 p5 T5 tl5 ro5
      refine ⟨_, rfl, l, us, rfl, .inl (SqL.of (s5 _ _ hl)), by show 2 ≤ sizeLine; decide, fun R nR => ?_⟩
      have s6 : Same H5 (upd H5 R (.tup [.ref pd, .int (us.length : Int)])) := same_new nR
      have ts := ts_put (f := tb) (nm := nm) (t := (t.1, ss)) p5 (fun z => (all z).same s5) ⟨T, tl, ys, rfl, T5, tl5, ro5⟩
      rw [putK_old ev, lk] at ts
      exact k R pd ss _ (s5.trans s6) (by rw [← ro.len]; exact upd_same) (ts.same s6) pm sr
def spMakeT : Sp := fun vs H Q _ => ∃ (a : Addr) (nm : Str) (wd n : Nat) (f : Tbs), vs = [.ref a, .str nm, .int (wd : Int)] ∧ TsAt H a n f ∧ f nm = none ∧ n < 8 ∧ NameS 8 nm ∧ 1 ≤ wd ∧ wd ≤ 4 ∧
  ∀ (p d : Addr) (H' : Hp), Same H H' → H' p = some (.tup [.ref d, .non]) → TsAt H' d (n + 1) (fset f nm (wd, [])) → Q (.ref p) H'
theorem has_maketable {k1 k2 k3 : Tok} (b : Blt mg) (Wml : mg "MOST_LETTERS" = some (.int 8 k1)) (Wmw : mg "MOST_WIDTH" = some (.int 4 k2)) (Wta : mg "MOST_TABLES" = some (.int 8 k3)) (hNm : Has P w K mg base CX0 1 "is_name" sIsName ["thing", "most"] spIsName) (hNu : Has P w K mg base CX0 1 "is_number" sIsNumber ["thing", "low", "behind"] (spIsNumber K)) (a : AtE K mg "make_table" sMakeTable ["tables", "name", "width"]) : Has P w K mg base CX0 2 "make_table" sMakeTable ["tables", "name", "width"] spMakeT := by
  obtain ⟨f, fd, a⟩ := a
  obtain ⟨fNm, fdNm, aNm, GNm⟩ := hNm
  obtain ⟨fNu, fdNu, aNu, GNu⟩ := hNu
  refine ⟨f, fd, a, a.fn.ok scMakeTable (fun vs H Q E h => ?_) (fun cdv A outer s H vs Q E hr1 h => ?_)⟩
  · obtain ⟨ad, nm, wd, n, tb, rfl, _⟩ := h
    rfl
  · obtain ⟨ad, nm, wd, n, tb, rfl, ⟨kvs, hk, lk, all⟩, ht, few, ok, t1, t4, k⟩ := h
    have hu1 : (A.deeper (PyProof.Rows.envOfC "make_table" (defScope sMakeTable) s.heap.objs.size f cdv)).units + 1 < cLine := by
      have := hr1.units
      omega
    refine ⟨_,
    (pss_cons (ps_if (pt_not (pt_val (pe_call GNm hr1 rfl aNm.gl aNm.fn.kp aNm.bd .nil pass0 (pa_cons (pv 1) (pa_cons (pe_glob (v := .int 8) rfl Wml ⟨_, rfl⟩) pa_nil)))))
      (pss_one ps_never)
      pss_nil)
    (pss_cons (ps_if (pt_cmp (pc_din hu1 (pv 1) (pv 0)))
      (pss_one ps_never)
      pss_nil)
    (pss_cons (ps_if (pt_not (pt_val (pe_call GNu hr1 rfl aNu.gl aNu.fn.kp aNu.bd .nil pass0 (pa_cons (pv 2) (pa_cons pe_int (pa_cons (pe_op op_add (pe_glob (v := .int 4) rfl Wmw ⟨_, rfl⟩) pe_int) pa_nil))))))
      (pss_one ps_never)
      pss_nil)
    (pss_cons (ps_if (pt_cmpR op_ge (pe_callB call_lenD (by rfl) b.len PySem.boot_len (pa_cons (pv 0) pa_nil)) (pe_glob (v := .int 8) rfl Wta ⟨_, rfl⟩) (nomark _))
      (pss_one ps_never)
      pss_nil)
    (pss_one (ps_ret (pe_tup (pa_cons (pe_spread (pv 0) (pv 1) (pe_tup (pa_cons (pv 2) (pa_cons (pe_tup pa_nil) pa_nil)))) (pa_cons pe_non pa_nil))))))))), ?_⟩
    have h1 := all nm
    rw [ht] at h1
    cases ev : valV kvs (Sum.inr nm) with
    | some v =>
      rw [ev] at h1
      exact h1.elim
    | none =>
      have dg : ∀ {H2 : Hp}, Same H H2 → DGet H2 ad (.str nm) none := fun s2 => .inl ⟨kvs, Sum.inr nm, .inl (s2 _ _ hk), rfl, ev.symm⟩
      refine ⟨_, rfl, nm, 8, rfl, ok, by decide, fun H2 s2 => ⟨_, rfl, iteF ?_⟩⟩
      refine ⟨_, rfl, _, rfl, ad, _, rfl, dg s2, _, rfl, iteF ?_⟩
      have en : numB 1 5 (.int (wd : Int)) = true := by
        show (decide (1 ≤ (wd : Int)) && decide ((wd : Int) < 5)) = true
        rw [decide_eq_true (show 1 ≤ (wd : Int) by omega), decide_eq_true (show (wd : Int) < 5 by omega)]
        rfl
      refine ⟨_, rfl, 4, 1, rfl, rfl, .int (wd : Int), "int", 1, 5, rfl, .base (.int _), by decide, ?_⟩
      rw [en]
      refine ⟨_, rfl, iteF ?_⟩
      refine ⟨_, rfl, ad, kvs, rfl, s2 _ _ hk, _, 8, rfl, rfl, _, rfl, ?_⟩
      rw [decide_eq_false (show ¬ (8 : Int) ≤ (kvs.length : Int) by omega)]
      refine iteF ?_
      intro pd npd
      have nad : ad ≠ pd := ne_of_none (s2 _ _ hk) npd
      refine ⟨_, rfl, ad, kvs, rfl, (upd_ne nad).trans (s2 _ _ hk), nad, upd_same, by rw [lk]; exact Nat.lt_trans few (by decide), fun q nq => ?_⟩
      have nqp : q ≠ pd := fun e => by rw [e, upd_same] at nq; cases nq
      have nqH : H2 q = none := by
        rw [upd_ne nqp, upd_ne nqp] at nq
        exact nq
      have s3 : Same H2 (upd (upd (upd H2 pd (.dK [])) pd (.dK kvs)) q (.dK [])) := fun x o h => by
        rw [upd_ne (ne_of_none h nqH), upd_ne (ne_of_none h npd), upd_ne (ne_of_none h npd)]
        exact h
      have p3 : (upd (upd (upd H2 pd (.dK [])) pd (.dK kvs)) q (.dK [])) pd = some (.dK kvs) := (upd_ne nqp.symm).trans upd_same
      have q3 : (upd (upd (upd H2 pd (.dK [])) pd (.dK kvs)) q (.dK [])) q = some (.dK []) := upd_same
      generalize (upd (upd (upd H2 pd (.dK [])) pd (.dK kvs)) q (.dK [])) = H3 at s3 p3 q3
      refine ⟨_, rfl, _, rfl, by show 0 ≤ sizeLine; decide, fun tl ntl => ⟨by show 2 ≤ sizeLine; decide, fun T nT => ?_⟩⟩
      have s4 : Same H3 (upd (upd H3 tl (.tup [])) T (.tup [.int (wd : Int), .ref tl])) := (same_new ntl).trans (same_new nT)
      have T4 : (upd (upd H3 tl (.tup [])) T (.tup [.int (wd : Int), .ref tl])) T = some (.tup [.int (wd : Int), .ref tl]) := upd_same
      have tl4 : (upd (upd H3 tl (.tup [])) T (.tup [.int (wd : Int), .ref tl])) tl = some (.tup []) := (upd_ne (fun e => by rw [← e, upd_same] at nT; cases nT)).trans upd_same
      generalize (upd (upd H3 tl (.tup [])) T (.tup [.int (wd : Int), .ref tl])) = H4 at s4 T4 tl4
      have p4 := s4 _ _ p3
      have q4 := s4 _ _ q3
      refine ⟨.ref T, Sum.inr nm, rfl, q4, p4, ?_⟩
      have s5 : Same H2 (upd (upd H4 q (.dK [(Sum.inr nm, .ref T)])) pd (.dK (putK kvs (Sum.inr nm) (.ref T)))) := fun x o h => by
        rw [upd_ne (ne_of_none h npd), upd_ne (ne_of_none h nqH)]
        exact s4 _ _ (s3 _ _ h)
      have p5 : (upd (upd H4 q (.dK [(Sum.inr nm, .ref T)])) pd (.dK (putK kvs (Sum.inr nm) (.ref T)))) pd = some (.dK (putK kvs (Sum.inr nm) (.ref T))) := upd_same
      have mv : ∀ (x : Addr) (xs : List V), H4 x = some (.tup xs) → (upd (upd H4 q (.dK [(Sum.inr nm, .ref T)])) pd (.dK (putK kvs (Sum.inr nm) (.ref T)))) x = some (.tup xs) := fun x xs h => by
        rw [upd_ne (fun e => by rw [e, p4] at h; cases h), upd_ne (fun e => by rw [e, q4] at h; cases h)]
        exact h
      have T5 := mv _ _ T4
      have tl5 := mv _ _ tl4
      generalize (upd (upd H4 q (.dK [(Sum.inr nm, .ref T)])) pd (.dK (putK kvs (Sum.inr nm) (.ref T)))) = H5 at s5 p5 T5 tl5
      refine ⟨by show 2 ≤ sizeLine; decide, fun R nR => ?_⟩
      have s6 : Same H5 (upd H5 R (.tup [.ref pd, .non])) := same_new nR
      have ts := ts_put (f := tb) (nm := nm) (t := (wd, [])) p5 (fun z => (all z).same (s2.trans s5)) ⟨T, tl, [], rfl, T5, tl5, .nil⟩
      rw [putK_fresh ev, lk] at ts
      exact k R pd _ (s2.trans (s5.trans s6)) upd_same (ts.same s6)
def spFillT (K : PySem.W.Frag) : Sp := fun vs H Q _ => ∃ (a l : Addr) (us : List V) (nm : Str) (n : Nat) (f : Tbs) (t : Nat × List (List Nat)) (rs : List (List Nat)), vs = [.ref a, .str nm, .ref l] ∧ TsAt H a n f ∧ f nm = some t ∧ n < 100 ∧ 1 ≤ t.1 ∧ t.1 ≤ 4 ∧ H l = some (.lst us) ∧ Rows H us rs ∧ (∀ r ∈ rs, RowOk t.1 r) ∧ rs.length ≤ 40 ∧ rs.Nodup ∧
  ∀ (p d : Addr) (ss : List (List Nat)) (H' : Hp), Same H H' → H' p = some (.tup [.ref d, .int (rs.length : Int)]) → TsAt H' d n (fset f nm (t.1, ss)) → ss.Perm rs → Sorted ss → Q (.ref p) H'
theorem has_filltable {k1 : Tok} (b : Blt mg) (Wro : mg "MOST_ROWS" = some (.int 40 k1)) (hTo : Has P w K mg base CX0 1 "table_of" sTableOf ["tables", "name"] spTableOf) (hAr : Has P w K mg base CX0 4 "are_rows" sAreRows ["thing", "width"] (spAreRows K)) (hWr : Has P w K mg base CX0 1 "with_rows" sWithRows ["tables", "name", "rows"] (spWithRows K)) (a : AtE K mg "fill_table" sFillTable ["tables", "name", "rows"]) : Has P w K mg base CX0 5 "fill_table" sFillTable ["tables", "name", "rows"] (spFillT K) := by
  obtain ⟨f, fd, a⟩ := a
  obtain ⟨fTo, fdTo, aTo, GTo⟩ := hTo
  obtain ⟨fAr, fdAr, aAr, GAr⟩ := hAr
  obtain ⟨fWr, fdWr, aWr, GWr⟩ := hWr
  refine ⟨f, fd, a, a.fn.ok scFillTable (fun vs H Q E h => ?_) (fun cdv A outer s H vs Q E hr4 h => ?_)⟩
  · obtain ⟨ad, l, us, nm, n, tb, t, rs, rfl, _⟩ := h
    rfl
  · obtain ⟨ad, l, us, nm, n, tb, t, rs, rfl, ts, ht, few, t1, t4, hl, ro, ok, fr, nd, k⟩ := h
    have hr1 := hr4.mono (show 1 ≤ 4 by decide)
    refine ⟨_,
    (pss_cons (ps_set (i := 3) scFillTable.nd rfl (.inl rfl) (pe_ix ix_tup (pe_call GTo hr1 rfl aTo.gl aTo.fn.kp aTo.bd .nil pass0 (pa_cons (pv 0) (pa_cons (pv 1) pa_nil))) pe_int fun _ _ => rfl))
    (pss_cons (ps_if (pt_not (pt_val (pe_call GAr hr4 rfl aAr.gl aAr.fn.kp aAr.bd .nil pass0 (pa_cons (pv 2) (pa_cons (pv 3) pa_nil)))))
      (pss_one ps_never)
      pss_nil)
    (pss_cons (ps_if (pt_cmpR op_gt (pe_callB call_len_seq (by rfl) b.len PySem.boot_len (pa_cons (pv 2) pa_nil)) (pe_glob (v := .int 40) rfl Wro ⟨_, rfl⟩) (nomark _))
      (pss_one ps_never)
      pss_nil)
    (pss_one (ps_ret (pe_call GWr hr1 rfl aWr.gl aWr.fn.kp aWr.bd .nil pass0 (pa_cons (pv 0) (pa_cons (pv 1) (pa_cons (pv 2) pa_nil))))))))), ?_⟩
    refine ⟨_, rfl, _, rfl, ad, nm, n, tb, t, rfl, ts, ht, few, fun v tv => ?_⟩
    obtain ⟨ta, ra, us0, rfl, hta, _, _⟩ := tv
    refine ⟨ta, _, 0, _, rfl, rfl, SqT.of hta, rfl, ?_⟩
    refine ⟨_, rfl, _, rfl, l, us, rs, t.1, rfl, hl, ro, ok, t4, nd, by omega, fun H2 s2 => ⟨_, rfl, iteF ?_⟩⟩
    refine ⟨_, rfl, l, us, rfl, .inl (SqL.of (s2 _ _ hl)), _, 40, rfl, rfl, _, rfl, ?_⟩
    rw [ro.len, decide_eq_false (show ¬ (40 : Int) < (rs.length : Int) by omega)]
    refine iteF ⟨_, rfl, _, rfl, _, rfl, ad, l, us, nm, n, tb, t, rs, rfl, ts.same s2, ht, few, t1, t4, s2 _ _ hl, ro.same s2, ok, by omega, fun p d ss H3 s3 hp hd pm sr => k p d ss H3 (s2.trans s3) hp hd pm sr⟩
end
end VQ
namespace VQ
open PySem L2 LamX
/-! ### refusals with one field -/
abbrev sTaken : Stmt := inClass (top 4) 0
theorem scTaken : FnScope ["self", "name"] ["self", "name"] (defScope sTaken) := ⟨rfl, rfl, rfl, by decide +kernel, rfl, by decide +kernel, by decide +kernel⟩
abbrev sFull : Stmt := inClass (top 8) 0
theorem scFull : FnScope ["self", "what"] ["self", "what"] (defScope sFull) := ⟨rfl, rfl, rfl, by decide +kernel, rfl, by decide +kernel, by decide +kernel⟩
abbrev sMissing : Stmt := inClass (top 13) 0
theorem scMissing : FnScope ["self", "name"] ["self", "name"] (defScope sMissing) := ⟨rfl, rfl, rfl, by decide +kernel, rfl, by decide +kernel, by decide +kernel⟩
abbrev sNoTable : Stmt := inClass (top 14) 0
theorem scNoTable : FnScope ["self", "name"] ["self", "name"] (defScope sNoTable) := ⟨rfl, rfl, rfl, by decide +kernel, rfl, by decide +kernel, by decide +kernel⟩
abbrev sNoRow : Stmt := inClass (top 15) 0
theorem scNoRow : FnScope ["self", "name"] ["self", "name"] (defScope sNoRow) := ⟨rfl, rfl, rfl, by decide +kernel, rfl, by decide +kernel, by decide +kernel⟩
/-- a class over ValueError whose errors have a field -/
structure ErrY (K : PySem.W.Frag) (mg : Str → Option Value) (x fld : Str) (C fI : Addr) (fd : FuncData) (qual : Str) (st : Stmt) (ps : List Str) : Prop where
  gl : mg x = some (.ref C)
  ox : OexC K C
  it : PySem.W.findIn K (.ref C) "__init__" = some (some (.ref fI))
  ty : PySem.W.typeIn K (.ref fI) = some (.type "function")
  nc : PySem.W.findIn K (.ref C) "called" = some none
  na : PySem.W.findIn K (.ref C) fld = some none
  fn : Fun K "__init__" qual st fI fd
  bd : Binds K fd ps []
/-- such a class over LookupError -/
structure ErrZ (K : PySem.W.Frag) (mg : Str → Option Value) (x fld : Str) (C fI : Addr) (fd : FuncData) (qual : Str) (st : Stmt) (ps : List Str) : Prop where
  gl : mg x = some (.ref C)
  ox : OexT K C tailL "LookupError.__new__"
  it : PySem.W.findIn K (.ref C) "__init__" = some (some (.ref fI))
  ty : PySem.W.typeIn K (.ref fI) = some (.type "function")
  nc : PySem.W.findIn K (.ref C) "called" = some none
  na : PySem.W.findIn K (.ref C) fld = some none
  fn : Fun K "__init__" qual st fI fd
  bd : Binds K fd ps []
def ysF (nm fld : Str) (y : V) : List (Str × V) := [(fld, y), ("called", .str nm)]
def zsF (nm : Str) (y : V) : List (Str × V) := [("called", .str nm), ("name", y), ("called", .str "Missing")]
/-- what ends C(y): the error's dict holds fs -/
def spMadeF (C : Addr) (fsOf : V → List (Str × V)) : Sp := fun vs H Q _ => ∃ (a : Addr) (y : V), vs = [.ref a, y] ∧ H a = some (exo a C none) ∧ ∀ d H', H d = none → d ≠ a → H' a = some (exo a C (some d)) → H' d = some (exd d (fsOf y)) → (∀ b, b ≠ a → b ≠ d → H' b = H b) → Q .non H'
section
variable {P : Program} {w : World} {K : PySem.W.Frag} {mg : Str → Option Value} {base : Heap} {C fI : Addr} {fd : FuncData}
theorem ok_errY {x qual nm fld par : Str} {st : Stmt} {p1 p2 p3 p4 p5 p6 p7 p8 : Pos} {j : Nat} (Er : ErrY K mg x fld C fI fd qual st ["self", par]) (sc : FnScope ["self", par] ["self", par] (defScope st)) (v : Vis (defScope st) "self") (v2 : Vis (defScope st) par)
    (hb : defBody st = [.Assign [.Attribute (.Name "self" p1) "called" p2] (.Constant (.str nm) j p3) p4, .Assign [.Attribute (.Name "self" p5) fld p6] (.Name par p7) p8])
    (d1 : (par == ("__debug__" : Str)) = false := by decide) (d2 : (par == ("__classdict__" : Str)) = false := by decide) : FnOk P w K mg base CX0 1 fI fd ["self", par] (spMadeF C (ysF nm fld)) := by
  refine Er.fn.ok sc (fun vs H Q E h => ?_) (fun cdv A outer s H vs Q E' hr h => ?_)
  · obtain ⟨a, y, rfl, _⟩ := h
    rfl
  · obtain ⟨a, y, rfl, ha, k⟩ := h
    rw [hb]
    refine ⟨_, pss_cons (ps_ost (pe_var (i := 0) rfl v) pe_str) (pss_one (ps_ost (pe_var (i := 0) rfl v) (pe_var (i := 1) rfl v2 d1 d2))), ?_⟩
    refine ⟨_, rfl, a, C, rfl, Er.ox, Er.nc, .inl ⟨ha, fun d hd ne => ?_⟩⟩
    refine ⟨_, rfl, _, rfl, a, C, rfl, Er.ox, Er.na, .inr ⟨d, _, upd_same, (upd_ne ne).trans upd_same, by show 1 ≤ 900; decide, ?_⟩⟩
    exact k d _ hd ne ((upd_ne ne.symm).trans upd_same) upd_same fun b h1 h2 => by rw [upd_ne h2, upd_ne h1, upd_ne h2]
theorem raise_y {C : Addr} {fsOf : V → List (Str × V)} {y : V} {H : Hp} {W : XK} (h : ∀ d, H d = none → W (.ref C) (some d) (upd H d (.xd (fsOf y)))) : ∀ a, H a = none → spMadeF C fsOf [.ref a, y] (upd H a (exo a C none))
    (fun v H2 => v = .non ∧ ∃ (d : Addr) (fs : List (Str × V)), H2 a = some (exo a C (some d)) ∧ H2 d = some (exd d fs) ∧ H d = none ∧ W (.ref C) (some d) (upd (del H2 a) d (.xd fs))) (fun _ _ _ => False) := by
  intro a ha
  refine ⟨a, y, rfl, upd_same, fun d H' hd ne e1 e2 e3 => ⟨rfl, d, fsOf y, e1, e2, ?_, ?_⟩⟩
  · rw [upd_ne ne] at hd
    exact hd
  · have hd' : H d = none := by
      rw [upd_ne ne] at hd
      exact hd
    have e : upd (del H' a) d (.xd (fsOf y)) = upd H d (.xd (fsOf y)) := by
      funext b
      by_cases hb : b = d
      · rw [hb, upd_same, upd_same]
      · rw [upd_ne hb, upd_ne hb]
        by_cases hba : b = a
        · rw [hba, del_same, ha]
        · rw [del_ne hba, e3 b hba hb, upd_ne hba]
    rw [e]
    exact h d hd'
/-- Missing.__init__(self, name) over an error of a class below it -/
def spMiss (K : PySem.W.Frag) : Sp := fun vs H Q _ => ∃ (a C : Addr) (y : V), vs = [.ref a, y] ∧ OexT K C tailL "LookupError.__new__" ∧ PySem.W.findIn K (.ref C) "called" = some none ∧ PySem.W.findIn K (.ref C) "name" = some none ∧ H a = some (exo a C none) ∧
  ∀ d H', H d = none → d ≠ a → H' a = some (exo a C (some d)) → H' d = some (exd d (ysF "Missing" "name" y)) → (∀ b, b ≠ a → b ≠ d → H' b = H b) → Q .non H'
theorem ok_miss (F : Fun K "__init__" "Missing.__init__" sMissing fI fd) : FnOk P w K mg base CX0 1 fI fd ["self", "name"] (spMiss K) := by
  refine F.ok scMissing (fun vs H Q E h => ?_) (fun cdv A outer s H vs Q E' hr h => ?_)
  · obtain ⟨a, C, y, rfl, _⟩ := h
    rfl
  · obtain ⟨a, C, y, rfl, ox, nc, na, ha, k⟩ := h
    refine ⟨_, pss_cons (ps_ostT (newId := "LookupError.__new__") tailL_ok (pv 0) pe_str) (pss_one (ps_ostT (newId := "LookupError.__new__") tailL_ok (pv 0) (pv 1))), ?_⟩
    refine ⟨_, rfl, a, C, rfl, ox, nc, .inl ⟨ha, fun d hd ne => ?_⟩⟩
    refine ⟨_, rfl, _, rfl, a, C, rfl, ox, na, .inr ⟨d, _, upd_same, (upd_ne ne).trans upd_same, by show 1 ≤ 900; decide, ?_⟩⟩
    exact k d _ hd ne ((upd_ne ne.symm).trans upd_same) upd_same fun b h1 h2 => by rw [upd_ne h2, upd_ne h1, upd_ne h2]
/-- Missing and its __init__ -/
structure MissAt (K : PySem.W.Frag) (mg : Str → Option Value) (Mi : Addr) (mc : Value) (g : Addr) (fdM : FuncData) : Prop where
  gl : mg "Missing" = some (.ref Mi)
  rd : ClX.CRead K Mi mc
  fc : PySem.W.findCls K (.ref Mi) mc "__init__" = some (.val (.ref g))
  kp : PySem.W.keepIn K (.ref g) = true
  fn : Fun K "__init__" "Missing.__init__" sMissing g fdM
  bd : Binds K fdM ["self", "name"] []
theorem ok_NoTable {Mi g : Addr} {mc : Value} {fdM : FuncData} (M : MissAt K mg Mi mc g fdM) (Er : ErrZ K mg "NoTable" "name" C fI fd "NoTable.__init__" sNoTable ["self", "name"]) : FnOk P w K mg base CX0 2 fI fd ["self", "name"] (spMadeF C (zsF "NoTable")) := by
  refine Er.fn.ok scNoTable (fun vs H Q E h => ?_) (fun cdv A outer s H vs Q E' hr h => ?_)
  · obtain ⟨a, y, rfl, _⟩ := h
    rfl
  · obtain ⟨a, y, rfl, ha, k⟩ := h
    refine ⟨_,
    (pss_cons (ps_expr (pe_clsM (E := E0) (pe_glob (v := .ref Mi) rfl M.gl rfl) M.rd M.fc (ok_miss M.fn) hr M.kp M.bd .nil pass0 (pa_cons (pv 0) (pa_cons (pv 1) pa_nil))))
    (pss_one (ps_ostT (newId := "LookupError.__new__") tailL_ok (pv 0) pe_str))), ?_⟩
    refine ⟨rfl, _, rfl, _, rfl, a, C, y, rfl, Er.ox, Er.nc, Er.na, ha, fun d H' hd ne e1 e2 e3 => ?_⟩
    refine ⟨_, rfl, a, C, rfl, Er.ox, Er.nc, .inr ⟨d, _, e1, e2, by show 2 ≤ 900; decide, ?_⟩⟩
    exact k d _ hd ne ((upd_ne ne.symm).trans e1) upd_same fun b h1 h2 => by rw [upd_ne h2, e3 b h1 h2]
theorem ok_NoRow {Mi g : Addr} {mc : Value} {fdM : FuncData} (M : MissAt K mg Mi mc g fdM) (Er : ErrZ K mg "NoRow" "name" C fI fd "NoRow.__init__" sNoRow ["self", "name"]) : FnOk P w K mg base CX0 2 fI fd ["self", "name"] (spMadeF C (zsF "NoRow")) := by
  refine Er.fn.ok scNoRow (fun vs H Q E h => ?_) (fun cdv A outer s H vs Q E' hr h => ?_)
  · obtain ⟨a, y, rfl, _⟩ := h
    rfl
  · obtain ⟨a, y, rfl, ha, k⟩ := h
    refine ⟨_,
    (pss_cons (ps_expr (pe_clsM (E := E0) (pe_glob (v := .ref Mi) rfl M.gl rfl) M.rd M.fc (ok_miss M.fn) hr M.kp M.bd .nil pass0 (pa_cons (pv 0) (pa_cons (pv 1) pa_nil))))
    (pss_one (ps_ostT (newId := "LookupError.__new__") tailL_ok (pv 0) pe_str))), ?_⟩
    refine ⟨rfl, _, rfl, _, rfl, a, C, y, rfl, Er.ox, Er.nc, Er.na, ha, fun d H' hd ne e1 e2 e3 => ?_⟩
    refine ⟨_, rfl, a, C, rfl, Er.ox, Er.nc, .inr ⟨d, _, e1, e2, by show 2 ≤ 900; decide, ?_⟩⟩
    exact k d _ hd ne ((upd_ne ne.symm).trans e1) upd_same fun b h1 h2 => by rw [upd_ne h2, e3 b h1 h2]
end
end VQ
namespace VQ
open PySem PySem.Spec PySem.Calls PyProof.Rows L2
/-! ### sorted(t) of a tuple of tuples of as many numbers each -/
section
variable {P : Program} {w : World} {A : Around} {E : Value → Shared → Prop} {s : Shared}
theorem collect_tup {l : Addr} {vs : List Value} {Q : List Value → Shared → Prop} (there : PyProof.Rows.IsTup s.heap l vs.toArray) (few : vs.length ≤ sizeLine)
    (q : ∀ h', (∀ b o, s.heap.get? b = some o → h'.get? b = some o) → s.heap.objs.size ≤ h'.objs.size → Q vs { s with heap := h' }) : wpAny (model P w) A (collect (.ref l)) Q E s := by
  obtain ⟨ob, at_, isT, ep, dat⟩ := there
  unfold collect
  refine wpAny_bind (wpAny_runValue (codeAny_builtin entry_proto_collect' ?_))
  show wpAny _ _ (do again (.builtin "list.__iadd__" ⟨[← newList [], .ref l], []⟩)) _ _ s
  refine wpAny_bind (wpAny_newList (wpAny_pure ⟨Code.quiet_builtin _ (by decide +kernel), codeAny_builtin entry_list_iadd' ?_⟩))
  show wpAny _ _ (Builtin.List.listExtendWith (.ref s.heap.objs.size) (.ref l) (.ref s.heap.objs.size)) _ _ { s with heap := s.heap.push (seqObj "list" #[] 0) }
  unfold Builtin.List.listExtendWith
  have at1 : (s.heap.push (seqObj "list" #[] 0)).get? l = some ob := Heap.get?_push_of_some _ at_
  refine wpAny_bind (wpAny_typeOf (T := "tuple") ⟨ob, at1, isT⟩ ?_)
  have tt : (Value.type "tuple" == Value.type "tuple") = true := by rfl
  rw [if_pos (by rw [tt]; simp)]
  refine wpAny_bind (listItems_at at1 dat ?_)
  refine wpAny_bind (listItems_at (xs := #[]) (n := 0) (Heap.get?_push_size _ rfl) rfl ?_)
  rw [if_neg (by simp)]
  refine wpAny_bind (listUpdate_at (xs := #[]) (n := 0) (Heap.get?_push_size _ rfl) rfl ?_ (Nat.zero_le _) (by show (#[] ++ vs.toArray).size ≤ sizeLine + 1; simp only [Array.size_append, List.size_toArray, List.length_nil]; omega))
  refine wpAny_pure ?_
  refine wpAny_bind (wpAny_load (get?_update_seq (Heap.get?_push_size _ rfl) _) ?_)
  show wpAny _ _ (pure ((#[] : Array Value) ++ vs.toArray).toList) Q E _
  rw [show ((#[] : Array Value) ++ vs.toArray).toList = vs by simp]
  refine wpAny_pure (q _ (fun b o z => ?_) (by rw [Heap.size_update, size_push']; exact Nat.le_succ _))
  rw [Heap.get?_update_ne _ _ _ _ (Nat.ne_of_lt (Heap.lt_size z))]
  exact Heap.get?_push_of_some _ z
end
def rSortTM (K : PySem.W.Frag) (d : Nat) (B : Int) : List V → Hp → VK → Prop := fun vs H Q => ∃ (a : Addr) (xs : List V), vs = [V.ref a] ∧ SqT K H a xs ∧ (∀ x ∈ xs, ∃ ns, TupI K H x ns ∧ ns.length = d ∧ TS.Bd B ns) ∧
  ∀ (ys : List V) (p : Addr), ys.Perm xs → ys.Pairwise (fun x y => ∀ n m, TupI K H x n → TupI K H y m → TS.code B n ≤ TS.code B m) → H p = none → Q (.ref p) (upd H p (.lst ys))
theorem cr_sortTM {X : Cx} {d : Nat} {B : Int} (hd : 1 ≤ d) : CallR X (.builtin "sorted") (rSortTM X.K d B) := by
  intro pins s σ H vs us Q inv r h
  obtain ⟨a, xs, rfl, hs, hx, q⟩ := h
  obtain ⟨its, rv, hl, hz⟩ := inv.tuple hs
  rw [Vals.ref1 r]
  have hzi : its.length ≤ sizeLine := by rw [← rv.length]; exact hz
  obtain ⟨e1, e2⟩ := bkV_refs rv fun x m => by
    obtain ⟨ns, ⟨t, e, _⟩, _⟩ := hx x m
    exact ⟨t, e⟩
  have ok : TS.TupsOk s.heap d B its := fun v hv => by
    obtain ⟨t, rfl⟩ := e2 v hv
    have hm : V.ref t ∈ xs := by
      rw [e1]
      exact List.mem_map.mpr ⟨_, hv, rfl⟩
    obtain ⟨ns, ⟨t', e, ht⟩, hn, hb⟩ := hx _ hm
    cases e
    exact ⟨ns, tupI_raw inv ht, hn, hb⟩
  refine Calls.call_function_entry kind_sorted plain_sorted entry_sorted (args_sorted1 _) ?_
  unfold Builtin.«sorted»
  refine wpAny_bind (m := checkCount "sorted" 1 1 _) (wpAny_pure ?_)
  refine wpAny_bind (collect_tup hl hzi fun h1 k1 z1 => ?_)
  refine wpAny_bind (wpAny_newList ?_ hzi)
  have hL : (h1.push (seqObj "list" its.toArray 0)).get? h1.objs.size = some (seqObj "list" its.toArray 0) := Heap.get?_push_size _ rfl
  have keeps : ∀ b u, s.heap.get? b = some u → (h1.push (seqObj "list" its.toArray 0)).get? b = some u := fun b u e => Heap.get?_push_of_some _ (k1 b u e)
  refine wpAny_bind (wpAny_holding (wpAny_call_entry slot_list_sort ⟨_, hL, rfl⟩ entry_list_sort (SrtO.list_sort_ord (s := { s with heap := h1.push (seqObj "list" its.toArray 0) }) (swo_rank fun v => TS.code B (TS.intsOf s.heap v)) hL hzi (fun h2 => ?_) fun out h1' h2 => ⟨_, rfl, ?_⟩) (args_list_sort _)))
  · refine tups_sortable (s := { s with heap := h1.push (seqObj "list" its.toArray 0) }) (by omega) hd (ok.keeps fun b o e _ => keeps b o e) (fun o e => ?_) _ fun v hv ns t => ?_
    · have e' : some o = some (seqObj "list" its.toArray 0) := e.symm.trans hL
      cases e'
      intro c
      exact absurd (Value.type.inj c) (by decide)
    · obtain ⟨ns0, t0, _⟩ := ok v hv
      have en : ns = ns0 := t.ints.symm.trans (t0.keeps fun b o e _ => keeps b o e).ints
      rw [en]
      show TS.code B (TS.intsOf s.heap v) = TS.code B ns0
      rw [t0.ints]
  · obtain ⟨c, hc⟩ := sortedHeap_at (vs := its) (out := out.toArray) hL
    have h3 : ∀ u ∈ out, ∃ a, u = Value.ref a := fun u hu => e2 u (h2.perm.mem_iff.mp hu)
    have hp : (out.map bkV).Perm xs := by
      rw [e1]
      exact h2.perm.map bkV
    have hlen : (out.map bkV).length ≤ sizeLine := by
      rw [hp.length_eq]
      exact hz
    have old : ∀ b u, s.heap.get? b = some u → (sortedHeap (h1.push (seqObj "list" its.toArray 0)) h1.objs.size its out.toArray).get? b = some u := fun b u e => by
      have lt := Heap.lt_size (k1 b u e)
      rw [sortedHeap_old (Nat.ne_of_lt lt) (by rw [size_push']; exact Nat.lt_succ_of_lt lt)]
      exact keeps b u e
    refine wpAny_pure ⟨_, rfl, ?_⟩
    refine ⟨.ref _, upd H h1.objs.size (.lst (out.map bkV)), inv.laid (t' := s.toks) old z1 ⟨hlen, out, c, bkV_vals h3, hc⟩, rfl, q _ _ hp ?_ (inv.hok.fresh z1)⟩
    rw [List.pairwise_map]
    refine List.Pairwise.imp (fun {u v} huv n m hn hm => ?_) h1'
    obtain ⟨t, et, ht⟩ := hn
    obtain ⟨t', et', ht'⟩ := hm
    have eu := bkV_ref et
    have ev := bkV_ref et'
    subst eu ev
    have z := of_decide_eq_false huv
    rw [(tupI_raw inv ht).ints, (tupI_raw inv ht').ints] at z
    omega
end VQ
namespace VQ
open PySem PySem.Spec PyProof.Rows L2
/-! ### len(set(t)), t a tuple of tuples of numbers -/
section
variable {P : Program} {w : World} {A : Around} {E : Value → Shared → Prop} {s : Shared}
/-- what stands when the tuple is gone through -/
abbrev TupsDone (P : Program) (w : World) (s : Shared) (ks : List (Addr × List Int)) (s2 : Shared) : Prop := ∃ g tk L es ep t, s2 = { s with heap := g, toks := tk } ∧ SetTR P w g s.heap.objs.size L es ep t ∧ Got ks ks.length L ∧ ∀ b o, s.heap.get? b = some o → g.get? b = some o
theorem tups_filled {l : Addr} {its : Array Value} {ks : List (Addr × List Int)} {Z : PySem.Fin → Shared → Prop} (calm : A.handled = none) (hu : A.units + 2 < cLine) (isl : s.heap.IsTuple l its) (are : its.toList = ks.map fun p => Value.ref p.1) (rows : ∀ p ∈ ks, IsT P w s.heap p.2 p.1) (few : ks.length < 64)
    (fin : ∀ s2, TupsDone P w s ks s2 → Z (.done (.ret .none)) s2) :
    wpAny (model P w) A.in1 (Builtin.«set.__init__» ⟨[.ref s.heap.objs.size, .ref l], []⟩) Z E { s with heap := s.heap.push (bareSet w) } := by
  obtain ⟨⟨oc, od, ot, os'⟩, at_l, e1, nl, e2⟩ := isl
  dsimp only at e1 e2
  subst e1 e2
  have cnt : its.size = ks.length := by
    have q := congrArg List.length are
    rw [Array.length_toList, List.length_map] at q
    exact q
  have here : (s.heap.push (bareSet w)).get? s.heap.objs.size = some (bareSet w) := Heap.get?_push_size _ rfl
  have tyS : Shared.TypeIs { s with heap := s.heap.push (bareSet w) } (.ref s.heap.objs.size) "set" := ⟨_, here, rfl⟩
  have at_l' := Heap.get?_push_of_some (bareSet w) at_l
  have isl' : (s.heap.push (bareSet w)).IsTuple l its := ⟨_, at_l', rfl, nl, rfl⟩
  have n1 := PySem.F.sub_tuple_set
  have n2 := PySem.F.sub_tuple_frozenset
  have n3 : (Value.type "tuple" == Value.type "dict") = false := by decide
  unfold Builtin.«set.__init__» noKeywords Builtin.Frozenset.updateFrom
  generalize itE : pyIter = it
  wp_walk
  subst itE
  refine wpAny_pyIter_tuple isl' ?_
  refine wpAny_bind (wpAny_runValue ?_)
  have hu' : A.in1.in1.units < cLine := by
    show A.units + 1 + 1 < cLine
    omega
  have lt_l : l < s.heap.objs.size := Heap.lt_size at_l
  have calm3 : A.in1.in1.handled = none := by simp [calm]
  have size1 : (s.heap.push (bareSet w)).objs.size = s.heap.objs.size + 1 := Heap.size_push ..
  have ne_l : l ≠ (s.heap.push (bareSet w)).objs.size := by
    rw [size1]
    exact Nat.ne_of_lt (Nat.lt_succ_of_lt lt_l)
  have out : s.heap.objs.size ∉ [(s.heap.push (bareSet w)).objs.size, l] := fun m => by
    rcases List.mem_cons.mp m with q | q
    · rw [size1] at q
      exact Nat.ne_of_lt (Nat.lt_succ_self _) q
    · exact Nat.ne_of_gt lt_l (List.mem_singleton.mp q)
  have vals : ∀ (i : Nat) (v : Value), its[i]? = some v → ∃ p, ks[i]? = some p ∧ v = .ref p.1 := fun i v hv => by
    have q : its.toList[i]? = some v := by rw [Array.getElem?_toList]; exact hv
    rw [are, List.getElem?_map] at q
    obtain ⟨p, e1, e2⟩ := Option.map_eq_some_iff.mp q
    exact ⟨p, e1, e2.symm⟩
  have noneOf : ∀ b, s.heap.objs.size ≤ b → s.heap.get? b = none := fun b hb => by
    cases q : s.heap.get? b with
    | none => rfl
    | some o => exact absurd (Nat.lt_of_lt_of_le (Heap.lt_size q) hb) (Nat.lt_irrefl _)
  refine set_update_tups ((Walks.tuple calm3 _ l ne_l its).toS) s.heap.objs.size out ks cnt few vals s.heap rows (noneOf _ (Nat.le_refl _)) (fun b hb => noneOf b (by rw [List.mem_singleton.mp hb, size1]; exact Nat.le_succ _)) hu' (its.size - 0) 0 _ (by omega) (Nat.zero_le _) ?walk (fun b o e => Heap.get?_push_of_some _ (Heap.get?_push_of_some _ e)) ?fresh fun s2 L es ep t mv R got kk => ?_
  case walk => exact ⟨⟨_, Heap.get?_push_size _ rfl, rfl, rfl⟩, isl'.push _⟩
  case fresh =>
    exact ⟨[], #[], 0, _, setTR_fresh (Heap.get?_push_of_some _ here), Got.zero ks⟩
  obtain ⟨g, ge, dr, tk, os2⟩ := s2
  have q1 : ge = s.gens := mv.gens
  have q2 : dr = s.drawn := mv.drawn
  have q3 : os2 = s.os := mv.os
  subst q1 q2 q3
  show wpAny _ _ _ _ _ _
  refine wpAny_pure ?_
  show wpAny _ _ (ret Value.none) _ _ _
  rw [cnt] at got
  exact wpAny_pure (fin _ ⟨g, tk, L, es, ep, t, rfl, R, got, kk⟩)
theorem tups_call {l : Addr} {its : Array Value} {ks : List (Addr × List Int)} {Q : Value → Shared → Prop} (calm : A.handled = none) (isl : s.heap.IsTuple l its) (hu : A.units + 3 < cLine) (are : its.toList = ks.map fun p => Value.ref p.1) (rows : ∀ p ∈ ks, IsT P w s.heap p.2 p.1) (few : ks.length < 64)
    (fin : ∀ s2, TupsDone P w s ks s2 → Q (.ref s.heap.objs.size) s2) : wpAny (model P w) A (call (.type "set") [.ref l]) Q E s := by
  obtain ⟨c0, tl, mro⟩ := F.called_set.mro
  have made := F.called_set.made
  have subt := F.called_set.sub
  have nty := F.called_set.notType
  have canc := F.called_set.canCreate
  have tyc := F.typeCall_set_1 (.ref l)
  have here : (s.heap.push (bareSet w)).get? s.heap.objs.size = some (bareSet w) := Heap.get?_push_size _ rfl
  have tyS : Shared.TypeIs { s with heap := s.heap.push (bareSet w) } (.ref s.heap.objs.size) "set" := ⟨_, here, rfl⟩
  have ini := F.called_set.init.lookup
  have inb := F.called_set.init.bind (.ref s.heap.objs.size)
  refine wpAny_call (codeAny_of_tree ?_)
  show wpAny _ _ (callAny (.type "set") _) _ _ _
  refine wpAny_pure ⟨Code.quiet_builtin _ (by decide +kernel), ?go⟩
  case go =>
  refine codeAny_builtin F.entry_type_call ?_
  rw [Around.under_plain (weight_type_call_type "set" [.ref l] []) rfl]
  repeat (any_goals (first | assumption | wp_step))
  refine codeAny_mono (code_set_led1 (w := w) (.ref l) (E := E) (Q₁ := fun v t => v = .ref s.heap.objs.size ∧ t = { s with heap := s.heap.push (bareSet w) }) ⟨rfl, rfl⟩) fun r t z => ?_
  match r, z with
  | .error e, z => exact z
  | .ok (.ret v), z =>
    obtain ⟨rfl, rfl⟩ := z
    repeat (any_goals (first | assumption | wp_step))
    refine codeAny_mono (codeAny_call_builtin (R := wants (fun v t => v = .none ∧ TupsDone P w s ks t) E) F.called_set.init.plain F.entry_set_init (check_set_init_1 tyS (tups_filled (A := A.in1) (by simp [calm]) (by show A.units + 1 + 2 < cLine; omega) isl are rows few fun s2 d => ⟨rfl, d⟩))) fun r t z => ?_
    match r, z with
    | .error e, z => exact z
    | .ok (.ret v), z =>
      obtain ⟨rfl, d⟩ := z
      obtain ⟨g, tk, L, es, ep, t, rfl, d'⟩ := id d
      repeat (any_goals (first | assumption | wp_step))
      exact fin _ d
end
def tLenSetTT (K : PySem.W.Frag) (ta : TE) : TE := fun σ H Q => ta σ H fun x H1 => ∃ (l : Addr) (ks : List (Addr × List Int)), x = V.ref l ∧ (SqT K H1 l (ks.map fun p => V.ref p.1)) ∧ (∀ p ∈ ks, SqT K H1 p.1 (p.2.map V.int)) ∧ ks.length < 64 ∧
  ∀ n : Nat, ((ks.map (·.2)).Nodup → n = ks.length) → (¬ (ks.map (·.2)).Nodup → n < ks.length) → Q (.int (n : Int)) H1
theorem pe_lenSetTT {X : Cx} {a : Expr} {ta : TE} {p p2 q pos : Pos} (calm : X.calm = true) (hu : X.A.units + 64 < cLine) (ha : PE X a ta) (hg : Gl X "len") (hm : X.mg "len" = none) (hg2 : Gl X "set") (hm2 : X.mg "set" = none)
    (na : starEach [a] X.env = (false, eval a X.env) :: starEach [] X.env := by rfl) : PE X (.Call (.Name "len" p) [.Call (.Name "set" p2) [a] [] q] [] pos) (tLenSetTT X.K ta) := by
  refine ⟨fun pins s σ H Q inv want => Call_ (ld_blt inv hg hm PySem.boot_len (PyProof.Rows.callWith_builtin1 (PyProof.Rows.args_cons ?_ rfl) rfl rfl))⟩
  refine Call_ (ld_blt inv hg2 hm2 PyProof.Rows.boot_set ?_)
  refine PyProof.Rows.callWith_type1 (PyProof.Rows.args_cons (thn (ha.run pins s σ H _ inv want) fun v s1 ⟨x, H1, inv1, r1, q1⟩ => PyProof.Rows.args_nil ?_) na) na rfl
  obtain ⟨l, ks, rfl, sq, tup, few, w1⟩ := q1
  cases r1
  obtain ⟨its, rv, pl, _⟩ := inv1.tuple sq
  refine tups_call (P := X.prog) (w := X.w) (ks := ks) (inv1.ok.hd calm) pl (by show X.A.units + 3 < cLine; omega) (by simpa using refs_of_vals rv) (fun p hp => inv1.isT (tup p hp)) few fun s2 d => ?_
  obtain ⟨h', tk, L, es, ep, t, rfl, R, g, kp⟩ := d
  refine PyProof.Rows.args_nil ?_
  have inv2 : Inv X pins σ H1 { s1 with heap := h', toks := tk } := inv1.kept (t' := tk) kp
  obtain ⟨o, ho, hex, hd⟩ := R.ob
  have sz := R.size (s := { s1 with heap := h', toks := tk })
  have up : ∀ y ∈ L.map (·.2), y ∈ ks.map (·.2) := fun y my => by
    obtain ⟨p, mp, rfl⟩ := List.mem_map.mp my
    exact List.mem_map_of_mem (List.mem_of_mem_take (g.sub p mp))
  have down : ∀ y ∈ ks.map (·.2), y ∈ L.map (·.2) := fun y my => by
    obtain ⟨p, mp, rfl⟩ := List.mem_map.mp my
    exact g.all p (by rw [List.take_length]; exact mp)
  have le1 := nodup_len _ _ R.nd up
  rw [List.length_map, List.length_map] at le1
  refine call_len_set ho hex hd (R.fits (s := { s1 with heap := h', toks := tk })) (by rw [sz]; omega) ⟨.int (L.length : Int), H1, (inv2.tok _).tok _, ⟨_, by rw [sz]⟩, w1 L.length (fun nd => ?_) fun nn => ?_⟩
  · have le2 := nodup_len _ _ nd down
    rw [List.length_map, List.length_map] at le2
    omega
  · obtain ⟨r, er, sr⟩ := twice_less _ nn
    have le3 := nodup_len _ r R.nd fun y my => sr y (up y my)
    rw [List.length_map] at le3 er
    omega
end VQ
namespace VQ
open PySem PySem.Spec PyProof.Rows L2 LamX
/-! ### sorted(rows), rows a list or a tuple -/
def rSortTW (K : PySem.W.Frag) : List V → Hp → VK → Prop := fun vs H Q => ∃ d : Nat, 1 ≤ d ∧ rSortTM K d 32 vs H Q
theorem cr_sortTW {X : Cx} : CallR X (.builtin "sorted") (rSortTW X.K) := by
  intro pins s σ H vs us Q inv r ⟨d, hd, h⟩
  exact cr_sortTM hd pins s σ H vs us Q inv r h
section
/-- what sorted(rows) hands out -/
theorem sort_rowsTW {K : PySem.W.Frag} {H : Hp} {l : Addr} {us : List V} {rs : List (List Nat)} {wd : Nat} {Q : VK} (hl : H l = some (.tup us)) (ro : Rows H us rs) (w1 : 1 ≤ wd) (hrs : ∀ r ∈ rs, RowOk wd r)
    (k : ∀ (p : Addr) (ys : List V) (ss : List (List Nat)), H p = none → Rows H ys ss → ss.Perm rs → Sorted ss → Q (.ref p) (upd H p (.lst ys))) : rSortTW K [.ref l] H Q := by
  have tup : ∀ {a : Addr} {r : List Nat}, H a = some (.tup (r.map numV)) → TupI K H (.ref a) (r.map fun n => ((n : Nat) : Int)) := fun {a r} h => ⟨a, rfl, SqT.of (by rw [h, List.map_map]; rfl)⟩
  refine ⟨wd, w1, l, us, rfl, SqT.of hl, fun x mx => ?_, fun ys p pm pw np => ?_⟩
  · obtain ⟨a, r, rfl, mr, ha⟩ := ro.mem mx
    obtain ⟨e1, e2⟩ := hrs r mr
    refine ⟨_, tup ha, by rw [List.length_map, e1], fun m mm => ?_⟩
    obtain ⟨n, mn, rfl⟩ := List.mem_map.mp mm
    have := e2 n mn
    exact ⟨by omega, by omega⟩
  obtain ⟨ss, ps, rss⟩ := Rows.perm pm.symm ro
  refine k p ys ss np rss ps.symm ?_
  refine List.pairwise_iff_getElem.mpr fun i j li lj lt => ?_
  have li' : i < ys.length := by rw [rss.len]; exact li
  have lj' : j < ys.length := by rw [rss.len]; exact lj
  obtain ⟨a, q', e1, e2, e3⟩ := rss.get (List.getElem?_eq_getElem li')
  obtain ⟨c, r', f1, f2, f3⟩ := rss.get (List.getElem?_eq_getElem lj')
  rw [List.getElem?_eq_getElem li] at e2
  rw [List.getElem?_eq_getElem lj] at f2
  cases e2
  cases f2
  exact List.pairwise_iff_getElem.mp pw i j li' lj' lt _ _ (by rw [e1]; exact tup e3) (by rw [f1]; exact tup f3)
theorem sort_rowsE {K : PySem.W.Frag} {H : Hp} {l : Addr} {us : List V} {rs : List (List Nat)} {wd : Nat} {Q : VK} (hl : H l = some (.lst us) ∨ H l = some (.tup us)) (ro : Rows H us rs) (w1 : 1 ≤ wd) (hrs : ∀ r ∈ rs, RowOk wd r)
    (k : ∀ (p : Addr) (ys : List V) (ss : List (List Nat)), H p = none → Rows H ys ss → ss.Perm rs → Sorted ss → Q (.ref p) (upd H p (.lst ys))) : rSortW K [.ref l] H Q ∨ rSortTW K [.ref l] H Q :=
  hl.imp (fun h => sort_rowsW h ro w1 hrs k) fun h => sort_rowsTW h ro w1 hrs k
end
end VQ
namespace VQ
open PySem PySem.Spec PyProof.Rows L2 LamX
/-! ### deeds of a book, told or refused -/
/-- x not in a tuple of things of any depth -/
def rNinDT (K : PySem.W.Frag) : R2 := fun x y H Q => ∃ d ds, Dp K H x d ∧ Dp K H y (.tuple ds) ∧ SeqAt.shaped d = true ∧ SeqAt.shaped (.tuple ds) = true ∧ Q (.bl (!ds.any fun z => PyData.eqv z d)) H
theorem op_ninDT {X : Cx} (hu : X.A.units + 65 < cLine) : OpR X (compareOp .NotIn) (rNinDT X.K) := by
  intro pins s σ H x y v u Q inv rx ry h
  obtain ⟨d, ds, hd, he, sd, se, q⟩ := h
  obtain ⟨as, r1⟩ := Dp.reads inv d x v hd rx
  obtain ⟨bs, r2⟩ := Dp.reads inv (.tuple ds) y u he ry
  exact SeqAt.notIn_tuple_reads r2 r1 (SeqAt.canLay_of_shaped se) (SeqAt.canLay_of_shaped sd) (room_in_shaped sd hu) ⟨.bl _, H, inv, rfl, q⟩
/-- tables by their names, in the order in which they came -/
def TsN (H : Hp) (a : Addr) (zs : List Str) (f : Tbs) : Prop := ∃ kvs : List (L2.Key × V), H a = some (.dK kvs) ∧ kvs.map (·.1) = zs.map Sum.inr ∧ zs.Nodup ∧ ∀ nm : Str, TabO H (valV kvs (Sum.inr nm)) (f nm)
theorem TsN.at_ {H : Hp} {a : Addr} {zs : List Str} {f : Tbs} (h : TsN H a zs f) : TsAt H a zs.length f := by
  obtain ⟨kvs, h1, h2, _, h3⟩ := h
  refine ⟨kvs, h1, ?_, h3⟩
  have := congrArg List.length h2
  rwa [List.length_map, List.length_map] at this
theorem TsN.same {H H' : Hp} (s : Same H H') {a : Addr} {zs : List Str} {f : Tbs} (h : TsN H a zs f) : TsN H' a zs f := by
  obtain ⟨kvs, h1, h2, nd, h3⟩ := h
  exact ⟨kvs, s _ _ h1, h2, nd, fun nm => (h3 nm).same s⟩
theorem val_none_mem {kvs : List (L2.Key × V)} {zs : List Str} (e : kvs.map (·.1) = zs.map Sum.inr) {nm : Str} (h : valV kvs (Sum.inr nm) = none) : nm ∉ zs := fun m => by
  have a : (kvs.any fun kv => decide (kv.1 = Sum.inr nm)) = true := by
    have m1 : (Sum.inr nm : L2.Key) ∈ kvs.map (·.1) := by
      rw [e]
      exact List.mem_map.mpr ⟨nm, m, rfl⟩
    obtain ⟨kv, mk, ek⟩ := List.mem_map.mp m1
    exact List.any_eq_true.mpr ⟨kv, mk, decide_eq_true ek⟩
  rw [valV_any, h] at a
  cases a
theorem tsN_old {H : Hp} {a : Addr} {kvs : List (L2.Key × V)} {zs : List Str} {f : Tbs} {nm : Str} {v x : V} {t : Nat × List (List Nat)} (ha : H a = some (.dK (putK kvs (Sum.inr nm) v))) (e : kvs.map (·.1) = zs.map Sum.inr) (nd : zs.Nodup) (old : ∀ z : Str, TabO H (valV kvs (Sum.inr z)) (f z)) (ev : valV kvs (Sum.inr nm) = some x) (hv : TabAt H v t.1 t.2) : TsN H a zs (fset f nm t) := by
  refine ⟨_, ha, ?_, nd, ?_⟩
  · rw [← e]
    have a' : (kvs.any fun kv => decide (kv.1 = (Sum.inr nm : L2.Key))) = true := by rw [valV_any, ev]; rfl
    unfold putK
    rw [if_pos a', List.map_map]
    refine List.map_congr_left fun kv _ => ?_
    show (if kv.1 = Sum.inr nm then (kv.1, v) else kv).1 = kv.1
    split <;> rfl
  · obtain ⟨kvs', h1, _, h3⟩ := ts_put (t := t) ha old hv
    rw [ha] at h1
    cases h1
    exact h3
theorem tsN_new {H : Hp} {a : Addr} {kvs : List (L2.Key × V)} {zs : List Str} {f : Tbs} {nm : Str} {v : V} {t : Nat × List (List Nat)} (ha : H a = some (.dK (putK kvs (Sum.inr nm) v))) (e : kvs.map (·.1) = zs.map Sum.inr) (nd : zs.Nodup) (old : ∀ z : Str, TabO H (valV kvs (Sum.inr z)) (f z)) (ev : valV kvs (Sum.inr nm) = none) (hv : TabAt H v t.1 t.2) : TsN H a (zs ++ [nm]) (fset f nm t) := by
  refine ⟨_, ha, ?_, ?_, ?_⟩
  · rw [putK_new v ev, List.map_append, List.map_append, e]
    rfl
  · exact List.nodup_append.mpr ⟨nd, List.nodup_cons.mpr ⟨List.not_mem_nil, List.nodup_nil⟩, fun x mx y my => by
      rw [List.mem_singleton] at my
      rintro rfl
      rw [my] at mx
      exact val_none_mem e ev mx⟩
  · obtain ⟨kvs', h1, _, h3⟩ := ts_put (t := t) ha old hv
    rw [ha] at h1
    cases h1
    exact h3
inductive Deed
  | make (nm : Str) (wd : Nat)
  | drop (nm : Str)
  | put (nm : Str) (r : List Nat)
  | take (nm : Str) (r : List Nat)
  | fill (nm : Str) (rs : List (List Nat))
def fdel (f : Tbs) (nm : Str) : Tbs := fun z => if z = nm then none else f z
/-- told: the answer, the names then, the tables -/
inductive To (f : Tbs) (zs : List Str) : Deed → V → List Str → Tbs → Prop
  | make {nm : Str} {wd : Nat} (h : f nm = none) : To f zs (.make nm wd) .non (zs ++ [nm]) (fset f nm (wd, []))
  | drop {nm : Str} {t : Nat × List (List Nat)} (h : f nm = some t) : To f zs (.drop nm) .non (zs.filter fun z => decide (z ≠ nm)) (fdel f nm)
  | put {nm : Str} {r : List Nat} {wd : Nat} {rs ss : List (List Nat)} (h : f nm = some (wd, rs)) (m : r ∉ rs) (p : ss.Perm (rs ++ [r])) (s : Sorted ss) : To f zs (.put nm r) (.int ((rs.length + 1 : Nat) : Int)) zs (fset f nm (wd, ss))
  | take {nm : Str} {r : List Nat} {wd : Nat} {rs ss : List (List Nat)} (h : f nm = some (wd, rs)) (m : r ∈ rs) (p : ss.Perm (rs.filter fun x => decide (x ≠ r))) (s : Sorted ss) : To f zs (.take nm r) (.int ((rs.filter fun x => decide (x ≠ r)).length : Int)) zs (fset f nm (wd, ss))
  | fill {nm : Str} {ws : List (List Nat)} {wd : Nat} {rs ss : List (List Nat)} (h : f nm = some (wd, rs)) (p : ss.Perm ws) (s : Sorted ss) : To f zs (.fill nm ws) (.int (ws.length : Int)) zs (fset f nm (wd, ss))
/-- what stands where the refusals are -/
structure Ref where
  ta : Addr
  nt : Addr
  nr : Addr
  th : Addr
/-- refused: the error's class, its dict -/
inductive No (R : Ref) (f : Tbs) : Deed → Addr → List (Str × V) → Prop
  | taken {nm : Str} {wd : Nat} {t : Nat × List (List Nat)} (h : f nm = some t) : No R f (.make nm wd) R.ta (ysF "Taken" "name" (.str nm))
  | drop {nm : Str} (h : f nm = none) : No R f (.drop nm) R.nt (zsF "NoTable" (.str nm))
  | put {nm : Str} {r : List Nat} (h : f nm = none) : No R f (.put nm r) R.nt (zsF "NoTable" (.str nm))
  | take {nm : Str} {r : List Nat} (h : f nm = none) : No R f (.take nm r) R.nt (zsF "NoTable" (.str nm))
  | fill {nm : Str} {ws : List (List Nat)} (h : f nm = none) : No R f (.fill nm ws) R.nt (zsF "NoTable" (.str nm))
  | there {nm : Str} {r : List Nat} {wd : Nat} {rs : List (List Nat)} (h : f nm = some (wd, rs)) (m : r ∈ rs) : No R f (.put nm r) R.th [("called", .str "There")]
  | norow {nm : Str} {r : List Nat} {wd : Nat} {rs : List (List Nat)} (h : f nm = some (wd, rs)) (m : r ∉ rs) : No R f (.take nm r) R.nr (zsF "NoRow" (.str nm))
/-- a deed whose things are of the right kinds -/
def Fine (f : Tbs) (n : Nat) : Deed → Prop
  | .make nm wd => n < 8 ∧ NameS 8 nm ∧ 1 ≤ wd ∧ wd ≤ 4
  | .drop nm => n < 100
  | .put nm r => n < 100 ∧ ∀ t, f nm = some t → RowOk t.1 r ∧ (r ∉ t.2 → t.2.length < 40)
  | .take nm r => n < 100 ∧ ∀ t, f nm = some t → RowOk t.1 r
  | .fill nm ws => n < 100 ∧ ws.length ≤ 40 ∧ ws.Nodup ∧ ∀ t, f nm = some t → ∀ r ∈ ws, RowOk t.1 r
/-- its things behind its word -/
inductive Things (H : Hp) : Deed → List V → Prop
  | make {nm : Str} {wd : Nat} : Things H (.make nm wd) [.str nm, .int (wd : Int)]
  | drop {nm : Str} : Things H (.drop nm) [.str nm]
  | put {nm : Str} {r : List Nat} {a : Addr} (h : H a = some (.tup (r.map numV))) : Things H (.put nm r) [.str nm, .ref a]
  | take {nm : Str} {r : List Nat} {a : Addr} (h : H a = some (.tup (r.map numV))) : Things H (.take nm r) [.str nm, .ref a]
  | fill {nm : Str} {ws : List (List Nat)} {l : Addr} {us : List V} (h : H l = some (.lst us) ∨ H l = some (.tup us)) (ro : Rows H us ws) : Things H (.fill nm ws) [.str nm, .ref l]
def wordOf : Deed → Str
  | .make _ _ => "make"
  | .drop _ => "drop"
  | .put _ _ => "put"
  | .take _ _ => "take"
  | .fill _ _ => "fill"
theorem Things.same {H H' : Hp} (s : Same H H') {D : Deed} {vs : List V} (h : Things H D vs) : Things H' D vs := by
  cases h with
  | make => exact .make
  | drop => exact .drop
  | put h => exact .put (s _ _ h)
  | take h => exact .take (s _ _ h)
  | fill h ro => exact .fill (h.imp (s _ _) (s _ _)) (ro.same s)
/-- an error is wished for -/
def Refs (H : Hp) (E : XK) (C : Addr) (fs : List (Str × V)) : Prop := ∀ d H', Same H H' → H' d = none → E (.ref C) (some d) (upd H' d (.xd fs))
/-- tables all of whose rows are right -/
def TsOk (f : Tbs) : Prop := ∀ nm t, f nm = some t → 1 ≤ t.1 ∧ t.1 ≤ 4 ∧ t.2.length ≤ 40 ∧ t.2.Nodup ∧ ∀ r ∈ t.2, RowOk t.1 r
/-- what a deed ends in -/
def Ends (R : Ref) (f : Tbs) (zs : List Str) (D : Deed) (H : Hp) (Q : VK) (E : XK) : Prop :=
  (∀ ans ms g, To f zs D ans ms g → ∀ (p dd : Addr) (H' : Hp), Same H H' → H' p = some (.tup [.ref dd, ans]) → TsN H' dd ms g → Q (.ref p) H') ∧ ∀ C fs, No R f D C fs → Refs H E C fs
/-- one deed upon tables -/
def spTab (R : Ref) (pick : Deed → Prop) : Sp := fun vs H Q E => ∃ (a : Addr) (ws : List V) (zs : List Str) (f : Tbs) (D : Deed), vs = .ref a :: ws ∧ pick D ∧ TsN H a zs f ∧ TsOk f ∧ Fine f zs.length D ∧ Things H D ws ∧ Ends R f zs D H Q E
section
variable {P : Program} {w : World} {K : PySem.W.Frag} {mg : Str → Option Value} {base : Heap} {R : Ref} {Mi g : Addr} {mc : Value} {fdM : FuncData}
def spTableR (NT : Addr) : Sp := fun vs H Q E => ∃ (a : Addr) (nm : Str) (n : Nat) (f : Tbs), vs = [.ref a, .str nm] ∧ TsAt H a n f ∧ n < 100 ∧ (∀ t v, f nm = some t → TabAt H v t.1 t.2 → Q v H) ∧ (f nm = none → Refs H E NT (zsF "NoTable" (.str nm)))
theorem has_tableR {NT fI : Addr} {fdI : FuncData} (b : Blt mg) (M : MissAt K mg Mi mc g fdM) (EN : ErrZ K mg "NoTable" "name" NT fI fdI "NoTable.__init__" sNoTable ["self", "name"]) (a : AtE K mg "table_of" sTableOf ["tables", "name"]) : Has P w K mg base (L2.CX P w) 4 "table_of" sTableOf ["tables", "name"] (spTableR NT) := by
  obtain ⟨f, fd, a⟩ := a
  have GI : FnOk P w K mg base CX0 2 fI fdI ["self", "name"] (spMadeF NT (zsF "NoTable")) := ok_NoTable M EN
  refine ⟨f, fd, a, a.fn.okX scTableOf (fun vs H Q E h => ?_) (fun cdv A outer s H vs Q E hr3 h => ?_)⟩
  · obtain ⟨ad, nm, n, tb, rfl, _⟩ := h
    rfl
  · obtain ⟨ad, nm, n, tb, rfl, ⟨kvs, hk, lk, all⟩, few, k1, k2⟩ := h
    have hu1 : (A.deeper (PyProof.Rows.envOfC "table_of" (defScope sTableOf) s.heap.objs.size f cdv)).units + 1 < cLine := by
      have := hr3.units
      omega
    refine ⟨_,
    (pss_cons (ps_if (PW.pt (pw_or (pt_not (pt_val (pe_isi (pv 1) rfl b.isi rfl b.str (c := "str") (by decide +kernel)))) (pw_or1 (pt_cmp (pc_dnotin hu1 (pv 1) (pv 0))))))
      (pss_one (ps_raise rfl (takes_of rfl rfl rfl rfl) (pmk_oexT PySem.F.excBase_LookupError EN.ox EN.it EN.ty GI hr3 EN.bd .nil pass0 rfl EN.gl (pa_cons (pv 1) pa_nil))))
      pss_nil)
    (pss_one (ps_ret (pe_dget hu1 (pv 0) (pv 1) fun _ _ => rfl)))), ?_⟩
    have h1 := all nm
    cases ev : valV kvs (Sum.inr nm) with
    | none =>
      rw [ev] at h1
      have dg : DGet H ad (.str nm) none := .inl ⟨kvs, Sum.inr nm, .inl hk, rfl, ev.symm⟩
      have fn : tb nm = none := by
        cases e : tb nm with
        | none => rfl
        | some t => rw [e] at h1; exact h1.elim
      refine rd_isi rfl (.base (.str nm)) (b := true) (by decide +kernel) ⟨_, rfl, iteF ?_⟩
      refine ⟨_, rfl, _, rfl, ad, _, rfl, dg, _, rfl, iteT ⟨_, rfl, by show 1 ≤ 1000; decide, raise_y fun d hd => k2 fn d H (Same.refl H) hd⟩⟩
    | some v =>
      rw [ev] at h1
      have dg : DGet H ad (.str nm) (some v) := .inl ⟨kvs, Sum.inr nm, .inl hk, rfl, ev.symm⟩
      cases e : tb nm with
      | none => rw [e] at h1; exact h1.elim
      | some t =>
        rw [e] at h1
        refine rd_isi rfl (.base (.str nm)) (b := true) (by decide +kernel) ⟨_, rfl, iteF ?_⟩
        exact ⟨_, rfl, _, rfl, ad, _, rfl, dg, _, rfl, iteF ⟨_, rfl, _, rfl, ad, v, rfl, dg, k1 t v e h1⟩⟩
def spWithRowsN (K : PySem.W.Frag) : Sp := fun vs H Q _ => ∃ (a l : Addr) (us : List V) (nm : Str) (zs : List Str) (f : Tbs) (t : Nat × List (List Nat)) (rs : List (List Nat)), vs = [.ref a, .str nm, .ref l] ∧ TsN H a zs f ∧ f nm = some t ∧ zs.length < 100 ∧ 1 ≤ t.1 ∧ t.1 ≤ 4 ∧ (H l = some (.lst us) ∨ H l = some (.tup us)) ∧ Rows H us rs ∧ (∀ r ∈ rs, RowOk t.1 r) ∧ rs.length < 100 ∧
  ∀ (p d : Addr) (ss : List (List Nat)) (H' : Hp), Same H H' → H' p = some (.tup [.ref d, .int (rs.length : Int)]) → TsN H' d zs (fset f nm (t.1, ss)) → ss.Perm rs → Sorted ss → Q (.ref p) H'
theorem has_withrowsN (b : Blt mg) (so : mg "sorted" = none) (a : AtE K mg "with_rows" sWithRows ["tables", "name", "rows"]) : Has P w K mg base CX0 1 "with_rows" sWithRows ["tables", "name", "rows"] (spWithRowsN K) := by
  obtain ⟨f, fd, a⟩ := a
  refine ⟨f, fd, a, a.fn.ok scWithRows (fun vs H Q E h => ?_) (fun cdv A outer s H vs Q E hr0 h => ?_)⟩
  · obtain ⟨ad, l, us, nm, n, tb, t, rs, rfl, _⟩ := h
    rfl
  · obtain ⟨ad, l, us, nm, n, tb, t, rs, rfl, ⟨kvs, hk, ek, ndz, all⟩, ht, few, t1, t4, hl, ro, ok, fr, k⟩ := h
    have lk : kvs.length = n.length := by
      have := congrArg List.length ek
      rwa [List.length_map, List.length_map] at this
    have hu1 : (A.deeper (PyProof.Rows.envOfC "with_rows" (defScope sWithRows) s.heap.objs.size f cdv)).units + 1 < cLine := by
      have := hr0.units
      omega
    refine ⟨_,
    (pss_cons (ps_set (i := 3) scWithRows.nd rfl (.inl rfl) (pe_ix ix_tup (pe_dget hu1 (pv 0) (pv 1) fun _ _ => rfl) pe_int fun _ _ => rfl))
    (pss_one (ps_ret (pe_tup (pa_cons (pe_spread (pv 0) (pv 1) (pe_tup (pa_cons (pv 3) (pa_cons (pe_callTy call_tuple_of (by rfl) b.tuple (by decide +kernel) (pa_cons (pe_callB (cr_or cr_sortW cr_sortTW) (by rfl) so (by decide +kernel) (pa_cons (pv 2) pa_nil)) pa_nil)) pa_nil)))) (pa_cons (pe_callB call_len_seq (by rfl) b.len PySem.boot_len (pa_cons (pv 2) pa_nil)) pa_nil)))))), ?_⟩
    have h1 := all nm
    rw [ht] at h1
    cases ev : valV kvs (Sum.inr nm) with
    | none =>
      rw [ev] at h1
      exact h1.elim
    | some v =>
      rw [ev] at h1
      have dg : DGet H ad (.str nm) (some v) := .inl ⟨kvs, Sum.inr nm, .inl hk, rfl, ev.symm⟩
      obtain ⟨ta, ra, vs0, rfl, htb, hr, old⟩ := h1
      refine ⟨_, rfl, _, rfl, ad, _, rfl, dg, ?_⟩
      refine ⟨ta, _, 0, _, rfl, rfl, SqT.of htb, rfl, ?_⟩
      intro pd npd
      have nad : ad ≠ pd := ne_of_none hk npd
      refine ⟨_, rfl, ad, kvs, rfl, (upd_ne nad).trans hk, nad, upd_same, by rw [lk]; exact Nat.lt_trans few (by decide), fun q nq => ?_⟩
      have nqp : q ≠ pd := fun e => by rw [e, upd_same] at nq; cases nq
      have nqH : H q = none := by
        rw [upd_ne nqp, upd_ne nqp] at nq
        exact nq
      have s2 : Same H (upd (upd (upd H pd (.dK [])) pd (.dK kvs)) q (.dK [])) := fun x o h => by
        rw [upd_ne (ne_of_none h nqH), upd_ne (ne_of_none h npd), upd_ne (ne_of_none h npd)]
        exact h
      have p2 : (upd (upd (upd H pd (.dK [])) pd (.dK kvs)) q (.dK [])) pd = some (.dK kvs) := (upd_ne nqp.symm).trans upd_same
      have q2 : (upd (upd (upd H pd (.dK [])) pd (.dK kvs)) q (.dK [])) q = some (.dK []) := upd_same
      generalize (upd (upd (upd H pd (.dK [])) pd (.dK kvs)) q (.dK [])) = H2 at s2 p2 q2
      refine ⟨_, rfl, _, rfl, _, rfl, sort_rowsE (hl.imp (s2 _ _) (s2 _ _)) (ro.same s2) t1 ok fun ps ys ss nps ros pm sr => ?_⟩
      refine ⟨ps, ys, rfl, .inl ⟨SqL.of upd_same, fun tl ntl => ?_⟩⟩
      have s3 : Same H2 (upd (upd H2 ps (.lst ys)) tl (.tup ys)) := (same_new nps).trans (same_new ntl)
      have tl3 : (upd (upd H2 ps (.lst ys)) tl (.tup ys)) tl = some (.tup ys) := upd_same
      generalize (upd (upd H2 ps (.lst ys)) tl (.tup ys)) = H3 at s3 tl3
      refine ⟨by show 2 ≤ sizeLine; decide, fun T nT => ?_⟩
      have s4 : Same H3 (upd H3 T (.tup [.int (t.1 : Int), .ref tl])) := same_new nT
      have T4 : (upd H3 T (.tup [.int (t.1 : Int), .ref tl])) T = some (.tup [.int (t.1 : Int), .ref tl]) := upd_same
      have nTp : T ≠ pd := (ne_of_none (s3 _ _ p2) nT).symm
      have nTq : T ≠ q := (ne_of_none (s3 _ _ q2) nT).symm
      have ntp : tl ≠ pd := fun e => by rw [e] at ntl; rw [upd_ne (ne_of_none p2 nps), p2] at ntl; cases ntl
      have ntq : tl ≠ q := fun e => by rw [e] at ntl; rw [upd_ne (ne_of_none q2 nps), q2] at ntl; cases ntl
      refine ⟨.ref T, Sum.inr nm, rfl, s4 _ _ (s3 _ _ q2), s4 _ _ (s3 _ _ p2), ?_⟩
      have sH := s2.trans (s3.trans s4)
      have p4 := s4 _ _ (s3 _ _ p2)
      have tl4 := s4 _ _ tl3
      have q4 := s4 _ _ (s3 _ _ q2)
      have ro4 := ros.same (s3.trans s4)
      generalize (upd H3 T (.tup [.int (t.1 : Int), .ref tl])) = H4 at sH T4 p4 tl4 ro4 q4
      have s5 : Same H (upd (upd H4 q (.dK [(Sum.inr nm, .ref T)])) pd (.dK (putK kvs (Sum.inr nm) (.ref T)))) := fun x o h => by
        rw [upd_ne (ne_of_none h npd), upd_ne (ne_of_none h nqH)]
        exact sH _ _ h
      have p5 : (upd (upd H4 q (.dK [(Sum.inr nm, .ref T)])) pd (.dK (putK kvs (Sum.inr nm) (.ref T)))) pd = some (.dK (putK kvs (Sum.inr nm) (.ref T))) := upd_same
      have mv : ∀ (x : Addr) (xs : List V), H4 x = some (.tup xs) → (upd (upd H4 q (.dK [(Sum.inr nm, .ref T)])) pd (.dK (putK kvs (Sum.inr nm) (.ref T)))) x = some (.tup xs) := fun x xs h => by
        rw [upd_ne (fun e => by rw [e, p4] at h; cases h), upd_ne (fun e => by rw [e, q4] at h; cases h)]
        exact h
      have T5 := mv _ _ T4
      have tl5 := mv _ _ tl4
      have ro5 := ro4.moved mv
      generalize (upd (upd H4 q (.dK [(Sum.inr nm, .ref T)])) pd (.dK (putK kvs (Sum.inr nm) (.ref T)))) = H5 at s5 p5 T5 tl5 ro5
      refine ⟨_, rfl, l, us, rfl, hl.imp (fun h => SqL.of (s5 _ _ h)) (fun h => SqT.of (s5 _ _ h)), by show 2 ≤ sizeLine; decide, fun R nR => ?_⟩
      have s6 : Same H5 (upd H5 R (.tup [.ref pd, .int (us.length : Int)])) := same_new nR
      have ts := tsN_old (f := tb) (nm := nm) (t := (t.1, ss)) p5 ek ndz (fun z => (all z).same s5) ev ⟨T, tl, ys, rfl, T5, tl5, ro5⟩
      exact k R pd ss _ (s5.trans s6) (by rw [← ro.len]; exact upd_same) (ts.same s6) pm sr
abbrev sNeedRow : Stmt := top 31
abbrev nNeedRow : List Str := ["row", "width"]
theorem scNeedRow : FnScope nNeedRow ["row", "width"] (defScope sNeedRow) := ⟨rfl, rfl, rfl, by decide +kernel, rfl, by decide +kernel, by decide +kernel⟩
def spNeedRow : Sp := fun vs H Q _ => ∃ (a : Addr) (r : List Nat) (wd : Nat), vs = [.ref a, .int (wd : Int)] ∧ H a = some (.tup (r.map numV)) ∧ RowOk wd r ∧ wd ≤ 4 ∧ ∀ H', Same H H' → Q .non H'
theorem has_needrow (hIr : Has P w K mg base CX0 3 "is_row" sIsRow ["thing", "width"] spIsRow) (a : AtE K mg "need_row" sNeedRow ["row", "width"]) : Has P w K mg base CX0 4 "need_row" sNeedRow ["row", "width"] spNeedRow := by
  obtain ⟨f, fd, a⟩ := a
  obtain ⟨fIr, fdIr, aIr, GIr⟩ := hIr
  refine ⟨f, fd, a, a.fn.ok scNeedRow (fun vs H Q E h => ?_) (fun cdv A outer s H vs Q E hr3 h => ?_)⟩
  · obtain ⟨ad, r, wd, rfl, _⟩ := h
    rfl
  · obtain ⟨ad, r, wd, rfl, ha, ok, w4, k⟩ := h
    refine ⟨_,
    (pss_one (ps_if (pt_not (pt_val (pe_call GIr hr3 rfl aIr.gl aIr.fn.kp aIr.bd .nil pass0 (pa_cons (pv 0) (pa_cons (pv 1) pa_nil)))))
      (pss_one ps_never)
      pss_nil)), ?_⟩
    exact ⟨_, rfl, _, rfl, ad, r, wd, rfl, ha, ok, w4, fun H2 s2 => ⟨_, rfl, iteF (k H2 s2)⟩⟩
end
end VQ
namespace VQ
open PySem PySem.Spec PyProof.Rows L2 LamX
/-! ### put_row, take_row -/
abbrev sPutRow : Stmt := top 36
abbrev nPutRow : List Str := ["tables", "name", "row", "width", "rows"]
theorem scPutRow : FnScope nPutRow ["tables", "name", "row"] (defScope sPutRow) := ⟨rfl, rfl, rfl, by decide +kernel, rfl, by decide +kernel, by decide +kernel⟩
abbrev sTakeRow : Stmt := top 37
abbrev nTakeRow : List Str := ["tables", "name", "row", "width", "rows", "other"]
theorem scTakeRow : FnScope nTakeRow ["tables", "name", "row"] (defScope sTakeRow) := ⟨rfl, rfl, rfl, by decide +kernel, rfl, by decide +kernel, by decide +kernel⟩
abbrev sThere : Stmt := inClass (top 7) 0
theorem scThere : FnScope ["self"] ["self"] (defScope sThere) := ⟨rfl, rfl, rfl, by decide +kernel, rfl, by decide +kernel, by decide +kernel⟩
theorem lay_rowsT (rs : List (List Nat)) : Lay 2 (.tuple (rs.map rowD)) := .tuple fun d m => by
  obtain ⟨r, _, rfl⟩ := List.mem_map.mp m
  exact lay_row r
theorem Rows.snocX {H : Hp} {us : List V} {rs : List (List Nat)} {a : Addr} {r : List Nat} (h : Rows H us rs) (ha : H a = some (.tup (r.map numV))) : Rows H (us ++ [.ref a]) (rs ++ [r]) := by
  induction h with
  | nil => exact .cons ha .nil
  | cons h t ih => exact .cons h ih
theorem numV_data {K : PySem.W.Frag} {H : Hp} {a : Addr} {r : List Nat} (h : H a = some (.tup (r.map numV))) : Dp K H (.ref a) (rowD r) := .tup (SqT.of h) (dp_nums _)
def isPut : Deed → Prop
  | .put _ _ => True
  | _ => False
def isTake : Deed → Prop
  | .take _ _ => True
  | _ => False
section
variable {P : Program} {w : World} {K : PySem.W.Frag} {mg : Str → Option Value} {base : Heap} {R : Ref} {Mi g : Addr} {mc : Value} {fdM : FuncData}
theorem has_putrow {fI : Addr} {fdI : FuncData} {k1 : Tok} (b : Blt mg) (Wro : mg "MOST_ROWS" = some (.int 40 k1)) (ETh : ErrC K mg "There" R.th fI fdI "There.__init__" sThere)
    (hTo : Has P w K mg base (L2.CX P w) 4 "table_of" sTableOf ["tables", "name"] (spTableR R.nt)) (hNr : Has P w K mg base CX0 4 "need_row" sNeedRow ["row", "width"] spNeedRow) (hWr : Has P w K mg base CX0 1 "with_rows" sWithRows ["tables", "name", "rows"] (spWithRowsN K)) (a : AtE K mg "put_row" sPutRow ["tables", "name", "row"]) :
    Has P w K mg base (L2.CX P w) 5 "put_row" sPutRow ["tables", "name", "row"] (spTab R isPut) := by
  obtain ⟨f, fd, a⟩ := a
  obtain ⟨fTo, fdTo, aTo, GTo⟩ := hTo
  obtain ⟨fNr, fdNr, aNr, GNr⟩ := hNr
  obtain ⟨fWr, fdWr, aWr, GWr⟩ := hWr
  have GI : FnOk P w K mg base CX0 1 fI fdI ["self"] (spErr K R.th "There") := ok_err ETh scThere (.inl rfl) rfl
  refine ⟨f, fd, a, a.fn.okX scPutRow (fun vs H Q E h => ?_) (fun cdv A outer s H vs Q E hr4 h => ?_)⟩
  · obtain ⟨ad, ws, n, tb, D, rfl, pk, _, _, _, th, _⟩ := h
    cases th <;> first | exact pk.elim | rfl
  · obtain ⟨ad, ws, n, tb, D, rfl, pk, ts, tok, fine, th, k1, k2⟩ := h
    cases th with
    | make => exact pk.elim
    | drop => exact pk.elim
    | take h => exact pk.elim
    | fill h ro => exact pk.elim
    | put hx =>
    rename_i nm r x
    have hu : (A.deeper (PyProof.Rows.envOfC "put_row" (defScope sPutRow) s.heap.objs.size f cdv)).units + 65 < cLine := by
      have := hr4.un
      omega
    have hr1 := hr4.mono (show 1 ≤ 4 by decide)
    have hr2 := hr4.mono (show 2 ≤ 4 by decide)
    refine ⟨_,
    (pss_cons (ps_asg (pe_call GTo hr4 rfl aTo.gl aTo.fn.kp aTo.bd .nil (passes_call (takes_of rfl rfl rfl rfl) (fun _ _ _ _ h => h)) (pa_cons (pv 0) (pa_cons (pv 1) pa_nil))) (pg_tup rfl (pgs_cons (pg_name (i := 3) scPutRow.nd rfl (.inl rfl)) (pgs_cons (pg_name (i := 4) scPutRow.nd rfl (.inl rfl)) pgs_nil))))
    (pss_cons (ps_expr (pe_call GNr hr4 rfl aNr.gl aNr.fn.kp aNr.bd .nil pass0 (pa_cons (pv 2) (pa_cons (pv 3) pa_nil))))
    (pss_cons (ps_if (pt_cmpR (op_inDT hu) (pv 2) (pv 4) rfl)
      (pss_one (ps_raise rfl (takes_of rfl rfl rfl rfl) (pmk_oex0 ETh.ox ETh.it ETh.ty GI hr2 ETh.bd pass0 rfl ETh.gl)))
      pss_nil)
    (pss_cons (ps_if (pt_cmpR op_ge (pe_callB call_len_seq (by rfl) b.len PySem.boot_len (pa_cons (pv 4) pa_nil)) (pe_glob (v := .int 40) rfl Wro ⟨_, rfl⟩) (nomark _))
      (pss_one ps_never)
      pss_nil)
    (pss_one (ps_ret (pe_call GWr hr1 rfl aWr.gl aWr.fn.kp aWr.bd .nil pass0 (pa_cons (pv 0) (pa_cons (pv 1) (pa_cons (pe_lst (StX.pa_star (pv 4) (pa_cons (pv 2) pa_nil))) pa_nil)))))))))), ?_⟩
    refine ⟨_, rfl, _, rfl, ad, nm, n.length, tb, rfl, ts.at_, fine.1, fun t v ht tv => ?_, fun no => k2 _ _ (.put no)⟩
    obtain ⟨ok, l40⟩ := fine.2 t ht
    obtain ⟨t1, t4, _, nd, oks⟩ := tok nm t ht
    obtain ⟨ta, ra, us, rfl, hta, hra, ro⟩ := tv
    refine ⟨ta, _, rfl, SqT.of hta, rfl, _, _, rfl, _, _, rfl, rfl, ?_⟩
    refine ⟨_, rfl, _, rfl, x, r, t.1, rfl, hx, ok, t4, fun H2 s2 => ?_⟩
    refine ⟨_, rfl, _, rfl, rowD r, t.2.map rowD, numV_data (s2 _ _ hx), .tup (SqT.of (s2 _ _ hra)) (ro.same s2).dp, (lay_row _).shaped (by decide), (lay_rowsT _).shaped (by decide), _, rfl, ?_⟩
    rw [eqv_rows_any]
    by_cases m : r ∈ t.2
    · rw [decide_eq_true m]
      exact iteT (raise_plain (σ := []) fun d hd => k2 _ _ (.there (wd := t.1) (rs := t.2) ht m) d H2 s2 hd)
    · rw [decide_eq_false m]
      refine iteF ⟨_, rfl, ra, us, rfl, .inr (SqT.of (s2 _ _ hra)), _, 40, rfl, rfl, _, rfl, ?_⟩
      have l40 := l40 m
      rw [ro.len, decide_eq_false (show ¬ (40 : Int) ≤ (t.2.length : Int) by omega)]
      refine iteF ⟨_, rfl, _, rfl, _, rfl, ra, us, rfl, .inl (SqT.of (s2 _ _ hra)), _, rfl, ?_⟩
      refine ⟨by show (us ++ [V.ref x]).length ≤ sizeLine; rw [List.length_append, ro.len, sizeLine_eq]; show t.2.length + 1 ≤ _; omega, fun L nL => ?_⟩
      have s3 : Same H2 (upd H2 L (.lst (us ++ [.ref x]))) := same_new nL
      have s4 := s2.trans s3
      refine ⟨ad, L, _, nm, n, tb, t, t.2 ++ [r], rfl, ts.same s4, ht, fine.1, t1, t4, .inl upd_same, (ro.same s4).snocX (s4 _ _ hx), fun q mq => ?_, by rw [List.length_append]; show t.2.length + 1 < 100; omega, fun p d ss H3 s5 hp td pm sr => ?_⟩
      · rcases List.mem_append.mp mq with h | h
        · exact oks q h
        · rw [List.mem_singleton] at h
          rw [h]
          exact ok
      · rw [List.length_append] at hp
        exact k1 _ _ _ (.put (wd := t.1) (rs := t.2) ht m pm sr) p d H3 (s4.trans s5) hp td
end
end VQ
namespace VQ
open PySem PySem.Spec PyProof.Rows L2 LamX
/-! ### take_row -/
section
variable {P : Program} {w : World} {K : PySem.W.Frag} {mg : Str → Option Value} {base : Heap} {R : Ref} {Mi g : Addr} {mc : Value} {fdM : FuncData}
theorem has_takerow {fI : Addr} {fdI : FuncData} (b : Blt mg) (M : MissAt K mg Mi mc g fdM) (EN : ErrZ K mg "NoRow" "name" R.nr fI fdI "NoRow.__init__" sNoRow ["self", "name"])
    (hTo : Has P w K mg base (L2.CX P w) 4 "table_of" sTableOf ["tables", "name"] (spTableR R.nt)) (hNr : Has P w K mg base CX0 4 "need_row" sNeedRow ["row", "width"] spNeedRow) (hWr : Has P w K mg base CX0 1 "with_rows" sWithRows ["tables", "name", "rows"] (spWithRowsN K)) (a : AtE K mg "take_row" sTakeRow ["tables", "name", "row"]) :
    Has P w K mg base (L2.CX P w) 5 "take_row" sTakeRow ["tables", "name", "row"] (spTab R isTake) := by
  obtain ⟨f, fd, a⟩ := a
  obtain ⟨fTo, fdTo, aTo, GTo⟩ := hTo
  obtain ⟨fNr, fdNr, aNr, GNr⟩ := hNr
  obtain ⟨fWr, fdWr, aWr, GWr⟩ := hWr
  have GI : FnOk P w K mg base CX0 2 fI fdI ["self", "name"] (spMadeF R.nr (zsF "NoRow")) := ok_NoRow M EN
  refine ⟨f, fd, a, a.fn.okX scTakeRow (fun vs H Q E h => ?_) (fun cdv A outer s H vs Q E hr4 h => ?_)⟩
  · obtain ⟨ad, ws, n, tb, D, rfl, pk, _, _, _, th, _⟩ := h
    cases th <;> first | exact pk.elim | rfl
  · obtain ⟨ad, ws, n, tb, D, rfl, pk, ts, tok, fine, th, k1, k2⟩ := h
    cases th with
    | make => exact pk.elim
    | drop => exact pk.elim
    | put h => exact pk.elim
    | fill h ro => exact pk.elim
    | take hx =>
    rename_i nm r x
    have hu : (A.deeper (PyProof.Rows.envOfC "take_row" (defScope sTakeRow) s.heap.objs.size f cdv)).units + 65 < cLine := by
      have := hr4.un
      omega
    have hu64 : (A.deeper (PyProof.Rows.envOfC "take_row" (defScope sTakeRow) s.heap.objs.size f cdv)).units + 64 < cLine := by omega
    have hr1 := hr4.mono (show 1 ≤ 4 by decide)
    have hr3 := hr4.mono (show 3 ≤ 4 by decide)
    refine ⟨_,
    (pss_cons (ps_asg (pe_call GTo hr4 rfl aTo.gl aTo.fn.kp aTo.bd .nil (passes_call (takes_of rfl rfl rfl rfl) (fun _ _ _ _ h => h)) (pa_cons (pv 0) (pa_cons (pv 1) pa_nil))) (pg_tup rfl (pgs_cons (pg_name (i := 3) scTakeRow.nd rfl (.inl rfl)) (pgs_cons (pg_name (i := 4) scTakeRow.nd rfl (.inl rfl)) pgs_nil))))
    (pss_cons (ps_expr (pe_call GNr hr4 rfl aNr.gl aNr.fn.kp aNr.bd .nil pass0 (pa_cons (pv 2) (pa_cons (pv 3) pa_nil))))
    (pss_cons (ps_if (pt_cmpR (op_ninDT hu) (pv 2) (pv 4) rfl)
      (pss_one (ps_raise rfl (takes_of rfl rfl rfl rfl) (pmk_oexT PySem.F.excBase_LookupError EN.ox EN.it EN.ty GI hr3 EN.bd .nil pass0 rfl EN.gl (pa_cons (pv 1) pa_nil))))
      pss_nil)
    (pss_one (ps_ret (pe_call GWr hr1 rfl aWr.gl aWr.fn.kp aWr.bd .nil pass0 (pa_cons (pv 0) (pa_cons (pv 1) (pa_cons (pe_lc (own := [("other", 5)]) (g := (gName 5)) (tt := (tTest (tOp (rNeD K) (tVar 5) (tVar 2)))) (te := (tVar 5)) rfl scTakeRow.nd (pi_tup (pv 4)) (blkOk_by (N := nTakeRow) (sc := defScope sTakeRow) (by decide +kernel)) (fun _ _ _ _ _ => (pg_name (i := 5) scTakeRow.nd rfl (.inl rfl))) (fun _ _ _ _ _ => pts_one (pt_cmpR (op_neD hu64) (pv 5) (pv 2) (nomark _))) (fun _ _ _ _ _ => (pv 5))) pa_nil))))))))), ?_⟩
    refine ⟨_, rfl, _, rfl, ad, nm, n.length, tb, rfl, ts.at_, fine.1, fun t v ht tv => ?_, fun no => k2 _ _ (.take no)⟩
    have ok := fine.2 t ht
    obtain ⟨t1, t4, l40, nd, oks⟩ := tok nm t ht
    obtain ⟨ta, ra, us, rfl, hta, hra, ro⟩ := tv
    refine ⟨ta, _, rfl, SqT.of hta, rfl, _, _, rfl, _, _, rfl, rfl, ?_⟩
    refine ⟨_, rfl, _, rfl, x, r, t.1, rfl, hx, ok, t4, fun H2 s2 => ?_⟩
    refine ⟨_, rfl, _, rfl, rowD r, t.2.map rowD, numV_data (s2 _ _ hx), .tup (SqT.of (s2 _ _ hra)) (ro.same s2).dp, (lay_row _).shaped (by decide), (lay_rowsT _).shaped (by decide), _, rfl, ?_⟩
    rw [eqv_rows_any]
    by_cases m : r ∈ t.2
    · rw [decide_eq_true m]
      refine iteF ⟨_, rfl, _, rfl, _, rfl, ra, rfl, ⟨_, SqT.of (s2 _ _ hra)⟩, fun D nD => ?_⟩
      refine lc_tupS (xs := us) (fun i acc _ => Rows H2 acc ((t.2.take i).filter fun q => decide (q ≠ r))) nD (SqT.of (s2 _ _ hra)) (by rw [ro.len]; omega) (fun _ _ _ _ _ h => h) .nil ?_ ?_
      · intro i z acc H3 hz s3 hD hA c1 c2 y1 y2
        obtain ⟨az, q, rfl, hq, haz⟩ := (ro.same s2).get hz
        have et : ((t.2.take (i + 1)).filter fun q => decide (q ≠ r)) = ((t.2.take i).filter fun q => decide (q ≠ r)) ++ (if q = r then [] else [q]) := by
          rw [List.take_add_one, hq, List.filter_append]
          congr 1
          by_cases c : q = r
          · rw [if_pos c]
            exact List.filter_cons_of_neg (by simp [c])
          · rw [if_neg c]
            exact List.filter_cons_of_pos (p := fun q => decide (q ≠ r)) (by simp [c])
        refine ⟨rfl, ⟨_, rfl, _, rfl, rowD q, rowD r, numV_data (s3 _ _ haz), numV_data (s3 _ _ (s2 _ _ hx)), (lay_row _).shaped (by decide), (lay_row _).shaped (by decide), _, rfl, ?_⟩⟩
        rw [eqv_row]
        by_cases c : q = r
        · rw [decide_eq_true c]
          refine iteF (y2 _ (Same.refl _) ?_)
          rw [et, if_pos c, List.append_nil]
          exact hA
        · rw [decide_eq_false c]
          refine iteT ⟨_, rfl, y1 _ _ (Same.refl _) ?_⟩
          rw [et, if_neg c]
          exact hA.snocX haz
      · intro acc H3 s3 hD hA
        rw [ro.len, List.take_length] at hA
        have s4 := s2.trans s3
        refine ⟨ad, D, acc, nm, n, tb, t, _, rfl, ts.same s4, ht, fine.1, t1, t4, .inl hD, hA.same s3, fun q mq => oks q (List.mem_filter.mp mq).1, Nat.lt_of_le_of_lt (List.length_filter_le _ _) (by omega), fun p d ss H4 s5 hp td pm sr => ?_⟩
        exact k1 _ _ _ (.take (wd := t.1) (rs := t.2) ht m pm sr) p d H4 (s4.trans s5) hp td
    · rw [decide_eq_false m]
      exact iteT ⟨_, rfl, by show 1 ≤ 1000; decide, raise_y fun d hd => k2 _ _ (.norow (wd := t.1) (rs := t.2) ht m) d H2 s2 hd⟩
end
end VQ
namespace VQ
open PySem PySem.Spec PyProof.Rows L2 LamX
/-! ### make_table -/
def isMake : Deed → Prop
  | .make _ _ => True
  | _ => False
section
variable {P : Program} {w : World} {K : PySem.W.Frag} {mg : Str → Option Value} {base : Heap} {R : Ref}
theorem has_makeR {fI : Addr} {fdI : FuncData} {t1 t2 t3 : Tok} (b : Blt mg) (Wml : mg "MOST_LETTERS" = some (.int 8 t1)) (Wmw : mg "MOST_WIDTH" = some (.int 4 t2)) (Wta : mg "MOST_TABLES" = some (.int 8 t3)) (ET : ErrY K mg "Taken" "name" R.ta fI fdI "Taken.__init__" sTaken ["self", "name"])
    (hNm : Has P w K mg base CX0 1 "is_name" sIsName ["thing", "most"] spIsName) (hNu : Has P w K mg base CX0 1 "is_number" sIsNumber ["thing", "low", "behind"] (spIsNumber K)) (a : AtE K mg "make_table" sMakeTable ["tables", "name", "width"]) :
    Has P w K mg base (L2.CX P w) 5 "make_table" sMakeTable ["tables", "name", "width"] (spTab R isMake) := by
  obtain ⟨f, fd, a⟩ := a
  obtain ⟨fNm, fdNm, aNm, GNm⟩ := hNm
  obtain ⟨fNu, fdNu, aNu, GNu⟩ := hNu
  have GI : FnOk P w K mg base CX0 1 fI fdI ["self", "name"] (spMadeF R.ta (ysF "Taken" "name")) := ok_errY ET scTaken (.inl rfl) (.inl rfl) rfl
  refine ⟨f, fd, a, a.fn.okX scMakeTable (fun vs H Q E h => ?_) (fun cdv A outer s H vs Q E hr4 h => ?_)⟩
  · obtain ⟨ad, ws, n, tb, D, rfl, pk, _, _, _, th, _⟩ := h
    cases th <;> first | exact pk.elim | rfl
  · obtain ⟨ad, ws, n, tb, D, rfl, pk, ts, tok, fine, th, k1, k2⟩ := h
    cases th with
    | put h => exact pk.elim
    | drop => exact pk.elim
    | take h => exact pk.elim
    | fill h ro => exact pk.elim
    | make =>
    rename_i nm wd
    obtain ⟨few, ok, t1, t4⟩ := fine
    obtain ⟨kvs, hk, ek, ndz, all⟩ := ts
    have lk : kvs.length = n.length := by
      have := congrArg List.length ek
      rwa [List.length_map, List.length_map] at this
    have hu1 : (A.deeper (PyProof.Rows.envOfC "make_table" (defScope sMakeTable) s.heap.objs.size f cdv)).units + 1 < cLine := by
      have := hr4.units
      omega
    have hr1 := hr4.mono (show 1 ≤ 4 by decide)
    have hr2 := hr4.mono (show 2 ≤ 4 by decide)
    refine ⟨_,
    (pss_cons (ps_if (pt_not (pt_val (pe_call GNm hr1 rfl aNm.gl aNm.fn.kp aNm.bd .nil pass0 (pa_cons (pv 1) (pa_cons (pe_glob (v := .int 8) rfl Wml ⟨_, rfl⟩) pa_nil)))))
      (pss_one ps_never)
      pss_nil)
    (pss_cons (ps_if (pt_cmp (pc_din hu1 (pv 1) (pv 0)))
      (pss_one (ps_raise rfl (takes_of rfl rfl rfl rfl) (pmk_oex ET.ox ET.it ET.ty GI hr2 ET.bd .nil pass0 rfl ET.gl (pa_cons (pv 1) pa_nil))))
      pss_nil)
    (pss_cons (ps_if (pt_not (pt_val (pe_call GNu hr1 rfl aNu.gl aNu.fn.kp aNu.bd .nil pass0 (pa_cons (pv 2) (pa_cons pe_int (pa_cons (pe_op op_add (pe_glob (v := .int 4) rfl Wmw ⟨_, rfl⟩) pe_int) pa_nil))))))
      (pss_one ps_never)
      pss_nil)
    (pss_cons (ps_if (pt_cmpR op_ge (pe_callB call_lenD (by rfl) b.len PySem.boot_len (pa_cons (pv 0) pa_nil)) (pe_glob (v := .int 8) rfl Wta ⟨_, rfl⟩) (nomark _))
      (pss_one ps_never)
      pss_nil)
    (pss_one (ps_ret (pe_tup (pa_cons (pe_spread (pv 0) (pv 1) (pe_tup (pa_cons (pv 2) (pa_cons (pe_tup pa_nil) pa_nil)))) (pa_cons pe_non pa_nil))))))))), ?_⟩
    have h1 := all nm
    cases ev : valV kvs (Sum.inr nm) with
    | some v =>
      rw [ev] at h1
      cases e : tb nm with
      | none => rw [e] at h1; exact h1.elim
      | some t =>
        have dg : ∀ {H2 : Hp}, Same H H2 → DGet H2 ad (.str nm) (some v) := fun s2 => .inl ⟨kvs, Sum.inr nm, .inl (s2 _ _ hk), rfl, ev.symm⟩
        refine ⟨_, rfl, nm, 8, rfl, ok, by decide, fun H2 s2 => ⟨_, rfl, iteF ?_⟩⟩
        refine ⟨_, rfl, _, rfl, ad, _, rfl, dg s2, _, rfl, iteT ⟨_, rfl, by show 1 ≤ 1000; decide, raise_y fun d hd => k2 _ _ (.taken e) d H2 s2 hd⟩⟩
    | none =>
      rw [ev] at h1
      have h0 : tb nm = none := by
        cases e : tb nm with
        | none => rfl
        | some t => rw [e] at h1; exact h1.elim
      have dg : ∀ {H2 : Hp}, Same H H2 → DGet H2 ad (.str nm) none := fun s2 => .inl ⟨kvs, Sum.inr nm, .inl (s2 _ _ hk), rfl, ev.symm⟩
      refine ⟨_, rfl, nm, 8, rfl, ok, by decide, fun H2 s2 => ⟨_, rfl, iteF ?_⟩⟩
      refine ⟨_, rfl, _, rfl, ad, _, rfl, dg s2, _, rfl, iteF ?_⟩
      have en : numB 1 5 (.int (wd : Int)) = true := by
        show (decide (1 ≤ (wd : Int)) && decide ((wd : Int) < 5)) = true
        rw [decide_eq_true (show 1 ≤ (wd : Int) by omega), decide_eq_true (show (wd : Int) < 5 by omega)]
        rfl
      refine ⟨_, rfl, 4, 1, rfl, rfl, .int (wd : Int), "int", 1, 5, rfl, .base (.int _), by decide, ?_⟩
      rw [en]
      refine ⟨_, rfl, iteF ?_⟩
      refine ⟨_, rfl, ad, kvs, rfl, s2 _ _ hk, _, 8, rfl, rfl, _, rfl, ?_⟩
      rw [decide_eq_false (show ¬ (8 : Int) ≤ (kvs.length : Int) by omega)]
      refine iteF ?_
      intro pd npd
      have nad : ad ≠ pd := ne_of_none (s2 _ _ hk) npd
      refine ⟨_, rfl, ad, kvs, rfl, (upd_ne nad).trans (s2 _ _ hk), nad, upd_same, by rw [lk]; exact Nat.lt_trans few (by decide), fun q nq => ?_⟩
      have nqp : q ≠ pd := fun e => by rw [e, upd_same] at nq; cases nq
      have nqH : H2 q = none := by
        rw [upd_ne nqp, upd_ne nqp] at nq
        exact nq
      have s3 : Same H2 (upd (upd (upd H2 pd (.dK [])) pd (.dK kvs)) q (.dK [])) := fun x o h => by
        rw [upd_ne (ne_of_none h nqH), upd_ne (ne_of_none h npd), upd_ne (ne_of_none h npd)]
        exact h
      have p3 : (upd (upd (upd H2 pd (.dK [])) pd (.dK kvs)) q (.dK [])) pd = some (.dK kvs) := (upd_ne nqp.symm).trans upd_same
      have q3 : (upd (upd (upd H2 pd (.dK [])) pd (.dK kvs)) q (.dK [])) q = some (.dK []) := upd_same
      generalize (upd (upd (upd H2 pd (.dK [])) pd (.dK kvs)) q (.dK [])) = H3 at s3 p3 q3
      refine ⟨_, rfl, _, rfl, by show 0 ≤ sizeLine; decide, fun tl ntl => ⟨by show 2 ≤ sizeLine; decide, fun T nT => ?_⟩⟩
      have s4 : Same H3 (upd (upd H3 tl (.tup [])) T (.tup [.int (wd : Int), .ref tl])) := (same_new ntl).trans (same_new nT)
      have T4 : (upd (upd H3 tl (.tup [])) T (.tup [.int (wd : Int), .ref tl])) T = some (.tup [.int (wd : Int), .ref tl]) := upd_same
      have tl4 : (upd (upd H3 tl (.tup [])) T (.tup [.int (wd : Int), .ref tl])) tl = some (.tup []) := (upd_ne (fun e => by rw [← e, upd_same] at nT; cases nT)).trans upd_same
      generalize (upd (upd H3 tl (.tup [])) T (.tup [.int (wd : Int), .ref tl])) = H4 at s4 T4 tl4
      have p4 := s4 _ _ p3
      have q4 := s4 _ _ q3
      refine ⟨.ref T, Sum.inr nm, rfl, q4, p4, ?_⟩
      have s5 : Same H2 (upd (upd H4 q (.dK [(Sum.inr nm, .ref T)])) pd (.dK (putK kvs (Sum.inr nm) (.ref T)))) := fun x o h => by
        rw [upd_ne (ne_of_none h npd), upd_ne (ne_of_none h nqH)]
        exact s4 _ _ (s3 _ _ h)
      have p5 : (upd (upd H4 q (.dK [(Sum.inr nm, .ref T)])) pd (.dK (putK kvs (Sum.inr nm) (.ref T)))) pd = some (.dK (putK kvs (Sum.inr nm) (.ref T))) := upd_same
      have mv : ∀ (x : Addr) (xs : List V), H4 x = some (.tup xs) → (upd (upd H4 q (.dK [(Sum.inr nm, .ref T)])) pd (.dK (putK kvs (Sum.inr nm) (.ref T)))) x = some (.tup xs) := fun x xs h => by
        rw [upd_ne (fun e => by rw [e, p4] at h; cases h), upd_ne (fun e => by rw [e, q4] at h; cases h)]
        exact h
      have T5 := mv _ _ T4
      have tl5 := mv _ _ tl4
      generalize (upd (upd H4 q (.dK [(Sum.inr nm, .ref T)])) pd (.dK (putK kvs (Sum.inr nm) (.ref T)))) = H5 at s5 p5 T5 tl5
      refine ⟨by show 2 ≤ sizeLine; decide, fun R nR => ?_⟩
      have s6 : Same H5 (upd H5 R (.tup [.ref pd, .non])) := same_new nR
      have ts := tsN_new (f := tb) (nm := nm) (t := (wd, [])) p5 ek ndz (fun z => (all z).same (s2.trans s5)) ev ⟨T, tl, [], rfl, T5, tl5, .nil⟩
      exact k1 _ _ _ (.make h0) R pd _ (s2.trans (s5.trans s6)) upd_same (ts.same s6)
end
end VQ
namespace VQ
open PySem PySem.Spec PyProof.Rows L2 LamX
/-! ### drop_table -/
theorem val_get : ∀ {kvs : List (L2.Key × V)} {i : Nat} {k : L2.Key} {v : V}, (kvs.map (·.1)).Nodup → kvs[i]? = some (k, v) → valV kvs k = some v
  | [], i, k, v, _, h => by cases h
  | p :: kvs, 0, k, v, _, h => by
    have : p = (k, v) := Option.some.inj h
    rw [this]
    exact valV_pos rfl
  | p :: kvs, i + 1, k, v, nd, h => by
    rw [List.map_cons, List.nodup_cons] at nd
    have h' : kvs[i]? = some (k, v) := h
    have m : k ∈ kvs.map (·.1) := List.mem_map.mpr ⟨(k, v), List.mem_of_getElem? h', rfl⟩
    rw [valV_neg (fun e => nd.1 (e ▸ m))]
    exact val_get nd.2 h'
theorem val_drop (k j : L2.Key) : ∀ kvs : List (L2.Key × V), valV (kvs.filter fun kv => decide (kv.1 ≠ k)) j = if j = k then none else valV kvs j
  | [] => by split <;> rfl
  | p :: kvs => by
    by_cases c : p.1 = k
    · rw [List.filter_cons_of_neg (by simp [c]), val_drop k j kvs]
      by_cases d : j = k
      · rw [if_pos d, if_pos d]
      · rw [if_neg d, if_neg d, valV_neg (fun e => d (e.symm.trans c))]
    · rw [List.filter_cons_of_pos (p := fun kv : L2.Key × V => decide (kv.1 ≠ k)) (by simp [c])]
      by_cases e : p.1 = j
      · rw [valV_pos e, if_neg (fun d => c (e.trans d)), valV_pos e]
      · rw [valV_neg e, valV_neg e]
        exact val_drop k j kvs
section
variable {J : It} {n : Nat} {G : Hp → Prop} {Y : Nat → Hp → V → Hp → Prop}
/-- a dict comprehension over a walk -/
theorem dc_it (w : L2.Walk J n G Y) {g : TG} {tt : TT} {tk tv : TE} {vs : List Nat} {σ : L2.St} {H1 : Hp} {D : Addr} {Qd : Hp → Prop} (A : Nat → Hp → Prop) (h0 : A 0 (upd H1 D (.dK []))) (hG : ∀ i H, i ≤ n → A i H → G H)
    (turn : ∀ i x H H', i < n → A i H → Y i H x H' → g x (wipe σ vs) H' fun σ2 H2 => wipe σ2 vs = wipe σ vs ∧ tt σ2 H2 fun b H3 =>
      if b = true then tk σ2 H3 fun y H4 => tv σ2 H4 fun z H5 => ∃ kvs k, y = kV k ∧ H5 D = some (.dK kvs) ∧ kvs.length < sizeLine ∧ A (i + 1) (upd H5 D (.dK (putK kvs k z))) else A (i + 1) H3) (fin : ∀ H, A n H → Qd H) :
    ∃ W : Nat → Nat → Hp → Prop, (∃ m, W 0 m (upd H1 D (.dK []))) ∧ ∀ i m H, W i m H →
      (J.stop i H ∧ Qd H) ∨ (J.go i H ∧ ∃ Nx : Hp → Prop, (∀ H', Nx H' → ∃ m', m' < m ∧ W (i + 1) m' H') ∧ ∀ x H', J.yld i H x H' → g x (wipe σ vs) H' fun σ2 H2 => wipe σ2 vs = wipe σ vs ∧ tt σ2 H2 fun b H3 =>
        if b = true then tk σ2 H3 fun y H4 => tv σ2 H4 fun z H5 => ∃ kvs k, y = kV k ∧ H5 D = some (.dK kvs) ∧ kvs.length < sizeLine ∧ Nx (upd H5 D (.dK (putK kvs k z))) else Nx H3) := by
  refine ⟨fun i m H => m + i = n ∧ A i H, ⟨n, rfl, h0⟩, ?_⟩
  rintro i m H ⟨em, p⟩
  have q := hG i H (by omega) p
  by_cases lt : i < n
  · exact .inr ⟨w.goes i H lt q, A (i + 1), fun H' p' => ⟨m - 1, by omega, by omega, p'⟩, fun x H' y => turn i x H H' lt p (w.yields i H x H' lt q y)⟩
  · have e : i = n := by omega
    subst e
    exact .inl ⟨w.stops H q, fin H p⟩
end
abbrev sDropTable : Stmt := top 35
abbrev nDropTable : List Str := ["tables", "name", "other"]
theorem scDropTable : FnScope nDropTable ["tables", "name"] (defScope sDropTable) := ⟨rfl, rfl, rfl, by decide +kernel, rfl, by decide +kernel, by decide +kernel⟩
def isDrop : Deed → Prop
  | .drop _ => True
  | _ => False
section
variable {P : Program} {w : World} {K : PySem.W.Frag} {mg : Str → Option Value} {base : Heap} {R : Ref}
theorem has_droptable (b : Blt mg) (hTo : Has P w K mg base (L2.CX P w) 4 "table_of" sTableOf ["tables", "name"] (spTableR R.nt)) (a : AtE K mg "drop_table" sDropTable ["tables", "name"]) :
    Has P w K mg base (L2.CX P w) 5 "drop_table" sDropTable ["tables", "name"] (spTab R isDrop) := by
  obtain ⟨f, fd, a⟩ := a
  obtain ⟨fTo, fdTo, aTo, GTo⟩ := hTo
  refine ⟨f, fd, a, a.fn.okX scDropTable (fun vs H Q E h => ?_) (fun cdv A outer s H vs Q E hr4 h => ?_)⟩
  · obtain ⟨ad, ws, n, tb, D, rfl, pk, _, _, _, th, _⟩ := h
    cases th <;> first | exact pk.elim | rfl
  · obtain ⟨ad, ws, zs, tb, D, rfl, pk, ts, tok, fine, th, k1, k2⟩ := h
    cases th with
    | put h => exact pk.elim
    | make => exact pk.elim
    | take h => exact pk.elim
    | fill h ro => exact pk.elim
    | drop =>
    rename_i nm
    have hu1 : (A.deeper (PyProof.Rows.envOfC "drop_table" (defScope sDropTable) s.heap.objs.size f cdv)).units + 1 < cLine := by
      have := hr4.units
      omega
    refine ⟨_,
    (pss_cons (ps_expr (pe_call GTo hr4 rfl aTo.gl aTo.fn.kp aTo.bd .nil (passes_call (takes_of rfl rfl rfl rfl) (fun _ _ _ _ h => h)) (pa_cons (pv 0) (pa_cons (pv 1) pa_nil))))
    (pss_one (ps_ret (pe_tup (pa_cons (pe_lock (pe_dc (own := [("other", 2)]) (g := (gName 2)) (tt := (tTest (tOp rNe (tVar 2) (tVar 1)))) (tk := (tVar 2)) (tv := (tDGet (tVar 0) (tVar 2))) rfl scDropTable.nd (pi_keys (pv 0)) (blkOk_by (N := nDropTable) (sc := defScope sDropTable) (by decide +kernel)) (fun _ _ _ _ _ => (pg_name (i := 2) scDropTable.nd rfl (.inl rfl))) (fun _ _ _ _ _ => pts_one (pt_cmpR op_ne (pv 2) (pv 1) (nomark _))) (fun _ _ _ _ _ => (pv 2)) (fun _ _ _ _ _ => (pe_dget hu1 (pv 0) (pv 2) fun _ _ => rfl)))) (pa_cons pe_non pa_nil)))))), ?_⟩
    refine ⟨_, rfl, _, rfl, ad, nm, zs.length, tb, rfl, ts.at_, fine, fun t v ht tv => ?_, fun no => k2 _ _ (.drop no)⟩
    obtain ⟨kvs, hk, ek, ndz, all⟩ := ts
    have lk : kvs.length = zs.length := by
      have := congrArg List.length ek
      rwa [List.length_map, List.length_map] at this
    have ndk : (kvs.map (·.1)).Nodup := by
      rw [ek]
      exact List.Pairwise.map _ (fun x y n e => n (Sum.inr.inj e)) ndz
    refine ⟨ad, _, hk, trivial, fun od => ?_⟩
    refine ⟨_, rfl, ad, od, rfl, .inl ⟨_, upd_same, fun D hD => ?_⟩⟩
    have hf := upd_same (H := H) (a := ad) (o := .frz od (.dK kvs))
    have old : ∀ p o, p ≠ ad → H p = some o → upd H ad (.frz od (.dK kvs)) p = some o := fun p o n e => (upd_ne n).trans e
    generalize upd H ad (.frz od (.dK kvs)) = Hf at hD hf old ⊢
    have nD : D ≠ ad := fun e => by rw [e, hf] at hD; cases hD
    have nHD : H D = none := by
      cases e : H D with
      | none => rfl
      | some o => rw [old D o nD e] at hD; cases hD
    refine dc_it L2.walk_keys (fun i H' => Same Hf H' ∧ H' D = some (.dK ((kvs.take i).filter fun kv => decide (kv.1 ≠ Sum.inr nm)))) ⟨same_new hD, upd_same⟩ (fun i H' _ z => z.1 _ _ hf) ?_ ?_
    · rintro i x Ha Hb hi ⟨sa, ha⟩ ⟨rfl, k, v, e, rfl⟩
      have ez : (zs.map (Sum.inr : Str → L2.Key))[i]? = some k := by rw [← ek, List.getElem?_map, e]; rfl
      rw [List.getElem?_map] at ez
      obtain ⟨z, _, rfl⟩ := Option.map_eq_some_iff.mp ez
      have et : (kvs.take (i + 1)).filter (fun kv => decide (kv.1 ≠ Sum.inr nm)) = (kvs.take i).filter (fun kv => decide (kv.1 ≠ Sum.inr nm)) ++ (if z = nm then [] else [(Sum.inr z, v)]) := by
        rw [List.take_add_one, e, List.filter_append]
        congr 1
        by_cases c : z = nm
        · rw [if_pos c]
          exact List.filter_cons_of_neg (by simp [c])
        · rw [if_neg c]
          exact List.filter_cons_of_pos (p := fun kv : L2.Key × V => decide (kv.1 ≠ Sum.inr nm)) (by simp [c])
      refine ⟨rfl, ⟨_, rfl, _, rfl, rfl, _, rfl, ?_⟩⟩
      by_cases c : z = nm
      · rw [show decide (kV (Sum.inr z) = V.str nm) = true from decide_eq_true (congrArg V.str c)]
        refine iteF ⟨sa, ?_⟩
        rw [et, if_pos c, List.append_nil]
        exact ha
      · rw [show decide (kV (Sum.inr z) = V.str nm) = false from decide_eq_false fun q => c (V.str.inj q)]
        refine iteT ⟨_, rfl, _, rfl, _, rfl, ad, v, rfl, .inl ⟨kvs, Sum.inr z, .inr ⟨od, sa _ _ hf⟩, rfl, (val_get ndk e).symm⟩, _, Sum.inr z, rfl, ha, ?_, same_put sa hD, ?_⟩
        · refine lt_line (Nat.lt_of_le_of_lt (Nat.le_trans (List.length_filter_le _ _) (List.length_take_le ..)) ?_)
          have : zs.length < 100 := fine
          omega
        · rw [upd_same, et, if_neg c]
          refine congrArg (fun l => some (HO.dK l)) (putK_new v ?_)
          rw [val_drop]
          split
          · rfl
          cases hv : valV (kvs.take i) (Sum.inr z) with
          | none => rfl
          | some v' =>
            have m1 := valV_in hv
            have m2 : (Sum.inr z : L2.Key) ∈ (kvs.drop i).map (·.1) := List.mem_map.mpr ⟨(Sum.inr z, v), List.mem_of_getElem? (i := 0) (by rw [List.getElem?_drop]; exact e), rfl⟩
            have nd2 := ndk
            rw [← List.take_append_drop i kvs, List.map_append, List.nodup_append] at nd2
            exact absurd rfl (nd2.2.2 _ m1 _ m2)
    · rintro Ha ⟨sa, ha⟩
      rw [List.take_length] at ha
      refine ⟨sa _ _ hf, by show 2 ≤ sizeLine; decide, fun p np => ?_⟩
      have sH : Same H (upd Ha ad (.dK kvs)) := fun q o e => by
        by_cases c : q = ad
        · rw [c, upd_same, ← hk, ← c, e]
        · rw [upd_ne c]
          exact sa _ _ (old q o c e)
      have sP := same_new (o := HO.tup [.ref D, .non]) np
      have hD2 : (upd (upd Ha ad (.dK kvs)) p (.tup [.ref D, .non])) D = some (.dK (kvs.filter fun kv => decide (kv.1 ≠ Sum.inr nm))) := sP _ _ ((upd_ne nD).trans ha)
      refine k1 _ _ _ (.drop ht) p D _ (sH.trans sP) upd_same ⟨_, hD2, ?_, List.Pairwise.filter _ ndz, fun z => ?_⟩
      · have g : ∀ (as : List (L2.Key × V)) (bs : List Str), as.map (·.1) = bs.map Sum.inr → (as.filter fun kv => decide (kv.1 ≠ Sum.inr nm)).map (·.1) = (bs.filter fun z => decide (z ≠ nm)).map Sum.inr := by
          intro as
          induction as with
          | nil => intro bs h; cases bs with
            | nil => rfl
            | cons _ _ => cases h
          | cons a as ih => intro bs h; cases bs with
            | nil => cases h
            | cons b bs =>
              rw [List.map_cons, List.map_cons] at h
              obtain ⟨h1, h2⟩ := List.cons.inj h
              by_cases c : b = nm
              · rw [List.filter_cons_of_neg (by simp [h1, c]), List.filter_cons_of_neg (by simp [c])]
                exact ih bs h2
              · rw [List.filter_cons_of_pos (p := fun kv : L2.Key × V => decide (kv.1 ≠ Sum.inr nm)) (by simp [h1, c]), List.filter_cons_of_pos (p := fun z => decide (z ≠ nm)) (by simp [c]), List.map_cons, List.map_cons, ih bs h2, h1]
        exact g kvs zs ek
      · rw [val_drop]
        unfold fdel
        by_cases c : z = nm
        · rw [if_pos (congrArg Sum.inr c), if_pos c]
          trivial
        · rw [if_neg (fun q => c (Sum.inr.inj q)), if_neg c]
          exact (all z).same (sH.trans sP)
end
end VQ
namespace VQ
open PySem PySem.Spec PyProof.Rows L2 LamX
/-! ### rows that are filled in, a list or a tuple; fill_table -/
section
variable {P : Program} {w : World} {K : PySem.W.Frag} {mg : Str → Option Value} {base : Heap} {R : Ref}
def spAreRowsE : Sp := fun vs H Q _ => ∃ (l : Addr) (us : List V) (rs : List (List Nat)) (wd : Nat), vs = [.ref l, .int (wd : Int)] ∧ (H l = some (.lst us) ∨ H l = some (.tup us)) ∧ Rows H us rs ∧ (∀ r ∈ rs, RowOk wd r) ∧ wd ≤ 4 ∧ rs.Nodup ∧ rs.length < 60 ∧ ∀ H', Same H H' → Q (.bl true) H'
theorem has_arerowsE (b : Blt mg) (st : mg "set" = none) (hIr : Has P w K mg base CX0 3 "is_row" sIsRow ["thing", "width"] spIsRow) (a : AtE K mg "are_rows" sAreRows ["thing", "width"]) : Has P w K mg base CX0 4 "are_rows" sAreRows ["thing", "width"] spAreRowsE := by
  obtain ⟨f, fd, a⟩ := a
  obtain ⟨fIr, fdIr, aIr, GIr⟩ := hIr
  refine ⟨f, fd, a, a.fn.ok scAreRows (fun vs H Q E h => ?_) (fun cdv A outer s H vs Q E hr3 h => ?_)⟩
  · obtain ⟨l, us, rs, wd, rfl, _⟩ := h
    rfl
  · obtain ⟨l, us, rs, wd, rfl, hl, ro, ok, w4, nd, few, k⟩ := h
    rcases hl with hl | hl
    · have hu : (A.deeper (PyProof.Rows.envOfC "are_rows" (defScope sAreRows) s.heap.objs.size f cdv)).units + 64 < cLine := hr3.units
      refine ⟨_,
      (pss_cons (ps_if (PW.pt (pw_or (pt_not (pt_val (pe_isiLT (pv 0) rfl b.isi rfl b.list rfl b.tuple))) (pw_or1 (pt_not (pt_val (pe_callB (cr_all rfl) (by rfl) b.all (by decide +kernel) (pa_cons (pe_lc (own := [("part", 2)]) (g := (gName 2)) (tt := tYes) (te := (tCall spIsRow [] E0 (tCons (tVar 2) (tCons (tVar 1) tNil)))) rfl scAreRows.nd (pi_list (pv 0)) (blkOk_by (N := nAreRows) (sc := defScope sAreRows) (by decide +kernel)) (fun _ _ _ _ _ => (pg_name (i := 2) scAreRows.nd rfl (.inl rfl))) (fun _ _ _ _ _ => pts_nil) (fun _ _ _ _ _ => (pe_call GIr hr3 rfl aIr.gl aIr.fn.kp aIr.bd .nil pass0 (pa_cons (pv 2) (pa_cons (pv 1) pa_nil))))) pa_nil)))))))
        (pss_one (ps_ret pe_bl))
        pss_nil)
      (pss_one (ps_ret (pe_cmpR op_eq (pe_lenSetT rfl hu (pv 0) (by rfl) b.len (by rfl) st) (pe_callB call_len_seq (by rfl) b.len PySem.boot_len (pa_cons (pv 0) pa_nil)) (nomark _))))), ?_⟩
      have len := ro.len
      refine ⟨_, rfl, by show 2 ≤ sizeLine; decide, fun T nT => ?_⟩
      have sT := same_new (o := HO.tup [.ty "list", .ty "tuple"]) nT
      refine ⟨.ref l, T, _, .type "list", _, true, rfl, upd_same, .cons (.ty "list") (.cons (.ty "tuple") .nil), .base (.lst (sT _ _ hl)), by rfl, _, rfl, iteF ?_⟩
      have ro1 := ro.same sT
      refine ⟨_, rfl, l, rfl, ⟨_, SqL.of (sT _ _ hl)⟩, fun D hD => ?_⟩
      refine lc_listV (xs := us) (fun _ => .bl true) hD (SqL.of (sT _ _ hl)) (by rw [len]; omega) ?_ ?_
      · intro i x H2 hx s2 c1 c2 kk
        obtain ⟨ad, r, rfl, hr, ha⟩ := ro1.get hx
        exact ⟨rfl, yes_turn ⟨_, rfl, _, rfl, ad, r, wd, rfl, s2 _ _ ha, ok r (List.mem_of_getElem? hr), w4, fun H3 s3 => kk _ s3⟩⟩
      · intro H2 s2 hd
        refine ⟨D, us.map (fun _ => true), rfl, SqL.of (by rw [hd, List.map_map]; rfl), ?_⟩
        have e : (us.map (fun _ => true)).all id = true := by
          rw [List.all_map]
          exact List.all_eq_true.mpr fun _ _ => rfl
        rw [e]
        refine ⟨true, rfl, iteF ?_⟩
        have s3 := sT.trans s2
        obtain ⟨ks, e1, e2, e3⟩ := rows_ks (K := K) (ro.same s3)
        have el : ks.length = rs.length := by rw [← len, e1, List.length_map]
        refine ⟨_, rfl, l, ks, rfl, SqL.of (by rw [← e1]; exact s3 _ _ hl), e3, by omega, fun n n1 n2 => ?_⟩
        have en := n1 (by rw [e2]; exact nodup_casts nd)
        refine ⟨_, rfl, l, us, rfl, .inl (SqL.of (s3 _ _ hl)), ?_⟩
        refine ⟨rfl, ?_⟩
        rw [show (V.int (n : Int)) = V.int (us.length : Int) by rw [en, el, len], decide_eq_true rfl]
        exact k _ s3
    · have hu : (A.deeper (PyProof.Rows.envOfC "are_rows" (defScope sAreRows) s.heap.objs.size f cdv)).units + 64 < cLine := hr3.units
      refine ⟨_,
      (pss_cons (ps_if (PW.pt (pw_or (pt_not (pt_val (pe_isiLT (pv 0) rfl b.isi rfl b.list rfl b.tuple))) (pw_or1 (pt_not (pt_val (pe_callB (cr_all rfl) (by rfl) b.all (by decide +kernel) (pa_cons (pe_lc (own := [("part", 2)]) (g := (gName 2)) (tt := tYes) (te := (tCall spIsRow [] E0 (tCons (tVar 2) (tCons (tVar 1) tNil)))) rfl scAreRows.nd (pi_tup (pv 0)) (blkOk_by (N := nAreRows) (sc := defScope sAreRows) (by decide +kernel)) (fun _ _ _ _ _ => (pg_name (i := 2) scAreRows.nd rfl (.inl rfl))) (fun _ _ _ _ _ => pts_nil) (fun _ _ _ _ _ => (pe_call GIr hr3 rfl aIr.gl aIr.fn.kp aIr.bd .nil pass0 (pa_cons (pv 2) (pa_cons (pv 1) pa_nil))))) pa_nil)))))))
        (pss_one (ps_ret pe_bl))
        pss_nil)
      (pss_one (ps_ret (pe_cmpR op_eq (pe_lenSetTT rfl hu (pv 0) (by rfl) b.len (by rfl) st) (pe_callB call_len_seq (by rfl) b.len PySem.boot_len (pa_cons (pv 0) pa_nil)) (nomark _))))), ?_⟩
      have len := ro.len
      refine ⟨_, rfl, by show 2 ≤ sizeLine; decide, fun T nT => ?_⟩
      have sT := same_new (o := HO.tup [.ty "list", .ty "tuple"]) nT
      refine ⟨.ref l, T, _, .type "tuple", _, true, rfl, upd_same, .cons (.ty "list") (.cons (.ty "tuple") .nil), .base (.tup (sT _ _ hl)), by rfl, _, rfl, iteF ?_⟩
      have ro1 := ro.same sT
      refine ⟨_, rfl, l, rfl, ⟨_, SqT.of (sT _ _ hl)⟩, fun D hD => ?_⟩
      refine lc_tupV (xs := us) (fun _ => .bl true) hD (SqT.of (sT _ _ hl)) (by rw [len]; omega) ?_ ?_
      · intro i x H2 hx s2 c1 c2 kk
        obtain ⟨ad, r, rfl, hr, ha⟩ := ro1.get hx
        exact ⟨rfl, yes_turn ⟨_, rfl, _, rfl, ad, r, wd, rfl, s2 _ _ ha, ok r (List.mem_of_getElem? hr), w4, fun H3 s3 => kk _ s3⟩⟩
      · intro H2 s2 hd
        refine ⟨D, us.map (fun _ => true), rfl, SqL.of (by rw [hd, List.map_map]; rfl), ?_⟩
        have e : (us.map (fun _ => true)).all id = true := by
          rw [List.all_map]
          exact List.all_eq_true.mpr fun _ _ => rfl
        rw [e]
        refine ⟨true, rfl, iteF ?_⟩
        have s3 := sT.trans s2
        obtain ⟨ks, e1, e2, e3⟩ := rows_ks (K := K) (ro.same s3)
        have el : ks.length = rs.length := by rw [← len, e1, List.length_map]
        refine ⟨_, rfl, l, ks, rfl, SqT.of (by rw [← e1]; exact s3 _ _ hl), e3, by omega, fun n n1 n2 => ?_⟩
        have en := n1 (by rw [e2]; exact nodup_casts nd)
        refine ⟨_, rfl, l, us, rfl, .inr (SqT.of (s3 _ _ hl)), ?_⟩
        refine ⟨rfl, ?_⟩
        rw [show (V.int (n : Int)) = V.int (us.length : Int) by rw [en, el, len], decide_eq_true rfl]
        exact k _ s3
def isFill : Deed → Prop
  | .fill _ _ => True
  | _ => False
theorem has_fillR {t1 : Tok} (b : Blt mg) (Wro : mg "MOST_ROWS" = some (.int 40 t1)) (hTo : Has P w K mg base (L2.CX P w) 4 "table_of" sTableOf ["tables", "name"] (spTableR R.nt)) (hAr : Has P w K mg base CX0 4 "are_rows" sAreRows ["thing", "width"] spAreRowsE) (hWr : Has P w K mg base CX0 1 "with_rows" sWithRows ["tables", "name", "rows"] (spWithRowsN K)) (a : AtE K mg "fill_table" sFillTable ["tables", "name", "rows"]) :
    Has P w K mg base (L2.CX P w) 5 "fill_table" sFillTable ["tables", "name", "rows"] (spTab R isFill) := by
  obtain ⟨f, fd, a⟩ := a
  obtain ⟨fTo, fdTo, aTo, GTo⟩ := hTo
  obtain ⟨fAr, fdAr, aAr, GAr⟩ := hAr
  obtain ⟨fWr, fdWr, aWr, GWr⟩ := hWr
  refine ⟨f, fd, a, a.fn.okX scFillTable (fun vs H Q E h => ?_) (fun cdv A outer s H vs Q E hr4 h => ?_)⟩
  · obtain ⟨ad, ws, n, tb, D, rfl, pk, _, _, _, th, _⟩ := h
    cases th <;> first | exact pk.elim | rfl
  · obtain ⟨ad, ws, zs, tb, D, rfl, pk, ts, tok, fine, th, k1, k2⟩ := h
    cases th with
    | put h => exact pk.elim
    | make => exact pk.elim
    | take h => exact pk.elim
    | drop => exact pk.elim
    | fill hl ro =>
    rename_i nm rows l us
    obtain ⟨few, l40, nd, oks⟩ := fine
    have hr1 := hr4.mono (show 1 ≤ 4 by decide)
    refine ⟨_,
    (pss_cons (ps_set (i := 3) scFillTable.nd rfl (.inl rfl) (pe_ix ix_tup (pe_call GTo hr4 rfl aTo.gl aTo.fn.kp aTo.bd .nil (passes_call (takes_of rfl rfl rfl rfl) (fun _ _ _ _ h => h)) (pa_cons (pv 0) (pa_cons (pv 1) pa_nil))) pe_int fun _ _ => rfl))
    (pss_cons (ps_if (pt_not (pt_val (pe_call GAr hr4 rfl aAr.gl aAr.fn.kp aAr.bd .nil pass0 (pa_cons (pv 2) (pa_cons (pv 3) pa_nil)))))
      (pss_one ps_never)
      pss_nil)
    (pss_cons (ps_if (pt_cmpR op_gt (pe_callB call_len_seq (by rfl) b.len PySem.boot_len (pa_cons (pv 2) pa_nil)) (pe_glob (v := .int 40) rfl Wro ⟨_, rfl⟩) (nomark _))
      (pss_one ps_never)
      pss_nil)
    (pss_one (ps_ret (pe_call GWr hr1 rfl aWr.gl aWr.fn.kp aWr.bd .nil pass0 (pa_cons (pv 0) (pa_cons (pv 1) (pa_cons (pv 2) pa_nil))))))))), ?_⟩
    refine ⟨_, rfl, _, rfl, ad, nm, zs.length, tb, rfl, ts.at_, few, fun t v ht tv => ?_, fun no => k2 _ _ (.fill no)⟩
    obtain ⟨t1, t4, _, _, _⟩ := tok nm t ht
    obtain ⟨ta, ra, us0, rfl, hta, _, _⟩ := tv
    refine ⟨ta, _, 0, _, rfl, rfl, SqT.of hta, rfl, ?_⟩
    refine ⟨_, rfl, _, rfl, l, us, rows, t.1, rfl, hl, ro, oks t ht, t4, nd, by omega, fun H2 s2 => ⟨_, rfl, iteF ?_⟩⟩
    refine ⟨_, rfl, l, us, rfl, hl.imp (fun h => SqL.of (s2 _ _ h)) (fun h => SqT.of (s2 _ _ h)), _, 40, rfl, rfl, _, rfl, ?_⟩
    rw [ro.len, decide_eq_false (show ¬ (40 : Int) < (rows.length : Int) by omega)]
    refine iteF ⟨_, rfl, _, rfl, _, rfl, ad, l, us, nm, zs, tb, t, rows, rfl, ts.same s2, ht, few, t1, t4, hl.imp (s2 _ _) (s2 _ _), ro.same s2, oks t ht, by omega, fun p d ss H3 s3 hp td pm sr => ?_⟩
    exact k1 _ _ _ (.fill (wd := t.1) (rs := t.2) ht pm sr) p d H3 (s2.trans s3) hp td
end
end VQ
namespace VQ
open PySem L2 LamX
/-! ### deeds of a book, what is handed in being good -/
abbrev sNeedDeed : Stmt := top 41
abbrev nNeedDeed : List Str := ["thing"]
theorem scNeedDeed : FnScope nNeedDeed ["thing"] (defScope sNeedDeed) := ⟨rfl, rfl, rfl, by decide +kernel, rfl, by decide +kernel, by decide +kernel⟩
abbrev sDone : Stmt := top 42
abbrev nDone : List Str := ["tables", "deed", "word", "things", "action"]
theorem scDone : FnScope nDone ["tables", "deed"] (defScope sDone) := ⟨rfl, rfl, rfl, by decide +kernel, rfl, by decide +kernel, by decide +kernel⟩
/-- x(e, *xs), x a local name that holds one of several defs that raise nothing here -/
structure HeldC (P : Program) (w : World) (K : PySem.W.Frag) (mg : Str → Option Value) (base : Heap) (CX : CXT) (k : Nat) (f : Addr) (sp : Sp) : Prop where
  ex : ∃ (fd : FuncData) (ps : List Str), FnOk P w K mg base CX k f fd ps sp ∧ PySem.W.keepIn K (.ref f) = true ∧ Binds K fd ps []
def tCallC (P : Program) (w : World) (K : PySem.W.Frag) (mg : Str → Option Value) (base : Heap) (CX : CXT) (k i : Nat) (E : XK) (t : TA) : TE := fun σ H Q => ∃ (f : Addr) (sp : Sp), σ[i]? = some (some (.ref f)) ∧ HeldC P w K mg base CX k f sp ∧ t σ H fun vs H1 => sp vs H1 Q E
open PyProof.Rows in
theorem pe_callC {X : Cx} {CX : CXT} {k i : Nat} {x : Str} {p pos : Pos} {e : Expr} {es : List Expr} {t : TA} {E : XK} (room : Room k X.A) (hN : X.N[i]? = some x) (hv : Vis X.env.scope x) (out : Passes CX X E) (ha : PA X (e :: es) t)
    (hdb : (x == ("__debug__" : Str)) = false := by decide) (hcd : (x == ("__classdict__" : Str)) = false := by decide)
    (he : starEach (e :: es) X.env = (false, eval e X.env) :: starEach es X.env := by rfl) (hst : (backTo pos (starEach es X.env)).any (·.1) = true := by rfl) : PE X (.Call (.Name x p) (e :: es) [] pos) (tCallC X.prog X.w X.K X.mg X.base CX k i E t) := by
  refine ⟨fun pins s σ H Q inv want => ?_⟩
  obtain ⟨f, sp, hs, ⟨fd, ps, F, hk, hb⟩, ht⟩ := want
  refine wpAny_Call_Name_kw (thn ((pe_var (pos := p) hN hv hdb hcd).run pins s σ H (fun v H1 => v = .ref f ∧ H1 = H) inv ⟨.ref f, hs, rfl, rfl⟩) fun u s1 ⟨v, H1, inv1, r1, q1⟩ => ?_)
  obtain ⟨rfl, rfl⟩ := q1
  cases r1
  refine PySem.W.callWith_S2 (h₀ := X.base) inv.ok.mod.kin hk (thn (ha.run pos pins s1 σ _ _ inv1 ht) fun us s2 ⟨vs, H2, inv2, r, q⟩ => ⟨inv2.kIn, ?_⟩) he hst
  refine run_fn F room hb .nil out inv2 r ?_
  show sp (vs ++ []) H2 Q E
  rw [List.append_nil]
  exact q
theorem make_mono {vs : List V} {H H' : Hp} {Q : VK} {E : XK} (s : Same H H') (h : spMakeT vs H Q E) : spMakeT vs H' Q E := by
  obtain ⟨a, nm, wd, n, f, e, ts, h1, h2, h3, h4, h5, k⟩ := h
  exact ⟨a, nm, wd, n, f, e, ts.same s, h1, h2, h3, h4, h5, fun p d H2 s2 => k p d H2 (s.trans s2)⟩
theorem fill_mono {K : PySem.W.Frag} {vs : List V} {H H' : Hp} {Q : VK} {E : XK} (s : Same H H') (h : spFillT K vs H Q E) : spFillT K vs H' Q E := by
  obtain ⟨a, l, us, nm, n, f, t, rs, e, ts, h1, h2, h3, h4, hl, ro, h5, h6, h7, k⟩ := h
  exact ⟨a, l, us, nm, n, f, t, rs, e, ts.same s, h1, h2, h3, h4, s _ _ hl, ro.same s, h5, h6, h7, fun p d ss H2 s2 => k p d ss H2 (s.trans s2)⟩
section
variable {P : Program} {w : World} {K : PySem.W.Frag} {mg : Str → Option Value} {base : Heap} {aCo aAc : Addr}
def CountTab (K : PySem.W.Frag) (w : World) (d : Addr) : Prop := TabK K w d [("make", .int 3), ("drop", .int 2), ("put", .int 3), ("take", .int 3), ("fill", .int 3)]
def ActTab (K : PySem.W.Frag) (w : World) (d fM fD fP fT fF : Addr) : Prop := TabK K w d [("make", .ref fM), ("drop", .ref fD), ("put", .ref fP), ("take", .ref fT), ("fill", .ref fF)]
def spNeedDeed : Sp := fun vs H Q _ => ∃ (d : Addr) (z : Str) (x y : V), vs = [.ref d] ∧ H d = some (.tup [.str z, x, y]) ∧ (z = "make" ∨ z = "put" ∨ z = "take" ∨ z = "fill") ∧ Q .non H
theorem has_needdeed (b : Blt mg) (gCo : mg "COUNTS" = some (.ref aCo)) (tCo : CountTab K w aCo) (a : AtE K mg "need_deed" sNeedDeed ["thing"]) : Has P w K mg base CX0 1 "need_deed" sNeedDeed ["thing"] spNeedDeed := by
  obtain ⟨f, fd, a⟩ := a
  refine ⟨f, fd, a, a.fn.ok scNeedDeed (fun vs H Q E h => ?_) (fun cdv A outer s H vs Q E hr0 h => ?_)⟩
  · obtain ⟨d, z, x, y, rfl, _⟩ := h
    rfl
  · obtain ⟨d, z, x, y, rfl, hd, hz, k⟩ := h
    refine ⟨_,
    (pss_cons (ps_if (PW.pt (pw_or (pt_not (pt_val (pe_isi (pv 0) rfl b.isi rfl b.tuple (c := "tuple") (by decide +kernel)))) (pw_or (pt_cmpR op_eq (pe_callB call_len_seq (by rfl) b.len PySem.boot_len (pa_cons (pv 0) pa_nil)) pe_int (nomark _)) (pw_or1 (pt_not (pt_val (pe_callB call_isi (by rfl) b.isi (by decide +kernel) (pa_cons (pe_ix ix_tup (pv 0) pe_int fun _ _ => rfl) (pa_cons (pe_bltn (v := .ty "str") rfl b.str (by decide +kernel) rfl) pa_nil)))))))))
      (pss_one ps_never)
      pss_nil)
    (pss_one (ps_if (pt_cmpR op_ne (pe_getTab (pe_glob (v := .ref aCo) rfl gCo rfl) (pe_ix ix_tup (pv 0) pe_int fun _ _ => rfl) ⟨rfl, rfl, rfl, rfl⟩) (pe_callB call_len_seq (by rfl) b.len PySem.boot_len (pa_cons (pv 0) pa_nil)) (nomark _))
      (pss_one ps_never)
      pss_nil))), ?_⟩
    refine rd_isi rfl (.base (.tup hd)) (b := true) (by decide +kernel) ⟨_, rfl, iteF ?_⟩
    refine ⟨_, rfl, d, _, rfl, .inr (SqT.of hd), rfl, _, rfl, ?_⟩
    rw [decide_eq_false (show ¬ V.int (([V.str z, x, y].length : Nat) : Int) = V.int 0 by intro e; injection e with e; exact absurd (show (3 : Int) = 0 from e) (by decide))]
    refine iteF ⟨_, rfl, d, _, 0, _, rfl, rfl, SqT.of hd, rfl, _, _, _, _, true, rfl, .ty "str", .base (.str z), kit_ty (by decide +kernel), _, rfl, iteF ?_⟩
    refine ⟨aCo, _, rfl, tCo, _, rfl, d, _, 0, _, rfl, rfl, SqT.of hd, rfl, z, rfl, fun v mv => ?_, fun no => ?_⟩
    · have ev : v = .int 3 := by
        have nd : z ≠ "drop" := by rcases hz with rfl | rfl | rfl | rfl <;> decide +kernel
        simp only [List.mem_cons, Prod.mk.injEq, List.not_mem_nil, or_false] at mv
        rcases mv with ⟨_, e⟩ | ⟨e, _⟩ | ⟨_, e⟩ | ⟨_, e⟩ | ⟨_, e⟩
        · exact e
        · exact absurd e nd
        · exact e
        · exact e
        · exact e
      rw [ev]
      refine ⟨_, rfl, d, _, rfl, .inr (SqT.of hd), rfl, _, rfl, ?_⟩
      rw [show decide (V.int 3 = V.int (([V.str z, x, y].length : Nat) : Int)) = true from decide_eq_true rfl]
      exact iteF k
    · exact absurd (by rcases hz with rfl | rfl | rfl | rfl <;> decide +kernel) no
def spDone (K : PySem.W.Frag) : Sp := fun vs H Q E => ∃ (a d : Addr) (x y : V), vs = [.ref a, .ref d] ∧ ((H d = some (.tup [.str "make", x, y]) ∧ spMakeT [.ref a, x, y] H Q E0) ∨ (H d = some (.tup [.str "fill", x, y]) ∧ spFillT K [.ref a, x, y] H Q E0))
theorem done_mono {vs : List V} {H H' : Hp} {Q : VK} {E : XK} (s : Same H H') (h : spDone K vs H Q E) : spDone K vs H' Q E := by
  obtain ⟨a, d, x, y, e, h | h⟩ := h
  · exact ⟨a, d, x, y, e, .inl ⟨s _ _ h.1, make_mono s h.2⟩⟩
  · exact ⟨a, d, x, y, e, .inr ⟨s _ _ h.1, fill_mono s h.2⟩⟩
theorem has_done {fM fD fP fT fF : Addr} (b : Blt mg) (gAc : mg "ACTIONS" = some (.ref aAc)) (tAc : ActTab K w aAc fM fD fP fT fF) (hNd : Has P w K mg base CX0 1 "need_deed" sNeedDeed ["thing"] spNeedDeed)
    (hM : HeldC P w K mg base CX0 2 fM spMakeT) (hF : HeldC P w K mg base CX0 5 fF (spFillT K)) (a : AtE K mg "done" sDone ["tables", "deed"]) : Has P w K mg base CX0 6 "done" sDone ["tables", "deed"] (spDone K) := by
  obtain ⟨f, fd, a⟩ := a
  obtain ⟨fNd, fdNd, aNd, GNd⟩ := hNd
  refine ⟨f, fd, a, a.fn.ok scDone (fun vs H Q E h => ?_) (fun cdv A outer s H vs Q E hr5 h => ?_)⟩
  · obtain ⟨ad, d, x, y, rfl, _⟩ := h
    rfl
  · have hr1 := hr5.mono (show 1 ≤ 5 by decide)
    have hM5 : HeldC P w K mg base CX0 5 fM spMakeT := by
      obtain ⟨fd2, ps, F, k1, k2⟩ := hM
      exact ⟨fd2, ps, F.mono (by decide), k1, k2⟩
    obtain ⟨ad, d, x, y, rfl, h⟩ := h
    refine ⟨_,
    (pss_cons (ps_expr (pe_call GNd hr1 rfl aNd.gl aNd.fn.kp aNd.bd .nil pass0 (pa_cons (pv 1) pa_nil)))
    (pss_cons (ps_asg (pv 1) (pg_star (n := 2) (i := 1) rfl (pgs_cons (pg_name (i := 2) scDone.nd rfl (.inl rfl)) (pgs_cons (pg_name (i := 3) scDone.nd rfl (.inl rfl)) pgs_nil)) rfl))
    (pss_cons (ps_set (i := 4) scDone.nd rfl (.inl rfl) (pe_ix ix_kdict (pe_glob (v := .ref aAc) rfl gAc rfl) (pv 2) fun _ _ => rfl))
    (pss_one (ps_ret (pe_callC (CX := CX0) (E := E0) (i := 4) hr5 rfl (.inl rfl) pass0 (pa_cons (pv 0) (StX.pa_star (pv 3) pa_nil)))))))), ?_⟩
    rcases h with ⟨hd, h⟩ | ⟨hd, h⟩
    · refine ⟨_, rfl, d, _, x, y, rfl, hd, .inl rfl, ?_⟩
      refine ⟨_, rfl, d, _, rfl, .inr (SqT.of hd), by show 2 ≤ 4; decide, fun D nD => ?_⟩
      have sD : Same H (upd H D (.lst [x, y])) := same_new nD
      refine ⟨_, _, rfl, _, _, rfl, rfl, ?_⟩
      refine ⟨_, rfl, aAc, "make", _, rfl, rfl, tAc.dct (List.mem_cons_self ..), ?_⟩
      exact ⟨fM, spMakeT, rfl, hM5, _, rfl, _, rfl, D, [x, y], rfl, .inr (SqL.of upd_same), make_mono sD h⟩
    · refine ⟨_, rfl, d, _, x, y, rfl, hd, .inr (.inr (.inr rfl)), ?_⟩
      refine ⟨_, rfl, d, _, rfl, .inr (SqT.of hd), by show 2 ≤ 4; decide, fun D nD => ?_⟩
      have sD : Same H (upd H D (.lst [x, y])) := same_new nD
      refine ⟨_, _, rfl, _, _, rfl, rfl, ?_⟩
      refine ⟨_, rfl, aAc, "fill", _, rfl, rfl, tAc.dct (p := ("fill", .ref fF)) (by simp), ?_⟩
      exact ⟨fF, spFillT K, rfl, hF, _, rfl, _, rfl, D, [x, y], rfl, .inr (SqL.of upd_same), fill_mono sD h⟩
end
end VQ
namespace VQ
open PySem PySem.Spec PyProof.Rows L2 LamX
/-! ### done: any deed of right kinds -/
theorem things_len {H : Hp} {D : Deed} {ws : List V} (h : Things H D ws) {v : V} (m : (wordOf D, v) ∈ [(("make" : Str), V.int 3), ("drop", .int 2), ("put", .int 3), ("take", .int 3), ("fill", .int 3)]) : v = .int ((ws.length + 1 : Nat) : Int) := by
  have key : ∀ (z : Str) (n : Int) , ((z = "make" ∧ n = 3) ∨ (z = "drop" ∧ n = 2) ∨ (z = "put" ∧ n = 3) ∨ (z = "take" ∧ n = 3) ∨ (z = "fill" ∧ n = 3)) → (z, v) ∈ [(("make" : Str), V.int 3), ("drop", .int 2), ("put", .int 3), ("take", .int 3), ("fill", .int 3)] → v = .int n := by
    intro z n hz m
    simp only [List.mem_cons, Prod.mk.injEq, List.not_mem_nil, or_false] at m
    rcases hz with ⟨rfl, rfl⟩ | ⟨rfl, rfl⟩ | ⟨rfl, rfl⟩ | ⟨rfl, rfl⟩ | ⟨rfl, rfl⟩ <;> rcases m with ⟨e, e2⟩ | ⟨e, e2⟩ | ⟨e, e2⟩ | ⟨e, e2⟩ | ⟨e, e2⟩ <;> first | exact e2 | exact absurd e (by decide +kernel)
  cases h with
  | make => exact key _ 3 (.inl ⟨rfl, rfl⟩) m
  | drop => exact key _ 2 (.inr (.inl ⟨rfl, rfl⟩)) m
  | put h => exact key _ 3 (.inr (.inr (.inl ⟨rfl, rfl⟩))) m
  | take h => exact key _ 3 (.inr (.inr (.inr (.inl ⟨rfl, rfl⟩)))) m
  | fill h ro => exact key _ 3 (.inr (.inr (.inr (.inr ⟨rfl, rfl⟩)))) m
theorem word_in (D : Deed) : wordOf D ∈ [(("make" : Str), V.int 3), ("drop", .int 2), ("put", .int 3), ("take", .int 3), ("fill", .int 3)].map (·.1) := by
  cases D <;> simp [wordOf]
section
variable {P : Program} {w : World} {K : PySem.W.Frag} {mg : Str → Option Value} {base : Heap} {R : Ref} {aCo aAc : Addr}
def spNeedD : Sp := fun vs H Q _ => ∃ (d : Addr) (D : Deed) (ws : List V), vs = [.ref d] ∧ H d = some (.tup (.str (wordOf D) :: ws)) ∧ Things H D ws ∧ Q .non H
theorem has_needD (b : Blt mg) (gCo : mg "COUNTS" = some (.ref aCo)) (tCo : CountTab K w aCo) (a : AtE K mg "need_deed" sNeedDeed ["thing"]) : Has P w K mg base CX0 1 "need_deed" sNeedDeed ["thing"] spNeedD := by
  obtain ⟨f, fd, a⟩ := a
  refine ⟨f, fd, a, a.fn.ok scNeedDeed (fun vs H Q E h => ?_) (fun cdv A outer s H vs Q E hr0 h => ?_)⟩
  · obtain ⟨d, D, ws, rfl, _⟩ := h
    rfl
  · obtain ⟨d, D, ws, rfl, hd, th, k⟩ := h
    refine ⟨_,
    (pss_cons (ps_if (PW.pt (pw_or (pt_not (pt_val (pe_isi (pv 0) rfl b.isi rfl b.tuple (c := "tuple") (by decide +kernel)))) (pw_or (pt_cmpR op_eq (pe_callB call_len_seq (by rfl) b.len PySem.boot_len (pa_cons (pv 0) pa_nil)) pe_int (nomark _)) (pw_or1 (pt_not (pt_val (pe_callB call_isi (by rfl) b.isi (by decide +kernel) (pa_cons (pe_ix ix_tup (pv 0) pe_int fun _ _ => rfl) (pa_cons (pe_bltn (v := .ty "str") rfl b.str (by decide +kernel) rfl) pa_nil)))))))))
      (pss_one ps_never)
      pss_nil)
    (pss_one (ps_if (pt_cmpR op_ne (pe_getTab (pe_glob (v := .ref aCo) rfl gCo rfl) (pe_ix ix_tup (pv 0) pe_int fun _ _ => rfl) ⟨rfl, rfl, rfl, rfl⟩) (pe_callB call_len_seq (by rfl) b.len PySem.boot_len (pa_cons (pv 0) pa_nil)) (nomark _))
      (pss_one ps_never)
      pss_nil))), ?_⟩
    have at0 : atI (V.str (wordOf D) :: ws) 0 = some (V.str (wordOf D)) := by cases th <;> rfl
    refine rd_isi rfl (.base (.tup hd)) (b := true) (by decide +kernel) ⟨_, rfl, iteF ?_⟩
    refine ⟨_, rfl, d, _, rfl, .inr (SqT.of hd), rfl, _, rfl, ?_⟩
    rw [decide_eq_false (show ¬ V.int (((V.str (wordOf D) :: ws).length : Nat) : Int) = V.int 0 by
      intro e
      injection e with e
      rw [List.length_cons] at e
      omega)]
    refine iteF ⟨_, rfl, d, _, 0, _, rfl, rfl, SqT.of hd, at0, _, _, _, _, true, rfl, .ty "str", .base (.str _), kit_ty (by decide +kernel), _, rfl, iteF ?_⟩
    refine ⟨aCo, _, rfl, tCo, _, rfl, d, _, 0, _, rfl, rfl, SqT.of hd, at0, wordOf D, rfl, fun v mv => ?_, fun no => ?_⟩
    · rw [things_len th mv]
      refine ⟨_, rfl, d, _, rfl, .inr (SqT.of hd), rfl, _, rfl, ?_⟩
      rw [show decide (V.int ((ws.length + 1 : Nat) : Int) = V.int (((V.str (wordOf D) :: ws).length : Nat) : Int)) = true from decide_eq_true rfl]
      exact iteF k
    · exact absurd (word_in D) no
theorem Ends.up {f : Tbs} {zs : List Str} {D : Deed} {H H' : Hp} {Q : VK} {E : XK} (s : Same H H') (h : Ends R f zs D H Q E) : Ends R f zs D H' Q E :=
  ⟨fun ans ms g t p dd H2 s2 => h.1 ans ms g t p dd H2 (s.trans s2), fun C fs n d H2 s2 => h.2 C fs n d H2 (s.trans s2)⟩
/-- done(tables, deed) -/
def spDoneR (R : Ref) : Sp := fun vs H Q E => ∃ (a d : Addr) (ws : List V) (zs : List Str) (f : Tbs) (D : Deed), vs = [.ref a, .ref d] ∧ H d = some (.tup (.str (wordOf D) :: ws)) ∧ TsN H a zs f ∧ TsOk f ∧ Fine f zs.length D ∧ Things H D ws ∧ Ends R f zs D H Q E
theorem has_doneR {fM fD fP fT fF : Addr} (b : Blt mg) (gAc : mg "ACTIONS" = some (.ref aAc)) (tAc : ActTab K w aAc fM fD fP fT fF) (hNd : Has P w K mg base CX0 1 "need_deed" sNeedDeed ["thing"] spNeedD)
    (hM : HeldC P w K mg base (L2.CX P w) 5 fM (spTab R isMake)) (hD : HeldC P w K mg base (L2.CX P w) 5 fD (spTab R isDrop)) (hP : HeldC P w K mg base (L2.CX P w) 5 fP (spTab R isPut)) (hT : HeldC P w K mg base (L2.CX P w) 5 fT (spTab R isTake)) (hF : HeldC P w K mg base (L2.CX P w) 5 fF (spTab R isFill))
    (a : AtE K mg "done" sDone ["tables", "deed"]) : Has P w K mg base (L2.CX P w) 6 "done" sDone ["tables", "deed"] (spDoneR R) := by
  obtain ⟨f, fd, a⟩ := a
  obtain ⟨fNd, fdNd, aNd, GNd⟩ := hNd
  refine ⟨f, fd, a, a.fn.okX scDone (fun vs H Q E h => ?_) (fun cdv A outer s H vs Q E hr5 h => ?_)⟩
  · obtain ⟨ad, d, ws, zs, tb, D, rfl, _⟩ := h
    rfl
  · have hr1 := hr5.mono (show 1 ≤ 5 by decide)
    obtain ⟨ad, d, ws, zs, tb, D, rfl, hd, ts, tok, fine, th, en⟩ := h
    refine ⟨_,
    (pss_cons (ps_expr (pe_call GNd hr1 rfl aNd.gl aNd.fn.kp aNd.bd .nil pass0 (pa_cons (pv 1) pa_nil)))
    (pss_cons (ps_asg (pv 1) (pg_star (n := 2) (i := 1) rfl (pgs_cons (pg_name (i := 2) scDone.nd rfl (.inl rfl)) (pgs_cons (pg_name (i := 3) scDone.nd rfl (.inl rfl)) pgs_nil)) rfl))
    (pss_cons (ps_set (i := 4) scDone.nd rfl (.inl rfl) (pe_ix ix_kdict (pe_glob (v := .ref aAc) rfl gAc rfl) (pv 2) fun _ _ => rfl))
    (pss_one (ps_ret (pe_callC (CX := L2.CX P w) (i := 4) hr5 rfl (.inl rfl) (passes_call (takes_of rfl rfl rfl rfl) (fun _ _ _ _ h => h)) (pa_cons (pv 0) (StX.pa_star (pv 3) pa_nil)))))))), ?_⟩
    refine ⟨_, rfl, d, D, ws, rfl, hd, th, ?_⟩
    have th2 := th
    have wl : ws.length + 1 ≤ 3 := by cases th <;> simp
    refine ⟨_, rfl, d, _, rfl, .inr (SqT.of hd), ?_, fun L nL => ?_⟩
    · cases th <;> (show _ ≤ _; simp)
    have sL : Same H (upd H L (.lst ws)) := same_new nL
    cases th with
    | make =>
      rename_i nm wd
      refine ⟨_, _, rfl, _, _, rfl, rfl, ?_⟩
      refine ⟨_, rfl, aAc, "make", _, rfl, rfl, tAc.dct (p := ("make", .ref fM)) (by simp), ?_⟩
      exact ⟨fM, spTab R isMake, rfl, hM, _, rfl, _, rfl, L, _, rfl, .inr (SqL.of upd_same), ⟨ad, _, zs, tb, .make nm wd, rfl, True.intro, ts.same sL, tok, fine, th2.same sL, en.up sL⟩⟩
    | drop =>
      rename_i nm
      refine ⟨_, _, rfl, _, _, rfl, rfl, ?_⟩
      refine ⟨_, rfl, aAc, "drop", _, rfl, rfl, tAc.dct (p := ("drop", .ref fD)) (by simp), ?_⟩
      exact ⟨fD, spTab R isDrop, rfl, hD, _, rfl, _, rfl, L, _, rfl, .inr (SqL.of upd_same), ⟨ad, _, zs, tb, .drop nm, rfl, True.intro, ts.same sL, tok, fine, th2.same sL, en.up sL⟩⟩
    | put hx =>
      rename_i nm r x
      refine ⟨_, _, rfl, _, _, rfl, rfl, ?_⟩
      refine ⟨_, rfl, aAc, "put", _, rfl, rfl, tAc.dct (p := ("put", .ref fP)) (by simp), ?_⟩
      exact ⟨fP, spTab R isPut, rfl, hP, _, rfl, _, rfl, L, _, rfl, .inr (SqL.of upd_same), ⟨ad, _, zs, tb, .put nm r, rfl, True.intro, ts.same sL, tok, fine, th2.same sL, en.up sL⟩⟩
    | take hx =>
      rename_i nm r x
      refine ⟨_, _, rfl, _, _, rfl, rfl, ?_⟩
      refine ⟨_, rfl, aAc, "take", _, rfl, rfl, tAc.dct (p := ("take", .ref fT)) (by simp), ?_⟩
      exact ⟨fT, spTab R isTake, rfl, hT, _, rfl, _, rfl, L, _, rfl, .inr (SqL.of upd_same), ⟨ad, _, zs, tb, .take nm r, rfl, True.intro, ts.same sL, tok, fine, th2.same sL, en.up sL⟩⟩
    | fill hx ro =>
      rename_i nm rs l us
      refine ⟨_, _, rfl, _, _, rfl, rfl, ?_⟩
      refine ⟨_, rfl, aAc, "fill", _, rfl, rfl, tAc.dct (p := ("fill", .ref fF)) (by simp), ?_⟩
      exact ⟨fF, spTab R isFill, rfl, hF, _, rfl, _, rfl, L, _, rfl, .inr (SqL.of upd_same), ⟨ad, _, zs, tb, .fill nm rs, rfl, True.intro, ts.same sL, tok, fine, th2.same sL, en.up sL⟩⟩
end
end VQ
namespace VQ
open PySem L2 LamX
/-! ### a book -/
abbrev sBookInit : Stmt := inClass (top 43) 0
abbrev nBookInit : List Str := ["self"]
theorem scBookInit : FnScope nBookInit ["self"] (defScope sBookInit) := ⟨rfl, rfl, rfl, by decide +kernel, rfl, by decide +kernel, by decide +kernel⟩
abbrev sBookMake : Stmt := inClass (top 43) 1
abbrev nBookMake : List Str := ["self", "name", "width"]
theorem scBookMake : FnScope nBookMake ["self", "name", "width"] (defScope sBookMake) := ⟨rfl, rfl, rfl, by decide +kernel, rfl, by decide +kernel, by decide +kernel⟩
abbrev sBookFill : Stmt := inClass (top 43) 5
abbrev nBookFill : List Str := ["self", "name", "rows"]
theorem scBookFill : FnScope nBookFill ["self", "name", "rows"] (defScope sBookFill) := ⟨rfl, rfl, rfl, by decide +kernel, rfl, by decide +kernel, by decide +kernel⟩
abbrev sBookDo : Stmt := inClass (top 43) 6
abbrev nBookDo : List Str := ["self", "deed"]
theorem scBookDo : FnScope nBookDo ["self", "deed"] (defScope sBookDo) := ⟨rfl, rfl, rfl, by decide +kernel, rfl, by decide +kernel, by decide +kernel⟩
abbrev sBookMany : Stmt := inClass (top 43) 7
abbrev nBookMany : List Str := ["self", "deeds", "tables", "told", "deed", "answer"]
theorem scBookMany : FnScope nBookMany ["self", "deeds"] (defScope sBookMany) := ⟨rfl, rfl, rfl, by decide +kernel, rfl, by decide +kernel, by decide +kernel⟩
abbrev sBookWidth : Stmt := inClass (top 43) 11
abbrev nBookWidth : List Str := ["self", "name"]
theorem scBookWidth : FnScope nBookWidth ["self", "name"] (defScope sBookWidth) := ⟨rfl, rfl, rfl, by decide +kernel, rfl, by decide +kernel, by decide +kernel⟩
abbrev sBookRows : Stmt := inClass (top 43) 12
abbrev nBookRows : List Str := ["self", "name"]
theorem scBookRows : FnScope nBookRows ["self", "name"] (defScope sBookRows) := ⟨rfl, rfl, rfl, by decide +kernel, rfl, by decide +kernel, by decide +kernel⟩
/-- a book's attributes -/
def bf (t p u : V) : List (Str × V) := [("tables", t), ("past", p), ("future", u)]
theorem bf_init {t p u : V} : putF "future" u (putF "past" p (putF "tables" t [])) = bf t p u := by
  have e1 : putF "past" p [(("tables" : Str), t)] = [(("tables" : Str), t), (("past" : Str), p)] := by
    unfold putF
    rw [if_neg (by decide +kernel)]
    rfl
  have e2 : putF "future" u [(("tables" : Str), t), (("past" : Str), p)] = bf t p u := by
    unfold putF
    rw [if_neg (by decide +kernel)]
    unfold putF
    rw [if_neg (by decide +kernel)]
    rfl
  show putF "future" u (putF "past" p [(("tables" : Str), t)]) = _
  rw [e1, e2]
theorem bf_tables {t p u : V} : (bf t p u).lookup ("tables" : Str) = some t := rfl
theorem bf_past {t p u : V} : (bf t p u).lookup ("past" : Str) = some p := rfl
theorem bf_future {t p u : V} : (bf t p u).lookup ("future" : Str) = some u := rfl
theorem bf_setF {t p u v : V} : putF "future" v (bf t p u) = bf t p v := by
  unfold bf putF
  rw [if_neg (by decide +kernel)]
  unfold putF
  rw [if_neg (by decide +kernel)]
  unfold putF
  rw [if_pos rfl]
theorem bf_setT {t p u v : V} : putF "tables" v (bf t p u) = bf v p u := by
  unfold bf putF
  rw [if_pos rfl]
/-- a book: its past, how many deeds are behind it, how many can be done again, its tables -/
def BookAt (C : Addr) (H : Hp) (a pa : Addr) (k j n : Nat) (f : Tbs) : Prop := ∃ (dx t fu : Addr) (ps us : List V), H a = some (.ins C dx (bf (.ref t) (.ref pa) (.ref fu))) ∧ H pa = some (.lst ps) ∧ ps.length = k ∧ H fu = some (.lst us) ∧ us.length = j ∧ TsAt H t n f ∧ a ≠ pa ∧ fu ≠ pa
/-- nothing but the book and its past has changed -/
def OnlyB (a pa : Addr) (H H' : Hp) : Prop := ∀ x o, x ≠ a → x ≠ pa → H x = some o → H' x = some o
theorem OnlyB.trans {a pa : Addr} {H H1 H2 : Hp} (h : OnlyB a pa H H1) (g : OnlyB a pa H1 H2) : OnlyB a pa H H2 := fun x o n1 n2 e => g x o n1 n2 (h x o n1 n2 e)
theorem OnlyB.of {a pa : Addr} {H H' : Hp} (s : Same H H') : OnlyB a pa H H' := fun x o _ _ e => s x o e
theorem BookAt.same {C : Addr} {H H' : Hp} {a pa : Addr} {k j n : Nat} {f : Tbs} (s : Same H H') (h : BookAt C H a pa k j n f) : BookAt C H' a pa k j n f := by
  obtain ⟨dx, t, fu, ps, us, h1, h2, h3, h4, hj, h5, h6, h7⟩ := h
  exact ⟨dx, t, fu, ps, us, s _ _ h1, s _ _ h2, h3, s _ _ h4, hj, h5.same s, h6, h7⟩
structure BCls (K : PySem.W.Frag) (C : Addr) : Prop where
  cl : Cls K C
  nT : NoAttr K C "tables"
  nP : NoAttr K C "past"
  nF : NoAttr K C "future"
section
variable {P : Program} {w : World} {K : PySem.W.Frag} {mg : Str → Option Value} {base : Heap} {C : Addr}
def spBInit (C : Addr) : Sp := fun vs H Q _ => ∃ (x dx : Addr), vs = [.ref x] ∧ H x = some (.ins C dx []) ∧ ∀ (pa : Addr) (H' : Hp), (∀ y o, y ≠ x → H y = some o → H' y = some o) → H pa = none → BookAt C H' x pa 0 0 0 (fun _ => none) → Q .non H'
theorem ok_binit {f : Addr} {fd : FuncData} (F : Fun K "__init__" "Book.__init__" sBookInit f fd) (T : BCls K C) : FnOk P w K mg base CX0 1 f fd ["self"] (spBInit C) := by
  refine F.ok scBookInit (fun vs H Q E h => ?_) (fun cdv A outer s H vs Q E hr h => ?_)
  · obtain ⟨x, dx, rfl, _⟩ := h
    rfl
  · obtain ⟨x, dx, rfl, hx, k⟩ := h
    refine ⟨_,
    (pss_cons (ps_fld (pv 0) pe_dnewK rfl)
    (pss_cons (ps_fld (pv 0) (pe_lst pa_nil) rfl)
    (pss_one (ps_fld (pv 0) (pe_lst pa_nil) rfl)))), ?_⟩
    intro t nt
    have nxt : x ≠ t := ne_of_none hx nt
    refine ⟨_, rfl, x, C, dx, [], rfl, (upd_ne nxt).trans hx, T.cl, T.nT, by decide, ?_⟩
    have x1 : (upd (upd H t (.dK [])) x (.ins C dx (putF "tables" (.ref t) []))) x = some (.ins C dx (putF "tables" (.ref t) [])) := upd_same
    have t1 : (upd (upd H t (.dK [])) x (.ins C dx (putF "tables" (.ref t) []))) t = some (.dK []) := (upd_ne nxt.symm).trans upd_same
    have o1 : ∀ y o, y ≠ x → H y = some o → (upd (upd H t (.dK [])) x (.ins C dx (putF "tables" (.ref t) []))) y = some o := fun y o n h => by
      rw [upd_ne n, upd_ne (ne_of_none h nt)]
      exact h
    generalize (upd (upd H t (.dK [])) x (.ins C dx (putF "tables" (.ref t) []))) = H1 at x1 t1 o1
    refine ⟨by decide, fun pa np => ?_⟩
    have nxp : x ≠ pa := ne_of_none x1 np
    refine ⟨_, rfl, x, C, dx, _, rfl, (upd_ne nxp).trans x1, T.cl, T.nP, Nat.lt_of_le_of_lt (length_putF _ _ _) (by decide), ?_⟩
    have x2 : (upd (upd H1 pa (.lst [])) x (.ins C dx (putF "past" (.ref pa) (putF "tables" (.ref t) [])))) x = some (.ins C dx (putF "past" (.ref pa) (putF "tables" (.ref t) []))) := upd_same
    have p2 : (upd (upd H1 pa (.lst [])) x (.ins C dx (putF "past" (.ref pa) (putF "tables" (.ref t) [])))) pa = some (.lst []) := (upd_ne nxp.symm).trans upd_same
    have o2 : ∀ y o, y ≠ x → H1 y = some o → (upd (upd H1 pa (.lst [])) x (.ins C dx (putF "past" (.ref pa) (putF "tables" (.ref t) [])))) y = some o := fun y o n h => by
      rw [upd_ne n, upd_ne (ne_of_none h np)]
      exact h
    generalize (upd (upd H1 pa (.lst [])) x (.ins C dx (putF "past" (.ref pa) (putF "tables" (.ref t) [])))) = H2 at x2 p2 o2
    refine ⟨by decide, fun fu nf => ?_⟩
    have nxf : x ≠ fu := ne_of_none x2 nf
    have nfp : fu ≠ pa := (ne_of_none p2 nf).symm
    refine ⟨_, rfl, x, C, dx, _, rfl, (upd_ne nxf).trans x2, T.cl, T.nF, Nat.lt_of_le_of_lt (length_putF _ _ _) (Nat.lt_of_le_of_lt (Nat.add_le_add_right (length_putF _ _ _) 1) (by decide)), ?_⟩
    rw [bf_init]
    have o3 : ∀ y o, y ≠ x → H2 y = some o → (upd (upd H2 fu (.lst [])) x (.ins C dx (bf (.ref t) (.ref pa) (.ref fu)))) y = some o := fun y o n h => by
      rw [upd_ne n, upd_ne (ne_of_none h nf)]
      exact h
    have t3 := o3 _ _ nxt.symm (o2 _ _ nxt.symm t1)
    refine k pa _ (fun y o n h => o3 _ _ n (o2 _ _ n (o1 _ _ n h))) ?_ ⟨dx, t, fu, [], [], upd_same, o3 _ _ nxp.symm p2, rfl, (upd_ne nxf.symm).trans upd_same, rfl, ⟨[], t3, rfl, fun nm => True.intro⟩, nxp, nfp⟩
    cases e : H pa with
    | none => rfl
    | some o =>
      have := o1 pa o nxp.symm e
      rw [np] at this
      cases this
def spBWidth (C : Addr) : Sp := fun vs H Q _ => ∃ (a pa : Addr) (k j n : Nat) (f : Tbs) (nm : Str) (t : Nat × List (List Nat)), vs = [.ref a, .str nm] ∧ BookAt C H a pa k j n f ∧ n < 100 ∧ f nm = some t ∧ Q (.int (t.1 : Int)) H
theorem ok_bwidth {f : Addr} {fd : FuncData} (F : Fun K "width" "Book.width" sBookWidth f fd) (T : BCls K C) (hTo : Has P w K mg base CX0 1 "table_of" sTableOf ["tables", "name"] spTableOf) : FnOk P w K mg base CX0 2 f fd ["self", "name"] (spBWidth C) := by
  obtain ⟨fTo, fdTo, aTo, GTo⟩ := hTo
  refine F.ok scBookWidth (fun vs H Q E h => ?_) (fun cdv A outer s H vs Q E hr1 h => ?_)
  · obtain ⟨a, pa, k, j, n, f, nm, t, rfl, _⟩ := h
    rfl
  · obtain ⟨a, pa, k, j, n, f, nm, t, rfl, ⟨dx, tb, fu, ps, us, ha, hp, lp, hf, lj, ts, ne1, ne2⟩, few, ht, q⟩ := h
    refine ⟨_,
    (pss_one (ps_ret (pe_ix ix_tup (pe_call GTo hr1 rfl aTo.gl aTo.fn.kp aTo.bd .nil pass0 (pa_cons (pe_fld (pv 0) rfl) (pa_cons (pv 1) pa_nil))) pe_int fun _ _ => rfl))), ?_⟩
    refine ⟨_, rfl, a, C, dx, _, _, rfl, ha, T.cl, T.nT, bf_tables, _, rfl, tb, nm, n, f, t, rfl, ts, ht, few, fun v tv => ?_⟩
    obtain ⟨ta, ra, us0, rfl, hta, hra, ro⟩ := tv
    exact ⟨ta, _, 0, _, rfl, rfl, SqT.of hta, rfl, q⟩
def spBRows (C : Addr) : Sp := fun vs H Q _ => ∃ (a pa : Addr) (k j n : Nat) (f : Tbs) (nm : Str) (t : Nat × List (List Nat)), vs = [.ref a, .str nm] ∧ BookAt C H a pa k j n f ∧ n < 100 ∧ f nm = some t ∧ ∀ (p : Addr) (us : List V), H p = none → Rows H us t.2 → Q (.ref p) (upd H p (.lst us))
theorem ok_brows {f : Addr} {fd : FuncData} (F : Fun K "rows" "Book.rows" sBookRows f fd) (b : Blt mg) (T : BCls K C) (hTo : Has P w K mg base CX0 1 "table_of" sTableOf ["tables", "name"] spTableOf) : FnOk P w K mg base CX0 2 f fd ["self", "name"] (spBRows C) := by
  obtain ⟨fTo, fdTo, aTo, GTo⟩ := hTo
  refine F.ok scBookRows (fun vs H Q E h => ?_) (fun cdv A outer s H vs Q E hr1 h => ?_)
  · obtain ⟨a, pa, k, j, n, f, nm, t, rfl, _⟩ := h
    rfl
  · obtain ⟨a, pa, k, j, n, f, nm, t, rfl, ⟨dx, tb, fu, ps, us, ha, hp, lp, hf, lj, ts, ne1, ne2⟩, few, ht, q⟩ := h
    refine ⟨_,
    (pss_one (ps_ret (pe_callTy call_list_of (by rfl) b.list (by decide +kernel) (pa_cons (pe_ix ix_tup (pe_call GTo hr1 rfl aTo.gl aTo.fn.kp aTo.bd .nil pass0 (pa_cons (pe_fld (pv 0) rfl) (pa_cons (pv 1) pa_nil))) pe_int fun _ _ => rfl) pa_nil)))), ?_⟩
    refine ⟨_, rfl, a, C, dx, _, _, rfl, ha, T.cl, T.nT, bf_tables, _, rfl, tb, nm, n, f, t, rfl, ts, ht, few, fun v tv => ?_⟩
    obtain ⟨ta, ra, us0, rfl, hta, hra, ro⟩ := tv
    exact ⟨ta, _, 1, _, rfl, rfl, SqT.of hta, rfl, ra, us0, rfl, .inr (SqT.of hra), fun l nl => q l us0 nl ro⟩
end
end VQ
namespace VQ
open PySem L2 LamX
/-! ### a book: one deed done -/
def TD (o : HO) : Prop := (∃ xs, o = .tup xs) ∨ ∃ kvs, o = .dK kvs
theorem TabAt.moved {H H' : Hp} (m : ∀ x o, TD o → H x = some o → H' x = some o) {v : V} {wd : Nat} {rs : List (List Nat)} (h : TabAt H v wd rs) : TabAt H' v wd rs := by
  obtain ⟨t, r, us, e, h1, h2, h3⟩ := h
  exact ⟨t, r, us, e, m _ _ (.inl ⟨_, rfl⟩) h1, m _ _ (.inl ⟨_, rfl⟩) h2, h3.moved fun x xs e => m _ _ (.inl ⟨_, rfl⟩) e⟩
theorem TabO.moved {H H' : Hp} (m : ∀ x o, TD o → H x = some o → H' x = some o) {o : Option V} {t : Option (Nat × List (List Nat))} (h : TabO H o t) : TabO H' o t := by
  cases o <;> cases t
  · trivial
  · exact h
  · exact h
  · exact TabAt.moved m h
theorem TsAt.moved {H H' : Hp} (m : ∀ x o, TD o → H x = some o → H' x = some o) {a : Addr} {n : Nat} {f : Tbs} (h : TsAt H a n f) : TsAt H' a n f := by
  obtain ⟨kvs, h1, h2, h3⟩ := h
  exact ⟨kvs, m _ _ (.inr ⟨_, rfl⟩) h1, h2, fun nm => (h3 nm).moved m⟩
section
variable {P : Program} {w : World} {K : PySem.W.Frag} {mg : Str → Option Value} {base : Heap} {C : Addr}
theorem done_up {vs : List V} {H H' : Hp} {Q Q' : VK} {E E' : XK} (s : Same H H') (h : spDone K vs H Q E) (k : ∀ v H1, Same H' H1 → Q v H1 → Q' v H1) : spDone K vs H' Q' E' := by
  obtain ⟨a, d, x, y, e, h | h⟩ := h
  · obtain ⟨hd, a, nm, wd, n, f, e2, ts, h1, h2, h3, h4, h5, q⟩ := h
    exact ⟨_, d, x, y, e, .inl ⟨s _ _ hd, a, nm, wd, n, f, e2, ts.same s, h1, h2, h3, h4, h5, fun p d H2 s2 u v => k _ _ s2 (q p d H2 (s.trans s2) u v)⟩⟩
  · obtain ⟨hd, a, l, us, nm, n, f, t, rs, e2, ts, h1, h2, h3, h4, hl, ro, h5, h6, h7, q⟩ := h
    exact ⟨_, d, x, y, e, .inr ⟨s _ _ hd, a, l, us, nm, n, f, t, rs, e2, ts.same s, h1, h2, h3, h4, s _ _ hl, ro.same s, h5, h6, h7, fun p d ss H2 s2 u v v1 v2 => k _ _ s2 (q p d ss H2 (s.trans s2) u v v1 v2)⟩⟩
/-- many([deed]) -/
def spMany1 (K : PySem.W.Frag) (C : Addr) : Sp := fun vs H Q _ => ∃ (a pa l d t dx fu : Addr) (ps us : List V) (k : Nat), vs = [.ref a, .ref l] ∧ H l = some (.lst [.ref d]) ∧ H a = some (.ins C dx (bf (.ref t) (.ref pa) (.ref fu))) ∧ H pa = some (.lst ps) ∧ ps.length = k ∧ k < 1000 ∧ H fu = some (.lst us) ∧ a ≠ pa ∧ fu ≠ pa ∧
  spDone K [.ref t, .ref d] H (fun v H1 => ∃ (p dd : Addr) (ans : V) (n : Nat) (f : Tbs), v = .ref p ∧ H1 p = some (.tup [.ref dd, ans]) ∧ TsAt H1 dd n f ∧ ∀ L H3, OnlyB a pa H H3 → H3 L = some (.lst [ans]) → BookAt C H3 a pa (k + 1) 0 n f → Q (.ref L) H3) E0
theorem ok_many {f : Addr} {fd : FuncData} (F : Fun K "many" "Book.many" sBookMany f fd) (b : Blt mg) (T : BCls K C) (hDo : Has P w K mg base CX0 6 "done" sDone ["tables", "deed"] (spDone K)) : FnOk P w K mg base CX0 7 f fd ["self", "deeds"] (spMany1 K C) := by
  obtain ⟨fDo, fdDo, aDo, GDo⟩ := hDo
  refine F.ok scBookMany (fun vs H Q E h => ?_) (fun cdv A outer s H vs Q E hr6 h => ?_)
  · obtain ⟨a, pa, l, d, t, dx, fu, ps, us, k, rfl, _⟩ := h
    rfl
  · obtain ⟨a, pa, l, d, t, dx, fu, ps, us, k, rfl, hl, ha, hp, lp, fk, hf, n1, n2, h⟩ := h
    refine ⟨_,
    (pss_cons (ps_set (i := 2) scBookMany.nd rfl (.inl rfl) (pe_fld (pv 0) rfl))
    (pss_cons (ps_set (i := 3) scBookMany.nd rfl (.inl rfl) (pe_lst pa_nil))
    (pss_cons (ps_for PassesOwn.never rfl (pi_list (pv 1)) (pg_name (i := 4) scBookMany.nd rfl (.inl rfl))
      (pss_cons (ps_asg (pe_call GDo hr6 rfl aDo.gl aDo.fn.kp aDo.bd .nil pass0 (pa_cons (pv 2) (pa_cons (pv 4) pa_nil))) (pg_tup rfl (pgs_cons (pg_name (i := 2) scBookMany.nd rfl (.inl rfl)) (pgs_cons (pg_name (i := 5) scBookMany.nd rfl (.inl rfl)) pgs_nil))))
      (pss_one (ps_expr (pe_bm PySem.F.plainAttrs_list PySem.F.slot_list_append PySem.F.type_list_append mt_append (pv 3) (pa_cons (pv 5) pa_nil))))))
    (pss_cons (ps_if (pt_truth (pv 3) (by intro _; rfl))
      (pss_cons (ps_expr (pe_bm PySem.F.plainAttrs_list PySem.F.slot_list_append PySem.F.type_list_append mt_append (pe_fld (pv 0) rfl) (pa_cons (pe_fld (pv 0) rfl) pa_nil)))
      (pss_cons (ps_fld (pv 0) (pe_lst pa_nil) rfl)
      (pss_one (ps_fld (pv 0) (pv 2) rfl))))
      pss_nil)
    (pss_one (ps_ret (pv 3))))))), ?_⟩
    refine ⟨_, rfl, a, C, dx, _, _, rfl, ha, T.cl, T.nT, bf_tables, ?_⟩
    refine ⟨by decide, fun L nL => ?_⟩
    have sL : Same H (upd H L (.lst [])) := same_new nL
    have nLa : L ≠ a := (ne_of_none ha nL).symm
    have nLp : L ≠ pa := (ne_of_none hp nL).symm
    refine ⟨_, rfl, l, rfl, ⟨_, SqL.of (sL _ _ hl)⟩, ?_⟩
    refine for_list (xs := [V.ref d]) (fun i σ H' => (i = 0 ∧ σ = [some (.ref a), some (.ref l), some (.ref t), some (.ref L), none, none] ∧ H' = upd H L (.lst [])) ∨ (i = 1 ∧ ∃ (dd : Addr) (ans : V) (n : Nat) (f : Tbs), σ = [some (.ref a), some (.ref l), some (.ref dd), some (.ref L), some (.ref d), some ans] ∧ Same H H' ∧ H' L = some (.lst [ans]) ∧ TsAt H' dd n f ∧
      ∀ L' H3, OnlyB a pa H H3 → H3 L' = some (.lst [ans]) → BookAt C H3 a pa (k + 1) 0 n f → Q (.ref L') H3)) (.inl ⟨rfl, rfl, rfl⟩) ?_ ?_ ?_
    · rintro i σ H' _ (⟨_, _, rfl⟩ | ⟨_, dd, ans, n, f, _, s1, _⟩)
      · exact SqL.of (sL _ _ hl)
      · exact SqL.of (s1 _ _ hl)
    · rintro i x σ H' hx (⟨rfl, rfl, rfl⟩ | ⟨rfl, _⟩)
      · have ex : V.ref d = x := by injection hx
        subst ex
        refine ⟨_, rfl, _, rfl, done_up (E' := E0) sL h fun v H1 s1 ⟨p, dd, ans, n, f, ev, hp1, ts, kk⟩ => ?_⟩
        subst ev
        have hL1 := s1 _ _ (show upd H L (.lst []) L = some (.lst []) from upd_same)
        refine ⟨p, _, rfl, SqT.of hp1, rfl, _, _, rfl, _, _, rfl, rfl, ?_⟩
        refine ⟨_, rfl, .inl ⟨rfl, _, SqL.of hL1⟩, _, rfl, L, [], ans, rfl, rfl, hL1, by decide, ?_⟩
        refine .inr ⟨rfl, dd, ans, n, f, rfl, fun x o e => ?_, upd_same, ts.moved fun x o td e => ?_, kk⟩
        · rw [upd_ne (ne_of_none e nL)]
          exact s1 _ _ (sL _ _ e)
        · rw [upd_ne (fun q => by rw [q, hL1] at e; rcases td with ⟨xs, rfl⟩ | ⟨kvs, rfl⟩ <;> cases e)]
          exact e
      · cases hx
    · rintro σ H2 (⟨e, _⟩ | ⟨_, dd, ans, n, f, rfl, s2, hL2, ts, kk⟩)
      · cases e
      refine ⟨_, rfl, true, .inl ⟨[ans], SqL.of hL2, rfl⟩, iteT ?_⟩
      have ha2 := s2 _ _ ha
      have hp2 := s2 _ _ hp
      refine ⟨_, rfl, a, C, dx, _, _, rfl, ha2, T.cl, T.nP, bf_past, .inl ⟨rfl, _, SqL.of hp2⟩, _, rfl, a, C, dx, _, _, rfl, ha2, T.cl, T.nT, bf_tables, pa, ps, .ref t, rfl, rfl, hp2, by rw [lp]; exact Nat.lt_trans fk (by decide), ?_⟩
      have ha3 : (upd H2 pa (.lst (ps ++ [.ref t]))) a = some (.ins C dx (bf (.ref t) (.ref pa) (.ref fu))) := (upd_ne n1).trans ha2
      refine ⟨by decide, fun u2 nu => ?_⟩
      have nau : a ≠ u2 := ne_of_none ha3 nu
      have npu : pa ≠ u2 := ne_of_none (show (upd H2 pa (.lst (ps ++ [.ref t]))) pa = _ from upd_same) nu
      refine ⟨_, rfl, a, C, dx, _, rfl, (upd_ne nau).trans ha3, T.cl, T.nF, by show 3 < 1000; decide, ?_⟩
      rw [bf_setF]
      refine ⟨_, rfl, _, rfl, a, C, dx, _, rfl, upd_same, T.cl, T.nT, by show 3 < 1000; decide, ?_⟩
      rw [bf_setT]
      have keep : ∀ x o, x ≠ a → x ≠ pa → H2 x = some o → (upd (upd (upd (upd H2 pa (.lst (ps ++ [.ref t]))) u2 (.lst [])) a (.ins C dx (bf (.ref t) (.ref pa) (.ref u2)))) a (.ins C dx (bf (.ref dd) (.ref pa) (.ref u2)))) x = some o := fun x o m1 m2 e => by
        have e3 : (upd H2 pa (.lst (ps ++ [.ref t]))) x = some o := (upd_ne m2).trans e
        rw [upd_ne m1, upd_ne m1, upd_ne (ne_of_none e3 nu)]
        exact e3
      refine ⟨_, rfl, kk L _ (fun x o m1 m2 e => keep x o m1 m2 (s2 _ _ e)) (keep _ _ nLa nLp hL2) ⟨dx, dd, u2, ps ++ [.ref t], [], upd_same, ?_, by rw [List.length_append, lp]; rfl, ?_, rfl, ts.moved fun x o td e => keep x o ?_ ?_ e, n1, npu.symm⟩⟩
      · rw [upd_ne n1.symm, upd_ne n1.symm, upd_ne npu]
        exact upd_same
      · rw [upd_ne nau.symm, upd_ne nau.symm]
        exact upd_same
      · intro q
        rw [q, ha2] at e
        rcases td with ⟨xs, rfl⟩ | ⟨kvs, rfl⟩ <;> cases e
      · intro q
        rw [q, hp2] at e
        rcases td with ⟨xs, rfl⟩ | ⟨kvs, rfl⟩ <;> cases e
end
end VQ
namespace VQ
open PySem L2 LamX
/-! ### a book: do, make, fill -/
section
variable {P : Program} {w : World} {K : PySem.W.Frag} {mg : Str → Option Value} {base : Heap} {C fMa fDo : Addr} {fdMa fdDo : FuncData}
theorem OnlyB.back {a pa : Addr} {H H1 H2 : Hp} (s : Same H H1) (g : OnlyB a pa H1 H2) : OnlyB a pa H H2 := fun x o n1 n2 e => g x o n1 n2 (s x o e)
theorem bno {t p u : V} {m : Str} (n1 : ¬ m = "tables") (n2 : ¬ m = "past") (n3 : ¬ m = "future") : (bf t p u).lookup m = none := by
  have e : bf t p u = putF "future" u (putF "past" p (putF "tables" t [])) := bf_init.symm
  rw [e, lookup_putF, if_neg n3, lookup_putF, if_neg n2, lookup_putF, if_neg n1]
  rfl
/-- do(deed) -/
def spDo1 (K : PySem.W.Frag) (C : Addr) : Sp := fun vs H Q _ => ∃ (a pa d t dx fu : Addr) (ps us : List V) (k : Nat), vs = [.ref a, .ref d] ∧ H a = some (.ins C dx (bf (.ref t) (.ref pa) (.ref fu))) ∧ H pa = some (.lst ps) ∧ ps.length = k ∧ k < 1000 ∧ H fu = some (.lst us) ∧ a ≠ pa ∧ fu ≠ pa ∧
  spDone K [.ref t, .ref d] H (fun v H1 => ∃ (p dd : Addr) (ans : V) (n : Nat) (f : Tbs), v = .ref p ∧ H1 p = some (.tup [.ref dd, ans]) ∧ TsAt H1 dd n f ∧ ∀ H3, OnlyB a pa H H3 → BookAt C H3 a pa (k + 1) 0 n f → Q ans H3) E0
theorem ok_do {f : Addr} {fd : FuncData} (F : Fun K "do" "Book.do" sBookDo f fd) (T : BCls K C) (mMa : Meth K C "many" fMa) (bMa : Binds K fdMa ["self", "deeds"] []) (GbMa : FnOk P w K mg base CX0 7 fMa fdMa ["self", "deeds"] (spMany1 K C)) : FnOk P w K mg base CX0 8 f fd ["self", "deed"] (spDo1 K C) := by
  refine F.ok scBookDo (fun vs H Q E h => ?_) (fun cdv A outer s H vs Q E hr7 h => ?_)
  · obtain ⟨a, pa, d, t, dx, fu, ps, us, k, rfl, _⟩ := h
    rfl
  · obtain ⟨a, pa, d, t, dx, fu, ps, us, k, rfl, ha, hp, lp, fk, hf, n1, n2, h⟩ := h
    refine ⟨_,
    (pss_one (ps_ret (pe_ix ix_list (pe_meth (pv 0) T.cl mMa GbMa hr7 bMa .nil pass0 (pa_cons (pe_lst (pa_cons (pv 1) pa_nil)) pa_nil)) pe_int fun _ _ => rfl))), ?_⟩
    refine ⟨_, rfl, a, dx, _, rfl, ha, bno (by decide +kernel) (by decide +kernel) (by decide +kernel), _, rfl, by show 1 ≤ sizeLine; decide, fun l nl => ?_⟩
    have sl : Same H (upd H l (.lst [.ref d])) := same_new nl
    refine ⟨a, pa, l, d, t, dx, fu, ps, us, k, rfl, upd_same, sl _ _ ha, sl _ _ hp, lp, fk, sl _ _ hf, n1, n2, done_up (E' := E0) sl h fun v H1 s1 ⟨p, dd, ans, n, f, ev, hp1, ts, kk⟩ => ?_⟩
    exact ⟨p, dd, ans, n, f, ev, hp1, ts, fun L H3 o3 hL bk => ⟨L, [ans], 0, ans, rfl, rfl, SqL.of hL, rfl, kk H3 (o3.back sl) bk⟩⟩
def spBMake (C : Addr) : Sp := fun vs H Q _ => ∃ (a pa : Addr) (k j n : Nat) (f : Tbs) (nm : Str) (wd : Nat), vs = [.ref a, .str nm, .int (wd : Int)] ∧ BookAt C H a pa k j n f ∧ k < 1000 ∧ f nm = none ∧ n < 8 ∧ NameS 8 nm ∧ 1 ≤ wd ∧ wd ≤ 4 ∧ ∀ H', OnlyB a pa H H' → BookAt C H' a pa (k + 1) 0 (n + 1) (fset f nm (wd, [])) → Q .non H'
theorem ok_bmake {f : Addr} {fd : FuncData} (F : Fun K "make" "Book.make" sBookMake f fd) (T : BCls K C) (mDo : Meth K C "do" fDo) (bDo : Binds K fdDo ["self", "deed"] []) (GbDo : FnOk P w K mg base CX0 8 fDo fdDo ["self", "deed"] (spDo1 K C)) : FnOk P w K mg base CX0 9 f fd ["self", "name", "width"] (spBMake C) := by
  refine F.ok scBookMake (fun vs H Q E h => ?_) (fun cdv A outer s H vs Q E hr8 h => ?_)
  · obtain ⟨a, pa, k, j, n, f, nm, wd, rfl, _⟩ := h
    rfl
  · obtain ⟨a, pa, k, j, n, f, nm, wd, rfl, ⟨dx, t, fu, ps, us, ha, hp, lp, hf, lj, ts, n1, n2⟩, fk, h1, h2, h3, h4, h5, q⟩ := h
    refine ⟨_,
    (pss_one (ps_ret (pe_meth (pv 0) T.cl mDo GbDo hr8 bDo .nil pass0 (pa_cons (pe_tup (pa_cons pe_str (pa_cons (pv 1) (pa_cons (pv 2) pa_nil)))) pa_nil)))), ?_⟩
    refine ⟨_, rfl, a, dx, _, rfl, ha, bno (by decide +kernel) (by decide +kernel) (by decide +kernel), _, rfl, _, rfl, by show 3 ≤ sizeLine; decide, fun d nd => ?_⟩
    have sd : Same H (upd H d (.tup [.str "make", .str nm, .int (wd : Int)])) := same_new nd
    refine ⟨a, pa, d, t, dx, fu, ps, us, k, rfl, sd _ _ ha, sd _ _ hp, lp, fk, sd _ _ hf, n1, n2, t, d, .str nm, .int (wd : Int), rfl, .inl ⟨upd_same, t, nm, wd, n, f, rfl, ts.same sd, h1, h2, h3, h4, h5, fun p dd H1 s1 hp1 ts1 => ?_⟩⟩
    exact ⟨p, dd, .non, n + 1, _, rfl, hp1, ts1, fun H3 o3 bk => q H3 (o3.back sd) bk⟩
def spBFill (C : Addr) : Sp := fun vs H Q _ => ∃ (a pa l : Addr) (k j n : Nat) (f : Tbs) (nm : Str) (us : List V) (t : Nat × List (List Nat)) (rs : List (List Nat)), vs = [.ref a, .str nm, .ref l] ∧ BookAt C H a pa k j n f ∧ k < 1000 ∧ f nm = some t ∧ n < 100 ∧ 1 ≤ t.1 ∧ t.1 ≤ 4 ∧ H l = some (.lst us) ∧ Rows H us rs ∧ (∀ r ∈ rs, RowOk t.1 r) ∧ rs.length ≤ 40 ∧ rs.Nodup ∧
  ∀ (ss : List (List Nat)) (H' : Hp), OnlyB a pa H H' → BookAt C H' a pa (k + 1) 0 n (fset f nm (t.1, ss)) → ss.Perm rs → Sorted ss → Q (.int (rs.length : Int)) H'
theorem ok_bfill {f : Addr} {fd : FuncData} (F : Fun K "fill" "Book.fill" sBookFill f fd) (T : BCls K C) (mDo : Meth K C "do" fDo) (bDo : Binds K fdDo ["self", "deed"] []) (GbDo : FnOk P w K mg base CX0 8 fDo fdDo ["self", "deed"] (spDo1 K C)) : FnOk P w K mg base CX0 9 f fd ["self", "name", "rows"] (spBFill C) := by
  refine F.ok scBookFill (fun vs H Q E h => ?_) (fun cdv A outer s H vs Q E hr8 h => ?_)
  · obtain ⟨a, pa, l, k, j, n, f, nm, us, t, rs, rfl, _⟩ := h
    rfl
  · obtain ⟨a, pa, l, k, j, n, f, nm, us0, t, rs, rfl, ⟨dx, tb, fu, ps, us, ha, hp, lp, hf, lj, ts, n1, n2⟩, fk, h1, h2, h3, h4, hl, ro, h5, h6, h7, q⟩ := h
    refine ⟨_,
    (pss_one (ps_ret (pe_meth (pv 0) T.cl mDo GbDo hr8 bDo .nil pass0 (pa_cons (pe_tup (pa_cons pe_str (pa_cons (pv 1) (pa_cons (pv 2) pa_nil)))) pa_nil)))), ?_⟩
    refine ⟨_, rfl, a, dx, _, rfl, ha, bno (by decide +kernel) (by decide +kernel) (by decide +kernel), _, rfl, _, rfl, by show 3 ≤ sizeLine; decide, fun d nd => ?_⟩
    have sd : Same H (upd H d (.tup [.str "fill", .str nm, .ref l])) := same_new nd
    refine ⟨a, pa, d, tb, dx, fu, ps, us, k, rfl, sd _ _ ha, sd _ _ hp, lp, fk, sd _ _ hf, n1, n2, tb, d, .str nm, .ref l, rfl, .inr ⟨upd_same, tb, l, us0, nm, n, f, t, rs, rfl, ts.same sd, h1, h2, h3, h4, sd _ _ hl, ro.same sd, h5, h6, h7, fun p dd ss H1 s1 hp1 ts1 pm sr => ?_⟩⟩
    exact ⟨p, dd, _, n, _, rfl, hp1, ts1, fun H3 o3 bk => q ss H3 (o3.back sd) bk pm sr⟩
end
end VQ
namespace VQ
open PySem PySem.Spec PyProof.Rows L2 LamX
/-! ### a book with what is behind and before it -/
abbrev Stp := List Str × Tbs
/-- tables that stand one behind the other -/
inductive StpsAt (H : Hp) : List V → List Stp → Prop
  | nil : StpsAt H [] []
  | cons {t : Addr} {p : Stp} {vs : List V} {ps : List Stp} (h : TsN H t p.1 p.2) (r : StpsAt H vs ps) : StpsAt H (.ref t :: vs) (p :: ps)
theorem StpsAt.len {H : Hp} {vs : List V} {ps : List Stp} (h : StpsAt H vs ps) : vs.length = ps.length := by
  induction h with
  | nil => rfl
  | cons h r ih => rw [List.length_cons, List.length_cons, ih]
theorem StpsAt.snoc {H : Hp} {vs : List V} {ps : List Stp} {t : Addr} {p : Stp} (h : StpsAt H vs ps) (ht : TsN H t p.1 p.2) : StpsAt H (vs ++ [.ref t]) (ps ++ [p]) := by
  induction h with
  | nil => exact .cons ht .nil
  | cons h r ih => exact .cons h ih
theorem TsN.moved {H H' : Hp} (m : ∀ x o, TD o → H x = some o → H' x = some o) {a : Addr} {zs : List Str} {f : Tbs} (h : TsN H a zs f) : TsN H' a zs f := by
  obtain ⟨kvs, h1, h2, nd, h3⟩ := h
  exact ⟨kvs, m _ _ (.inr ⟨_, rfl⟩) h1, h2, nd, fun nm => (h3 nm).moved m⟩
theorem StpsAt.moved {H H' : Hp} (m : ∀ x o, TD o → H x = some o → H' x = some o) {vs : List V} {ps : List Stp} (h : StpsAt H vs ps) : StpsAt H' vs ps := by
  induction h with
  | nil => exact .nil
  | cons h r ih => exact .cons (h.moved m) ih
/-- a book: its tables, what is behind it, what was taken back -/
def BookN (C : Addr) (H : Hp) (a pa fu : Addr) (zs : List Str) (f : Tbs) (past fut : List Stp) : Prop := ∃ (dx t : Addr) (ps us : List V), H a = some (.ins C dx (bf (.ref t) (.ref pa) (.ref fu))) ∧ H pa = some (.lst ps) ∧ H fu = some (.lst us) ∧ TsN H t zs f ∧ StpsAt H ps past ∧ StpsAt H us fut ∧ a ≠ pa ∧ fu ≠ pa ∧ a ≠ fu
theorem BookN.same {C : Addr} {H H' : Hp} {a pa fu : Addr} {zs : List Str} {f : Tbs} {past fut : List Stp} (s : Same H H') (h : BookN C H a pa fu zs f past fut) : BookN C H' a pa fu zs f past fut := by
  obtain ⟨dx, t, ps, us, h1, h2, h3, h4, h5, h6, n1, n2, n3⟩ := h
  exact ⟨dx, t, ps, us, s _ _ h1, s _ _ h2, s _ _ h3, h4.same s, h5.moved fun x o _ e => s x o e, h6.moved fun x o _ e => s x o e, n1, n2, n3⟩
section
variable {P : Program} {w : World} {K : PySem.W.Frag} {mg : Str → Option Value} {base : Heap} {C : Addr} {R : Ref}
/-- many([deed]), told or refused -/
def spManyN (C : Addr) (R : Ref) : Sp := fun vs H Q E => ∃ (a pa fu l d : Addr) (zs : List Str) (f : Tbs) (past fut : List Stp) (D : Deed) (ws : List V), vs = [.ref a, .ref l] ∧ H l = some (.lst [.ref d]) ∧ BookN C H a pa fu zs f past fut ∧ past.length < 1000 ∧ H d = some (.tup (.str (wordOf D) :: ws)) ∧ TsOk f ∧ Fine f zs.length D ∧ Things H D ws ∧
  (∀ ans ms g, To f zs D ans ms g → ∀ (L fu' : Addr) (H' : Hp), OnlyB a pa H H' → H' L = some (.lst [ans]) → H fu' = none → BookN C H' a pa fu' ms g (past ++ [(zs, f)]) [] → Q (.ref L) H') ∧ ∀ Cc fs, No R f D Cc fs → Refs H E Cc fs
theorem ok_manyN {f : Addr} {fd : FuncData} (F : Fun K "many" "Book.many" sBookMany f fd) (b : Blt mg) (T : BCls K C) (hDo : Has P w K mg base (L2.CX P w) 6 "done" sDone ["tables", "deed"] (spDoneR R)) : FnOk P w K mg base (L2.CX P w) 7 f fd ["self", "deeds"] (spManyN C R) := by
  obtain ⟨fDo, fdDo, aDo, GDo⟩ := hDo
  refine F.okX scBookMany (fun vs H Q E h => ?_) (fun cdv A outer s H vs Q E hr6 h => ?_)
  · obtain ⟨a, pa, fu, l, d, zs, f, past, fut, D, ws, rfl, _⟩ := h
    rfl
  · obtain ⟨a, pa, fu, l, d, zs, f, past, fut, D, ws, rfl, hl, ⟨dx, t, ps, us, ha, hp, hf, ts, sp, su, n1, n2, n3⟩, fk, hd, tok, fine, th, q1, q2⟩ := h
    have lp : ps.length = past.length := sp.len
    refine ⟨_,
    (pss_cons (ps_set (i := 2) scBookMany.nd rfl (.inl rfl) (pe_fld (pv 0) rfl))
    (pss_cons (ps_set (i := 3) scBookMany.nd rfl (.inl rfl) (pe_lst pa_nil))
    (pss_cons (ps_for (passes_of rfl) rfl (pi_list (pv 1)) (pg_name (i := 4) scBookMany.nd rfl (.inl rfl))
      (pss_cons (ps_asg (pe_call GDo hr6 rfl aDo.gl aDo.fn.kp aDo.bd .nil (passes_call (takes_of rfl rfl rfl rfl) (fun _ _ _ _ h => h)) (pa_cons (pv 2) (pa_cons (pv 4) pa_nil))) (pg_tup rfl (pgs_cons (pg_name (i := 2) scBookMany.nd rfl (.inl rfl)) (pgs_cons (pg_name (i := 5) scBookMany.nd rfl (.inl rfl)) pgs_nil))))
      (pss_one (ps_expr (pe_bm PySem.F.plainAttrs_list PySem.F.slot_list_append PySem.F.type_list_append mt_append (pv 3) (pa_cons (pv 5) pa_nil))))))
    (pss_cons (ps_if (pt_truth (pv 3) (by intro _; rfl))
      (pss_cons (ps_expr (pe_bm PySem.F.plainAttrs_list PySem.F.slot_list_append PySem.F.type_list_append mt_append (pe_fld (pv 0) rfl) (pa_cons (pe_fld (pv 0) rfl) pa_nil)))
      (pss_cons (ps_fld (pv 0) (pe_lst pa_nil) rfl)
      (pss_one (ps_fld (pv 0) (pv 2) rfl))))
      pss_nil)
    (pss_one (ps_ret (pv 3))))))), ?_⟩
    refine ⟨_, rfl, a, C, dx, _, _, rfl, ha, T.cl, T.nT, bf_tables, ?_⟩
    refine ⟨by decide, fun L nL => ?_⟩
    have sL : Same H (upd H L (.lst [])) := same_new nL
    have nLa : L ≠ a := (ne_of_none ha nL).symm
    have nLp : L ≠ pa := (ne_of_none hp nL).symm
    refine ⟨_, rfl, l, rfl, ⟨_, SqL.of (sL _ _ hl)⟩, ?_⟩
    refine for_list (xs := [V.ref d]) (fun i σ H' => (i = 0 ∧ σ = [some (.ref a), some (.ref l), some (.ref t), some (.ref L), none, none] ∧ H' = upd H L (.lst [])) ∨ (i = 1 ∧ ∃ (dd : Addr) (ans : V) (ms : List Str) (g : Tbs), σ = [some (.ref a), some (.ref l), some (.ref dd), some (.ref L), some (.ref d), some ans] ∧ Same H H' ∧ H' L = some (.lst [ans]) ∧ TsN H' dd ms g ∧ To f zs D ans ms g)) (.inl ⟨rfl, rfl, rfl⟩) ?_ ?_ ?_
    · rintro i σ H' _ (⟨_, _, rfl⟩ | ⟨_, dd, ans, ms, g, _, s1, _⟩)
      · exact SqL.of (sL _ _ hl)
      · exact SqL.of (s1 _ _ hl)
    · rintro i x σ H' hx (⟨rfl, rfl, rfl⟩ | ⟨rfl, _⟩)
      · have ex : V.ref d = x := by injection hx
        subst ex
        refine ⟨_, rfl, _, rfl, t, d, ws, zs, f, D, rfl, sL _ _ hd, ts.same sL, tok, fine, th.same sL, fun ans ms g tt p dd H1 s1 hp1 ts1 => ?_, fun Cc fs no e H1 s1 => q2 Cc fs no e H1 (sL.trans s1)⟩
        have hL1 := s1 _ _ (show upd H L (.lst []) L = some (.lst []) from upd_same)
        refine ⟨p, _, rfl, SqT.of hp1, rfl, _, _, rfl, _, _, rfl, rfl, ?_⟩
        refine ⟨_, rfl, .inl ⟨rfl, _, SqL.of hL1⟩, _, rfl, L, [], ans, rfl, rfl, hL1, by decide, ?_⟩
        refine .inr ⟨rfl, dd, ans, ms, g, rfl, fun x o e => ?_, upd_same, ts1.moved fun x o td e => ?_, tt⟩
        · rw [upd_ne (ne_of_none e nL)]
          exact s1 _ _ (sL _ _ e)
        · rw [upd_ne (fun q => by rw [q, hL1] at e; rcases td with ⟨xs, rfl⟩ | ⟨kvs, rfl⟩ <;> cases e)]
          exact e
      · cases hx
    · rintro σ H2 (⟨e, _⟩ | ⟨_, dd, ans, ms, g, rfl, s2, hL2, ts2, tt⟩)
      · cases e
      refine ⟨_, rfl, true, .inl ⟨[ans], SqL.of hL2, rfl⟩, iteT ?_⟩
      have ha2 := s2 _ _ ha
      have hp2 := s2 _ _ hp
      refine ⟨_, rfl, a, C, dx, _, _, rfl, ha2, T.cl, T.nP, bf_past, .inl ⟨rfl, _, SqL.of hp2⟩, _, rfl, a, C, dx, _, _, rfl, ha2, T.cl, T.nT, bf_tables, pa, ps, .ref t, rfl, rfl, hp2, by rw [lp]; exact Nat.lt_trans fk (by decide), ?_⟩
      have ha3 : (upd H2 pa (.lst (ps ++ [.ref t]))) a = some (.ins C dx (bf (.ref t) (.ref pa) (.ref fu))) := (upd_ne n1).trans ha2
      refine ⟨by decide, fun u2 nu => ?_⟩
      have nau : a ≠ u2 := ne_of_none ha3 nu
      have npu : pa ≠ u2 := ne_of_none (show (upd H2 pa (.lst (ps ++ [.ref t]))) pa = _ from upd_same) nu
      refine ⟨_, rfl, a, C, dx, _, rfl, (upd_ne nau).trans ha3, T.cl, T.nF, by show 3 < 1000; decide, ?_⟩
      rw [bf_setF]
      refine ⟨_, rfl, _, rfl, a, C, dx, _, rfl, upd_same, T.cl, T.nT, by show 3 < 1000; decide, ?_⟩
      rw [bf_setT]
      have keep : ∀ x o, x ≠ a → x ≠ pa → H2 x = some o → (upd (upd (upd (upd H2 pa (.lst (ps ++ [.ref t]))) u2 (.lst [])) a (.ins C dx (bf (.ref t) (.ref pa) (.ref u2)))) a (.ins C dx (bf (.ref dd) (.ref pa) (.ref u2)))) x = some o := fun x o m1 m2 e => by
        have e3 : (upd H2 pa (.lst (ps ++ [.ref t]))) x = some o := (upd_ne m2).trans e
        rw [upd_ne m1, upd_ne m1, upd_ne (ne_of_none e3 nu)]
        exact e3
      have mvd : ∀ x o, TD o → H2 x = some o → (upd (upd (upd (upd H2 pa (.lst (ps ++ [.ref t]))) u2 (.lst [])) a (.ins C dx (bf (.ref t) (.ref pa) (.ref u2)))) a (.ins C dx (bf (.ref dd) (.ref pa) (.ref u2)))) x = some o := fun x o td e => by
        refine keep x o ?_ ?_ e
        · intro q
          rw [q, ha2] at e
          rcases td with ⟨xs, rfl⟩ | ⟨kvs, rfl⟩ <;> cases e
        · intro q
          rw [q, hp2] at e
          rcases td with ⟨xs, rfl⟩ | ⟨kvs, rfl⟩ <;> cases e
      have nuH : H u2 = none := by
        cases e : H u2 with
        | none => rfl
        | some o =>
          rw [upd_ne npu.symm, s2 _ _ e] at nu
          cases nu
      refine ⟨_, rfl, q1 _ _ _ tt L u2 _ (fun x o m1 m2 e => keep x o m1 m2 (s2 _ _ e)) (keep _ _ nLa nLp hL2) nuH ⟨dx, dd, ps ++ [.ref t], [], upd_same, ?_, ?_, ts2.moved mvd, ((sp.moved fun x o _ e => s2 x o e).snoc (ts.same s2)).moved mvd, .nil, n1, npu.symm, nau⟩⟩
      · rw [upd_ne n1.symm, upd_ne n1.symm, upd_ne npu]
        exact upd_same
      · rw [upd_ne nau.symm, upd_ne nau.symm]
        exact upd_same
end
end VQ
namespace VQ
open PySem PySem.Spec PyProof.Rows L2 LamX
/-! ### do, steps -/
section
variable {P : Program} {w : World} {K : PySem.W.Frag} {mg : Str → Option Value} {base : Heap} {C fMa : Addr} {fdMa : FuncData} {R : Ref}
/-- do(deed), told or refused -/
def spDoN (C : Addr) (R : Ref) : Sp := fun vs H Q E => ∃ (a pa fu d : Addr) (zs : List Str) (f : Tbs) (past fut : List Stp) (D : Deed) (ws : List V), vs = [.ref a, .ref d] ∧ BookN C H a pa fu zs f past fut ∧ past.length < 1000 ∧ H d = some (.tup (.str (wordOf D) :: ws)) ∧ TsOk f ∧ Fine f zs.length D ∧ Things H D ws ∧
  (∀ ans ms g, To f zs D ans ms g → ∀ (fu' : Addr) (H' : Hp), OnlyB a pa H H' → H fu' = none → BookN C H' a pa fu' ms g (past ++ [(zs, f)]) [] → Q ans H') ∧ ∀ Cc fs, No R f D Cc fs → Refs H E Cc fs
theorem ok_doN {f : Addr} {fd : FuncData} (F : Fun K "do" "Book.do" sBookDo f fd) (T : BCls K C) (mMa : Meth K C "many" fMa) (bMa : Binds K fdMa ["self", "deeds"] []) (GbMa : FnOk P w K mg base (L2.CX P w) 7 fMa fdMa ["self", "deeds"] (spManyN C R)) : FnOk P w K mg base (L2.CX P w) 8 f fd ["self", "deed"] (spDoN C R) := by
  refine F.okX scBookDo (fun vs H Q E h => ?_) (fun cdv A outer s H vs Q E hr7 h => ?_)
  · obtain ⟨a, pa, fu, d, zs, f, past, fut, D, ws, rfl, _⟩ := h
    rfl
  · obtain ⟨a, pa, fu, d, zs, f, past, fut, D, ws, rfl, bk, fk, hd, tok, fine, th, q1, q2⟩ := h
    obtain ⟨dx, t, ps, us, ha, _⟩ := id bk
    refine ⟨_,
    (pss_one (ps_ret (pe_ix ix_list (pe_meth (pv 0) T.cl mMa GbMa hr7 bMa .nil (passes_call (takes_of rfl rfl rfl rfl) (fun _ _ _ _ h => h)) (pa_cons (pe_lst (pa_cons (pv 1) pa_nil)) pa_nil)) pe_int fun _ _ => rfl))), ?_⟩
    refine ⟨_, rfl, a, dx, _, rfl, ha, bno (by decide +kernel) (by decide +kernel) (by decide +kernel), _, rfl, by show 1 ≤ sizeLine; decide, fun l nl => ?_⟩
    have sl : Same H (upd H l (.lst [.ref d])) := same_new nl
    refine ⟨a, pa, fu, l, d, zs, f, past, fut, D, ws, rfl, upd_same, bk.same sl, fk, sl _ _ hd, tok, fine, th.same sl, fun ans ms g tt L fu' H' ob hL nf bk' => ?_, fun Cc fs no e H1 s1 => q2 Cc fs no e H1 (sl.trans s1)⟩
    have nf' : H fu' = none := by
      cases e : H fu' with
      | none => rfl
      | some o => rw [sl _ _ e] at nf; cases nf
    exact ⟨L, [ans], 0, ans, rfl, rfl, SqL.of hL, rfl, q1 ans ms g tt fu' H' (ob.back sl) nf' bk'⟩
end
section
variable {P : Program} {w : World} {K : PySem.W.Frag} {mg : Str → Option Value} {base : Heap} {C : Addr}
abbrev sBookSteps : Stmt := inClass (top 43) 13
theorem scBookSteps : FnScope ["self"] ["self"] (defScope sBookSteps) := ⟨rfl, rfl, rfl, by decide +kernel, rfl, by decide +kernel, by decide +kernel⟩
def spBSteps (C : Addr) : Sp := fun vs H Q _ => ∃ (a pa fu : Addr) (zs : List Str) (f : Tbs) (past fut : List Stp), vs = [.ref a] ∧ BookN C H a pa fu zs f past fut ∧ ∀ p, H p = none → Q (.ref p) (upd H p (.tup [.int (past.length : Int), .int (fut.length : Int)]))
theorem ok_bsteps {f : Addr} {fd : FuncData} (F : Fun K "steps" "Book.steps" sBookSteps f fd) (b : Blt mg) (T : BCls K C) : FnOk P w K mg base CX0 1 f fd ["self"] (spBSteps C) := by
  refine F.ok scBookSteps (fun vs H Q E h => ?_) (fun cdv A outer s H vs Q E hr0 h => ?_)
  · obtain ⟨a, pa, fu, zs, f, past, fut, rfl, _⟩ := h
    rfl
  · obtain ⟨a, pa, fu, zs, f, past, fut, rfl, ⟨dx, t, ps, us, ha, hp, hf, ts, sp, su, n1, n2, n3⟩, q⟩ := h
    refine ⟨_,
    (pss_one (ps_ret (pe_tup (pa_cons (pe_callB call_len_seq (by rfl) b.len PySem.boot_len (pa_cons (pe_fld (pv 0) rfl) pa_nil)) (pa_cons (pe_callB call_len_seq (by rfl) b.len PySem.boot_len (pa_cons (pe_fld (pv 0) rfl) pa_nil)) pa_nil))))), ?_⟩
    refine ⟨_, rfl, a, C, dx, _, _, rfl, ha, T.cl, T.nP, bf_past, pa, ps, rfl, .inl (SqL.of hp), ?_⟩
    refine ⟨_, rfl, a, C, dx, _, _, rfl, ha, T.cl, T.nF, bf_future, fu, us, rfl, .inl (SqL.of hf), by show 2 ≤ sizeLine; decide, fun p np => ?_⟩
    rw [sp.len, su.len]
    exact q p np
end
end VQ
namespace VQ
open PySem PySem.Spec PyProof.Rows L2 LamX
/-! ### undo, redo, names, len: good cases -/
theorem StpsAt.unsnoc {H : Hp} : ∀ {init : List Stp} {p : Stp} {vs : List V}, StpsAt H vs (init ++ [p]) → ∃ (vs0 : List V) (t : Addr), vs = vs0 ++ [.ref t] ∧ StpsAt H vs0 init ∧ TsN H t p.1 p.2
  | [], p, _, .cons h .nil => ⟨[], _, rfl, .nil, h⟩
  | q :: init, p, _, .cons h r => by
    obtain ⟨vs0, t, rfl, r0, ht⟩ := StpsAt.unsnoc r
    exact ⟨_ :: vs0, t, rfl, .cons h r0, ht⟩
/-- nothing but the book, its past and its future has changed -/
def OnlyU (a pa fu : Addr) (H H' : Hp) : Prop := ∀ x o, x ≠ a → x ≠ pa → x ≠ fu → H x = some o → H' x = some o
section
variable {P : Program} {w : World} {K : PySem.W.Frag} {mg : Str → Option Value} {base : Heap} {C : Addr}
abbrev sBookUndo : Stmt := inClass (top 43) 8
theorem scBookUndo : FnScope ["self"] ["self"] (defScope sBookUndo) := ⟨rfl, rfl, rfl, by decide +kernel, rfl, by decide +kernel, by decide +kernel⟩
def spBUndo (C : Addr) : Sp := fun vs H Q _ => ∃ (a pa fu : Addr) (zs : List Str) (f : Tbs) (init fut : List Stp) (p : Stp), vs = [.ref a] ∧ BookN C H a pa fu zs f (init ++ [p]) fut ∧ fut.length < 1000 ∧ ∀ H', OnlyU a pa fu H H' → BookN C H' a pa fu p.1 p.2 init (fut ++ [(zs, f)]) → Q .non H'
theorem ok_bundo {f : Addr} {fd : FuncData} (F : Fun K "undo" "Book.undo" sBookUndo f fd) (T : BCls K C) : FnOk P w K mg base CX0 1 f fd ["self"] (spBUndo C) := by
  refine F.ok scBookUndo (fun vs H Q E h => ?_) (fun cdv A outer s H vs Q E hr0 h => ?_)
  · obtain ⟨a, pa, fu, zs, f, init, fut, p, rfl, _⟩ := h
    rfl
  · obtain ⟨a, pa, fu, zs, f, init, fut, p, rfl, ⟨dx, t, ps, us, ha, hp, hf, ts, sp, su, n1, n2, n3⟩, few, q⟩ := h
    obtain ⟨v0, tp, rfl, s0, htp⟩ := sp.unsnoc
    refine ⟨_,
    (pss_cons (ps_if (pt_not (pt_truth (pe_fld (pv 0) rfl) (by intro _; rfl)))
      (pss_one ps_never)
      pss_nil)
    (pss_cons (ps_expr (pe_bm PySem.F.plainAttrs_list PySem.F.slot_list_append PySem.F.type_list_append mt_append (pe_fld (pv 0) rfl) (pa_cons (pe_fld (pv 0) rfl) pa_nil)))
    (pss_one (ps_fld (pv 0) (pe_bm0 PySem.F.plainAttrs_list PySem.F.slot_list_pop PySem.F.type_list_pop mt_pop (pe_fld (pv 0) rfl)) rfl)))), ?_⟩
    refine ⟨_, rfl, a, C, dx, _, _, rfl, ha, T.cl, T.nP, bf_past, true, .inl ⟨_, SqL.of hp, by cases v0 <;> rfl⟩, iteF ?_⟩
    refine ⟨_, rfl, a, C, dx, _, _, rfl, ha, T.cl, T.nF, bf_future, .inl ⟨rfl, _, SqL.of hf⟩, _, rfl, a, C, dx, _, _, rfl, ha, T.cl, T.nT, bf_tables, fu, us, .ref t, rfl, rfl, hf, by rw [su.len]; exact Nat.lt_trans few (by decide), ?_⟩
    have ha1 : (upd H fu (.lst (us ++ [.ref t]))) a = some (.ins C dx (bf (.ref t) (.ref pa) (.ref fu))) := (upd_ne n3).trans ha
    have hf1 : (upd H fu (.lst (us ++ [.ref t]))) pa = some (.lst (v0 ++ [.ref tp])) := (upd_ne n2.symm).trans hp
    have ht1 := upd_same (H := H) (a := fu) (o := .lst (us ++ [.ref t]))
    have o1 : ∀ x o, x ≠ fu → H x = some o → (upd H fu (.lst (us ++ [.ref t]))) x = some o := fun x o n e => (upd_ne n).trans e
    generalize upd H fu (.lst (us ++ [.ref t])) = H1 at ha1 hf1 ht1 o1 ⊢
    refine ⟨_, rfl, a, C, dx, _, _, rfl, ha1, T.cl, T.nP, bf_past, .inl ⟨rfl, _, SqL.of hf1⟩, pa, _, .ref tp, rfl, rfl, hf1, by simp, ?_⟩
    rw [List.dropLast_concat]
    refine ⟨_, rfl, a, C, dx, _, rfl, (upd_ne n1).trans ha1, T.cl, T.nT, by show 3 < 1000; decide, ?_⟩
    rw [bf_setT]
    have keep : ∀ x o, x ≠ a → x ≠ pa → x ≠ fu → H x = some o → (upd (upd H1 pa (.lst v0)) a (.ins C dx (bf (.ref tp) (.ref pa) (.ref fu)))) x = some o := fun x o m1 m2 m3 e => by
      rw [upd_ne m1, upd_ne m2]
      exact o1 x o m3 e
    have mvd : ∀ x o, TD o → H x = some o → (upd (upd H1 pa (.lst v0)) a (.ins C dx (bf (.ref tp) (.ref pa) (.ref fu)))) x = some o := fun x o td e => by
      refine keep x o ?_ ?_ ?_ e
      · intro q
        rw [q, ha] at e
        rcases td with ⟨xs, rfl⟩ | ⟨kvs, rfl⟩ <;> cases e
      · intro q
        rw [q, hp] at e
        rcases td with ⟨xs, rfl⟩ | ⟨kvs, rfl⟩ <;> cases e
      · intro q
        rw [q, hf] at e
        rcases td with ⟨xs, rfl⟩ | ⟨kvs, rfl⟩ <;> cases e
    have e1 : (upd (upd H1 pa (.lst v0)) a (.ins C dx (bf (.ref tp) (.ref pa) (.ref fu)))) pa = some (.lst v0) := (upd_ne n1.symm).trans upd_same
    have e2 : (upd (upd H1 pa (.lst v0)) a (.ins C dx (bf (.ref tp) (.ref pa) (.ref fu)))) fu = some (.lst (us ++ [.ref t])) := (upd_ne n3.symm).trans ((upd_ne n2).trans ht1)
    exact q _ keep ⟨dx, tp, v0, us ++ [.ref t], upd_same, e1, e2, htp.moved mvd, s0.moved mvd, (su.moved mvd).snoc (ts.moved mvd), n1, n2, n3⟩
abbrev sBookNames : Stmt := inClass (top 43) 10
theorem scBookNames : FnScope ["self"] ["self"] (defScope sBookNames) := ⟨rfl, rfl, rfl, by decide +kernel, rfl, by decide +kernel, by decide +kernel⟩
def spBNames (C : Addr) : Sp := fun vs H Q _ => ∃ (a pa fu : Addr) (zs : List Str) (f : Tbs) (past fut : List Stp), vs = [.ref a] ∧ BookN C H a pa fu zs f past fut ∧ zs.length < 64 ∧ ∀ (ys : List Str) p, ys.Perm zs → sortedS ys = true → H p = none → Q (.ref p) (upd H p (.lst (ys.map V.str)))
theorem ok_bnames {f : Addr} {fd : FuncData} (F : Fun K "names" "Book.names" sBookNames f fd) (so : mg "sorted" = none) (T : BCls K C) : FnOk P w K mg base CX0 1 f fd ["self"] (spBNames C) := by
  refine F.ok scBookNames (fun vs H Q E h => ?_) (fun cdv A outer s H vs Q E hr0 h => ?_)
  · obtain ⟨a, pa, fu, zs, f, past, fut, rfl, _⟩ := h
    rfl
  · obtain ⟨a, pa, fu, zs, f, past, fut, rfl, ⟨dx, t, ps, us, ha, hp, hf, ⟨kvs, hk, ek, ndz, all⟩, sp, su, n1, n2, n3⟩, few, q⟩ := h
    refine ⟨_, (pss_one (ps_ret (pe_callB (call_sortedD rfl) (by rfl) so (by decide +kernel) (pa_cons (pe_fld (pv 0) rfl) pa_nil)))), ?_⟩
    exact ⟨_, rfl, a, C, dx, _, _, rfl, ha, T.cl, T.nT, bf_tables, t, kvs, zs, rfl, .inl hk, ek, few, fun ys p pm sr np => q ys p pm sr np⟩
end
end VQ
namespace VQ
open PySem PySem.Spec PyProof.Rows L2 LamX
/-! ### len(book); width and rows of a table that stands -/
section
variable {P : Program} {w : World} {K : PySem.W.Frag} {mg : Str → Option Value} {base : Heap} {C : Addr} {R : Ref}
abbrev sBookLen : Stmt := inClass (top 43) 16
theorem scBookLen : FnScope ["self"] ["self"] (defScope sBookLen) := ⟨rfl, rfl, rfl, by decide +kernel, rfl, by decide +kernel, by decide +kernel⟩
def spBLen (C : Addr) : Sp := fun vs H Q _ => ∃ (a pa fu : Addr) (zs : List Str) (f : Tbs) (past fut : List Stp), vs = [.ref a] ∧ BookN C H a pa fu zs f past fut ∧ Q (.int (zs.length : Int)) H
theorem ok_blen {f : Addr} {fd : FuncData} (F : Fun K "__len__" "Book.__len__" sBookLen f fd) (b : Blt mg) (T : BCls K C) : FnOk P w K mg base CX0 1 f fd ["self"] (spBLen C) := by
  refine F.ok scBookLen (fun vs H Q E h => ?_) (fun cdv A outer s H vs Q E hr0 h => ?_)
  · obtain ⟨a, pa, fu, zs, f, past, fut, rfl, _⟩ := h
    rfl
  · obtain ⟨a, pa, fu, zs, f, past, fut, rfl, ⟨dx, t, ps, us, ha, hp, hf, ts, sp, su, n1, n2, n3⟩, q⟩ := h
    obtain ⟨kvs, hk, lk, _⟩ := ts.at_
    refine ⟨_, (pss_one (ps_ret (pe_callB call_lenD (by rfl) b.len PySem.boot_len (pa_cons (pe_fld (pv 0) rfl) pa_nil)))), ?_⟩
    refine ⟨_, rfl, a, C, dx, _, _, rfl, ha, T.cl, T.nT, bf_tables, t, kvs, rfl, hk, ?_⟩
    rw [lk]
    exact q
def spBWidthN (C : Addr) (R : Ref) : Sp := fun vs H Q E => ∃ (a pa fu : Addr) (zs : List Str) (f : Tbs) (past fut : List Stp) (nm : Str), vs = [.ref a, .str nm] ∧ BookN C H a pa fu zs f past fut ∧ zs.length < 100 ∧ (∀ t, f nm = some t → Q (.int (t.1 : Int)) H) ∧ (f nm = none → Refs H E R.nt (zsF "NoTable" (.str nm)))
theorem ok_bwidthN {f : Addr} {fd : FuncData} (F : Fun K "width" "Book.width" sBookWidth f fd) (T : BCls K C) (hTo : Has P w K mg base (L2.CX P w) 4 "table_of" sTableOf ["tables", "name"] (spTableR R.nt)) : FnOk P w K mg base (L2.CX P w) 5 f fd ["self", "name"] (spBWidthN C R) := by
  obtain ⟨fTo, fdTo, aTo, GTo⟩ := hTo
  refine F.okX scBookWidth (fun vs H Q E h => ?_) (fun cdv A outer s H vs Q E hr4 h => ?_)
  · obtain ⟨a, pa, fu, zs, f, past, fut, nm, rfl, _⟩ := h
    rfl
  · obtain ⟨a, pa, fu, zs, f, past, fut, nm, rfl, ⟨dx, tb, ps, us, ha, hp, hf, ts, sp, su, n1, n2, n3⟩, few, q1, q2⟩ := h
    refine ⟨_,
    (pss_one (ps_ret (pe_ix ix_tup (pe_call GTo hr4 rfl aTo.gl aTo.fn.kp aTo.bd .nil (passes_call (takes_of rfl rfl rfl rfl) (fun _ _ _ _ h => h)) (pa_cons (pe_fld (pv 0) rfl) (pa_cons (pv 1) pa_nil))) pe_int fun _ _ => rfl))), ?_⟩
    refine ⟨_, rfl, a, C, dx, _, _, rfl, ha, T.cl, T.nT, bf_tables, _, rfl, tb, nm, zs.length, f, rfl, ts.at_, few, fun t v ht tv => ?_, q2⟩
    obtain ⟨ta, ra, us0, rfl, hta, hra, ro⟩ := tv
    exact ⟨ta, _, 0, _, rfl, rfl, SqT.of hta, rfl, q1 t ht⟩
def spBRowsN (C : Addr) (R : Ref) : Sp := fun vs H Q E => ∃ (a pa fu : Addr) (zs : List Str) (f : Tbs) (past fut : List Stp) (nm : Str), vs = [.ref a, .str nm] ∧ BookN C H a pa fu zs f past fut ∧ zs.length < 100 ∧ (∀ t, f nm = some t → ∀ (p : Addr) (us : List V), H p = none → Rows H us t.2 → Q (.ref p) (upd H p (.lst us))) ∧ (f nm = none → Refs H E R.nt (zsF "NoTable" (.str nm)))
theorem ok_browsN {f : Addr} {fd : FuncData} (F : Fun K "rows" "Book.rows" sBookRows f fd) (b : Blt mg) (T : BCls K C) (hTo : Has P w K mg base (L2.CX P w) 4 "table_of" sTableOf ["tables", "name"] (spTableR R.nt)) : FnOk P w K mg base (L2.CX P w) 5 f fd ["self", "name"] (spBRowsN C R) := by
  obtain ⟨fTo, fdTo, aTo, GTo⟩ := hTo
  refine F.okX scBookRows (fun vs H Q E h => ?_) (fun cdv A outer s H vs Q E hr4 h => ?_)
  · obtain ⟨a, pa, fu, zs, f, past, fut, nm, rfl, _⟩ := h
    rfl
  · obtain ⟨a, pa, fu, zs, f, past, fut, nm, rfl, ⟨dx, tb, ps, us, ha, hp, hf, ts, sp, su, n1, n2, n3⟩, few, q1, q2⟩ := h
    refine ⟨_,
    (pss_one (ps_ret (pe_callTy call_list_of (by rfl) b.list (by decide +kernel) (pa_cons (pe_ix ix_tup (pe_call GTo hr4 rfl aTo.gl aTo.fn.kp aTo.bd .nil (passes_call (takes_of rfl rfl rfl rfl) (fun _ _ _ _ h => h)) (pa_cons (pe_fld (pv 0) rfl) (pa_cons (pv 1) pa_nil))) pe_int fun _ _ => rfl) pa_nil)))), ?_⟩
    refine ⟨_, rfl, a, C, dx, _, _, rfl, ha, T.cl, T.nT, bf_tables, _, rfl, tb, nm, zs.length, f, rfl, ts.at_, few, fun t v ht tv => ?_, q2⟩
    obtain ⟨ta, ra, us0, rfl, hta, hra, ro⟩ := tv
    exact ⟨ta, _, 1, _, rfl, rfl, SqT.of hta, rfl, ra, us0, rfl, .inr (SqT.of hra), fun l nl => q1 t ht l us0 nl ro⟩
end
end VQ
namespace VQ
open PySem L2 LamX
/-! ### _law_tried: refusals without a field, and those that name a table -/
structure First (K : PySem.W.Frag) (Ta NT NR C : Addr) : Prop where
  y1 : PySem.W.exmAny K (.ref C) [.ref Ta, .ref NT, .ref NR] = some true
  xf : XfC K C
  nc : PySem.W.findIn K (.ref C) "called" = some none
  na : PySem.W.findIn K (.ref C) "name" = some none
def CaughtF (K : PySem.W.Frag) (Ta NT NR : Addr) (Q : VK) : XK := fun cls d H => ∃ (C dd : Addr) (fs : List (Str × V)) (nm : Str) (y : V), cls = .ref C ∧ d = some dd ∧ First K Ta NT NR C ∧ H dd = some (.xd fs) ∧ fs.lookup ("called" : Str) = some (V.str nm) ∧ fs.lookup ("name" : Str) = some y ∧
  ∀ p, H p = none → Q (.ref p) (upd H p (.tup [.str nm, y]))
def CaughtN (K : PySem.W.Frag) (Ta NT NR BT Uf Fu TM QE No : Addr) (Q : VK) : XK := fun cls d H => Caught K Ta NT NR BT Uf Fu TM QE No Q cls d H ∨ CaughtF K Ta NT NR Q cls d H
def TTriedN (K : PySem.W.Frag) (Ta NT NR BT Uf Fu TM QE No : Addr) : (XK → Hp → VK → Prop) → Hp → VK → Prop := fun tl H Q =>
  tl (CaughtN K Ta NT NR BT Uf Fu TM QE No Q) H fun v H1 => [V.str "told", v].length ≤ sizeLine ∧ ∀ p, H1 p = none → Q (.ref p) (upd H1 p (.tup [.str "told", v]))
section
variable {P : Program} {w : World} {K : PySem.W.Frag} {mg : Str → Option Value} {base : Heap} {Ta NT NR BT Uf Fu TM QE No : Addr}
theorem tried_givesN {g : Addr} {cdg : Value} {q : Str} (G : Errs mg Ta NT NR BT Uf Fu TM QE No) : Gives2 P w K mg base ["_law_ask", "e"] "_law_tried" (defScope sTried) g cdg (defBody sTried) "_law_ask" q (TTriedN K Ta NT NR BT Uf Fu TM QE No) := by
  intro A2 outer2 f c' s H Q tl act hc h
  refine ⟨_, pss_one (ps_try_manyA (X := (cxOf C8.CX0 P w K mg base ["_law_ask", "e"] "_law_tried" (defScope sTried) g cdg A2 outer2 s H C8.E0).nox) (i := 1) (n := "e")
      (tb := fun W D σ H => ∃ Ech : XK, (∀ cls d σ' H', σ'.length = 2 → Ech cls d H' → W cls d σ' H') ∧ σ[0]? = some (some (.ref f)) ∧ H c' = some (CodeO c' q) ∧ tl Ech H fun v H1 => [V.str "told", v].length ≤ sizeLine ∧ ∀ p, H1 p = none → D.rt (.ref p) (upd H1 p (.tup [.str "told", v])))
      rfl rfl scTried.nd rfl rfl LamX.takes0 (fun W pn xe tk _ => ?_)
      (HdsA.cons (Cte.three ⟨rfl, by decide, .inl G.ta⟩ ⟨rfl, by decide, .inl G.nt⟩ ⟨rfl, by decide, .inl G.nr⟩) (fun a oe cls d pn hz hf => pss_one (ps_ret (pe_tup (pa_cons (pe_xfA hz hf (pv 1)) (pa_cons (pe_xfA hz hf (pv 1)) pa_nil)))))
      (HdsA.cons (Cte.two ⟨rfl, by decide, .inl G.bt⟩ ⟨rfl, by decide, .inl G.uf⟩) (fun a oe cls d pn hz hf => pss_one (ps_ret (pe_tup (pa_cons (pe_xfA hz hf (pv 1)) (pa_cons (pe_xfA hz hf (pv 1)) pa_nil)))))
      (HdsA.cons (Cte.one ⟨rfl, by decide, .inl G.fu⟩) (fun a oe cls d pn hz hf => pss_one (ps_ret (pe_tup (pa_cons (pe_xfA hz hf (pv 1)) (pa_cons (pe_xfA hz hf (pv 1)) pa_nil)))))
      (HdsA.cons (Cte.one ⟨rfl, by decide, .inl G.tm⟩) (fun a oe cls d pn hz hf => pss_one (ps_ret (pe_tup (pa_cons (pe_xfA hz hf (pv 1)) (pa_cons (pe_xfA hz hf (pv 1)) pa_nil)))))
      (HdsA.cons (Cte.two ⟨rfl, by decide, .inl G.qe⟩ ⟨rfl, by decide, .inl G.no⟩) (fun a oe cls d pn hz hf => pss_one (ps_ret (pe_tup (pa_cons (pe_xfA hz hf (pv 1)) (pa_cons pe_str pa_nil)))))
      HdsA.nil)))))), ?_⟩
  · refine ⟨fun pins s' σ H' D I ⟨Ech, hW, h1, h2, h3⟩ => ?_⟩
    exact (pss_one (ps_ret (pe_tup (pa_cons pe_str (pa_cons (act W pn xe Ech _ _ tk hW) pa_nil))))).run pins s' σ H' D I ⟨h1, h2, h3⟩
  · refine ⟨CaughtN K Ta NT NR BT Uf Fu TM QE No Q, fun cls d σ' H' hlen hC => ?_, rfl, hc, h⟩
    rcases hC with hC | hC
    · obtain ⟨C, dd, fs, nm, rfl, rfl, pl, hdd, hl, hq⟩ := hC
      refine ⟨false, pl.n1, fun z => Bool.noConfusion z, fun _ => ⟨false, pl.n2, fun z => Bool.noConfusion z, fun _ => ⟨false, pl.n3, fun z => Bool.noConfusion z, fun _ => ⟨false, pl.n4, fun z => Bool.noConfusion z, fun _ => ⟨true, pl.y5, fun _ a na => ?_, fun z => Bool.noConfusion z⟩⟩⟩⟩⟩
      have e1 : (σ'.set 1 (some (V.ref a)))[1]? = some (some (V.ref a)) := List.getElem?_set_self (by rw [hlen]; decide)
      exact ⟨C, pl.xf, pl.nc, _, e1, rfl, rfl, dd, fs, _, rfl, hdd, hl, by show 2 ≤ sizeLine; decide, fun p hp => hq p hp⟩
    · obtain ⟨C, dd, fs, nm, y, rfl, rfl, pl, hdd, hl, hy, hq⟩ := hC
      refine ⟨true, pl.y1, fun _ a na => ?_, fun z => Bool.noConfusion z⟩
      have e1 : (σ'.set 1 (some (V.ref a)))[1]? = some (some (V.ref a)) := List.getElem?_set_self (by rw [hlen]; decide)
      exact ⟨C, pl.xf, pl.nc, _, e1, rfl, rfl, dd, fs, _, rfl, hdd, hl, C, pl.xf, pl.na, _, e1, rfl, rfl, dd, fs, _, rfl, hdd, hy, by show 2 ≤ sizeLine; decide, fun p hp => hq p hp⟩
end
end VQ
namespace VQ
open PySem L2 LamX
/-! ### Book() -/
section
variable {P : Program} {w : World} {K : PySem.W.Frag} {mg : Str → Option Value} {base : Heap} {C : Addr}
def spBInitN (C : Addr) : Sp := fun vs H Q _ => ∃ (x dx : Addr), vs = [.ref x] ∧ H x = some (.ins C dx []) ∧ ∀ (pa fu : Addr) (H' : Hp), (∀ y o, y ≠ x → H y = some o → H' y = some o) → H pa = none → H fu = none → BookN C H' x pa fu [] (fun _ => none) [] [] → Q .non H'
theorem ok_binitN {f : Addr} {fd : FuncData} (F : Fun K "__init__" "Book.__init__" sBookInit f fd) (T : BCls K C) : FnOk P w K mg base CX0 1 f fd ["self"] (spBInitN C) := by
  refine F.ok scBookInit (fun vs H Q E h => ?_) (fun cdv A outer s H vs Q E hr h => ?_)
  · obtain ⟨x, dx, rfl, _⟩ := h
    rfl
  · obtain ⟨x, dx, rfl, hx, k⟩ := h
    refine ⟨_,
    (pss_cons (ps_fld (pv 0) pe_dnewK rfl)
    (pss_cons (ps_fld (pv 0) (pe_lst pa_nil) rfl)
    (pss_one (ps_fld (pv 0) (pe_lst pa_nil) rfl)))), ?_⟩
    intro t nt
    have nxt : x ≠ t := ne_of_none hx nt
    refine ⟨_, rfl, x, C, dx, [], rfl, (upd_ne nxt).trans hx, T.cl, T.nT, by decide, ?_⟩
    have x1 : (upd (upd H t (.dK [])) x (.ins C dx (putF "tables" (.ref t) []))) x = some (.ins C dx (putF "tables" (.ref t) [])) := upd_same
    have t1 : (upd (upd H t (.dK [])) x (.ins C dx (putF "tables" (.ref t) []))) t = some (.dK []) := (upd_ne nxt.symm).trans upd_same
    have o1 : ∀ y o, y ≠ x → H y = some o → (upd (upd H t (.dK [])) x (.ins C dx (putF "tables" (.ref t) []))) y = some o := fun y o n h => by
      rw [upd_ne n, upd_ne (ne_of_none h nt)]
      exact h
    generalize (upd (upd H t (.dK [])) x (.ins C dx (putF "tables" (.ref t) []))) = H1 at x1 t1 o1
    refine ⟨by decide, fun pa np => ?_⟩
    have nxp : x ≠ pa := ne_of_none x1 np
    refine ⟨_, rfl, x, C, dx, _, rfl, (upd_ne nxp).trans x1, T.cl, T.nP, Nat.lt_of_le_of_lt (length_putF _ _ _) (by decide), ?_⟩
    have x2 : (upd (upd H1 pa (.lst [])) x (.ins C dx (putF "past" (.ref pa) (putF "tables" (.ref t) [])))) x = some (.ins C dx (putF "past" (.ref pa) (putF "tables" (.ref t) []))) := upd_same
    have p2 : (upd (upd H1 pa (.lst [])) x (.ins C dx (putF "past" (.ref pa) (putF "tables" (.ref t) [])))) pa = some (.lst []) := (upd_ne nxp.symm).trans upd_same
    have o2 : ∀ y o, y ≠ x → H1 y = some o → (upd (upd H1 pa (.lst [])) x (.ins C dx (putF "past" (.ref pa) (putF "tables" (.ref t) [])))) y = some o := fun y o n h => by
      rw [upd_ne n, upd_ne (ne_of_none h np)]
      exact h
    generalize (upd (upd H1 pa (.lst [])) x (.ins C dx (putF "past" (.ref pa) (putF "tables" (.ref t) [])))) = H2 at x2 p2 o2
    refine ⟨by decide, fun fu nf => ?_⟩
    have nxf : x ≠ fu := ne_of_none x2 nf
    have nfp : fu ≠ pa := (ne_of_none p2 nf).symm
    refine ⟨_, rfl, x, C, dx, _, rfl, (upd_ne nxf).trans x2, T.cl, T.nF, Nat.lt_of_le_of_lt (length_putF _ _ _) (Nat.lt_of_le_of_lt (Nat.add_le_add_right (length_putF _ _ _) 1) (by decide)), ?_⟩
    rw [bf_init]
    have o3 : ∀ y o, y ≠ x → H2 y = some o → (upd (upd H2 fu (.lst [])) x (.ins C dx (bf (.ref t) (.ref pa) (.ref fu)))) y = some o := fun y o n h => by
      rw [upd_ne n, upd_ne (ne_of_none h nf)]
      exact h
    have t3 := o3 _ _ nxt.symm (o2 _ _ nxt.symm t1)
    have gone : ∀ b, b ≠ x → (∀ o, H b = some o → False) → H b = none := fun b _ z => by
      cases e : H b with
      | none => rfl
      | some o => exact (z o e).elim
    refine k pa fu _ (fun y o n h => o3 _ _ n (o2 _ _ n (o1 _ _ n h))) (gone pa nxp.symm fun o e => ?_) (gone fu nxf.symm fun o e => ?_) ⟨dx, t, [], [], upd_same, o3 _ _ nxp.symm p2, (upd_ne nxf.symm).trans upd_same, ⟨[], t3, rfl, List.nodup_nil, fun nm => True.intro⟩, .nil, .nil, nxp, nfp, nxf⟩
    · have := o1 pa o nxp.symm e
      rw [np] at this
      cases this
    · have := o2 fu o nxf.symm (o1 fu o nxf.symm e)
      rw [nf] at this
      cases this
end
end VQ
namespace VQ
open PySem L2 LamX
/-! ### the law's own: good names, good rows -/
section
variable {P : Program} {w : World} {K : PySem.W.Frag} {mg : Str → Option Value} {base : Heap}
abbrev nLawGoodName : List Str := ["_law_name", "_law_sign"]
def spGoodName : Sp := fun vs H Q _ => ∃ z : Str, vs = [.str z] ∧ NameS 8 z ∧ ∀ H', Same H H' → Q (.bl true) H'
end
end VQ
namespace VQ
open PySem L2 LamX
/-! ### the law's own: good rows -/
section
variable {P : Program} {w : World} {K : PySem.W.Frag} {mg : Str → Option Value} {base : Heap}
abbrev nLawGoodRow : List Str := ["_law_row_here", "_law_width", "_law_one"]
def spGoodRow : Sp := fun vs H Q _ => ∃ (a : Addr) (r : List Nat) (wd : Nat), vs = [.ref a, .int (wd : Int)] ∧ H a = some (.tup (r.map numV)) ∧ RowOk wd r ∧ wd ≤ 4 ∧ ∀ H', Same H H' → Q (.bl true) H'
end
end VQ
namespace VQ
open PySem PySem.Spec PyProof.Rows L2 LamX
/-! ### things that are no deeds -/
theorem FnOk.or {P : Program} {w : World} {K : PySem.W.Frag} {mg : Str → Option Value} {base : Heap} {CX : CXT} {k : Nat} {f : Addr} {fd : FuncData} {ps : List Str} {sp sp' : Sp} (F : FnOk P w K mg base CX k f fd ps sp) (G : FnOk P w K mg base CX k f fd ps sp') :
    FnOk P w K mg base CX k f fd ps (fun vs H Q E => sp vs H Q E ∨ sp' vs H Q E) :=
  ⟨fun vs H Q E q => q.elim (F.len vs H Q E) (G.len vs H Q E), fun A outer s H args us vs Q E hr he hb hv hs => hs.elim (F.run A outer s H args us vs Q E hr he hb hv) (G.run A outer s H args us vs Q E hr he hb hv)⟩
theorem At.uniq {K : PySem.W.Frag} {mg : Str → Option Value} {x : Str} {st : Stmt} {ps : List Str} {f f' : Addr} {fd fd' : FuncData} (a : At K mg x st ps f fd) (a' : At K mg x st ps f' fd') : f = f' ∧ fd = fd' := by
  have e : f = f' := by
    have := a.gl.symm.trans a'.gl
    injection this with this
    injection this
  subst e
  obtain ⟨_, _, _, _, _, _, _, _, _, _, lk, _⟩ := a.fn.ex
  obtain ⟨_, _, _, _, _, _, _, _, _, _, lk', _⟩ := a'.fn.ex
  rw [lk] at lk'
  injection lk' with q
  injection q with _ _ q _
  injection q with q
  exact ⟨rfl, q⟩
theorem Has.or {P : Program} {w : World} {K : PySem.W.Frag} {mg : Str → Option Value} {base : Heap} {CX : CXT} {k : Nat} {x : Str} {st : Stmt} {ps : List Str} {sp sp' : Sp} (h : Has P w K mg base CX k x st ps sp) (h' : Has P w K mg base CX k x st ps sp') :
    Has P w K mg base CX k x st ps (fun vs H Q E => sp vs H Q E ∨ sp' vs H Q E) := by
  obtain ⟨f, fd, a, F⟩ := h
  obtain ⟨f', fd', a', F'⟩ := h'
  obtain ⟨rfl, rfl⟩ := a.uniq a'
  exact ⟨f, fd, a, FnOk.or F F'⟩
abbrev sBadDeed : Stmt := inClass (top 9) 0
theorem scBadDeed : FnScope ["self"] ["self"] (defScope sBadDeed) := ⟨rfl, rfl, rfl, by decide +kernel, rfl, by decide +kernel, by decide +kernel⟩
def countsV : List (Str × V) := [("make", .int 3), ("drop", .int 2), ("put", .int 3), ("take", .int 3), ("fill", .int 3)]
/-- a first thing that is no text -/
inductive NoStr (H : Hp) : V → Prop
  | non : NoStr H .non
  | int (i : Int) : NoStr H (.int i)
  | lst {a : Addr} {xs : List V} (h : H a = some (.lst xs)) : NoStr H (.ref a)
inductive NoDeed (H : Hp) : V → Prop
  | non : NoDeed H .non
  | int (i : Int) : NoDeed H (.int i)
  | str (z : Str) : NoDeed H (.str z)
  | lst {a : Addr} {xs : List V} (h : H a = some (.lst xs)) : NoDeed H (.ref a)
  | nil {a : Addr} (h : H a = some (.tup [])) : NoDeed H (.ref a)
  | first {a : Addr} {x : V} {xs : List V} (h : H a = some (.tup (x :: xs))) (n : NoStr H x) : NoDeed H (.ref a)
  | word {a : Addr} {z : Str} {xs : List V} (h : H a = some (.tup (.str z :: xs))) (n : ∀ i : Int, (z, V.int i) ∈ countsV → i ≠ ((xs.length + 1 : Nat) : Int)) : NoDeed H (.ref a)
theorem NoStr.same {H H' : Hp} (s : Same H H') {v : V} (h : NoStr H v) : NoStr H' v := by
  cases h with
  | non => exact .non
  | int i => exact .int i
  | lst h => exact .lst (s _ _ h)
theorem NoDeed.same {H H' : Hp} (s : Same H H') {v : V} (h : NoDeed H v) : NoDeed H' v := by
  cases h with
  | non => exact .non
  | int i => exact .int i
  | str z => exact .str z
  | lst h => exact .lst (s _ _ h)
  | nil h => exact .nil (s _ _ h)
  | first h n => exact .first (s _ _ h) (n.same s)
  | word h n => exact .word (s _ _ h) n
theorem at_zero {x : V} {xs : List V} : atI (x :: xs) 0 = some x := atI_nat (j := 0) rfl
theorem counts_int {z : Str} {v : V} (m : (z, v) ∈ countsV) : ∃ i : Int, v = .int i := by
  simp only [countsV, List.mem_cons, Prod.mk.injEq, List.not_mem_nil, or_false] at m
  rcases m with ⟨_, e⟩ | ⟨_, e⟩ | ⟨_, e⟩ | ⟨_, e⟩ | ⟨_, e⟩ <;> exact ⟨_, e⟩
section
variable {P : Program} {w : World} {K : PySem.W.Frag} {mg : Str → Option Value} {base : Heap} {R : Ref} {aCo aAc BD : Addr}
def badF : List (Str × V) := [("called", .str "BadDeed")]
def spNeedO (BD : Addr) : Sp := fun vs H Q E => ∃ v, vs = [v] ∧ NoDeed H v ∧ Refs H E BD badF
theorem has_needO {fI : Addr} {fdI : FuncData} (b : Blt mg) (gCo : mg "COUNTS" = some (.ref aCo)) (tCo : CountTab K w aCo) (EB : ErrC K mg "BadDeed" BD fI fdI "BadDeed.__init__" sBadDeed) (a : AtE K mg "need_deed" sNeedDeed ["thing"]) : Has P w K mg base (L2.CX P w) 3 "need_deed" sNeedDeed ["thing"] (spNeedO BD) := by
  obtain ⟨f, fd, a⟩ := a
  have GI : FnOk P w K mg base CX0 1 fI fdI ["self"] (spErr K BD "BadDeed") := ok_err EB scBadDeed (.inl rfl) rfl
  refine ⟨f, fd, a, a.fn.okX scNeedDeed (fun vs H Q E h => ?_) (fun cdv A outer s H vs Q E hr2 h => ?_)⟩
  · obtain ⟨v, rfl, _⟩ := h
    rfl
  · obtain ⟨v, rfl, od, k⟩ := h
    refine ⟨_,
    (pss_cons (ps_if (PW.pt (pw_or (pt_not (pt_val (pe_isi (pv 0) rfl b.isi rfl b.tuple (c := "tuple") (by decide +kernel)))) (pw_or (pt_cmpR op_eq (pe_callB call_len_seq (by rfl) b.len PySem.boot_len (pa_cons (pv 0) pa_nil)) pe_int (nomark _)) (pw_or1 (pt_not (pt_val (pe_callB call_isi (by rfl) b.isi (by decide +kernel) (pa_cons (pe_ix ix_tup (pv 0) pe_int fun _ _ => rfl) (pa_cons (pe_bltn (v := .ty "str") rfl b.str (by decide +kernel) rfl) pa_nil)))))))))
      (pss_one (ps_raise rfl (takes_of rfl rfl rfl rfl) (pmk_oex0 EB.ox EB.it EB.ty GI hr2 EB.bd pass0 rfl EB.gl)))
      pss_nil)
    (pss_one (ps_if (pt_cmpR op_ne (pe_getTab (pe_glob (v := .ref aCo) rfl gCo rfl) (pe_ix ix_tup (pv 0) pe_int fun _ _ => rfl) ⟨rfl, rfl, rfl, rfl⟩) (pe_callB call_len_seq (by rfl) b.len PySem.boot_len (pa_cons (pv 0) pa_nil)) (nomark _))
      (pss_one (ps_raise rfl (takes_of rfl rfl rfl rfl) (pmk_oex0 EB.ox EB.it EB.ty GI hr2 EB.bd pass0 rfl EB.gl)))
      pss_nil))), ?_⟩
    have fly : tMkO0 BD (spErr K BD "BadDeed") [some v] H E := raise_plain (σ := [some v]) fun d hd => k d H (Same.refl H) hd
    cases od with
    | non => exact rd_isi rfl (.base .non) (b := false) (by decide +kernel) ⟨_, rfl, iteT fly⟩
    | int i => exact rd_isi rfl (.base (.int i)) (b := false) (by decide +kernel) ⟨_, rfl, iteT fly⟩
    | str z => exact rd_isi rfl (.base (.str z)) (b := false) (by decide +kernel) ⟨_, rfl, iteT fly⟩
    | lst h => exact rd_isi rfl (.base (.lst h)) (b := false) (by decide +kernel) ⟨_, rfl, iteT fly⟩
    | nil h =>
      refine rd_isi rfl (.base (.tup h)) (b := true) (by decide +kernel) ⟨_, rfl, iteF ?_⟩
      refine ⟨_, rfl, _, _, rfl, .inr (SqT.of h), rfl, _, rfl, ?_⟩
      rw [decide_eq_true (show V.int ((([] : List V).length : Nat) : Int) = V.int 0 from rfl)]
      exact iteT fly
    | first h n =>
      rename_i x xs
      refine rd_isi rfl (.base (.tup h)) (b := true) (by decide +kernel) ⟨_, rfl, iteF ?_⟩
      refine ⟨_, rfl, _, _, rfl, .inr (SqT.of h), rfl, _, rfl, ?_⟩
      rw [decide_eq_false (show ¬ V.int (((x :: xs).length : Nat) : Int) = V.int 0 by
        intro e
        injection e with e
        rw [List.length_cons] at e
        omega)]
      cases n with
      | non => exact iteF ⟨_, rfl, _, _, 0, _, rfl, rfl, SqT.of h, at_zero, _, _, _, _, false, rfl, .ty "str", .base .non, kit_ty (by decide +kernel), _, rfl, iteT fly⟩
      | int i => exact iteF ⟨_, rfl, _, _, 0, _, rfl, rfl, SqT.of h, at_zero, _, _, _, _, false, rfl, .ty "str", .base (.int i), kit_ty (by decide +kernel), _, rfl, iteT fly⟩
      | lst hl => exact iteF ⟨_, rfl, _, _, 0, _, rfl, rfl, SqT.of h, at_zero, _, _, _, _, false, rfl, .ty "str", .base (.lst hl), kit_ty (by decide +kernel), _, rfl, iteT fly⟩
    | word h n =>
      rename_i ad z xs
      refine rd_isi rfl (.base (.tup h)) (b := true) (by decide +kernel) ⟨_, rfl, iteF ?_⟩
      refine ⟨_, rfl, _, _, rfl, .inr (SqT.of h), rfl, _, rfl, ?_⟩
      rw [decide_eq_false (show ¬ V.int (((V.str z :: xs).length : Nat) : Int) = V.int 0 by
        intro e
        injection e with e
        rw [List.length_cons] at e
        omega)]
      refine iteF ⟨_, rfl, _, _, 0, _, rfl, rfl, SqT.of h, at_zero, _, _, _, _, true, rfl, .ty "str", .base (.str z), kit_ty (by decide +kernel), _, rfl, iteF ?_⟩
      refine ⟨aCo, _, rfl, tCo, _, rfl, _, _, 0, _, rfl, rfl, SqT.of h, at_zero, z, rfl, fun v mv => ?_, fun no => ?_⟩
      · obtain ⟨i, rfl⟩ := counts_int mv
        refine ⟨_, rfl, _, _, rfl, .inr (SqT.of h), rfl, _, rfl, ?_⟩
        rw [decide_eq_false (show ¬ V.int i = V.int (((V.str z :: xs).length : Nat) : Int) by
          intro e
          injection e with e
          exact n i mv e)]
        exact iteT fly
      · refine ⟨_, rfl, _, _, rfl, .inr (SqT.of h), rfl, _, rfl, ?_⟩
        rw [decide_eq_false (show ¬ V.non = V.int (((V.str z :: xs).length : Nat) : Int) from fun e => by cases e)]
        exact iteT fly
/-- done(tables, v), v no deed -/
def spDoneO (BD : Addr) : Sp := fun vs H Q E => ∃ (x v : V), vs = [x, v] ∧ NoDeed H v ∧ Refs H E BD badF
theorem has_doneO (hNd : Has P w K mg base (L2.CX P w) 3 "need_deed" sNeedDeed ["thing"] (spNeedO BD)) (a : AtE K mg "done" sDone ["tables", "deed"]) : Has P w K mg base (L2.CX P w) 6 "done" sDone ["tables", "deed"] (spDoneO BD) := by
  obtain ⟨f, fd, a⟩ := a
  obtain ⟨fNd, fdNd, aNd, GNd⟩ := hNd
  refine ⟨f, fd, a, a.fn.okX scDone (fun vs H Q E h => ?_) (fun cdv A outer s H vs Q E hr5 h => ?_)⟩
  · obtain ⟨x, v, rfl, _⟩ := h
    rfl
  · have hr3 := hr5.mono (show 3 ≤ 5 by decide)
    obtain ⟨x, v, rfl, od, k⟩ := h
    refine ⟨_,
    (pss_cons (ps_expr (pe_call GNd hr3 rfl aNd.gl aNd.fn.kp aNd.bd .nil (passes_call (takes_of rfl rfl rfl rfl) (fun _ _ _ _ h => h)) (pa_cons (pv 1) pa_nil)))
    (pss_cons ps_never
    (pss_cons ps_never
    (pss_one ps_never)))), ?_⟩
    exact ⟨_, rfl, v, rfl, od, k⟩
end
end VQ
namespace VQ
open PySem PySem.Spec PyProof.Rows L2 LamX
/-! ### rows of deeds, any of them refused or no deed at all -/
/-- a deed that lies in the heap -/
def DeedAt (H : Hp) (v : V) (D : Deed) : Prop := ∃ d ws, v = .ref d ∧ H d = some (.tup (.str (wordOf D) :: ws)) ∧ Things H D ws
theorem DeedAt.same {H H' : Hp} (s : Same H H') {v : V} {D : Deed} (h : DeedAt H v D) : DeedAt H' v D := by
  obtain ⟨d, ws, e, hd, th⟩ := h
  exact ⟨d, ws, e, s _ _ hd, th.same s⟩
/-- what a row of deeds ends in: told so far, the names, the tables -/
def ManyW (R : Ref) (BD : Addr) (H : Hp) (err : Addr → List (Str × V) → Prop) (fin : List V → List Str → Tbs → Prop) : List V → List V → List Str → Tbs → Prop
  | [], told, zs, f => fin told zs f
  | v :: vs, told, zs, f => (∃ D, DeedAt H v D ∧ TsOk f ∧ Fine f zs.length D ∧ (∀ ans ms g, To f zs D ans ms g → ManyW R BD H err fin vs (told ++ [ans]) ms g) ∧ ∀ C fs, No R f D C fs → err C fs) ∨ (NoDeed H v ∧ err BD badF)
section
variable {P : Program} {w : World} {K : PySem.W.Frag} {mg : Str → Option Value} {base : Heap} {C : Addr} {R : Ref} {BD : Addr}
def spManyG (C : Addr) (R : Ref) (BD : Addr) : Sp := fun vs H Q E => ∃ (a pa fu l : Addr) (us : List V) (zs : List Str) (f : Tbs) (past fut : List Stp), vs = [.ref a, .ref l] ∧ H l = some (.lst us) ∧ us.length < 100 ∧ BookN C H a pa fu zs f past fut ∧ past.length < 1000 ∧
  ManyW R BD H (fun Cc fs => Refs H E Cc fs) (fun told ms g => (us = [] → ∀ (L : Addr) (H' : Hp), Same H H' → H' L = some (.lst []) → Q (.ref L) H') ∧ (us ≠ [] → ∀ (L fu' : Addr) (H' : Hp), OnlyB a pa H H' → H' L = some (.lst told) → H fu' = none → BookN C H' a pa fu' ms g (past ++ [(zs, f)]) [] → Q (.ref L) H')) us [] zs f
theorem ok_manyG {f : Addr} {fd : FuncData} (F : Fun K "many" "Book.many" sBookMany f fd) (b : Blt mg) (T : BCls K C) (hDo : Has P w K mg base (L2.CX P w) 6 "done" sDone ["tables", "deed"] (fun vs H Q E => spDoneR R vs H Q E ∨ spDoneO BD vs H Q E)) : FnOk P w K mg base (L2.CX P w) 7 f fd ["self", "deeds"] (spManyG C R BD) := by
  obtain ⟨fDo, fdDo, aDo, GDo⟩ := hDo
  refine F.okX scBookMany (fun vs H Q E h => ?_) (fun cdv A outer s H vs Q E hr6 h => ?_)
  · obtain ⟨a, pa, fu, l, us, zs, f, past, fut, rfl, _⟩ := h
    rfl
  · obtain ⟨a, pa, fu, l, us, zs, f, past, fut, rfl, hl, few, ⟨dx, t, ps, ws, ha, hp, hf, ts, sp, su, n1, n2, n3⟩, fk, mw⟩ := h
    have lp : ps.length = past.length := sp.len
    refine ⟨_,
    (pss_cons (ps_set (i := 2) scBookMany.nd rfl (.inl rfl) (pe_fld (pv 0) rfl))
    (pss_cons (ps_set (i := 3) scBookMany.nd rfl (.inl rfl) (pe_lst pa_nil))
    (pss_cons (ps_for (passes_of rfl) rfl (pi_list (pv 1)) (pg_name (i := 4) scBookMany.nd rfl (.inl rfl))
      (pss_cons (ps_asg (pe_call GDo hr6 rfl aDo.gl aDo.fn.kp aDo.bd .nil (passes_call (takes_of rfl rfl rfl rfl) (fun _ _ _ _ h => h)) (pa_cons (pv 2) (pa_cons (pv 4) pa_nil))) (pg_tup rfl (pgs_cons (pg_name (i := 2) scBookMany.nd rfl (.inl rfl)) (pgs_cons (pg_name (i := 5) scBookMany.nd rfl (.inl rfl)) pgs_nil))))
      (pss_one (ps_expr (pe_bm PySem.F.plainAttrs_list PySem.F.slot_list_append PySem.F.type_list_append mt_append (pv 3) (pa_cons (pv 5) pa_nil))))))
    (pss_cons (ps_if (pt_truth (pv 3) (by intro _; rfl))
      (pss_cons (ps_expr (pe_bm PySem.F.plainAttrs_list PySem.F.slot_list_append PySem.F.type_list_append mt_append (pe_fld (pv 0) rfl) (pa_cons (pe_fld (pv 0) rfl) pa_nil)))
      (pss_cons (ps_fld (pv 0) (pe_lst pa_nil) rfl)
      (pss_one (ps_fld (pv 0) (pv 2) rfl))))
      pss_nil)
    (pss_one (ps_ret (pv 3))))))), ?_⟩
    refine ⟨_, rfl, a, C, dx, _, _, rfl, ha, T.cl, T.nT, bf_tables, ?_⟩
    refine ⟨by decide, fun L nL => ?_⟩
    have sL : Same H (upd H L (.lst [])) := same_new nL
    have nLa : L ≠ a := (ne_of_none ha nL).symm
    have nLp : L ≠ pa := (ne_of_none hp nL).symm
    refine ⟨_, rfl, l, rfl, ⟨_, SqL.of (sL _ _ hl)⟩, ?_⟩
    refine for_list (xs := us) (fun i σ H' => ∃ (dd : Addr) (told : List V) (ms : List Str) (g : Tbs) (o1 o2 : Option V), σ = [some (.ref a), some (.ref l), some (.ref dd), some (.ref L), o1, o2] ∧ Same H H' ∧ H' L = some (.lst told) ∧ told.length = i ∧ TsN H' dd ms g ∧ (i = 0 → told = []) ∧
      ManyW R BD H (fun Cc fs => Refs H E Cc fs) (fun told ms g => (us = [] → ∀ (L : Addr) (H' : Hp), Same H H' → H' L = some (.lst []) → Q (.ref L) H') ∧ (us ≠ [] → ∀ (L fu' : Addr) (H' : Hp), OnlyB a pa H H' → H' L = some (.lst told) → H fu' = none → BookN C H' a pa fu' ms g (past ++ [(zs, f)]) [] → Q (.ref L) H')) (us.drop i) told ms g) ⟨t, [], zs, f, none, none, rfl, sL, upd_same, rfl, ts.same sL, fun _ => rfl, mw⟩ ?_ ?_ ?_
    · rintro i σ H' _ ⟨dd, told, ms, g, o1, o2, _, s1, _⟩
      exact SqL.of (s1 _ _ hl)
    · rintro i x σ H' hx ⟨dd, told, ms, g, o1, o2, rfl, s1, hL1, lt, ts1, _, mw1⟩
      have li : i < us.length := (List.getElem?_eq_some_iff.mp hx).1
      have ed : us.drop i = x :: us.drop (i + 1) := by
        rw [List.drop_eq_getElem_cons li]
        rw [List.getElem?_eq_getElem li] at hx
        cases hx
        rfl
      rw [ed] at mw1
      rcases mw1 with ⟨D, ⟨d, ws1, rfl, hd, th⟩, tok, fine, k1, k2⟩ | ⟨od, k2⟩
      · refine ⟨_, rfl, _, rfl, .inl ⟨dd, d, ws1, ms, g, D, rfl, s1 _ _ hd, ts1, tok, fine, th.same s1, fun ans ms2 g2 tt p dd2 H1 s2 hp1 ts2 => ?_, fun Cc fs no e H1 s2 => k2 Cc fs no e H1 (s1.trans s2)⟩⟩
        have hL2 := s2 _ _ hL1
        refine ⟨p, _, rfl, SqT.of hp1, rfl, _, _, rfl, _, _, rfl, rfl, ?_⟩
        refine ⟨_, rfl, .inl ⟨rfl, _, SqL.of hL2⟩, _, rfl, L, told, ans, rfl, rfl, hL2, by rw [lt]; exact Nat.lt_trans li (Nat.lt_trans few (by decide)), ?_⟩
        refine ⟨dd2, told ++ [ans], ms2, g2, _, _, rfl, fun x o e => ?_, upd_same, by rw [List.length_append, lt]; rfl, ts2.moved fun x o td e => ?_, fun z => absurd z (Nat.succ_ne_zero _), k1 ans ms2 g2 tt⟩
        · rw [upd_ne (ne_of_none e nL)]
          exact s2 _ _ (s1 _ _ e)
        · rw [upd_ne (fun q => by rw [q, hL2] at e; rcases td with ⟨xs, rfl⟩ | ⟨kvs, rfl⟩ <;> cases e)]
          exact e
      · exact ⟨_, rfl, _, rfl, .inr ⟨_, _, rfl, od.same s1, fun d H1 s2 => k2 d H1 (s1.trans s2)⟩⟩
    · rintro σ H2 ⟨dd, told, ms, g, o1, o2, rfl, s2, hL2, lt, ts2, z0, mw2⟩
      rw [List.drop_length] at mw2
      obtain ⟨q0, q1⟩ := (show _ ∧ _ from mw2)
      by_cases c : us = []
      · have e0 : told = [] := z0 (by rw [c]; rfl)
        rw [e0] at hL2
        refine ⟨_, rfl, false, .inl ⟨[], SqL.of hL2, rfl⟩, iteF ?_⟩
        exact ⟨_, rfl, q0 c L H2 s2 hL2⟩
      have ne : told.isEmpty = false := by
        cases told with
        | nil => exact absurd (List.length_eq_zero_iff.mp lt.symm) c
        | cons _ _ => rfl
      refine ⟨_, rfl, true, .inl ⟨told, SqL.of hL2, by rw [ne]; rfl⟩, iteT ?_⟩
      have ha2 := s2 _ _ ha
      have hp2 := s2 _ _ hp
      refine ⟨_, rfl, a, C, dx, _, _, rfl, ha2, T.cl, T.nP, bf_past, .inl ⟨rfl, _, SqL.of hp2⟩, _, rfl, a, C, dx, _, _, rfl, ha2, T.cl, T.nT, bf_tables, pa, ps, .ref t, rfl, rfl, hp2, by rw [lp]; exact Nat.lt_trans fk (by decide), ?_⟩
      have ha3 : (upd H2 pa (.lst (ps ++ [.ref t]))) a = some (.ins C dx (bf (.ref t) (.ref pa) (.ref fu))) := (upd_ne n1).trans ha2
      refine ⟨by decide, fun u2 nu => ?_⟩
      have nau : a ≠ u2 := ne_of_none ha3 nu
      have npu : pa ≠ u2 := ne_of_none (show (upd H2 pa (.lst (ps ++ [.ref t]))) pa = _ from upd_same) nu
      refine ⟨_, rfl, a, C, dx, _, rfl, (upd_ne nau).trans ha3, T.cl, T.nF, by show 3 < 1000; decide, ?_⟩
      rw [bf_setF]
      refine ⟨_, rfl, _, rfl, a, C, dx, _, rfl, upd_same, T.cl, T.nT, by show 3 < 1000; decide, ?_⟩
      rw [bf_setT]
      have keep : ∀ x o, x ≠ a → x ≠ pa → H2 x = some o → (upd (upd (upd (upd H2 pa (.lst (ps ++ [.ref t]))) u2 (.lst [])) a (.ins C dx (bf (.ref t) (.ref pa) (.ref u2)))) a (.ins C dx (bf (.ref dd) (.ref pa) (.ref u2)))) x = some o := fun x o m1 m2 e => by
        have e3 : (upd H2 pa (.lst (ps ++ [.ref t]))) x = some o := (upd_ne m2).trans e
        rw [upd_ne m1, upd_ne m1, upd_ne (ne_of_none e3 nu)]
        exact e3
      have mvd : ∀ x o, TD o → H2 x = some o → (upd (upd (upd (upd H2 pa (.lst (ps ++ [.ref t]))) u2 (.lst [])) a (.ins C dx (bf (.ref t) (.ref pa) (.ref u2)))) a (.ins C dx (bf (.ref dd) (.ref pa) (.ref u2)))) x = some o := fun x o td e => by
        refine keep x o ?_ ?_ e
        · intro q
          rw [q, ha2] at e
          rcases td with ⟨xs, rfl⟩ | ⟨kvs, rfl⟩ <;> cases e
        · intro q
          rw [q, hp2] at e
          rcases td with ⟨xs, rfl⟩ | ⟨kvs, rfl⟩ <;> cases e
      have nuH : H u2 = none := by
        cases e : H u2 with
        | none => rfl
        | some o =>
          rw [upd_ne npu.symm, s2 _ _ e] at nu
          cases nu
      refine ⟨_, rfl, q1 c L u2 _ (fun x o m1 m2 e => keep x o m1 m2 (s2 _ _ e)) (keep _ _ nLa nLp hL2) nuH ⟨dx, dd, ps ++ [.ref t], [], upd_same, ?_, ?_, ts2.moved mvd, ((sp.moved fun x o _ e => s2 x o e).snoc (ts.same s2)).moved mvd, .nil, n1, npu.symm, nau⟩⟩
      · rw [upd_ne n1.symm, upd_ne n1.symm, upd_ne npu]
        exact upd_same
      · rw [upd_ne nau.symm, upd_ne nau.symm]
        exact upd_same
end
section
variable {P : Program} {w : World} {K : PySem.W.Frag} {mg : Str → Option Value} {base : Heap} {C fMa : Addr} {fdMa : FuncData} {R : Ref} {BD : Addr}
/-- do(deed) -/
def spDoG (C : Addr) (R : Ref) (BD : Addr) : Sp := fun vs H Q E => ∃ (a pa fu : Addr) (v : V) (zs : List Str) (f : Tbs) (past fut : List Stp), vs = [.ref a, v] ∧ BookN C H a pa fu zs f past fut ∧ past.length < 1000 ∧
  ((∃ D, DeedAt H v D ∧ TsOk f ∧ Fine f zs.length D ∧ (∀ ans ms g, To f zs D ans ms g → ∀ (fu' : Addr) (H' : Hp), OnlyB a pa H H' → H fu' = none → BookN C H' a pa fu' ms g (past ++ [(zs, f)]) [] → Q ans H') ∧ ∀ Cc fs, No R f D Cc fs → Refs H E Cc fs) ∨ (NoDeed H v ∧ Refs H E BD badF))
theorem ok_doG {f : Addr} {fd : FuncData} (F : Fun K "do" "Book.do" sBookDo f fd) (T : BCls K C) (mMa : Meth K C "many" fMa) (bMa : Binds K fdMa ["self", "deeds"] []) (GbMa : FnOk P w K mg base (L2.CX P w) 7 fMa fdMa ["self", "deeds"] (spManyG C R BD)) : FnOk P w K mg base (L2.CX P w) 8 f fd ["self", "deed"] (spDoG C R BD) := by
  refine F.okX scBookDo (fun vs H Q E h => ?_) (fun cdv A outer s H vs Q E hr7 h => ?_)
  · obtain ⟨a, pa, fu, v, zs, f, past, fut, rfl, _⟩ := h
    rfl
  · obtain ⟨a, pa, fu, v, zs, f, past, fut, rfl, bk, fk, h⟩ := h
    obtain ⟨dx, t, ps, us, ha, _⟩ := id bk
    refine ⟨_,
    (pss_one (ps_ret (pe_ix ix_list (pe_meth (pv 0) T.cl mMa GbMa hr7 bMa .nil (passes_call (takes_of rfl rfl rfl rfl) (fun _ _ _ _ h => h)) (pa_cons (pe_lst (pa_cons (pv 1) pa_nil)) pa_nil)) pe_int fun _ _ => rfl))), ?_⟩
    refine ⟨_, rfl, a, dx, _, rfl, ha, bno (by decide +kernel) (by decide +kernel) (by decide +kernel), _, rfl, by show 1 ≤ sizeLine; decide, fun l nl => ?_⟩
    have sl : Same H (upd H l (.lst [v])) := same_new nl
    refine ⟨a, pa, fu, l, [v], zs, f, past, fut, rfl, upd_same, (show 1 < 100 by decide), bk.same sl, fk, ?_⟩
    rcases h with ⟨D, dat, tok, fine, q1, q2⟩ | ⟨od, q2⟩
    · refine .inl ⟨D, dat.same sl, tok, fine, fun ans ms g tt => And.intro (fun e => absurd e (List.cons_ne_nil _ _)) (fun _ L fu' H' ob hL nf bk' => ?_), fun Cc fs no e H1 s1 => q2 Cc fs no e H1 (sl.trans s1)⟩
      exact ⟨L, [ans], 0, ans, rfl, rfl, SqL.of hL, rfl, q1 ans ms g tt fu' H' (ob.back sl) (sl.free nf) bk'⟩
    · exact .inr ⟨od.same sl, fun e H1 s1 => q2 e H1 (sl.trans s1)⟩
end
end VQ
namespace VQ
open PySem PySem.Spec PyProof.Rows L2 LamX
/-! ### repr(book) -/
section
variable {J : It} {n : Nat} {G : Hp → Prop} {Y : Nat → Hp → V → Hp → Prop}
theorem lc2_it (w : L2.Walk J n G Y) {g g1 : TG} {tt tt1 : TT} {wi1 : TI} {te : TE} {vs vs1 : List Nat} {σ : L2.St} {H1 : Hp} {D : Addr} {Qd : Hp → Prop} (Pv : Nat → Hp → Prop) (h0 : Pv 0 (upd H1 D (.lst []))) (hG : ∀ i H, i ≤ n → Pv i H → G H)
    (turn : ∀ (i : Nat) (x : V) (H H' : Hp), i < n → Pv i H → Y i H x H' → g x (wipe σ vs) H' fun σ2 H2 => wipe σ2 vs = wipe σ vs ∧ tt σ2 H2 fun c H3 =>
      if c = true then wi1 σ2 H3 fun J1 H4 => ∃ W1 : Nat → Nat → Hp → Prop, (∃ m, W1 0 m H4) ∧ ∀ j k H, W1 j k H →
        (J1.stop j H ∧ Pv (i + 1) H) ∨ (J1.go j H ∧ ∃ Nx1 : Hp → Prop, (∀ H', Nx1 H' → ∃ k', k' < k ∧ W1 (j + 1) k' H') ∧ ∀ x H', J1.yld j H x H' → g1 x (wipe σ2 vs1) H' fun σ3 H5 => wipe σ3 vs1 = wipe σ2 vs1 ∧ tt1 σ3 H5 fun c H6 =>
          if c = true then te σ3 H6 fun y H7 => ∃ acc, H7 D = some (.lst acc) ∧ acc.length < sizeLine ∧ Nx1 (upd H7 D (.lst (acc ++ [y]))) else Nx1 H6)
      else Pv (i + 1) H3) (fin : ∀ H, Pv n H → Qd H) :
    ∃ W : Nat → Nat → Hp → Prop, (∃ m, W 0 m (upd H1 D (.lst []))) ∧ ∀ i m H, W i m H →
      (J.stop i H ∧ Qd H) ∨ (J.go i H ∧ ∃ Nx : Hp → Prop, (∀ H', Nx H' → ∃ m', m' < m ∧ W (i + 1) m' H') ∧ ∀ x H', J.yld i H x H' → g x (wipe σ vs) H' fun σ2 H2 => wipe σ2 vs = wipe σ vs ∧ tt σ2 H2 fun c H3 =>
        if c = true then wi1 σ2 H3 fun J1 H4 => ∃ W1 : Nat → Nat → Hp → Prop, (∃ m, W1 0 m H4) ∧ ∀ j k H, W1 j k H →
          (J1.stop j H ∧ Nx H) ∨ (J1.go j H ∧ ∃ Nx1 : Hp → Prop, (∀ H', Nx1 H' → ∃ k', k' < k ∧ W1 (j + 1) k' H') ∧ ∀ x H', J1.yld j H x H' → g1 x (wipe σ2 vs1) H' fun σ3 H5 => wipe σ3 vs1 = wipe σ2 vs1 ∧ tt1 σ3 H5 fun c H6 =>
            if c = true then te σ3 H6 fun y H7 => ∃ acc, H7 D = some (.lst acc) ∧ acc.length < sizeLine ∧ Nx1 (upd H7 D (.lst (acc ++ [y]))) else Nx1 H6)
        else Nx H3) := by
  refine ⟨fun i m H => m + i = n ∧ Pv i H, ⟨n, rfl, h0⟩, ?_⟩
  rintro i m H ⟨em, p⟩
  have q := hG i H (by omega) p
  by_cases lt : i < n
  · exact .inr ⟨w.goes i H lt q, Pv (i + 1), fun H' p' => ⟨m - 1, by omega, by omega, p'⟩, fun x H' y => turn i x H H' lt p (w.yields i H x H' lt q y)⟩
  · have e : i = n := by omega
    subst e
    exact .inl ⟨w.stops H q, fin H p⟩
end
/-- how many rows these tables have -/
def rowsOf (f : Tbs) (z : Str) : Nat := ((f z).map fun t => t.2.length).getD 0
def cntAll (f : Tbs) (zs : List Str) : Nat := (zs.map (rowsOf f)).sum
theorem rowsOf_few {f : Tbs} (ok : TsOk f) (z : Str) : rowsOf f z ≤ 40 := by
  unfold rowsOf
  cases e : f z with
  | none => exact Nat.zero_le _
  | some t => exact (ok z t e).2.2.1
theorem cntAll_few {f : Tbs} (ok : TsOk f) : ∀ zs : List Str, cntAll f zs ≤ 40 * zs.length
  | [] => Nat.zero_le _
  | z :: zs => by
    have h1 := rowsOf_few ok z
    have h2 := cntAll_few ok zs
    show rowsOf f z + cntAll f zs ≤ 40 * (zs.length + 1)
    omega
theorem cntAll_take {f : Tbs} {zs : List Str} {i : Nat} {z : Str} (h : zs[i]? = some z) : cntAll f (zs.take (i + 1)) = cntAll f (zs.take i) + rowsOf f z := by
  unfold cntAll
  rw [List.take_add_one, h, List.map_append, List.sum_append]
  simp
def reprB (n m : Nat) : Str := ((((Str.empty ++ ("Book(" : Str)) ++ (toString (n : Int) : Str)) ++ (" tables, " : Str)) ++ (toString (m : Int) : Str)) ++ (" rows)" : Str)
theorem num_short : ∀ n : Nat, n < 400 → (toString (n : Int) : Str).length ≤ 10 ∧ ((n : Int).natAbs.log2 < 1920) := by
  have : ∀ n : Nat, n < 400 → (toString (n : Int) : Str).length ≤ 10 ∧ ((n : Int).natAbs.log2 < 1920) := by decide +kernel
  exact this
theorem reprB_law (n m : Nat) : reprB n m = ((((("Book(" : Str) ++ (toString (n : Int) : Str)) ++ (" tables, " : Str)) ++ (toString (m : Int) : Str)) ++ (" rows)" : Str)) := by
  unfold reprB
  rw [show Str.empty ++ ("Book(" : Str) = ("Book(" : Str) by decide +kernel]
section
variable {P : Program} {w : World} {K : PySem.W.Frag} {mg : Str → Option Value} {base : Heap} {C : Addr}
abbrev sBookRepr : Stmt := inClass (top 43) 17
abbrev nBookRepr : List Str := ["self", "rows", "table", "row"]
theorem scBookRepr : FnScope nBookRepr ["self"] (defScope sBookRepr) := ⟨rfl, rfl, rfl, by decide +kernel, rfl, by decide +kernel, by decide +kernel⟩
def spBRepr (C : Addr) : Sp := fun vs H Q _ => ∃ (a pa fu : Addr) (zs : List Str) (f : Tbs) (past fut : List Stp), vs = [.ref a] ∧ BookN C H a pa fu zs f past fut ∧ TsOk f ∧ zs.length ≤ 9 ∧ ∀ H', Same H H' → Q (.str (reprB zs.length (cntAll f zs))) H'
theorem ok_brepr {f : Addr} {fd : FuncData} (F : Fun K "__repr__" "Book.__repr__" sBookRepr f fd) (b : Blt mg) (T : BCls K C) : FnOk P w K mg base CX0 1 f fd ["self"] (spBRepr C) := by
  refine F.ok scBookRepr (fun vs H Q E h => ?_) (fun cdv A outer s H vs Q E hr h => ?_)
  · obtain ⟨a, pa, fu, zs, f, past, fut, rfl, _⟩ := h
    rfl
  · obtain ⟨a, pa, fu, zs, f, past, fut, rfl, ⟨dx, t, ps, us, ha, hp, hf, ⟨kvs, hk, ek, ndz, all⟩, sp, su, n1, n2, n3⟩, tok, few, q⟩ := h
    refine ⟨_,
    (pss_cons (ps_lock (ps_setLc2 (i := 1) (own := [("table", 2), ("row", 3)]) (vs1 := [3]) (g := (gName 2)) (tt := tYes) (wi1 := (iTup K (tOp (rIxT K) (tVar 2) (tC (.int 1))))) (g1 := (gName 3)) (tt1 := tYes) (te := (tVar 3)) rfl scBookRepr.nd rfl rfl (sw_true rfl rfl rfl (by decide +kernel)) (pi_values (pe_fld (pv 0) rfl)) (blkOk_by (N := nBookRepr) (sc := defScope sBookRepr) (by decide +kernel)) (by decide) (fun _ _ _ _ _ => (pg_name (i := 2) scBookRepr.nd rfl (.inl rfl))) (fun _ _ _ _ _ => pts_nil) (fun _ _ _ _ _ => (pi_tup (pe_ix ix_tup (pv 2) pe_int fun _ _ => rfl))) (fun _ _ _ _ _ => (pg_name (i := 3) scBookRepr.nd rfl (.inl rfl))) (fun _ _ _ _ _ => pts_nil) (fun _ _ _ _ _ => (pv 3))))
    (pss_one (ps_ret (pe_joined (.cons pe_str (.cons (pe_fmt (pe_callB call_lenD (by rfl) b.len PySem.boot_len (pa_cons (pe_fld (pv 0) rfl) pa_nil))) (.cons pe_str (.cons (pe_fmt (pe_callB call_len_seq (by rfl) b.len PySem.boot_len (pa_cons (pv 1) pa_nil))) (.cons pe_str .nil))))))))), ?_⟩
    have lk : kvs.length = zs.length := by
      have := congrArg List.length ek
      rwa [List.length_map, List.length_map] at this
    have ndk : (kvs.map (·.1)).Nodup := by
      rw [ek]
      exact List.Pairwise.map _ (fun x y n e => n (Sum.inr.inj e)) ndz
    have nat : t ≠ a := fun e => by rw [e, ha] at hk; cases hk
    refine ⟨t, _, hk, trivial, fun od => ?_⟩
    have old : ∀ p o, p ≠ t → H p = some o → upd H t (.frz od (.dK kvs)) p = some o := fun p o n e => (upd_ne n).trans e
    have hf1 := upd_same (H := H) (a := t) (o := .frz od (.dK kvs))
    have ha1 := old a _ nat.symm ha
    have mv : ∀ x xs, H x = some (.tup xs) → upd H t (.frz od (.dK kvs)) x = some (.tup xs) := fun x xs e => old x _ (fun z => by rw [z, hk] at e; cases e) e
    have back : ∀ (Hx : Hp), Same (upd H t (.frz od (.dK kvs))) Hx → Same H (upd Hx t (.dK kvs)) := fun Hx s x o e => by
      by_cases c : x = t
      · rw [c, upd_same]
        rw [c, hk] at e
        exact e
      · rw [upd_ne c]
        exact s _ _ (old x o c e)
    refine ⟨_, rfl, a, C, dx, _, _, rfl, ha1, T.cl, T.nT, bf_tables, t, od, kvs, rfl, hf1, fun D hD => ?_⟩
    generalize upd H t (.frz od (.dK kvs)) = Hf at hD hf1 old ha1 mv back ⊢
    have few2 : ∀ i, cntAll f (zs.take i) ≤ 360 := fun i => by
      have h1 := cntAll_few tok (zs.take i)
      have h2 : (zs.take i).length ≤ 9 := Nat.le_trans (List.length_take_le' ..) few
      omega
    refine lc2_it L2.walk_values (fun i H' => Same Hf H' ∧ ∃ acc : List V, H' D = some (.lst acc) ∧ acc.length = cntAll f (zs.take i)) ⟨same_new hD, [], upd_same, rfl⟩ (fun i H' _ z => z.1 _ _ hf1) ?_ ?_
    · rintro i x Ha Hb hi ⟨sa, acc, hacc, lacc⟩ ⟨rfl, k, e⟩
      have ez : (zs.map (Sum.inr : Str → L2.Key))[i]? = some k := by rw [← ek, List.getElem?_map, e]; rfl
      rw [List.getElem?_map] at ez
      obtain ⟨z, hz, rfl⟩ := Option.map_eq_some_iff.mp ez
      have h1 := all z
      rw [val_get ndk e] at h1
      cases ef : f z with
      | none =>
        rw [ef] at h1
        exact h1.elim
      | some tb =>
      rw [ef] at h1
      obtain ⟨ta, ra, ws, rfl, hta, hra, ro⟩ := h1
      have er : rowsOf f z = ws.length := by
        unfold rowsOf
        rw [ef, ro.len]
        rfl
      have eT := cntAll_take (f := f) hz
      have fT := few2 (i + 1)
      refine ⟨rfl, yes_turn ?_⟩
      refine ⟨_, rfl, ta, _, _, _, rfl, rfl, SqT.of (sa _ _ (mv _ _ hta)), atI_nat (j := 1) rfl, ra, rfl, ⟨_, SqT.of (sa _ _ (mv _ _ hra))⟩, ?_⟩
      refine in_tup (ys := ws) (fun j H' => Same Hf H' ∧ ∃ acc : List V, H' D = some (.lst acc) ∧ acc.length = cntAll f (zs.take i) + j) ⟨sa, acc, hacc, lacc⟩ (fun j H' z => SqT.of (z.1 _ _ (mv _ _ hra))) ?_ ?_
      · rintro j y H3 hy ⟨s3, acc3, h3, l3⟩
        have lj := (List.getElem?_eq_some_iff.mp hy).1
        refine ⟨rfl, yes_turn ⟨_, rfl, _, h3, ?_, same_put s3 hD, _, upd_same, ?_⟩⟩
        · exact lt_line (by omega)
        · rw [List.length_append, l3]
          rfl
      · rintro H3 ⟨s3, acc3, h3, l3⟩
        exact ⟨s3, acc3, h3, by rw [l3, eT, er]⟩
    · rintro Ha ⟨sa, acc, hacc, lacc⟩
      rw [lk, List.take_length] at lacc
      have sH := back Ha sa
      have fA : cntAll f zs ≤ 360 := by
        have := few2 zs.length
        rwa [List.take_length] at this
      refine ⟨sa _ _ hf1, ?_⟩
      have hD2 : (upd Ha t (.dK kvs)) D = some (.lst acc) := (upd_ne (fun e => by rw [e, hf1] at hD; cases hD)).trans hacc
      generalize upd Ha t (.dK kvs) = Hz at sH hD2 ⊢
      obtain ⟨z1, z2⟩ := num_short zs.length (by omega)
      obtain ⟨z3, z4⟩ := num_short (cntAll f zs) (by omega)
      have c0 : (Str.empty : Str).length = 0 := by decide +kernel
      have c1 : ("Book(" : Str).length = 5 := by decide +kernel
      have c2 : (" tables, " : Str).length = 9 := by decide +kernel
      have c3 : (" rows)" : Str).length = 6 := by decide +kernel
      have line : ∀ m : Nat, m ≤ 100 → m ≤ sizeLine := fun m h => Nat.le_trans h (by decide)
      refine ⟨_, rfl, line _ (by rw [Str.length_append]; omega), _, rfl, a, C, dx, _, _, rfl, sH _ _ ha, T.cl, T.nT, bf_tables, t, kvs, rfl, sH _ _ hk, ?_⟩
      rw [lk]
      refine .inr ⟨_, rfl, z2, _, rfl, line _ (by rw [Str.length_append, Str.length_append]; omega), _, rfl, line _ (by rw [Str.length_append, Str.length_append, Str.length_append]; omega), ?_⟩
      refine ⟨_, rfl, D, acc, rfl, .inl (SqL.of hD2), ?_⟩
      rw [lacc]
      exact .inr ⟨_, rfl, z4, _, rfl, line _ (by rw [Str.length_append, Str.length_append, Str.length_append, Str.length_append]; omega), _, rfl, line _ (by rw [Str.length_append, Str.length_append, Str.length_append, Str.length_append, Str.length_append]; omega), q Hz sH⟩
end
end VQ
namespace VQ
open PySem L2 LamX
/-! ### a book made from a model -/
abbrev nLawCopied : List Str := ["_law_model", "_law_book", "_law_name"]
/-- a table of a model: its width, a list of its rows -/
def ModT (H : Hp) (v : V) (wd : Nat) (rs : List (List Nat)) : Prop := ∃ t l us, v = .ref t ∧ H t = some (.tup [.int (wd : Int), .ref l]) ∧ H l = some (.lst us) ∧ Rows H us rs
theorem ModT.same {H H' : Hp} (s : Same H H') {v : V} {wd : Nat} {rs : List (List Nat)} (h : ModT H v wd rs) : ModT H' v wd rs := by
  obtain ⟨t, l, us, e, h1, h2, h3⟩ := h
  exact ⟨t, l, us, e, s _ _ h1, s _ _ h2, h3.same s⟩
abbrev Mod := List (Str × Nat × List (List Nat))
inductive ModL (H : Hp) : List (L2.Key × V) → Mod → Prop
  | nil : ModL H [] []
  | cons {nm : Str} {v : V} {wd : Nat} {rs : List (List Nat)} {kvs : List (L2.Key × V)} {M : Mod} (h : ModT H v wd rs) (t : ModL H kvs M) : ModL H ((Sum.inr nm, v) :: kvs) ((nm, wd, rs) :: M)
theorem ModL.same {H H' : Hp} (s : Same H H') : ∀ {kvs : List (L2.Key × V)} {M : Mod}, ModL H kvs M → ModL H' kvs M
  | _, _, .nil => .nil
  | _, _, .cons h t => .cons (h.same s) (t.same s)
theorem ModL.keys {H : Hp} : ∀ {kvs : List (L2.Key × V)} {M : Mod}, ModL H kvs M → kvs.map (·.1) = (M.map (·.1)).map Sum.inr
  | _, _, .nil => rfl
  | _, _, .cons h t => by rw [List.map_cons, t.keys]; rfl
theorem ModL.get {H : Hp} : ∀ {kvs : List (L2.Key × V)} {M : Mod}, ModL H kvs M → (M.map (·.1)).Nodup → ∀ {nm : Str} {wd : Nat} {rs : List (List Nat)}, (nm, wd, rs) ∈ M → ∃ v, valV kvs (Sum.inr nm) = some v ∧ ModT H v wd rs
  | _, _, .nil, _, _, _, _, m => by cases m
  | _, _, .cons (nm := n0) (v := v0) h t, nd, nm, wd, rs, m => by
    rw [List.map_cons, List.nodup_cons] at nd
    rcases List.mem_cons.mp m with e | m
    · cases e
      exact ⟨v0, valV_pos rfl, h⟩
    · obtain ⟨v, e1, e2⟩ := t.get nd.2 m
      refine ⟨v, ?_, e2⟩
      rw [valV_neg (fun e => nd.1 (by injection e with e; exact List.mem_map.mpr ⟨_, m, e.symm⟩))]
      exact e1
def ModAt (H : Hp) (m : Addr) (M : Mod) : Prop := ∃ kvs, H m = some (.dK kvs) ∧ ModL H kvs M
theorem ModAt.same {H H' : Hp} (s : Same H H') {m : Addr} {M : Mod} (h : ModAt H m M) : ModAt H' m M := by
  obtain ⟨kvs, h1, h2⟩ := h
  exact ⟨kvs, s _ _ h1, h2.same s⟩
structure ModOk (M : Mod) : Prop where
  nd : (M.map (·.1)).Nodup
  few : M.length ≤ 8
  nm : ∀ x ∈ M, NameS 8 x.1
  wd : ∀ x ∈ M, 1 ≤ x.2.1 ∧ x.2.1 ≤ 4
  row : ∀ x ∈ M, ∀ r ∈ x.2.2, RowOk x.2.1 r
  len : ∀ x ∈ M, x.2.2.length ≤ 40
  one : ∀ x ∈ M, x.2.2.Nodup
/-- the tables of these names, as the model has them -/
def Told (M : Mod) (zs : List Str) (f : Tbs) : Prop := ∀ nm, (nm ∈ zs → ∃ wd rs ss, (nm, wd, rs) ∈ M ∧ f nm = some (wd, ss) ∧ ss.Perm rs ∧ Sorted ss) ∧ (nm ∉ zs → f nm = none)
theorem take_one_more {α : Type} {xs : List α} {i : Nat} {x : α} (h : xs[i]? = some x) : xs.take (i + 1) = xs.take i ++ [x] := by
  rw [List.take_add_one, h]
  rfl
theorem not_before {α : Type} {xs : List α} (nd : xs.Nodup) {i : Nat} {x : α} (h : xs[i]? = some x) : x ∉ xs.take i := by
  have e : xs.take (i + 1) = xs.take i ++ [x] := take_one_more h
  have n2 : (xs.take i ++ [x]).Nodup := by
    rw [← e]
    exact nd.sublist (List.take_sublist _ _)
  intro m
  rw [List.nodup_append] at n2
  exact n2.2.2 x m x List.mem_cons_self rfl
theorem Told.more {M : Mod} {zs : List Str} {f : Tbs} {nm : Str} {wd : Nat} {rs ss : List (List Nat)} (h : Told M zs f) (m : (nm, wd, rs) ∈ M) (pm : ss.Perm rs) (sr : Sorted ss) : Told M (zs ++ [nm]) (fset (fset f nm (wd, [])) nm (wd, ss)) := by
  intro z
  unfold fset
  by_cases c : z = nm
  · refine ⟨fun _ => ⟨wd, rs, ss, by rw [c]; exact m, if_pos c, pm, sr⟩, fun no => absurd (List.mem_append.mpr (.inr (by rw [c]; exact List.mem_cons_self))) no⟩
  · rw [if_neg c, if_neg c]
    refine ⟨fun mz => (h z).1 ?_, fun no => (h z).2 fun mz => no (List.mem_append.mpr (.inl mz))⟩
    rcases List.mem_append.mp mz with mz | mz
    · exact mz
    · exact absurd (List.mem_singleton.mp mz) c
section
variable {P : Program} {w : World} {K : PySem.W.Frag} {mg : Str → Option Value} {base : Heap} {C fIn fMk fFi : Addr} {fdIn fdMk fdFi : FuncData}
def spCopied (C : Addr) : Sp := fun vs H Q _ => ∃ (m : Addr) (M : Mod), vs = [.ref m] ∧ ModAt H m M ∧ ModOk M ∧ ∀ (bk pa : Addr) (f : Tbs) (H' : Hp), H bk = none → H pa = none → Same H H' → BookAt C H' bk pa (2 * M.length) 0 M.length f → Told M (M.map (·.1)) f → Q (.ref bk) H'
end
end VQ
namespace VQ
open PySem PySem.Spec PyProof.Rows L2
/-! ### d == {} -/
def rEqMt : R2 := fun x y H Q => ∃ (a b : Addr) (ka : List (L2.Key × V)), x = .ref a ∧ y = .ref b ∧ H a = some (.dK ka) ∧ H b = some (.dK []) ∧ Q (.bl ka.isEmpty) H
theorem op_eqMt {X : Cx} (hu : X.A.units < cLine) : OpR X (compareOp .Eq) rEqMt := by
  intro pins s σ H x y v u Q I rx ry h
  obtain ⟨a, b, ka, rfl, rfl, ea, eb, q⟩ := h
  cases (show v = Value.ref a from rx)
  cases (show u = Value.ref b from ry)
  obtain ⟨_, ha, va, ra, da⟩ := dk_of I.hok ea
  obtain ⟨_, hb, vb, rb, db⟩ := dk_of I.hok eb
  show wpAny (model X.prog X.w) X.A (richCompare .Eq (.ref a) (.ref b)) (EP X pins σ Q) X.xe s
  unfold KV at ra rb
  cases rb
  refine PySem.W.rcP_dicts (r := true) ha hb da db hu (fun hl => ?_) _ _ ?_
  · have e : va = [] := List.length_eq_zero_iff.mp hl
    subst e
    exact .nil
  · have e : (va.length == ([] : List (L2.Key × Value)).length && true) = ka.isEmpty := by
      cases ra <;> rfl
    rw [e]
    exact ⟨.bl _, H, I, rfl, q⟩
end VQ
namespace VQ
open PySem PySem.Spec PyProof.Rows L2 LamX
/-! ### a model beside a book -/
def ModS (S : Addr → Prop) (H : Hp) (v : V) (wd : Nat) (rs : List (List Nat)) : Prop := ∃ t l us, v = .ref t ∧ S l ∧ H t = some (.tup [.int (wd : Int), .ref l]) ∧ H l = some (.lst us) ∧ Rows H us rs
def MoO (S : Addr → Prop) (H : Hp) : Option V → Option (Nat × List (List Nat)) → Prop
  | some v, some t => ModS S H v t.1 t.2
  | none, none => True
  | _, _ => False
/-- a model: tables by their names; the lists of its rows lie where S says -/
def MoN (S : Addr → Prop) (H : Hp) (a : Addr) (zs : List Str) (g : Tbs) : Prop := ∃ kvs : List (L2.Key × V), H a = some (.dK kvs) ∧ kvs.map (·.1) = zs.map Sum.inr ∧ zs.Nodup ∧ ∀ nm : Str, MoO S H (valV kvs (Sum.inr nm)) (g nm)
theorem ModS.imp {S S' : Addr → Prop} {H H' : Hp} (i : ∀ l us, S l → H l = some (.lst us) → S' l) (s : Same H H') {v : V} {wd : Nat} {rs : List (List Nat)} (h : ModS S H v wd rs) : ModS S' H' v wd rs := by
  obtain ⟨t, l, us, e, hs, h1, h2, h3⟩ := h
  exact ⟨t, l, us, e, i l us hs h2, s _ _ h1, s _ _ h2, h3.same s⟩
theorem MoO.imp {S S' : Addr → Prop} {H H' : Hp} (i : ∀ l us, S l → H l = some (.lst us) → S' l) (s : Same H H') {o : Option V} {t : Option (Nat × List (List Nat))} (h : MoO S H o t) : MoO S' H' o t := by
  cases o <;> cases t
  · trivial
  · exact h
  · exact h
  · exact ModS.imp i s h
theorem MoN.imp {S S' : Addr → Prop} {H H' : Hp} (i : ∀ l us, S l → H l = some (.lst us) → S' l) (s : Same H H') {a : Addr} {zs : List Str} {g : Tbs} (h : MoN S H a zs g) : MoN S' H' a zs g := by
  obtain ⟨kvs, h1, h2, nd, h3⟩ := h
  exact ⟨kvs, s _ _ h1, h2, nd, fun nm => (h3 nm).imp i s⟩
theorem MoN.same {S : Addr → Prop} {H H' : Hp} (s : Same H H') {a : Addr} {zs : List Str} {g : Tbs} (h : MoN S H a zs g) : MoN S H' a zs g := h.imp (fun _ _ z _ => z) s
/-- tuples, dicts and the lists of its rows stay -/
theorem MoN.moved {S : Addr → Prop} {H H' : Hp} (m : ∀ x o, TD o → H x = some o → H' x = some o) (ml : ∀ l us, S l → H l = some (.lst us) → H' l = some (.lst us)) {a : Addr} {zs : List Str} {g : Tbs} (h : MoN S H a zs g) : MoN S H' a zs g := by
  obtain ⟨kvs, h1, h2, nd, h3⟩ := h
  refine ⟨kvs, m _ _ (.inr ⟨_, rfl⟩) h1, h2, nd, fun nm => ?_⟩
  have h := h3 nm
  generalize valV kvs (Sum.inr nm) = o at h
  generalize g nm = t at h
  cases o <;> cases t
  · trivial
  · exact h
  · exact h
  · obtain ⟨t, l, us, e, hs, k1, k2, k3⟩ := (show ModS S H _ _ _ from h)
    exact ⟨t, l, us, e, hs, m _ _ (.inl ⟨_, rfl⟩) k1, ml _ _ hs k2, k3.moved fun x xs e => m _ _ (.inl ⟨_, rfl⟩) e⟩
theorem MoN.mem {S : Addr → Prop} {H : Hp} {a : Addr} {zs : List Str} {g : Tbs} (h : MoN S H a zs g) {nm : Str} : nm ∈ zs ↔ g nm ≠ none := by
  obtain ⟨kvs, h1, h2, nd, h3⟩ := h
  have h := h3 nm
  constructor
  · intro m e
    rw [e] at h
    cases ev : valV kvs (Sum.inr nm) with
    | none => exact val_none_mem h2 ev m
    | some v => rw [ev] at h; exact h
  · intro e
    cases ev : valV kvs (Sum.inr nm) with
    | none =>
      rw [ev] at h
      cases eg : g nm with
      | none => exact absurd eg e
      | some t => rw [eg] at h; exact h.elim
    | some v =>
      have m1 := valV_in ev
      rw [h2] at m1
      obtain ⟨z, mz, ez⟩ := List.mem_map.mp m1
      rw [← Sum.inr.inj ez]
      exact mz
/-- what stands at a name -/
theorem MoN.get {S : Addr → Prop} {H : Hp} {a : Addr} {zs : List Str} {g : Tbs} (h : MoN S H a zs g) (nm : Str) : ∃ o, DGet H a (.str nm) o ∧ MoO S H o (g nm) := by
  obtain ⟨kvs, h1, h2, nd, h3⟩ := h
  exact ⟨_, .inl ⟨kvs, Sum.inr nm, .inl h1, rfl, rfl⟩, h3 nm⟩
/-- book and model have the same tables -/
def Twin (f g : Tbs) : Prop := ∀ z, (f z = none ∧ g z = none) ∨ ∃ wd ss rs, f z = some (wd, ss) ∧ g z = some (wd, rs) ∧ ss.Perm rs ∧ Sorted ss
theorem Twin.no {f g : Tbs} (h : Twin f g) {z : Str} : f z = none ↔ g z = none := by
  rcases h z with ⟨a, b⟩ | ⟨wd, ss, rs, a, b, _⟩
  · exact ⟨fun _ => b, fun _ => a⟩
  · rw [a, b]
    exact ⟨fun e => (by cases e), fun e => (by cases e)⟩
theorem Twin.yes {f g : Tbs} (h : Twin f g) {z : Str} {t : Nat × List (List Nat)} (e : f z = some t) : ∃ rs, g z = some (t.1, rs) ∧ t.2.Perm rs ∧ Sorted t.2 := by
  rcases h z with ⟨a, b⟩ | ⟨wd, ss, rs, a, b, p, s⟩
  · rw [a] at e
    cases e
  · rw [a] at e
    cases e
    exact ⟨rs, b, p, s⟩
theorem Twin.back {f g : Tbs} (h : Twin f g) {z : Str} {t : Nat × List (List Nat)} (e : g z = some t) : ∃ ss, f z = some (t.1, ss) ∧ ss.Perm t.2 ∧ Sorted ss := by
  rcases h z with ⟨a, b⟩ | ⟨wd, ss, rs, a, b, p, s⟩
  · rw [b] at e
    cases e
  · rw [b] at e
    cases e
    exact ⟨ss, a, p, s⟩
theorem Twin.set {f g : Tbs} (h : Twin f g) {nm : Str} {wd : Nat} {ss rs : List (List Nat)} (p : ss.Perm rs) (s : Sorted ss) : Twin (fset f nm (wd, ss)) (fset g nm (wd, rs)) := fun z => by
  unfold fset
  by_cases c : z = nm
  · rw [if_pos c, if_pos c]
    exact .inr ⟨wd, ss, rs, rfl, rfl, p, s⟩
  · rw [if_neg c, if_neg c]
    exact h z
theorem Twin.del {f g : Tbs} (h : Twin f g) {nm : Str} : Twin (fdel f nm) (fdel g nm) := fun z => by
  unfold fdel
  by_cases c : z = nm
  · rw [if_pos c, if_pos c]
    exact .inl ⟨rfl, rfl⟩
  · rw [if_neg c, if_neg c]
    exact h z
theorem Twin.ok {f g : Tbs} (h : Twin f g) (ok : TsOk g) : TsOk f := fun nm t e => by
  obtain ⟨rs, eg, p, s⟩ := h.yes e
  obtain ⟨a, b, c, d, e⟩ := ok nm _ eg
  exact ⟨a, b, by rw [p.length_eq]; exact c, p.nodup_iff.mpr d, fun r m => e r (p.mem_iff.mp m)⟩
/-- whether a deed can be done, upon a model -/
def okD (g : Tbs) : Deed → Bool
  | .make nm _ => (g nm).isNone
  | .drop nm => (g nm).isSome
  | .put nm r => match g nm with
    | some t => decide (r ∉ t.2)
    | none => false
  | .take nm r => match g nm with
    | some t => decide (r ∈ t.2)
    | none => false
  | .fill nm _ => (g nm).isSome
def tOf (g : Tbs) (nm : Str) : Nat × List (List Nat) := (g nm).getD (0, [])
def goG (g : Tbs) : Deed → Tbs
  | .make nm wd => fset g nm (wd, [])
  | .drop nm => fdel g nm
  | .put nm r => fset g nm ((tOf g nm).1, (tOf g nm).2 ++ [r])
  | .take nm r => fset g nm ((tOf g nm).1, (tOf g nm).2.filter fun x => decide (x ≠ r))
  | .fill nm ws => fset g nm ((tOf g nm).1, ws)
def goZ (zs : List Str) : Deed → List Str
  | .make nm _ => zs ++ [nm]
  | .drop nm => zs.filter fun z => decide (z ≠ nm)
  | _ => zs
def stepG (g : Tbs) (D : Deed) : Tbs := if okD g D = true then goG g D else g
def stepZ (g : Tbs) (zs : List Str) (D : Deed) : List Str := if okD g D = true then goZ zs D else zs
def ansV (g : Tbs) : Deed → V
  | .make _ _ => .non
  | .drop _ => .non
  | .put nm _ => .int (((tOf g nm).2.length : Int) + 1)
  | .take nm _ => .int (((tOf g nm).2.length : Int) - 1)
  | .fill _ ws => .int (ws.length : Int)
/-- what a refused deed is refused with -/
def refV (g : Tbs) : Deed → Str × V
  | .make nm _ => ("Taken", .str nm)
  | .drop nm => ("NoTable", .str nm)
  | .put nm _ => if (g nm).isNone then ("NoTable", .str nm) else ("There", .str "")
  | .take nm _ => if (g nm).isNone then ("NoTable", .str nm) else ("NoRow", .str nm)
  | .fill nm _ => ("NoTable", .str nm)
def dueV (g : Tbs) (D : Deed) : Str × V := if okD g D = true then ("told", ansV g D) else refV g D
theorem filter_ne_len {r : List Nat} : ∀ {rs : List (List Nat)}, rs.Nodup → r ∈ rs → ((rs.filter fun x => decide (x ≠ r)).length : Int) = (rs.length : Int) - 1
  | [], _, m => by cases m
  | x :: rs, nd, m => by
    rw [List.nodup_cons] at nd
    by_cases c : x = r
    · rw [List.filter_cons_of_neg (by simp [c])]
      have e0 : (rs.filter fun x => decide (x ≠ r)) = rs := List.filter_eq_self.mpr fun y my => decide_eq_true fun e => nd.1 (by rw [c, ← e]; exact my)
      rw [e0]
      rw [List.length_cons]
      omega
    · rw [List.filter_cons_of_pos (p := fun x : List Nat => decide (x ≠ r)) (by simp [c])]
      have m' : r ∈ rs := by
        rcases List.mem_cons.mp m with e | e
        · exact absurd e.symm c
        · exact e
      have := filter_ne_len nd.2 m'
      rw [List.length_cons, List.length_cons]
      omega
theorem to_step {f g : Tbs} {zs ms : List Str} {D : Deed} {ans : V} {f' : Tbs} (tw : Twin f g) (ok : TsOk g) (h : To f zs D ans ms f') : okD g D = true ∧ ms = stepZ g zs D ∧ Twin f' (stepG g D) ∧ ans = ansV g D := by
  cases h with
  | @make nm wd h =>
    have e : okD g (.make nm wd) = true := by
      show (g nm).isNone = true
      rw [tw.no.mp h]
      rfl
    refine ⟨e, ?_, ?_, rfl⟩
    · unfold stepZ
      rw [if_pos e]
      rfl
    · unfold stepG
      rw [if_pos e]
      exact tw.set (.refl _) List.Pairwise.nil
  | @drop nm t h =>
    obtain ⟨rs, eg, _⟩ := tw.yes h
    have e : okD g (.drop nm) = true := by
      show (g nm).isSome = true
      rw [eg]
      rfl
    refine ⟨e, ?_, ?_, rfl⟩
    · unfold stepZ
      rw [if_pos e]
      rfl
    · unfold stepG
      rw [if_pos e]
      exact tw.del
  | @put nm r wd rw ss h m p s =>
    obtain ⟨rs, eg, pm, _⟩ := tw.yes h
    have e : okD g (.put nm r) = true := by
      show (match g nm with | some t => decide (r ∉ t.2) | none => false) = true
      rw [eg]
      exact decide_eq_true fun q => m (pm.mem_iff.mpr q)
    have et : tOf g nm = (wd, rs) := by unfold tOf; rw [eg]; rfl
    refine ⟨e, ?_, ?_, ?_⟩
    · unfold stepZ
      rw [if_pos e]
      rfl
    · unfold stepG
      rw [if_pos e]
      show Twin _ (fset g nm ((tOf g nm).1, (tOf g nm).2 ++ [r]))
      rw [et]
      exact tw.set (p.trans (pm.append (.refl _))) s
    · show V.int _ = V.int (((tOf g nm).2.length : Int) + 1)
      rw [et]
      have : rw.length = rs.length := pm.length_eq
      exact congrArg V.int (show ((rw.length + 1 : Nat) : Int) = (rs.length : Int) + 1 by omega)
  | @take nm r wd rw ss h m p s =>
    obtain ⟨rs, eg, pm, _⟩ := tw.yes h
    have e : okD g (.take nm r) = true := by
      show (match g nm with | some t => decide (r ∈ t.2) | none => false) = true
      rw [eg]
      exact decide_eq_true (pm.mem_iff.mp m)
    have et : tOf g nm = (wd, rs) := by unfold tOf; rw [eg]; rfl
    refine ⟨e, ?_, ?_, ?_⟩
    · unfold stepZ
      rw [if_pos e]
      rfl
    · unfold stepG
      rw [if_pos e]
      show Twin _ (fset g nm ((tOf g nm).1, (tOf g nm).2.filter fun x => decide (x ≠ r)))
      rw [et]
      exact tw.set (p.trans (pm.filter _)) s
    · show V.int _ = V.int (((tOf g nm).2.length : Int) - 1)
      rw [et, ← filter_ne_len (ok nm _ eg).2.2.2.1 (pm.mem_iff.mp m), (pm.filter _).length_eq]
  | @fill nm ws wd rw ss h p s =>
    obtain ⟨rs, eg, pm, _⟩ := tw.yes h
    have e : okD g (.fill nm ws) = true := by
      show (g nm).isSome = true
      rw [eg]
      rfl
    have et : tOf g nm = (wd, rs) := by unfold tOf; rw [eg]; rfl
    refine ⟨e, ?_, ?_, rfl⟩
    · unfold stepZ
      rw [if_pos e]
      rfl
    · unfold stepG
      rw [if_pos e]
      show Twin _ (fset g nm ((tOf g nm).1, ws))
      rw [et]
      exact tw.set p s
/-- what a refused deed's error holds -/
def Holds (R : Ref) (g : Tbs) (D : Deed) (C : Addr) (fs : List (Str × V)) : Prop := fs.lookup ("called" : Str) = some (.str (refV g D).1) ∧ ((C = R.th ∧ (refV g D).2 = .str "") ∨ ((C = R.ta ∨ C = R.nt ∨ C = R.nr) ∧ fs.lookup ("name" : Str) = some (refV g D).2))
theorem no_step {R : Ref} {f g : Tbs} {D : Deed} {C : Addr} {fs : List (Str × V)} (tw : Twin f g) (h : No R f D C fs) : okD g D = false ∧ Holds R g D C fs := by
  have l1 : ∀ {nm : Str} {y : V}, (zsF nm y).lookup ("called" : Str) = some (.str nm) := rfl
  have l2 : ∀ {nm : Str} {y : V}, (zsF nm y).lookup ("name" : Str) = some y := rfl
  cases h with
  | @taken nm wd t h =>
    obtain ⟨rs, eg, _⟩ := tw.yes h
    refine ⟨?_, rfl, .inr ⟨.inl rfl, rfl⟩⟩
    show (g nm).isNone = false
    rw [eg]
    rfl
  | @drop nm h =>
    refine ⟨?_, l1, .inr ⟨.inr (.inl rfl), l2⟩⟩
    show (g nm).isSome = false
    rw [tw.no.mp h]
    rfl
  | @put nm r h =>
    have eg := tw.no.mp h
    have er : refV g (.put nm r) = (("NoTable" : Str), V.str nm) := by
      show (if (g nm).isNone then (("NoTable" : Str), V.str nm) else ("There", .str "")) = _
      rw [eg]
      rfl
    refine ⟨?_, by rw [er]; exact l1, .inr ⟨.inr (.inl rfl), by rw [er]; exact l2⟩⟩
    show (match g nm with | some t => decide (r ∉ t.2) | none => false) = false
    rw [eg]
  | @take nm r h =>
    have eg := tw.no.mp h
    have er : refV g (.take nm r) = (("NoTable" : Str), V.str nm) := by
      show (if (g nm).isNone then (("NoTable" : Str), V.str nm) else ("NoRow", .str nm)) = _
      rw [eg]
      rfl
    refine ⟨?_, by rw [er]; exact l1, .inr ⟨.inr (.inl rfl), by rw [er]; exact l2⟩⟩
    show (match g nm with | some t => decide (r ∈ t.2) | none => false) = false
    rw [eg]
  | @fill nm ws h =>
    refine ⟨?_, l1, .inr ⟨.inr (.inl rfl), l2⟩⟩
    show (g nm).isSome = false
    rw [tw.no.mp h]
    rfl
  | @there nm r wd rw h m =>
    obtain ⟨rs, eg, pm, _⟩ := tw.yes h
    have er : refV g (.put nm r) = (("There" : Str), V.str "") := by
      show (if (g nm).isNone then (("NoTable" : Str), V.str nm) else ("There", .str "")) = _
      rw [eg]
      rfl
    refine ⟨?_, by rw [er]; rfl, .inl ⟨rfl, by rw [er]⟩⟩
    show (match g nm with | some t => decide (r ∉ t.2) | none => false) = false
    rw [eg]
    exact decide_eq_false fun q => q (pm.mem_iff.mp m)
  | @norow nm r wd rw h m =>
    obtain ⟨rs, eg, pm, _⟩ := tw.yes h
    have er : refV g (.take nm r) = (("NoRow" : Str), V.str nm) := by
      show (if (g nm).isNone then (("NoTable" : Str), V.str nm) else ("NoRow", .str nm)) = _
      rw [eg]
      rfl
    refine ⟨?_, by rw [er]; exact l1, .inr ⟨.inr (.inr rfl), by rw [er]; exact l2⟩⟩
    show (match g nm with | some t => decide (r ∈ t.2) | none => false) = false
    rw [eg]
    exact decide_eq_false fun q => m (pm.mem_iff.mpr q)
end VQ
namespace VQ
open PySem PySem.Spec PyProof.Rows L2 LamX
/-! ### sorted in one way alone -/
theorem lt_anti : ∀ {a b : List Nat}, ltCps a b = false → ltCps b a = false → a = b
  | [], [], _, _ => rfl
  | [], _ :: _, h, _ => by cases h
  | _ :: _, [], _, h => by cases h
  | x :: a, y :: b, h, h' => by
    simp only [ltCps, Bool.or_eq_false_iff, decide_eq_false_iff_not, Bool.and_eq_false_imp, beq_iff_eq] at h h'
    have e : x = y := by omega
    rw [e, lt_anti (h.2 e) (h'.2 e.symm)]
theorem lt_tr : ∀ {a b c : List Nat}, ltCps b a = false → ltCps c b = false → ltCps c a = false
  | [], _, [], _, _ => rfl
  | [], _, _ :: _, _, _ => rfl
  | _ :: _, [], _, h, _ => by cases h
  | _ :: _, _ :: _, [], _, h => by cases h
  | x :: a, y :: b, z :: c, h, h' => by
    simp only [ltCps, Bool.or_eq_false_iff, decide_eq_false_iff_not, Bool.and_eq_false_imp, beq_iff_eq] at h h' ⊢
    refine ⟨by omega, fun e => ?_⟩
    exact lt_tr (h.2 (by omega)) (h'.2 (by omega))
theorem rising_pw : ∀ (p : Str) (l : List Str), risingS p l = true → (p :: l).Pairwise (fun a b => ltCps b.cps.toList a.cps.toList = false)
  | p, [], _ => List.pairwise_singleton ..
  | p, x :: r, h => by
    have h : (!ltCps x.cps.toList p.cps.toList && risingS x r) = true := h
    rw [Bool.and_eq_true, Bool.not_eq_true'] at h
    have ih := rising_pw x r h.2
    refine List.pairwise_cons.mpr ⟨fun y my => ?_, ih⟩
    rcases List.mem_cons.mp my with e | my
    · rw [e]
      exact h.1
    · exact lt_tr h.1 ((List.pairwise_cons.mp ih).1 y my)
theorem sortedS_pw : ∀ {l : List Str}, sortedS l = true → l.Pairwise (fun a b => ltCps b.cps.toList a.cps.toList = false)
  | [], _ => List.Pairwise.nil
  | x :: r, h => rising_pw x r h
theorem sortedS_one {a b : List Str} (p : a.Perm b) (ha : sortedS a = true) (hb : sortedS b = true) : a = b :=
  List.Perm.eq_of_pairwise (le := fun (x y : Str) => ltCps y.cps.toList x.cps.toList = false) (fun x y _ _ h h' => by
    have e := lt_anti h h'
    cases x with
    | mk xs =>
      cases y with
      | mk ys =>
        have e2 : ys.toList = xs.toList := e
        rw [← Array.toList_inj.mp e2]) (sortedS_pw ha) (sortedS_pw hb) p
theorem code_injO : ∀ {r q : List Nat}, r.length = q.length → (∀ n ∈ r, n < 32) → (∀ n ∈ q, n < 32) → TS.code 32 (r.map fun n => ((n : Nat) : Int)) = TS.code 32 (q.map fun n => ((n : Nat) : Int)) → r = q
  | [], [], _, _, _, _ => rfl
  | [], _ :: _, l, _, _, _ => by cases l
  | _ :: _, [], l, _, _, _ => by cases l
  | x :: r, y :: q, l, h1, h2, e => by
    have l' : r.length = q.length := by simpa using l
    have bd : ∀ {s : List Nat}, (∀ n ∈ s, n < 32) → TS.Bd 32 (s.map fun n => ((n : Nat) : Int)) := fun h m mm => by
      obtain ⟨n, mn, rfl⟩ := List.mem_map.mp mm
      have := h n mn
      exact ⟨by omega, by omega⟩
    have b1 := bd fun n m => h1 n (List.mem_cons_of_mem _ m)
    have b2 := bd fun n m => h2 n (List.mem_cons_of_mem _ m)
    have ll : (r.map fun n => ((n : Nat) : Int)).length = (q.map fun n => ((n : Nat) : Int)).length := by rw [List.length_map, List.length_map, l']
    have e' : TS.code 32 ((x : Int) :: r.map fun n => ((n : Nat) : Int)) = TS.code 32 ((y : Int) :: q.map fun n => ((n : Nat) : Int)) := e
    have xy : x = y := by
      rcases Nat.lt_trichotomy x y with c | c | c
      · have := TS.code_lt ll b1 b2 (show (x : Int) < (y : Int) by omega)
        omega
      · exact c
      · have := TS.code_lt ll.symm b2 b1 (show (y : Int) < (x : Int) by omega)
        omega
    subst xy
    have e2 : TS.code 32 (r.map fun n => ((n : Nat) : Int)) = TS.code 32 (q.map fun n => ((n : Nat) : Int)) := by
      have c1 := mt (TS.code_same (B := 32) (d := (x : Int)) ll).mpr (by rw [e']; exact Int.lt_irrefl _)
      have c2 := mt (TS.code_same (B := 32) (d := (x : Int)) ll.symm).mpr (by rw [e']; exact Int.lt_irrefl _)
      omega
    rw [code_injO l' (fun n m => h1 n (List.mem_cons_of_mem _ m)) (fun n m => h2 n (List.mem_cons_of_mem _ m)) e2]
theorem sorted_oneO {wd : Nat} {ss tt : List (List Nat)} (ok : ∀ r ∈ ss, RowOk wd r) (h1 : Sorted ss) (h2 : Sorted tt) (pm : ss.Perm tt) : ss = tt :=
  List.Perm.eq_of_pairwise (le := fun (x y : List Nat) => TS.code 32 (x.map fun n => ((n : Nat) : Int)) ≤ TS.code 32 (y.map fun n => ((n : Nat) : Int))) (fun x y mx my h h' => by
    have o1 := ok x mx
    have o2 := ok y (pm.mem_iff.mpr my)
    exact code_injO (by rw [o1.1, o2.1]) o1.2 o2.2 (Int.le_antisymm h h')) h1 h2 pm
theorem alike_numsO {n : Nat} {H : Hp} {a c : Addr} {r : List Nat} (ha : H a = some (.tup (r.map numV))) (hc : H c = some (.tup (r.map numV))) (l : r.length ≤ 1000) : Alike H (n + 1) (.ref a) (.ref c) := by
  refine .tup ha hc rfl (by rw [List.length_map]; exact l) fun i x y hx hy => ?_
  rw [hx] at hy
  cases hy
  obtain ⟨m, _, rfl⟩ := getF hx
  exact .int _ _
theorem alike_rowsO {n : Nat} {H : Hp} {p q : Addr} {us vs : List V} {ss : List (List Nat)} {wd : Nat} (hp : H p = some (.lst us)) (hq : H q = some (.lst vs)) (ru : Rows H us ss) (rv : Rows H vs ss) (few : ss.length ≤ 1000) (ok : ∀ r ∈ ss, RowOk wd r) (l : wd ≤ 1000) : Alike H (n + 2) (.ref p) (.ref q) := by
  refine .lst hp hq (by rw [ru.len, rv.len]) (by rw [rv.len]; exact few) fun i x y hx hy => ?_
  obtain ⟨a, r, rfl, er, ha⟩ := ru.get hx
  obtain ⟨c, r', rfl, er', hc⟩ := rv.get hy
  rw [er] at er'
  cases er'
  exact alike_numsO ha hc (by rw [(ok r (List.mem_of_getElem? er)).1]; exact l)
theorem alike_strsO {n : Nat} {H : Hp} {p q : Addr} {zs : List Str} (hp : H p = some (.lst (zs.map V.str))) (hq : H q = some (.lst (zs.map V.str))) (few : zs.length ≤ 1000) : Alike H (n + 1) (.ref p) (.ref q) := by
  refine .lst hp hq rfl (by rw [List.length_map]; exact few) fun i x y hx hy => ?_
  rw [hx] at hy
  cases hy
  rw [List.getElem?_map] at hx
  obtain ⟨z, _, rfl⟩ := Option.map_eq_some_iff.mp hx
  exact .str _ _
theorem alike_pair {n : Nat} {H : Hp} {a b : Addr} {x y x' y' : V} (ha : H a = some (.lst [x, y])) (hb : H b = some (.lst [x', y'])) (h1 : Alike H n x x') (h2 : Alike H n y y') : Alike H (n + 1) (.ref a) (.ref b) := by
  refine .lst ha hb rfl (by show 2 ≤ 1000; decide) fun i u v hu hv => ?_
  match i, hu, hv with
  | 0, hu, hv =>
    cases hu
    cases hv
    exact h1
  | 1, hu, hv =>
    cases hu
    cases hv
    exact h2
  | i + 2, hu, _ => simp at hu
/-! ### a model's dict is none of a book's -/
theorem ts_not_mo {S : Addr → Prop} {H : Hp} {m : Addr} {zs ws : List Str} {f g : Tbs} (h : TsN H m ws f) (h' : MoN S H m zs g) (ne : zs ≠ []) : False := by
  cases zs with
  | nil => exact ne rfl
  | cons z zs =>
    obtain ⟨kvs, h1, h2, _, h3⟩ := h
    obtain ⟨kvs', h1', h2', _, h3'⟩ := h'
    rw [h1] at h1'
    cases h1'
    have a := h3 z
    have b := h3' z
    cases ev : valV kvs (Sum.inr z) with
    | none => exact val_none_mem h2' ev (List.mem_cons_self ..)
    | some v =>
      rw [ev] at a b
      cases ef : f z with
      | none => rw [ef] at a; exact a
      | some t =>
        cases eg : g z with
        | none => rw [eg] at b; exact b
        | some t' =>
          rw [ef] at a
          rw [eg] at b
          obtain ⟨x1, r1, us1, e1, k1, k2, _⟩ := (show TabAt H v t.1 t.2 from a)
          obtain ⟨x2, l2, us2, e2, _, j1, j2, _⟩ := (show ModS S H v t'.1 t'.2 from b)
          rw [e1] at e2
          cases e2
          rw [k1] at j1
          simp only [Option.some.injEq, HO.tup.injEq, List.cons.injEq, V.ref.injEq, and_true] at j1
          rw [← j1.2, k2] at j2
          cases j2
theorem TabO.tups {H H' : Hp} (m : ∀ x xs, H x = some (.tup xs) → H' x = some (.tup xs)) {o : Option V} {t : Option (Nat × List (List Nat))} (h : TabO H o t) : TabO H' o t := by
  cases o <;> cases t
  · trivial
  · exact h
  · exact h
  · obtain ⟨x, r, us, e, k1, k2, k3⟩ := (show TabAt H _ _ _ from h)
    exact ⟨x, r, us, e, m _ _ k1, m _ _ k2, k3.moved m⟩
theorem TsN.lock {S : Addr → Prop} {H H' : Hp} {m : Addr} {zs ws : List Str} {f g : Tbs} {a : Addr} (o : ∀ x u, x ≠ m → H x = some u → H' x = some u) (hm : MoN S H m zs g) (ne : zs ≠ []) (h : TsN H a ws f) : TsN H' a ws f := by
  have na : a ≠ m := fun e => by rw [e] at h; exact ts_not_mo h hm ne
  obtain ⟨kvm, hkm, _⟩ := hm
  obtain ⟨kvs, h1, h2, nd, h3⟩ := h
  refine ⟨kvs, o _ _ na h1, h2, nd, fun nm => TabO.tups (fun x xs e => o _ _ (fun z => by rw [z, hkm] at e; cases e) e) (h3 nm)⟩
theorem BookN.lock {S : Addr → Prop} {H H' : Hp} {C m : Addr} {zs : List Str} {g : Tbs} {a pa fu : Addr} {ws : List Str} {f : Tbs} {past fut : List Stp} (o : ∀ x u, x ≠ m → H x = some u → H' x = some u) (hm : MoN S H m zs g) (ne : zs ≠ []) (h : BookN C H a pa fu ws f past fut) : BookN C H' a pa fu ws f past fut := by
  obtain ⟨dx, t, ps, us, h1, h2, h3, h4, h5, h6, n1, n2, n3⟩ := h
  obtain ⟨kvm, hkm, _⟩ := id hm
  have st : ∀ {vs : List V} {ps : List Stp}, StpsAt H vs ps → StpsAt H' vs ps := fun {vs ps} h => by
    induction h with
    | nil => exact .nil
    | cons h r ih => exact .cons (h.lock o hm ne) ih
  exact ⟨dx, t, ps, us, o _ _ (fun z => by rw [z, hkm] at h1; cases h1) h1, o _ _ (fun z => by rw [z, hkm] at h2; cases h2) h2, o _ _ (fun z => by rw [z, hkm] at h3; cases h3) h3, h4.lock o hm ne, st h5, st h6, n1, n2, n3⟩
end VQ
namespace VQ
open PySem PySem.Spec PyProof.Rows L2 LamX
/-! ### a book stands by its model -/
abbrev sLawStands : Stmt := top 51
abbrev nLawStands : List Str := ["_law_book", "_law_model", "_law_count_all", "_law_name"]
theorem scLawStands : FnScope nLawStands ["_law_book", "_law_model"] (defScope sLawStands) := ⟨rfl, rfl, rfl, by decide +kernel, rfl, by decide +kernel, by decide +kernel⟩
theorem twin_cnt {f g : Tbs} (tw : Twin f g) (zs : List Str) : cntAll f zs = cntAll g zs := by
  unfold cntAll
  congr 1
  refine List.map_congr_left fun z _ => ?_
  unfold rowsOf
  rcases tw z with ⟨a, b⟩ | ⟨wd, ss, rs, a, b, p, _⟩
  · rw [a, b]
  · rw [a, b]
    exact p.length_eq
theorem sum_cast (g : Tbs) : ∀ zs : List Str, (zs.map fun z => ((rowsOf g z : Nat) : Int)).sum = ((cntAll g zs : Nat) : Int)
  | [] => rfl
  | z :: zs => by
    have ih := sum_cast g zs
    show ((rowsOf g z : Nat) : Int) + (zs.map fun z => ((rowsOf g z : Nat) : Int)).sum = ((rowsOf g z + cntAll g zs : Nat) : Int)
    rw [ih]
    omega
/-- a book's own methods, as they stand -/
structure BMeths (P : Program) (w : World) (K : PySem.W.Frag) (mg : Str → Option Value) (base : Heap) (C : Addr) (R : Ref) (fNa fLn fRp fWi fRo : Addr) (dNa dLn dRp dWi dRo : FuncData) : Prop where
  T : BCls K C
  mNa : Meth K C "names" fNa
  bNa : Binds K dNa ["self"] []
  gNa : FnOk P w K mg base CX0 1 fNa dNa ["self"] (spBNames C)
  mLn : Meth K C "__len__" fLn
  bLn : Binds K dLn ["self"] []
  gLn : FnOk P w K mg base CX0 1 fLn dLn ["self"] (spBLen C)
  mRp : Meth K C "__repr__" fRp
  bRp : Binds K dRp ["self"] []
  gRp : FnOk P w K mg base CX0 1 fRp dRp ["self"] (spBRepr C)
  mWi : Meth K C "width" fWi
  bWi : Binds K dWi ["self", "name"] []
  gWi : FnOk P w K mg base (L2.CX P w) 5 fWi dWi ["self", "name"] (spBWidthN C R)
  mRo : Meth K C "rows" fRo
  bRo : Binds K dRo ["self", "name"] []
  gRo : FnOk P w K mg base (L2.CX P w) 5 fRo dRo ["self", "name"] (spBRowsN C R)
section
variable {P : Program} {w : World} {K : PySem.W.Frag} {mg : Str → Option Value} {base : Heap} {C : Addr} {R : Ref} {fNa fLn fRp fWi fRo : Addr} {dNa dLn dRp dWi dRo : FuncData}
def spStands (C : Addr) : Sp := fun vs H Q _ => ∃ (S : Addr → Prop) (a pa fu m : Addr) (zs : List Str) (f g : Tbs) (past fut : List Stp), vs = [.ref a, .ref m] ∧ BookN C H a pa fu zs f past fut ∧ MoN S H m zs g ∧ Twin f g ∧ TsOk g ∧ zs.length ≤ 9 ∧ ∀ H', Same H H' → Q (.bl true) H'
theorem has_stands (b : Blt mg) (so : mg "sorted" = none) (su : mg "sum" = none) (rp : mg "repr" = none) (M : BMeths P w K mg base C R fNa fLn fRp fWi fRo dNa dLn dRp dWi dRo) (hS : Has P w K mg base CX0 4 "_law_same" sSame ["_law_found", "_law_due"] (spSame 3)) (a : AtE K mg "_law_stands" sLawStands ["_law_book", "_law_model"]) : Has P w K mg base CX0 6 "_law_stands" sLawStands ["_law_book", "_law_model"] (spStands C) := by
  obtain ⟨fA, fd, a⟩ := a
  obtain ⟨fS, fdS, aS, GS⟩ := hS
  obtain ⟨T, mNa, bNa, GbNa, mLn, bLn, GbLn, mRp, bRp, GbRp, mWi, bWi, GbWi, mRo, bRo, GbRo⟩ := M
  refine ⟨fA, fd, a, a.fn.ok scLawStands (fun vs H Q E h => ?_) (fun cdv A outer s H vs Q E hr5 h => ?_)⟩
  · obtain ⟨S, a, pa, fu, m, zs, f, g, past, fut, rfl, _⟩ := h
    rfl
  · obtain ⟨S, a, pa, fu, m, zs, f, g, past, fut, rfl, bk, mo, tw, tok, z9, k⟩ := h
    have hr1 := hr5.mono (show 1 ≤ 5 by decide)
    have hr2 := hr5.mono (show 2 ≤ 5 by decide)
    have hr4 := hr5.mono (show 4 ≤ 5 by decide)
    have hu1 : (A.deeper (PyProof.Rows.envOfC "_law_stands" (defScope sLawStands) s.heap.objs.size fA cdv)).units + 1 < cLine := by
      have := hr5.units
      omega
    refine ⟨_,
    (pss_cons (ps_set (i := 2) scLawStands.nd rfl (.inl rfl) (pe_callB (cr_sum rfl) (by rfl) su (by decide +kernel) (pa_cons (pe_lock (pe_lc (own := [("_law_name", 3)]) (g := (gName 3)) (tt := tYes) (te := (tCB (rLen K) (tCons (tOp (rIxT K) (tDGet (tVar 1) (tVar 3)) (tC (.int 1))) tNil))) rfl scLawStands.nd (pi_keys (pv 1)) (blkOk_by (N := nLawStands) (sc := defScope sLawStands) (by decide +kernel)) (fun _ _ _ _ _ => (pg_name (i := 3) scLawStands.nd rfl (.inl rfl))) (fun _ _ _ _ _ => pts_nil) (fun _ _ _ _ _ => (pe_callB call_len_seq (by rfl) b.len PySem.boot_len (pa_cons (pe_ix ix_tup (pe_dget hu1 (pv 1) (pv 3) fun _ _ => rfl) pe_int fun _ _ => rfl) pa_nil))))) pa_nil)))
    (pss_cons (ps_if (pt_not (pt_val (pe_call GS hr4 rfl aS.gl aS.fn.kp aS.bd .nil pass0 (pa_cons (pe_lst (pa_cons (pe_meth0 (pv 0) T.cl mNa GbNa hr1 bNa .nil pass0) (pa_cons (pe_callB (cr_ownL GbLn mLn.at_ mLn.fn bLn hr2 pass0) (by rfl) b.len PySem.boot_len (pa_cons (pv 0) pa_nil)) pa_nil))) (pa_cons (pe_lst (pa_cons (pe_callB (call_sortedD rfl) (by rfl) so (by decide +kernel) (pa_cons (pv 1) pa_nil)) (pa_cons (pe_callB call_lenD (by rfl) b.len PySem.boot_len (pa_cons (pv 1) pa_nil)) pa_nil))) pa_nil)))))
      (pss_one (ps_ret pe_bl))
      pss_nil)
    (pss_cons (ps_if (pt_cmpR op_ne (pe_callB (cr_ownR GbRp mRp.at_ mRp.fn bRp hr2 pass0) (by rfl) rp (by decide +kernel) (pa_cons (pv 0) pa_nil)) (pe_op op_add_str (pe_op op_add_str (pe_op op_add_str (pe_op op_add_str pe_str (pe_callTy call_str_int (by rfl) b.str (by decide +kernel) (pa_cons (pe_callB call_lenD (by rfl) b.len PySem.boot_len (pa_cons (pv 1) pa_nil)) pa_nil))) pe_str) (pe_callTy call_str_int (by rfl) b.str (by decide +kernel) (pa_cons (pv 2) pa_nil))) pe_str) (nomark _))
      (pss_one (ps_ret pe_bl))
      pss_nil)
    (pss_cons (ps_lock (ps_for PassesOwn.never rfl (pi_keys (pv 1)) (pg_name (i := 3) scLawStands.nd rfl (.inl rfl))
      (pss_one (ps_if (pt_not (pt_val (pe_call GS hr4 rfl aS.gl aS.fn.kp aS.bd .nil pass0 (pa_cons (pe_lst (pa_cons (pe_meth (pv 0) T.cl mWi GbWi hr5 bWi .nil passCX (pa_cons (pv 3) pa_nil)) (pa_cons (pe_meth (pv 0) T.cl mRo GbRo hr5 bRo .nil passCX (pa_cons (pv 3) pa_nil)) pa_nil))) (pa_cons (pe_lst (pa_cons (pe_ix ix_tup (pe_dget hu1 (pv 1) (pv 3) fun _ _ => rfl) pe_int fun _ _ => rfl) (pa_cons (pe_callB cr_sortW (by rfl) so (by decide +kernel) (pa_cons (pe_ix ix_tup (pe_dget hu1 (pv 1) (pv 3) fun _ _ => rfl) pe_int fun _ _ => rfl) pa_nil)) pa_nil))) pa_nil)))))
        (pss_one (ps_ret pe_bl))
        pss_nil))))
    (pss_one (ps_ret pe_bl)))))), ?_⟩
    obtain ⟨dx, tb, ps, us, ha, bkr⟩ := id bk
    obtain ⟨kvs, hk, ek, ndz, all⟩ := id mo
    have lk : kvs.length = zs.length := by
      have := congrArg List.length ek
      rwa [List.length_map, List.length_map] at this
    have ndk : (kvs.map (·.1)).Nodup := by
      rw [ek]
      exact List.Pairwise.map _ (fun x y n e => n (Sum.inr.inj e)) ndz
    have at_ : ∀ {i : Nat} {kk : L2.Key} {v : V}, kvs[i]? = some (kk, v) → ∃ z, zs[i]? = some z ∧ kk = Sum.inr z := fun {i kk v} e => by
      have ez : (zs.map (Sum.inr : Str → L2.Key))[i]? = some kk := by rw [← ek, List.getElem?_map, e]; rfl
      rw [List.getElem?_map] at ez
      obtain ⟨z, hz, rfl⟩ := Option.map_eq_some_iff.mp ez
      exact ⟨z, hz, rfl⟩
    have back : ∀ {od} {H0 : Hp}, H0 m = some (.dK kvs) → ∀ (Hx : Hp), Same (upd H0 m (.frz od (.dK kvs))) Hx → Same H0 (upd Hx m (.dK kvs)) := fun {od H0} h0 Hx sx x o e => by
      by_cases c : x = m
      · rw [c, upd_same]
        rw [c, h0] at e
        exact e
      · rw [upd_ne c]
        exact sx _ _ ((upd_ne c).trans e)
    -- how many rows
    refine ⟨m, _, hk, trivial, fun od => ?_⟩
    refine ⟨_, rfl, m, od, rfl, .inl ⟨_, upd_same, fun D hD => ?_⟩⟩
    have hf := upd_same (H := H) (a := m) (o := .frz od (.dK kvs))
    have bk1 := back (od := od) hk
    have old : ∀ p o, p ≠ m → H p = some o → upd H m (.frz od (.dK kvs)) p = some o := fun p o n e => (upd_ne n).trans e
    generalize upd H m (.frz od (.dK kvs)) = Hf at hD hf bk1 old ⊢
    refine lc_it L2.walk_keys (fun i H' => Same Hf H' ∧ H' D = some (.lst (((zs.take i).map fun z => ((rowsOf g z : Nat) : Int)).map V.int))) ⟨same_new hD, upd_same⟩ (fun i H' _ z => z.1 _ _ hf) ?_ ?_
    · rintro i x Ha Hb hi ⟨sa, hacc⟩ ⟨rfl, kk, v, e, rfl⟩
      obtain ⟨z, hz, rfl⟩ := at_ e
      have h1 := all z
      rw [val_get ndk e] at h1
      cases eg : g z with
      | none =>
        rw [eg] at h1
        exact h1.elim
      | some t =>
      rw [eg] at h1
      obtain ⟨ta, l, ws, rfl, _, hta, hl, ro⟩ := (show ModS S H v t.1 t.2 from h1)
      have nta : ta ≠ m := fun q => by rw [q, hk] at hta; cases hta
      have nl : l ≠ m := fun q => by rw [q, hk] at hl; cases hl
      refine ⟨rfl, yes_turn ?_⟩
      refine ⟨_, rfl, _, rfl, m, .ref ta, rfl, .inl ⟨kvs, Sum.inr z, .inr ⟨od, sa _ _ hf⟩, rfl, (val_get ndk e).symm⟩, ta, _, _, _, rfl, rfl, SqT.of (sa _ _ (old _ _ nta hta)), atI_nat (j := 1) rfl, l, ws, rfl, .inl (SqL.of (sa _ _ (old _ _ nl hl))), _, hacc, lt_line ?_, same_put sa hD, ?_⟩
      · rw [List.length_map, List.length_map, List.length_take]
        omega
      · rw [upd_same, List.take_add_one, hz, List.map_append, List.map_append]
        show some (HO.lst (_ ++ [_])) = some (HO.lst (_ ++ [V.int ((rowsOf g z : Nat) : Int)]))
        have er : rowsOf g z = ws.length := by
          unfold rowsOf
          rw [eg, ro.len]
          rfl
        rw [er]
    rintro Ha ⟨sa, hacc⟩
    rw [lk, List.take_length] at hacc
    refine ⟨sa _ _ hf, ?_⟩
    have s1 := bk1 Ha sa
    have hD1 : (upd Ha m (.dK kvs)) D = some (.lst ((zs.map fun z => ((rowsOf g z : Nat) : Int)).map V.int)) := (upd_ne (fun q => by rw [q, hf] at hD; cases hD)).trans hacc
    generalize upd Ha m (.dK kvs) = H1 at s1 hD1 ⊢
    have esum := sum_cast g zs
    refine ⟨D, _, rfl, SqL.of hD1, ?_⟩
    rw [esum]
    -- names, how many
    have z64 : zs.length < 64 := by omega
    refine ⟨_, rfl, a, dx, _, rfl, s1 _ _ ha, bno (by decide +kernel) (by decide +kernel) (by decide +kernel), a, pa, fu, zs, f, past, fut, rfl, bk.same s1, z64, fun ys p pm sr np => ?_⟩
    have s2 := same_new (o := HO.lst (ys.map V.str)) np
    have hp2 := upd_same (H := H1) (a := p) (o := .lst (ys.map V.str))
    generalize upd H1 p (.lst (ys.map V.str)) = H2 at s2 hp2 ⊢
    have s02 := s1.trans s2
    refine ⟨_, rfl, a, dx, _, rfl, s02 _ _ ha, a, pa, fu, zs, f, past, fut, rfl, bk.same s02, zs.length, rfl, Nat.lt_of_le_of_lt z9 (by decide), by show 2 ≤ sizeLine; decide, fun l1 nl1 => ?_⟩
    have s3 := same_new (o := HO.lst [.ref p, .int (zs.length : Int)]) nl1
    have hl1 := upd_same (H := H2) (a := l1) (o := .lst [.ref p, .int (zs.length : Int)])
    generalize upd H2 l1 (.lst [.ref p, .int (zs.length : Int)]) = H3 at s3 hl1 ⊢
    have s03 := s02.trans s3
    refine ⟨_, rfl, m, kvs, zs, rfl, .inl (s03 _ _ hk), ek, z64, fun ys2 p2 pm2 sr2 np2 => ?_⟩
    have s4 := same_new (o := HO.lst (ys2.map V.str)) np2
    have hp4 := upd_same (H := H3) (a := p2) (o := .lst (ys2.map V.str))
    generalize upd H3 p2 (.lst (ys2.map V.str)) = H4 at s4 hp4 ⊢
    have s04 := s03.trans s4
    refine ⟨_, rfl, m, kvs, rfl, s04 _ _ hk, by show 2 ≤ sizeLine; decide, fun l2 nl2 => ?_⟩
    have s5 := same_new (o := HO.lst [.ref p2, .int (kvs.length : Int)]) nl2
    have hl2 := upd_same (H := H4) (a := l2) (o := .lst [.ref p2, .int (kvs.length : Int)])
    generalize upd H4 l2 (.lst [.ref p2, .int (kvs.length : Int)]) = H5 at s5 hl2 ⊢
    have s05 := s04.trans s5
    have ey : ys2 = ys := sortedS_one (pm2.trans pm.symm) sr2 sr
    rw [lk] at hl2
    refine ⟨_, _, rfl, alike_pair (s5 _ _ (s4 _ _ hl1)) hl2 (alike_strsO (s5 _ _ (s4 _ _ (s3 _ _ hp2))) (by rw [← ey]; exact s5 _ _ hp4) (by rw [pm.length_eq]; omega)) (.int _ _), fun H6 s6 => ⟨_, rfl, iteF ?_⟩⟩
    have s06 := s05.trans s6
    -- its text
    have tokf := tw.ok tok
    obtain ⟨z1, z2⟩ := num_short zs.length (by omega)
    have cfew := cntAll_few tok zs
    obtain ⟨z3, z4⟩ := num_short (cntAll g zs) (by omega)
    have c1 : ("Book(" : Str).length = 5 := by decide +kernel
    have c2 : (" tables, " : Str).length = 9 := by decide +kernel
    have c3 : (" rows)" : Str).length = 6 := by decide +kernel
    have line : ∀ m : Nat, m ≤ 100 → m ≤ sizeLine := fun m h => Nat.le_trans h (by decide)
    refine ⟨_, rfl, a, dx, _, rfl, s06 _ _ ha, a, pa, fu, zs, f, past, fut, rfl, bk.same s06, tokf, z9, fun H7 s7 => ⟨_, rfl, ?_⟩⟩
    have s07 := s06.trans s7
    rw [twin_cnt tw zs, reprB_law]
    refine ⟨_, rfl, m, kvs, rfl, s07 _ _ hk, ?_⟩
    rw [lk]
    refine ⟨_, rfl, z2, _, _, rfl, rfl, line _ (by omega), _, _, rfl, rfl, line _ (by rw [Str.length_append]; omega), _, rfl, _, rfl, z4, _, _, rfl, rfl, line _ (by rw [Str.length_append, Str.length_append]; omega), _, _, rfl, rfl, line _ (by rw [Str.length_append, Str.length_append, Str.length_append]; omega), rfl, _, rfl, ?_⟩
    rw [decide_eq_true rfl]
    refine iteF ?_
    -- each table
    refine ⟨m, _, s07 _ _ hk, trivial, fun od2 => ?_⟩
    refine ⟨_, rfl, m, od2, rfl, .inl ⟨_, upd_same, ?_⟩⟩
    have hf7 := upd_same (H := H7) (a := m) (o := .frz od2 (.dK kvs))
    have old7 : ∀ p o, p ≠ m → H7 p = some o → upd H7 m (.frz od2 (.dK kvs)) p = some o := fun p o n e => (upd_ne n).trans e
    have hk7 := s07 _ _ hk
    have bk7 := back (od := od2) hk7
    generalize upd H7 m (.frz od2 (.dK kvs)) = Hg at hf7 old7 bk7 ⊢
    refine for_it L2.walk_keys (fun i σ H' => Same Hg H' ∧ ∃ v3, σ = [some (.ref a), some (.ref m), some (.int ((cntAll g zs : Nat) : Int)), v3]) ⟨Same.refl _, none, rfl⟩ (fun i σ H' _ z => z.1 _ _ hf7) ?_ ?_
    · rintro i x σ Ha Hb hi ⟨sa, v3, rfl⟩ ⟨rfl, kk, v, e, rfl⟩
      obtain ⟨z, hz, rfl⟩ := at_ e
      have zne : zs ≠ [] := fun q => by rw [q] at hz; cases hz
      have bkg := ((bk.same s07).lock old7 (mo.same s07) zne).same sa
      obtain ⟨dx', tb', ps', us', hag, _⟩ := id bkg
      have h1 := all z
      rw [val_get ndk e] at h1
      cases eg : g z with
      | none =>
        rw [eg] at h1
        exact h1.elim
      | some t =>
      rw [eg] at h1
      obtain ⟨ta, l, ws, rfl, _, hta, hl, ro⟩ := (show ModS S H v t.1 t.2 from h1)
      have nta : ta ≠ m := fun q => by rw [q, hk] at hta; cases hta
      have nl : l ≠ m := fun q => by rw [q, hk] at hl; cases hl
      obtain ⟨ss, ef, pss, sss⟩ := tw.back eg
      obtain ⟨t1, t4, t40, tnd, trk⟩ := tok z t eg
      have z100 : zs.length < 100 := by omega
      have nof : f z ≠ none := fun q => by rw [ef] at q; cases q
      refine ⟨_, rfl, a, dx', _, rfl, hag, bno (by decide +kernel) (by decide +kernel) (by decide +kernel), _, rfl, a, pa, fu, zs, f, past, fut, z, rfl, bkg, z100, fun t' et' => ?_, fun no => absurd no nof⟩
      have e1 : t'.1 = t.1 := by rw [ef] at et'; rw [← Option.some.inj et']
      refine ⟨_, rfl, a, dx', _, rfl, hag, bno (by decide +kernel) (by decide +kernel) (by decide +kernel), _, rfl, a, pa, fu, zs, f, past, fut, z, rfl, bkg, z100, fun t2 et2 p vs np rp => ?_, fun no => absurd no nof⟩
      have e2 : t2.2 = ss := by rw [ef] at et2; rw [← Option.some.inj et2]
      rw [e2] at rp
      have s8 := same_new (o := HO.lst vs) np
      have hp8 := upd_same (H := Hb) (a := p) (o := .lst vs)
      generalize upd Hb p (.lst vs) = H8 at s8 hp8 ⊢
      refine ⟨by show 2 ≤ sizeLine; decide, fun l1 nl1 => ?_⟩
      have s9 := same_new (o := HO.lst [.int (t'.1 : Int), .ref p]) nl1
      have hl1 := upd_same (H := H8) (a := l1) (o := .lst [.int (t'.1 : Int), .ref p])
      generalize upd H8 l1 (.lst [.int (t'.1 : Int), .ref p]) = H9 at s9 hl1 ⊢
      have sg9 := sa.trans (s8.trans s9)
      have dg : ∀ {Hx : Hp}, Same Hg Hx → DGet Hx m (.str z) (some (.ref ta)) := fun sx => .inl ⟨kvs, Sum.inr z, .inr ⟨od2, sx _ _ hf7⟩, rfl, (val_get ndk e).symm⟩
      have hta9 := sg9 _ _ (old7 _ _ nta (s07 _ _ hta))
      have hl9 := sg9 _ _ (old7 _ _ nl (s07 _ _ hl))
      have mvg : ∀ x xs, H x = some (.tup xs) → Hg x = some (.tup xs) := fun x xs ex => old7 _ _ (fun q => by rw [q, hk] at ex; cases ex) (s07 _ _ ex)
      have ro9 := (ro.moved mvg).same sg9
      refine ⟨_, rfl, _, rfl, m, .ref ta, rfl, dg sg9, ta, _, _, _, rfl, rfl, SqT.of hta9, atI_nat (j := 0) rfl, ?_⟩
      refine ⟨_, rfl, _, rfl, m, .ref ta, rfl, dg sg9, ta, _, _, _, rfl, rfl, SqT.of hta9, atI_nat (j := 1) rfl, sort_rowsW hl9 ro9 t1 trk fun ps ys qs nps ros pm sr => ?_⟩
      have eq : qs = ss := sorted_oneO (wd := t.1) (fun r mr => trk r (pm.mem_iff.mp mr)) sr sss (pm.trans pss.symm)
      have s10 := same_new (o := HO.lst ys) nps
      have hp10 := upd_same (H := H9) (a := ps) (o := .lst ys)
      generalize upd H9 ps (.lst ys) = H10 at s10 hp10 ⊢
      refine ⟨by show 2 ≤ sizeLine; decide, fun l2 nl2 => ?_⟩
      have s11 := same_new (o := HO.lst [.int (t.1 : Int), .ref ps]) nl2
      have hl2 := upd_same (H := H10) (a := l2) (o := .lst [.int (t.1 : Int), .ref ps])
      generalize upd H10 l2 (.lst [.int (t.1 : Int), .ref ps]) = H11 at s11 hl2 ⊢
      have s911 := s10.trans s11
      have s811 := s9.trans s911
      have lss : ss.length ≤ 1000 := by
        have := pss.length_eq
        omega
      have okss : ∀ r ∈ ss, RowOk t.1 r := fun r mr => trk r (pss.mem_iff.mp mr)
      refine ⟨_, _, rfl, alike_pair (s911 _ _ hl1) hl2 (by rw [e1]; exact .int _ _) (alike_rowsO (n := 0) (wd := t.1) (s811 _ _ hp8) (s11 _ _ hp10) (rp.same (s8.trans s811)) (by rw [← eq]; exact ros.same s911) lss okss (by omega)), fun Hx sx => ⟨_, rfl, iteF ⟨sg9.trans (s911.trans sx), _, rfl⟩⟩⟩
    · rintro σ Ha ⟨sa, v3, rfl⟩
      exact ⟨sa _ _ hf7, k _ (s07.trans (bk7 _ sa))⟩
end
end VQ
namespace VQ
open PySem L2 LamX
section
variable {P : Program} {w : World} {K : PySem.W.Frag} {mg : Str → Option Value} {base : Heap} {aB : Addr}
theorem has_isnameB {tle : Tok} (b : Blt mg) (Wle : mg "LETTERS" = some (.str letters tle)) (Wba : mg "BARRED" = some (.ref aB)) (Wbt : ∀ H, SqT K H aB [.str "find", .str "some"]) (a : AtE K mg "is_name" sIsName ["thing", "most"]) : Has P w K mg base CX0 1 "is_name" sIsName ["thing", "most"] spIsName := by
  obtain ⟨f, fd, a⟩ := a
  refine ⟨f, fd, a, a.fn.ok scIsName (fun vs H Q E h => ?_) (fun cdv A outer s H vs Q E hr h => ?_)⟩
  · obtain ⟨z, m, rfl, _⟩ := h
    rfl
  · obtain ⟨z, m, rfl, nz, m8, k⟩ := h
    refine ⟨_,
    (pss_cons (ps_if (PW.pt (pw_or (pt_not (pt_val (pe_isi (pv 0) rfl b.isi rfl b.str (c := "str") (by decide +kernel)))) (pw_or1 (pt_not (pt_chain op_le op_le pe_int (pe_callB call_len_str (by rfl) b.len PySem.boot_len (pa_cons (pv 0) pa_nil)) (pv 1))))))
      (pss_one (ps_ret pe_bl))
      pss_nil)
    (pss_one (ps_ret (pe_and (pe_cmpR op_notIn_seq (pv 0) (pe_glob (v := .ref aB) rfl Wba rfl) rfl) (pe_one (pe_callB (cr_all rfl) (by rfl) b.all (by decide +kernel) (pa_cons (pe_lc (own := [("sign", 2)]) (g := (gName 2)) (tt := tYes) (te := (tOp rInSign (tVar 2) (tC (.str letters)))) rfl scIsName.nd (pi_str (pv 0)) (blkOk_by (N := nIsName) (sc := defScope sIsName) (by decide +kernel)) (fun _ _ _ _ _ => (pg_name (i := 2) scIsName.nd rfl (.inl rfl))) (fun _ _ _ _ _ => pts_nil) (fun _ _ _ _ _ => (pe_cmpR op_in_sign (pv 2) (pe_glob (v := .str letters) rfl Wle ⟨_, rfl⟩) rfl))) pa_nil))))))), ?_⟩
    have l8 := nz.hi
    refine rd_isi rfl (.base (.str z)) (b := true) (by decide +kernel) ⟨_, rfl, iteF ?_⟩
    refine ⟨_, rfl, z, rfl, Nat.le_trans (show z.length ≤ 1000 by omega) (by decide), 1, _, rfl, rfl, _, rfl, ?_⟩
    rw [if_pos (decide_eq_true (show (1 : Int) ≤ (z.length : Int) by have := nz.lo; omega))]
    refine ⟨_, rfl, _, _, rfl, rfl, _, rfl, ?_⟩
    rw [decide_eq_true (show (z.length : Int) ≤ (m : Int) by omega)]
    refine iteF ?_
    refine ⟨_, rfl, aB, _, rfl, .inr (Wbt H), rfl, rfl, _, rfl, ?_⟩
    have e1 : inV (.str z) [.str "find", .str "some"] = false := by
      have e := inV_str (z := z) (zs := ["find", "some"])
      rw [show ([.str "find", .str "some"] : List V) = (["find", "some"] : List Str).map V.str from rfl, e]
      refine decide_eq_false fun m => ?_
      rcases List.mem_cons.mp m with q | q
      · exact nz.nf q
      · exact nz.ns (List.mem_singleton.mp q)
    rw [e1]
    refine iteT ?_
    refine ⟨_, rfl, z, rfl, fun D hD => ?_⟩
    refine lc_textS (fun i acc _ => acc = ((z.cps.toList.take i).map letB).map V.bl) hD (show z.cps.size < 1000 by have : z.cps.size = z.length := rfl; omega) (fun _ _ _ _ _ h => h) rfl ?_ ?_
    · rintro i c acc H2 hc s2 h2 rfl k1 k2 y1 y2
      refine ⟨rfl, yes_turn ?_⟩
      refine ⟨_, rfl, c, letters, rfl, rfl, y1 _ _ (Same.refl _) ?_⟩
      rw [List.take_add_one, show z.cps.toList[i]? = some c by rw [Array.getElem?_toList]; exact hc, List.map_append, List.map_append]
      rfl
    · rintro acc H2 s2 h2 rfl
      refine ⟨D, _, rfl, SqL.of h2, ?_⟩
      have e2 : ((z.cps.toList.take z.cps.size).map letB).all id = true := by
        rw [List.take_of_length_le (by simp), List.all_map]
        exact List.all_eq_true.mpr fun c m => nz.lt c m
      rw [e2]
      exact k H2 s2
theorem held_of {CX : CXT} {k : Nat} {x : Str} {st : Stmt} {ps : List Str} {sp : Sp} {f : Addr} {fd : FuncData} (a : At K mg x st ps f fd) (h : Has P w K mg base CX k x st ps sp) : HeldC P w K mg base CX k f sp := by
  obtain ⟨f', fd', a', F⟩ := h
  obtain ⟨rfl, rfl⟩ := a.uniq a'
  exact ⟨⟨_, ps, F, a.fn.kp, a.bd⟩⟩
end
end VQ
namespace VQ
open PySem L2 LamX
/-! ### names, rows of any kind -/
def nameB (m : Nat) (z : Str) : Bool := decide (1 ≤ z.length) && (decide (z.length ≤ m) && (!decide (z = "find" ∨ z = "some") && z.cps.toList.all letB))
theorem nameB_iff {m : Nat} {z : Str} : nameB m z = true ↔ NameS m z := by
  unfold nameB
  rw [Bool.and_eq_true, Bool.and_eq_true, Bool.and_eq_true, decide_eq_true_eq, decide_eq_true_eq, Bool.not_eq_true', decide_eq_false_iff_not, List.all_eq_true]
  exact ⟨fun ⟨a, b, c, d⟩ => ⟨a, b, fun e => c (.inl e), fun e => c (.inr e), d⟩, fun h => ⟨h.lo, h.hi, fun e => e.elim h.nf h.ns, h.lt⟩⟩
def rowB (wd : Nat) : Option (List V) → Bool
  | none => false
  | some xs => decide (xs.length = wd) && xs.all worthB
theorem worths_are : ∀ {xs : List V}, xs.all worthB = true → ∃ r : List Nat, xs = r.map numV ∧ ∀ n ∈ r, n < 32
  | [], _ => ⟨[], rfl, fun n m => by cases m⟩
  | x :: xs, h => by
    rw [List.all_cons, Bool.and_eq_true] at h
    obtain ⟨r, e, l⟩ := worths_are h.2
    cases x with
    | int i =>
      have h1 : (decide (0 ≤ i) && decide (i < 32)) = true := h.1
      rw [Bool.and_eq_true, decide_eq_true_eq, decide_eq_true_eq] at h1
      obtain ⟨n, rfl⟩ := Int.eq_ofNat_of_zero_le h1.1
      refine ⟨n :: r, by rw [e]; rfl, fun k m => ?_⟩
      rcases List.mem_cons.mp m with rfl | m
      · omega
      · exact l k m
    | _ => cases h.1
theorem rowB_ok {wd : Nat} {xs : List V} (h : rowB wd (some xs) = true) : ∃ r : List Nat, xs = r.map numV ∧ RowOk wd r := by
  have h : (decide (xs.length = wd) && xs.all worthB) = true := h
  rw [Bool.and_eq_true, decide_eq_true_eq] at h
  obtain ⟨r, rfl, l⟩ := worths_are h.2
  refine ⟨r, rfl, ?_, l⟩
  have := h.1
  rwa [List.length_map] at this
section
variable {P : Program} {w : World} {K : PySem.W.Frag} {mg : Str → Option Value} {base : Heap} {aB : Addr}
def spIsNameX : Sp := fun vs H Q _ => ∃ (z : Str) (m : Nat), vs = [.str z, .int (m : Nat)] ∧ z.length ≤ 900 ∧ ∀ H', Same H H' → Q (.bl (nameB m z)) H'
theorem inBar (z : Str) : inV (.str z) [.str "find", .str "some"] = decide (z = "find" ∨ z = "some") := by
  have e := inV_str (z := z) (zs := ["find", "some"])
  rw [show ([.str "find", .str "some"] : List V) = (["find", "some"] : List Str).map V.str from rfl, e]
  refine decide_eq_decide.mpr ⟨fun m => ?_, fun m => ?_⟩
  · rcases List.mem_cons.mp m with q | q
    · exact .inl q
    · exact .inr (List.mem_singleton.mp q)
  · rcases m with rfl | rfl <;> simp
theorem has_isnameX {tle : Tok} (b : Blt mg) (Wle : mg "LETTERS" = some (.str letters tle)) (Wba : mg "BARRED" = some (.ref aB)) (Wbt : ∀ H, SqT K H aB [.str "find", .str "some"]) (a : AtE K mg "is_name" sIsName ["thing", "most"]) : Has P w K mg base CX0 1 "is_name" sIsName ["thing", "most"] spIsNameX := by
  obtain ⟨f, fd, a⟩ := a
  refine ⟨f, fd, a, a.fn.ok scIsName (fun vs H Q E h => ?_) (fun cdv A outer s H vs Q E hr h => ?_)⟩
  · obtain ⟨z, m, rfl, _⟩ := h
    rfl
  · obtain ⟨z, m, rfl, l9, k⟩ := h
    refine ⟨_,
    (pss_cons (ps_if (PW.pt (pw_or (pt_not (pt_val (pe_isi (pv 0) rfl b.isi rfl b.str (c := "str") (by decide +kernel)))) (pw_or1 (pt_not (pt_chain op_le op_le pe_int (pe_callB call_len_str (by rfl) b.len PySem.boot_len (pa_cons (pv 0) pa_nil)) (pv 1))))))
      (pss_one (ps_ret pe_bl))
      pss_nil)
    (pss_one (ps_ret (pe_and (pe_cmpR op_notIn_seq (pv 0) (pe_glob (v := .ref aB) rfl Wba rfl) rfl) (pe_one (pe_callB (cr_all rfl) (by rfl) b.all (by decide +kernel) (pa_cons (pe_lc (own := [("sign", 2)]) (g := (gName 2)) (tt := tYes) (te := (tOp rInSign (tVar 2) (tC (.str letters)))) rfl scIsName.nd (pi_str (pv 0)) (blkOk_by (N := nIsName) (sc := defScope sIsName) (by decide +kernel)) (fun _ _ _ _ _ => (pg_name (i := 2) scIsName.nd rfl (.inl rfl))) (fun _ _ _ _ _ => pts_nil) (fun _ _ _ _ _ => (pe_cmpR op_in_sign (pv 2) (pe_glob (v := .str letters) rfl Wle ⟨_, rfl⟩) rfl))) pa_nil))))))), ?_⟩
    unfold nameB at k
    refine rd_isi rfl (.base (.str z)) (b := true) (by decide +kernel) ⟨_, rfl, iteF ?_⟩
    refine ⟨_, rfl, z, rfl, Nat.le_trans l9 (by decide), 1, _, rfl, rfl, _, rfl, ?_⟩
    by_cases c1 : 1 ≤ z.length
    · rw [if_pos (decide_eq_true (show (1 : Int) ≤ (z.length : Int) by omega))]
      rw [decide_eq_true c1] at k
      refine ⟨_, rfl, _, _, rfl, rfl, _, rfl, ?_⟩
      by_cases c2 : z.length ≤ m
      · rw [decide_eq_true (show (z.length : Int) ≤ (m : Int) by omega)]
        rw [decide_eq_true c2] at k
        refine iteF ?_
        refine ⟨_, rfl, aB, _, rfl, .inr (Wbt H), rfl, rfl, _, rfl, ?_⟩
        rw [inBar]
        by_cases c3 : z = "find" ∨ z = "some"
        · rw [decide_eq_true c3] at k ⊢
          exact iteF (k H (Same.refl H))
        · rw [decide_eq_false c3] at k ⊢
          refine iteT ?_
          refine ⟨_, rfl, z, rfl, fun D hD => ?_⟩
          refine lc_textS (fun i acc _ => acc = ((z.cps.toList.take i).map letB).map V.bl) hD (show z.cps.size < 1000 by have : z.cps.size = z.length := rfl; omega) (fun _ _ _ _ _ h => h) rfl ?_ ?_
          · rintro i c acc H2 hc s2 h2 rfl k1 k2 y1 y2
            refine ⟨rfl, yes_turn ?_⟩
            refine ⟨_, rfl, c, letters, rfl, rfl, y1 _ _ (Same.refl _) ?_⟩
            rw [List.take_add_one, show z.cps.toList[i]? = some c by rw [Array.getElem?_toList]; exact hc, List.map_append, List.map_append]
            rfl
          · rintro acc H2 s2 h2 rfl
            refine ⟨D, _, rfl, SqL.of h2, ?_⟩
            have e2 : ((z.cps.toList.take z.cps.size).map letB).all id = z.cps.toList.all letB := by
              rw [List.take_of_length_le (by simp), List.all_map]
              rfl
            rw [e2]
            exact k H2 s2
      · rw [decide_eq_false (show ¬ (z.length : Int) ≤ (m : Int) by omega)]
        rw [decide_eq_false c2] at k
        exact iteT (k H (Same.refl H))
    · rw [if_neg (by rw [decide_eq_false (show ¬ (1 : Int) ≤ (z.length : Int) by omega)]; decide)]
      rw [decide_eq_false c1] at k
      exact ⟨_, rfl, iteT (k H (Same.refl H))⟩
def spIsRowX (K : PySem.W.Frag) : Sp := fun vs H Q _ => ∃ (v : V) (o : Option (List V)) (wd : Nat), vs = [v, .int (wd : Int)] ∧ wd ≤ 4 ∧ Thing K H v o ∧ ∀ H', Same H H' → Q (.bl (rowB wd o)) H'
theorem has_isrowX (b : Blt mg) (hWo : Has P w K mg base CX0 2 "is_worth" sIsWorth ["thing"] (spIsWorth K)) (a : AtE K mg "is_row" sIsRow ["thing", "width"]) : Has P w K mg base CX0 3 "is_row" sIsRow ["thing", "width"] (spIsRowX K) := by
  obtain ⟨f, fd, a⟩ := a
  obtain ⟨fWo, fdWo, aWo, GWo⟩ := hWo
  refine ⟨f, fd, a, a.fn.ok scIsRow (fun vs H Q E h => ?_) (fun cdv A outer s H vs Q E hr2 h => ?_)⟩
  · obtain ⟨v, o, wd, rfl, _⟩ := h
    rfl
  · obtain ⟨v, o, wd, rfl, w4, th, k⟩ := h
    refine ⟨_,
    (pss_one (ps_ret (pe_and (pe_isi (pv 0) rfl b.isi rfl b.tuple (c := "tuple") (by decide +kernel)) (pe_and (pe_cmpR op_eq (pe_callB call_len_seq (by rfl) b.len PySem.boot_len (pa_cons (pv 0) pa_nil)) (pv 1) (nomark _)) (pe_one (pe_callB (cr_all rfl) (by rfl) b.all (by decide +kernel) (pa_cons (pe_lc (own := [("part", 2)]) (g := (gName 2)) (tt := tYes) (te := (tCall (spIsWorth K) [] E0 (tCons (tVar 2) tNil))) rfl scIsRow.nd (pi_tup (pv 0)) (blkOk_by (N := nIsRow) (sc := defScope sIsRow) (by decide +kernel)) (fun _ _ _ _ _ => (pg_name (i := 2) scIsRow.nd rfl (.inl rfl))) (fun _ _ _ _ _ => pts_nil) (fun _ _ _ _ _ => (pe_call GWo hr2 rfl aWo.gl aWo.fn.kp aWo.bd .nil pass0 (pa_cons (pv 2) pa_nil)))) pa_nil))))))), ?_⟩
    cases th with
    | oth ty m nt =>
      rename_i t
      have kb : kitB t "tuple" = some false := by
        have : ∀ t ∈ basics, t ≠ "tuple" → kitB t "tuple" = some false := by decide +kernel
        exact this t m nt
      exact rd_isi rfl ty (b := false) kb ⟨_, rfl, iteF (k H (Same.refl H))⟩
    | tup ha hp hl =>
      rename_i ad xs
      have k : ∀ H', Same H H' → Q (.bl (decide (xs.length = wd) && xs.all worthB)) H' := k
      refine rd_isi rfl (.base (.tup ha)) (b := true) (by decide +kernel) ⟨_, rfl, iteT ?_⟩
      refine ⟨_, rfl, ad, _, rfl, .inr (SqT.of ha), _, rfl, rfl, _, rfl, ?_⟩
      by_cases c : xs.length = wd
      · rw [decide_eq_true (show V.int ((xs.length : Nat) : Int) = V.int (wd : Int) by rw [c])]
        rw [decide_eq_true c] at k
        refine iteT ⟨_, rfl, ad, rfl, ⟨_, SqT.of ha⟩, fun D hD => ?_⟩
        refine lc_tupV (xs := xs) (fun x => .bl (worthB x)) hD (SqT.of ha) (by omega) ?_ ?_
        · intro i x H2 hx s2 c1 c2 kk
          obtain ⟨t, ty, m, _⟩ := Part.same s2 (hp x (List.mem_of_getElem? hx))
          exact ⟨rfl, yes_turn ⟨_, rfl, x, t, rfl, ty, m, kk _ (Same.refl _)⟩⟩
        · intro H2 s2 hd
          refine ⟨D, xs.map worthB, rfl, SqL.of (by rw [hd, List.map_map]; rfl), ?_⟩
          have e : (xs.map worthB).all id = xs.all worthB := by rw [List.all_map]; rfl
          rw [e]
          exact k H2 s2
      · rw [decide_eq_false (show ¬ V.int ((xs.length : Nat) : Int) = V.int (wd : Int) from fun e => c (Int.ofNat_inj.mp (V.int.inj e)))]
        rw [decide_eq_false c] at k
        exact iteF (k H (Same.refl H))
abbrev sBadRow : Stmt := inClass (top 6) 0
theorem scBadRow : FnScope ["self"] ["self"] (defScope sBadRow) := ⟨rfl, rfl, rfl, by decide +kernel, rfl, by decide +kernel, by decide +kernel⟩
abbrev sBadName : Stmt := inClass (top 3) 0
theorem scBadName : FnScope ["self"] ["self"] (defScope sBadName) := ⟨rfl, rfl, rfl, by decide +kernel, rfl, by decide +kernel, by decide +kernel⟩
abbrev sBadWidth : Stmt := inClass (top 5) 0
theorem scBadWidth : FnScope ["self"] ["self"] (defScope sBadWidth) := ⟨rfl, rfl, rfl, by decide +kernel, rfl, by decide +kernel, by decide +kernel⟩
def clF (nm : Str) : List (Str × V) := [("called", .str nm)]
def spNeedRowO (K : PySem.W.Frag) (BR : Addr) : Sp := fun vs H Q E => ∃ (v : V) (o : Option (List V)) (wd : Nat), vs = [v, .int (wd : Int)] ∧ wd ≤ 4 ∧ Thing K H v o ∧ rowB wd o = false ∧ Refs H E BR (clF "BadRow")
theorem has_needrowO {BR fI : Addr} {fdI : FuncData} (EB : ErrC K mg "BadRow" BR fI fdI "BadRow.__init__" sBadRow) (hIr : Has P w K mg base CX0 3 "is_row" sIsRow ["thing", "width"] (spIsRowX K)) (a : AtE K mg "need_row" sNeedRow ["row", "width"]) : Has P w K mg base (L2.CX P w) 4 "need_row" sNeedRow ["row", "width"] (spNeedRowO K BR) := by
  obtain ⟨f, fd, a⟩ := a
  obtain ⟨fIr, fdIr, aIr, GIr⟩ := hIr
  have GI : FnOk P w K mg base CX0 1 fI fdI ["self"] (spErr K BR "BadRow") := ok_err EB scBadRow (.inl rfl) rfl
  refine ⟨f, fd, a, a.fn.okX scNeedRow (fun vs H Q E h => ?_) (fun cdv A outer s H vs Q E hr3 h => ?_)⟩
  · obtain ⟨v, o, wd, rfl, _⟩ := h
    rfl
  · have hr2 := hr3.mono (show 2 ≤ 3 by decide)
    obtain ⟨v, o, wd, rfl, w4, th, no, k⟩ := h
    refine ⟨_,
    (pss_one (ps_if (pt_not (pt_val (pe_call GIr hr3 rfl aIr.gl aIr.fn.kp aIr.bd .nil pass0 (pa_cons (pv 0) (pa_cons (pv 1) pa_nil)))))
      (pss_one (ps_raise rfl (takes_of rfl rfl rfl rfl) (pmk_oex0 EB.ox EB.it EB.ty GI hr2 EB.bd pass0 rfl EB.gl)))
      pss_nil)), ?_⟩
    refine ⟨_, rfl, _, rfl, v, o, wd, rfl, w4, th, fun H2 s2 => ⟨_, rfl, ?_⟩⟩
    rw [no]
    exact iteT (raise_plain (σ := []) fun d hd => k d H2 s2 hd)
/-- things that are no rows of this width -/
inductive BadRows (K : PySem.W.Frag) (H : Hp) (wd : Nat) : V → Prop
  | oth {x : V} {t : String} (ty : TyX K H x (.type t)) (m : t ∈ basics) (n1 : t ≠ "tuple") (n2 : t ≠ "list") : BadRows K H wd x
  | row {l : Addr} {us : List V} (h : H l = some (.lst us) ∨ H l = some (.tup us)) {f : V → Option (List V)} (all : ∀ u ∈ us, Thing K H u (f u)) (few : us.length < 1000) (bad : (us.all fun u => rowB wd (f u)) = false) : BadRows K H wd (.ref l)
  | dup {l : Addr} {us : List V} {rs : List (List Nat)} (h : H l = some (.lst us) ∨ H l = some (.tup us)) (ro : Rows H us rs) (ok : ∀ r ∈ rs, RowOk wd r) (few : rs.length < 60) (nd : ¬ rs.Nodup) : BadRows K H wd (.ref l)
theorem rowB_yes {wd : Nat} {r : List Nat} (h : RowOk wd r) : rowB wd (some (r.map numV)) = true := by
  show (decide ((r.map numV).length = wd) && (r.map numV).all worthB) = true
  rw [List.length_map, h.1, decide_eq_true rfl, Bool.true_and, List.all_eq_true]
  intro x m
  obtain ⟨n, mn, rfl⟩ := List.mem_map.mp m
  have := h.2 n mn
  show (decide (0 ≤ (n : Int)) && decide ((n : Int) < 32)) = true
  rw [decide_eq_true (show 0 ≤ (n : Int) by omega), decide_eq_true (show (n : Int) < 32 by omega)]
  rfl
theorem nodup_casts_back {rs : List (List Nat)} (h : (rs.map (fun r => r.map fun n => ((n : Nat) : Int))).Nodup) : rs.Nodup := by
  induction rs with
  | nil => exact List.nodup_nil
  | cons r rs ih =>
    rw [List.map_cons, List.nodup_cons] at h
    exact List.nodup_cons.mpr ⟨fun m => h.1 (List.mem_map.mpr ⟨r, m, rfl⟩), ih h.2⟩
def spAreRowsO (K : PySem.W.Frag) : Sp := fun vs H Q _ => ∃ (v : V) (wd : Nat), vs = [v, .int (wd : Int)] ∧ BadRows K H wd v ∧ wd ≤ 4 ∧ ∀ H', Same H H' → Q (.bl false) H'
theorem has_arerowsO (b : Blt mg) (st : mg "set" = none) (hIr : Has P w K mg base CX0 3 "is_row" sIsRow ["thing", "width"] (spIsRowX K)) (a : AtE K mg "are_rows" sAreRows ["thing", "width"]) : Has P w K mg base CX0 4 "are_rows" sAreRows ["thing", "width"] (spAreRowsO K) := by
  obtain ⟨f, fd, a⟩ := a
  obtain ⟨fIr, fdIr, aIr, GIr⟩ := hIr
  refine ⟨f, fd, a, a.fn.ok scAreRows (fun vs H Q E h => ?_) (fun cdv A outer s H vs Q E hr3 h => ?_)⟩
  · obtain ⟨v, wd, rfl, _⟩ := h
    rfl
  · obtain ⟨v, wd, rfl, bad, w4, k⟩ := h
    have hu : (A.deeper (PyProof.Rows.envOfC "are_rows" (defScope sAreRows) s.heap.objs.size f cdv)).units + 64 < cLine := hr3.units
    cases bad with
    | oth ty m n1 n2 =>
      rename_i t
      refine ⟨_,
      (pss_cons (ps_if (PW.pt (pw_or (pt_not (pt_val (pe_isiLT (pv 0) rfl b.isi rfl b.list rfl b.tuple))) (pw_or1 (pt_not (pt_val (pe_callB (cr_all rfl) (by rfl) b.all (by decide +kernel) (pa_cons (pe_lc (own := [("part", 2)]) (g := (gName 2)) (tt := tYes) (te := (tCall (spIsRowX K) [] E0 (tCons (tVar 2) (tCons (tVar 1) tNil)))) rfl scAreRows.nd (pi_list (pv 0)) (blkOk_by (N := nAreRows) (sc := defScope sAreRows) (by decide +kernel)) (fun _ _ _ _ _ => (pg_name (i := 2) scAreRows.nd rfl (.inl rfl))) (fun _ _ _ _ _ => pts_nil) (fun _ _ _ _ _ => (pe_call GIr hr3 rfl aIr.gl aIr.fn.kp aIr.bd .nil pass0 (pa_cons (pv 2) (pa_cons (pv 1) pa_nil))))) pa_nil)))))))
        (pss_one (ps_ret pe_bl))
        pss_nil)
      (pss_one (ps_ret (pe_cmpR op_eq (pe_lenSetT rfl hu (pv 0) (by rfl) b.len (by rfl) st) (pe_callB call_len_seq (by rfl) b.len PySem.boot_len (pa_cons (pv 0) pa_nil)) (nomark _))))), ?_⟩
      refine ⟨_, rfl, by show 2 ≤ sizeLine; decide, fun T nT => ?_⟩
      have sT := same_new (o := HO.tup [.ty "list", .ty "tuple"]) nT
      have kb : PySem.W.kitAny K (.type t) [.type "list", .type "tuple"] = some false := by
        have a1 : ∀ t ∈ basics, t ≠ "list" → kitB t "list" = some false := by decide +kernel
        have a2 : ∀ t ∈ basics, t ≠ "tuple" → kitB t "tuple" = some false := by decide +kernel
        refine kitAny_cons (kit_ty (a1 t m n2)) (fun e => ?_) (fun e => by cases e)
        exact kitAny_cons (kit_ty (a2 t m n1)) (fun e => rfl) (fun e => by cases e)
      exact ⟨v, T, _, .type t, _, false, rfl, upd_same, .cons (.ty "list") (.cons (.ty "tuple") .nil), TyX.basic_same sT ty m, kb, _, rfl, iteT (k _ sT)⟩
    | row h all few bad =>
      rename_i l us f
      rcases h with hl | hl
      · refine ⟨_,
        (pss_cons (ps_if (PW.pt (pw_or (pt_not (pt_val (pe_isiLT (pv 0) rfl b.isi rfl b.list rfl b.tuple))) (pw_or1 (pt_not (pt_val (pe_callB (cr_all rfl) (by rfl) b.all (by decide +kernel) (pa_cons (pe_lc (own := [("part", 2)]) (g := (gName 2)) (tt := tYes) (te := (tCall (spIsRowX K) [] E0 (tCons (tVar 2) (tCons (tVar 1) tNil)))) rfl scAreRows.nd (pi_list (pv 0)) (blkOk_by (N := nAreRows) (sc := defScope sAreRows) (by decide +kernel)) (fun _ _ _ _ _ => (pg_name (i := 2) scAreRows.nd rfl (.inl rfl))) (fun _ _ _ _ _ => pts_nil) (fun _ _ _ _ _ => (pe_call GIr hr3 rfl aIr.gl aIr.fn.kp aIr.bd .nil pass0 (pa_cons (pv 2) (pa_cons (pv 1) pa_nil))))) pa_nil)))))))
          (pss_one (ps_ret pe_bl))
          pss_nil)
        (pss_one (ps_ret (pe_cmpR op_eq (pe_lenSetT rfl hu (pv 0) (by rfl) b.len (by rfl) st) (pe_callB call_len_seq (by rfl) b.len PySem.boot_len (pa_cons (pv 0) pa_nil)) (nomark _))))), ?_⟩
        refine ⟨_, rfl, by show 2 ≤ sizeLine; decide, fun T nT => ?_⟩
        have sT := same_new (o := HO.tup [.ty "list", .ty "tuple"]) nT
        refine ⟨.ref l, T, _, .type "list", _, true, rfl, upd_same, .cons (.ty "list") (.cons (.ty "tuple") .nil), .base (.lst (sT _ _ hl)), by rfl, _, rfl, iteF ?_⟩
        refine ⟨_, rfl, l, rfl, ⟨_, SqL.of (sT _ _ hl)⟩, fun D hD => ?_⟩
        refine lc_listV (xs := us) (fun u => .bl (rowB wd (f u))) hD (SqL.of (sT _ _ hl)) few ?_ ?_
        · intro i x H2 hx s2 c1 c2 kk
          exact ⟨rfl, yes_turn ⟨_, rfl, _, rfl, x, f x, wd, rfl, w4, Thing.same (sT.trans s2) (all x (List.mem_of_getElem? hx)), fun H3 s3 => kk _ s3⟩⟩
        · intro H2 s2 hd
          refine ⟨D, us.map (fun u => rowB wd (f u)), rfl, SqL.of (by rw [hd, List.map_map]; rfl), ?_⟩
          have e : (us.map (fun u => rowB wd (f u))).all id = false := by
            rw [List.all_map]
            exact bad
          rw [e]
          exact ⟨_, rfl, iteT (k _ (sT.trans s2))⟩
      · refine ⟨_,
        (pss_cons (ps_if (PW.pt (pw_or (pt_not (pt_val (pe_isiLT (pv 0) rfl b.isi rfl b.list rfl b.tuple))) (pw_or1 (pt_not (pt_val (pe_callB (cr_all rfl) (by rfl) b.all (by decide +kernel) (pa_cons (pe_lc (own := [("part", 2)]) (g := (gName 2)) (tt := tYes) (te := (tCall (spIsRowX K) [] E0 (tCons (tVar 2) (tCons (tVar 1) tNil)))) rfl scAreRows.nd (pi_tup (pv 0)) (blkOk_by (N := nAreRows) (sc := defScope sAreRows) (by decide +kernel)) (fun _ _ _ _ _ => (pg_name (i := 2) scAreRows.nd rfl (.inl rfl))) (fun _ _ _ _ _ => pts_nil) (fun _ _ _ _ _ => (pe_call GIr hr3 rfl aIr.gl aIr.fn.kp aIr.bd .nil pass0 (pa_cons (pv 2) (pa_cons (pv 1) pa_nil))))) pa_nil)))))))
          (pss_one (ps_ret pe_bl))
          pss_nil)
        (pss_one (ps_ret (pe_cmpR op_eq (pe_lenSetTT rfl hu (pv 0) (by rfl) b.len (by rfl) st) (pe_callB call_len_seq (by rfl) b.len PySem.boot_len (pa_cons (pv 0) pa_nil)) (nomark _))))), ?_⟩
        refine ⟨_, rfl, by show 2 ≤ sizeLine; decide, fun T nT => ?_⟩
        have sT := same_new (o := HO.tup [.ty "list", .ty "tuple"]) nT
        refine ⟨.ref l, T, _, .type "tuple", _, true, rfl, upd_same, .cons (.ty "list") (.cons (.ty "tuple") .nil), .base (.tup (sT _ _ hl)), by rfl, _, rfl, iteF ?_⟩
        refine ⟨_, rfl, l, rfl, ⟨_, SqT.of (sT _ _ hl)⟩, fun D hD => ?_⟩
        refine lc_tupV (xs := us) (fun u => .bl (rowB wd (f u))) hD (SqT.of (sT _ _ hl)) few ?_ ?_
        · intro i x H2 hx s2 c1 c2 kk
          exact ⟨rfl, yes_turn ⟨_, rfl, _, rfl, x, f x, wd, rfl, w4, Thing.same (sT.trans s2) (all x (List.mem_of_getElem? hx)), fun H3 s3 => kk _ s3⟩⟩
        · intro H2 s2 hd
          refine ⟨D, us.map (fun u => rowB wd (f u)), rfl, SqL.of (by rw [hd, List.map_map]; rfl), ?_⟩
          have e : (us.map (fun u => rowB wd (f u))).all id = false := by
            rw [List.all_map]
            exact bad
          rw [e]
          exact ⟨_, rfl, iteT (k _ (sT.trans s2))⟩
    | dup h ro ok few nd =>
      rename_i l us rs
      rcases h with hl | hl
      · refine ⟨_,
        (pss_cons (ps_if (PW.pt (pw_or (pt_not (pt_val (pe_isiLT (pv 0) rfl b.isi rfl b.list rfl b.tuple))) (pw_or1 (pt_not (pt_val (pe_callB (cr_all rfl) (by rfl) b.all (by decide +kernel) (pa_cons (pe_lc (own := [("part", 2)]) (g := (gName 2)) (tt := tYes) (te := (tCall (spIsRowX K) [] E0 (tCons (tVar 2) (tCons (tVar 1) tNil)))) rfl scAreRows.nd (pi_list (pv 0)) (blkOk_by (N := nAreRows) (sc := defScope sAreRows) (by decide +kernel)) (fun _ _ _ _ _ => (pg_name (i := 2) scAreRows.nd rfl (.inl rfl))) (fun _ _ _ _ _ => pts_nil) (fun _ _ _ _ _ => (pe_call GIr hr3 rfl aIr.gl aIr.fn.kp aIr.bd .nil pass0 (pa_cons (pv 2) (pa_cons (pv 1) pa_nil))))) pa_nil)))))))
          (pss_one (ps_ret pe_bl))
          pss_nil)
        (pss_one (ps_ret (pe_cmpR op_eq (pe_lenSetT rfl hu (pv 0) (by rfl) b.len (by rfl) st) (pe_callB call_len_seq (by rfl) b.len PySem.boot_len (pa_cons (pv 0) pa_nil)) (nomark _))))), ?_⟩
        refine ⟨_, rfl, by show 2 ≤ sizeLine; decide, fun T nT => ?_⟩
        have sT := same_new (o := HO.tup [.ty "list", .ty "tuple"]) nT
        refine ⟨.ref l, T, _, .type "list", _, true, rfl, upd_same, .cons (.ty "list") (.cons (.ty "tuple") .nil), .base (.lst (sT _ _ hl)), by rfl, _, rfl, iteF ?_⟩
        refine ⟨_, rfl, l, rfl, ⟨_, SqL.of (sT _ _ hl)⟩, fun D hD => ?_⟩
        have ro1 := ro.same sT
        have len := ro.len
        refine lc_listV (xs := us) (fun _ => .bl true) hD (SqL.of (sT _ _ hl)) (by rw [len]; omega) ?_ ?_
        · intro i x H2 hx s2 c1 c2 kk
          obtain ⟨ad, r, rfl, hr, ha⟩ := ro1.get hx
          have okr := ok r (List.mem_of_getElem? hr)
          refine ⟨rfl, yes_turn ⟨_, rfl, _, rfl, .ref ad, some (r.map numV), wd, rfl, w4, .tup (s2 _ _ ha) (fun y my => ?_) (by rw [List.length_map, okr.1]; omega), fun H3 s3 => ?_⟩⟩
          · obtain ⟨n, _, rfl⟩ := List.mem_map.mp my
            exact Part.int _
          · rw [show rowB wd (some (r.map numV)) = true from rowB_yes okr]
            exact kk _ s3
        · intro H2 s2 hd
          refine ⟨D, us.map (fun _ => true), rfl, SqL.of (by rw [hd, List.map_map]; rfl), ?_⟩
          have e : (us.map (fun _ => true)).all id = true := by
            rw [List.all_map]
            exact List.all_eq_true.mpr fun _ _ => rfl
          rw [e]
          refine ⟨true, rfl, iteF ?_⟩
          have s3 := sT.trans s2
          obtain ⟨ks, e1, e2, e3⟩ := rows_ks (K := K) (ro.same s3)
          have el : ks.length = rs.length := by rw [← len, e1, List.length_map]
          refine ⟨_, rfl, l, ks, rfl, SqL.of (by rw [← e1]; exact s3 _ _ hl), e3, by omega, fun n n1 n2 => ?_⟩
          have en := n2 (by rw [e2]; exact fun q => nd (nodup_casts_back q))
          refine ⟨_, rfl, l, us, rfl, .inl (SqL.of (s3 _ _ hl)), ?_⟩
          refine ⟨rfl, ?_⟩
          rw [decide_eq_false (show ¬ V.int (n : Int) = V.int (us.length : Int) from fun q => by
            have := Int.ofNat_inj.mp (V.int.inj q)
            omega)]
          exact k _ s3
      · refine ⟨_,
        (pss_cons (ps_if (PW.pt (pw_or (pt_not (pt_val (pe_isiLT (pv 0) rfl b.isi rfl b.list rfl b.tuple))) (pw_or1 (pt_not (pt_val (pe_callB (cr_all rfl) (by rfl) b.all (by decide +kernel) (pa_cons (pe_lc (own := [("part", 2)]) (g := (gName 2)) (tt := tYes) (te := (tCall (spIsRowX K) [] E0 (tCons (tVar 2) (tCons (tVar 1) tNil)))) rfl scAreRows.nd (pi_tup (pv 0)) (blkOk_by (N := nAreRows) (sc := defScope sAreRows) (by decide +kernel)) (fun _ _ _ _ _ => (pg_name (i := 2) scAreRows.nd rfl (.inl rfl))) (fun _ _ _ _ _ => pts_nil) (fun _ _ _ _ _ => (pe_call GIr hr3 rfl aIr.gl aIr.fn.kp aIr.bd .nil pass0 (pa_cons (pv 2) (pa_cons (pv 1) pa_nil))))) pa_nil)))))))
          (pss_one (ps_ret pe_bl))
          pss_nil)
        (pss_one (ps_ret (pe_cmpR op_eq (pe_lenSetTT rfl hu (pv 0) (by rfl) b.len (by rfl) st) (pe_callB call_len_seq (by rfl) b.len PySem.boot_len (pa_cons (pv 0) pa_nil)) (nomark _))))), ?_⟩
        refine ⟨_, rfl, by show 2 ≤ sizeLine; decide, fun T nT => ?_⟩
        have sT := same_new (o := HO.tup [.ty "list", .ty "tuple"]) nT
        refine ⟨.ref l, T, _, .type "tuple", _, true, rfl, upd_same, .cons (.ty "list") (.cons (.ty "tuple") .nil), .base (.tup (sT _ _ hl)), by rfl, _, rfl, iteF ?_⟩
        refine ⟨_, rfl, l, rfl, ⟨_, SqT.of (sT _ _ hl)⟩, fun D hD => ?_⟩
        have ro1 := ro.same sT
        have len := ro.len
        refine lc_tupV (xs := us) (fun _ => .bl true) hD (SqT.of (sT _ _ hl)) (by rw [len]; omega) ?_ ?_
        · intro i x H2 hx s2 c1 c2 kk
          obtain ⟨ad, r, rfl, hr, ha⟩ := ro1.get hx
          have okr := ok r (List.mem_of_getElem? hr)
          refine ⟨rfl, yes_turn ⟨_, rfl, _, rfl, .ref ad, some (r.map numV), wd, rfl, w4, .tup (s2 _ _ ha) (fun y my => ?_) (by rw [List.length_map, okr.1]; omega), fun H3 s3 => ?_⟩⟩
          · obtain ⟨n, _, rfl⟩ := List.mem_map.mp my
            exact Part.int _
          · rw [show rowB wd (some (r.map numV)) = true from rowB_yes okr]
            exact kk _ s3
        · intro H2 s2 hd
          refine ⟨D, us.map (fun _ => true), rfl, SqL.of (by rw [hd, List.map_map]; rfl), ?_⟩
          have e : (us.map (fun _ => true)).all id = true := by
            rw [List.all_map]
            exact List.all_eq_true.mpr fun _ _ => rfl
          rw [e]
          refine ⟨true, rfl, iteF ?_⟩
          have s3 := sT.trans s2
          obtain ⟨ks, e1, e2, e3⟩ := rows_ks (K := K) (ro.same s3)
          have el : ks.length = rs.length := by rw [← len, e1, List.length_map]
          refine ⟨_, rfl, l, ks, rfl, SqT.of (by rw [← e1]; exact s3 _ _ hl), e3, by omega, fun n n1 n2 => ?_⟩
          have en := n2 (by rw [e2]; exact fun q => nd (nodup_casts_back q))
          refine ⟨_, rfl, l, us, rfl, .inr (SqT.of (s3 _ _ hl)), ?_⟩
          refine ⟨rfl, ?_⟩
          rw [decide_eq_false (show ¬ V.int (n : Int) = V.int (us.length : Int) from fun q => by
            have := Int.ofNat_inj.mp (V.int.inj q)
            omega)]
          exact k _ s3
end
end VQ
namespace VQ
open PySem PySem.Spec PyProof.Rows L2 LamX
/-! ### deeds that are refused, whatever is handed in -/
structure RefX where
  bn : Addr
  bw : Addr
  br : Addr
  fu : Addr
  nt : Addr
  ta : Addr
inductive BadD (X : RefX) (K : PySem.W.Frag) (H : Hp) (f : Tbs) (n : Nat) : Str → List V → Addr → List (Str × V) → Prop
  | name {z : Str} {y : V} (h : nameB 8 z = false) (l : z.length ≤ 900) : BadD X K H f n "make" [.str z, y] X.bn (clF "BadName")
  | taken {z : Str} {v : V} {t : Nat × List (List Nat)} (nz : nameB 8 z = true) (e : f z = some t) : BadD X K H f n "make" [.str z, v] X.ta (ysF "Taken" "name" (.str z))
  | width {z : Str} {v : V} {t : String} (nz : nameB 8 z = true) (e : f z = none) (ty : TyX K H v (.type t)) (m : t ∈ basics) (b : numB 1 5 v = false) : BadD X K H f n "make" [.str z, v] X.bw (clF "BadWidth")
  | fullT {z : Str} {wd : Nat} (nz : nameB 8 z = true) (e : f z = none) (w1 : 1 ≤ wd) (w4 : wd ≤ 4) (n8 : 8 ≤ n) : BadD X K H f n "make" [.str z, .int (wd : Int)] X.fu (ysF "Full" "what" (.str "tables"))
  | noPut {z : Str} {v : V} (e : f z = none) : BadD X K H f n "put" [.str z, v] X.nt (zsF "NoTable" (.str z))
  | noTake {z : Str} {v : V} (e : f z = none) : BadD X K H f n "take" [.str z, v] X.nt (zsF "NoTable" (.str z))
  | noFill {z : Str} {v : V} (e : f z = none) : BadD X K H f n "fill" [.str z, v] X.nt (zsF "NoTable" (.str z))
  | put {z : Str} {v : V} {t : Nat × List (List Nat)} {o : Option (List V)} (e : f z = some t) (th : Thing K H v o) (b : rowB t.1 o = false) : BadD X K H f n "put" [.str z, v] X.br (clF "BadRow")
  | take {z : Str} {v : V} {t : Nat × List (List Nat)} {o : Option (List V)} (e : f z = some t) (th : Thing K H v o) (b : rowB t.1 o = false) : BadD X K H f n "take" [.str z, v] X.br (clF "BadRow")
  | fullP {z : Str} {a : Addr} {r : List Nat} {t : Nat × List (List Nat)} (e : f z = some t) (ha : H a = some (.tup (r.map numV))) (ok : RowOk t.1 r) (m : r ∉ t.2) (l : 40 ≤ t.2.length) : BadD X K H f n "put" [.str z, .ref a] X.fu (ysF "Full" "what" (.str "rows"))
  | fill {z : Str} {v : V} {t : Nat × List (List Nat)} (e : f z = some t) (b : BadRows K H t.1 v) : BadD X K H f n "fill" [.str z, v] X.br (clF "BadRow")
  | fullF {z : Str} {l : Addr} {us : List V} {rs : List (List Nat)} {t : Nat × List (List Nat)} (e : f z = some t) (h : H l = some (.lst us) ∨ H l = some (.tup us)) (ro : Rows H us rs) (ok : ∀ r ∈ rs, RowOk t.1 r) (nd : rs.Nodup) (l40 : 40 < rs.length) (l60 : rs.length < 60) : BadD X K H f n "fill" [.str z, .ref l] X.fu (ysF "Full" "what" (.str "rows"))
section
variable {P : Program} {w : World} {K : PySem.W.Frag} {mg : Str → Option Value} {base : Heap} {X : RefX}
def spTabX (X : RefX) (K : PySem.W.Frag) (word : Str) : Sp := fun vs H Q E => ∃ (a : Addr) (ws : List V) (zs : List Str) (f : Tbs) (C : Addr) (fs : List (Str × V)), vs = .ref a :: ws ∧ TsN H a zs f ∧ TsOk f ∧ zs.length < 100 ∧ BadD X K H f zs.length word ws C fs ∧ Refs H E C fs
theorem badD_len {H : Hp} {f : Tbs} {n : Nat} {w : Str} {ws : List V} {C : Addr} {fs : List (Str × V)} (h : BadD X K H f n w ws C fs) : ws.length = 2 := by cases h <;> rfl
theorem has_makeX {fF fN fW fTk : Addr} {dF dN dW dTk : FuncData} {t1 t2 t3 : Tok} (b : Blt mg) (Wml : mg "MOST_LETTERS" = some (.int 8 t1)) (Wmw : mg "MOST_WIDTH" = some (.int 4 t2)) (Wta : mg "MOST_TABLES" = some (.int 8 t3)) (ET : ErrY K mg "Taken" "name" X.ta fTk dTk "Taken.__init__" sTaken ["self", "name"]) (EBN : ErrC K mg "BadName" X.bn fN dN "BadName.__init__" sBadName) (EBW : ErrC K mg "BadWidth" X.bw fW dW "BadWidth.__init__" sBadWidth) (EF : ErrY K mg "Full" "what" X.fu fF dF "Full.__init__" sFull ["self", "what"])
    (hNm : Has P w K mg base CX0 1 "is_name" sIsName ["thing", "most"] spIsNameX) (hNu : Has P w K mg base CX0 1 "is_number" sIsNumber ["thing", "low", "behind"] (spIsNumber K)) (a : AtE K mg "make_table" sMakeTable ["tables", "name", "width"]) :
    Has P w K mg base (L2.CX P w) 5 "make_table" sMakeTable ["tables", "name", "width"] (spTabX X K "make") := by
  obtain ⟨f, fd, a⟩ := a
  obtain ⟨fNm, fdNm, aNm, GNm⟩ := hNm
  obtain ⟨fNu, fdNu, aNu, GNu⟩ := hNu
  have GBN : FnOk P w K mg base CX0 1 fN dN ["self"] (spErr K X.bn "BadName") := ok_err EBN scBadName (.inl rfl) rfl
  have GBW : FnOk P w K mg base CX0 1 fW dW ["self"] (spErr K X.bw "BadWidth") := ok_err EBW scBadWidth (.inl rfl) rfl
  have GT : FnOk P w K mg base CX0 1 fTk dTk ["self", "name"] (spMadeF X.ta (ysF "Taken" "name")) := ok_errY ET scTaken (.inl rfl) (.inl rfl) rfl
  have GF : FnOk P w K mg base CX0 1 fF dF ["self", "what"] (spMadeF X.fu (ysF "Full" "what")) := ok_errY EF scFull (.inl rfl) (.inl rfl) rfl
  refine ⟨f, fd, a, a.fn.okX scMakeTable (fun vs H Q E h => ?_) (fun cdv A outer s H vs Q E hr4 h => ?_)⟩
  · obtain ⟨ad, ws, zs, tb, C, fs, rfl, _, _, _, bd, _⟩ := h
    have := badD_len bd
    show ws.length + 1 = 3
    omega
  · obtain ⟨ad, ws, zs, tb, C, fs, rfl, ⟨kvs, hk, ek, ndz, all⟩, tok, few, bd, k⟩ := h
    have lk : kvs.length = zs.length := by
      have := congrArg List.length ek
      rwa [List.length_map, List.length_map] at this
    have hu1 : (A.deeper (PyProof.Rows.envOfC "make_table" (defScope sMakeTable) s.heap.objs.size f cdv)).units + 1 < cLine := by
      have := hr4.units
      omega
    have hr1 := hr4.mono (show 1 ≤ 4 by decide)
    have hr2 := hr4.mono (show 2 ≤ 4 by decide)
    have l900 : ∀ {z : Str}, nameB 8 z = true → z.length ≤ 900 := fun h => Nat.le_trans (nameB_iff.mp h).hi (by decide)
    have dg : ∀ {z : Str} {H2 : Hp}, tb z = none → Same H H2 → DGet H2 ad (.str z) none := fun {z H2} e s2 => by
      have h1 := all z
      rw [e] at h1
      cases ev : valV kvs (Sum.inr z) with
      | some v => rw [ev] at h1; exact h1.elim
      | none => exact .inl ⟨kvs, Sum.inr z, .inl (s2 _ _ hk), rfl, ev.symm⟩
    refine ⟨_,
    (pss_cons (ps_if (pt_not (pt_val (pe_call GNm hr1 rfl aNm.gl aNm.fn.kp aNm.bd .nil pass0 (pa_cons (pv 1) (pa_cons (pe_glob (v := .int 8) rfl Wml ⟨_, rfl⟩) pa_nil)))))
      (pss_one (ps_raise rfl (takes_of rfl rfl rfl rfl) (pmk_oex0 EBN.ox EBN.it EBN.ty GBN hr2 EBN.bd pass0 rfl EBN.gl)))
      pss_nil)
    (pss_cons (ps_if (pt_cmp (pc_din hu1 (pv 1) (pv 0)))
      (pss_one (ps_raise rfl (takes_of rfl rfl rfl rfl) (pmk_oex ET.ox ET.it ET.ty GT hr2 ET.bd .nil pass0 rfl ET.gl (pa_cons (pv 1) pa_nil))))
      pss_nil)
    (pss_cons (ps_if (pt_not (pt_val (pe_call GNu hr1 rfl aNu.gl aNu.fn.kp aNu.bd .nil pass0 (pa_cons (pv 2) (pa_cons pe_int (pa_cons (pe_op op_add (pe_glob (v := .int 4) rfl Wmw ⟨_, rfl⟩) pe_int) pa_nil))))))
      (pss_one (ps_raise rfl (takes_of rfl rfl rfl rfl) (pmk_oex0 EBW.ox EBW.it EBW.ty GBW hr2 EBW.bd pass0 rfl EBW.gl)))
      pss_nil)
    (pss_cons (ps_if (pt_cmpR op_ge (pe_callB call_lenD (by rfl) b.len PySem.boot_len (pa_cons (pv 0) pa_nil)) (pe_glob (v := .int 8) rfl Wta ⟨_, rfl⟩) (nomark _))
      (pss_one (ps_raise rfl (takes_of rfl rfl rfl rfl) (pmk_oex EF.ox EF.it EF.ty GF hr2 EF.bd .nil pass0 rfl EF.gl (pa_cons pe_str pa_nil))))
      pss_nil)
    (pss_one ps_never))))), ?_⟩
    cases bd with
    | name h l =>
      refine ⟨_, rfl, _, 8, rfl, l, fun H2 s2 => ⟨_, rfl, ?_⟩⟩
      rw [h]
      exact iteT (raise_plain (σ := []) fun d hd => k d H2 s2 hd)
    | taken nz e =>
      rename_i z v t
      have dgs : ∃ y, ∀ {H2 : Hp}, Same H H2 → DGet H2 ad (.str z) (some y) := by
        have h1 := all z
        rw [e] at h1
        cases ev : valV kvs (Sum.inr z) with
        | none => rw [ev] at h1; exact h1.elim
        | some y => exact ⟨y, fun {H2} s2 => .inl ⟨kvs, Sum.inr z, .inl (s2 _ _ hk), rfl, ev.symm⟩⟩
      obtain ⟨y, dgy⟩ := dgs
      refine ⟨_, rfl, _, 8, rfl, l900 nz, fun H2 s2 => ⟨_, rfl, ?_⟩⟩
      rw [nz]
      refine iteF ⟨_, rfl, _, rfl, ad, _, rfl, dgy s2, _, rfl, iteT ⟨_, rfl, by show 1 ≤ 1000; decide, raise_y fun d hd => k d H2 s2 hd⟩⟩
    | width nz e ty m nb =>
      rename_i z v t
      refine ⟨_, rfl, _, 8, rfl, l900 nz, fun H2 s2 => ⟨_, rfl, ?_⟩⟩
      rw [nz]
      refine iteF ⟨_, rfl, _, rfl, ad, _, rfl, dg e s2, _, rfl, iteF ?_⟩
      refine ⟨_, rfl, 4, 1, rfl, rfl, v, t, 1, 5, rfl, TyX.basic_same s2 ty m, m, ?_⟩
      rw [nb]
      exact ⟨_, rfl, iteT (raise_plain (σ := []) fun d hd => k d H2 s2 hd)⟩
    | fullT nz e w1 w4 n8 =>
      rename_i z wd
      refine ⟨_, rfl, _, 8, rfl, l900 nz, fun H2 s2 => ⟨_, rfl, ?_⟩⟩
      rw [nz]
      refine iteF ⟨_, rfl, _, rfl, ad, _, rfl, dg e s2, _, rfl, iteF ?_⟩
      have en : numB 1 5 (.int (wd : Int)) = true := by
        show (decide (1 ≤ (wd : Int)) && decide ((wd : Int) < 5)) = true
        rw [decide_eq_true (show 1 ≤ (wd : Int) by omega), decide_eq_true (show (wd : Int) < 5 by omega)]
        rfl
      refine ⟨_, rfl, 4, 1, rfl, rfl, .int (wd : Int), "int", 1, 5, rfl, .base (.int _), by decide, ?_⟩
      rw [en]
      refine ⟨_, rfl, iteF ⟨_, rfl, ad, kvs, rfl, s2 _ _ hk, _, 8, rfl, rfl, _, rfl, ?_⟩⟩
      rw [lk, decide_eq_true (show (8 : Int) ≤ (zs.length : Int) by omega)]
      exact iteT ⟨by show 1 ≤ 1000; decide, raise_y fun d hd => k d H2 s2 hd⟩
theorem has_putX {fF fB fI : Addr} {dF dB fdI : FuncData} {k1 : Tok} (b : Blt mg) (Wro : mg "MOST_ROWS" = some (.int 40 k1)) (EF : ErrY K mg "Full" "what" X.fu fF dF "Full.__init__" sFull ["self", "what"])
    (hTo : Has P w K mg base (L2.CX P w) 4 "table_of" sTableOf ["tables", "name"] (spTableR X.nt)) (hNr : Has P w K mg base (L2.CX P w) 4 "need_row" sNeedRow ["row", "width"] (fun vs H Q E => spNeedRow vs H Q E ∨ spNeedRowO K X.br vs H Q E)) (a : AtE K mg "put_row" sPutRow ["tables", "name", "row"]) :
    Has P w K mg base (L2.CX P w) 5 "put_row" sPutRow ["tables", "name", "row"] (spTabX X K "put") := by
  obtain ⟨f, fd, a⟩ := a
  obtain ⟨fTo, fdTo, aTo, GTo⟩ := hTo
  obtain ⟨fNr, fdNr, aNr, GNr⟩ := hNr
  have GF : FnOk P w K mg base CX0 1 fF dF ["self", "what"] (spMadeF X.fu (ysF "Full" "what")) := ok_errY EF scFull (.inl rfl) (.inl rfl) rfl
  refine ⟨f, fd, a, a.fn.okX scPutRow (fun vs H Q E h => ?_) (fun cdv A outer s H vs Q E hr4 h => ?_)⟩
  · obtain ⟨ad, ws, zs, tb, C, fs, rfl, _, _, _, bd, _⟩ := h
    have := badD_len bd
    show ws.length + 1 = 3
    omega
  · obtain ⟨ad, ws, zs, tb, C, fs, rfl, ts, tok, few, bd, k⟩ := h
    have hu : (A.deeper (PyProof.Rows.envOfC "put_row" (defScope sPutRow) s.heap.objs.size f cdv)).units + 65 < cLine := by
      have := hr4.un
      omega
    have hr2 := hr4.mono (show 2 ≤ 4 by decide)
    refine ⟨_,
    (pss_cons (ps_asg (pe_call GTo hr4 rfl aTo.gl aTo.fn.kp aTo.bd .nil (passes_call (takes_of rfl rfl rfl rfl) (fun _ _ _ _ h => h)) (pa_cons (pv 0) (pa_cons (pv 1) pa_nil))) (pg_tup rfl (pgs_cons (pg_name (i := 3) scPutRow.nd rfl (.inl rfl)) (pgs_cons (pg_name (i := 4) scPutRow.nd rfl (.inl rfl)) pgs_nil))))
    (pss_cons (ps_expr (pe_call GNr hr4 rfl aNr.gl aNr.fn.kp aNr.bd .nil (passes_call (takes_of rfl rfl rfl rfl) (fun _ _ _ _ h => h)) (pa_cons (pv 2) (pa_cons (pv 3) pa_nil))))
    (pss_cons (ps_if (pt_cmpR (op_inDT hu) (pv 2) (pv 4) rfl)
      (pss_one ps_never)
      pss_nil)
    (pss_cons (ps_if (pt_cmpR op_ge (pe_callB call_len_seq (by rfl) b.len PySem.boot_len (pa_cons (pv 4) pa_nil)) (pe_glob (v := .int 40) rfl Wro ⟨_, rfl⟩) (nomark _))
      (pss_one (ps_raise rfl (takes_of rfl rfl rfl rfl) (pmk_oex EF.ox EF.it EF.ty GF hr2 EF.bd .nil pass0 rfl EF.gl (pa_cons pe_str pa_nil))))
      pss_nil)
    (pss_one ps_never))))), ?_⟩
    cases bd with
    | noPut e =>
      rename_i z v
      exact ⟨_, rfl, _, rfl, ad, z, zs.length, tb, rfl, ts.at_, few, fun t v ht tv => (by rw [e] at ht; cases ht), fun no => k⟩
    | put e th nb =>
      rename_i z v t o
      refine ⟨_, rfl, _, rfl, ad, z, zs.length, tb, rfl, ts.at_, few, fun t' v' ht tv => ?_, fun no => (by rw [e] at no; cases no)⟩
      have et : t' = t := by rw [e] at ht; exact (Option.some.inj ht).symm
      subst et
      obtain ⟨ta, ra, us, rfl, hta, hra, ro⟩ := tv
      refine ⟨ta, _, rfl, SqT.of hta, rfl, _, _, rfl, _, _, rfl, rfl, ?_⟩
      exact ⟨_, rfl, _, rfl, .inr ⟨v, o, t'.1, rfl, (tok z t' e).2.1, th, nb, k⟩⟩
    | fullP e ha ok m l40 =>
      rename_i z x r t
      refine ⟨_, rfl, _, rfl, ad, z, zs.length, tb, rfl, ts.at_, few, fun t' v' ht tv => ?_, fun no => (by rw [e] at no; cases no)⟩
      have et : t' = t := by rw [e] at ht; exact (Option.some.inj ht).symm
      subst et
      obtain ⟨t1, t4, _, nd, oks⟩ := tok z t' e
      obtain ⟨ta, ra, us, rfl, hta, hra, ro⟩ := tv
      refine ⟨ta, _, rfl, SqT.of hta, rfl, _, _, rfl, _, _, rfl, rfl, ?_⟩
      refine ⟨_, rfl, _, rfl, .inl ⟨x, r, t'.1, rfl, ha, ok, t4, fun H2 s2 => ?_⟩⟩
      refine ⟨_, rfl, _, rfl, rowD r, t'.2.map rowD, numV_data (s2 _ _ ha), .tup (SqT.of (s2 _ _ hra)) (ro.same s2).dp, (lay_row _).shaped (by decide), (lay_rowsT _).shaped (by decide), _, rfl, ?_⟩
      rw [eqv_rows_any, decide_eq_false m]
      refine iteF ⟨_, rfl, ra, us, rfl, .inr (SqT.of (s2 _ _ hra)), _, 40, rfl, rfl, _, rfl, ?_⟩
      rw [ro.len, decide_eq_true (show (40 : Int) ≤ (t'.2.length : Int) by omega)]
      exact iteT ⟨by show 1 ≤ 1000; decide, raise_y fun d hd => k d H2 s2 hd⟩
theorem has_takeX (hTo : Has P w K mg base (L2.CX P w) 4 "table_of" sTableOf ["tables", "name"] (spTableR X.nt)) (hNr : Has P w K mg base (L2.CX P w) 4 "need_row" sNeedRow ["row", "width"] (spNeedRowO K X.br)) (a : AtE K mg "take_row" sTakeRow ["tables", "name", "row"]) :
    Has P w K mg base (L2.CX P w) 5 "take_row" sTakeRow ["tables", "name", "row"] (spTabX X K "take") := by
  obtain ⟨f, fd, a⟩ := a
  obtain ⟨fTo, fdTo, aTo, GTo⟩ := hTo
  obtain ⟨fNr, fdNr, aNr, GNr⟩ := hNr
  refine ⟨f, fd, a, a.fn.okX scTakeRow (fun vs H Q E h => ?_) (fun cdv A outer s H vs Q E hr4 h => ?_)⟩
  · obtain ⟨ad, ws, zs, tb, C, fs, rfl, _, _, _, bd, _⟩ := h
    have := badD_len bd
    show ws.length + 1 = 3
    omega
  · obtain ⟨ad, ws, zs, tb, C, fs, rfl, ts, tok, few, bd, k⟩ := h
    refine ⟨_,
    (pss_cons (ps_asg (pe_call GTo hr4 rfl aTo.gl aTo.fn.kp aTo.bd .nil (passes_call (takes_of rfl rfl rfl rfl) (fun _ _ _ _ h => h)) (pa_cons (pv 0) (pa_cons (pv 1) pa_nil))) (pg_tup rfl (pgs_cons (pg_name (i := 3) scTakeRow.nd rfl (.inl rfl)) (pgs_cons (pg_name (i := 4) scTakeRow.nd rfl (.inl rfl)) pgs_nil))))
    (pss_cons (ps_expr (pe_call GNr hr4 rfl aNr.gl aNr.fn.kp aNr.bd .nil (passes_call (takes_of rfl rfl rfl rfl) (fun _ _ _ _ h => h)) (pa_cons (pv 2) (pa_cons (pv 3) pa_nil))))
    (pss_cons ps_never
    (pss_one ps_never)))), ?_⟩
    cases bd with
    | noTake e =>
      rename_i z v
      exact ⟨_, rfl, _, rfl, ad, z, zs.length, tb, rfl, ts.at_, few, fun t v ht tv => (by rw [e] at ht; cases ht), fun no => k⟩
    | take e th nb =>
      rename_i z v t o
      refine ⟨_, rfl, _, rfl, ad, z, zs.length, tb, rfl, ts.at_, few, fun t' v' ht tv => ?_, fun no => (by rw [e] at no; cases no)⟩
      have et : t' = t := by rw [e] at ht; exact (Option.some.inj ht).symm
      subst et
      obtain ⟨ta, ra, us, rfl, hta, hra, ro⟩ := tv
      refine ⟨ta, _, rfl, SqT.of hta, rfl, _, _, rfl, _, _, rfl, rfl, ?_⟩
      exact ⟨_, rfl, _, rfl, v, o, t'.1, rfl, (tok z t' e).2.1, th, nb, k⟩
theorem has_fillX {fF fB : Addr} {dF dB : FuncData} {t1 : Tok} (b : Blt mg) (Wro : mg "MOST_ROWS" = some (.int 40 t1)) (EBR : ErrC K mg "BadRow" X.br fB dB "BadRow.__init__" sBadRow) (EF : ErrY K mg "Full" "what" X.fu fF dF "Full.__init__" sFull ["self", "what"])
    (hTo : Has P w K mg base (L2.CX P w) 4 "table_of" sTableOf ["tables", "name"] (spTableR X.nt)) (hAr : Has P w K mg base CX0 4 "are_rows" sAreRows ["thing", "width"] (fun vs H Q E => spAreRowsE vs H Q E ∨ spAreRowsO K vs H Q E)) (a : AtE K mg "fill_table" sFillTable ["tables", "name", "rows"]) :
    Has P w K mg base (L2.CX P w) 5 "fill_table" sFillTable ["tables", "name", "rows"] (spTabX X K "fill") := by
  obtain ⟨f, fd, a⟩ := a
  obtain ⟨fTo, fdTo, aTo, GTo⟩ := hTo
  obtain ⟨fAr, fdAr, aAr, GAr⟩ := hAr
  have GBR : FnOk P w K mg base CX0 1 fB dB ["self"] (spErr K X.br "BadRow") := ok_err EBR scBadRow (.inl rfl) rfl
  have GF : FnOk P w K mg base CX0 1 fF dF ["self", "what"] (spMadeF X.fu (ysF "Full" "what")) := ok_errY EF scFull (.inl rfl) (.inl rfl) rfl
  refine ⟨f, fd, a, a.fn.okX scFillTable (fun vs H Q E h => ?_) (fun cdv A outer s H vs Q E hr4 h => ?_)⟩
  · obtain ⟨ad, ws, zs, tb, C, fs, rfl, _, _, _, bd, _⟩ := h
    have := badD_len bd
    show ws.length + 1 = 3
    omega
  · obtain ⟨ad, ws, zs, tb, C, fs, rfl, ts, tok, few, bd, k⟩ := h
    have hr2 := hr4.mono (show 2 ≤ 4 by decide)
    refine ⟨_,
    (pss_cons (ps_set (i := 3) scFillTable.nd rfl (.inl rfl) (pe_ix ix_tup (pe_call GTo hr4 rfl aTo.gl aTo.fn.kp aTo.bd .nil (passes_call (takes_of rfl rfl rfl rfl) (fun _ _ _ _ h => h)) (pa_cons (pv 0) (pa_cons (pv 1) pa_nil))) pe_int fun _ _ => rfl))
    (pss_cons (ps_if (pt_not (pt_val (pe_call GAr hr4 rfl aAr.gl aAr.fn.kp aAr.bd .nil pass0 (pa_cons (pv 2) (pa_cons (pv 3) pa_nil)))))
      (pss_one (ps_raise rfl (takes_of rfl rfl rfl rfl) (pmk_oex0 EBR.ox EBR.it EBR.ty GBR hr2 EBR.bd pass0 rfl EBR.gl)))
      pss_nil)
    (pss_cons (ps_if (pt_cmpR op_gt (pe_callB call_len_seq (by rfl) b.len PySem.boot_len (pa_cons (pv 2) pa_nil)) (pe_glob (v := .int 40) rfl Wro ⟨_, rfl⟩) (nomark _))
      (pss_one (ps_raise rfl (takes_of rfl rfl rfl rfl) (pmk_oex EF.ox EF.it EF.ty GF hr2 EF.bd .nil pass0 rfl EF.gl (pa_cons pe_str pa_nil))))
      pss_nil)
    (pss_one ps_never)))), ?_⟩
    cases bd with
    | noFill e =>
      rename_i z v
      exact ⟨_, rfl, _, rfl, ad, z, zs.length, tb, rfl, ts.at_, few, fun t v ht tv => (by rw [e] at ht; cases ht), fun no => k⟩
    | fill e nb =>
      rename_i z v t
      refine ⟨_, rfl, _, rfl, ad, z, zs.length, tb, rfl, ts.at_, few, fun t' v' ht tv => ?_, fun no => (by rw [e] at no; cases no)⟩
      have et : t' = t := by rw [e] at ht; exact (Option.some.inj ht).symm
      subst et
      obtain ⟨t1, t4, _, _, _⟩ := tok z t' e
      obtain ⟨ta, ra, us0, rfl, hta, _, _⟩ := tv
      refine ⟨ta, _, 0, _, rfl, rfl, SqT.of hta, rfl, ?_⟩
      exact ⟨_, rfl, _, rfl, .inr ⟨v, t'.1, rfl, nb, t4, fun H2 s2 => ⟨_, rfl, iteT (raise_plain (σ := []) fun d hd => k d H2 s2 hd)⟩⟩⟩
    | fullF e h ro ok nd l40 l60 =>
      rename_i z l us rs t
      refine ⟨_, rfl, _, rfl, ad, z, zs.length, tb, rfl, ts.at_, few, fun t' v' ht tv => ?_, fun no => (by rw [e] at no; cases no)⟩
      have et : t' = t := by rw [e] at ht; exact (Option.some.inj ht).symm
      subst et
      obtain ⟨t1, t4, _, _, _⟩ := tok z t' e
      obtain ⟨ta, ra, us0, rfl, hta, _, _⟩ := tv
      refine ⟨ta, _, 0, _, rfl, rfl, SqT.of hta, rfl, ?_⟩
      refine ⟨_, rfl, _, rfl, .inl ⟨l, us, rs, t'.1, rfl, h, ro, ok, t4, nd, l60, fun H2 s2 => ⟨_, rfl, iteF ?_⟩⟩⟩
      refine ⟨_, rfl, l, us, rfl, h.imp (fun h => SqL.of (s2 _ _ h)) (fun h => SqT.of (s2 _ _ h)), _, 40, rfl, rfl, _, rfl, ?_⟩
      rw [ro.len, decide_eq_true (show (40 : Int) < (rs.length : Int) by omega)]
      exact iteT ⟨by show 1 ≤ 1000; decide, raise_y fun d hd => k d H2 s2 hd⟩
end
end VQ
namespace VQ
open PySem PySem.Spec PyProof.Rows L2 LamX
/-! ### done and many over any deeds, refused for whatever cause -/
theorem BadRows.same {K : PySem.W.Frag} {H H' : Hp} (s : Same H H') {wd : Nat} {v : V} (h : BadRows K H wd v) : BadRows K H' wd v := by
  cases h with
  | oth ty m n1 n2 => exact .oth (TyX.basic_same s ty m) m n1 n2
  | row h all few bad => exact .row (h.imp (s _ _) (s _ _)) (fun u mu => Thing.same s (all u mu)) few bad
  | dup h ro ok few nd => exact .dup (h.imp (s _ _) (s _ _)) (ro.same s) ok few nd
theorem BadD.same {X : RefX} {K : PySem.W.Frag} {H H' : Hp} (s : Same H H') {f : Tbs} {n : Nat} {w : Str} {ws : List V} {C : Addr} {fs : List (Str × V)} (h : BadD X K H f n w ws C fs) : BadD X K H' f n w ws C fs := by
  cases h with
  | name h l => exact .name h l
  | taken nz e => exact .taken nz e
  | width nz e ty m b => exact .width nz e (TyX.basic_same s ty m) m b
  | fullT nz e w1 w4 n8 => exact .fullT nz e w1 w4 n8
  | noPut e => exact .noPut e
  | noTake e => exact .noTake e
  | noFill e => exact .noFill e
  | put e th b => exact .put e (Thing.same s th) b
  | take e th b => exact .take e (Thing.same s th) b
  | fullP e ha ok m l => exact .fullP e (s _ _ ha) ok m l
  | fill e b => exact .fill e (b.same s)
  | fullF e h ro ok nd l40 l60 => exact .fullF e (h.imp (s _ _) (s _ _)) (ro.same s) ok nd l40 l60
theorem badD_word {X : RefX} {K : PySem.W.Frag} {H : Hp} {f : Tbs} {n : Nat} {w : Str} {ws : List V} {C : Addr} {fs : List (Str × V)} (h : BadD X K H f n w ws C fs) : (w = "make" ∨ w = "put" ∨ w = "take" ∨ w = "fill") ∧ ∃ x y, ws = [x, y] := by
  cases h with
  | name _ _ => exact ⟨.inl rfl, _, _, rfl⟩
  | taken _ _ => exact ⟨.inl rfl, _, _, rfl⟩
  | width _ _ _ _ _ => exact ⟨.inl rfl, _, _, rfl⟩
  | fullT _ _ _ _ _ => exact ⟨.inl rfl, _, _, rfl⟩
  | noPut _ => exact ⟨.inr (.inl rfl), _, _, rfl⟩
  | noTake _ => exact ⟨.inr (.inr (.inl rfl)), _, _, rfl⟩
  | noFill _ => exact ⟨.inr (.inr (.inr rfl)), _, _, rfl⟩
  | put _ _ _ => exact ⟨.inr (.inl rfl), _, _, rfl⟩
  | take _ _ _ => exact ⟨.inr (.inr (.inl rfl)), _, _, rfl⟩
  | fullP _ _ _ _ _ => exact ⟨.inr (.inl rfl), _, _, rfl⟩
  | fill _ _ => exact ⟨.inr (.inr (.inr rfl)), _, _, rfl⟩
  | fullF _ _ _ _ _ _ _ => exact ⟨.inr (.inr (.inr rfl)), _, _, rfl⟩
section
variable {P : Program} {w : World} {K : PySem.W.Frag} {mg : Str → Option Value} {base : Heap} {X : RefX} {R : Ref} {BD aAc : Addr}
/-- done(tables, deed), refused -/
def spDoneX (X : RefX) (K : PySem.W.Frag) : Sp := fun vs H Q E => ∃ (a d : Addr) (w : Str) (ws : List V) (zs : List Str) (f : Tbs) (C : Addr) (fs : List (Str × V)), vs = [.ref a, .ref d] ∧ H d = some (.tup (.str w :: ws)) ∧ TsN H a zs f ∧ TsOk f ∧ zs.length < 100 ∧ BadD X K H f zs.length w ws C fs ∧ Refs H E C fs
theorem has_doneX {fM fD fP fT fF : Addr} (gAc : mg "ACTIONS" = some (.ref aAc)) (tAc : ActTab K w aAc fM fD fP fT fF) (hNd : Has P w K mg base CX0 1 "need_deed" sNeedDeed ["thing"] spNeedDeed)
    (hM : HeldC P w K mg base (L2.CX P w) 5 fM (spTabX X K "make")) (hP : HeldC P w K mg base (L2.CX P w) 5 fP (spTabX X K "put")) (hT : HeldC P w K mg base (L2.CX P w) 5 fT (spTabX X K "take")) (hF : HeldC P w K mg base (L2.CX P w) 5 fF (spTabX X K "fill"))
    (a : AtE K mg "done" sDone ["tables", "deed"]) : Has P w K mg base (L2.CX P w) 6 "done" sDone ["tables", "deed"] (spDoneX X K) := by
  obtain ⟨f, fd, a⟩ := a
  obtain ⟨fNd, fdNd, aNd, GNd⟩ := hNd
  refine ⟨f, fd, a, a.fn.okX scDone (fun vs H Q E h => ?_) (fun cdv A outer s H vs Q E hr5 h => ?_)⟩
  · obtain ⟨ad, d, w, ws, zs, tb, C, fs, rfl, _⟩ := h
    rfl
  · have hr1 := hr5.mono (show 1 ≤ 5 by decide)
    obtain ⟨ad, d, wz, ws, zs, tb, C, fs, rfl, hd, ts, tok, few, bd, k⟩ := h
    refine ⟨_,
    (pss_cons (ps_expr (pe_call GNd hr1 rfl aNd.gl aNd.fn.kp aNd.bd .nil pass0 (pa_cons (pv 1) pa_nil)))
    (pss_cons (ps_asg (pv 1) (pg_star (n := 2) (i := 1) rfl (pgs_cons (pg_name (i := 2) scDone.nd rfl (.inl rfl)) (pgs_cons (pg_name (i := 3) scDone.nd rfl (.inl rfl)) pgs_nil)) rfl))
    (pss_cons (ps_set (i := 4) scDone.nd rfl (.inl rfl) (pe_ix ix_kdict (pe_glob (v := .ref aAc) rfl gAc rfl) (pv 2) fun _ _ => rfl))
    (pss_one (ps_ret (pe_callC (CX := L2.CX P w) (i := 4) hr5 rfl (.inl rfl) (passes_call (takes_of rfl rfl rfl rfl) (fun _ _ _ _ h => h)) (pa_cons (pv 0) (StX.pa_star (pv 3) pa_nil)))))))), ?_⟩
    obtain ⟨hw, x, y, rfl⟩ := badD_word bd
    refine ⟨_, rfl, d, wz, x, y, rfl, hd, hw, ?_⟩
    refine ⟨_, rfl, d, _, rfl, .inr (SqT.of hd), by show _ ≤ _; simp, fun L nL => ?_⟩
    have sL : Same H (upd H L (.lst [x, y])) := same_new nL
    refine ⟨_, _, rfl, _, _, rfl, rfl, ?_⟩
    have fin : ∀ w', wz = w' → spTabX X K w' [.ref ad, x, y] (upd H L (.lst [x, y])) Q E := fun w' e => by
      subst e
      exact ⟨ad, _, zs, tb, C, fs, rfl, ts.same sL, tok, few, bd.same sL, fun d2 H2 s2 => k d2 H2 (sL.trans s2)⟩
    rcases hw with e | e | e | e
    · refine ⟨_, rfl, aAc, "make", _, rfl, by rw [e], tAc.dct (p := ("make", .ref fM)) (by simp), ?_⟩
      exact ⟨fM, spTabX X K "make", rfl, hM, _, rfl, _, rfl, L, _, rfl, .inr (SqL.of upd_same), fin _ e⟩
    · refine ⟨_, rfl, aAc, "put", _, rfl, by rw [e], tAc.dct (p := ("put", .ref fP)) (by simp), ?_⟩
      exact ⟨fP, spTabX X K "put", rfl, hP, _, rfl, _, rfl, L, _, rfl, .inr (SqL.of upd_same), fin _ e⟩
    · refine ⟨_, rfl, aAc, "take", _, rfl, by rw [e], tAc.dct (p := ("take", .ref fT)) (by simp), ?_⟩
      exact ⟨fT, spTabX X K "take", rfl, hT, _, rfl, _, rfl, L, _, rfl, .inr (SqL.of upd_same), fin _ e⟩
    · refine ⟨_, rfl, aAc, "fill", _, rfl, by rw [e], tAc.dct (p := ("fill", .ref fF)) (by simp), ?_⟩
      exact ⟨fF, spTabX X K "fill", rfl, hF, _, rfl, _, rfl, L, _, rfl, .inr (SqL.of upd_same), fin _ e⟩
end
end VQ
namespace VQ
open PySem PySem.Spec PyProof.Rows L2 LamX
/-! ### rows of deeds, any of them refused or no deed at all -/
/-- what a row of deeds ends in: told so far, the names, the tables -/
def ManyX (R : Ref) (X : RefX) (K : PySem.W.Frag) (H : Hp) (err : Addr → List (Str × V) → Prop) (fin : List V → List Str → Tbs → Prop) : List V → List V → List Str → Tbs → Prop
  | [], told, zs, f => fin told zs f
  | v :: vs, told, zs, f => (∃ D, DeedAt H v D ∧ TsOk f ∧ Fine f zs.length D ∧ (∀ ans ms g, To f zs D ans ms g → ManyX R X K H err fin vs (told ++ [ans]) ms g) ∧ ∀ C fs, No R f D C fs → err C fs) ∨ (∃ d w ws C fs, v = .ref d ∧ H d = some (.tup (.str w :: ws)) ∧ TsOk f ∧ zs.length < 100 ∧ BadD X K H f zs.length w ws C fs ∧ err C fs)
section
variable {P : Program} {w : World} {K : PySem.W.Frag} {mg : Str → Option Value} {base : Heap} {C : Addr} {R : Ref} {X : RefX}
def spManyX (C : Addr) (R : Ref) (X : RefX) (K : PySem.W.Frag) : Sp := fun vs H Q E => ∃ (a pa fu l : Addr) (us : List V) (zs : List Str) (f : Tbs) (past fut : List Stp), vs = [.ref a, .ref l] ∧ H l = some (.lst us) ∧ us.length < 100 ∧ BookN C H a pa fu zs f past fut ∧ past.length < 1000 ∧
  ManyX R X K H (fun Cc fs => Refs H E Cc fs) (fun told ms g => (us = [] → ∀ (L : Addr) (H' : Hp), Same H H' → H' L = some (.lst []) → Q (.ref L) H') ∧ (us ≠ [] → ∀ (L fu' : Addr) (H' : Hp), OnlyB a pa H H' → H' L = some (.lst told) → H fu' = none → BookN C H' a pa fu' ms g (past ++ [(zs, f)]) [] → Q (.ref L) H')) us [] zs f
theorem ok_manyX {f : Addr} {fd : FuncData} (F : Fun K "many" "Book.many" sBookMany f fd) (b : Blt mg) (T : BCls K C) (hDo : Has P w K mg base (L2.CX P w) 6 "done" sDone ["tables", "deed"] (fun vs H Q E => spDoneR R vs H Q E ∨ spDoneX X K vs H Q E)) : FnOk P w K mg base (L2.CX P w) 7 f fd ["self", "deeds"] (spManyX C R X K) := by
  obtain ⟨fDo, fdDo, aDo, GDo⟩ := hDo
  refine F.okX scBookMany (fun vs H Q E h => ?_) (fun cdv A outer s H vs Q E hr6 h => ?_)
  · obtain ⟨a, pa, fu, l, us, zs, f, past, fut, rfl, _⟩ := h
    rfl
  · obtain ⟨a, pa, fu, l, us, zs, f, past, fut, rfl, hl, few, ⟨dx, t, ps, ws, ha, hp, hf, ts, sp, su, n1, n2, n3⟩, fk, mw⟩ := h
    have lp : ps.length = past.length := sp.len
    refine ⟨_,
    (pss_cons (ps_set (i := 2) scBookMany.nd rfl (.inl rfl) (pe_fld (pv 0) rfl))
    (pss_cons (ps_set (i := 3) scBookMany.nd rfl (.inl rfl) (pe_lst pa_nil))
    (pss_cons (ps_for (passes_of rfl) rfl (pi_list (pv 1)) (pg_name (i := 4) scBookMany.nd rfl (.inl rfl))
      (pss_cons (ps_asg (pe_call GDo hr6 rfl aDo.gl aDo.fn.kp aDo.bd .nil (passes_call (takes_of rfl rfl rfl rfl) (fun _ _ _ _ h => h)) (pa_cons (pv 2) (pa_cons (pv 4) pa_nil))) (pg_tup rfl (pgs_cons (pg_name (i := 2) scBookMany.nd rfl (.inl rfl)) (pgs_cons (pg_name (i := 5) scBookMany.nd rfl (.inl rfl)) pgs_nil))))
      (pss_one (ps_expr (pe_bm PySem.F.plainAttrs_list PySem.F.slot_list_append PySem.F.type_list_append mt_append (pv 3) (pa_cons (pv 5) pa_nil))))))
    (pss_cons (ps_if (pt_truth (pv 3) (by intro _; rfl))
      (pss_cons (ps_expr (pe_bm PySem.F.plainAttrs_list PySem.F.slot_list_append PySem.F.type_list_append mt_append (pe_fld (pv 0) rfl) (pa_cons (pe_fld (pv 0) rfl) pa_nil)))
      (pss_cons (ps_fld (pv 0) (pe_lst pa_nil) rfl)
      (pss_one (ps_fld (pv 0) (pv 2) rfl))))
      pss_nil)
    (pss_one (ps_ret (pv 3))))))), ?_⟩
    refine ⟨_, rfl, a, C, dx, _, _, rfl, ha, T.cl, T.nT, bf_tables, ?_⟩
    refine ⟨by decide, fun L nL => ?_⟩
    have sL : Same H (upd H L (.lst [])) := same_new nL
    have nLa : L ≠ a := (ne_of_none ha nL).symm
    have nLp : L ≠ pa := (ne_of_none hp nL).symm
    refine ⟨_, rfl, l, rfl, ⟨_, SqL.of (sL _ _ hl)⟩, ?_⟩
    refine for_list (xs := us) (fun i σ H' => ∃ (dd : Addr) (told : List V) (ms : List Str) (g : Tbs) (o1 o2 : Option V), σ = [some (.ref a), some (.ref l), some (.ref dd), some (.ref L), o1, o2] ∧ Same H H' ∧ H' L = some (.lst told) ∧ told.length = i ∧ TsN H' dd ms g ∧ (i = 0 → told = []) ∧
      ManyX R X K H (fun Cc fs => Refs H E Cc fs) (fun told ms g => (us = [] → ∀ (L : Addr) (H' : Hp), Same H H' → H' L = some (.lst []) → Q (.ref L) H') ∧ (us ≠ [] → ∀ (L fu' : Addr) (H' : Hp), OnlyB a pa H H' → H' L = some (.lst told) → H fu' = none → BookN C H' a pa fu' ms g (past ++ [(zs, f)]) [] → Q (.ref L) H')) (us.drop i) told ms g) ⟨t, [], zs, f, none, none, rfl, sL, upd_same, rfl, ts.same sL, fun _ => rfl, mw⟩ ?_ ?_ ?_
    · rintro i σ H' _ ⟨dd, told, ms, g, o1, o2, _, s1, _⟩
      exact SqL.of (s1 _ _ hl)
    · rintro i x σ H' hx ⟨dd, told, ms, g, o1, o2, rfl, s1, hL1, lt, ts1, _, mw1⟩
      have li : i < us.length := (List.getElem?_eq_some_iff.mp hx).1
      have ed : us.drop i = x :: us.drop (i + 1) := by
        rw [List.drop_eq_getElem_cons li]
        rw [List.getElem?_eq_getElem li] at hx
        cases hx
        rfl
      rw [ed] at mw1
      rcases mw1 with ⟨D, ⟨d, ws1, rfl, hd, th⟩, tok, fine, k1, k2⟩ | ⟨d, w1, ws1, C1, fs1, rfl, hd, tok, few1, bd, k2⟩
      · refine ⟨_, rfl, _, rfl, .inl ⟨dd, d, ws1, ms, g, D, rfl, s1 _ _ hd, ts1, tok, fine, th.same s1, fun ans ms2 g2 tt p dd2 H1 s2 hp1 ts2 => ?_, fun Cc fs no e H1 s2 => k2 Cc fs no e H1 (s1.trans s2)⟩⟩
        have hL2 := s2 _ _ hL1
        refine ⟨p, _, rfl, SqT.of hp1, rfl, _, _, rfl, _, _, rfl, rfl, ?_⟩
        refine ⟨_, rfl, .inl ⟨rfl, _, SqL.of hL2⟩, _, rfl, L, told, ans, rfl, rfl, hL2, by rw [lt]; exact Nat.lt_trans li (Nat.lt_trans few (by decide)), ?_⟩
        refine ⟨dd2, told ++ [ans], ms2, g2, _, _, rfl, fun x o e => ?_, upd_same, by rw [List.length_append, lt]; rfl, ts2.moved fun x o td e => ?_, fun z => absurd z (Nat.succ_ne_zero _), k1 ans ms2 g2 tt⟩
        · rw [upd_ne (ne_of_none e nL)]
          exact s2 _ _ (s1 _ _ e)
        · rw [upd_ne (fun q => by rw [q, hL2] at e; rcases td with ⟨xs, rfl⟩ | ⟨kvs, rfl⟩ <;> cases e)]
          exact e
      · exact ⟨_, rfl, _, rfl, .inr ⟨dd, d, w1, ws1, ms, g, C1, fs1, rfl, s1 _ _ hd, ts1, tok, few1, bd.same s1, fun d2 H1 s2 => k2 d2 H1 (s1.trans s2)⟩⟩
    · rintro σ H2 ⟨dd, told, ms, g, o1, o2, rfl, s2, hL2, lt, ts2, z0, mw2⟩
      rw [List.drop_length] at mw2
      obtain ⟨q0, q1⟩ := (show _ ∧ _ from mw2)
      by_cases c : us = []
      · have e0 : told = [] := z0 (by rw [c]; rfl)
        rw [e0] at hL2
        refine ⟨_, rfl, false, .inl ⟨[], SqL.of hL2, rfl⟩, iteF ?_⟩
        exact ⟨_, rfl, q0 c L H2 s2 hL2⟩
      have ne : told.isEmpty = false := by
        cases told with
        | nil => exact absurd (List.length_eq_zero_iff.mp lt.symm) c
        | cons _ _ => rfl
      refine ⟨_, rfl, true, .inl ⟨told, SqL.of hL2, by rw [ne]; rfl⟩, iteT ?_⟩
      have ha2 := s2 _ _ ha
      have hp2 := s2 _ _ hp
      refine ⟨_, rfl, a, C, dx, _, _, rfl, ha2, T.cl, T.nP, bf_past, .inl ⟨rfl, _, SqL.of hp2⟩, _, rfl, a, C, dx, _, _, rfl, ha2, T.cl, T.nT, bf_tables, pa, ps, .ref t, rfl, rfl, hp2, by rw [lp]; exact Nat.lt_trans fk (by decide), ?_⟩
      have ha3 : (upd H2 pa (.lst (ps ++ [.ref t]))) a = some (.ins C dx (bf (.ref t) (.ref pa) (.ref fu))) := (upd_ne n1).trans ha2
      refine ⟨by decide, fun u2 nu => ?_⟩
      have nau : a ≠ u2 := ne_of_none ha3 nu
      have npu : pa ≠ u2 := ne_of_none (show (upd H2 pa (.lst (ps ++ [.ref t]))) pa = _ from upd_same) nu
      refine ⟨_, rfl, a, C, dx, _, rfl, (upd_ne nau).trans ha3, T.cl, T.nF, by show 3 < 1000; decide, ?_⟩
      rw [bf_setF]
      refine ⟨_, rfl, _, rfl, a, C, dx, _, rfl, upd_same, T.cl, T.nT, by show 3 < 1000; decide, ?_⟩
      rw [bf_setT]
      have keep : ∀ x o, x ≠ a → x ≠ pa → H2 x = some o → (upd (upd (upd (upd H2 pa (.lst (ps ++ [.ref t]))) u2 (.lst [])) a (.ins C dx (bf (.ref t) (.ref pa) (.ref u2)))) a (.ins C dx (bf (.ref dd) (.ref pa) (.ref u2)))) x = some o := fun x o m1 m2 e => by
        have e3 : (upd H2 pa (.lst (ps ++ [.ref t]))) x = some o := (upd_ne m2).trans e
        rw [upd_ne m1, upd_ne m1, upd_ne (ne_of_none e3 nu)]
        exact e3
      have mvd : ∀ x o, TD o → H2 x = some o → (upd (upd (upd (upd H2 pa (.lst (ps ++ [.ref t]))) u2 (.lst [])) a (.ins C dx (bf (.ref t) (.ref pa) (.ref u2)))) a (.ins C dx (bf (.ref dd) (.ref pa) (.ref u2)))) x = some o := fun x o td e => by
        refine keep x o ?_ ?_ e
        · intro q
          rw [q, ha2] at e
          rcases td with ⟨xs, rfl⟩ | ⟨kvs, rfl⟩ <;> cases e
        · intro q
          rw [q, hp2] at e
          rcases td with ⟨xs, rfl⟩ | ⟨kvs, rfl⟩ <;> cases e
      have nuH : H u2 = none := by
        cases e : H u2 with
        | none => rfl
        | some o =>
          rw [upd_ne npu.symm, s2 _ _ e] at nu
          cases nu
      refine ⟨_, rfl, q1 c L u2 _ (fun x o m1 m2 e => keep x o m1 m2 (s2 _ _ e)) (keep _ _ nLa nLp hL2) nuH ⟨dx, dd, ps ++ [.ref t], [], upd_same, ?_, ?_, ts2.moved mvd, ((sp.moved fun x o _ e => s2 x o e).snoc (ts.same s2)).moved mvd, .nil, n1, npu.symm, nau⟩⟩
      · rw [upd_ne n1.symm, upd_ne n1.symm, upd_ne npu]
        exact upd_same
      · rw [upd_ne nau.symm, upd_ne nau.symm]
        exact upd_same
end
section
variable {P : Program} {w : World} {K : PySem.W.Frag} {mg : Str → Option Value} {base : Heap} {C fMa : Addr} {fdMa : FuncData} {R : Ref} {X : RefX}
/-- do(deed) -/
def spDoX (C : Addr) (R : Ref) (X : RefX) (K : PySem.W.Frag) : Sp := fun vs H Q E => ∃ (a pa fu : Addr) (v : V) (zs : List Str) (f : Tbs) (past fut : List Stp), vs = [.ref a, v] ∧ BookN C H a pa fu zs f past fut ∧ past.length < 1000 ∧
  ((∃ D, DeedAt H v D ∧ TsOk f ∧ Fine f zs.length D ∧ (∀ ans ms g, To f zs D ans ms g → ∀ (fu' : Addr) (H' : Hp), OnlyB a pa H H' → H fu' = none → BookN C H' a pa fu' ms g (past ++ [(zs, f)]) [] → Q ans H') ∧ ∀ Cc fs, No R f D Cc fs → Refs H E Cc fs) ∨ (∃ d w ws Cc fs, v = .ref d ∧ H d = some (.tup (.str w :: ws)) ∧ TsOk f ∧ zs.length < 100 ∧ BadD X K H f zs.length w ws Cc fs ∧ Refs H E Cc fs))
theorem ok_doX {f : Addr} {fd : FuncData} (F : Fun K "do" "Book.do" sBookDo f fd) (T : BCls K C) (mMa : Meth K C "many" fMa) (bMa : Binds K fdMa ["self", "deeds"] []) (GbMa : FnOk P w K mg base (L2.CX P w) 7 fMa fdMa ["self", "deeds"] (spManyX C R X K)) : FnOk P w K mg base (L2.CX P w) 8 f fd ["self", "deed"] (spDoX C R X K) := by
  refine F.okX scBookDo (fun vs H Q E h => ?_) (fun cdv A outer s H vs Q E hr7 h => ?_)
  · obtain ⟨a, pa, fu, v, zs, f, past, fut, rfl, _⟩ := h
    rfl
  · obtain ⟨a, pa, fu, v, zs, f, past, fut, rfl, bk, fk, h⟩ := h
    obtain ⟨dx, t, ps, us, ha, _⟩ := id bk
    refine ⟨_,
    (pss_one (ps_ret (pe_ix ix_list (pe_meth (pv 0) T.cl mMa GbMa hr7 bMa .nil (passes_call (takes_of rfl rfl rfl rfl) (fun _ _ _ _ h => h)) (pa_cons (pe_lst (pa_cons (pv 1) pa_nil)) pa_nil)) pe_int fun _ _ => rfl))), ?_⟩
    refine ⟨_, rfl, a, dx, _, rfl, ha, bno (by decide +kernel) (by decide +kernel) (by decide +kernel), _, rfl, by show 1 ≤ sizeLine; decide, fun l nl => ?_⟩
    have sl : Same H (upd H l (.lst [v])) := same_new nl
    refine ⟨a, pa, fu, l, [v], zs, f, past, fut, rfl, upd_same, (show 1 < 100 by decide), bk.same sl, fk, ?_⟩
    rcases h with ⟨D, dat, tok, fine, q1, q2⟩ | ⟨d1, w1, ws1, C1, fs1, rfl, hd1, tok, few1, bd, q2⟩
    · refine .inl ⟨D, dat.same sl, tok, fine, fun ans ms g tt => And.intro (fun e => absurd e (List.cons_ne_nil _ _)) (fun _ L fu' H' ob hL nf bk' => ?_), fun Cc fs no e H1 s1 => q2 Cc fs no e H1 (sl.trans s1)⟩
      exact ⟨L, [ans], 0, ans, rfl, rfl, SqL.of hL, rfl, q1 ans ms g tt fu' H' (ob.back sl) (sl.free nf) bk'⟩
    · exact .inr ⟨d1, w1, ws1, C1, fs1, rfl, sl _ _ hd1, tok, few1, bd.same sl, fun e H1 s1 => q2 e H1 (sl.trans s1)⟩
end
end VQ
namespace VQ
open PySem L2 LamX
/-! ### _law_tried: refusals that tell what is full as well -/
structure Third (K : PySem.W.Frag) (Ta NT NR BT Uf Fu C : Addr) : Prop where
  n1 : PySem.W.exmAny K (.ref C) [.ref Ta, .ref NT, .ref NR] = some false
  n2 : PySem.W.exmAny K (.ref C) [.ref BT, .ref Uf] = some false
  y3 : PySem.W.exmAny K (.ref C) [.ref Fu] = some true
  xf : XfC K C
  nc : PySem.W.findIn K (.ref C) "called" = some none
  na : PySem.W.findIn K (.ref C) "what" = some none
def CaughtT (K : PySem.W.Frag) (Ta NT NR BT Uf Fu : Addr) (Q : VK) : XK := fun cls d H => ∃ (C dd : Addr) (fs : List (Str × V)) (nm : Str) (y : V), cls = .ref C ∧ d = some dd ∧ Third K Ta NT NR BT Uf Fu C ∧ H dd = some (.xd fs) ∧ fs.lookup ("called" : Str) = some (V.str nm) ∧ fs.lookup ("what" : Str) = some y ∧
  ∀ p, H p = none → Q (.ref p) (upd H p (.tup [.str nm, y]))
def CaughtW (K : PySem.W.Frag) (Ta NT NR BT Uf Fu TM QE No : Addr) (Q : VK) : XK := fun cls d H => CaughtN K Ta NT NR BT Uf Fu TM QE No Q cls d H ∨ CaughtT K Ta NT NR BT Uf Fu Q cls d H
def TTriedW (K : PySem.W.Frag) (Ta NT NR BT Uf Fu TM QE No : Addr) : (XK → Hp → VK → Prop) → Hp → VK → Prop := fun tl H Q =>
  tl (CaughtW K Ta NT NR BT Uf Fu TM QE No Q) H fun v H1 => [V.str "told", v].length ≤ sizeLine ∧ ∀ p, H1 p = none → Q (.ref p) (upd H1 p (.tup [.str "told", v]))
section
variable {P : Program} {w : World} {K : PySem.W.Frag} {mg : Str → Option Value} {base : Heap} {Ta NT NR BT Uf Fu TM QE No : Addr}
theorem tried_givesW {g : Addr} {cdg : Value} {q : Str} (G : Errs mg Ta NT NR BT Uf Fu TM QE No) : Gives2 P w K mg base ["_law_ask", "e"] "_law_tried" (defScope sTried) g cdg (defBody sTried) "_law_ask" q (TTriedW K Ta NT NR BT Uf Fu TM QE No) := by
  intro A2 outer2 f c' s H Q tl act hc h
  refine ⟨_, pss_one (ps_try_manyA (X := (cxOf C8.CX0 P w K mg base ["_law_ask", "e"] "_law_tried" (defScope sTried) g cdg A2 outer2 s H C8.E0).nox) (i := 1) (n := "e")
      (tb := fun W D σ H => ∃ Ech : XK, (∀ cls d σ' H', σ'.length = 2 → Ech cls d H' → W cls d σ' H') ∧ σ[0]? = some (some (.ref f)) ∧ H c' = some (CodeO c' q) ∧ tl Ech H fun v H1 => [V.str "told", v].length ≤ sizeLine ∧ ∀ p, H1 p = none → D.rt (.ref p) (upd H1 p (.tup [.str "told", v])))
      rfl rfl scTried.nd rfl rfl LamX.takes0 (fun W pn xe tk _ => ?_)
      (HdsA.cons (Cte.three ⟨rfl, by decide, .inl G.ta⟩ ⟨rfl, by decide, .inl G.nt⟩ ⟨rfl, by decide, .inl G.nr⟩) (fun a oe cls d pn hz hf => pss_one (ps_ret (pe_tup (pa_cons (pe_xfA hz hf (pv 1)) (pa_cons (pe_xfA hz hf (pv 1)) pa_nil)))))
      (HdsA.cons (Cte.two ⟨rfl, by decide, .inl G.bt⟩ ⟨rfl, by decide, .inl G.uf⟩) (fun a oe cls d pn hz hf => pss_one (ps_ret (pe_tup (pa_cons (pe_xfA hz hf (pv 1)) (pa_cons (pe_xfA hz hf (pv 1)) pa_nil)))))
      (HdsA.cons (Cte.one ⟨rfl, by decide, .inl G.fu⟩) (fun a oe cls d pn hz hf => pss_one (ps_ret (pe_tup (pa_cons (pe_xfA hz hf (pv 1)) (pa_cons (pe_xfA hz hf (pv 1)) pa_nil)))))
      (HdsA.cons (Cte.one ⟨rfl, by decide, .inl G.tm⟩) (fun a oe cls d pn hz hf => pss_one (ps_ret (pe_tup (pa_cons (pe_xfA hz hf (pv 1)) (pa_cons (pe_xfA hz hf (pv 1)) pa_nil)))))
      (HdsA.cons (Cte.two ⟨rfl, by decide, .inl G.qe⟩ ⟨rfl, by decide, .inl G.no⟩) (fun a oe cls d pn hz hf => pss_one (ps_ret (pe_tup (pa_cons (pe_xfA hz hf (pv 1)) (pa_cons pe_str pa_nil)))))
      HdsA.nil)))))), ?_⟩
  · refine ⟨fun pins s' σ H' D I ⟨Ech, hW, h1, h2, h3⟩ => ?_⟩
    exact (pss_one (ps_ret (pe_tup (pa_cons pe_str (pa_cons (act W pn xe Ech _ _ tk hW) pa_nil))))).run pins s' σ H' D I ⟨h1, h2, h3⟩
  · refine ⟨CaughtW K Ta NT NR BT Uf Fu TM QE No Q, fun cls d σ' H' hlen hC => ?_, rfl, hc, h⟩
    rcases hC with (hC | hC) | hC
    · obtain ⟨C, dd, fs, nm, rfl, rfl, pl, hdd, hl, hq⟩ := hC
      refine ⟨false, pl.n1, fun z => Bool.noConfusion z, fun _ => ⟨false, pl.n2, fun z => Bool.noConfusion z, fun _ => ⟨false, pl.n3, fun z => Bool.noConfusion z, fun _ => ⟨false, pl.n4, fun z => Bool.noConfusion z, fun _ => ⟨true, pl.y5, fun _ a na => ?_, fun z => Bool.noConfusion z⟩⟩⟩⟩⟩
      have e1 : (σ'.set 1 (some (V.ref a)))[1]? = some (some (V.ref a)) := List.getElem?_set_self (by rw [hlen]; decide)
      exact ⟨C, pl.xf, pl.nc, _, e1, rfl, rfl, dd, fs, _, rfl, hdd, hl, by show 2 ≤ sizeLine; decide, fun p hp => hq p hp⟩
    · obtain ⟨C, dd, fs, nm, y, rfl, rfl, pl, hdd, hl, hy, hq⟩ := hC
      refine ⟨true, pl.y1, fun _ a na => ?_, fun z => Bool.noConfusion z⟩
      have e1 : (σ'.set 1 (some (V.ref a)))[1]? = some (some (V.ref a)) := List.getElem?_set_self (by rw [hlen]; decide)
      exact ⟨C, pl.xf, pl.nc, _, e1, rfl, rfl, dd, fs, _, rfl, hdd, hl, C, pl.xf, pl.na, _, e1, rfl, rfl, dd, fs, _, rfl, hdd, hy, by show 2 ≤ sizeLine; decide, fun p hp => hq p hp⟩
    · obtain ⟨C, dd, fs, nm, y, rfl, rfl, pl, hdd, hl, hy, hq⟩ := hC
      refine ⟨false, pl.n1, fun z => Bool.noConfusion z, fun _ => ⟨false, pl.n2, fun z => Bool.noConfusion z, fun _ => ⟨true, pl.y3, fun _ a na => ?_, fun z => Bool.noConfusion z⟩⟩⟩
      have e1 : (σ'.set 1 (some (V.ref a)))[1]? = some (some (V.ref a)) := List.getElem?_set_self (by rw [hlen]; decide)
      exact ⟨C, pl.xf, pl.nc, _, e1, rfl, rfl, dd, fs, _, rfl, hdd, hl, C, pl.xf, pl.na, _, e1, rfl, rfl, dd, fs, _, rfl, hdd, hy, by show 2 ≤ sizeLine; decide, fun p hp => hq p hp⟩
end
/-! ### the book's deeds by their methods -/
section
variable {P : Program} {w : World} {K : PySem.W.Frag} {mg : Str → Option Value} {base : Heap} {C fDo : Addr} {fdDo : FuncData} {R : Ref} {X : RefX}
/-- make, drop, put, take, fill: do with its word -/
def spMeth (C : Addr) (R : Ref) (X : RefX) (K : PySem.W.Frag) (word : Str) (two : Bool) : Sp := fun vs H Q E => ∃ (a pa fu : Addr) (zs : List Str) (f : Tbs) (past fut : List Stp) (ws : List V), vs = .ref a :: ws ∧ ws.length = (if two = true then 2 else 1) ∧ BookN C H a pa fu zs f past fut ∧
  ∀ d, H d = none → spDoX C R X K [.ref a, .ref d] (upd H d (.tup (.str word :: ws))) Q E
theorem ok_bmmake {f : Addr} {fd : FuncData} (F : Fun K "make" "Book.make" sBookMake f fd) (T : BCls K C) (mDo : Meth K C "do" fDo) (bDo : Binds K fdDo ["self", "deed"] []) (GbDo : FnOk P w K mg base (L2.CX P w) 8 fDo fdDo ["self", "deed"] (spDoX C R X K)) : FnOk P w K mg base (L2.CX P w) 9 f fd ["self", "name", "width"] (spMeth C R X K "make" true) := by
  refine F.okX scBookMake (fun vs H Q E h => ?_) (fun cdv A outer s H vs Q E hr8 h => ?_)
  · obtain ⟨a, pa, fu, zs, f, past, fut, ws, rfl, lw, _⟩ := h
    show ws.length + 1 = _
    rw [lw]
    rfl
  · obtain ⟨a, pa, fu, zs, f, past, fut, ws, rfl, lw, bk, k⟩ := h
    obtain ⟨x, y, rfl⟩ : ∃ x y, ws = [x, y] := by
      match ws, lw with
      | [x, y], _ => exact ⟨x, y, rfl⟩
    obtain ⟨dx, t, ps, us, ha, _⟩ := id bk
    refine ⟨_,
    (pss_one (ps_ret (pe_meth (pv 0) T.cl mDo GbDo hr8 bDo .nil (passes_call (takes_of rfl rfl rfl rfl) (fun _ _ _ _ h => h)) (pa_cons (pe_tup (pa_cons pe_str (pa_cons (pv 1) (pa_cons (pv 2) pa_nil)))) pa_nil)))), ?_⟩
    exact ⟨_, rfl, a, dx, _, rfl, ha, bno (by decide +kernel) (by decide +kernel) (by decide +kernel), _, rfl, _, rfl, by show 3 ≤ sizeLine; decide, fun d nd => k d nd⟩
abbrev sBookDrop : Stmt := inClass (top 43) 2
abbrev nBookDrop : List Str := ["self", "name"]
theorem scBookDrop : FnScope nBookDrop ["self", "name"] (defScope sBookDrop) := ⟨rfl, rfl, rfl, by decide +kernel, rfl, by decide +kernel, by decide +kernel⟩
theorem ok_bmdrop {f : Addr} {fd : FuncData} (F : Fun K "drop" "Book.drop" sBookDrop f fd) (T : BCls K C) (mDo : Meth K C "do" fDo) (bDo : Binds K fdDo ["self", "deed"] []) (GbDo : FnOk P w K mg base (L2.CX P w) 8 fDo fdDo ["self", "deed"] (spDoX C R X K)) : FnOk P w K mg base (L2.CX P w) 9 f fd ["self", "name"] (spMeth C R X K "drop" false) := by
  refine F.okX scBookDrop (fun vs H Q E h => ?_) (fun cdv A outer s H vs Q E hr8 h => ?_)
  · obtain ⟨a, pa, fu, zs, f, past, fut, ws, rfl, lw, _⟩ := h
    show ws.length + 1 = _
    rw [lw]
    rfl
  · obtain ⟨a, pa, fu, zs, f, past, fut, ws, rfl, lw, bk, k⟩ := h
    obtain ⟨x, rfl⟩ : ∃ x, ws = [x] := by
      match ws, lw with
      | [x], _ => exact ⟨x, rfl⟩
    obtain ⟨dx, t, ps, us, ha, _⟩ := id bk
    refine ⟨_,
    (pss_one (ps_ret (pe_meth (pv 0) T.cl mDo GbDo hr8 bDo .nil (passes_call (takes_of rfl rfl rfl rfl) (fun _ _ _ _ h => h)) (pa_cons (pe_tup (pa_cons pe_str (pa_cons (pv 1) pa_nil))) pa_nil)))), ?_⟩
    exact ⟨_, rfl, a, dx, _, rfl, ha, bno (by decide +kernel) (by decide +kernel) (by decide +kernel), _, rfl, by show 2 ≤ sizeLine; decide, fun d nd => k d nd⟩
abbrev sBookPut : Stmt := inClass (top 43) 3
abbrev nBookPut : List Str := ["self", "name", "row"]
theorem scBookPut : FnScope nBookPut ["self", "name", "row"] (defScope sBookPut) := ⟨rfl, rfl, rfl, by decide +kernel, rfl, by decide +kernel, by decide +kernel⟩
theorem ok_bmput {f : Addr} {fd : FuncData} (F : Fun K "put" "Book.put" sBookPut f fd) (T : BCls K C) (mDo : Meth K C "do" fDo) (bDo : Binds K fdDo ["self", "deed"] []) (GbDo : FnOk P w K mg base (L2.CX P w) 8 fDo fdDo ["self", "deed"] (spDoX C R X K)) : FnOk P w K mg base (L2.CX P w) 9 f fd ["self", "name", "row"] (spMeth C R X K "put" true) := by
  refine F.okX scBookPut (fun vs H Q E h => ?_) (fun cdv A outer s H vs Q E hr8 h => ?_)
  · obtain ⟨a, pa, fu, zs, f, past, fut, ws, rfl, lw, _⟩ := h
    show ws.length + 1 = _
    rw [lw]
    rfl
  · obtain ⟨a, pa, fu, zs, f, past, fut, ws, rfl, lw, bk, k⟩ := h
    obtain ⟨x, y, rfl⟩ : ∃ x y, ws = [x, y] := by
      match ws, lw with
      | [x, y], _ => exact ⟨x, y, rfl⟩
    obtain ⟨dx, t, ps, us, ha, _⟩ := id bk
    refine ⟨_,
    (pss_one (ps_ret (pe_meth (pv 0) T.cl mDo GbDo hr8 bDo .nil (passes_call (takes_of rfl rfl rfl rfl) (fun _ _ _ _ h => h)) (pa_cons (pe_tup (pa_cons pe_str (pa_cons (pv 1) (pa_cons (pv 2) pa_nil)))) pa_nil)))), ?_⟩
    exact ⟨_, rfl, a, dx, _, rfl, ha, bno (by decide +kernel) (by decide +kernel) (by decide +kernel), _, rfl, _, rfl, by show 3 ≤ sizeLine; decide, fun d nd => k d nd⟩
abbrev sBookTake : Stmt := inClass (top 43) 4
abbrev nBookTake : List Str := ["self", "name", "row"]
theorem scBookTake : FnScope nBookTake ["self", "name", "row"] (defScope sBookTake) := ⟨rfl, rfl, rfl, by decide +kernel, rfl, by decide +kernel, by decide +kernel⟩
theorem ok_bmtake {f : Addr} {fd : FuncData} (F : Fun K "take" "Book.take" sBookTake f fd) (T : BCls K C) (mDo : Meth K C "do" fDo) (bDo : Binds K fdDo ["self", "deed"] []) (GbDo : FnOk P w K mg base (L2.CX P w) 8 fDo fdDo ["self", "deed"] (spDoX C R X K)) : FnOk P w K mg base (L2.CX P w) 9 f fd ["self", "name", "row"] (spMeth C R X K "take" true) := by
  refine F.okX scBookTake (fun vs H Q E h => ?_) (fun cdv A outer s H vs Q E hr8 h => ?_)
  · obtain ⟨a, pa, fu, zs, f, past, fut, ws, rfl, lw, _⟩ := h
    show ws.length + 1 = _
    rw [lw]
    rfl
  · obtain ⟨a, pa, fu, zs, f, past, fut, ws, rfl, lw, bk, k⟩ := h
    obtain ⟨x, y, rfl⟩ : ∃ x y, ws = [x, y] := by
      match ws, lw with
      | [x, y], _ => exact ⟨x, y, rfl⟩
    obtain ⟨dx, t, ps, us, ha, _⟩ := id bk
    refine ⟨_,
    (pss_one (ps_ret (pe_meth (pv 0) T.cl mDo GbDo hr8 bDo .nil (passes_call (takes_of rfl rfl rfl rfl) (fun _ _ _ _ h => h)) (pa_cons (pe_tup (pa_cons pe_str (pa_cons (pv 1) (pa_cons (pv 2) pa_nil)))) pa_nil)))), ?_⟩
    exact ⟨_, rfl, a, dx, _, rfl, ha, bno (by decide +kernel) (by decide +kernel) (by decide +kernel), _, rfl, _, rfl, by show 3 ≤ sizeLine; decide, fun d nd => k d nd⟩
theorem ok_bmfill {f : Addr} {fd : FuncData} (F : Fun K "fill" "Book.fill" sBookFill f fd) (T : BCls K C) (mDo : Meth K C "do" fDo) (bDo : Binds K fdDo ["self", "deed"] []) (GbDo : FnOk P w K mg base (L2.CX P w) 8 fDo fdDo ["self", "deed"] (spDoX C R X K)) : FnOk P w K mg base (L2.CX P w) 9 f fd ["self", "name", "rows"] (spMeth C R X K "fill" true) := by
  refine F.okX scBookFill (fun vs H Q E h => ?_) (fun cdv A outer s H vs Q E hr8 h => ?_)
  · obtain ⟨a, pa, fu, zs, f, past, fut, ws, rfl, lw, _⟩ := h
    show ws.length + 1 = _
    rw [lw]
    rfl
  · obtain ⟨a, pa, fu, zs, f, past, fut, ws, rfl, lw, bk, k⟩ := h
    obtain ⟨x, y, rfl⟩ : ∃ x y, ws = [x, y] := by
      match ws, lw with
      | [x, y], _ => exact ⟨x, y, rfl⟩
    obtain ⟨dx, t, ps, us, ha, _⟩ := id bk
    refine ⟨_,
    (pss_one (ps_ret (pe_meth (pv 0) T.cl mDo GbDo hr8 bDo .nil (passes_call (takes_of rfl rfl rfl rfl) (fun _ _ _ _ h => h)) (pa_cons (pe_tup (pa_cons pe_str (pa_cons (pv 1) (pa_cons (pv 2) pa_nil)))) pa_nil)))), ?_⟩
    exact ⟨_, rfl, a, dx, _, rfl, ha, bno (by decide +kernel) (by decide +kernel) (by decide +kernel), _, rfl, _, rfl, by show 3 ≤ sizeLine; decide, fun d nd => k d nd⟩
end
end VQ
namespace VQ
open PySem PyProof.Rows L2 LamX
/-! ### x2(lambda: body), x2 calls what it got -/
theorem pe_tried {X : Cx} {x2 y2 : Str} {g2 : Addr} {cd2 : Value} {N2 : List Str} {sg2 : Scope} {bg2 : List Stmt} {TT : (XK → Hp → VK → Prop) → Hp → VK → Prop} {T : List (Addr × Str)} {k : Nat} {params : Arguments} {body : Expr} {scope : Scope} {t : XK → TE} {p lpos pos : Pos} (isG : Gl X x2)
    (D2 : One X.K X.mg x2 g2 cd2 N2 y2 sg2 bg2) (gives : Gives2 X.prog X.w X.K X.mg X.base N2 x2 sg2 g2 cd2 bg2 y2 (X.env.qual ++ "<lambda>") TT) (mk : LamMk X T params body scope lpos) (room : Room (k + 2) X.A) (bd : ∀ f c' E, LamBody X scope body k f c' E (t E)) :
    PE X (.Call (.Name x2 p) [.Lambda params body scope lpos] [] pos) (tLam T TT t) := by
  refine ⟨fun pins st sl H Q inv ⟨tabs, want⟩ => ?_⟩
  refine wpAny_Call_Name_kw (ld_glob inv isG D2.at_ (PySem.W.callWith_K (h₀ := X.base) inv.ok.mod.kin D2.kp ?_ (by rfl) (by rfl)) D2.n1)
  refine Calls.spliced_cons (rest := backTo pos (starEach [] X.env)) (mk inv tabs fun f c' H1 s1 inv1 LA ext tabs1 co => ?_)
  refine Calls.spliced_nil ⟨inv1.kIn, ?_⟩
  obtain ⟨oc, od, pa, dV, kV, doc, pm1, an, ct, osl, lk, bnd⟩ := D2.ex
  have run : codeAny (model X.prog X.w) X.A (.call (.ref g2) ⟨[.ref f], []⟩) (CR C8.CX0 X.stack X.prog X.w H1 s1 Q C8.E0) s1 :=
    run_ofS (N := N2) (ps := [y2]) (us := [.ref f]) (vs := [.ref f]) lk D2.code D2.sc room inv1.env0 (bnd s1 [.ref f] inv1.kIn rfl) (.cons rfl .nil) rfl fun room2 => by
      obtain ⟨tt, d1, d2⟩ := gives X.A X.stack f c' s1 H1 Q (fun E H2 Q2 => t E sl H2 Q2)
        (fun W pn xe E p1 p2 tk hW => pe_actG (i := 0) LA (bd f c' E) Un.refl (fun b m => .inl m) tk hW room2 D2.slot D2.vis D2.n2 D2.n3) co (want H1 ext tabs1)
      exact ⟨tt, d1.nox, d2⟩
  refine wpAny_call (codeAny_mono run ?_)
  rintro (er | (_ | _ | _ | u)) s3 z
  · exact (show False from z).elim
  · exact z.elim
  · exact z.elim
  · exact z.elim
  · exact inv1.after z
end VQ
namespace VQ
open PySem PySem.Spec PyProof.Rows L2
/-! ### how many unlike texts a list has -/
section
variable {P : Program} {w : World} {A : Around} {E : Value → Shared → Prop} {s : Shared}
theorem texts_filledL {l : Addr} {its : Array Value} {zs : List PySem.Str} {Z : PySem.Fin → Shared → Prop} (calm : A.handled = none) (isl : s.heap.IsList l its) (are : StrsAre its.toList zs) (few : zs.length + 1 < scanBound)
    (fin : ∀ s2, TextsDone P w s zs s2 → Z (.done (.ret .none)) s2) :
    wpAny (model P w) A.in1 (Builtin.«set.__init__» ⟨[.ref s.heap.objs.size, .ref l], []⟩) Z E { s with heap := s.heap.push (bareSet w) } := by
  obtain ⟨⟨oc, od, ot, os'⟩, at_l, e1, nl, e2⟩ := isl
  dsimp only at e1 e2
  subst e1 e2
  have cnt : its.size = zs.length := by rw [← StrsAre.len_eq are, Array.length_toList]
  have here : (s.heap.push (bareSet w)).get? s.heap.objs.size = some (bareSet w) := Heap.get?_push_size _ rfl
  have tyS : Shared.TypeIs { s with heap := s.heap.push (bareSet w) } (.ref s.heap.objs.size) "set" := ⟨_, here, rfl⟩
  have at_l' := Heap.get?_push_of_some (bareSet w) at_l
  have isl' : (s.heap.push (bareSet w)).IsList l its := ⟨_, at_l', rfl, nl, rfl⟩
  have n1 := PySem.F.sub_list_set
  have n2 := PySem.F.sub_list_frozenset
  have n3 : (Value.type "list" == Value.type "dict") = false := by decide
  unfold Builtin.«set.__init__» noKeywords Builtin.Frozenset.updateFrom
  generalize itE : pyIter = it
  wp_walk
  subst itE
  refine wpAny_pyIter_list isl' ?_
  refine wpAny_bind (wpAny_runValue ?_)
  have lt_l : l < s.heap.objs.size := Heap.lt_size at_l
  have calm3 : A.in1.in1.handled = none := by simp [calm]
  have size1 : (s.heap.push (bareSet w)).objs.size = s.heap.objs.size + 1 := Heap.size_push ..
  have ne_l : l ≠ (s.heap.push (bareSet w)).objs.size := by
    rw [size1]
    exact Nat.ne_of_lt (Nat.lt_succ_of_lt lt_l)
  have out : s.heap.objs.size ∉ [(s.heap.push (bareSet w)).objs.size, l] := fun m => by
    rcases List.mem_cons.mp m with q | q
    · rw [size1] at q
      exact Nat.ne_of_lt (Nat.lt_succ_self _) q
    · exact Nat.ne_of_gt lt_l (List.mem_singleton.mp q)
  have vals : ∀ (i : Nat) (v : Value), its[i]? = some v → ∃ z t, zs[i]? = some z ∧ v = .str z t := fun i v hv => by
    have hi : i < zs.length := by
      rw [← cnt]
      exact (Array.getElem?_eq_some_iff.mp hv).1
    obtain ⟨t, rfl⟩ := SS.strs_at are i v (by rw [Array.getElem?_toList]; exact hv)
    refine ⟨zs.getD i Str.empty, t, ?_, rfl⟩
    rw [List.getD_eq_getElem?_getD, List.getElem?_eq_getElem hi]
    rfl
  refine texts_update ((Walks.list calm3 _ l ne_l its).toS) s.heap.objs.size out zs cnt few vals (its.size - 0) 0 _ (by omega) (Nat.zero_le _) ?walk ?fresh fun s2 mv R => ?_
  case walk => exact ⟨⟨_, Heap.get?_push_size _ rfl, rfl, rfl⟩, isl'.push _⟩
  case fresh =>
    refine ⟨0, Nat.zero_le _, ⟨fun _ => List.nodup_nil, fun _ => rfl⟩, _, #[], 0, _, Heap.get?_push_of_some _ here, ⟨rfl, rfl, rfl⟩, rfl, (fun e he => by simp at he), (fun k => by simp), (by decide), (by rfl), rfl⟩
  obtain ⟨g, ge, dr, tk, os2⟩ := s2
  have q1 : ge = s.gens := mv.gens
  have q2 : dr = s.drawn := mv.drawn
  have q3 : os2 = s.os := mv.os
  subst q1 q2 q3
  show wpAny _ _ _ _ _ _
  refine wpAny_pure ?_
  show wpAny _ _ (ret Value.none) _ _ _
  refine wpAny_pure (fin _ ⟨g, tk, rfl, R, fun b o z => mv.heap b o (fun m => ?_) (Heap.get?_push_of_some _ (Heap.get?_push_of_some _ z))⟩)
  have lb := Heap.lt_size z
  rcases List.mem_cons.mp m with q | q
  · exact Nat.ne_of_lt lb q
  · have q := List.mem_singleton.mp q
    rw [size1] at q
    exact Nat.ne_of_lt (Nat.lt_succ_of_lt lb) q
theorem texts_callL {l : Addr} {its : Array Value} {zs : List PySem.Str} {Q : Value → Shared → Prop} (calm : A.handled = none) (isl : s.heap.IsList l its) (are : StrsAre its.toList zs) (few : zs.length + 1 < scanBound)
    (fin : ∀ s2, TextsDone P w s zs s2 → Q (.ref s.heap.objs.size) s2) : wpAny (model P w) A (call (.type "set") [.ref l]) Q E s := by
  obtain ⟨c0, tl, mro⟩ := F.called_set.mro
  have made := F.called_set.made
  have subt := F.called_set.sub
  have nty := F.called_set.notType
  have canc := F.called_set.canCreate
  have tyc := F.typeCall_set_1 (.ref l)
  have here : (s.heap.push (bareSet w)).get? s.heap.objs.size = some (bareSet w) := Heap.get?_push_size _ rfl
  have tyS : Shared.TypeIs { s with heap := s.heap.push (bareSet w) } (.ref s.heap.objs.size) "set" := ⟨_, here, rfl⟩
  have ini := F.called_set.init.lookup
  have inb := F.called_set.init.bind (.ref s.heap.objs.size)
  refine wpAny_call (codeAny_of_tree ?_)
  show wpAny _ _ (callAny (.type "set") _) _ _ _
  refine wpAny_pure ⟨Code.quiet_builtin _ (by decide +kernel), ?go⟩
  case go =>
  refine codeAny_builtin F.entry_type_call ?_
  rw [Around.under_plain (weight_type_call_type "set" [.ref l] []) rfl]
  repeat (any_goals (first | assumption | wp_step))
  refine codeAny_mono (code_set_led1 (w := w) (.ref l) (E := E) (Q₁ := fun v t => v = .ref s.heap.objs.size ∧ t = { s with heap := s.heap.push (bareSet w) }) ⟨rfl, rfl⟩) fun r t z => ?_
  match r, z with
  | .error e, z => exact z
  | .ok (.ret v), z =>
    obtain ⟨rfl, rfl⟩ := z
    repeat (any_goals (first | assumption | wp_step))
    refine codeAny_mono (codeAny_call_builtin (R := wants (fun v t => v = .none ∧ TextsDone P w s zs t) E) F.called_set.init.plain F.entry_set_init (check_set_init_1 tyS (texts_filledL (A := A.in1) (by simp [calm]) isl are few fun s2 d => ⟨rfl, d⟩))) fun r t z => ?_
    match r, z with
    | .error e, z => exact z
    | .ok (.ret v), z =>
      obtain ⟨rfl, d⟩ := z
      obtain ⟨g, tk, rfl, d'⟩ := id d
      repeat (any_goals (first | assumption | wp_step))
      exact fin _ d
end
/-- len(set(t)), t a list of texts: some count, that of the tuple just where they are unlike -/
def tLenTextsL (K : PySem.W.Frag) (ta : TE) : TE := fun σ H Q => ta σ H fun x H1 => ∃ (l : Addr) (zs : List PySem.Str), x = .ref l ∧ SqL K H1 l (zs.map V.str) ∧ zs.length < 1000 ∧ ∀ c : Nat, (c = zs.length ↔ zs.Nodup) → Q (.int c) H1
theorem pe_lenTextsL {X : Cx} {a : Expr} {ta : TE} {p p2 q pos : Pos} (ha : PE X a ta) (hg : Gl X "len") (hm : X.mg "len" = none) (hg2 : Gl X "set") (hm2 : X.mg "set" = none) (hc : X.calm = true := by rfl)
    (na : starEach [a] X.env = (false, eval a X.env) :: starEach [] X.env := by rfl) : PE X (.Call (.Name "len" p) [.Call (.Name "set" p2) [a] [] q] [] pos) (tLenTextsL X.K ta) := by
  refine ⟨fun pins s σ H Q I h => Call_ (ld_blt I hg hm boot_len (callWith_builtin1 (args_cons (Call_ (ld_blt I hg2 hm2 boot_set ?_)) rfl) rfl rfl))⟩
  refine callWith_type1 (args_cons (thn (ha.run pins s σ H _ I h) fun v s1 ⟨x, H1, I1, r1, q1⟩ => args_nil ?_) na) na rfl
  obtain ⟨l, zs, rfl, sq, few, k⟩ := q1
  cases r1
  obtain ⟨its, rv, pl, hz⟩ := I1.list sq
  refine texts_callL (P := X.prog) (w := X.w) (I1.ok.hd hc) pl.isList (by simpa using strsAre_of rv) (Nat.lt_of_lt_of_le (show zs.length + 1 < 1001 by omega) (by decide)) fun s2 d => args_nil ?_
  obtain ⟨g, tk, rfl, ⟨c, lc, ec, o, es, ep, tb, ho, hex, hd, _, _, _, hf, hn⟩, kk⟩ := d
  have I2 : Inv X pins σ H1 { s1 with heap := g, toks := tk } := I1.kept kk
  exact call_len_set ho hex hd hf (by rw [hn]; have : zs.length < 1000 := few; omega) ⟨.int (c : Nat), H1, I2.tok _, ⟨_, by rw [hn]⟩, k c ec⟩
end VQ
namespace VQ
open PySem PySem.Spec PyProof.Rows L2 LamX
/-! ### defs that make lambdas: three tables of code -/
def LamFun (K : PySem.W.Frag) (base : Heap) (mg : Str → Option Value) (x qual : Str) (st : Stmt) (f : Addr) (fd : FuncData) (Pt : Addr) : Prop :=
  ∃ (oc : Value) (od : Option Addr) (kV doc pm : Value) (an : Option Addr) (c : Addr) (ct : Value) (osl : Array (Option Value)), fd = PySem.W.fnOf x qual (defArgs st) (defBody st) (defScope st) .none kV doc pm an (.ref c) ct ∧ K.lookup f = some ⟨oc, od, .func fd, osl⟩ ∧ PySem.W.codeIn K (.ref c) qual = true ∧ TabB base mg c Pt
theorem okT {CX : CXT} {P : Program} {w : World} {K : PySem.W.Frag} {mg : Str → Option Value} {base : Heap} {x qual : Str} {st : Stmt} {f Pt : Addr} {fd : FuncData} {N ps : List Str} {k : Nat} {sp : Sp} (F : LamFun K base mg x qual st f fd Pt) (S : FnScope N ps (defScope st)) (len : ∀ vs H Q E, sp vs H Q E → vs.length = ps.length)
    (body : ∀ (c : Addr) (A : Around) (outer : List Env) (s : Shared) (H : Hp) (vs : List V) (Q : VK) (E : XK), TabB base mg c Pt → Room k (A.deeper (envOfC qual (defScope st) s.heap.objs.size f (.ref c))) → sp vs H Q E →
      ∃ t, PSs (cxOf CX P w K mg base N qual (defScope st) f (.ref c) A outer s H E) (defBody st) t ∧ t { nx := fun _ H' => Q .non H', rt := Q } (start N vs) H) : FnOk P w K mg base CX (k + 1) f fd ps sp := by
  obtain ⟨oc, od, kV, doc, pm, an, c, ct, osl, rfl, lk, hcd, TB⟩ := F
  exact fn_of lk hcd S len fun A outer s H vs Q E hr h => body c A outer s H vs Q E TB hr h
def qL (x : Str) : Str := x ++ ".<locals>." ++ "<lambda>"
def T3 (p1 p2 p3 : Addr) : List (Addr × Str) := [(p1, qL "law"), (p2, qL "_law_full_tables"), (p3, qL "_law_crowd_refused")]
structure Apart3 (p1 p2 p3 : Addr) : Prop where
  h12 : p1 ≠ p2
  h13 : p1 ≠ p3
  h23 : p2 ≠ p3
theorem only1 {p1 p2 p3 : Addr} (d : Apart3 p1 p2 p3) : ∀ p ∈ T3 p1 p2 p3, p.1 = p1 → p.2 = qL "law" := fun p m e => by
  rcases List.mem_cons.mp m with rfl | m
  · rfl
  rcases List.mem_cons.mp m with rfl | m
  · exact absurd e.symm d.h12
  rw [List.mem_singleton.mp m] at e
  exact absurd e.symm d.h13
theorem only2 {p1 p2 p3 : Addr} (d : Apart3 p1 p2 p3) : ∀ p ∈ T3 p1 p2 p3, p.1 = p2 → p.2 = qL "_law_full_tables" := fun p m e => by
  rcases List.mem_cons.mp m with rfl | m
  · exact absurd e d.h12
  rcases List.mem_cons.mp m with rfl | m
  · rfl
  rw [List.mem_singleton.mp m] at e
  exact absurd e.symm d.h23
theorem only3 {p1 p2 p3 : Addr} (d : Apart3 p1 p2 p3) : ∀ p ∈ T3 p1 p2 p3, p.1 = p3 → p.2 = qL "_law_crowd_refused" := fun p m e => by
  rcases List.mem_cons.mp m with rfl | m
  · exact absurd e d.h13
  rcases List.mem_cons.mp m with rfl | m
  · exact absurd e d.h23
  rw [List.mem_singleton.mp m]
theorem mem1 {p1 p2 p3 : Addr} : (p1, qL "law") ∈ T3 p1 p2 p3 := .head _
theorem mem2 {p1 p2 p3 : Addr} : (p2, qL "_law_full_tables") ∈ T3 p1 p2 p3 := .tail _ (.head _)
theorem mem3 {p1 p2 p3 : Addr} : (p3, qL "_law_crowd_refused") ∈ T3 p1 p2 p3 := .tail _ (.tail _ (.head _))
theorem tabs_nil {p1 p2 p3 : Addr} {H : Hp} (h1 : H p1 = some (.tbl #[])) (h2 : H p2 = some (.tbl #[])) (h3 : H p3 = some (.tbl #[])) : Tabs (T3 p1 p2 p3) H := fun p m => by
  rcases List.mem_cons.mp m with rfl | m
  · exact TabS.nil h1
  rcases List.mem_cons.mp m with rfl | m
  · exact TabS.nil h2
  rw [List.mem_singleton.mp m]
  exact TabS.nil h3
theorem tabs_moved {T : List (Addr × Str)} {H H' : Hp} (t : Tabs T H) (m1 : ∀ x ps, H x = some (.tbl ps) → H' x = some (.tbl ps)) (m2 : ∀ x q, H x = some (CodeO x q) → H' x = some (CodeO x q)) : Tabs T H' := fun p hp => by
  obtain ⟨ps, a1, a2, a3⟩ := t p hp
  refine ⟨ps, m1 _ _ a1, a2, fun pos cv hc => ?_⟩
  obtain ⟨c, e1, e2⟩ := a3 pos cv hc
  exact ⟨c, e1, m2 _ _ e2⟩
section
variable {C a pa fu : Addr} {zs : List Str} {f : Tbs} {past fut : List Stp} {H H' : Hp} {T : List (Addr × Str)}
theorem BookN.objs (h : BookN C H a pa fu zs f past fut) : (∃ dx fs, H a = some (.ins C dx fs)) ∧ (∃ ps, H pa = some (.lst ps)) ∧ (∃ us, H fu = some (.lst us)) := by
  obtain ⟨dx, t, ps, us, h1, h2, h3, _⟩ := h
  exact ⟨⟨_, _, h1⟩, ⟨_, h2⟩, ⟨_, h3⟩⟩
theorem tabs_onlyB (t : Tabs T H) (bk : BookN C H a pa fu zs f past fut) (o : OnlyB a pa H H') : Tabs T H' := by
  obtain ⟨⟨dx, fs, h1⟩, ⟨ps, h2⟩, _⟩ := bk.objs
  refine tabs_moved t (fun x q e => o x _ (fun z => ?_) (fun z => ?_) e) fun x q e => o x _ (fun z => ?_) (fun z => ?_) e
  · rw [z, h1] at e; cases e
  · rw [z, h2] at e; cases e
  · rw [z, h1] at e; cases e
  · rw [z, h2] at e; cases e
theorem tabs_onlyU (t : Tabs T H) (bk : BookN C H a pa fu zs f past fut) (o : OnlyU a pa fu H H') : Tabs T H' := by
  obtain ⟨⟨dx, fs, h1⟩, ⟨ps, h2⟩, us, h3⟩ := bk.objs
  refine tabs_moved t (fun x q e => o x _ (fun z => ?_) (fun z => ?_) (fun z => ?_) e) fun x q e => o x _ (fun z => ?_) (fun z => ?_) (fun z => ?_) e
  · rw [z, h1] at e; cases e
  · rw [z, h2] at e; cases e
  · rw [z, h3] at e; cases e
  · rw [z, h1] at e; cases e
  · rw [z, h2] at e; cases e
  · rw [z, h3] at e; cases e
/-- all stays but the book, its past, its future and tables of code -/
def FrB (a pa fu : Addr) (H H' : Hp) : Prop := ∀ x o, x ≠ a → x ≠ pa → x ≠ fu → (∀ ps, o ≠ .tbl ps) → H x = some o → H' x = some o
theorem FrB.refl : FrB a pa fu H H := fun _ _ _ _ _ _ h => h
theorem FrB.same (s : Same H H') : FrB a pa fu H H' := fun x o _ _ _ _ h => s x o h
theorem FrB.ext (e : ExtN H H') : FrB a pa fu H H' := fun x o _ _ _ n h => e x o h n
theorem FrB.onlyB (o : OnlyB a pa H H') : FrB a pa fu H H' := fun x u n1 n2 _ _ h => o x u n1 n2 h
theorem FrB.onlyU (o : OnlyU a pa fu H H') : FrB a pa fu H H' := fun x u n1 n2 n3 _ h => o x u n1 n2 n3 h
theorem FrB.trans {H1 H2 : Hp} (h : FrB a pa fu H H1) (g : FrB a pa fu H1 H2) : FrB a pa fu H H2 := fun x o n1 n2 n3 n e => g x o n1 n2 n3 n (h x o n1 n2 n3 n e)
/-- nothing that stood lies where the new future lies -/
def OffF (H : Hp) (fu fu' : Addr) : Prop := ∀ y o, y ≠ fu → H y = some o → (∀ ps, o ≠ .tbl ps) → y ≠ fu'
theorem OffF.refl : OffF H fu fu := fun _ _ n _ _ => n
theorem FrB.swap {fu' : Addr} {H1 H2 : Hp} (h : FrB a pa fu H H1) (nf : OffF H fu fu') (g : FrB a pa fu' H1 H2) : FrB a pa fu H H2 := fun x o n1 n2 n3 n e => g x o n1 n2 (nf x o n3 e n) n (h x o n1 n2 n3 n e)
theorem OffF.new {fu1 fu2 : Addr} {H1 : Hp} (h : FrB a pa fu H H1) (bk : BookN C H1 a pa fu1 zs f past fut) (nf : H1 fu2 = none) : OffF H fu fu2 := fun y o n e nt => by
  obtain ⟨⟨dx, fs, h1⟩, ⟨ps, h2⟩, _⟩ := bk.objs
  by_cases ya : y = a
  · rw [ya]; exact ne_of_none h1 nf
  by_cases yp : y = pa
  · rw [yp]; exact ne_of_none h2 nf
  exact ne_of_none (h y o ya yp n nt e) nf
theorem FrB.lst (h : FrB a pa fu H H') {x : Addr} {us : List V} (n1 : x ≠ a) (n2 : x ≠ pa) (n3 : x ≠ fu) (e : H x = some (.lst us)) : H' x = some (.lst us) := h x _ n1 n2 n3 (fun _ z => by cases z) e
theorem FrB.tup (h : FrB a pa fu H H') (bk : BookN C H a pa fu zs f past fut) {x : Addr} {us : List V} (e : H x = some (.tup us)) : H' x = some (.tup us) := by
  obtain ⟨⟨dx, fs, h1⟩, ⟨ps, h2⟩, vs, h3⟩ := bk.objs
  refine h x _ (fun z => ?_) (fun z => ?_) (fun z => ?_) (fun _ z => by cases z) e
  · rw [z, h1] at e; cases e
  · rw [z, h2] at e; cases e
  · rw [z, h3] at e; cases e
theorem FrB.rows (h : FrB a pa fu H H') (bk : BookN C H a pa fu zs f past fut) {us : List V} {rs : List (List Nat)} (e : Rows H us rs) : Rows H' us rs := e.moved fun x xs q => h.tup bk q
theorem BookN.extN (e : ExtN H H') (h : BookN C H a pa fu zs f past fut) : BookN C H' a pa fu zs f past fut := by
  have td : ∀ x o, TD o → H x = some o → H' x = some o := fun x o t q => e x o q (by rcases t with ⟨xs, rfl⟩ | ⟨kvs, rfl⟩ <;> exact fun _ z => by cases z)
  obtain ⟨dx, t, ps, us, h1, h2, h3, h4, h5, h6, n1, n2, n3⟩ := h
  exact ⟨dx, t, ps, us, e _ _ h1 (fun _ z => by cases z), e _ _ h2 (fun _ z => by cases z), e _ _ h3 (fun _ z => by cases z), h4.moved td, h5.moved td, h6.moved td, n1, n2, n3⟩
end
/-! ### refused and caught -/
/-- what a refused deed's error holds -/
def HoldsX (X : RefX) (nm : Str) (y : V) (C : Addr) (fs : List (Str × V)) : Prop := fs.lookup ("called" : Str) = some (.str nm) ∧ (((C = X.bn ∨ C = X.bw ∨ C = X.br) ∧ y = .str "") ∨ (C = X.fu ∧ fs.lookup ("what" : Str) = some y) ∨ ((C = X.ta ∨ C = X.nt) ∧ fs.lookup ("name" : Str) = some y))
structure XCls (K : PySem.W.Frag) (Ta NT NR BT Uf Fu TM QE No : Addr) (R : Ref) (X : RefX) : Prop where
  ft : First K Ta NT NR R.ta
  fn : First K Ta NT NR R.nt
  fr : First K Ta NT NR R.nr
  pt : Plain K Ta NT NR BT Uf Fu TM QE No R.th
  bn : Plain K Ta NT NR BT Uf Fu TM QE No X.bn
  bw : Plain K Ta NT NR BT Uf Fu TM QE No X.bw
  br : Plain K Ta NT NR BT Uf Fu TM QE No X.br
  fu : Third K Ta NT NR BT Uf Fu X.fu
  nt : X.nt = R.nt
  ta : X.ta = R.ta
section
variable {K : PySem.W.Frag} {Ta NT NR BT Uf Fu TM QE NoE : Addr} {R : Ref} {X : RefX} {H : Hp} {Q : VK}
theorem badX_caught (xc : XCls K Ta NT NR BT Uf Fu TM QE NoE R X) {nm : Str} {y : V} {C : Addr} {fs : List (Str × V)} (h : HoldsX X nm y C fs) (k : ∀ p H', Same H H' → H' p = some (.tup [.str nm, y]) → Q (.ref p) H') :
    Refs H (CaughtW K Ta NT NR BT Uf Fu TM QE NoE Q) C fs := fun d H' s nd => by
  have s1 : Same H (upd H' d (.xd fs)) := s.trans (same_new nd)
  obtain ⟨hc, ⟨hC, rfl⟩ | ⟨rfl, hw⟩ | ⟨hC, hn⟩⟩ := h
  · refine .inl (.inl ⟨C, d, fs, _, rfl, rfl, ?_, upd_same, hc, fun p np => k p _ (s1.trans (same_new np)) upd_same⟩)
    rcases hC with rfl | rfl | rfl
    · exact xc.bn
    · exact xc.bw
    · exact xc.br
  · exact .inr ⟨_, d, fs, _, _, rfl, rfl, xc.fu, upd_same, hc, hw, fun p np => k p _ (s1.trans (same_new np)) upd_same⟩
  · refine .inl (.inr ⟨C, d, fs, _, _, rfl, rfl, ?_, upd_same, hc, hn, fun p np => k p _ (s1.trans (same_new np)) upd_same⟩)
    rcases hC with rfl | rfl
    · rw [xc.ta]
      exact xc.ft
    · rw [xc.nt]
      exact xc.fn
theorem there_caught (xc : XCls K Ta NT NR BT Uf Fu TM QE NoE R X) (k : ∀ p H', Same H H' → H' p = some (.tup [.str "There", .str ""]) → Q (.ref p) H') : Refs H (CaughtW K Ta NT NR BT Uf Fu TM QE NoE Q) R.th [("called", .str "There")] := fun d H' s nd => by
  have s1 : Same H (upd H' d (.xd [("called", .str "There")])) := s.trans (same_new nd)
  exact .inl (.inl ⟨_, d, _, _, rfl, rfl, xc.pt, upd_same, rfl, fun p np => k p _ (s1.trans (same_new np)) upd_same⟩)
theorem norow_caught (xc : XCls K Ta NT NR BT Uf Fu TM QE NoE R X) {nm : Str} (k : ∀ p H', Same H H' → H' p = some (.tup [.str "NoRow", .str nm]) → Q (.ref p) H') : Refs H (CaughtW K Ta NT NR BT Uf Fu TM QE NoE Q) R.nr (zsF "NoRow" (.str nm)) := fun d H' s nd => by
  have s1 : Same H (upd H' d (.xd (zsF "NoRow" (.str nm)))) := s.trans (same_new nd)
  exact .inl (.inr ⟨_, d, _, _, _, rfl, rfl, xc.fr, upd_same, rfl, rfl, fun p np => k p _ (s1.trans (same_new np)) upd_same⟩)
variable {C a pa fu : Addr} {zs : List Str} {f : Tbs} {past fut : List Stp}
/-- a method's deed that is refused -/
theorem meth_bad (xc : XCls K Ta NT NR BT Uf Fu TM QE NoE R X) {w : Str} {two : Bool} {ws : List V} {E : Addr} {fs : List (Str × V)} {nm : Str} {y : V} {QQ : VK} (bk : BookN C H a pa fu zs f past fut) (lp : past.length < 1000) (tok : TsOk f) (few : zs.length < 100) (lw : ws.length = (if two = true then 2 else 1)) (bd : BadD X K H f zs.length w ws E fs) (ho : HoldsX X nm y E fs)
    (k : ∀ p H', Same H H' → H' p = some (.tup [.str nm, y]) → Q (.ref p) H') : spMeth C R X K w two (.ref a :: ws) H QQ (CaughtW K Ta NT NR BT Uf Fu TM QE NoE Q) := by
  refine ⟨a, pa, fu, zs, f, past, fut, ws, rfl, lw, bk, fun d nd => ?_⟩
  have sd := same_new (o := HO.tup (.str w :: ws)) nd
  exact ⟨a, pa, fu, .ref d, zs, f, past, fut, rfl, bk.same sd, lp, .inr ⟨d, w, ws, E, fs, rfl, upd_same, tok, few, bd.same sd, badX_caught xc ho fun p H' s h => k p H' (sd.trans s) h⟩⟩
/-- a method's deed that is told, or refused where it may be -/
theorem meth_good {D : Deed} {two : Bool} {ws : List V} {Q : VK} {E : XK} (bk : BookN C H a pa fu zs f past fut) (lp : past.length < 1000) (tok : TsOk f) (lw : ws.length = (if two = true then 2 else 1)) (th : Things H D ws) (fine : Fine f zs.length D)
    (k : ∀ ans ms g, To f zs D ans ms g → ∀ (fu' : Addr) (H' : Hp), OnlyB a pa H H' → H fu' = none → BookN C H' a pa fu' ms g (past ++ [(zs, f)]) [] → Q ans H') (no : ∀ Cc fs, No R f D Cc fs → Refs H E Cc fs) : spMeth C R X K (wordOf D) two (.ref a :: ws) H Q E := by
  refine ⟨a, pa, fu, zs, f, past, fut, ws, rfl, lw, bk, fun d nd => ?_⟩
  have sd := same_new (o := HO.tup (.str (wordOf D) :: ws)) nd
  exact ⟨a, pa, fu, .ref d, zs, f, past, fut, rfl, bk.same sd, lp, .inl ⟨D, ⟨d, ws, rfl, upd_same, th.same sd⟩, tok, fine, fun ans ms g tt fu' H' ob nf bk' => k ans ms g tt fu' H' (ob.back sd) (sd.free nf) bk', fun Cc fs n e H1 s1 => no Cc fs n e H1 (sd.trans s1)⟩⟩
end
end VQ
namespace VQ
open PySem PySem.Spec PyProof.Rows L2 LamX
/-! ### _law_full_tables -/
def f2 (zs : List Str) : Tbs := fun z => if z ∈ zs then some (2, []) else none
theorem f2_nil : f2 [] = fun _ => none := by
  funext z
  exact if_neg List.not_mem_nil
theorem f2_snoc {zs : List Str} {z : Str} : fset (f2 zs) z (2, []) = f2 (zs ++ [z]) := by
  funext x
  unfold fset f2
  by_cases c : x = z
  · rw [if_pos c, if_pos (List.mem_append.mpr (.inr (List.mem_singleton.mpr c)))]
  · rw [if_neg c]
    by_cases m : x ∈ zs
    · rw [if_pos m, if_pos (List.mem_append.mpr (.inl m))]
    · rw [if_neg m, if_neg fun q => (List.mem_append.mp q).elim m fun q => c (List.mem_singleton.mp q)]
theorem f2_in {zs : List Str} {z : Str} (m : z ∈ zs) : f2 zs z = some (2, []) := if_pos m
theorem f2_out {zs : List Str} {z : Str} (m : z ∉ zs) : f2 zs z = none := if_neg m
theorem f2_ok {zs : List Str} : TsOk (f2 zs) := fun nm t e => by
  unfold f2 at e
  split at e
  · have := (Option.some.inj e).symm
    subst this
    exact ⟨by decide, by decide, by show 0 ≤ 40; decide, List.nodup_nil, fun r m => by cases m⟩
  · cases e
/-- a pair of words -/
def wdD (p : Str × Str) : PyData := .tuple [.str p.1, .str p.2]
theorem wd_dp {K : PySem.W.Frag} {H : Hp} {p : Addr} {x y : Str} (h : H p = some (.tup [.str x, .str y])) : Dp K H (.ref p) (wdD (x, y)) := .tup (SqT.of h) (.cons (.str _) (.cons (.str _) .nil))
theorem lay_wd {x y : Str} (hx : ∀ c ∈ x.cps.toList, c < 1114112) (hy : ∀ c ∈ y.cps.toList, c < 1114112) : Lay 2 (wdD (x, y)) := .tuple fun d m => by
  rcases List.mem_cons.mp m with rfl | m
  · exact .str 1 hx
  · rw [List.mem_singleton.mp m]
    exact .str 1 hy
theorem name_cps {m : Nat} {z : Str} (h : NameS m z) : ∀ c ∈ z.cps.toList, c < 1114112 := fun c mc => by
  have e := h.lt c mc
  have key : ∀ c ∈ letters.cps.toList, c < 1114112 := by decide +kernel
  exact key c (of_decide_eq_true e)
abbrev sLawFullTables : Stmt := top 52
abbrev nLawFullTables : List Str := ["_law_book", "_law_pool_here", "_law_name", "_law_spare", "_law_words"]
theorem scLawFullTables : FnScope nLawFullTables ["_law_book", "_law_pool_here"] (defScope sLawFullTables) := ⟨rfl, rfl, rfl, by decide +kernel, rfl, by decide +kernel, by decide +kernel⟩
section
variable {P : Program} {w : World} {K : PySem.W.Frag} {mg : Str → Option Value} {base : Heap} {Ta NT NR BT Uf Fu TM QE No : Addr} {C fMk fT p1 p2 p3 : Addr} {fdMk fdT : FuncData} {R : Ref} {X : RefX}
def spFullT (C : Addr) (T : List (Addr × Str)) : Sp := fun vs H Q _ => ∃ (a pa fu pl : Addr) (ps : List Str), vs = [.ref a, .ref pl] ∧ BookN C H a pa fu [] (fun _ => none) [] [] ∧ H pl = some (.lst (ps.map V.str)) ∧ pl ≠ a ∧ pl ≠ pa ∧ pl ≠ fu ∧ ps.length = 8 ∧ ps.Nodup ∧ (∀ z ∈ ps, NameS 8 z) ∧ ¬ (("ninth" : Str) ∈ ps ∧ ("tenth" : Str) ∈ ps) ∧ Tabs T H ∧
  ∀ (fu' : Addr) (H' : Hp) (past : List Stp) (spare : Str), FrB a pa fu H H' → OffF H fu fu' → Tabs T H' → BookN C H' a pa fu' ps (f2 ps) past [] → past.length = 8 → spare ∉ ps → NameS 8 spare → (spare = "ninth" ∨ spare = "tenth") → Q (.str spare) H'
theorem has_fulltables {f : Addr} {fd : FuncData} (d3 : Apart3 p1 p2 p3) (b : Blt mg) (T : BCls K C) (ER : Errs mg Ta NT NR BT Uf Fu TM QE No) (xc : XCls K Ta NT NR BT Uf Fu TM QE No R X) (aT : At K mg "_law_tried" sTried ["_law_ask"] fT fdT)
    (mMk : Meth K C "make" fMk) (bMk : Binds K fdMk ["self", "name", "width"] []) (GbMk : FnOk P w K mg base (L2.CX P w) 9 fMk fdMk ["self", "name", "width"] (spMeth C R X K "make" true))
    (L : LamFun K base mg "_law_full_tables" "_law_full_tables" sLawFullTables f fd p2) : FnOk P w K mg base CX0 12 f fd ["_law_book", "_law_pool_here"] (spFullT C (T3 p1 p2 p3)) := by
  obtain ⟨cdv2, D2⟩ := one_of aT scTried rfl (.inl rfl) (by decide) (by decide) (by decide)
  refine okT L scLawFullTables (fun vs H Q E h => ?_) (fun c A outer s H vs Q E TB hr11 h => ?_)
  · obtain ⟨a, pa, fu, pl, ps, rfl, _⟩ := h
    rfl
  · obtain ⟨a, pa, fu, pl, ps, rfl, bk, hp, npa, npp, npf, l8, nd, nm, apart, tb, k⟩ := h
    have hr9 : Room 9 _ := hr11.mono (by decide)
    have hu : (A.deeper (PyProof.Rows.envOfC "_law_full_tables" (defScope sLawFullTables) s.heap.objs.size f (.ref c))).units + 64 < cLine := hr11.units
    refine ⟨_, PSs.nox
    (pss_cons (ps_for PassesOwn.never rfl (pi_list (pv 1)) (pg_name (i := 2) scLawFullTables.nd rfl (.inl rfl))
      (pss_one (ps_expr (pe_meth (pv 0) T.cl mMk GbMk hr9 bMk .nil passCX (pa_cons (pv 2) (pa_cons pe_int pa_nil))))))
    (C8.pss_cut (ps_set (i := 3) scLawFullTables.nd rfl (.inr rfl) (pe_ifExp (pt_cmpR op_notIn_seq pe_str (pv 1) rfl) pe_str pe_str))
    (pss_cons (ps_set (i := 4) scLawFullTables.nd rfl (.inl rfl) (pe_lst (pa_cons (pe_tried (k := 9) (T := T3 p1 p2 p3) (t := fun E => tMeth C "make" (spMeth C R X K "make" true) [] E (tVar 0) (tCons (tC (.str "A")) (tCons (tC (.int 5)) tNil))) rfl D2 (tried_givesW ER) (mk_plain TB rfl (by exact mem2) (by exact only2 d3) (lamS2_by (N := nLawFullTables) (sc := defScope sLawFullTables) (by decide +kernel) rfl rfl) rfl (fun _ _ _ _ _ => rfl)) hr11
              (fun f c' E A outer s H hr' => pe_meth (pv 0) T.cl mMk GbMk hr' bMk .nil (passes_call (takes_of rfl rfl rfl rfl) (fun _ _ _ _ h => h)) (pa_cons pe_str (pa_cons pe_int pa_nil)))) (pa_cons (pe_tried (k := 9) (T := T3 p1 p2 p3) (t := fun E => tMeth C "make" (spMeth C R X K "make" true) [] E (tVar 0) (tCons (tOp (rIxL K) (tVar 1) (tC (.int 3))) (tCons (tC (.int 5)) tNil))) rfl D2 (tried_givesW ER) (mk_dflt (y := "_law_a") TB rfl (by exact mem2) (by exact only2 d3) (lamS2_by (N := nLawFullTables) (sc := defScope sLawFullTables) (by decide +kernel) rfl rfl) rfl rfl rfl (fun _ _ _ _ _ _ _ => ⟨_, rfl, rfl⟩)) hr11
              (fun f c' E A outer s H hr' => pe_meth (pv 0) T.cl mMk GbMk hr' bMk .nil (passes_call (takes_of rfl rfl rfl rfl) (fun _ _ _ _ h => h)) (pa_cons (pe_ix ix_list (pv 1) pe_int fun _ _ => rfl) (pa_cons pe_int pa_nil)))) pa_nil))))
    (pss_cons (ps_set (i := 4) scLawFullTables.nd rfl (.inl rfl) (pe_op op_cat (pv 4) (pe_lst (pa_cons (pe_tried (k := 9) (T := T3 p1 p2 p3) (t := fun E => tMeth C "make" (spMeth C R X K "make" true) [] E (tVar 0) (tCons (tVar 3) (tCons (tC (.int 5)) tNil))) rfl D2 (tried_givesW ER) (mk_plain TB rfl (by exact mem2) (by exact only2 d3) (lamS2_by (N := nLawFullTables) (sc := defScope sLawFullTables) (by decide +kernel) rfl rfl) rfl (fun _ _ _ _ _ => rfl)) hr11
              (fun f c' E A outer s H hr' => pe_meth (pv 0) T.cl mMk GbMk hr' bMk .nil (passes_call (takes_of rfl rfl rfl rfl) (fun _ _ _ _ h => h)) (pa_cons (pv 3) (pa_cons pe_int pa_nil)))) (pa_cons (pe_tried (k := 9) (T := T3 p1 p2 p3) (t := fun E => tMeth C "make" (spMeth C R X K "make" true) [] E (tVar 0) (tCons (tVar 3) (tCons (tC (.int 4)) tNil))) rfl D2 (tried_givesW ER) (mk_dflt (y := "_law_a") TB rfl (by exact mem2) (by exact only2 d3) (lamS2_by (N := nLawFullTables) (sc := defScope sLawFullTables) (by decide +kernel) rfl rfl) rfl rfl rfl (fun _ _ _ _ _ _ _ => ⟨_, rfl, rfl⟩)) hr11
              (fun f c' E A outer s H hr' => pe_meth (pv 0) T.cl mMk GbMk hr' bMk .nil (passes_call (takes_of rfl rfl rfl rfl) (fun _ _ _ _ h => h)) (pa_cons (pv 3) (pa_cons pe_int pa_nil)))) pa_nil)))))
    (pss_cons (ps_if (pt_cmpR (op_neD hu) (pv 4) (pe_lst (pa_cons (pe_tup (pa_cons pe_str (pa_cons pe_str pa_nil))) (pa_cons (pe_tup (pa_cons pe_str (pa_cons (pe_ix ix_list (pv 1) pe_int fun _ _ => rfl) pa_nil))) (pa_cons (pe_tup (pa_cons pe_str (pa_cons pe_str pa_nil))) (pa_cons (pe_tup (pa_cons pe_str (pa_cons pe_str pa_nil))) pa_nil))))) (nomark _))
      (pss_one (ps_ret pe_str))
      pss_nil)
    (pss_one (ps_ret (pv 3)))))))), ?_⟩
    -- the eight tables
    refine ⟨_, rfl, pl, rfl, ⟨_, SqL.of hp⟩, ?_⟩
    refine for_list (xs := ps.map V.str) (fun i σ H' => ∃ (fu' : Addr) (past' : List Stp) (o : Option V), σ = [some (.ref a), some (.ref pl), o, none, none] ∧ FrB a pa fu H H' ∧ OffF H fu fu' ∧ Tabs (T3 p1 p2 p3) H' ∧ BookN C H' a pa fu' (ps.take i) (f2 (ps.take i)) past' [] ∧ past'.length = i)
      ⟨fu, [], none, rfl, .refl, .refl, tb, by rw [List.take_zero, f2_nil]; exact bk, rfl⟩ ?_ ?_ ?_
    · rintro i σ H' _ ⟨fu', past', o, _, fr, _⟩
      exact SqL.of (fr.lst npa npp npf hp)
    · rintro i x σ H' hx ⟨fu', past', o, rfl, fr, off, tb', bk', lp⟩
      rw [List.getElem?_map] at hx
      obtain ⟨z, hz, rfl⟩ := Option.map_eq_some_iff.mp hx
      have li : i < ps.length := (List.getElem?_eq_some_iff.mp hz).1
      have ez : ps.take (i + 1) = ps.take i ++ [z] := by rw [List.take_add_one, hz]; rfl
      have nz : z ∉ ps.take i := by
        have h1 : (ps.take (i + 1)).Nodup := nd.sublist (List.take_sublist _ _)
        rw [ez, snoc_nodup] at h1
        exact h1.2
      have lt : (ps.take i).length = i := by rw [List.length_take]; omega
      obtain ⟨dx, t, qs, us, ha, _⟩ := id bk'
      refine ⟨_, rfl, a, dx, _, rfl, ha, bno (by decide +kernel) (by decide +kernel) (by decide +kernel), _, rfl, ?_⟩
      refine meth_good (D := .make z 2) bk' (by omega) f2_ok rfl .make ⟨by rw [lt]; omega, nm z (List.mem_of_getElem? hz), by decide, by decide⟩ (fun ans ms g tt fu2 H2 ob nf bk2 => ?_) fun Cc fs no => ?_
      · cases tt
        exact ⟨fu2, _, _, rfl, fr.swap off (.onlyB ob), OffF.new fr bk' nf, tabs_onlyB tb' bk' ob, by rw [ez, ← f2_snoc]; exact bk2, by rw [List.length_append, lp]; rfl⟩
      · cases no with
        | taken h => rw [f2_out nz] at h; cases h
    rintro σ H1 ⟨fu1, past1, o, rfl, fr1, off1, tb1, bk1, lp1⟩
    rw [List.length_map, l8] at lp1 bk1
    rw [List.take_of_length_le (by omega)] at bk1
    have hp1 := fr1.lst npa npp npf hp
    -- a name to spare
    refine ⟨fun σ' H' => ∃ sp : Str, σ' = [some (.ref a), some (.ref pl), o, some (.str sp), none] ∧ H1 = H' ∧ sp ∉ ps ∧ NameS 8 sp ∧ (sp = "ninth" ∨ sp = "tenth"), ?_, ?_⟩
    · refine ⟨_, rfl, pl, _, rfl, .inl (SqL.of hp1), rfl, List.all_eq_true.mpr fun v m => (by obtain ⟨z, _, rfl⟩ := List.mem_map.mp m; rfl), _, rfl, ?_⟩
      have ein := inV_str (z := "ninth") (zs := ps)
      rw [ein]
      by_cases m : ("ninth" : Str) ∈ ps
      · rw [decide_eq_true m]
        exact iteF ⟨_, rfl, rfl, fun q => apart ⟨m, q⟩, nameB_iff.mp (by decide +kernel), .inr rfl⟩
      · rw [decide_eq_false m]
        exact iteT ⟨_, rfl, rfl, m, nameB_iff.mp (by decide +kernel), .inl rfl⟩
    rintro _ _ ⟨sp, rfl, rfl, nsp, gsp, wsp⟩
    obtain ⟨z3, h3⟩ : ∃ z, ps[3]? = some z := ⟨_, List.getElem?_eq_getElem (by omega)⟩
    have a3 : atI (ps.map V.str) 3 = some (.str z3) := atI_nat (j := 3) (by rw [List.getElem?_map, h3]; rfl)
    have m3 := List.mem_of_getElem? h3
    have nsB : nameB 8 sp = true := nameB_iff.mpr gsp
    have few : ps.length < 100 := by omega
    have ins : ∀ {Hx : Hp}, BookN C Hx a pa fu1 ps (f2 ps) past1 [] → ∃ dx t, Hx a = some (.ins C dx (bf t (.ref pa) (.ref fu1))) := fun b => by
      obtain ⟨dx, t, qs, us, ha, _⟩ := b
      exact ⟨dx, _, ha⟩
    have nt : ∀ {xs : List V} (ps : Array Value), HO.tup xs ≠ .tbl ps := fun _ z => by cases z
    -- no name
    refine ⟨tb1, fun H2 e2 tb2 => ?_⟩
    have bk2 := bk1.extN e2
    obtain ⟨dx2, t2, ha2⟩ := ins bk2
    refine ⟨_, rfl, a, dx2, _, rfl, ha2, bno (by decide +kernel) (by decide +kernel) (by decide +kernel), ?_⟩
    refine meth_bad (nm := "BadName") (y := .str "") xc bk2 (by omega) f2_ok few rfl (.name (by decide +kernel) (by decide +kernel)) ⟨rfl, .inl ⟨.inl rfl, rfl⟩⟩ fun q1 H3 s3 w1 => ?_
    have bk3 := bk2.same s3
    have f13 : FrB a pa fu1 H1 H3 := (FrB.ext e2).trans (.same s3)
    -- a name that is taken
    refine ⟨Tabs.ext tb2 s3, fun H4 e4 tb4 => ?_⟩
    have bk4 := bk3.extN e4
    have w1 := e4 _ _ w1 nt
    have f14 : FrB a pa fu1 H1 H4 := f13.trans (.ext e4)
    obtain ⟨dx4, t4, ha4⟩ := ins bk4
    have off1' : ∀ {Hx : Hp}, FrB a pa fu1 H1 Hx → FrB a pa fu H Hx := fun g => fr1.swap off1 g
    have pl4 := (off1' f14).lst npa npp npf hp
    refine ⟨_, rfl, a, dx4, _, rfl, ha4, bno (by decide +kernel) (by decide +kernel) (by decide +kernel), _, rfl, pl, _, _, _, rfl, rfl, SqL.of pl4, a3, ?_⟩
    refine meth_bad (nm := "Taken") (y := .str z3) xc bk4 (by omega) f2_ok few rfl (.taken (nameB_iff.mpr (nm z3 m3)) (f2_in m3)) ⟨rfl, .inr (.inr ⟨.inl rfl, rfl⟩)⟩ fun q2 H5 s5 w2 => ?_
    have bk5 := bk4.same s5
    have w1 := s5 _ _ w1
    refine ⟨by show 2 ≤ sizeLine; decide, fun l1 nl1 => ?_⟩
    have s6 := same_new (o := HO.lst [.ref q1, .ref q2]) nl1
    have hl1 := upd_same (H := H5) (a := l1) (o := .lst [.ref q1, .ref q2])
    generalize upd H5 l1 (.lst [.ref q1, .ref q2]) = H6 at s6 hl1 ⊢
    have bk6 := bk5.same s6
    have w1 := s6 _ _ w1
    have w2 := s6 _ _ w2
    have tb6 := Tabs.ext (Tabs.ext tb4 s5) s6
    have f16 : FrB a pa fu1 H1 H6 := (f14.trans (.same s5)).trans (.same s6)
    -- a width that is none
    refine ⟨_, rfl, tb6, fun H7 e7 tb7 => ?_⟩
    have bk7 := bk6.extN e7
    have w1 := e7 _ _ w1 nt
    have w2 := e7 _ _ w2 nt
    have hl1 := e7 _ _ hl1 (fun _ z => by cases z)
    obtain ⟨dx7, t7, ha7⟩ := ins bk7
    refine ⟨_, rfl, a, dx7, _, rfl, ha7, bno (by decide +kernel) (by decide +kernel) (by decide +kernel), _, rfl, ?_⟩
    refine meth_bad (nm := "BadWidth") (y := .str "") xc bk7 (by omega) f2_ok few rfl (.width (t := "int") nsB (f2_out nsp) (.base (.int _)) (by decide) (by decide)) ⟨rfl, .inl ⟨.inr (.inl rfl), rfl⟩⟩ fun q3 H8 s8 w3 => ?_
    have bk8 := bk7.same s8
    have w1 := s8 _ _ w1
    have w2 := s8 _ _ w2
    have hl1 := s8 _ _ hl1
    -- no more tables
    refine ⟨Tabs.ext tb7 s8, fun H9 e9 tb9 => ?_⟩
    have bk9 := bk8.extN e9
    have w1 := e9 _ _ w1 nt
    have w2 := e9 _ _ w2 nt
    have w3 := e9 _ _ w3 nt
    have hl1 := e9 _ _ hl1 (fun _ z => by cases z)
    obtain ⟨dx9, t9, ha9⟩ := ins bk9
    refine ⟨_, rfl, a, dx9, _, rfl, ha9, bno (by decide +kernel) (by decide +kernel) (by decide +kernel), _, rfl, ?_⟩
    refine meth_bad (nm := "Full") (y := .str "tables") xc bk9 (by omega) f2_ok few rfl (.fullT (wd := 4) nsB (f2_out nsp) (by decide) (by decide) (by omega)) ⟨rfl, .inr (.inl ⟨rfl, rfl⟩)⟩ fun q4 H10 s10 w4 => ?_
    have w1 := s10 _ _ w1
    have w2 := s10 _ _ w2
    have w3 := s10 _ _ w3
    have hl1 := s10 _ _ hl1
    have tb10 := Tabs.ext tb9 s10
    have bk10 := bk9.same s10
    have f110 : FrB a pa fu1 H1 H10 := (((f16.trans (.ext e7)).trans (.same s8)).trans (.ext e9)).trans (.same s10)
    refine ⟨by show 2 ≤ sizeLine; decide, fun l2 nl2 => ?_⟩
    have s11 := same_new (o := HO.lst [.ref q3, .ref q4]) nl2
    refine ⟨l1, l2, _, _, rfl, rfl, s11 _ _ hl1, upd_same, by show 4 ≤ sizeLine; decide, fun l3 nl3 => ?_⟩
    have s12 := s11.trans (same_new (o := HO.lst ([.ref q1, .ref q2] ++ [.ref q3, .ref q4])) nl3)
    have hl3 := upd_same (H := upd H10 l2 (.lst [.ref q3, .ref q4])) (a := l3) (o := .lst ([.ref q1, .ref q2] ++ [.ref q3, .ref q4]))
    generalize upd (upd H10 l2 (.lst [.ref q3, .ref q4])) l3 (.lst ([.ref q1, .ref q2] ++ [.ref q3, .ref q4])) = H12 at s12 hl3 ⊢
    have f112 := f110.trans (.same s12)
    have pl12 := (off1' f112).lst npa npp npf hp
    -- compared
    refine ⟨_, rfl, by show 2 ≤ sizeLine; decide, fun t1 nt1 => ?_⟩
    have s13 := same_new (o := HO.tup [.str "BadName", .str ""]) nt1
    have v1 := upd_same (H := H12) (a := t1) (o := .tup [.str "BadName", .str ""])
    generalize upd H12 t1 (.tup [.str "BadName", .str ""]) = H13 at s13 v1 ⊢
    refine ⟨_, rfl, pl, _, _, _, rfl, rfl, SqL.of (s13 _ _ pl12), a3, by show 2 ≤ sizeLine; decide, fun t2 nt2 => ?_⟩
    have s14 := same_new (o := HO.tup [.str "Taken", .str z3]) nt2
    have v2 := upd_same (H := H13) (a := t2) (o := .tup [.str "Taken", .str z3])
    generalize upd H13 t2 (.tup [.str "Taken", .str z3]) = H14 at s14 v2 ⊢
    refine ⟨by show 2 ≤ sizeLine; decide, fun t3 nt3 => ?_⟩
    have s15 := same_new (o := HO.tup [.str "BadWidth", .str ""]) nt3
    have v3 := upd_same (H := H14) (a := t3) (o := .tup [.str "BadWidth", .str ""])
    generalize upd H14 t3 (.tup [.str "BadWidth", .str ""]) = H15 at s15 v3 ⊢
    refine ⟨by show 2 ≤ sizeLine; decide, fun t4 nt4 => ?_⟩
    have s16 := same_new (o := HO.tup [.str "Full", .str "tables"]) nt4
    have v4 := upd_same (H := H15) (a := t4) (o := .tup [.str "Full", .str "tables"])
    generalize upd H15 t4 (.tup [.str "Full", .str "tables"]) = H16 at s16 v4 ⊢
    refine ⟨by show 4 ≤ sizeLine; decide, fun l4 nl4 => ?_⟩
    have s17 := same_new (o := HO.lst [.ref t1, .ref t2, .ref t3, .ref t4]) nl4
    have v5 := upd_same (H := H16) (a := l4) (o := .lst [.ref t1, .ref t2, .ref t3, .ref t4])
    generalize upd H16 l4 (.lst [.ref t1, .ref t2, .ref t3, .ref t4]) = H17 at s17 v5 ⊢
    have s117 : Same H12 H17 := (((s13.trans s14).trans s15).trans s16).trans s17
    have lay : Lay 3 (.list [wdD ("BadName", ""), wdD ("Taken", z3), wdD ("BadWidth", ""), wdD ("Full", "tables")]) := .list fun d m => by
      have n9 : ∀ c ∈ z3.cps.toList, c < 1114112 := name_cps (nm z3 m3)
      rcases List.mem_cons.mp m with rfl | m
      · exact lay_wd (by decide +kernel) (by decide +kernel)
      rcases List.mem_cons.mp m with rfl | m
      · exact lay_wd (by decide +kernel) n9
      rcases List.mem_cons.mp m with rfl | m
      · exact lay_wd (by decide +kernel) (by decide +kernel)
      rw [List.mem_singleton.mp m]
      exact lay_wd (by decide +kernel) (by decide +kernel)
    have up : ∀ {x : Addr} {xs : List V}, H10 x = some (.tup xs) → H17 x = some (.tup xs) := fun h => s117 _ _ (s12 _ _ h)
    have d1 : Dp K H17 (.ref l3) (.list [wdD ("BadName", ""), wdD ("Taken", z3), wdD ("BadWidth", ""), wdD ("Full", "tables")]) := .lst (SqL.of (s117 _ _ hl3)) (.cons (wd_dp (up w1)) (.cons (wd_dp (up w2)) (.cons (wd_dp (up w3)) (.cons (wd_dp (up w4)) .nil))))
    have d2 : Dp K H17 (.ref l4) (.list [wdD ("BadName", ""), wdD ("Taken", z3), wdD ("BadWidth", ""), wdD ("Full", "tables")]) := .lst (SqL.of v5) (.cons (wd_dp (s17 _ _ (s16 _ _ (s15 _ _ (s14 _ _ v1))))) (.cons (wd_dp (s17 _ _ (s16 _ _ (s15 _ _ v2)))) (.cons (wd_dp (s17 _ _ (s16 _ _ v3))) (.cons (wd_dp (s17 _ _ v4)) .nil))))
    refine ⟨_, _, d1, d2, lay.shaped (by decide), lay.shaped (by decide), _, rfl, ?_⟩
    rw [SeqAt.eqv_refl _ lay.1]
    refine iteF ⟨_, rfl, ?_⟩
    have f117 := f112.trans (.same s117)
    exact k fu1 H17 past1 sp (off1' f117) off1 (Tabs.ext (Tabs.ext tb10 s12) s117) ((bk10.same s12).same s117) lp1 nsp gsp wsp
end
end VQ
namespace VQ
open PySem PySem.Spec PyProof.Rows L2 LamX
/-! ### _law_crowd_refused -/
theorem cut_mid (xs : List V) {i j : Nat} (h1 : i ≤ j) (h2 : j ≤ xs.length) : cutV xs (some (i : Int)) (some (j : Int)) = (xs.drop i).take (j - i) := by
  unfold cutV
  rw [HT.sIx_nat, HT.sIx_nat, Nat.min_eq_left h2, Nat.min_eq_left (Nat.le_trans h1 h2)]
section
variable {H : Hp}
theorem Rows.takeN {us : List V} {rs : List (List Nat)} (h : Rows H us rs) : ∀ k, Rows H (us.take k) (rs.take k) := by
  induction h with
  | nil => intro k; rw [List.take_nil, List.take_nil]; exact .nil
  | cons a t ih =>
    intro k
    cases k with
    | zero => exact .nil
    | succ k => exact .cons a (ih k)
theorem Rows.dropN {us : List V} {rs : List (List Nat)} (h : Rows H us rs) : ∀ k, Rows H (us.drop k) (rs.drop k) := by
  induction h with
  | nil => intro k; rw [List.drop_nil, List.drop_nil]; exact .nil
  | cons a t ih =>
    intro k
    cases k with
    | zero => exact .cons a t
    | succ k => exact ih k
theorem Rows.appN : ∀ {us vs : List V} {rs ss : List (List Nat)}, Rows H us rs → Rows H vs ss → Rows H (us ++ vs) (rs ++ ss)
  | _, _, _, _, .nil, h => h
  | _, _, _, _, .cons a t, h => .cons a (Rows.appN t h)
theorem Rows.getR {us : List V} {rs : List (List Nat)} (h : Rows H us rs) {i : Nat} {r : List Nat} (e : rs[i]? = some r) : ∃ a, us[i]? = some (.ref a) ∧ H a = some (.tup (r.map numV)) := by
  have li := (List.getElem?_eq_some_iff.mp e).1
  obtain ⟨a, r', e1, e2, e3⟩ := h.get (List.getElem?_eq_getElem (show i < us.length by rw [h.len]; exact li))
  have := Option.some.inj (e2.symm.trans e)
  subst this
  exact ⟨a, by rw [← e1]; exact List.getElem?_eq_getElem _, e3⟩
theorem BookN.keepN {C a pa fu bg : Addr} {zs : List Str} {f : Tbs} {past fut : List Stp} {H' : Hp} (B : Bag H bg) (np : pa ≠ bg) (nf : fu ≠ bg) (e : Keep bg H H') (h : BookN C H a pa fu zs f past fut) : BookN C H' a pa fu zs f past fut := by
  obtain ⟨l', ns, i, r, x, n', nl, hb, _⟩ := B
  have td : ∀ x o, TD o → H x = some o → H' x = some o := fun x o t q => e.1 x o (fun z => by
    rw [z, hb] at q
    rcases t with ⟨xs, rfl⟩ | ⟨kvs, rfl⟩ <;> cases q) q
  obtain ⟨dx, t, ps, us, h1, h2, h3, h4, h5, h6, n1, n2, n3⟩ := h
  exact ⟨dx, t, ps, us, e.1 _ _ (fun z => by rw [z, hb] at h1; cases h1) h1, e.1 _ _ np h2, e.1 _ _ nf h3, h4.moved td, h5.moved td, h6.moved td, n1, n2, n3⟩
/-- a tuple's things -/
def thF (H : Hp) : V → Option (List V)
  | .ref a => match H a with
    | some (.tup xs) => some xs
    | _ => none
  | _ => none
theorem thF_at {a : Addr} {xs : List V} (h : H a = some (.tup xs)) : thF H (.ref a) = some xs := by
  show (match H a with | some (.tup xs) => some xs | _ => none) = _
  rw [h]
/-- what makes a row of rows bad -/
def OddX (H : Hp) (rs : List (List Nat)) (x : V) : Prop := (∃ (t : Addr) (js : List Int), x = .ref t ∧ H t = some (.tup (js.map V.int)) ∧ js.length ≤ 2 ∧ rowB 2 (some (js.map V.int)) = false) ∨ (∃ t j r, x = .ref t ∧ rs[j]? = some r ∧ j < 40 ∧ H t = some (.tup (r.map numV)))
theorem OddX.ext {H' : Hp} {rs : List (List Nat)} {x : V} (e : ExtN H H') (h : OddX H rs x) : OddX H' rs x := by
  have nt : ∀ {xs : List V} (ps : Array Value), HO.tup xs ≠ .tbl ps := fun _ z => by cases z
  rcases h with ⟨t, js, a, b, c⟩ | ⟨t, j, r, a, b, c, d⟩
  · exact .inl ⟨t, js, a, e _ _ b nt, c⟩
  · exact .inr ⟨t, j, r, a, b, c, e _ _ d nt⟩
theorem part_int {K : PySem.W.Frag} (i : Int) : Part K H (.int i) := ⟨"int", .base (.int i), by decide, trivial⟩
theorem crowd_bad {K : PySem.W.Frag} {us : List V} {rs : List (List Nat)} {x : V} {k l : Nat} {q : Addr} (ro : Rows H us rs) (l42 : rs.length = 42) (nd : rs.Nodup) (ok : ∀ r ∈ rs, RowOk 2 r) (ox : OddX H rs x) (k40 : k ≤ 40) (hq : H q = some (.lst (us.take k ++ [x] ++ (us.drop k).take (40 - k)))) : BadRows K H 2 (.ref q) := by
  have lus : us.length = 42 := by rw [ro.len, l42]
  rcases ox with ⟨t, js, rfl, ht, lj, bad⟩ | ⟨t, j, r, rfl, hj, j40, ht⟩
  · have th : ∀ {u : V}, u ∈ us → Thing K H u (thF H u) := fun mu => by
      obtain ⟨a, r, rfl, mr, ha⟩ := ro.mem mu
      rw [thF_at ha]
      exact .tup ha (fun y my => by
        obtain ⟨n, _, rfl⟩ := List.mem_map.mp my
        exact part_int _) (by rw [List.length_map, (ok r mr).1]; decide)
    refine .row (.inl hq) (f := thF H) (fun u mu => ?_) ?_ ?_
    · rcases List.mem_append.mp mu with m | m
      · rcases List.mem_append.mp m with m | m
        · exact th (List.mem_of_mem_take m)
        · rw [List.mem_singleton.mp m, thF_at ht]
          exact .tup ht (fun y my => by
            obtain ⟨n, _, rfl⟩ := List.mem_map.mp my
            exact part_int _) (by rw [List.length_map]; omega)
      · exact th (List.mem_of_mem_drop (List.mem_of_mem_take m))
    · rw [List.length_append, List.length_append, List.length_take, List.length_take, List.length_drop]
      show _ + 1 + _ < 1000
      omega
    · exact List.all_eq_false.mpr ⟨.ref t, List.mem_append.mpr (.inl (List.mem_append.mpr (.inr List.mem_cons_self))), by rw [thF_at ht, bad]; exact Bool.false_ne_true⟩
  · refine .dup (.inl hq) (((ro.takeN k).snocX ht).appN ((ro.dropN k).takeN (40 - k))) (fun r' m => ?_) ?_ fun n => ?_
    · rcases List.mem_append.mp m with m | m
      · rcases List.mem_append.mp m with m | m
        · exact ok _ (List.mem_of_mem_take m)
        · rw [List.mem_singleton.mp m]
          exact ok _ (List.mem_of_getElem? hj)
      · exact ok _ (List.mem_of_mem_drop (List.mem_of_mem_take m))
    · rw [List.length_append, List.length_append, List.length_take, List.length_take, List.length_drop]
      show _ + 1 + _ < 60
      omega
    · have n1 := (List.nodup_append.mp n).1
      rw [snoc_nodup] at n1
      have apart := (List.nodup_append.mp n).2.2
      by_cases c : j < k
      · exact n1.2 (List.mem_of_getElem? (i := j) (by rw [List.getElem?_take, if_pos c]; exact hj))
      · refine apart r (List.mem_append.mpr (.inr List.mem_cons_self)) r (List.mem_of_getElem? (i := j - k) ?_) rfl
        rw [List.getElem?_take, if_pos (by omega), List.getElem?_drop]
        rw [show k + (j - k) = j by omega]
        exact hj
end
abbrev sLawCrowdRefused : Stmt := top 53
abbrev nLawCrowdRefused : List Str := ["_law_bag_here", "_law_book", "_law_name", "_law_rows", "_law_at", "_law_odd", "_law_bad"]
theorem scLawCrowdRefused : FnScope nLawCrowdRefused ["_law_bag_here", "_law_book", "_law_name", "_law_rows"] (defScope sLawCrowdRefused) := ⟨rfl, rfl, rfl, by decide +kernel, rfl, by decide +kernel, by decide +kernel⟩
section
variable {P : Program} {w : World} {K : PySem.W.Frag} {mg : Str → Option Value} {base : Heap} {Ta NT NR BT Uf Fu TM QE No : Addr} {C fFi fT p1 p2 p3 : Addr} {fdFi fdT : FuncData} {R : Ref} {X : RefX}
def spCrowd (C : Addr) (T : List (Addr × Str)) : Sp := fun vs H Q _ => ∃ (bg a pa fu lr : Addr) (nm : Str) (zs : List Str) (f : Tbs) (past fut : List Stp) (us : List V) (rs rs0 : List (List Nat)), vs = [.ref bg, .ref a, .str nm, .ref lr] ∧ Bag H bg ∧ BookN C H a pa fu zs f past fut ∧ past.length < 1000 ∧ TsOk f ∧ zs.length < 100 ∧ f nm = some (2, rs0) ∧ H lr = some (.lst us) ∧ Rows H us rs ∧ rs.length = 42 ∧ rs.Nodup ∧ (∀ r ∈ rs, RowOk 2 r) ∧ lr ≠ bg ∧ pa ≠ bg ∧ fu ≠ bg ∧ Tabs T H ∧
  ∀ (H1 H' : Hp), Bag H1 bg → Keep bg H H1 → ExtN H1 H' → Tabs T H' → Q (.bl true) H'
theorem has_crowd {f : Addr} {fd : FuncData} (d3 : Apart3 p1 p2 p3) (b : Blt mg) (T : BCls K C) (ER : Errs mg Ta NT NR BT Uf Fu TM QE No) (xc : XCls K Ta NT NR BT Uf Fu TM QE No R X) (aT : At K mg "_law_tried" sTried ["_law_ask"] fT fdT)
    (hP : Has P w K mg base CX0 1 "_law_pull" sPull ["_law_bag_here", "_law_size"] spPull)
    (mFi : Meth K C "fill" fFi) (bFi : Binds K fdFi ["self", "name", "rows"] []) (GbFi : FnOk P w K mg base (L2.CX P w) 9 fFi fdFi ["self", "name", "rows"] (spMeth C R X K "fill" true))
    (L : LamFun K base mg "_law_crowd_refused" "_law_crowd_refused" sLawCrowdRefused f fd p3) : FnOk P w K mg base CX0 12 f fd ["_law_bag_here", "_law_book", "_law_name", "_law_rows"] (spCrowd C (T3 p1 p2 p3)) := by
  obtain ⟨cdv2, D2⟩ := one_of aT scTried rfl (.inl rfl) (by decide) (by decide) (by decide)
  obtain ⟨fP, fdP, aP, GP⟩ := hP
  refine okT L scLawCrowdRefused (fun vs H Q E h => ?_) (fun c A outer s H vs Q E TB hr11 h => ?_)
  · obtain ⟨bg, a, pa, fu, lr, nm, zs, f, past, fut, us, rs, rs0, rfl, _⟩ := h
    rfl
  · obtain ⟨bg, a, pa, fu, lr, nm, zs, g, past, fut, us, rs, rs0, rfl, B, bk, lp, tok, few, ef, hl, ro, l42, nd, ok, nlb, npb, nfb, tb, k⟩ := h
    have hr1 : Room 1 _ := hr11.mono (by decide)
    have hr9 : Room 9 _ := hr11.mono (by decide)
    have hu : (A.deeper (PyProof.Rows.envOfC "_law_crowd_refused" (defScope sLawCrowdRefused) s.heap.objs.size f (.ref c))).units + 64 < cLine := hr11.units
    refine ⟨_, PSs.nox
    (pss_cons (ps_set (i := 4) scLawCrowdRefused.nd rfl (.inl rfl) (pe_call GP hr1 rfl aP.gl aP.fn.kp aP.bd .nil pass0 (pa_cons (pv 0) (pa_cons pe_int pa_nil))))
    (pss_cons (ps_for PassesOwn.never rfl (pi_list (pe_lst (pa_cons (pe_tup (pa_cons pe_int pa_nil)) (pa_cons (pe_tup (pa_cons pe_int (pa_cons pe_int pa_nil))) (pa_cons (pe_ix ix_list (pv 3) (pe_ifExp (pt_cmpR op_lt (pv 4) pe_int (nomark _)) (pe_op op_mod (pe_op op_add (pv 4) pe_int) pe_int) pe_int) fun _ _ => rfl) pa_nil))))) (pg_name (i := 5) scLawCrowdRefused.nd rfl (.inl rfl))
      (pss_cons (ps_set (i := 6) scLawCrowdRefused.nd rfl (.inr rfl) (pe_op op_cat (pe_op op_cat (pe_slice sl_list (pv 3) po_none (po_some (pv 4))) (pe_lst (pa_cons (pv 5) pa_nil))) (pe_slice sl_list (pv 3) (po_some (pv 4)) (po_some pe_int))))
      (pss_one (ps_if (pt_cmpR (op_neD hu) (pe_tried (k := 9) (T := T3 p1 p2 p3) (t := fun E => tMeth C "fill" (spMeth C R X K "fill" true) [] E (tVar 1) (tCons (tVar 2) (tCons (tVar 6) tNil))) rfl D2 (tried_givesW ER) (mk_plain TB rfl (by exact mem3) (by exact only3 d3) (lamS2_by (N := nLawCrowdRefused) (sc := defScope sLawCrowdRefused) (by decide +kernel) rfl rfl) rfl (fun _ _ _ _ _ => rfl)) hr11
              (fun f c' E A outer s H hr' => pe_meth (pv 1) T.cl mFi GbFi hr' bFi .nil (passes_call (takes_of rfl rfl rfl rfl) (fun _ _ _ _ h => h)) (pa_cons (pv 2) (pa_cons (pv 6) pa_nil)))) (pe_tup (pa_cons pe_str (pa_cons pe_str pa_nil))) (nomark _))
        (pss_one (ps_ret pe_bl))
        pss_nil))))
    (pss_one (ps_ret pe_bl)))), ?_⟩
    have lus : us.length = 42 := by rw [ro.len, l42]
    have nt : ∀ {xs : List V} (ps : Array Value), HO.tup xs ≠ .tbl ps := fun _ z => by cases z
    have nl : ∀ {xs : List V} (ps : Array Value), HO.lst xs ≠ .tbl ps := fun _ z => by cases z
    refine ⟨_, rfl, bg, _, rfl, B, by omega, by omega, fun d H1 d0 d1 B1 k1 => ?_⟩
    obtain ⟨n, rfl⟩ := Int.eq_ofNat_of_zero_le d0
    have n40 : n ≤ 40 := by omega
    have bk1 := bk.keepN B npb nfb k1
    have hl1 := k1.1 _ _ nlb hl
    have ro1 := ro.keep B k1
    have tb1 := Tabs.keep tb B k1
    -- three odd rows
    refine ⟨by show 1 ≤ sizeLine; decide, fun t1 nt1 => ?_⟩
    have s2 := same_new (o := HO.tup [.int 1]) nt1
    have v1 := upd_same (H := H1) (a := t1) (o := .tup [.int 1])
    generalize upd H1 t1 (.tup [.int 1]) = H2 at s2 v1 ⊢
    refine ⟨by show 2 ≤ sizeLine; decide, fun t2 nt2 => ?_⟩
    have s3 := s2.trans (same_new (o := HO.tup [.int 0, .int 32]) nt2)
    have v1 := same_new (o := HO.tup [.int 0, .int 32]) nt2 _ _ v1
    have v2 := upd_same (H := H2) (a := t2) (o := .tup [.int 0, .int 32])
    generalize upd H2 t2 (.tup [.int 0, .int 32]) = H3 at s3 v1 v2 ⊢
    refine ⟨_, rfl, _, rfl, _, _, rfl, rfl, _, rfl, ?_⟩
    by_cases c : (n : Int) < 40
    case' pos =>
      rw [decide_eq_true c]
      refine iteT ⟨_, rfl, _, _, rfl, rfl, _, _, rfl, rfl, by show (0 : Int) < 40; decide, ?_⟩
      obtain ⟨j, hj, ej⟩ : ∃ j : Nat, j < 40 ∧ ((n : Int) + 1) % 40 = (j : Int) := ⟨(n + 1) % 40, Nat.mod_lt _ (by decide), by omega⟩
    case' neg =>
      rw [decide_eq_false c]
      refine iteF ?_
      obtain ⟨j, hj, ej⟩ : ∃ j : Nat, j < 40 ∧ (0 : Int) = (j : Int) := ⟨0, by decide, rfl⟩
    all_goals
      obtain ⟨r, er⟩ : ∃ r, rs[j]? = some r := ⟨_, List.getElem?_eq_getElem (by omega)⟩
      obtain ⟨t3, e3, v3⟩ := (ro1.same s3).getR er
      refine ⟨lr, us, ((j : Nat) : Int), _, rfl, congrArg V.int ej, SqL.of (s3 _ _ hl1), atI_nat e3, by show 3 ≤ sizeLine; decide, fun lo nlo => ?_⟩
      have s4 := s3.trans (same_new (o := HO.lst [.ref t1, .ref t2, .ref t3]) nlo)
      have s34 := same_new (o := HO.lst [.ref t1, .ref t2, .ref t3]) nlo
      have hlo := upd_same (H := H3) (a := lo) (o := .lst [.ref t1, .ref t2, .ref t3])
      generalize upd H3 lo (.lst [.ref t1, .ref t2, .ref t3]) = H4 at s4 s34 hlo ⊢
      have v1 := s34 _ _ v1
      have v2 := s34 _ _ v2
      have v3 := s34 _ _ v3
      have odd : ∀ x ∈ ([.ref t1, .ref t2, .ref t3] : List V), OddX H4 rs x := fun x m => by
        rcases List.mem_cons.mp m with rfl | m
        · exact .inl ⟨t1, [1], rfl, v1, by decide, by decide +kernel⟩
        rcases List.mem_cons.mp m with rfl | m
        · exact .inl ⟨t2, [0, 32], rfl, v2, by decide, by decide +kernel⟩
        rw [List.mem_singleton.mp m]
        exact .inr ⟨t3, j, r, rfl, er, hj, v3⟩
      refine ⟨lo, rfl, ⟨_, SqL.of hlo⟩, ?_⟩
      refine for_list (xs := [.ref t1, .ref t2, .ref t3]) (fun i σ H' => ∃ (o1 o2 : Option V), σ = [some (.ref bg), some (.ref a), some (.str nm), some (.ref lr), some (.int (n : Int)), o1, o2] ∧ ExtN H4 H' ∧ Tabs (T3 p1 p2 p3) H')
        ⟨none, none, rfl, .refl _, Tabs.ext tb1 s4⟩ ?_ ?_ ?_
      · rintro i σ H' _ ⟨o1, o2, _, e, _⟩
        exact SqL.of (e _ _ hlo nl)
      · rintro i x σ H' hx ⟨o1, o2, rfl, e, tb5⟩
        have ox := (odd x (List.mem_of_getElem? hx)).ext e
        have hl5 := e _ _ (s4 _ _ hl1) nl
        have ro5 : Rows H' us rs := (ro1.same s4).moved fun y xs q => e _ _ q nt
        have bk5 := (bk1.same s4).extN e
        refine ⟨_, rfl, _, rfl, _, rfl, lr, us, rfl, SqL.of hl5, fun q1 nq1 => ?_⟩
        rw [cut_upto us (k := n) (by omega)]
        have s6 := same_new (o := HO.lst (us.take n)) nq1
        have w1 := upd_same (H := H') (a := q1) (o := .lst (us.take n))
        generalize upd H' q1 (.lst (us.take n)) = H6 at s6 w1 ⊢
        refine ⟨_, rfl, by show 1 ≤ sizeLine; decide, fun q2 nq2 => ?_⟩
        have s7 := s6.trans (same_new (o := HO.lst [x]) nq2)
        have w1 := same_new (o := HO.lst [x]) nq2 _ _ w1
        have w2 := upd_same (H := H6) (a := q2) (o := .lst [x])
        generalize upd H6 q2 (.lst [x]) = H7 at s7 w1 w2 ⊢
        refine ⟨q1, q2, _, _, rfl, rfl, w1, w2, by rw [List.length_take, sizeLine_eq]; show _ + 1 ≤ _; omega, fun q3 nq3 => ?_⟩
        have s8 := s7.trans (same_new (o := HO.lst (us.take n ++ [x])) nq3)
        have w3 := upd_same (H := H7) (a := q3) (o := .lst (us.take n ++ [x]))
        generalize upd H7 q3 (.lst (us.take n ++ [x])) = H8 at s8 w3 ⊢
        refine ⟨_, rfl, _, rfl, _, rfl, _, rfl, lr, us, rfl, SqL.of (s8 _ _ hl5), fun q4 nq4 => ?_⟩
        rw [show cutV us (some (n : Int)) (some 40) = (us.drop n).take (40 - n) from cut_mid us (i := n) (j := 40) n40 (by omega)]
        have s9 := s8.trans (same_new (o := HO.lst ((us.drop n).take (40 - n))) nq4)
        have w3 := same_new (o := HO.lst ((us.drop n).take (40 - n))) nq4 _ _ w3
        have w4 := upd_same (H := H8) (a := q4) (o := .lst ((us.drop n).take (40 - n)))
        generalize upd H8 q4 (.lst ((us.drop n).take (40 - n))) = H9 at s9 w3 w4 ⊢
        refine ⟨q3, q4, _, _, rfl, rfl, w3, w4, by rw [List.length_append, List.length_take, List.length_take, List.length_drop, sizeLine_eq]; show _ + 1 + _ ≤ _; omega, fun q5 nq5 => ?_⟩
        have s10 := s9.trans (same_new (o := HO.lst (us.take n ++ [x] ++ (us.drop n).take (40 - n))) nq5)
        have w5 := upd_same (H := H9) (a := q5) (o := .lst (us.take n ++ [x] ++ (us.drop n).take (40 - n)))
        generalize upd H9 q5 (.lst (us.take n ++ [x] ++ (us.drop n).take (40 - n))) = H10 at s10 w5 ⊢
        -- refused
        refine ⟨Tabs.ext tb5 s10, fun H11 e11 tb11 => ?_⟩
        have e5 : ExtN H' H11 := (extN_same s10).trans e11
        have bk11 := bk5.extN e5
        have w5 := e11 _ _ w5 nl
        obtain ⟨dx, t, qs, vs, ha, _⟩ := id bk11
        refine ⟨_, rfl, a, dx, _, rfl, ha, bno (by decide +kernel) (by decide +kernel) (by decide +kernel), _, rfl, _, rfl, ?_⟩
        refine meth_bad (nm := "BadRow") (y := .str "") xc bk11 lp tok few rfl (.fill ef (crowd_bad (k := n) (l := 0) (ro5.moved fun y xs q => e5 _ _ q nt) l42 nd ok (ox.ext e5) n40 w5)) ⟨rfl, .inl ⟨.inr (.inr rfl), rfl⟩⟩ fun g1 H12 s12 z1 => ?_
        refine ⟨by show 2 ≤ sizeLine; decide, fun g2 ng2 => ?_⟩
        have s13 := same_new (o := HO.tup [.str "BadRow", .str ""]) ng2
        have z2 := upd_same (H := H12) (a := g2) (o := .tup [.str "BadRow", .str ""])
        generalize upd H12 g2 (.tup [.str "BadRow", .str ""]) = H13 at s13 z2 ⊢
        have lay : Lay 2 (wdD ("BadRow", "")) := lay_wd (by decide +kernel) (by decide +kernel)
        refine ⟨_, _, wd_dp (s13 _ _ z1), wd_dp z2, lay.shaped (by decide), lay.shaped (by decide), _, rfl, ?_⟩
        rw [SeqAt.eqv_refl _ lay.1]
        refine iteF ⟨_, _, rfl, (e.trans e5).trans (extN_same (s12.trans s13)), Tabs.ext tb11 (s12.trans s13)⟩
      · rintro σ H' ⟨o1, o2, rfl, e, tb5⟩
        exact k H1 H' B1 k1 ((extN_same s4).trans e) tb5
end
end VQ
namespace VQ
open PySem PySem.Spec PyProof.Rows L2 LamX
/-! ### _law_long_way -/
theorem fset_at {f : Tbs} {nm : Str} {t : Nat × List (List Nat)} : fset f nm t nm = some t := if_pos rfl
theorem fset_ok {f : Tbs} {nm : Str} {wd : Nat} {ss : List (List Nat)} (h : TsOk f) (w1 : 1 ≤ wd) (w4 : wd ≤ 4) (l : ss.length ≤ 40) (nd : ss.Nodup) (ok : ∀ r ∈ ss, RowOk wd r) : TsOk (fset f nm (wd, ss)) := fun z t e => by
  unfold fset at e
  split at e
  · have := (Option.some.inj e).symm
    subst this
    exact ⟨w1, w4, l, nd, ok⟩
  · exact h z t e
theorem perm_back {l ss ss' : List (List Nat)} {r : List Nat} (nd : l.Nodup) (m : r ∈ l) (p : ss.Perm (l.filter fun x => decide (x ≠ r))) (p' : ss'.Perm (ss ++ [r])) : ss'.Perm l := by
  refine (p'.trans (p.append_right [r])).trans ?_
  have n1 : ((l.filter fun x => decide (x ≠ r)) ++ [r]).Nodup := snoc_nodup.mpr ⟨nd.filter _, fun q => of_decide_eq_true (List.mem_filter.mp q).2 rfl⟩
  refine (List.perm_ext_iff_of_nodup n1 nd).mpr fun x => ?_
  rw [List.mem_append, List.mem_filter, List.mem_singleton]
  constructor
  · rintro (⟨h, _⟩ | rfl)
    · exact h
    · exact m
  · intro h
    by_cases c : x = r
    · exact .inr c
    · exact .inl ⟨h, decide_eq_true c⟩
theorem len_less {l : List (List Nat)} {r : List Nat} (m : r ∈ l) : (l.filter fun x => decide (x ≠ r)).length < l.length := by
  refine List.length_filter_lt_length_iff_exists.mpr ⟨r, m, ?_⟩
  rw [decide_eq_false (fun q => q rfl)]
  exact Bool.false_ne_true
theorem eqv_two {a b c d : Int} (h1 : a = c) (h2 : b = d) : PyData.eqv (.tuple [.int a, .int b]) (.tuple [.int c, .int d]) = true := by
  subst h1 h2
  exact SeqAt.eqv_refl _ (Lay.tuple (n := 1) fun d m => by
    rcases List.mem_cons.mp m with rfl | m
    · exact Lay.int 1 _
    · rw [List.mem_singleton.mp m]
      exact Lay.int 1 _).1
theorem lay_two (a b : Int) : Lay 2 (.tuple [.int a, .int b]) := Lay.tuple (n := 1) fun d m => by
  rcases List.mem_cons.mp m with rfl | m
  · exact Lay.int 1 _
  · rw [List.mem_singleton.mp m]
    exact Lay.int 1 _
theorem dp_two {K : PySem.W.Frag} {H : Hp} {p : Addr} {a b : Int} (h : H p = some (.tup [.int a, .int b])) : Dp K H (.ref p) (.tuple [.int a, .int b]) := .tup (SqT.of h) (.cons (.int _) (.cons (.int _) .nil))
abbrev sLawLongWay : Stmt := top 54
abbrev nLawLongWay : List Str := ["_law_book", "_law_name", "_law_row", "_law_rows", "_law_ahead", "_law_k"]
theorem scLawLongWay : FnScope nLawLongWay ["_law_book", "_law_name", "_law_row"] (defScope sLawLongWay) := ⟨rfl, rfl, rfl, by decide +kernel, rfl, by decide +kernel, by decide +kernel⟩
section
variable {P : Program} {w : World} {K : PySem.W.Frag} {mg : Str → Option Value} {base : Heap} {C fTa fPu fUn fSt fRo : Addr} {dTa dPu dUn dSt dRo : FuncData} {R : Ref} {X : RefX}
def spLong (C : Addr) : Sp := fun vs H Q _ => ∃ (a pa fu rw : Addr) (nm : Str) (zs : List Str) (f : Tbs) (past : List Stp) (r : List Nat) (rs : List (List Nat)), vs = [.ref a, .str nm, .ref rw] ∧ BookN C H a pa fu zs f past [] ∧ past.length ≤ 100 ∧ TsOk f ∧ zs.length < 100 ∧ f nm = some (2, rs) ∧ r ∈ rs ∧ H rw = some (.tup (r.map numV)) ∧
  ∀ (H' : Hp) (fu' : Addr) (fut' : List Stp) (H1 : Hp), (∀ T, Tabs T H → Tabs T H') → FrB a pa fu H H' → OffF H fu fu' → BookN C H' a pa fu' zs f past fut' → fut'.length = 50 → Q (.bl true) H'
theorem has_longway (b : Blt mg) (T : BCls K C)
    (mTa : Meth K C "take" fTa) (bTa : Binds K dTa ["self", "name", "row"] []) (GbTa : FnOk P w K mg base (L2.CX P w) 9 fTa dTa ["self", "name", "row"] (spMeth C R X K "take" true)) (mPu : Meth K C "put" fPu) (bPu : Binds K dPu ["self", "name", "row"] []) (GbPu : FnOk P w K mg base (L2.CX P w) 9 fPu dPu ["self", "name", "row"] (spMeth C R X K "put" true))
    (mUn : Meth K C "undo" fUn) (bUn : Binds K dUn ["self"] []) (GbUn : FnOk P w K mg base CX0 1 fUn dUn ["self"] (spBUndo C)) (mSt : Meth K C "steps" fSt) (bSt : Binds K dSt ["self"] []) (GbSt : FnOk P w K mg base CX0 1 fSt dSt ["self"] (spBSteps C)) (mRo : Meth K C "rows" fRo) (bRo : Binds K dRo ["self", "name"] []) (GbRo : FnOk P w K mg base (L2.CX P w) 5 fRo dRo ["self", "name"] (spBRowsN C R))
    (a : AtE K mg "_law_long_way" sLawLongWay ["_law_book", "_law_name", "_law_row"]) : Has P w K mg base CX0 10 "_law_long_way" sLawLongWay ["_law_book", "_law_name", "_law_row"] (spLong C) := by
  obtain ⟨fA, fd, a⟩ := a
  refine ⟨fA, fd, a, a.fn.ok scLawLongWay (fun vs H Q E h => ?_) (fun cdv A outer s H vs Q E hr9 h => ?_)⟩
  · obtain ⟨a, pa, fu, rw, nm, zs, g, past, r, rs, rfl, _⟩ := h
    rfl
  · obtain ⟨a, pa, fu, rw, nm, zs, f, past, r, rs, rfl, bk, lp, tok, few, ef, mr, hr, k⟩ := h
    have hr1 := hr9.mono (show 1 ≤ 9 by decide)
    have hr5 := hr9.mono (show 5 ≤ 9 by decide)
    have hu : (A.deeper (PyProof.Rows.envOfC "_law_long_way" (defScope sLawLongWay) s.heap.objs.size fA cdv)).units + 64 < cLine := hr9.units
    refine ⟨_, PSs.nox
    (pss_cons (ps_par (i := 3) (j := 4) rfl scLawLongWay.nd rfl rfl (by decide) rfl rfl (pa_cons (pe_meth (pv 0) T.cl mRo GbRo hr5 bRo .nil passCX (pa_cons (pv 1) pa_nil)) (pa_cons (pe_ix ix_tup (pe_meth0 (pv 0) T.cl mSt GbSt hr1 bSt .nil pass0) pe_int fun _ _ => rfl) pa_nil)) rfl)
    (pss_cons (ps_for PassesOwn.never rfl (pi_range1 rfl b.range (pa_cons pe_int pa_nil)) (pg_name (i := 5) scLawLongWay.nd rfl (.inl rfl))
      (pss_cons (ps_expr (pe_meth (pv 0) T.cl mTa GbTa hr9 bTa .nil passCX (pa_cons (pv 1) (pa_cons (pv 2) pa_nil))))
      (pss_one (ps_expr (pe_meth (pv 0) T.cl mPu GbPu hr9 bPu .nil passCX (pa_cons (pv 1) (pa_cons (pv 2) pa_nil)))))))
    (pss_cons (ps_if (pt_cmpR (op_neD hu) (pe_meth0 (pv 0) T.cl mSt GbSt hr1 bSt .nil pass0) (pe_tup (pa_cons (pe_op op_add (pv 4) pe_int) (pa_cons pe_int pa_nil))) (nomark _))
      (pss_one (ps_ret pe_bl))
      pss_nil)
    (pss_cons (ps_for PassesOwn.never rfl (pi_range1 rfl b.range (pa_cons pe_int pa_nil)) (pg_name (i := 5) scLawLongWay.nd rfl (.inl rfl))
      (pss_one (ps_expr (pe_meth0 (pv 0) T.cl mUn GbUn hr1 bUn .nil pass0))))
    (pss_one (ps_ret (pe_and (pe_cmpR (op_eqD hu) (pe_meth (pv 0) T.cl mRo GbRo hr5 bRo .nil passCX (pa_cons (pv 1) pa_nil)) (pv 3) (nomark _)) (pe_one (pe_cmpR (op_eqD hu) (pe_meth0 (pv 0) T.cl mSt GbSt hr1 bSt .nil pass0) (pe_tup (pa_cons (pv 4) (pa_cons pe_int pa_nil))) (nomark _)))))))))), ?_⟩
    obtain ⟨w1, w4, l40, nd, ok⟩ := tok nm _ ef
    have ins : ∀ {Hx : Hp} {fx : Addr} {zx : List Str} {gx : Tbs} {px qx : List Stp}, BookN C Hx a pa fx zx gx px qx → ∃ dx t, Hx a = some (.ins C dx (bf t (.ref pa) (.ref fx))) := fun b => by
      obtain ⟨dx, t, qs, us, ha, _⟩ := b
      exact ⟨dx, _, ha⟩
    obtain ⟨dx, t, ha⟩ := ins bk
    -- the rows now, the steps now
    refine ⟨_, rfl, a, dx, _, rfl, ha, bno (by decide +kernel) (by decide +kernel) (by decide +kernel), _, rfl, a, pa, fu, zs, f, past, [], nm, rfl, bk, few, fun t0 e0 q1 us1 nq1 ro1 => ?_, fun no => (by rw [ef] at no; cases no)⟩
    have et : t0 = (2, rs) := Option.some.inj (e0.symm.trans ef)
    subst et
    have s1 := same_new (o := HO.lst us1) nq1
    have hq1 := upd_same (H := H) (a := q1) (o := .lst us1)
    have ro1 := ro1.same s1
    generalize upd H q1 (.lst us1) = H1 at s1 hq1 ro1 ⊢
    refine ⟨_, rfl, a, dx, _, rfl, s1 _ _ ha, bno (by decide +kernel) (by decide +kernel) (by decide +kernel), a, pa, fu, zs, f, past, [], rfl, bk.same s1, fun q2 nq2 => ?_⟩
    have s2 := s1.trans (same_new (o := HO.tup [.int (past.length : Int), .int (([] : List Stp).length : Int)]) nq2)
    have s12 := same_new (o := HO.tup [.int (past.length : Int), .int (([] : List Stp).length : Int)]) nq2
    have hq2 := upd_same (H := H1) (a := q2) (o := .tup [.int (past.length : Int), .int (([] : List Stp).length : Int)])
    generalize upd H1 q2 (.tup [.int (past.length : Int), .int (([] : List Stp).length : Int)]) = H2 at s2 s12 hq2 ⊢
    refine ⟨q2, _, 0, _, rfl, rfl, SqT.of hq2, rfl, _, _, rfl, ?_⟩
    have bk2 := bk.same s2
    have hq1 := s12 _ _ hq1
    have ro1 := ro1.same s12
    have hr2 := s2 _ _ hr
    -- taken and put again
    refine ⟨_, rfl, by decide, by decide, ?_⟩
    refine for_range (lo := 0) (n := 25) (fun i σ H' => ∃ (fu' : Addr) (g : Tbs) (rs' : List (List Nat)) (tl : List Stp) (o : Option V), σ = [some (.ref a), some (.str nm), some (.ref rw), some (.ref q1), some (.int (past.length : Int)), o] ∧ FrB a pa fu H2 H' ∧ OffF H2 fu fu' ∧ (∀ T, Tabs T H2 → Tabs T H') ∧ BookN C H' a pa fu' zs g (past ++ tl) [] ∧ TsOk g ∧ g nm = some (2, rs') ∧ rs'.Perm rs ∧ tl.length = 2 * i ∧ (tl ++ [(zs, g)])[0]? = some (zs, f))
      ⟨fu, f, rs, [], none, rfl, .refl, .refl, fun _ z => z, by rw [List.append_nil]; exact bk2, tok, ef, .refl _, rfl, rfl⟩ ?_ ?_
    · rintro i σ H3 hi ⟨fu3, g, rs3, tl, o, rfl, fr, off, tb, bk3, tok3, ef3, pm, ltl, hd⟩
      have hr3 := fr.tup bk2 hr2
      have mr3 : r ∈ rs3 := pm.mem_iff.mpr mr
      obtain ⟨_, _, l403, nd3, ok3⟩ := tok3 nm _ ef3
      have l403 : rs3.length ≤ 40 := l403
      obtain ⟨dx3, t3, ha3⟩ := ins bk3
      refine ⟨_, rfl, a, dx3, _, rfl, ha3, bno (by decide +kernel) (by decide +kernel) (by decide +kernel), _, rfl, _, rfl, ?_⟩
      refine meth_good (D := .take nm r) bk3 (by rw [List.length_append]; omega) tok3 rfl (.take hr3) ⟨few, fun t e => (by
        have := Option.some.inj (e.symm.trans ef3)
        subst this
        exact ok3 r mr3)⟩ (fun ans ms g4 tt fu4 H4 ob nf bk4 => ?_) fun Cc fs no => ?_
      · cases tt with
        | take h m p s =>
        rename_i wd4 rs4 ss
        have e4 := Option.some.inj (h.symm.trans ef3)
        injection e4 with e4 e5
        subst e4 e5
        have nd4 : ss.Nodup := p.nodup_iff.mpr (nd3.filter _)
        have ok4 : ∀ q ∈ ss, RowOk 2 q := fun q mq => ok3 q (List.mem_filter.mp (p.mem_iff.mp mq)).1
        have l4 : ss.length < 40 := by
          have := len_less mr3
          rw [p.length_eq]
          omega
        have tok4 : TsOk (fset g nm (2, ss)) := fset_ok tok3 (by decide) (by decide) (by omega) nd4 ok4
        have fr4 := fr.swap off (.onlyB ob)
        have off4 := OffF.new fr bk3 nf
        have hr4 := fr4.tup bk2 hr2
        obtain ⟨dx4, t4, ha4⟩ := ins bk4
        refine ⟨_, rfl, a, dx4, _, rfl, ha4, bno (by decide +kernel) (by decide +kernel) (by decide +kernel), _, rfl, _, rfl, ?_⟩
        refine meth_good (D := .put nm r) bk4 (by rw [List.length_append, List.length_append]; show _ + 1 < 1000; omega) tok4 rfl (.put hr4) ⟨few, fun t e => (by
          have := Option.some.inj (e.symm.trans fset_at)
          subst this
          exact ⟨ok3 r mr3, fun _ => l4⟩)⟩ (fun ans5 ms5 g5 tt5 fu5 H5 ob5 nf5 bk5 => ?_) fun Cc fs no => ?_
        · cases tt5 with
          | put h5 m5 p5 s5 =>
          rename_i wd5 rs5 ss5
          have e6 := Option.some.inj (h5.symm.trans fset_at)
          injection e6 with e6 e7
          subst e6 e7
          have pm5 := perm_back nd3 mr3 p p5
          refine ⟨fu5, _, ss5, tl ++ [(zs, g)] ++ [(zs, fset g nm (2, rs5))], _, rfl, fr4.swap off4 (.onlyB ob5), OffF.new fr4 bk4 nf5, fun T z => tabs_onlyB (tabs_onlyB (tb T z) bk3 ob) bk4 ob5, by rw [← List.append_assoc, ← List.append_assoc]; exact bk5, fset_ok tok4 (by show 1 ≤ 2; decide) (by show 2 ≤ 4; decide) (by rw [pm5.length_eq]; exact l403) (pm5.nodup_iff.mpr nd3) (fun q mq => ok3 q (pm5.mem_iff.mp mq)), fset_at, pm5.trans pm, ?_, ?_⟩
          · rw [List.length_append, List.length_append, ltl]
            show 2 * i + 1 + 1 = _
            omega
          · rw [List.append_assoc, List.getElem?_append_left (by rw [List.length_append]; show 0 < _ + 1; omega)]
            exact hd
        · cases no with
          | put h => rw [fset_at] at h; cases h
          | there h m5 =>
            have e6 := Option.some.inj (h.symm.trans fset_at)
            injection e6 with e6 e7
            subst e6 e7
            exact absurd rfl (of_decide_eq_true (List.mem_filter.mp (p.mem_iff.mp m5)).2)
      · cases no with
        | take h => rw [ef3] at h; cases h
        | norow h m =>
          have e4 := Option.some.inj (h.symm.trans ef3)
          injection e4 with e4 e5
          subst e4 e5
          exact absurd mr3 m
    rintro σ H3 ⟨fu3, g, rs3, tl, o, rfl, fr, off, tb, bk3, tok3, ef3, pm, ltl, hd⟩
    -- fifty steps more
    obtain ⟨dx3, t3, ha3⟩ := ins bk3
    refine ⟨_, rfl, a, dx3, _, rfl, ha3, bno (by decide +kernel) (by decide +kernel) (by decide +kernel), a, pa, fu3, zs, g, past ++ tl, [], rfl, bk3, fun q4 nq4 => ?_⟩
    have s4 := same_new (o := HO.tup [.int ((past ++ tl).length : Int), .int (([] : List Stp).length : Int)]) nq4
    have v4 := upd_same (H := H3) (a := q4) (o := .tup [.int ((past ++ tl).length : Int), .int (([] : List Stp).length : Int)])
    generalize upd H3 q4 (.tup [.int ((past ++ tl).length : Int), .int (([] : List Stp).length : Int)]) = H4 at s4 v4 ⊢
    refine ⟨_, rfl, _, _, rfl, rfl, by show 2 ≤ sizeLine; decide, fun q5 nq5 => ?_⟩
    have s5 := same_new (o := HO.tup [.int ((past.length : Int) + 50), .int 0]) nq5
    have v5 := upd_same (H := H4) (a := q5) (o := .tup [.int ((past.length : Int) + 50), .int 0])
    generalize upd H4 q5 (.tup [.int ((past.length : Int) + 50), .int 0]) = H5 at s5 v5 ⊢
    have s35 := s4.trans s5
    refine ⟨_, _, dp_two (s5 _ _ v4), dp_two v5, (lay_two _ _).shaped (by decide), (lay_two _ _).shaped (by decide), _, rfl, ?_⟩
    rw [eqv_two (a := ((past ++ tl).length : Int)) (b := (([] : List Stp).length : Int)) (c := (past.length : Int) + 50) (d := 0) (by rw [List.length_append, ltl]; omega) rfl]
    refine iteF ?_
    have bk5 := bk3.same s35
    have fr5 := fr.trans (.same s35)
    -- all taken back
    refine ⟨_, rfl, by decide, by decide, ?_⟩
    have lfull : (tl ++ [(zs, g)]).length = 51 := by rw [List.length_append, ltl]; rfl
    refine for_range (lo := 0) (n := 50) (fun i σ H' => ∃ (tl' : List Stp) (q : Stp) (fut : List Stp) (o : Option V), σ = [some (.ref a), some (.str nm), some (.ref rw), some (.ref q1), some (.int (past.length : Int)), o] ∧ FrB a pa fu H2 H' ∧ (∀ T, Tabs T H2 → Tabs T H') ∧ BookN C H' a pa fu3 q.1 q.2 (past ++ tl') fut ∧ fut.length = i ∧ tl' ++ [q] = (tl ++ [(zs, g)]).take (51 - i))
      ⟨tl, (zs, g), [], _, rfl, fr5, fun T z => Tabs.ext (tb T z) s35, bk5, rfl, by rw [List.take_of_length_le (by omega)]⟩ ?_ ?_
    · rintro i σ H6 hi ⟨tl', q, fut, o6, rfl, fr6, tb6, bk6, lf, et⟩
      obtain ⟨dx6, t6, ha6⟩ := ins bk6
      have ltl' : tl'.length = 50 - i := by
        have := congrArg List.length et
        rw [List.length_append, List.length_take, lfull] at this
        have : tl'.length + 1 = _ := this
        omega
      obtain ⟨ini, p, rfl⟩ : ∃ ini p, tl' = ini ++ [p] := by
        rcases List.eq_nil_or_concat tl' with e | ⟨ini, p, e⟩
        · rw [e] at ltl'
          have : 0 = 50 - i := ltl'
          omega
        · exact ⟨ini, p, by rw [e, List.concat_eq_append]⟩
      rw [← List.append_assoc] at bk6
      refine ⟨_, rfl, a, dx6, _, rfl, ha6, bno (by decide +kernel) (by decide +kernel) (by decide +kernel), a, pa, fu3, q.1, q.2, past ++ ini, fut, p, rfl, bk6, by omega, fun H7 ou bk7 => ?_⟩
      refine ⟨ini, p, _, _, rfl, fr6.swap off (.onlyU ou), fun T z => tabs_onlyU (tb6 T z) bk6 ou, bk7, by rw [List.length_append, lf]; rfl, ?_⟩
      have e1 := congrArg (List.take (50 - i)) et
      rw [List.take_take, Nat.min_eq_left (by omega), List.take_append_of_le_length (by omega), List.take_of_length_le (by omega)] at e1
      rw [show 51 - (i + 1) = 50 - i by omega]
      exact e1
    rintro σ H6 ⟨tl', q, fut, o6, rfl, fr6, tb6, bk6, lf, et⟩
    have eq1 : tl' ++ [q] = [(zs, f)] := by
      rw [et]
      show (tl ++ [(zs, g)]).take 1 = _
      rw [List.take_one, List.head?_eq_getElem?, hd]
      rfl
    have etl : tl' = [] := by
      have := congrArg List.length eq1
      rw [List.length_append] at this
      have : tl'.length + 1 = 1 := this
      exact List.eq_nil_of_length_eq_zero (by omega)
    subst etl
    have eq : q = (zs, f) := by injection eq1
    subst eq
    rw [List.append_nil] at bk6
    -- the rows and the steps again
    obtain ⟨dx6, t6, ha6⟩ := ins bk6
    have na : q1 ≠ a := fun z => by rw [z, s2 _ _ ha] at hq1; cases hq1
    obtain ⟨_, ⟨pv0, hpa⟩, fv0, hfu⟩ := bk.objs
    have hq6 := fr6.lst na (fun z => ?npa) (fun z => ?nfu) hq1
    case npa => exact absurd hpa (by rw [← z, nq1]; simp)
    case nfu => exact absurd hfu (by rw [← z, nq1]; simp)
    have ro6 := fr6.rows bk2 ro1
    refine ⟨_, rfl, a, dx6, _, rfl, ha6, bno (by decide +kernel) (by decide +kernel) (by decide +kernel), _, rfl, a, pa, fu3, zs, f, past, fut, nm, rfl, bk6, few, fun t0 e0 q7 us7 nq7 ro7 => ?_, fun no => (by rw [ef] at no; cases no)⟩
    have et0 : t0 = (2, rs) := Option.some.inj (e0.symm.trans ef)
    subst et0
    have s7 := same_new (o := HO.lst us7) nq7
    have hq7 := upd_same (H := H6) (a := q7) (o := .lst us7)
    have ro7 := ro7.same s7
    generalize upd H6 q7 (.lst us7) = H7 at s7 hq7 ro7 ⊢
    refine ⟨_, rfl, _, _, .lst (SqL.of hq7) ro7.dp, .lst (SqL.of (s7 _ _ hq6)) (ro6.same s7).dp, (lay_rows _).shaped (by decide), (lay_rows _).shaped (by decide), true, ?_, ?_⟩
    · rw [SeqAt.eqv_refl _ (lay_rows _).1]
    rw [if_pos rfl]
    refine ⟨_, rfl, a, dx6, _, rfl, s7 _ _ ha6, bno (by decide +kernel) (by decide +kernel) (by decide +kernel), a, pa, fu3, zs, f, past, fut, rfl, bk6.same s7, fun q8 nq8 => ?_⟩
    have s8 := same_new (o := HO.tup [.int (past.length : Int), .int (fut.length : Int)]) nq8
    have v8 := upd_same (H := H7) (a := q8) (o := .tup [.int (past.length : Int), .int (fut.length : Int)])
    generalize upd H7 q8 (.tup [.int (past.length : Int), .int (fut.length : Int)]) = H8 at s8 v8 ⊢
    refine ⟨_, rfl, by show 2 ≤ sizeLine; decide, fun q9 nq9 => ?_⟩
    have s9 := same_new (o := HO.tup [.int (past.length : Int), .int 50]) nq9
    have v9 := upd_same (H := H8) (a := q9) (o := .tup [.int (past.length : Int), .int 50])
    generalize upd H8 q9 (.tup [.int (past.length : Int), .int 50]) = H9 at s9 v9 ⊢
    have s69 := (s7.trans s8).trans s9
    refine ⟨_, _, dp_two (s9 _ _ v8), dp_two v9, (lay_two _ _).shaped (by decide), (lay_two _ _).shaped (by decide), ?_⟩
    rw [eqv_two (a := (past.length : Int)) (b := (fut.length : Int)) (c := (past.length : Int)) (d := 50) rfl (by rw [lf]; rfl)]
    have frH : FrB a pa fu H H9 := (((FrB.same s2).trans (fr6.trans (.same s69))))
    exact k H9 fu3 fut H9 (fun T z => Tabs.ext (tb6 T (Tabs.ext z s2)) s69) frH (fun y o n e nt => off y o n (s2 _ _ e) nt) (bk6.same s69) lf
end
end VQ
namespace VQ
open PySem PySem.Spec PyProof.Rows L2 LamX
/-! ### k58: its rows; rows of deeds that fill up; its model -/
def rowN (b s k : Nat) : List Nat := [(b + s * k) % 1024 / 32, (b + s * k) % 32]
def rowsN (b s n : Nat) : List (List Nat) := (List.range n).map (rowN b s)
theorem rowsN_len {b s n : Nat} : (rowsN b s n).length = n := by
  unfold rowsN
  rw [List.length_map, List.length_range]
theorem rowsN_at {b s n k : Nat} (h : k < n) : (rowsN b s n)[k]? = some (rowN b s k) := by
  unfold rowsN
  rw [List.getElem?_map, List.getElem?_range h]
  rfl
theorem rowsN_succ {b s n : Nat} : rowsN b s (n + 1) = rowsN b s n ++ [rowN b s n] := by
  unfold rowsN
  rw [List.range_succ, List.map_append]
  rfl
theorem rowN_ok {b s k : Nat} : RowOk 2 (rowN b s k) := ⟨rfl, fun n m => by
  rcases List.mem_cons.mp m with rfl | m
  · omega
  · rw [List.mem_singleton.mp m]
    omega⟩
theorem rowsN_ok {b s n : Nat} : ∀ r ∈ rowsN b s n, RowOk 2 r := fun r m => by
  obtain ⟨k, _, rfl⟩ := List.mem_map.mp m
  exact rowN_ok
theorem rowN_inj {b s i j : Nat} (hs : s = 1 ∨ s = 3 ∨ s = 25 ∨ s = 341) (hi : i < 42) (hj : j < 42) (e : rowN b s i = rowN b s j) : i = j := by
  unfold rowN at e
  injection e with e1 e
  injection e with e2 _
  rcases hs with rfl | rfl | rfl | rfl <;> omega
theorem rowsN_nodup {b s : Nat} (hs : s = 1 ∨ s = 3 ∨ s = 25 ∨ s = 341) : (rowsN b s 42).Nodup := by
  unfold rowsN
  refine List.pairwise_map.mpr ?_
  refine List.Pairwise.imp_of_mem (fun {i j} mi mj ne e => ne (rowN_inj hs (List.mem_range.mp mi) (List.mem_range.mp mj) e)) List.nodup_range
theorem take_rowsN {b s n k : Nat} (h : k ≤ n) : (rowsN b s n).take k = rowsN b s k := by
  refine List.ext_getElem? fun i => ?_
  rw [List.getElem?_take]
  by_cases c : i < k
  · rw [if_pos c, rowsN_at (by omega), rowsN_at c]
  · rw [if_neg c, List.getElem?_eq_none (by rw [rowsN_len]; omega)]
theorem rowsN_in {b s n k : Nat} (h : k < n) : rowN b s k ∈ rowsN b s n := List.mem_of_getElem? (rowsN_at h)
theorem rowsN_out {b s n k : Nat} (hs : s = 1 ∨ s = 3 ∨ s = 25 ∨ s = 341) (h : n ≤ k) (hk : k < 42) : rowN b s k ∉ rowsN b s n := fun m => by
  obtain ⟨i, mi, e⟩ := List.mem_map.mp m
  have hi := List.mem_range.mp mi
  have := rowN_inj hs (by omega) hk e
  omega
theorem filter_back {α : Type} [DecidableEq α] {l : List α} {r : α} (nd : l.Nodup) (m : r ∈ l) : ((l.filter fun x => decide (x ≠ r)) ++ [r]).Perm l := by
  have n1 : ((l.filter fun x => decide (x ≠ r)) ++ [r]).Nodup := snoc_nodup.mpr ⟨nd.filter _, fun q => of_decide_eq_true (List.mem_filter.mp q).2 rfl⟩
  refine (List.perm_ext_iff_of_nodup n1 nd).mpr fun x => ?_
  rw [List.mem_append, List.mem_filter, List.mem_singleton]
  constructor
  · rintro (⟨h, _⟩ | rfl)
    · exact h
    · exact m
  · intro h
    by_cases c : x = r
    · exact .inr c
    · exact .inl ⟨h, decide_eq_true c⟩
theorem filter_len {α : Type} [DecidableEq α] {l : List α} {r : α} (nd : l.Nodup) (m : r ∈ l) : (l.filter fun x => decide (x ≠ r)).length + 1 = l.length := by
  have := (filter_back nd m).length_eq
  rw [List.length_append] at this
  exact this
/-- puts of the rows behind the k-th -/
def PutsAt (H : Hp) (nm : Str) (b s : Nat) (vs : List V) (k : Nat) : Prop := vs.length = 41 - k ∧ ∀ j, j < 41 - k → ∃ q a, vs[j]? = some (.ref q) ∧ H q = some (.tup [.str "put", .str nm, .ref a]) ∧ H a = some (.tup ((rowN b s (k + j)).map numV))
theorem many_full {R : Ref} {X : RefX} {K : PySem.W.Frag} {H : Hp} {err : Addr → List (Str × V) → Prop} {fin : List V → List Str → Tbs → Prop} {nm : Str} {b s : Nat} {rest : List V} {zs : List Str} (hs : s = 1 ∨ s = 3 ∨ s = 25 ∨ s = 341) (few : zs.length < 100) (he : err X.fu (ysF "Full" "what" (.str "rows"))) :
    ∀ (d k : Nat) (vs told : List V) (g : Tbs) (ss : List (List Nat)), k + d = 40 → PutsAt H nm b s vs k → TsOk g → g nm = some (2, ss) → ss.Perm (rowsN b s k) → ManyX R X K H err fin (vs ++ rest) told zs g
  | 0, k, vs, told, g, ss, ek, ⟨lv, pv⟩, tok, eg, pm => by
    obtain rfl : k = 40 := by omega
    obtain ⟨q, a, e0, hq, ha⟩ := pv 0 (by decide)
    obtain ⟨v, vs', rfl⟩ : ∃ v vs', vs = v :: vs' := by
      cases vs with
      | nil => cases lv
      | cons v vs' => exact ⟨_, _, rfl⟩
    obtain rfl : v = .ref q := Option.some.inj e0
    exact .inr ⟨q, "put", _, _, _, rfl, hq, tok, few, .fullP eg ha rowN_ok (fun m => rowsN_out hs (Nat.le_refl 40) (by decide) (pm.mem_iff.mp m)) (by show 40 ≤ ss.length; rw [pm.length_eq, rowsN_len]; exact Nat.le_refl _), he⟩
  | d + 1, k, vs, told, g, ss, ek, ⟨lv, pv⟩, tok, eg, pm => by
    obtain ⟨q, a, e0, hq, ha⟩ := pv 0 (by omega)
    obtain ⟨v, vs', rfl⟩ : ∃ v vs', vs = v :: vs' := by
      cases vs with
      | nil => exact absurd (show (0 : Nat) = 41 - k from lv) (by omega)
      | cons v vs' => exact ⟨_, _, rfl⟩
    obtain rfl : v = .ref q := Option.some.inj e0
    have out : rowN b s (k + 0) ∉ ss := fun m => rowsN_out hs (Nat.le_add_right k 0) (by omega) (pm.mem_iff.mp m)
    obtain ⟨w1, w4, l40, nd, ok⟩ := tok nm _ eg
    have lss : ss.length = k := by rw [pm.length_eq, rowsN_len]
    refine .inl ⟨.put nm (rowN b s (k + 0)), ⟨q, _, rfl, hq, .put ha⟩, tok, ⟨few, fun t e => ?_⟩, fun ans ms g' tt => ?_, fun C fs no => ?_⟩
    · have := Option.some.inj (e.symm.trans eg)
      subst this
      exact ⟨rowN_ok, fun _ => by show ss.length < 40; omega⟩
    · cases tt with
      | put h m p srt =>
      rename_i wd rs ss'
      have e4 := Option.some.inj (h.symm.trans eg)
      injection e4 with e4 e5
      subst e4 e5
      have pm' : ss'.Perm (rowsN b s (k + 1)) := by
        rw [rowsN_succ]
        exact p.trans (pm.append_right _)
      refine many_full hs few he d (k + 1) vs' _ _ ss' (by omega) ⟨by have : vs'.length + 1 = 41 - k := lv; omega, fun j hj => ?_⟩ (fset_ok tok (by show 1 ≤ 2; decide) (by show 2 ≤ 4; decide) (by rw [pm'.length_eq, rowsN_len]; omega) (p.nodup_iff.mpr (snoc_nodup.mpr ⟨nd, m⟩)) fun r mr => ?_) fset_at pm'
      · obtain ⟨q', a', e', h1, h2⟩ := pv (j + 1) (by omega)
        exact ⟨q', a', e', h1, by rw [show k + 1 + j = k + (j + 1) by omega]; exact h2⟩
      · exact rowsN_ok r (pm'.mem_iff.mp mr)
    · cases no with
      | put h => rw [eg] at h; cases h
      | there h m =>
        have e4 := Option.some.inj (h.symm.trans eg)
        injection e4 with e4 e5
        subst e4 e5
        exact absurd m out
/-- pairs of a name and a table that are to be a dict -/
def PairT (H : Hp) (D : Addr) (F : Str → List (List Nat)) (z : Str) (p : Addr × Addr) : Prop := p.1 ≠ D ∧ p.2 ≠ D ∧ H p.1 = some (.tup [.str z, .ref p.2]) ∧ ∃ l us, l ≠ D ∧ H p.2 = some (.tup [.int 2, .ref l]) ∧ H l = some (.lst us) ∧ Rows H us (F z)
theorem PairT.off {H H' : Hp} {D : Addr} {F : Str → List (List Nat)} {z : Str} {p : Addr × Addr} (o : Off D H H') (nd : ∀ xs, H D ≠ some (.tup xs)) (h : PairT H D F z p) : PairT H' D F z p := by
  obtain ⟨n1, n2, h1, l, us, n3, h2, h3, h4⟩ := h
  exact ⟨n1, n2, o _ _ n1 h1, l, us, n3, o _ _ n2 h2, o _ _ n3 h3, h4.moved fun x xs e => o _ _ (fun z => nd xs (by rw [← z]; exact e)) e⟩
def PairsT (H : Hp) (D : Addr) (F : Str → List (List Nat)) (zs : List Str) (L : List (Addr × Addr)) : Prop := L.length = zs.length ∧ ∀ (i : Nat) (z : Str) (p : Addr × Addr), zs[i]? = some z → L[i]? = some p → PairT H D F z p
theorem pairsT_snoc {H : Hp} {D : Addr} {F : Str → List (List Nat)} {zs : List Str} {L : List (Addr × Addr)} {z : Str} {p : Addr × Addr} (h : PairsT H D F zs L) (hp : PairT H D F z p) : PairsT H D F (zs ++ [z]) (L ++ [p]) := by
  refine ⟨by rw [List.length_append, List.length_append, h.1]; rfl, fun i z' p' e1 e2 => ?_⟩
  by_cases c : i < zs.length
  · rw [List.getElem?_append_left c] at e1
    rw [List.getElem?_append_left (by rw [h.1]; exact c)] at e2
    exact h.2 i z' p' e1 e2
  · have li := (List.getElem?_eq_some_iff.mp e1).1
    rw [List.length_append] at li
    have ei : i = zs.length := by
      have : i < zs.length + 1 := li
      omega
    subst ei
    rw [List.getElem?_append_right (Nat.le_refl _), Nat.sub_self] at e1
    rw [List.getElem?_append_right (by rw [h.1]; exact Nat.le_refl _), h.1, Nat.sub_self] at e2
    cases e1
    cases e2
    exact hp
def kvsT : List Str → List (Addr × Addr) → List (L2.Key × V)
  | z :: zs, p :: L => (Sum.inr z, V.ref p.2) :: kvsT zs L
  | _, _ => []
theorem kvsT_keys : ∀ {zs : List Str} {L : List (Addr × Addr)}, L.length = zs.length → (kvsT zs L).map (·.1) = zs.map Sum.inr
  | [], [], _ => rfl
  | _ :: _, [], l => by cases l
  | [], _ :: _, l => by cases l
  | z :: zs, p :: L, l => by
    show Sum.inr z :: (kvsT zs L).map (·.1) = _
    rw [kvsT_keys (by simpa using l)]
    rfl
theorem kvsT_at : ∀ {zs : List Str} {L : List (Addr × Addr)} {i : Nat} {z : Str} {p : Addr × Addr}, zs[i]? = some z → L[i]? = some p → (kvsT zs L)[i]? = some (Sum.inr z, V.ref p.2)
  | z' :: zs, p' :: L, 0, z, p, e1, e2 => by cases e1; cases e2; rfl
  | z' :: zs, p' :: L, i + 1, z, p, e1, e2 => kvsT_at (zs := zs) (L := L) (i := i) e1 e2
  | [], _, i, _, _, e1, _ => by cases e1
  | _ :: _, [], i, _, _, _, e2 => by cases e2
theorem mergeT : ∀ (zs : List Str) (L : List (Addr × Addr)) (acc : List (L2.Key × V)), zs.Nodup → (∀ z ∈ zs, valV acc (Sum.inr z) = none) → mergeK acc (kvsT zs L) = acc ++ kvsT zs L
  | [], _, acc, _, _ => by
    show acc = acc ++ []
    rw [List.append_nil]
  | z :: zs, [], acc, _, _ => by
    show acc = acc ++ []
    rw [List.append_nil]
  | z :: zs, p :: L, acc, nd, no => by
    rw [List.nodup_cons] at nd
    show mergeK (putK acc (Sum.inr z) (.ref p.2)) (kvsT zs L) = _
    rw [mergeT zs L _ nd.2 fun y my => by rw [valV_put, if_neg (fun q => nd.1 (by injection q with q; rw [← q]; exact my))]; exact no y (List.mem_cons_of_mem _ my), putK_new _ (no z List.mem_cons_self), List.append_assoc]
    rfl
theorem pairedT {K : PySem.W.Frag} {H : Hp} {D : Addr} {F : Str → List (List Nat)} : ∀ {zs : List Str} {L : List (Addr × Addr)}, PairsT H D F zs L → Paired (fun p (kv : L2.Key × V) => SqT K H p [kV kv.1, kv.2]) (L.map (·.1)) (kvsT zs L)
  | [], [], _ => .nil
  | _ :: _, [], h => by cases h.1
  | [], _ :: _, h => by cases h.1
  | z :: zs, p :: L, h => .cons (SqT.of (h.2 0 z p rfl rfl).2.2.1) (pairedT ⟨by simpa using h.1, fun i z' p' e1 e2 => h.2 (i + 1) z' p' e1 e2⟩)
theorem modelT {H : Hp} {D m : Addr} {F : Str → List (List Nat)} {zs : List Str} {L : List (Addr × Addr)} (h : PairsT H D F zs L) (nd : zs.Nodup) (hm : H m = some (.dK (mergeK [] (kvsT zs L)))) : MoN (fun _ => True) H m zs (fun z => if z ∈ zs then some (2, F z) else none) := by
  rw [mergeT zs L [] nd (fun z m => rfl), List.nil_append] at hm
  have ek := kvsT_keys h.1
  refine ⟨_, hm, ek, nd, fun z => ?_⟩
  show MoO (fun _ => True) H (valV (kvsT zs L) (Sum.inr z)) (if z ∈ zs then some (2, F z) else none)
  by_cases m : z ∈ zs
  · rw [if_pos m]
    obtain ⟨i, ei⟩ := List.getElem?_of_mem m
    obtain ⟨p, ep⟩ : ∃ p, L[i]? = some p := ⟨_, List.getElem?_eq_getElem (by rw [h.1]; exact (List.getElem?_eq_some_iff.mp ei).1)⟩
    have ndk : ((kvsT zs L).map (·.1)).Nodup := by
      rw [ek]
      exact List.Pairwise.map _ (fun x y n e => n (Sum.inr.inj e)) nd
    rw [val_get ndk (kvsT_at ei ep)]
    obtain ⟨_, _, _, l, us, _, h2, h3, h4⟩ := h.2 i z p ei ep
    exact ⟨p.2, l, us, rfl, trivial, h2, h3, h4⟩
  · rw [if_neg m]
    cases ev : valV (kvsT zs L) (Sum.inr z) with
    | none => exact trivial
    | some v =>
      have m1 := valV_in ev
      rw [ek] at m1
      obtain ⟨y, my, ey⟩ := List.mem_map.mp m1
      exact absurd (by rw [← Sum.inr.inj ey]; exact my) m
end VQ
namespace VQ
open PySem PySem.Spec PyProof.Rows L2 LamX
/-! ### what k58's body keeps -/
def BagL (H : Hp) (bg l0 : Addr) : Prop := Bag H bg ∧ ∃ r, H bg = some (.lst (.ref l0 :: r))
theorem BagL.script {H : Hp} {bg l0 : Addr} (b : BagL H bg l0) : l0 ≠ bg ∧ ∃ ns, H l0 = some (.lst ns) := by
  obtain ⟨⟨ll, ns, i, rr, y, n, nl', g1, g2, g3⟩, r, h0⟩ := b
  have el : ll = l0 := by
    rw [g1] at h0
    have := HO.lst.inj (Option.some.inj h0)
    injection this with this _
    injection this
  subst el
  exact ⟨nl', _, g2⟩
theorem BagL.mk' {H : Hp} {bg : Addr} (B : Bag H bg) : ∃ l0, BagL H bg l0 := by
  obtain ⟨l, ns, i, r, x, n, nl, h1, h2, h3⟩ := id B
  exact ⟨l, B, _, h1⟩
theorem BagL.keep {H H' : Hp} {bg l0 : Addr} (b : BagL H bg l0) (B' : Bag H' bg) (k : Keep bg H H') : BagL H' bg l0 := ⟨B', k.2 _ _ b.2.choose_spec⟩
theorem BagL.move {H H' : Hp} {bg l0 : Addr} (b : BagL H bg l0) (h1 : ∀ o, H bg = some o → H' bg = some o) (h2 : ∀ o, H l0 = some o → H' l0 = some o) : BagL H' bg l0 := by
  obtain ⟨⟨l, ns, i, r, x, n, nl, e1, e2, e3⟩, rr, e0⟩ := b
  have el : l = l0 := by
    rw [e1] at e0
    have := HO.lst.inj (Option.some.inj e0)
    injection this with this _
    injection this
  subst el
  exact ⟨⟨l, ns, i, r, x, n, nl, h1 _ e1, h2 _ e2, e3⟩, rr, h1 _ e0⟩
/-- the book, the tables of code and lists that stand apart -/
structure S58 (C a pa : Addr) (T : List (Addr × Str)) (L : List (Addr × List V)) (H : Hp) (fu : Addr) (zs : List Str) (f : Tbs) (past fut : List Stp) : Prop where
  bk : BookN C H a pa fu zs f past fut
  tb : Tabs T H
  ls : ∀ p ∈ L, H p.1 = some (.lst p.2) ∧ p.1 ≠ pa ∧ p.1 ≠ fu
/-- the bag and its script lie apart -/
structure B58 (bg l0 pa : Addr) (H : Hp) (fu : Addr) : Prop where
  B : BagL H bg l0
  n1 : bg ≠ pa
  n2 : bg ≠ fu
  n3 : l0 ≠ pa
  n4 : l0 ≠ fu
section
variable {C a pa bg l0 : Addr} {T : List (Addr × Str)} {L : List (Addr × List V)} {H H' : Hp} {fu fu' : Addr} {zs ms : List Str} {f g : Tbs} {past fut past' fut' : List Stp}
theorem S58.ins (h : S58 C a pa T L H fu zs f past fut) : ∃ dx t, H a = some (.ins C dx (bf t (.ref pa) (.ref fu))) := by
  obtain ⟨dx, t, qs, us, ha, _⟩ := h.bk
  exact ⟨dx, _, ha⟩
theorem S58.ext (h : S58 C a pa T L H fu zs f past fut) (e : ExtN H H') (t : Tabs T H') : S58 C a pa T L H' fu zs f past fut :=
  ⟨h.bk.extN e, t, fun p m => ⟨e _ _ (h.ls p m).1 (fun _ z => by cases z), (h.ls p m).2⟩⟩
theorem S58.same (h : S58 C a pa T L H fu zs f past fut) (s : Same H H') : S58 C a pa T L H' fu zs f past fut := h.ext (extN_same s) (Tabs.ext h.tb s)
theorem S58.keep (h : S58 C a pa T L H fu zs f past fut) (b : B58 bg l0 pa H fu) (nL : ∀ p ∈ L, p.1 ≠ bg) (k : Keep bg H H') : S58 C a pa T L H' fu zs f past fut :=
  ⟨h.bk.keepN b.B.1 b.n1.symm b.n2.symm k, Tabs.keep h.tb b.B.1 k, fun p m => ⟨k.1 _ _ (nL p m) (h.ls p m).1, (h.ls p m).2⟩⟩
theorem S58.frb (h : S58 C a pa T L H fu zs f past fut) (fr : FrB a pa fu H H') (off : OffF H fu fu') (t : Tabs T H') (bk' : BookN C H' a pa fu' ms g past' fut') : S58 C a pa T L H' fu' ms g past' fut' := by
  obtain ⟨⟨dx, fs, h1⟩, _⟩ := h.bk.objs
  exact ⟨bk', t, fun p m => ⟨fr.lst (fun z => by
    have := (h.ls p m).1
    rw [z, h1] at this
    cases this) (h.ls p m).2.1 (h.ls p m).2.2 (h.ls p m).1, (h.ls p m).2.1, off _ _ (h.ls p m).2.2 (h.ls p m).1 (fun _ z => by cases z)⟩⟩
theorem S58.told (h : S58 C a pa T L H fu zs f past fut) (ob : OnlyB a pa H H') (nf : H fu' = none) (bk' : BookN C H' a pa fu' ms g past' fut') : S58 C a pa T L H' fu' ms g past' fut' :=
  h.frb (.onlyB ob) (OffF.new .refl h.bk nf) (tabs_onlyB h.tb h.bk ob) bk'
theorem S58.undo (h : S58 C a pa T L H fu zs f past fut) (ou : OnlyU a pa fu H H') (bk' : BookN C H' a pa fu ms g past' fut') : S58 C a pa T L H' fu ms g past' fut' :=
  h.frb (.onlyU ou) .refl (tabs_onlyU h.tb h.bk ou) bk'
theorem S58.new {l : Addr} {us : List V} (h : S58 C a pa T L H fu zs f past fut) (nl : H l = none) : S58 C a pa T ((l, us) :: L) (upd H l (.lst us)) fu zs f past fut := by
  obtain ⟨_, ⟨ps, h2⟩, qs, h3⟩ := h.bk.objs
  have h' := h.same (same_new (o := HO.lst us) nl)
  refine ⟨h'.bk, h'.tb, fun p m => ?_⟩
  rcases List.mem_cons.mp m with rfl | m
  · exact ⟨upd_same, (ne_of_none h2 nl).symm, (ne_of_none h3 nl).symm⟩
  · exact h'.ls p m
theorem S58.add {l : Addr} {us : List V} (h : S58 C a pa T L H fu zs f past fut) (hl : H l = some (.lst us)) (n1 : l ≠ pa) (n2 : l ≠ fu) : S58 C a pa T ((l, us) :: L) H fu zs f past fut := by
  refine ⟨h.bk, h.tb, fun p m => ?_⟩
  rcases List.mem_cons.mp m with rfl | m
  · exact ⟨hl, n1, n2⟩
  · exact h.ls p m
theorem S58.less {p : Addr × List V} (h : S58 C a pa T (p :: L) H fu zs f past fut) : S58 C a pa T L H fu zs f past fut := ⟨h.bk, h.tb, fun q m => h.ls q (.tail _ m)⟩
theorem S58.at0 {l : Addr} {us : List V} (h : S58 C a pa T ((l, us) :: L) H fu zs f past fut) : H l = some (.lst us) := (h.ls (l, us) (.head _)).1
theorem S58.at1 {l : Addr} {us : List V} {p : Addr × List V} (h : S58 C a pa T (p :: (l, us) :: L) H fu zs f past fut) : H l = some (.lst us) := (h.ls (l, us) (.tail _ (.head _))).1
theorem B58.move (b : B58 bg l0 pa H fu) (h1 : ∀ x xs, x ≠ pa → x ≠ fu → H x = some (.lst xs) → H' x = some (.lst xs)) (n2 : bg ≠ fu') (n4 : l0 ≠ fu') : B58 bg l0 pa H' fu' := by
  obtain ⟨nl, ns, h0⟩ := b.B.script
  obtain ⟨r, hb⟩ := b.B.2
  exact ⟨b.B.move (fun o e => by rw [hb] at e; cases e; exact h1 _ _ b.n1 b.n2 hb) (fun o e => by rw [h0] at e; cases e; exact h1 _ _ b.n3 b.n4 h0), b.n1, n2, b.n3, n4⟩
theorem B58.ext (b : B58 bg l0 pa H fu) (e : ExtN H H') : B58 bg l0 pa H' fu := b.move (fun x xs _ _ h => e _ _ h (fun _ z => by cases z)) b.n2 b.n4
theorem B58.same (b : B58 bg l0 pa H fu) (s : Same H H') : B58 bg l0 pa H' fu := b.ext (extN_same s)
theorem B58.keep (b : B58 bg l0 pa H fu) (B' : Bag H' bg) (k : Keep bg H H') : B58 bg l0 pa H' fu := ⟨b.B.keep B' k, b.n1, b.n2, b.n3, b.n4⟩
theorem B58.frb (b : B58 bg l0 pa H fu) (bk : BookN C H a pa fu zs f past fut) (fr : FrB a pa fu H H') (off : OffF H fu fu') : B58 bg l0 pa H' fu' := by
  obtain ⟨⟨dx, fs, h1⟩, _⟩ := bk.objs
  obtain ⟨nl, ns, h0⟩ := b.B.script
  obtain ⟨r, hb⟩ := b.B.2
  exact b.move (fun x xs n1 n2 h => fr.lst (fun z => by rw [z, h1] at h; cases h) n1 n2 h) (off _ _ b.n2 hb (fun _ z => by cases z)) (off _ _ b.n4 h0 (fun _ z => by cases z))
theorem B58.told (b : B58 bg l0 pa H fu) (bk : BookN C H a pa fu zs f past fut) (ob : OnlyB a pa H H') (nf : H fu' = none) : B58 bg l0 pa H' fu' := b.frb bk (.onlyB ob) (OffF.new .refl bk nf)
theorem rows_ext {us : List V} {rs : List (List Nat)} (e : ExtN H H') (h : Rows H us rs) : Rows H' us rs := h.moved fun _ _ q => e _ _ q (fun _ z => by cases z)
/-- a put of a row that is new: how it is told -/
theorem to_put {nm : Str} {r : List Nat} {rs : List (List Nat)} {ans : V} {ms : List Str} {g : Tbs} (e : f nm = some (2, rs)) (t : To f zs (.put nm r) ans ms g) : ans = .int ((rs.length + 1 : Nat) : Int) ∧ zs = ms ∧ r ∉ rs ∧ ∃ ss : List (List Nat), ss.Perm (rs ++ [r]) ∧ Sorted ss ∧ g = fset f nm (2, ss) := by
  cases t with
  | put h m p s =>
  have e4 := Option.some.inj (h.symm.trans e)
  injection e4 with e4 e5
  subst e4 e5
  exact ⟨rfl, rfl, m, _, p, s, rfl⟩
theorem to_take {nm : Str} {r : List Nat} {rs : List (List Nat)} {ans : V} {ms : List Str} {g : Tbs} (e : f nm = some (2, rs)) (t : To f zs (.take nm r) ans ms g) : ans = .int ((rs.filter fun x => decide (x ≠ r)).length : Int) ∧ zs = ms ∧ r ∈ rs ∧ ∃ ss : List (List Nat), ss.Perm (rs.filter fun x => decide (x ≠ r)) ∧ Sorted ss ∧ g = fset f nm (2, ss) := by
  cases t with
  | take h m p s =>
  have e4 := Option.some.inj (h.symm.trans e)
  injection e4 with e4 e5
  subst e4 e5
  exact ⟨rfl, rfl, m, _, p, s, rfl⟩
theorem to_fill {nm : Str} {ws rs : List (List Nat)} {ans : V} {ms : List Str} {g : Tbs} (e : f nm = some (2, rs)) (t : To f zs (.fill nm ws) ans ms g) : ans = .int (ws.length : Int) ∧ zs = ms ∧ ∃ ss : List (List Nat), ss.Perm ws ∧ Sorted ss ∧ g = fset f nm (2, ss) := by
  cases t with
  | fill h p s =>
  have e4 := Option.some.inj (h.symm.trans e)
  injection e4 with e4 e5
  subst e4 e5
  exact ⟨rfl, rfl, _, p, s, rfl⟩
theorem no_there {R : Ref} {nm : Str} {r : List Nat} {rs : List (List Nat)} {Cc : Addr} {fs : List (Str × V)} (e : f nm = some (2, rs)) (h : No R f (.put nm r) Cc fs) : Cc = R.th ∧ fs = [(("called" : Str), V.str "There")] ∧ r ∈ rs := by
  cases h with
  | put h => rw [e] at h; cases h
  | there h m =>
    have e4 := Option.some.inj (h.symm.trans e)
    injection e4 with e4 e5
    subst e4 e5
    exact ⟨rfl, rfl, m⟩
theorem no_row {R : Ref} {nm : Str} {r : List Nat} {rs : List (List Nat)} {Cc : Addr} {fs : List (Str × V)} (e : f nm = some (2, rs)) (h : No R f (.take nm r) Cc fs) : Cc = R.nr ∧ fs = zsF "NoRow" (.str nm) ∧ r ∉ rs := by
  cases h with
  | take h => rw [e] at h; cases h
  | norow h m =>
    have e4 := Option.some.inj (h.symm.trans e)
    injection e4 with e4 e5
    subst e4 e5
    exact ⟨rfl, rfl, m⟩
theorem fset_ne {t : Nat × List (List Nat)} {nm z : Str} (h : z ≠ nm) : fset f nm t z = f z := if_neg h
theorem fset_two {t u : Nat × List (List Nat)} {nm : Str} : fset (fset f nm t) nm u = fset f nm u := by
  funext z
  unfold fset
  by_cases c : z = nm
  · rw [if_pos c, if_pos c]
  · rw [if_neg c, if_neg c, if_neg c]
end
end VQ
namespace VQ
open PySem PySem.Spec PyProof.Rows L2 LamX
/-! ### k58's body -/
abbrev sLaw : Stmt := top 55
abbrev nLaw : List Str := ["_law_script", "_law_bag_here", "_law_pool_here", "_law_book", "_law_spare", "_law_name", "_law_many", "_law_step", "_law_begin", "_law_rows", "_law_model", "_law_deeds", "_law_k", "_law_words", "_law_told", "_law_one", "_law_row"]
theorem scLaw : FnScope nLaw ["_law_script"] (defScope sLaw) := ⟨rfl, rfl, rfl, by decide +kernel, rfl, by decide +kernel, by decide +kernel⟩
def spLaw3 (K : PySem.W.Frag) (p1 p2 p3 : Addr) : Sp := fun vs H Q _ => ∃ (a : Addr) (ns : List Int), vs = [.ref a] ∧ SqL K H a (ns.map V.int) ∧ ns.length ≤ 63 ∧ H p1 = some (.tbl #[]) ∧ H p2 = some (.tbl #[]) ∧ H p3 = some (.tbl #[]) ∧ ∀ H', Q (.bl true) H'
def spare8 : List Str := ["a", "b", "c", "d", "e", "f", "g", "h"]
/-- one pair more -/
theorem pair_step {K : PySem.W.Frag} {H20 H21 : Hp} {D c3 t1 t2 : Addr} {F : Str → List (List Nat)} {z : Str} {zs : List Str} {L : List (Addr × Addr)} {ws : List V} (s : Same H20 H21) (nD : H20 D = none) (hL : H21 D = some (.lst ((L.map (·.1)).map V.ref))) (pt : PairsT H21 D F zs L) (few : zs.length < 1000) (ro : Rows H21 ws (F z)) (n3 : H21 c3 = none) (n1 : upd H21 c3 (.lst ws) t1 = none) (n2 : upd (upd H21 c3 (.lst ws)) t1 (.tup [.int 2, .ref c3]) t2 = none) :
    ∃ acc : List V, (upd (upd (upd H21 c3 (.lst ws)) t1 (.tup [.int 2, .ref c3])) t2 (.tup [.str z, .ref t1])) D = some (.lst acc) ∧ acc.length < sizeLine ∧ Same H20 (upd (upd (upd (upd H21 c3 (.lst ws)) t1 (.tup [.int 2, .ref c3])) t2 (.tup [.str z, .ref t1])) D (.lst (acc ++ [.ref t2]))) ∧ ∃ L' : List (Addr × Addr), (upd (upd (upd (upd H21 c3 (.lst ws)) t1 (.tup [.int 2, .ref c3])) t2 (.tup [.str z, .ref t1])) D (.lst (acc ++ [.ref t2]))) D = some (.lst ((L'.map (·.1)).map V.ref)) ∧ PairsT (upd (upd (upd (upd H21 c3 (.lst ws)) t1 (.tup [.int 2, .ref c3])) t2 (.tup [.str z, .ref t1])) D (.lst (acc ++ [.ref t2]))) D F (zs ++ [z]) L' := by
  have s22 := same_new (o := HO.lst ws) n3
  have h3 := upd_same (H := H21) (a := c3) (o := .lst ws)
  have x3 : c3 ≠ D := (ne_of_none hL n3).symm
  generalize upd H21 c3 (.lst ws) = H22 at *
  have s23 := same_new (o := HO.tup [.int 2, .ref c3]) n1
  have h1 := upd_same (H := H22) (a := t1) (o := .tup [.int 2, .ref c3])
  have x1 : t1 ≠ D := (ne_of_none (s22 _ _ hL) n1).symm
  generalize upd H22 t1 (.tup [.int 2, .ref c3]) = H23 at *
  have s24 := same_new (o := HO.tup [.str z, .ref t1]) n2
  have h2 := upd_same (H := H23) (a := t2) (o := .tup [.str z, .ref t1])
  have x2 : t2 ≠ D := (ne_of_none (s23 _ _ (s22 _ _ hL)) n2).symm
  generalize upd H23 t2 (.tup [.str z, .ref t1]) = H24 at *
  have s2 := (s22.trans s23).trans s24
  have hL4 := s2 _ _ hL
  have nt : ∀ xs, H24 D ≠ some (.tup xs) := fun xs e => by rw [hL4] at e; cases e
  have pt4 : PairsT H24 D F zs L := ⟨pt.1, fun i z p e1 e2 => (pt.2 i z p e1 e2).off (Off.of s2) (fun xs e => by rw [hL] at e; cases e)⟩
  have p5 := pairsT_snoc (z := z) (p := (t2, t1)) pt4 ⟨x2, x1, h2, c3, ws, x3, s24 _ _ h1, s24 _ _ (s23 _ _ h3), ro.same s2⟩
  refine ⟨_, hL4, lt_line (by rw [List.length_map, List.length_map, pt.1]; exact few), same_put (s.trans s2) nD, L ++ [(t2, t1)], by rw [List.map_append, List.map_append]; exact upd_same, p5.1, fun i z p e1 e2 => (p5.2 i z p e1 e2).off Off.upd nt⟩
theorem PairsT.same {H H' : Hp} {D : Addr} {F : Str → List (List Nat)} {zs : List Str} {L : List (Addr × Addr)} {xs : List V} (s : Same H H') (hD : H D = some (.lst xs)) (pt : PairsT H D F zs L) : PairsT H' D F zs L := ⟨pt.1, fun i z p e1 e2 => (pt.2 i z p e1 e2).off (Off.of s) (fun xs e => by rw [hD] at e; cases e)⟩
section
variable {P : Program} {w : World} {K : PySem.W.Frag} {mg : Str → Option Value} {base : Heap} {Ta NT NR BT Uf Fu TM QE No : Addr}
theorem ok_law {f p1 p2 p3 C fNa fLn fRp fWi fRo fIn fFi fPu fTa fMa fUn fT fFt fCr : Addr} {fd dNa dLn dRp dWi dRo fdIn fdFi fdPu fdTa fdMa fdUn fdT fdFt fdCr : FuncData} {R : Ref} {X : RefX}
    (L : LamFun K base mg "law" "law" sLaw f fd p1) (d3 : Apart3 p1 p2 p3)
    (b : Blt mg) (ER : Errs mg Ta NT NR BT Uf Fu TM QE No) (xc : XCls K Ta NT NR BT Uf Fu TM QE No R X) (st : mg "set" = none) (di : mg "dict" = none) (so : mg "sorted" = none)
    (MB : BMeths P w K mg base C R fNa fLn fRp fWi fRo dNa dLn dRp dWi dRo) (Mb : Mk K C fIn) (gBk : mg "Book" = some (.ref C)) (bIn : Binds K fdIn ["self"] []) (GbIn : FnOk P w K mg base CX0 1 fIn fdIn ["self"] (spBInitN C))
    (mFi : Meth K C "fill" fFi) (bFi : Binds K fdFi ["self", "name", "rows"] []) (GbFi : FnOk P w K mg base (L2.CX P w) 9 fFi fdFi ["self", "name", "rows"] (spMeth C R X K "fill" true))
    (mPu : Meth K C "put" fPu) (bPu : Binds K fdPu ["self", "name", "row"] []) (GbPu : FnOk P w K mg base (L2.CX P w) 9 fPu fdPu ["self", "name", "row"] (spMeth C R X K "put" true))
    (mTa : Meth K C "take" fTa) (bTa : Binds K fdTa ["self", "name", "row"] []) (GbTa : FnOk P w K mg base (L2.CX P w) 9 fTa fdTa ["self", "name", "row"] (spMeth C R X K "take" true))
    (mMa : Meth K C "many" fMa) (bMa : Binds K fdMa ["self", "deeds"] []) (GbMa : FnOk P w K mg base (L2.CX P w) 7 fMa fdMa ["self", "deeds"] (spManyX C R X K))
    (mUn : Meth K C "undo" fUn) (bUn : Binds K fdUn ["self"] []) (GbUn : FnOk P w K mg base CX0 1 fUn fdUn ["self"] (spBUndo C))
    (aT : At K mg "_law_tried" sTried ["_law_ask"] fT fdT)
    (hB : Has P w K mg base CX0 1 "_law_bag" sBag ["_law_script"] (spBag K)) (hP : Has P w K mg base CX0 1 "_law_pull" sPull ["_law_bag_here", "_law_size"] spPull) (hO : Has P w K mg base CX0 2 "_law_of" sOf ["_law_bag_here", "_law_some"] (spOfA K)) (hPo : Has P w K mg base CX0 2 "_law_pool" sLawPool ["_law_bag_here", "_law_many", "_law_most"] spPool)
    (hSd : Has P w K mg base CX0 6 "_law_stands" sLawStands ["_law_book", "_law_model"] (spStands C)) (hLw : Has P w K mg base CX0 10 "_law_long_way" sLawLongWay ["_law_book", "_law_name", "_law_row"] (spLong C))
    (aFt : At K mg "_law_full_tables" sLawFullTables ["_law_book", "_law_pool_here"] fFt fdFt) (GFt : FnOk P w K mg base CX0 12 fFt fdFt ["_law_book", "_law_pool_here"] (spFullT C (T3 p1 p2 p3)))
    (aCr : At K mg "_law_crowd_refused" sLawCrowdRefused ["_law_bag_here", "_law_book", "_law_name", "_law_rows"] fCr fdCr) (GCr : FnOk P w K mg base CX0 12 fCr fdCr ["_law_bag_here", "_law_book", "_law_name", "_law_rows"] (spCrowd C (T3 p1 p2 p3))) :
    FnOk P w K mg base CX0 14 f fd ["_law_script"] (spLaw3 K p1 p2 p3) := by
  obtain ⟨fB, fdB, aB, GB⟩ := hB
  obtain ⟨fP, fdP, aP, GP⟩ := hP
  obtain ⟨fO, fdO, aO, GO⟩ := hO
  obtain ⟨fPo, fdPo, aPo, GPo⟩ := hPo
  obtain ⟨fSt, fdSt, aSt, GSt⟩ := hSd
  obtain ⟨fLw, fdLw, aLw, GLw⟩ := hLw
  obtain ⟨T, mNa, bNa, GbNa, mLn, bLn, GbLn, _, _, _, _, _, _, mRo, bRo, GbRo⟩ := MB
  obtain ⟨cdv2, D2⟩ := one_of aT scTried rfl (.inl rfl) (by decide) (by decide) (by decide)
  refine okT L scLaw (fun vs H Q E h => ?_) (fun c A outer s H vs Q E TB hr h => ?_)
  · obtain ⟨a, ns, rfl, _⟩ := h
    rfl
  · obtain ⟨sa, ns, rfl, hS, hlen, hP1, hP2, hP3, k⟩ := h
    have hr1 : Room 1 _ := hr.mono (by decide)
    have hr2 : Room 2 _ := hr.mono (by decide)
    have hr5 : Room 5 _ := hr.mono (by decide)
    have hr6 : Room 6 _ := hr.mono (by decide)
    have hr7 : Room 7 _ := hr.mono (by decide)
    have hr9 : Room 9 _ := hr.mono (by decide)
    have hr10 : Room 10 _ := hr.mono (by decide)
    have hr11 : Room 11 _ := hr.mono (by decide)
    have hr12 : Room 12 _ := hr.mono (by decide)
    have hu : (A.deeper (PyProof.Rows.envOfC "law" (defScope sLaw) s.heap.objs.size f (.ref c))).units + 64 < cLine := hr.units
    refine ⟨_, PSs.nox
    (pss_cons (ps_set (i := 1) scLaw.nd rfl (.inl rfl) (pe_call GB hr1 rfl aB.gl aB.fn.kp aB.bd .nil pass0 (pa_cons (pv 0) pa_nil)))
    (pss_cons (ps_asg (pe_tup (pa_cons (pe_call GPo hr2 rfl aPo.gl aPo.fn.kp aPo.bd .nil pass0 (pa_cons (pv 1) (pa_cons pe_int (pa_cons pe_int pa_nil)))) (pa_cons (pe_make0 Mb GbIn hr2 rfl gBk bIn .nil pass0) pa_nil))) (pg_tup rfl (pgs_cons (pg_name (i := 2) scLaw.nd rfl (.inl rfl)) (pgs_cons (pg_name (i := 3) scLaw.nd rfl (.inr rfl)) pgs_nil))))
    (C8.pss_cut (ps_set (i := 2) scLaw.nd rfl (.inl rfl) (pe_ifExp (pt_cmpR op_eq (pe_lenTextsL (pv 2) (by rfl) b.len (by rfl) st) pe_int (nomark _)) (pv 2) (pe_lst (pa_cons pe_str (pa_cons pe_str (pa_cons pe_str (pa_cons pe_str (pa_cons pe_str (pa_cons pe_str (pa_cons pe_str (pa_cons pe_str pa_nil)))))))))))
    (pss_cons (ps_set (i := 4) scLaw.nd rfl (.inl rfl) (pe_call GFt hr12 rfl aFt.gl aFt.fn.kp aFt.bd .nil pass0 (pa_cons (pv 3) (pa_cons (pv 2) pa_nil))))
    (pss_cons (ps_if (pt_cmpR op_eq (pv 4) pe_str (nomark _))
      (pss_one (ps_ret pe_bl))
      pss_nil)
    (pss_cons (ps_asg (pe_tup (pa_cons (pe_call GO hr2 rfl aO.gl aO.fn.kp aO.bd .nil pass0 (pa_cons (pv 1) (pa_cons (pv 2) pa_nil))) (pa_cons (pe_op op_add pe_int (pe_call GP hr1 rfl aP.gl aP.fn.kp aP.bd .nil pass0 (pa_cons (pv 1) (pa_cons pe_int pa_nil)))) pa_nil))) (pg_tup rfl (pgs_cons (pg_name (i := 5) scLaw.nd rfl (.inr rfl)) (pgs_cons (pg_name (i := 6) scLaw.nd rfl (.inr rfl)) pgs_nil))))
    (pss_cons (ps_asg (pe_tup (pa_cons (pe_call GO hr2 rfl aO.gl aO.fn.kp aO.bd .nil pass0 (pa_cons (pv 1) (pa_cons (pe_lst (pa_cons pe_int (pa_cons pe_int (pa_cons pe_int (pa_cons pe_int pa_nil))))) pa_nil))) (pa_cons (pe_call GP hr1 rfl aP.gl aP.fn.kp aP.bd .nil pass0 (pa_cons (pv 1) (pa_cons pe_int pa_nil))) pa_nil))) (pg_tup rfl (pgs_cons (pg_name (i := 7) scLaw.nd rfl (.inr rfl)) (pgs_cons (pg_name (i := 8) scLaw.nd rfl (.inr rfl)) pgs_nil))))
    (pss_cons (ps_set (i := 9) scLaw.nd rfl (.inr rfl) (pe_lc (own := [("_law_k", 12)]) (g := (gName 12)) (tt := tYes) (te := (tTup (tCons (tOp (rI CDiv fun i j => .int (i / j)) (tOp (rI (fun _ j => 0 < j) fun i j => .int (i % j)) (tOp (rI0 fun i j => .int (i + j)) (tVar 8) (tOp (rI CMul fun i j => .int (i * j)) (tVar 7) (tVar 12))) (tC (.int 1024))) (tC (.int 32))) (tCons (tOp (rI (fun _ j => 0 < j) fun i j => .int (i % j)) (tOp (rI0 fun i j => .int (i + j)) (tVar 8) (tOp (rI CMul fun i j => .int (i * j)) (tVar 7) (tVar 12))) (tC (.int 32))) tNil)))) rfl scLaw.nd (pi_range1 rfl b.range (pa_cons pe_int pa_nil)) (blkOk_by (N := nLaw) (sc := defScope sLaw) (by decide +kernel)) (fun _ _ _ _ _ => (pg_name (i := 12) scLaw.nd rfl (.inl rfl))) (fun _ _ _ _ _ => pts_nil) (fun _ _ _ _ _ => (pe_tup (pa_cons (pe_op op_fdiv (pe_op op_mod (pe_op op_add (pv 8) (pe_op op_mul (pv 7) (pv 12))) pe_int) pe_int) (pa_cons (pe_op op_mod (pe_op op_add (pv 8) (pe_op op_mul (pv 7) (pv 12))) pe_int) pa_nil))))))
    (pss_cons (ps_if (PW.pt (pw_or (pt_cmpR op_ne (pe_meth (pv 3) T.cl mFi GbFi hr9 bFi .nil passCX (pa_cons (pv 5) (pa_cons (pe_slice sl_list (pv 9) po_none (po_some (pv 6))) pa_nil))) (pv 6) (nomark _)) (pw_or1 (pt_cmpR (op_neD hu) (pe_tried (k := 9) (T := T3 p1 p2 p3) (t := fun E => tMeth C "fill" (spMeth C R X K "fill" true) [] E (tVar 3) (tCons (tVar 5) (tCons (tSl (rSlL K) (tVar 9) tNoPart (tPart (tC (.int 41)))) tNil))) rfl D2 (tried_givesW ER) (mk_plain TB rfl (by exact mem1) (by exact only1 d3) (lamS2_by (N := nLaw) (sc := defScope sLaw) (by decide +kernel) rfl rfl) rfl (fun _ _ _ _ _ => rfl)) hr11
              (fun f c' E A outer s H hr' => pe_meth (pv 3) T.cl mFi GbFi hr' bFi .nil (passes_call (takes_of rfl rfl rfl rfl) (fun _ _ _ _ h => h)) (pa_cons (pv 5) (pa_cons (pe_slice sl_list (pv 9) po_none (po_some pe_int)) pa_nil)))) (pe_tup (pa_cons pe_str (pa_cons pe_str pa_nil))) (nomark _)))))
      (pss_one (ps_ret pe_bl))
      pss_nil)
    (pss_cons (ps_set (i := 10) scLaw.nd rfl (.inl rfl) (pe_callTy (call_dictP rfl) (by rfl) di (by decide +kernel) (pa_cons (pe_lc (own := [("_law_one", 15)]) (g := (gName 15)) (tt := tYes) (te := (tTup (tCons (tVar 15) (tCons (tTup (tCons (tC (.int 2)) (tCons (tIf (tTest (tOp rEq (tVar 15) (tVar 5))) (tSl (rSlL K) (tVar 9) tNoPart (tPart (tVar 6))) (tLst tNil)) tNil))) tNil)))) rfl scLaw.nd (pi_list (pv 2)) (blkOk_by (N := nLaw) (sc := defScope sLaw) (by decide +kernel)) (fun _ _ _ _ _ => (pg_name (i := 15) scLaw.nd rfl (.inl rfl))) (fun _ _ _ _ _ => pts_nil) (fun _ _ _ _ _ => (pe_tup (pa_cons (pv 15) (pa_cons (pe_tup (pa_cons pe_int (pa_cons (pe_ifExp (pt_cmpR op_eq (pv 15) (pv 5) (nomark _)) (pe_slice sl_list (pv 9) po_none (po_some (pv 6))) (pe_lst pa_nil)) pa_nil))) pa_nil))))) pa_nil)))
    (pss_cons (ps_set (i := 11) scLaw.nd rfl (.inr rfl) (pe_op op_cat (pe_lc (own := [("_law_row", 16)]) (g := (gName 16)) (tt := tYes) (te := (tTup (tCons (tC (.str "put")) (tCons (tVar 5) (tCons (tVar 16) tNil))))) rfl scLaw.nd (pi_list (pe_slice sl_list (pv 9) (po_some (pv 6)) (po_some pe_int))) (blkOk_by (N := nLaw) (sc := defScope sLaw) (by decide +kernel)) (fun _ _ _ _ _ => (pg_name (i := 16) scLaw.nd rfl (.inl rfl))) (fun _ _ _ _ _ => pts_nil) (fun _ _ _ _ _ => (pe_tup (pa_cons pe_str (pa_cons (pv 5) (pa_cons (pv 16) pa_nil)))))) (pe_lst (pa_cons (pe_tup (pa_cons pe_str (pa_cons (pv 5) (pa_cons (pe_ix ix_list (pv 9) pe_int fun _ _ => rfl) pa_nil)))) pa_nil))))
    (pss_cons (ps_if (PW.pt (pw_or (pt_cmpR (op_neD hu) (pe_tried (k := 7) (T := T3 p1 p2 p3) (t := fun E => tMeth C "many" (spManyX C R X K) [] E (tVar 3) (tCons (tVar 11) tNil)) rfl D2 (tried_givesW ER) (mk_plain TB rfl (by exact mem1) (by exact only1 d3) (lamS2_by (N := nLaw) (sc := defScope sLaw) (by decide +kernel) rfl rfl) rfl (fun _ _ _ _ _ => rfl)) hr9
              (fun f c' E A outer s H hr' => pe_meth (pv 3) T.cl mMa GbMa hr' bMa .nil (passes_call (takes_of rfl rfl rfl rfl) (fun _ _ _ _ h => h)) (pa_cons (pv 11) pa_nil))) (pe_tup (pa_cons pe_str (pa_cons pe_str pa_nil))) (nomark _)) (pw_or1 (pt_not (pt_val (pe_call GSt hr6 rfl aSt.gl aSt.fn.kp aSt.bd .nil pass0 (pa_cons (pv 3) (pa_cons (pv 10) pa_nil))))))))
      (pss_one (ps_ret pe_bl))
      pss_nil)
    (pss_cons (ps_if (PW.pt (pw_or (pt_not (pt_val (pe_call GCr hr12 rfl aCr.gl aCr.fn.kp aCr.bd .nil pass0 (pa_cons (pv 1) (pa_cons (pv 3) (pa_cons (pv 5) (pa_cons (pv 9) pa_nil))))))) (pw_or1 (pt_not (pt_val (pe_call GLw hr10 rfl aLw.gl aLw.fn.kp aLw.bd .nil pass0 (pa_cons (pv 3) (pa_cons (pv 5) (pa_cons (pe_ix ix_list (pv 9) pe_int fun _ _ => rfl) pa_nil)))))))))
      (pss_one (ps_ret pe_bl))
      pss_nil)
    (pss_cons (ps_for PassesOwn.never rfl (pi_range2 rfl b.range (pa_cons (pv 6) (pa_cons pe_int pa_nil))) (pg_name (i := 12) scLaw.nd rfl (.inl rfl))
      (pss_one (ps_if (pt_cmpR op_ne (pe_meth (pv 3) T.cl mPu GbPu hr9 bPu .nil passCX (pa_cons (pv 5) (pa_cons (pe_ix ix_list (pv 9) (pv 12) fun _ _ => rfl) pa_nil))) (pe_op op_add (pv 12) pe_int) (nomark _))
        (pss_one (ps_ret pe_bl))
        pss_nil)))
    (pss_cons (ps_set (i := 13) scLaw.nd rfl (.inl rfl) (pe_lst (pa_cons (pe_tried (k := 9) (T := T3 p1 p2 p3) (t := fun E => tMeth C "put" (spMeth C R X K "put" true) [] E (tVar 3) (tCons (tVar 5) (tCons (tOp (rIxL K) (tVar 9) (tC (.int 5))) tNil))) rfl D2 (tried_givesW ER) (mk_plain TB rfl (by exact mem1) (by exact only1 d3) (lamS2_by (N := nLaw) (sc := defScope sLaw) (by decide +kernel) rfl rfl) rfl (fun _ _ _ _ _ => rfl)) hr11
              (fun f c' E A outer s H hr' => pe_meth (pv 3) T.cl mPu GbPu hr' bPu .nil (passes_call (takes_of rfl rfl rfl rfl) (fun _ _ _ _ h => h)) (pa_cons (pv 5) (pa_cons (pe_ix ix_list (pv 9) pe_int fun _ _ => rfl) pa_nil)))) (pa_cons (pe_tried (k := 9) (T := T3 p1 p2 p3) (t := fun E => tMeth C "put" (spMeth C R X K "put" true) [] E (tVar 3) (tCons (tVar 5) (tCons (tOp (rIxL K) (tVar 9) (tC (.int 41))) tNil))) rfl D2 (tried_givesW ER) (mk_dflt (y := "_law_a") TB rfl (by exact mem1) (by exact only1 d3) (lamS2_by (N := nLaw) (sc := defScope sLaw) (by decide +kernel) rfl rfl) rfl rfl rfl (fun _ _ _ _ _ _ _ => ⟨_, rfl, rfl⟩)) hr11
              (fun f c' E A outer s H hr' => pe_meth (pv 3) T.cl mPu GbPu hr' bPu .nil (passes_call (takes_of rfl rfl rfl rfl) (fun _ _ _ _ h => h)) (pa_cons (pv 5) (pa_cons (pe_ix ix_list (pv 9) pe_int fun _ _ => rfl) pa_nil)))) pa_nil))))
    (pss_cons (ps_set (i := 13) scLaw.nd rfl (.inl rfl) (pe_op op_cat (pv 13) (pe_lst (pa_cons (pe_tried (k := 9) (T := T3 p1 p2 p3) (t := fun E => tMeth C "put" (spMeth C R X K "put" true) [] E (tVar 3) (tCons (tVar 5) (tCons (tTup (tCons (tC (.int 1)) (tCons (tC (.int 32)) tNil))) tNil))) rfl D2 (tried_givesW ER) (mk_plain TB rfl (by exact mem1) (by exact only1 d3) (lamS2_by (N := nLaw) (sc := defScope sLaw) (by decide +kernel) rfl rfl) rfl (fun _ _ _ _ _ => rfl)) hr11
              (fun f c' E A outer s H hr' => pe_meth (pv 3) T.cl mPu GbPu hr' bPu .nil (passes_call (takes_of rfl rfl rfl rfl) (fun _ _ _ _ h => h)) (pa_cons (pv 5) (pa_cons (pe_tup (pa_cons pe_int (pa_cons pe_int pa_nil))) pa_nil)))) (pa_cons (pe_tried (k := 9) (T := T3 p1 p2 p3) (t := fun E => tMeth C "take" (spMeth C R X K "take" true) [] E (tVar 3) (tCons (tVar 5) (tCons (tOp (rIxL K) (tVar 9) (tC (.int 41))) tNil))) rfl D2 (tried_givesW ER) (mk_dflt (y := "_law_a") TB rfl (by exact mem1) (by exact only1 d3) (lamS2_by (N := nLaw) (sc := defScope sLaw) (by decide +kernel) rfl rfl) rfl rfl rfl (fun _ _ _ _ _ _ _ => ⟨_, rfl, rfl⟩)) hr11
              (fun f c' E A outer s H hr' => pe_meth (pv 3) T.cl mTa GbTa hr' bTa .nil (passes_call (takes_of rfl rfl rfl rfl) (fun _ _ _ _ h => h)) (pa_cons (pv 5) (pa_cons (pe_ix ix_list (pv 9) pe_int fun _ _ => rfl) pa_nil)))) pa_nil)))))
    (pss_cons (ps_if (PW.pt (pw_or (pt_cmpR (op_neD hu) (pv 13) (pe_lst (pa_cons (pe_tup (pa_cons pe_str (pa_cons pe_str pa_nil))) (pa_cons (pe_tup (pa_cons pe_str (pa_cons pe_str pa_nil))) (pa_cons (pe_tup (pa_cons pe_str (pa_cons pe_str pa_nil))) (pa_cons (pe_tup (pa_cons pe_str (pa_cons (pv 5) pa_nil))) pa_nil))))) (nomark _)) (pw_or1 (pt_cmpR op_ne (pe_callB call_len_seq (by rfl) b.len PySem.boot_len (pa_cons (pe_meth (pv 3) T.cl mRo GbRo hr5 bRo .nil passCX (pa_cons (pv 5) pa_nil)) pa_nil)) pe_int (nomark _)))))
      (pss_one (ps_ret pe_bl))
      pss_nil)
    (pss_cons (ps_set (i := 14) scLaw.nd rfl (.inl rfl) (pe_meth (pv 3) T.cl mMa GbMa hr7 bMa .nil passCX (pa_cons (pe_lst (pa_cons (pe_tup (pa_cons pe_str (pa_cons (pv 5) (pa_cons (pe_ix ix_list (pv 9) pe_int fun _ _ => rfl) pa_nil)))) (pa_cons (pe_tup (pa_cons pe_str (pa_cons (pv 5) (pa_cons (pe_ix ix_list (pv 9) pe_int fun _ _ => rfl) pa_nil)))) (pa_cons (pe_tup (pa_cons pe_str (pa_cons (pe_ix ix_list (pv 2) pe_int fun _ _ => rfl) pa_nil))) (pa_cons (pe_tup (pa_cons pe_str (pa_cons (pv 4) (pa_cons pe_int pa_nil)))) pa_nil))))) pa_nil)))
    (pss_cons (ps_if (PW.pt (pw_or (PW.pt (pw_and (pt_cmpR (op_neD hu) (pv 14) (pe_lst (pa_cons pe_int (pa_cons pe_int (pa_cons pe_non (pa_cons pe_non pa_nil))))) (nomark _)) (pw_and1 (pt_cmpR op_ne (pv 5) (pe_ix ix_list (pv 2) pe_int fun _ _ => rfl) (nomark _))))) (pw_or1 (pt_cmpR op_ne (pe_callB (cr_ownL GbLn mLn.at_ mLn.fn bLn hr2 pass0) (by rfl) b.len PySem.boot_len (pa_cons (pv 3) pa_nil)) pe_int (nomark _)))))
      (pss_one (ps_ret pe_bl))
      pss_nil)
    (pss_cons (ps_expr (pe_meth0 (pv 3) T.cl mUn GbUn hr1 bUn .nil pass0))
    (pss_one (ps_ret (pe_and (pe_cmpR (op_eqD hu) (pe_meth (pv 3) T.cl mRo GbRo hr5 bRo .nil passCX (pa_cons (pv 5) pa_nil)) (pe_callB cr_sortW (by rfl) so (by decide +kernel) (pa_cons (pe_slice sl_list (pv 9) po_none (po_some pe_int)) pa_nil)) (nomark _)) (pe_one (pe_cmpR (op_eqD hu) (pe_meth0 (pv 3) T.cl mNa GbNa hr1 bNa .nil pass0) (pe_callB cr_sortedS (by rfl) so (by decide +kernel) (pa_cons (pv 2) pa_nil)) (nomark _)))))))))))))))))))))))))), ?_⟩
    refine ⟨_, rfl, sa, ns, rfl, hS, hlen, fun bg H1 nb B1 s1 => ?_⟩
    have tb1 : Tabs (T3 p1 p2 p3) H1 := tabs_nil (s1 _ _ hP1) (s1 _ _ hP2) (s1 _ _ hP3)
    -- the pool and the book
    refine ⟨_, rfl, bg, 8, 8, rfl, B1, by decide, by decide, by decide, fun pl zs H2 lz nz ap npl hpl B2 K2 => ?_⟩
    have tb2 := Tabs.keep tb1 B1 K2
    obtain ⟨l0, BL2⟩ := BagL.mk' B2
    intro a dx na ndx nex
    refine ⟨a, dx, rfl, upd_same, fun pa fu H3 keep npa nfu bk3 => ⟨rfl, ?_⟩⟩
    have new2 : ∀ {y o}, H2 y = some o → (upd (upd H2 dx (.own a)) a (.ins C dx [])) y = some o := fun {y o} e => by rw [upd_ne (ne_of_none e na), upd_ne (ne_of_none e ndx)]; exact e
    have s23 : Same H2 H3 := fun y o e => keep y o (ne_of_none e na) (new2 e)
    have out : ∀ {y o}, H2 y = some o → y ≠ pa ∧ y ≠ fu := fun {y o} e => ⟨ne_of_none (new2 e) npa, ne_of_none (new2 e) nfu⟩
    obtain ⟨nl0, nss, hl0⟩ := BL2.script
    obtain ⟨ob, hb2⟩ := BL2.2
    have b3 : B58 bg l0 pa H3 fu := ⟨BL2.move (fun _ h => s23 _ _ h) (fun _ h => s23 _ _ h), (out hb2).1, (out hb2).2, (out hl0).1, (out hl0).2⟩
    have st3 : S58 C a pa (T3 p1 p2 p3) [(pl, zs.map V.str)] H3 fu [] (fun _ => none) [] [] := ⟨bk3, Tabs.ext tb2 s23, fun p m => by
      rw [List.mem_singleton.mp m]
      exact ⟨s23 _ _ hpl, (out hpl).1, (out hpl).2⟩⟩
    have nlbg : pl ≠ bg := B1.ne npl
    refine ⟨by show 2 ≤ sizeLine; decide, fun t nt => ?_⟩
    have s4 := same_new (o := HO.tup [.ref pl, .ref a]) nt
    have ht4 := upd_same (H := H3) (a := t) (o := .tup [.ref pl, .ref a])
    have st4 := st3.same s4
    have b4 := b3.same s4
    generalize upd H3 t (.tup [.ref pl, .ref a]) = H4 at s4 ht4 st4 b4 ⊢
    refine ⟨t, _, rfl, SqT.of ht4, rfl, _, _, rfl, _, _, rfl, rfl, ?_⟩
    -- eight unlike names
    refine ⟨fun σ' H' => ∃ (q : Addr) (ps : List Str), σ' = [some (.ref sa), some (.ref bg), some (.ref q), some (.ref a), none, none, none, none, none, none, none, none, none, none, none, none, none] ∧ S58 C a pa (T3 p1 p2 p3) [(q, ps.map V.str)] H' fu [] (fun _ => none) [] [] ∧ B58 bg l0 pa H' fu ∧ q ≠ bg ∧ ps.length = 8 ∧ ps.Nodup ∧ (∀ z ∈ ps, NameS 8 z) ∧ ¬ (("ninth" : Str) ∈ ps ∧ ("tenth" : Str) ∈ ps), ?_, ?_⟩
    · refine ⟨_, rfl, pl, zs, rfl, SqL.of st4.at0, by omega, fun c hc => ⟨rfl, _, rfl, ?_⟩⟩
      by_cases nd : zs.Nodup
      · rw [decide_eq_true (congrArg V.int (show (c : Int) = 8 by have := hc.mpr nd; omega))]
        exact iteT ⟨_, rfl, pl, zs, rfl, st4, b4, nlbg, lz, nd, nz, ap⟩
      · rw [decide_eq_false (fun e => nd (hc.mp (by have := V.int.inj e; omega)))]
        refine iteF ⟨by show 8 ≤ sizeLine; decide, fun q nq => ?_⟩
        refine ⟨q, spare8, rfl, ?_, b4.same (same_new nq), ?_, rfl, by decide +kernel, ?_, by decide +kernel⟩
        · have := (st4.less.new (us := spare8.map V.str) nq)
          exact this
        · exact b4.B.1.ne nq
        · exact fun z m => by
            have key : ∀ z ∈ spare8, nameB 8 z = true := by decide +kernel
            exact nameB_iff.mp (key z m)
    rintro _ H5 ⟨q, ps, rfl, st5, b5, nqb, l8, nd, nm, apart⟩
    have nms := nm
    clear st4 b4 st3 b3 s4 ht4 hpl hb2 hl0 nl0 lz nz ap npl nlbg
    -- full tables
    obtain ⟨hq5, nqp, nqf⟩ := st5.ls _ (.head _)
    obtain ⟨dx5, t5, ha5⟩ := st5.ins
    refine ⟨_, rfl, _, rfl, a, pa, fu, q, ps, rfl, st5.bk, hq5, (fun e => by rw [show q = a from e, ha5] at hq5; cases hq5), nqp, nqf, l8, nd, nm, apart, st5.tb, fun fu6 H6 past sp fr6 off6 tb6 bk6 lp nsp gsp wsp => ?_⟩
    have st6 := st5.frb fr6 off6 tb6 bk6
    have b6 := b5.frb st5.bk fr6 off6
    clear st5 b5 hq5 nqp nqf ha5
    have nsp0 : sp ≠ "" := fun e => by
      rcases wsp with h | h <;> rw [h] at e <;> exact absurd e (by decide +kernel)
    refine ⟨_, rfl, rfl, _, rfl, ?_⟩
    rw [decide_eq_false (fun e => nsp0 (V.str.inj e))]
    refine iteF ?_
    -- a name, how many rows
    obtain ⟨hq6, _, _⟩ := st6.ls _ (.head _)
    refine ⟨_, rfl, _, rfl, bg, q, _, rfl, b6.B.1, .inl hq6, nqb, by rw [List.length_map]; omega, by rw [List.length_map]; omega, fun v H7 mv B7 K7 => ?_⟩
    obtain ⟨z0, mz0, rfl⟩ := List.mem_map.mp mv
    have nL : ∀ p ∈ [(q, ps.map V.str)], p.1 ≠ bg := fun p m => by rw [List.mem_singleton.mp m]; exact nqb
    have st7 := st6.keep b6 nL K7
    have b7 := b6.keep B7 K7
    refine ⟨_, rfl, bg, 3, rfl, b7.B.1, by decide, by decide, fun d8 H8 e0 e3 B8 K8 => ⟨38, d8, rfl, rfl, ?_⟩⟩
    obtain ⟨many, em, lo, hi⟩ : ∃ many : Nat, (38 : Int) + d8 = (many : Int) ∧ 38 ≤ many ∧ many ≤ 40 := ⟨(38 + d8).toNat, by omega, by omega, by omega⟩
    have st8 := st7.keep b7 nL K8
    have b8 := b7.keep B8 K8
    refine ⟨by show 2 ≤ sizeLine; decide, fun t nt => ?_⟩
    have s9 := same_new (o := HO.tup [.str z0, .int (38 + d8)]) nt
    have ht9 := upd_same (H := H8) (a := t) (o := .tup [.str z0, .int (38 + d8)])
    have st9 := st8.same s9
    have b9 := b8.same s9
    generalize upd H8 t (.tup [.str z0, .int (38 + d8)]) = H9 at s9 ht9 st9 b9 ⊢
    rw [em] at ht9
    refine ⟨t, _, rfl, SqT.of ht9, rfl, _, _, rfl, _, _, rfl, rfl, ?_⟩
    clear st6 b6 hq6 st7 b7 st8 b8 s9 ht9
    -- a step and a beginning
    refine ⟨_, rfl, by show 4 ≤ sizeLine; decide, fun ql nql => ?_⟩
    have sL := same_new (o := HO.lst [.int 1, .int 3, .int 25, .int 341]) nql
    have b10 := b9.same sL
    have st10 := st9.same sL
    refine ⟨bg, ql, _, rfl, b10.B.1, .inl upd_same, b9.B.1.ne nql, by show 1 ≤ 4; decide, by show 4 < 1000; decide, fun v H11 mv B11 K11 => ?_⟩
    obtain ⟨stp, rfl, hs⟩ : ∃ stp : Nat, v = .int (stp : Int) ∧ (stp = 1 ∨ stp = 3 ∨ stp = 25 ∨ stp = 341) := by
      simp only [List.mem_cons, List.not_mem_nil, or_false] at mv
      rcases mv with rfl | rfl | rfl | rfl
      · exact ⟨1, rfl, .inl rfl⟩
      · exact ⟨3, rfl, .inr (.inl rfl)⟩
      · exact ⟨25, rfl, .inr (.inr (.inl rfl))⟩
      · exact ⟨341, rfl, .inr (.inr (.inr rfl))⟩
    have st11 := st10.keep b10 nL K11
    have b11 := b10.keep B11 K11
    refine ⟨_, rfl, bg, 1024, rfl, b11.B.1, by decide, by decide, fun d12 H12 e0 e4 B12 K12 => ?_⟩
    obtain ⟨beg, rfl⟩ := Int.eq_ofNat_of_zero_le e0
    have st12 := st11.keep b11 nL K12
    have b12 := b11.keep B12 K12
    refine ⟨by show 2 ≤ sizeLine; decide, fun t nt => ?_⟩
    have s13 := same_new (o := HO.tup [.int (stp : Int), .int (beg : Int)]) nt
    have ht13 := upd_same (H := H12) (a := t) (o := .tup [.int (stp : Int), .int (beg : Int)])
    have st13 := st12.same s13
    have b13 := b12.same s13
    generalize upd H12 t (.tup [.int (stp : Int), .int (beg : Int)]) = H13 at s13 ht13 st13 b13 ⊢
    refine ⟨t, _, rfl, SqT.of ht13, rfl, _, _, rfl, _, _, rfl, rfl, ?_⟩
    clear st9 b9 sL st10 b10 st11 b11 st12 b12 s13 ht13
    -- the rows
    refine ⟨_, rfl, by decide, by decide, fun lr nlr => ?_⟩
    have nlbg := b13.B.1.ne nlr
    obtain ⟨_, ⟨pv13, hpa13⟩, fv13, hfu13⟩ := st13.bk.objs
    have nlp : lr ≠ pa := (ne_of_none hpa13 nlr).symm
    have nlf : lr ≠ fu6 := (ne_of_none hfu13 nlr).symm
    refine lc_range (lo := 0) (n := 42) (fun i H' => Same H13 H' ∧ ∃ acc : List V, H' lr = some (.lst acc) ∧ Rows H' acc (rowsN beg stp i)) ⟨same_new nlr, [], upd_same, .nil⟩ ?_ ?_
    · rintro i H14 hi ⟨s14, acc, hacc, ro⟩
      refine ⟨rfl, yes_turn ?_⟩
      have q1 : ∀ i : Int, CMul (stp : Int) i := fun i => .inl ⟨by omega, by omega⟩
      refine ⟨_, rfl, _, rfl, _, rfl, _, _, rfl, rfl, q1 _, _, _, rfl, rfl, _, _, rfl, rfl, by show (0 : Int) < 1024; decide, _, _, rfl, rfl, ⟨by decide, by decide⟩, ?_⟩
      refine ⟨_, rfl, _, rfl, _, rfl, _, _, rfl, rfl, q1 _, _, _, rfl, rfl, _, _, rfl, rfl, by show (0 : Int) < 32; decide, by show 2 ≤ sizeLine; decide, fun t nt => ?_⟩
      have et : [V.int (((beg : Int) + (stp : Int) * (0 + (i : Int))) % 1024 / 32), V.int (((beg : Int) + (stp : Int) * (0 + (i : Int))) % 32)] = (rowN beg stp i).map numV := by
        show _ = [V.int (((beg + stp * i) % 1024 / 32 : Nat) : Int), V.int (((beg + stp * i) % 32 : Nat) : Int)]
        rw [show (0 : Int) + (i : Int) = (i : Int) by omega, Int.natCast_ediv, Int.natCast_emod, Int.natCast_emod, Int.natCast_add, Int.natCast_mul]
        rfl
      have s15 := same_new (o := HO.tup [V.int (((beg : Int) + (stp : Int) * (0 + (i : Int))) % 1024 / 32), V.int (((beg : Int) + (stp : Int) * (0 + (i : Int))) % 32)]) nt
      have ht15 := upd_same (H := H14) (a := t) (o := .tup [V.int (((beg : Int) + (stp : Int) * (0 + (i : Int))) % 1024 / 32), V.int (((beg : Int) + (stp : Int) * (0 + (i : Int))) % 32)])
      generalize upd H14 t (.tup [V.int (((beg : Int) + (stp : Int) * (0 + (i : Int))) % 1024 / 32), V.int (((beg : Int) + (stp : Int) * (0 + (i : Int))) % 32)]) = H15 at s15 ht15 ⊢
      rw [et] at ht15
      have ha15 := s15 _ _ hacc
      refine ⟨_, ha15, lt_line (by rw [ro.len, rowsN_len]; omega), same_put (s14.trans s15) nlr, _, upd_same, ?_⟩
      rw [rowsN_succ]
      exact ((ro.same s15).snocX ht15).moved fun x xs e => (upd_ne (fun z => by rw [z, ha15] at e; cases e)).trans e
    rintro H14 ⟨s14, us, hl14, ro14⟩
    have st14 := (st13.same s14).add hl14 nlp nlf
    have b14 := b13.same s14
    clear st13 b13 s14 hpa13 hfu13 hl14
    -- filled
    have f2in : ∀ {z : Str}, z ∈ ps → f2 ps z = some (2, []) := fun m => f2_in m
    have few : ps.length < 100 := by omega
    have lus : us.length = 42 := by rw [ro14.len, rowsN_len]
    have nd42 : (rowsN beg stp 42).Nodup := rowsN_nodup hs
    have ndn : ∀ n, n ≤ 42 → (rowsN beg stp n).Nodup := fun n hn => by
      rw [← take_rowsN hn]
      exact nd42.sublist (List.take_sublist _ _)
    obtain ⟨dx14, t14, ha14⟩ := st14.ins
    refine ⟨_, rfl, a, dx14, _, rfl, ha14, bno (by decide +kernel) (by decide +kernel) (by decide +kernel), _, rfl, _, rfl, _, rfl, _, rfl, lr, us, rfl, SqL.of st14.at0, fun c1 nc1 => ?_⟩
    rw [cut_upto us (k := many) (by omega)]
    have s15 := same_new (o := HO.lst (us.take many)) nc1
    have hc1 := upd_same (H := H14) (a := c1) (o := .lst (us.take many))
    have st15 := st14.same s15
    have b15 := b14.same s15
    have ro15 := ro14.same s15
    generalize upd H14 c1 (.lst (us.take many)) = H15 at s15 hc1 st15 b15 ro15 ⊢
    have rom : Rows H15 (us.take many) (rowsN beg stp many) := by
      have := ro15.takeN many
      rwa [take_rowsN (by omega)] at this
    refine meth_good (D := .fill z0 (rowsN beg stp many)) st15.bk (by omega) f2_ok rfl (.fill (.inl hc1) rom) ⟨few, by rw [rowsN_len]; exact hi, ndn many (by omega), fun t e => (by
      have := Option.some.inj (e.symm.trans (f2in mz0))
      subst this
      exact rowsN_ok)⟩ (fun ans ms g tt fu16 H16 ob nf bk16 => ?_) fun Cc fs no => (by
        cases no with
        | fill h => rw [f2in mz0] at h; cases h)
    obtain ⟨rfl, rfl, ss, pm, srt, rfl⟩ := to_fill (f2in mz0) tt
    have st16 := st15.told ob nf bk16
    have b16 := b15.told st15.bk ob nf
    have ro16 : Rows H16 us (rowsN beg stp 42) := FrB.rows (.onlyB ob) st15.bk ro15
    have lss : ss.length = many := by rw [pm.length_eq, rowsN_len]
    have mss : ∀ {r : List Nat}, r ∈ ss ↔ r ∈ rowsN beg stp many := pm.mem_iff
    have tok16 : TsOk (fset (f2 ps) z0 (2, ss)) := fset_ok f2_ok (by decide) (by decide) (by omega) (pm.nodup_iff.mpr (ndn many (by omega))) fun r m => rowsN_ok r (mss.mp m)
    refine ⟨_, rfl, rfl, ?_⟩
    rw [decide_eq_true (by rw [rowsN_len])]
    refine ⟨false, rfl, iteF ?_⟩
    clear st14 b14 st15 b15 s15 hc1 rom ob nf bk16 tt ro14 ro15
    -- no more than forty
    refine ⟨st16.tb, fun H17 e17 tb17 => ?_⟩
    have st17 := st16.ext e17 tb17
    have b17 := b16.ext e17
    have ro17 := rows_ext e17 ro16
    obtain ⟨dx17, t17, ha17⟩ := st17.ins
    refine ⟨_, rfl, a, dx17, _, rfl, ha17, bno (by decide +kernel) (by decide +kernel) (by decide +kernel), _, rfl, _, rfl, _, rfl, lr, us, rfl, SqL.of st17.at0, fun c2 nc2 => ?_⟩
    rw [show cutV us none (some 41) = us.take 41 from cut_upto us (k := 41) (by omega)]
    have s18 := same_new (o := HO.lst (us.take 41)) nc2
    have hc2 := upd_same (H := H17) (a := c2) (o := .lst (us.take 41))
    have st18 := st17.same s18
    have b18 := b17.same s18
    have ro18 := ro17.same s18
    generalize upd H17 c2 (.lst (us.take 41)) = H18 at s18 hc2 st18 b18 ro18 ⊢
    have ro41 : Rows H18 (us.take 41) (rowsN beg stp 41) := by
      have := ro18.takeN 41
      rwa [take_rowsN (by decide)] at this
    refine meth_bad (nm := "Full") (y := .str "rows") xc st18.bk (by rw [List.length_append, lp]; show 8 + 1 < 1000; decide) tok16 few rfl (.fullF (t := (2, ss)) fset_at (.inl hc2) ro41 rowsN_ok (ndn 41 (by decide)) (by rw [rowsN_len]; decide) (by rw [rowsN_len]; decide)) ⟨rfl, .inr (.inl ⟨rfl, rfl⟩)⟩ fun g1 H19 s19 z1 => ?_
    refine ⟨by show 2 ≤ sizeLine; decide, fun g2 ng2 => ?_⟩
    have s20 := s19.trans (same_new (o := HO.tup [.str "Full", .str "rows"]) ng2)
    have z1' := same_new (o := HO.tup [.str "Full", .str "rows"]) ng2 _ _ z1
    have z2 := upd_same (H := H19) (a := g2) (o := .tup [.str "Full", .str "rows"])
    generalize upd H19 g2 (.tup [.str "Full", .str "rows"]) = H20 at s20 z1' z2 ⊢
    have layF : Lay 2 (wdD ("Full", "rows")) := lay_wd (by decide +kernel) (by decide +kernel)
    refine ⟨_, _, wd_dp z1', wd_dp z2, layF.shaped (by decide), layF.shaped (by decide), _, rfl, ?_⟩
    rw [SeqAt.eqv_refl _ layF.1]
    refine iteF ?_
    have st20 := st18.same s20
    have b20 := b18.same s20
    have ro20 := ro18.same s20
    clear st16 b16 ro16 e17 tb17 st17 b17 ro17 ha17 s18 hc2 st18 b18 ro18 ro41 z1 z1' z2 s19 s20
    -- the model
    have hq20 := st20.at1
    have hl20 := st20.at0
    obtain ⟨F, eF⟩ : ∃ F : Str → List (List Nat), F = fun z => if z = z0 then rowsN beg stp many else [] := ⟨_, rfl⟩
    refine ⟨_, rfl, q, rfl, ⟨_, SqL.of hq20⟩, fun D nD => ?_⟩
    refine lc_list (xs := ps.map V.str) (fun i H' => Same H20 H' ∧ ∃ L : List (Addr × Addr), H' D = some (.lst ((L.map (·.1)).map V.ref)) ∧ PairsT H' D F (ps.take i) L) ⟨same_new nD, [], upd_same, by rw [List.take_zero]; rfl, fun i z p e1 e2 => (by cases e2)⟩ (fun i H' _ z => SqL.of (z.1 _ _ hq20)) ?_ ?_
    · rintro i v H21 hv ⟨s21, L, hL, pt⟩
      obtain ⟨z, hz, rfl⟩ := map_get hv
      have ltk : (ps.take i).length < 1000 := by rw [List.length_take]; omega
      refine ⟨rfl, yes_turn ?_⟩
      refine ⟨_, rfl, _, rfl, _, rfl, rfl, _, rfl, ?_⟩
      by_cases c : z = z0
      · rw [decide_eq_true (congrArg V.str c)]
        refine iteT ⟨_, rfl, _, rfl, _, rfl, lr, us, rfl, SqL.of (s21 _ _ hl20), fun c3 nc3 => ?_⟩
        rw [cut_upto us (k := many) (by omega)]
        refine ⟨by show 2 ≤ sizeLine; decide, fun t1 nt1 => ⟨by show 2 ≤ sizeLine; decide, fun t2 nt2 => ?_⟩⟩
        have rz : Rows H21 (us.take many) (F z) := by
          rw [eF]
          show Rows H21 (us.take many) (if z = z0 then rowsN beg stp many else [])
          rw [if_pos c]
          have := (ro20.same s21).takeN many
          rwa [take_rowsN (by omega)] at this
        obtain ⟨acc, w1, w2, w3, L', w4, w5⟩ := pair_step (K := K) s21 nD hL pt ltk rz nc3 nt1 nt2
        exact ⟨acc, w1, w2, w3, L', w4, by rw [List.take_add_one, hz]; exact w5⟩
      · rw [decide_eq_false (fun e => c (V.str.inj e))]
        refine iteF ⟨by show 0 ≤ sizeLine; decide, fun c3 nc3 => ?_⟩
        refine ⟨by show 2 ≤ sizeLine; decide, fun t1 nt1 => ⟨by show 2 ≤ sizeLine; decide, fun t2 nt2 => ?_⟩⟩
        have rz : Rows H21 [] (F z) := by
          rw [eF]
          show Rows H21 [] (if z = z0 then rowsN beg stp many else [])
          rw [if_neg c]
          exact .nil
        obtain ⟨acc, w1, w2, w3, L', w4, w5⟩ := pair_step (K := K) s21 nD hL pt ltk rz nc3 nt1 nt2
        exact ⟨acc, w1, w2, w3, L', w4, by rw [List.take_add_one, hz]; exact w5⟩
    rintro H21 ⟨s21, L, hL, pt⟩
    rw [List.length_map, List.take_length] at pt
    refine ⟨D, L.map (·.1), kvsT ps L, rfl, SqL.of hL, pairedT pt, fun m nm => ?_⟩
    have s22 := same_new (o := HO.dK (mergeK [] (kvsT ps L))) nm
    have hm22 := upd_same (H := H21) (a := m) (o := .dK (mergeK [] (kvsT ps L)))
    generalize upd H21 m (.dK (mergeK [] (kvsT ps L))) = H22 at s22 hm22 ⊢
    have mo22 := modelT (pt.same s22 hL) nd hm22
    have sA := s21.trans s22
    have st22 := st20.same sA
    have b22 := b20.same sA
    have ro22 := ro20.same sA
    have tw : Twin (fset (f2 ps) z0 (2, ss)) (fun z => if z ∈ ps then some (2, F z) else none) := fun z => by
      rw [eF]
      show (_ ∧ (if z ∈ ps then some (2, if z = z0 then rowsN beg stp many else []) else none) = none) ∨ _
      by_cases c : z = z0
      · subst c
        exact .inr ⟨2, ss, rowsN beg stp many, fset_at, by show (if z ∈ ps then some (2, if z = z then rowsN beg stp many else []) else none) = _; rw [if_pos mz0, if_pos rfl], pm, srt⟩
      · rw [fset_ne c]
        by_cases mz : z ∈ ps
        · refine .inr ⟨2, [], [], f2_in mz, ?_, .refl _, List.Pairwise.nil⟩
          show (if z ∈ ps then some (2, if z = z0 then rowsN beg stp many else []) else none) = _
          rw [if_pos mz, if_neg c]
        · exact .inl ⟨f2_out mz, if_neg mz⟩
    clear st20 b20 ro20 hq20 hl20 s21 hL pt hm22 sA
    -- rows of deeds
    refine ⟨_, rfl, _, rfl, _, rfl, _, rfl, lr, us, rfl, SqL.of st22.at0, fun c4 nc4 => ?_⟩
    rw [show cutV us (some (many : Int)) (some 41) = (us.drop many).take (41 - many) from cut_mid us (i := many) (j := 41) (by omega) (by omega)]
    have s23 := same_new (o := HO.lst ((us.drop many).take (41 - many))) nc4
    have hc4 := upd_same (H := H22) (a := c4) (o := .lst ((us.drop many).take (41 - many)))
    generalize upd H22 c4 (.lst ((us.drop many).take (41 - many))) = H23 at s23 hc4 ⊢
    have rod : Rows H23 ((us.drop many).take (41 - many)) (((rowsN beg stp 42).drop many).take (41 - many)) := ((ro22.same s23).dropN many).takeN _
    refine ⟨c4, rfl, ⟨_, SqL.of hc4⟩, fun D2 nD2 => ?_⟩
    refine lc_list (xs := (us.drop many).take (41 - many)) (fun i H' => Same H23 H' ∧ ∃ vs : List V, H' D2 = some (.lst vs) ∧ vs.length = i ∧ ∀ j, j < i → ∃ q a, vs[j]? = some (.ref q) ∧ H' q = some (.tup [.str "put", .str z0, .ref a]) ∧ H' a = some (.tup ((rowN beg stp (many + j)).map numV))) ⟨same_new nD2, [], upd_same, rfl, fun j hj => absurd hj (Nat.not_lt_zero _)⟩ (fun i H' _ z => SqL.of (z.1 _ _ hc4)) ?_ ?_
    · rintro i v H24 hv ⟨s24, vs, hvs, lv, pv⟩
      have hi : i < 41 - many := by
        have := (List.getElem?_eq_some_iff.mp hv).1
        rw [List.length_take] at this
        omega
      have er : (((rowsN beg stp 42).drop many).take (41 - many))[i]? = some (rowN beg stp (many + i)) := by
        rw [List.getElem?_take, if_pos hi, List.getElem?_drop, rowsN_at (by omega)]
      obtain ⟨r1, w1, h1⟩ := rod.getR er
      rw [hv] at w1
      obtain rfl := Option.some.inj w1
      refine ⟨rfl, yes_turn ⟨_, rfl, _, rfl, by show 3 ≤ sizeLine; decide, fun t nt => ?_⟩⟩
      have s25 := same_new (o := HO.tup [.str "put", .str z0, .ref r1]) nt
      have h25 := upd_same (H := H24) (a := t) (o := .tup [.str "put", .str z0, .ref r1])
      generalize upd H24 t (.tup [.str "put", .str z0, .ref r1]) = H25 at s25 h25 ⊢
      have hv5 := s25 _ _ hvs
      have keepT : ∀ {x : Addr} {xs : List V}, H25 x = some (.tup xs) → upd H25 D2 (.lst (vs ++ [.ref t])) x = some (.tup xs) := fun e => (upd_ne (fun z => by rw [z, hv5] at e; cases e)).trans e
      refine ⟨_, hv5, lt_line (by omega), same_put (s24.trans s25) nD2, _, upd_same, by rw [List.length_append, lv]; rfl, fun j hj => ?_⟩
      by_cases c : j < i
      · obtain ⟨q, a', w1, w2, w3⟩ := pv j c
        exact ⟨q, a', by rw [List.getElem?_append_left (by omega)]; exact w1, keepT (s25 _ _ w2), keepT (s25 _ _ w3)⟩
      · obtain rfl : j = i := by omega
        exact ⟨t, r1, by rw [List.getElem?_append_right (by omega), lv, Nat.sub_self]; rfl, keepT h25, keepT (s25 _ _ (s24 _ _ h1))⟩
    rintro H24 ⟨s24, vs, hvs, lv, pv⟩
    have lcut : ((us.drop many).take (41 - many)).length = 41 - many := by rw [List.length_take, List.length_drop]; omega
    rw [lcut] at lv pv
    have sB := s23.trans s24
    have ro24 := ro22.same sB
    obtain ⟨r0, w0, h0⟩ := ro24.getR (rowsN_at (b := beg) (s := stp) (n := 42) (k := 0) (by decide))
    refine ⟨_, rfl, _, rfl, lr, us, 0, _, rfl, rfl, SqL.of (sB _ _ st22.at0), atI_nat (j := 0) w0, by show 3 ≤ sizeLine; decide, fun t3 nt3 => ⟨by show 1 ≤ sizeLine; decide, fun l5 nl5 => ?_⟩⟩
    have s26 := same_new (o := HO.tup [.str "take", .str z0, .ref r0]) nt3
    generalize upd H24 t3 (.tup [.str "take", .str z0, .ref r0]) = H26 at s26 nl5 ⊢
    have s27 := same_new (o := HO.lst [.ref t3]) nl5
    have hl5 := upd_same (H := H26) (a := l5) (o := .lst [.ref t3])
    generalize upd H26 l5 (.lst [.ref t3]) = H27 at s27 hl5 ⊢
    have sC := s26.trans s27
    refine ⟨D2, l5, _, _, rfl, rfl, sC _ _ hvs, hl5, by rw [lv, sizeLine_eq]; show _ + 1 ≤ _; omega, fun c6 nc6 => ?_⟩
    have s28 := same_new (o := HO.lst (vs ++ [.ref t3])) nc6
    have hc6 := upd_same (H := H27) (a := c6) (o := .lst (vs ++ [.ref t3]))
    generalize upd H27 c6 (.lst (vs ++ [.ref t3])) = H28 at s28 hc6 ⊢
    have sD := sC.trans s28
    have sE := sB.trans sD
    have st28 := st22.same sE
    have b28 := b22.same sE
    have ro28 := ro22.same sE
    have mo28 := mo22.same sE
    have pv28 : PutsAt H28 z0 beg stp vs many := ⟨lv, fun j hj => by
      obtain ⟨q, a', w1, w2, w3⟩ := pv j hj
      exact ⟨q, a', w1, sD _ _ w2, sD _ _ w3⟩⟩
    clear st22 b22 ro22 mo22 s23 hc4 rod s24 hvs pv lcut sB ro24 h0 w0 s26 s27 hl5 sC s28 sD sE
    -- refused, and all stands
    refine ⟨st28.tb, fun H29 e29 tb29 => ?_⟩
    have st29 := st28.ext e29 tb29
    obtain ⟨dx29, t29, ha29⟩ := st29.ins
    have nt : ∀ {xs : List V} (ps : Array Value), HO.tup xs ≠ .tbl ps := fun _ z => by cases z
    have pv29 : PutsAt H29 z0 beg stp vs many := ⟨pv28.1, fun j hj => by
      obtain ⟨q, a', w1, w2, w3⟩ := pv28.2 j hj
      exact ⟨q, a', w1, e29 _ _ w2 nt, e29 _ _ w3 nt⟩⟩
    have hc29 := e29 _ _ hc6 (fun _ z => by cases z)
    refine ⟨_, rfl, a, dx29, _, rfl, ha29, bno (by decide +kernel) (by decide +kernel) (by decide +kernel), _, rfl, ?_⟩
    refine ⟨a, pa, fu16, c6, vs ++ [.ref t3], ps, _, _, _, rfl, hc29, by rw [List.length_append, pv28.1]; show _ + 1 < 100; omega, st29.bk, by rw [List.length_append, lp]; show 8 + 1 < 1000; decide, many_full hs few (badX_caught xc (nm := "Full") (y := .str "rows") ⟨rfl, .inr (.inl ⟨rfl, rfl⟩)⟩ fun g1 H30 s30 z1 => ?_) (40 - many) many vs [] _ ss (by omega) pv29 tok16 fset_at pm⟩
    refine ⟨by show 2 ≤ sizeLine; decide, fun g2 ng2 => ?_⟩
    have s31 := s30.trans (same_new (o := HO.tup [.str "Full", .str "rows"]) ng2)
    have z1' := same_new (o := HO.tup [.str "Full", .str "rows"]) ng2 _ _ z1
    have z2 := upd_same (H := H30) (a := g2) (o := .tup [.str "Full", .str "rows"])
    generalize upd H30 g2 (.tup [.str "Full", .str "rows"]) = H31 at s31 z1' z2 ⊢
    refine ⟨_, _, wd_dp z1', wd_dp z2, layF.shaped (by decide), layF.shaped (by decide), _, rfl, ?_⟩
    rw [SeqAt.eqv_refl _ layF.1]
    refine iteF ?_
    have e31 : ExtN H28 H31 := e29.trans (extN_same s31)
    have st31 := st29.same s31
    have b31 := b28.ext e31
    have ro31 := rows_ext e31 ro28
    have mo31 : MoN (fun _ => True) H31 m ps (fun z => if z ∈ ps then some (2, F z) else none) := mo28.moved (fun x o t q => e31 x o q (by rcases t with ⟨xs, rfl⟩ | ⟨kvs, rfl⟩ <;> exact fun _ z => by cases z)) fun l us _ q => e31 _ _ q (fun _ z => by cases z)
    refine ⟨_, rfl, _, rfl, (fun _ => True), a, pa, fu16, m, ps, _, _, _, _, rfl, st31.bk, mo31, tw, ?_, by omega, fun H32 s32 => ⟨_, rfl, iteF ?_⟩⟩
    · intro nm t e
      have e : (if nm ∈ ps then some (2, F nm) else none) = some t := e
      have okF : (F nm).length ≤ 40 ∧ (F nm).Nodup ∧ ∀ r ∈ F nm, RowOk 2 r := by
        rw [eF]
        show (if nm = z0 then rowsN beg stp many else []).length ≤ 40 ∧ (if nm = z0 then rowsN beg stp many else []).Nodup ∧ ∀ r ∈ (if nm = z0 then rowsN beg stp many else []), RowOk 2 r
        by_cases c : nm = z0
        · rw [if_pos c]
          exact ⟨by rw [rowsN_len]; exact hi, ndn many (by omega), rowsN_ok⟩
        · rw [if_neg c]
          exact ⟨by decide, List.nodup_nil, fun r m => by cases m⟩
      split at e
      · have := (Option.some.inj e).symm
        subst this
        exact ⟨by show 1 ≤ 2; decide, by show 2 ≤ 4; decide, okF⟩
      · cases e
    have st32 := st31.same s32
    have b32 := b31.same s32
    have ro32 := ro31.same s32
    clear st28 b28 ro28 mo28 pv28 e29 tb29 st29 ha29 pv29 hc29 hc6 z1 z1' z2 s30 s31 e31 st31 b31 ro31 mo31 s32
    -- crowds refused
    refine ⟨_, rfl, _, rfl, _, rfl, _, rfl, bg, a, pa, fu16, lr, z0, ps, _, _, _, us, rowsN beg stp 42, ss, rfl, b32.B.1, st32.bk, by rw [List.length_append, lp]; show 8 + 1 < 1000; decide, tok16, few, fset_at, st32.at0, ro32, rowsN_len, nd42, rowsN_ok, nlbg, b32.n1.symm, b32.n2.symm, st32.tb, fun H33 H34 B33 K33 e34 tb34 => ⟨_, rfl, iteF ?_⟩⟩
    have st33 := st32.keep b32 (fun p m => by
      rcases List.mem_cons.mp m with rfl | m
      · exact nlbg
      · exact nL p m) K33
    have st34 := st33.ext e34 tb34
    have ro34 : Rows H34 us (rowsN beg stp 42) := rows_ext e34 (ro32.keep b32.B.1 K33)
    clear st32 b32 ro32 B33 K33 st33
    -- the long way
    have l9 : (past ++ [(ps, f2 ps)]).length = 9 := by rw [List.length_append, lp]; rfl
    obtain ⟨r3, w3, h3⟩ := ro34.getR (rowsN_at (b := beg) (s := stp) (n := 42) (k := 3) (by decide))
    refine ⟨_, rfl, _, rfl, _, rfl, lr, us, 3, _, rfl, rfl, SqL.of st34.at0, atI_nat (j := 3) w3, a, pa, fu16, r3, z0, ps, _, _, rowN beg stp 3, ss, rfl, st34.bk, by omega, tok16, few, fset_at, mss.mpr (rowsN_in (by omega)), h3, fun H35 fu35 fut35 _ tbs fr35 off35 bk35 lf35 => ⟨_, rfl, iteF ?_⟩⟩
    have st35 := st34.frb fr35 off35 (tbs _ st34.tb) bk35
    have ro35 : Rows H35 us (rowsN beg stp 42) := fr35.rows st34.bk ro34
    clear st34 ro34 h3
    generalize past ++ [(ps, f2 ps)] = past at l9 st35 ⊢
    -- put up to forty
    refine ⟨_, rfl, (many : Int), 40, rfl, ⟨by omega, by omega, by decide, by decide⟩, ?_⟩
    rw [show ((40 : Int) - (many : Int)).toNat = 40 - many by omega]
    refine for_range (lo := (many : Int)) (n := 40 - many) (fun i σ H' => ∃ (fu' : Addr) (past' fut' : List Stp) (ss' : List (List Nat)) (o : Option V), σ = [some (.ref sa), some (.ref bg), some (.ref q), some (.ref a), some (.str sp), some (.str z0), some (.int (many : Int)), some (.int (stp : Int)), some (.int (beg : Int)), some (.ref lr), some (.ref m), some (.ref c6), o, none, none, none, none] ∧ S58 C a pa (T3 p1 p2 p3) [(lr, us), (q, ps.map V.str)] H' fu' ps (fset (f2 ps) z0 (2, ss')) past' fut' ∧ Rows H' us (rowsN beg stp 42) ∧ past'.length = 9 + i ∧ ss'.Perm (rowsN beg stp (many + i)) ∧ Sorted ss') ⟨fu35, past, fut35, ss, none, rfl, st35, ro35, l9, pm, srt⟩ ?_ ?_
    · rintro i σ H36 hi ⟨fu', past', fut', ss', o, rfl, st36, ro36, lp36, pm', srt'⟩
      have lss' : ss'.length = many + i := by rw [pm'.length_eq, rowsN_len]
      have tok' : TsOk (fset (f2 ps) z0 (2, ss')) := fset_ok f2_ok (by decide) (by decide) (by omega) (pm'.nodup_iff.mpr (ndn (many + i) (by omega))) fun r m => rowsN_ok r (pm'.mem_iff.mp m)
      obtain ⟨dx, t, ha⟩ := st36.ins
      obtain ⟨rk, wk, hk⟩ := ro36.getR (rowsN_at (b := beg) (s := stp) (n := 42) (k := many + i) (by omega))
      have ek : (many : Int) + (i : Int) = ((many + i : Nat) : Int) := by omega
      have outk : rowN beg stp (many + i) ∉ ss' := fun mm => rowsN_out hs (Nat.le_refl _) (by omega) (pm'.mem_iff.mp mm)
      refine ⟨_, rfl, a, dx, _, rfl, ha, bno (by decide +kernel) (by decide +kernel) (by decide +kernel), _, rfl, _, rfl, _, rfl, lr, us, _, _, rfl, congrArg V.int ek, SqL.of st36.at0, atI_nat wk, ?_⟩
      refine meth_good (D := .put z0 (rowN beg stp (many + i))) st36.bk (by omega) tok' rfl (.put hk) ⟨few, fun t e => (by
        have := Option.some.inj (e.symm.trans fset_at)
        subst this
        exact ⟨rowN_ok, fun _ => by show ss'.length < 40; omega⟩)⟩ (fun ans ms g tt fu37 H37 ob nf bk37 => ?_) fun Cc fs no => absurd (no_there fset_at no).2.2 outk
      obtain ⟨rfl, rfl, _, ss2, pm2, srt2, rfl⟩ := to_put fset_at tt
      rw [fset_two] at bk37
      refine ⟨_, rfl, _, _, rfl, rfl, rfl, ?_⟩
      rw [decide_eq_true (congrArg V.int (show ((ss'.length + 1 : Nat) : Int) = (many : Int) + (i : Int) + 1 by rw [lss']; omega))]
      refine ⟨false, rfl, iteF ⟨fu37, _, _, ss2, _, rfl, st36.told ob nf bk37, FrB.rows (.onlyB ob) st36.bk ro36, by rw [List.length_append, lp36]; rfl, ?_, srt2⟩⟩
      rw [show many + (i + 1) = many + i + 1 by omega, rowsN_succ]
      exact pm2.trans (pm'.append_right _)
    rintro σ H36 ⟨fu', past', fut', ss', o, rfl, st36, ro36, lp36, pm', srt'⟩
    rw [show many + (40 - many) = 40 by omega] at pm'
    have lp20 : past'.length ≤ 20 := by omega
    have lss' : ss'.length = 40 := by rw [pm'.length_eq, rowsN_len]
    have tok' : TsOk (fset (f2 ps) z0 (2, ss')) := fset_ok f2_ok (by decide) (by decide) (by omega) (pm'.nodup_iff.mpr (ndn 40 (by omega))) fun r m => rowsN_ok r (pm'.mem_iff.mp m)
    have out41 : rowN beg stp 41 ∉ ss' := fun mm => rowsN_out hs (show 40 ≤ 41 by decide) (by decide) (pm'.mem_iff.mp mm)
    have in5 : rowN beg stp 5 ∈ ss' := pm'.mem_iff.mpr (rowsN_in (by decide))
    have in7 : rowN beg stp 7 ∈ ss' := pm'.mem_iff.mpr (rowsN_in (by decide))
    clear pm srt lss mss tok16 l9 st35 ro35 lp36 lo hi tw
    -- a row that is there
    refine ⟨st36.tb, fun H37 e37 tb37 => ?_⟩
    have st37 := st36.ext e37 tb37
    have ro37 := rows_ext e37 ro36
    obtain ⟨dx37, t37, ha37⟩ := st37.ins
    obtain ⟨r5, w5, h5⟩ := ro37.getR (rowsN_at (b := beg) (s := stp) (n := 42) (k := 5) (by decide))
    refine ⟨_, rfl, a, dx37, _, rfl, ha37, bno (by decide +kernel) (by decide +kernel) (by decide +kernel), _, rfl, _, rfl, lr, us, 5, _, rfl, rfl, SqL.of st37.at0, atI_nat (j := 5) w5, ?_⟩
    refine meth_good (D := .put z0 (rowN beg stp 5)) st37.bk (by omega) tok' rfl (.put h5) ⟨few, fun t e => (by
      have := Option.some.inj (e.symm.trans fset_at)
      subst this
      exact ⟨rowN_ok, fun n => absurd in5 n⟩)⟩ (fun ans ms g tt _ _ _ _ _ => absurd in5 (to_put fset_at tt).2.2.1) fun Cc fs no => ?_
    obtain ⟨rfl, rfl, _⟩ := no_there fset_at no
    refine there_caught xc fun q1 H38 s38 x1 => ?_
    have st38 := st37.same s38
    have ro38 := ro37.same s38
    -- no more rows
    refine ⟨st38.tb, fun H39 e39 tb39 => ?_⟩
    have st39 := st38.ext e39 tb39
    have ro39 := rows_ext e39 ro38
    have x1 := e39 _ _ x1 nt
    obtain ⟨dx39, t39, ha39⟩ := st39.ins
    obtain ⟨r41, w41, h41⟩ := ro39.getR (rowsN_at (b := beg) (s := stp) (n := 42) (k := 41) (by decide))
    refine ⟨_, rfl, a, dx39, _, rfl, ha39, bno (by decide +kernel) (by decide +kernel) (by decide +kernel), _, rfl, _, rfl, lr, us, 41, _, rfl, rfl, SqL.of st39.at0, atI_nat (j := 41) w41, ?_⟩
    refine meth_bad (nm := "Full") (y := .str "rows") xc st39.bk (by omega) tok' few rfl (.fullP (t := (2, ss')) fset_at h41 rowN_ok out41 (by show 40 ≤ ss'.length; omega)) ⟨rfl, .inr (.inl ⟨rfl, rfl⟩)⟩ fun q2 H40 s40 x2 => ?_
    have st40 := st39.same s40
    have ro40 := ro39.same s40
    have x1 := s40 _ _ x1
    refine ⟨by show 2 ≤ sizeLine; decide, fun l1 nl1 => ?_⟩
    have s41 := same_new (o := HO.lst [.ref q1, .ref q2]) nl1
    have hl1 := upd_same (H := H40) (a := l1) (o := .lst [.ref q1, .ref q2])
    generalize upd H40 l1 (.lst [.ref q1, .ref q2]) = H41 at s41 hl1 ⊢
    have st41 := st40.same s41
    have ro41 := ro40.same s41
    have x1 := s41 _ _ x1
    have x2 := s41 _ _ x2
    clear st36 ro36 e37 tb37 st37 ro37 ha37 w5 h5 s38 st38 ro38 e39 tb39 st39 ro39 ha39 w41 h41 s40 st40 ro40 s41
    -- no row
    refine ⟨_, rfl, st41.tb, fun H42 e42 tb42 => ?_⟩
    have st42 := st41.ext e42 tb42
    have ro42 := rows_ext e42 ro41
    have x1 := e42 _ _ x1 nt
    have x2 := e42 _ _ x2 nt
    have hl1 := e42 _ _ hl1 (fun _ z => by cases z)
    obtain ⟨dx42, t42, ha42⟩ := st42.ins
    refine ⟨_, rfl, a, dx42, _, rfl, ha42, bno (by decide +kernel) (by decide +kernel) (by decide +kernel), _, rfl, by show 2 ≤ sizeLine; decide, fun t1 nt1 => ?_⟩
    have s43 := same_new (o := HO.tup [.int 1, .int 32]) nt1
    have ht1 := upd_same (H := H42) (a := t1) (o := .tup [.int 1, .int 32])
    generalize upd H42 t1 (.tup [.int 1, .int 32]) = H43 at s43 ht1 ⊢
    have st43 := st42.same s43
    have ro43 := ro42.same s43
    have x1 := s43 _ _ x1
    have x2 := s43 _ _ x2
    have hl1 := s43 _ _ hl1
    refine meth_bad (nm := "BadRow") (y := .str "") xc st43.bk (by omega) tok' few rfl (.put (t := (2, ss')) (o := some [.int 1, .int 32]) fset_at (.tup ht1 (fun y my => (by
      rcases List.mem_cons.mp my with rfl | my
      · exact part_int _
      · rw [List.mem_singleton.mp my]
        exact part_int _)) (by decide)) (by show rowB 2 (some [V.int 1, V.int 32]) = false; decide +kernel)) ⟨rfl, .inl ⟨.inr (.inr rfl), rfl⟩⟩ fun q3 H44 s44 x3 => ?_
    have st44 := st43.same s44
    have ro44 := ro43.same s44
    have x1 := s44 _ _ x1
    have x2 := s44 _ _ x2
    have hl1 := s44 _ _ hl1
    -- a row that isn't there
    refine ⟨st44.tb, fun H45 e45 tb45 => ?_⟩
    have st45 := st44.ext e45 tb45
    have ro45 := rows_ext e45 ro44
    have x1 := e45 _ _ x1 nt
    have x2 := e45 _ _ x2 nt
    have x3 := e45 _ _ x3 nt
    have hl1 := e45 _ _ hl1 (fun _ z => by cases z)
    obtain ⟨dx45, t45, ha45⟩ := st45.ins
    obtain ⟨r41, w41, h41⟩ := ro45.getR (rowsN_at (b := beg) (s := stp) (n := 42) (k := 41) (by decide))
    refine ⟨_, rfl, a, dx45, _, rfl, ha45, bno (by decide +kernel) (by decide +kernel) (by decide +kernel), _, rfl, _, rfl, lr, us, 41, _, rfl, rfl, SqL.of st45.at0, atI_nat (j := 41) w41, ?_⟩
    refine meth_good (D := .take z0 (rowN beg stp 41)) st45.bk (by omega) tok' rfl (.take h41) ⟨few, fun t e => (by
      have := Option.some.inj (e.symm.trans fset_at)
      subst this
      exact rowN_ok)⟩ (fun ans ms g tt _ _ _ _ _ => absurd (to_take fset_at tt).2.2.1 out41) fun Cc fs no => ?_
    obtain ⟨rfl, rfl, _⟩ := no_row fset_at no
    refine norow_caught xc fun q4 H46 s46 x4 => ?_
    have st46 := st45.same s46
    have ro46 := ro45.same s46
    have x1 := s46 _ _ x1
    have x2 := s46 _ _ x2
    have x3 := s46 _ _ x3
    have hl1 := s46 _ _ hl1
    refine ⟨by show 2 ≤ sizeLine; decide, fun l2 nl2 => ?_⟩
    have s47 := same_new (o := HO.lst [.ref q3, .ref q4]) nl2
    refine ⟨l1, l2, _, _, rfl, rfl, s47 _ _ hl1, upd_same, by show 4 ≤ sizeLine; decide, fun l3 nl3 => ?_⟩
    have s48 := s47.trans (same_new (o := HO.lst ([.ref q1, .ref q2] ++ [.ref q3, .ref q4])) nl3)
    have hl3 := upd_same (H := upd H46 l2 (.lst [.ref q3, .ref q4])) (a := l3) (o := .lst ([.ref q1, .ref q2] ++ [.ref q3, .ref q4]))
    generalize upd (upd H46 l2 (.lst [.ref q3, .ref q4])) l3 (.lst ([.ref q1, .ref q2] ++ [.ref q3, .ref q4])) = H48 at s48 hl3 ⊢
    have st48 := st46.same s48
    have ro48 := ro46.same s48
    have x1 := s48 _ _ x1
    have x2 := s48 _ _ x2
    have x3 := s48 _ _ x3
    have x4 := s48 _ _ x4
    clear st41 ro41 e42 tb42 st42 ro42 ha42 s43 ht1 st43 ro43 s44 st44 ro44 e45 tb45 st45 ro45 ha45 w41 h41 s46 st46 ro46 hl1 s47 s48
    -- compared
    refine ⟨_, rfl, by show 2 ≤ sizeLine; decide, fun t1 nt1 => ?_⟩
    have s49 := same_new (o := HO.tup [.str "There", .str ""]) nt1
    have v1 := upd_same (H := H48) (a := t1) (o := .tup [.str "There", .str ""])
    generalize upd H48 t1 (.tup [.str "There", .str ""]) = H49 at s49 v1 ⊢
    refine ⟨by show 2 ≤ sizeLine; decide, fun t2 nt2 => ?_⟩
    have s50 := same_new (o := HO.tup [.str "Full", .str "rows"]) nt2
    have v2 := upd_same (H := H49) (a := t2) (o := .tup [.str "Full", .str "rows"])
    generalize upd H49 t2 (.tup [.str "Full", .str "rows"]) = H50 at s50 v2 ⊢
    refine ⟨by show 2 ≤ sizeLine; decide, fun t3 nt3 => ?_⟩
    have s51 := same_new (o := HO.tup [.str "BadRow", .str ""]) nt3
    have v3 := upd_same (H := H50) (a := t3) (o := .tup [.str "BadRow", .str ""])
    generalize upd H50 t3 (.tup [.str "BadRow", .str ""]) = H51 at s51 v3 ⊢
    refine ⟨_, rfl, by show 2 ≤ sizeLine; decide, fun t4 nt4 => ?_⟩
    have s52 := same_new (o := HO.tup [.str "NoRow", .str z0]) nt4
    have v4 := upd_same (H := H51) (a := t4) (o := .tup [.str "NoRow", .str z0])
    generalize upd H51 t4 (.tup [.str "NoRow", .str z0]) = H52 at s52 v4 ⊢
    refine ⟨by show 4 ≤ sizeLine; decide, fun l4 nl4 => ?_⟩
    have s53 := same_new (o := HO.lst [.ref t1, .ref t2, .ref t3, .ref t4]) nl4
    have v5 := upd_same (H := H52) (a := l4) (o := .lst [.ref t1, .ref t2, .ref t3, .ref t4])
    generalize upd H52 l4 (.lst [.ref t1, .ref t2, .ref t3, .ref t4]) = H53 at s53 v5 ⊢
    have sF : Same H48 H53 := (((s49.trans s50).trans s51).trans s52).trans s53
    have n9 : ∀ c ∈ z0.cps.toList, c < 1114112 := name_cps (nms z0 mz0)
    have lay : Lay 3 (.list [wdD ("There", ""), wdD ("Full", "rows"), wdD ("BadRow", ""), wdD ("NoRow", z0)]) := .list fun d m => by
      rcases List.mem_cons.mp m with rfl | m
      · exact lay_wd (by decide +kernel) (by decide +kernel)
      rcases List.mem_cons.mp m with rfl | m
      · exact lay_wd (by decide +kernel) (by decide +kernel)
      rcases List.mem_cons.mp m with rfl | m
      · exact lay_wd (by decide +kernel) (by decide +kernel)
      rw [List.mem_singleton.mp m]
      exact lay_wd (by decide +kernel) n9
    have d1 : Dp K H53 (.ref l3) (.list [wdD ("There", ""), wdD ("Full", "rows"), wdD ("BadRow", ""), wdD ("NoRow", z0)]) := .lst (SqL.of (sF _ _ hl3)) (.cons (wd_dp (sF _ _ x1)) (.cons (wd_dp (sF _ _ x2)) (.cons (wd_dp (sF _ _ x3)) (.cons (wd_dp (sF _ _ x4)) .nil))))
    have d2 : Dp K H53 (.ref l4) (.list [wdD ("There", ""), wdD ("Full", "rows"), wdD ("BadRow", ""), wdD ("NoRow", z0)]) := .lst (SqL.of v5) (.cons (wd_dp (s53 _ _ (s52 _ _ (s51 _ _ (s50 _ _ v1))))) (.cons (wd_dp (s53 _ _ (s52 _ _ (s51 _ _ v2)))) (.cons (wd_dp (s53 _ _ (s52 _ _ v3))) (.cons (wd_dp (s53 _ _ v4)) .nil))))
    refine ⟨_, _, d1, d2, lay.shaped (by decide), lay.shaped (by decide), _, rfl, ?_⟩
    rw [SeqAt.eqv_refl _ lay.1]
    refine iteF ?_
    have st53 := st48.same sF
    have ro53 := ro48.same sF
    clear st48 ro48 x1 x2 x3 x4 hl3 s49 s50 s51 s52 s53 v1 v2 v3 v4 v5 sF d1 d2 lay
    obtain ⟨dx53, t53, ha53⟩ := st53.ins
    refine ⟨_, rfl, a, dx53, _, rfl, ha53, bno (by decide +kernel) (by decide +kernel) (by decide +kernel), _, rfl, a, pa, fu', ps, _, _, _, z0, rfl, st53.bk, few, fun t0 e0 qa usa nqa roa => ?_, fun no => (by rw [fset_at] at no; cases no)⟩
    obtain rfl : (2, ss') = t0 := Option.some.inj (fset_at.symm.trans e0)
    have s54 := same_new (o := HO.lst usa) nqa
    have hqa := upd_same (H := H53) (a := qa) (o := .lst usa)
    generalize upd H53 qa (.lst usa) = H54 at s54 hqa ⊢
    have st54 := st53.same s54
    have ro54 := ro53.same s54
    refine ⟨qa, usa, rfl, .inl (SqL.of hqa), rfl, ?_⟩
    rw [decide_eq_true (congrArg V.int (show (usa.length : Int) = 40 by rw [roa.len, lss']; rfl))]
    refine ⟨false, rfl, iteF ?_⟩
    clear st53 ro53 roa hqa s54 ha53
    -- four deeds
    obtain ⟨dx54, t54, ha54⟩ := st54.ins
    obtain ⟨r7, w7, h7⟩ := ro54.getR (rowsN_at (b := beg) (s := stp) (n := 42) (k := 7) (by decide))
    obtain ⟨r41, w41, h41⟩ := ro54.getR (rowsN_at (b := beg) (s := stp) (n := 42) (k := 41) (by decide))
    obtain ⟨y0, hy0⟩ : ∃ z, ps[0]? = some z := ⟨_, List.getElem?_eq_getElem (by omega)⟩
    have my0 := List.mem_of_getElem? hy0
    have ay0 : atI (ps.map V.str) 0 = some (.str y0) := atI_nat (j := 0) (by rw [List.getElem?_map, hy0]; rfl)
    refine ⟨_, rfl, a, dx54, _, rfl, ha54, bno (by decide +kernel) (by decide +kernel) (by decide +kernel), ?_⟩
    refine ⟨_, rfl, _, rfl, lr, us, 7, _, rfl, rfl, SqL.of st54.at0, atI_nat (j := 7) w7, by show 3 ≤ sizeLine; decide, fun t1 nt1 => ?_⟩
    have s55 := same_new (o := HO.tup [.str "take", .str z0, .ref r7]) nt1
    have v1 := upd_same (H := H54) (a := t1) (o := .tup [.str "take", .str z0, .ref r7])
    generalize upd H54 t1 (.tup [.str "take", .str z0, .ref r7]) = H55 at s55 v1 ⊢
    have st55 := st54.same s55
    refine ⟨_, rfl, _, rfl, lr, us, 41, _, rfl, rfl, SqL.of st55.at0, atI_nat (j := 41) w41, by show 3 ≤ sizeLine; decide, fun t2 nt2 => ?_⟩
    have s56 := same_new (o := HO.tup [.str "put", .str z0, .ref r41]) nt2
    have v2 := upd_same (H := H55) (a := t2) (o := .tup [.str "put", .str z0, .ref r41])
    generalize upd H55 t2 (.tup [.str "put", .str z0, .ref r41]) = H56 at s56 v2 ⊢
    have st56 := st55.same s56
    refine ⟨_, rfl, q, _, 0, _, rfl, rfl, SqL.of st56.at1, ay0, by show 2 ≤ sizeLine; decide, fun t3 nt3 => ?_⟩
    have s57 := same_new (o := HO.tup [.str "drop", .str y0]) nt3
    have v3 := upd_same (H := H56) (a := t3) (o := .tup [.str "drop", .str y0])
    generalize upd H56 t3 (.tup [.str "drop", .str y0]) = H57 at s57 v3 ⊢
    refine ⟨_, rfl, by show 3 ≤ sizeLine; decide, fun t4 nt4 => ?_⟩
    have s58 := same_new (o := HO.tup [.str "make", .str sp, .int 1]) nt4
    have v4 := upd_same (H := H57) (a := t4) (o := .tup [.str "make", .str sp, .int 1])
    generalize upd H57 t4 (.tup [.str "make", .str sp, .int 1]) = H58 at s58 v4 ⊢
    refine ⟨by show 4 ≤ sizeLine; decide, fun l5 nl5 => ?_⟩
    have s59 := same_new (o := HO.lst [.ref t1, .ref t2, .ref t3, .ref t4]) nl5
    have v5 := upd_same (H := H58) (a := l5) (o := .lst [.ref t1, .ref t2, .ref t3, .ref t4])
    generalize upd H58 l5 (.lst [.ref t1, .ref t2, .ref t3, .ref t4]) = H59 at s59 v5 ⊢
    have sG := ((s57.trans s58).trans s59)
    have sG2 := s56.trans sG
    have sG1 := s55.trans sG2
    have st59 := st56.same sG
    have ro59 := ro54.same sG1
    have v1 := sG2 _ _ v1
    have v2 := sG _ _ v2
    have v3 := s59 _ _ (s58 _ _ v3)
    have v4 := s59 _ _ v4
    have h7 := sG1 _ _ h7
    have h41 := sG1 _ _ h41
    clear st54 ro54 ha54 s55 st55 s56 st56 s57 s58 s59 sG sG2 sG1
    have nd' : ss'.Nodup := pm'.nodup_iff.mpr (ndn 40 (by omega))
    have l39 : (ss'.filter fun x => decide (x ≠ rowN beg stp 7)).length = 39 := by
      have := filter_len nd' in7
      omega
    refine ⟨a, pa, fu', l5, _, ps, _, _, _, rfl, v5, by show 4 < 100; decide, st59.bk, by omega, ?_⟩
    -- taken
    refine .inl ⟨.take z0 (rowN beg stp 7), ⟨t1, _, rfl, v1, .take h7⟩, tok', ⟨few, fun t e => (by
      have := Option.some.inj (e.symm.trans fset_at)
      subst this
      exact rowN_ok)⟩, fun ans1 ms1 g1 tt1 => ?_, fun Cc fs no => absurd in7 (no_row fset_at no).2.2⟩
    obtain ⟨ea1, rfl, _, s1, pm1, srt1, rfl⟩ := to_take fset_at tt1
    rw [l39] at ea1
    subst ea1
    rw [fset_two]
    have l1 : s1.length = 39 := by rw [pm1.length_eq, l39]
    have out1 : rowN beg stp 41 ∉ s1 := fun m => out41 (List.mem_filter.mp (pm1.mem_iff.mp m)).1
    have ok1 : ∀ r ∈ s1, RowOk 2 r := fun r m => rowsN_ok r (pm'.mem_iff.mp (List.mem_filter.mp (pm1.mem_iff.mp m)).1)
    have nd1 : s1.Nodup := pm1.nodup_iff.mpr (nd'.filter _)
    have tok1 : TsOk (fset (f2 ps) z0 (2, s1)) := fset_ok f2_ok (by decide) (by decide) (by omega) nd1 ok1
    -- put
    refine .inl ⟨.put z0 (rowN beg stp 41), ⟨t2, _, rfl, v2, .put h41⟩, tok1, ⟨few, fun t e => (by
      have := Option.some.inj (e.symm.trans fset_at)
      subst this
      exact ⟨rowN_ok, fun _ => by show s1.length < 40; omega⟩)⟩, fun ans2 ms2 g2 tt2 => ?_, fun Cc fs no => absurd (no_there fset_at no).2.2 out1⟩
    obtain ⟨ea2, rfl, _, s2, pm2, srt2, rfl⟩ := to_put fset_at tt2
    rw [l1] at ea2
    subst ea2
    rw [fset_two]
    have tok2 : TsOk (fset (f2 ps) z0 (2, s2)) := fset_ok f2_ok (by decide) (by decide) (by rw [pm2.length_eq, List.length_append, l1]; show 39 + 1 ≤ 40; decide) (pm2.nodup_iff.mpr (snoc_nodup.mpr ⟨nd1, out1⟩)) fun r m => by
      rcases List.mem_append.mp (pm2.mem_iff.mp m) with m | m
      · exact ok1 r m
      · rw [List.mem_singleton.mp m]
        exact rowN_ok
    have some2 : ∃ t, fset (f2 ps) z0 (2, s2) y0 = some t := by
      by_cases c : y0 = z0
      · rw [c]
        exact ⟨_, fset_at⟩
      · rw [fset_ne c]
        exact ⟨_, f2_in my0⟩
    -- dropped
    refine .inl ⟨.drop y0, ⟨t3, _, rfl, v3, .drop⟩, tok2, few, fun ans3 ms3 g3 tt3 => ?_, fun Cc fs no => (by
      obtain ⟨t, et⟩ := some2
      cases no with
      | drop h => rw [et] at h; cases h)⟩
    cases tt3 with
    | drop h3 =>
    have fl := filter_len nd my0
    have tok3 : TsOk (fdel (fset (f2 ps) z0 (2, s2)) y0) := fun z t e => by
      unfold fdel at e
      split at e
      · cases e
      · exact tok2 z t e
    have none3 : fdel (fset (f2 ps) z0 (2, s2)) y0 sp = none := by
      unfold fdel
      split
      · rfl
      · have c : sp ≠ z0 := fun e => nsp (by rw [e]; exact mz0)
        rw [fset_ne c]
        exact f2_out nsp
    -- made
    refine .inl ⟨.make sp 1, ⟨t4, _, rfl, v4, .make⟩, tok3, ⟨by omega, gsp, by decide, by decide⟩, fun ans4 ms4 g4 tt4 => ?_, fun Cc fs no => (by
      cases no with
      | taken h => rw [none3] at h; cases h)⟩
    cases tt4 with
    | make h4 =>
    refine ⟨fun e => (by cases e), fun _ L5 fu60 H60 ob hL nf bk60 => ?_⟩
    have st60 := st59.told ob nf bk60
    have ro60 : Rows H60 us (rowsN beg stp 42) := FrB.rows (.onlyB ob) st59.bk ro59
    have hL : H60 L5 = some (.lst [.int 39, .int 40, .non, .non]) := hL
    -- what was told
    refine ⟨_, rfl, by show 4 ≤ sizeLine; decide, fun l6 nl6 => ?_⟩
    have s61 := same_new (o := HO.lst [.int 39, .int 40, .non, .non]) nl6
    have v6 := upd_same (H := H60) (a := l6) (o := .lst [.int 39, .int 40, .non, .non])
    generalize upd H60 l6 (.lst [.int 39, .int 40, .non, .non]) = H61 at s61 v6 ⊢
    have dT : ∀ {l : Addr}, H61 l = some (.lst [.int 39, .int 40, .non, .non]) → Dp K H61 (.ref l) (.list [.int 39, .int 40, .none, .none]) := fun h => .lst (SqL.of h) (.cons (.int _) (.cons (.int _) (.cons .non (.cons .non .nil))))
    have sh : SeqAt.shaped (.list [.int 39, .int 40, .none, .none]) = true := by decide +kernel
    refine ⟨_, _, dT (s61 _ _ hL), dT v6, sh, sh, _, rfl, ?_⟩
    rw [show PyData.eqv (.list [.int 39, .int 40, .none, .none]) (.list [.int 39, .int 40, .none, .none]) = true by decide +kernel]
    refine iteF (iteF ?_)
    have st61 := st60.same s61
    have ro61 := ro60.same s61
    obtain ⟨dx61, t61, ha61⟩ := st61.ins
    refine ⟨_, rfl, a, dx61, _, rfl, ha61, a, pa, fu60, _, _, _, _, rfl, st61.bk, _, rfl, by rw [List.length_append]; show _ + 1 < 2 ^ 62; omega, rfl, ?_⟩
    rw [decide_eq_true (congrArg V.int (show (((ps.filter fun z => decide (z ≠ y0)) ++ [sp]).length : Int) = 8 by rw [List.length_append]; show ((_ + 1 : Nat) : Int) = 8; omega))]
    refine ⟨false, rfl, iteF ?_⟩
    -- taken back
    refine ⟨_, rfl, a, dx61, _, rfl, ha61, bno (by decide +kernel) (by decide +kernel) (by decide +kernel), a, pa, fu60, _, _, past', [], (ps, fset (f2 ps) z0 (2, ss')), rfl, st61.bk, by decide, fun H62 ou bk62 => ?_⟩
    have st62 := st61.undo ou bk62
    have ro62 : Rows H62 us (rowsN beg stp 42) := FrB.rows (.onlyU ou) st61.bk ro61
    obtain ⟨dx62, t62, ha62⟩ := st62.ins
    -- the rows
    refine ⟨_, rfl, a, dx62, _, rfl, ha62, bno (by decide +kernel) (by decide +kernel) (by decide +kernel), _, rfl, a, pa, fu60, ps, _, _, _, z0, rfl, st62.bk, few, fun t0 e0 qa usa nqa roa => ?_, fun no => (by have no : fset (f2 ps) z0 (2, ss') z0 = none := no; rw [fset_at] at no; cases no)⟩
    obtain rfl : (2, ss') = t0 := Option.some.inj (fset_at.symm.trans e0)
    have s63 := same_new (o := HO.lst usa) nqa
    have hqa := upd_same (H := H62) (a := qa) (o := .lst usa)
    generalize upd H62 qa (.lst usa) = H63 at s63 hqa ⊢
    have st63 := st62.same s63
    have roa := roa.same s63
    refine ⟨_, rfl, _, rfl, lr, us, rfl, SqL.of st63.at0, fun c7 nc7 => ?_⟩
    rw [show cutV us none (some 40) = us.take 40 from cut_upto us (k := 40) (by omega)]
    have s64 := same_new (o := HO.lst (us.take 40)) nc7
    have hc7 := upd_same (H := H63) (a := c7) (o := .lst (us.take 40))
    generalize upd H63 c7 (.lst (us.take 40)) = H64 at s64 hc7 ⊢
    have ro40 : Rows H64 (us.take 40) (rowsN beg stp 40) := by
      have := ((ro62.same s63).same s64).takeN 40
      rwa [take_rowsN (by decide)] at this
    refine sort_rowsW hc7 ro40 (show 1 ≤ 2 by decide) rowsN_ok fun p8 ys8 ss8 np8 ro8 pm8 srt8 => ?_
    have e8 : ss' = ss8 := sorted_oneO (wd := 2) (fun r m => rowsN_ok r (pm'.mem_iff.mp m)) srt' srt8 (pm'.trans pm8.symm)
    subst e8
    have s65 := same_new (o := HO.lst ys8) np8
    have hp8 := upd_same (H := H64) (a := p8) (o := .lst ys8)
    generalize upd H64 p8 (.lst ys8) = H65 at s65 hp8 ⊢
    have s35 := s64.trans s65
    refine ⟨_, _, .lst (SqL.of (s35 _ _ hqa)) (roa.same s35).dp, .lst (SqL.of hp8) (ro8.same s65).dp, (lay_rows _).shaped (by decide), (lay_rows _).shaped (by decide), true, ?_, ?_⟩
    · rw [SeqAt.eqv_refl _ (lay_rows _).1]
    rw [if_pos rfl]
    -- the names
    have st65 := st63.same s35
    obtain ⟨dx65, t65, ha65⟩ := st65.ins
    refine ⟨_, rfl, a, dx65, _, rfl, ha65, bno (by decide +kernel) (by decide +kernel) (by decide +kernel), a, pa, fu60, ps, _, _, _, rfl, st65.bk, by omega, fun ys p9 pm9 sr9 np9 => ?_⟩
    have s66 := same_new (o := HO.lst (ys.map V.str)) np9
    have hp9 := upd_same (H := H65) (a := p9) (o := .lst (ys.map V.str))
    generalize upd H65 p9 (.lst (ys.map V.str)) = H66 at s66 hp9 ⊢
    refine ⟨_, rfl, q, ps, rfl, SqL.of (s66 _ _ st65.at1), by omega, fun ys2 pA pmA srA npA => ?_⟩
    have ey : ys2 = ys := sortedS_one (pmA.trans pm9.symm) srA sr9
    subst ey
    have s67 := same_new (o := HO.lst (ys2.map V.str)) npA
    have layN : Lay 1 (.list (ys2.map PyData.str)) := .list fun d m => by
      obtain ⟨z, mz, rfl⟩ := List.mem_map.mp m
      exact .str 0 (name_cps (nms z (pm9.mem_iff.mp mz)))
    refine ⟨_, _, .lst (SqL.of (s67 _ _ hp9)) (dp_strs _), .lst (SqL.of upd_same) (dp_strs _), layN.shaped (by decide), layN.shaped (by decide), ?_⟩
    rw [SeqAt.eqv_refl _ layN.1]
    exact k _
end
end VQ
namespace VQ
open PySem L2 LamX
/-! ### k58 put together -/
section
variable {P : Program} {w : World} {K : PySem.W.Frag} {mg : Str → Option Value} {base : Heap} {Ta NT NR BT Uf Fu TM QE No : Addr} {R : Ref} {X : RefX}
/-- a method of the book as it stands -/
def MthE (K : PySem.W.Frag) (C : Addr) (m q : Str) (st : Stmt) (ps : List Str) (f : Addr) (fd : FuncData) : Prop := Fun K m q st f fd ∧ Meth K C m f ∧ Binds K fd ps []
theorem FnOk.any {CX : CXT} {k : Nat} {f : Addr} {fd : FuncData} {ps : List Str} {sp : Sp} (F : FnOk P w K mg base CX0 k f fd ps sp) : FnOk P w K mg base CX k f fd ps sp :=
  ⟨F.len, fun A outer s H args us vs Q E hr he hb hv hs => PySem.codeAny_mono (F.run A outer s H args us vs Q E hr he hb hv hs) (by
    rintro (er | (_ | _ | _ | u)) s3 z <;> first | exact z | exact (show False from z).elim | exact z.elim)⟩
theorem Has.any {CX : CXT} {k : Nat} {x : Str} {st : Stmt} {ps : List Str} {sp : Sp} (h : Has P w K mg base CX0 k x st ps sp) : Has P w K mg base CX k x st ps sp := by
  obtain ⟨f, fd, a, F⟩ := h
  exact ⟨f, fd, a, FnOk.any F⟩
theorem law_all58 {f p1 p2 p3 C aB aAc aCo fI1 fI2 fI3 fI4 fI6 fI7 fI8 fI9 Mi gM fM fD fP fT fF fIn fDo fMa fSt fNa fWi fRo fLn fRp fMk fPu fTa fFi fUn fB fPl fO fS fTr fNu fWo fFt fCr : Addr} {fd d1 d2 d3 d4 d6 d7 d8 d9 dM fdM' dD dP dT dF dIn dDo dMa dSt dNa dWi dRo dLn dRp dMk dPu dTa dFi dUn fdB fdPl fdO fdS fdTr fdNu fdWo fdFt fdCr : FuncData} {mc : Value} {t1 t2 t3 t4 t5 t6 : Tok}
    (L : LamFun K base mg "law" "law" sLaw f fd p1) (LF : LamFun K base mg "_law_full_tables" "_law_full_tables" sLawFullTables fFt fdFt p2) (LC : LamFun K base mg "_law_crowd_refused" "_law_crowd_refused" sLawCrowdRefused fCr fdCr p3) (dd : Apart3 p1 p2 p3)
    (b : Blt mg) (ER : Errs mg Ta NT NR BT Uf Fu TM QE No) (FT : First K Ta NT NR R.ta) (FN : First K Ta NT NR R.nt) (FR : First K Ta NT NR R.nr) (FF : Third K Ta NT NR BT Uf Fu X.fu) (PTh : Plain K Ta NT NR BT Uf Fu TM QE No R.th) (PN : Plain K Ta NT NR BT Uf Fu TM QE No X.bn) (PW : Plain K Ta NT NR BT Uf Fu TM QE No X.bw) (PR : Plain K Ta NT NR BT Uf Fu TM QE No X.br) (xnt : X.nt = R.nt) (xta : X.ta = R.ta)
    (EY : ErrY K mg "Taken" "name" R.ta fI1 d1 "Taken.__init__" sTaken ["self", "name"]) (M : MissAt K mg Mi mc gM dM) (EN : ErrZ K mg "NoTable" "name" R.nt fI2 d2 "NoTable.__init__" sNoTable ["self", "name"]) (EW : ErrZ K mg "NoRow" "name" R.nr fI3 d3 "NoRow.__init__" sNoRow ["self", "name"])
    (ETh : ErrC K mg "There" R.th fI4 d4 "There.__init__" sThere) (EBN : ErrC K mg "BadName" X.bn fI6 d6 "BadName.__init__" sBadName) (EBW : ErrC K mg "BadWidth" X.bw fI7 d7 "BadWidth.__init__" sBadWidth) (EBR : ErrC K mg "BadRow" X.br fI8 d8 "BadRow.__init__" sBadRow) (EF : ErrY K mg "Full" "what" X.fu fI9 d9 "Full.__init__" sFull ["self", "what"])
    (Wml : mg "MOST_LETTERS" = some (.int 8 t1)) (Wmw : mg "MOST_WIDTH" = some (.int 4 t2)) (Wta : mg "MOST_TABLES" = some (.int 8 t3)) (Wro : mg "MOST_ROWS" = some (.int 40 t4)) (Wwo : mg "WORTHS" = some (.int 32 t5)) (Wle : mg "LETTERS" = some (.str letters t6)) (Wba : mg "BARRED" = some (.ref aB)) (Wbt : ∀ H, SqT K H aB [.str "find", .str "some"])
    (so : mg "sorted" = none) (su : mg "sum" = none) (rp : mg "repr" = none) (st : mg "set" = none) (di : mg "dict" = none)
    (gAc : mg "ACTIONS" = some (.ref aAc)) (tAc : ActTab K w aAc fM fD fP fT fF) (gCo : mg "COUNTS" = some (.ref aCo)) (tCo : CountTab K w aCo)
    (aMt : At K mg "make_table" sMakeTable ["tables", "name", "width"] fM fdM') (aDt : At K mg "drop_table" sDropTable ["tables", "name"] fD dD) (aPt : At K mg "put_row" sPutRow ["tables", "name", "row"] fP dP) (aTk : At K mg "take_row" sTakeRow ["tables", "name", "row"] fT dT) (aFt : At K mg "fill_table" sFillTable ["tables", "name", "rows"] fF dF)
    (aNu : At K mg "is_number" sIsNumber ["thing", "low", "behind"] fNu fdNu) (aWo : At K mg "is_worth" sIsWorth ["thing"] fWo fdWo) (eNm : AtE K mg "is_name" sIsName ["thing", "most"]) (eIr : AtE K mg "is_row" sIsRow ["thing", "width"]) (eAr : AtE K mg "are_rows" sAreRows ["thing", "width"]) (eNr : AtE K mg "need_row" sNeedRow ["row", "width"])
    (eTo : AtE K mg "table_of" sTableOf ["tables", "name"]) (eWr : AtE K mg "with_rows" sWithRows ["tables", "name", "rows"]) (eNd : AtE K mg "need_deed" sNeedDeed ["thing"]) (eDo : AtE K mg "done" sDone ["tables", "deed"])
    (T : BCls K C) (Mb : Mk K C fIn) (gBk : mg "Book" = some (.ref C)) (FI : Fun K "__init__" "Book.__init__" sBookInit fIn dIn) (bIn : Binds K dIn ["self"] [])
    (yDo : MthE K C "do" "Book.do" sBookDo ["self", "deed"] fDo dDo) (yMa : MthE K C "many" "Book.many" sBookMany ["self", "deeds"] fMa dMa) (ySt : MthE K C "steps" "Book.steps" sBookSteps ["self"] fSt dSt) (yNa : MthE K C "names" "Book.names" sBookNames ["self"] fNa dNa) (yWi : MthE K C "width" "Book.width" sBookWidth ["self", "name"] fWi dWi) (yRo : MthE K C "rows" "Book.rows" sBookRows ["self", "name"] fRo dRo)
    (yLn : MthE K C "__len__" "Book.__len__" sBookLen ["self"] fLn dLn) (yRp : MthE K C "__repr__" "Book.__repr__" sBookRepr ["self"] fRp dRp)
    (yMk : MthE K C "make" "Book.make" sBookMake ["self", "name", "width"] fMk dMk) (yPu : MthE K C "put" "Book.put" sBookPut ["self", "name", "row"] fPu dPu) (yTa : MthE K C "take" "Book.take" sBookTake ["self", "name", "row"] fTa dTa) (yFi : MthE K C "fill" "Book.fill" sBookFill ["self", "name", "rows"] fFi dFi)
    (yUn : MthE K C "undo" "Book.undo" sBookUndo ["self"] fUn dUn)
    (aB1 : At K mg "_law_bag" sBag ["_law_script"] fB fdB) (aPl : At K mg "_law_pull" sPull ["_law_bag_here", "_law_size"] fPl fdPl) (aO : At K mg "_law_of" sOf ["_law_bag_here", "_law_some"] fO fdO) (aS : At K mg "_law_same" sSame ["_law_found", "_law_due"] fS fdS)
    (aT : At K mg "_law_tried" sTried ["_law_ask"] fTr fdTr) (ePo : AtE K mg "_law_pool" sLawPool ["_law_bag_here", "_law_many", "_law_most"]) (eSd : AtE K mg "_law_stands" sLawStands ["_law_book", "_law_model"]) (eLw : AtE K mg "_law_long_way" sLawLongWay ["_law_book", "_law_name", "_law_row"])
    (aFl : At K mg "_law_full_tables" sLawFullTables ["_law_book", "_law_pool_here"] fFt fdFt) (aCr : At K mg "_law_crowd_refused" sLawCrowdRefused ["_law_bag_here", "_law_book", "_law_name", "_law_rows"] fCr fdCr) :
    FnOk P w K mg base CX0 14 f fd ["_law_script"] (spLaw3 K p1 p2 p3) := by
  have hNu : Has P w K mg base CX0 1 "is_number" sIsNumber ["thing", "low", "behind"] (spIsNumber K) := ⟨_, _, aNu, ok_isnumber aNu.fn b⟩
  have hWo : Has P w K mg base CX0 2 "is_worth" sIsWorth ["thing"] (spIsWorth K) := ⟨_, _, aWo, ok_isworth ⟨aWo, _, _, aNu⟩ b Wwo⟩
  have hNm : Has P w K mg base CX0 1 "is_name" sIsName ["thing", "most"] spIsName := has_isnameB b Wle Wba Wbt eNm
  have hNmX : Has P w K mg base CX0 1 "is_name" sIsName ["thing", "most"] spIsNameX := has_isnameX b Wle Wba Wbt eNm
  have hIr := has_isrow b hWo eIr
  have hIrX := has_isrowX b hWo eIr
  have hAr := has_arerowsE b st hIr eAr
  have hArO := has_arerowsO b st hIrX eAr
  have hNr := has_needrow hIr eNr
  have hNrO := has_needrowO EBR hIrX eNr
  have hTo := has_tableR (P := P) (w := w) (base := base) b M EN eTo
  have hToX : Has P w K mg base (L2.CX P w) 4 "table_of" sTableOf ["tables", "name"] (spTableR X.nt) := by rw [xnt]; exact hTo
  have EYX : ErrY K mg "Taken" "name" X.ta fI1 d1 "Taken.__init__" sTaken ["self", "name"] := by rw [xta]; exact EY
  have hWr := has_withrowsN (P := P) (w := w) (base := base) b so eWr
  have hM := has_makeR (R := R) b Wml Wmw Wta EY hNm hNu ⟨_, _, aMt⟩
  have hD := has_droptable (R := R) b hTo ⟨_, _, aDt⟩
  have hPu := has_putrow b Wro ETh hTo hNr hWr ⟨_, _, aPt⟩
  have hTk := has_takerow b M EW hTo hNr hWr ⟨_, _, aTk⟩
  have hF := has_fillR (R := R) b Wro hTo hAr hWr ⟨_, _, aFt⟩
  have xM := has_makeX (X := X) b Wml Wmw Wta EYX EBN EBW EF hNmX hNu ⟨_, _, aMt⟩
  have xP := has_putX (X := X) (fI := fI9) (fB := fI9) (dB := d9) (fdI := d9) b Wro EF hToX ((Has.any hNr).or hNrO) ⟨_, _, aPt⟩
  have xT := has_takeX (X := X) hToX hNrO ⟨_, _, aTk⟩
  have xF := has_fillX (X := X) b Wro EBR EF hToX (hAr.or hArO) ⟨_, _, aFt⟩
  have hNd := has_needD (P := P) (w := w) (base := base) b gCo tCo eNd
  have hNdX := has_needdeed (P := P) (w := w) (base := base) b gCo tCo eNd
  have hDo := (has_doneR b gAc tAc hNd (held_of aMt hM) (held_of aDt hD) (held_of aPt hPu) (held_of aTk hTk) (held_of aFt hF) eDo).or (has_doneX gAc tAc hNdX (held_of aMt xM) (held_of aPt xP) (held_of aTk xT) (held_of aFt xF) eDo)
  have gMa := ok_manyX (base := base) yMa.1 b T hDo
  have gDo := ok_doX yDo.1 T yMa.2.1 yMa.2.2 gMa
  have hS : Has P w K mg base CX0 4 "_law_same" sSame ["_law_found", "_law_due"] (spSame 3) := ⟨_, _, aS, ok_same aS b 3⟩
  have MB : BMeths P w K mg base C R fNa fLn fRp fWi fRo dNa dLn dRp dWi dRo := ⟨T, yNa.2.1, yNa.2.2, ok_bnames yNa.1 so T, yLn.2.1, yLn.2.2, ok_blen yLn.1 b T, yRp.2.1, yRp.2.2, ok_brepr yRp.1 b T, yWi.2.1, yWi.2.2, ok_bwidthN yWi.1 T hTo, yRo.2.1, yRo.2.2, ok_browsN yRo.1 b T hTo⟩
  have hPl : Has P w K mg base CX0 1 "_law_pull" sPull ["_law_bag_here", "_law_size"] spPull := ⟨_, _, aPl, ok_pull aPl.fn b.len⟩
  have hO : Has P w K mg base CX0 2 "_law_of" sOf ["_law_bag_here", "_law_some"] (spOfA K) := has_ofA b hPl ⟨_, _, aO⟩
  have hPo := has_pool b hPl ePo
  have hSd := has_stands b so su rp MB hS eSd
  have gSt := ok_bsteps (P := P) (w := w) (mg := mg) (base := base) ySt.1 b T
  have xc : XCls K Ta NT NR BT Uf Fu TM QE No R X := ⟨FT, FN, FR, PTh, PN, PW, PR, FF, xnt, xta⟩
  have gMk := ok_bmmake yMk.1 T yDo.2.1 yDo.2.2 gDo
  have gPu := ok_bmput yPu.1 T yDo.2.1 yDo.2.2 gDo
  have gTa := ok_bmtake yTa.1 T yDo.2.1 yDo.2.2 gDo
  have gFi := ok_bmfill yFi.1 T yDo.2.1 yDo.2.2 gDo
  have gUn := ok_bundo (P := P) (w := w) (mg := mg) (base := base) yUn.1 T
  have gFt := has_fulltables dd b T ER xc aT yMk.2.1 yMk.2.2 gMk LF
  have gCr := has_crowd dd b T ER xc aT hPl yFi.2.1 yFi.2.2 gFi LC
  have hLw := has_longway (R := R) (X := X) b T yTa.2.1 yTa.2.2 gTa yPu.2.1 yPu.2.2 gPu yUn.2.1 yUn.2.2 gUn ySt.2.1 ySt.2.2 gSt yRo.2.1 yRo.2.2 MB.gRo eLw
  exact ok_law L dd b ER xc st di so MB Mb gBk bIn (ok_binitN FI T) yFi.2.1 yFi.2.2 gFi yPu.2.1 yPu.2.2 gPu yTa.2.1 yTa.2.2 gTa yMa.2.1 yMa.2.2 gMa yUn.2.1 yUn.2.2 gUn aT ⟨_, _, aB1, ok_bag aB1.fn b.list⟩ hPl hO hPo hSd hLw aFl gFt aCr gCr
end
end VQ
namespace VQ
open PySem L2 LamX
/-! ### what the top has left -/
def oexB (K : PySem.W.Frag) (C : Addr) : Bool := match K.lookup C with
  | some ⟨cl, _, .cls cd, sl⟩ => decide (cl = .type "type") && (match cd.mro with
    | top :: bm => decide (top = .ref C) && PySem.HandSPX.refsVE bm
    | [] => false) && decide (sl.size = 6) && decide (sl[4]? = some (some (.builtin "ValueError.__new__"))) && cd.hasDict && !cd.hasDel
  | _ => false
theorem six {sl : Array (Option Value)} {v : Option Value} (h : sl.size = 6) (e : sl[4]? = some v) : ∃ k0 k1 k2 k3 k5, sl = #[k0, k1, k2, k3, v, k5] := by
  obtain ⟨l⟩ := sl
  match l, h, e with
  | [k0, k1, k2, k3, k4, k5], _, e =>
    cases e
    exact ⟨k0, k1, k2, k3, k5, rfl⟩
theorem oexB_ok {K : PySem.W.Frag} {C : Addr} (q : oexB K C = true) : ∃ nm q N bs bm sn sub ab col dd k0 k1 k2 k3 k5, K.lookup C = some (excClassObj nm q C N bs bm true sn sub ab col dd k0 k1 k2 k3 k5 "ValueError.__new__") ∧ PySem.HandSPX.refsVE bm = true := by
  unfold oexB at q
  cases here : K.lookup C with
  | none => rw [here] at q; cases q
  | some o =>
    obtain ⟨cl, dc, dt, sl⟩ := o
    rw [here] at q
    cases dt with
    | cls cd =>
      obtain ⟨nm, bs, mro, ns, qn, hasD, sn, sub, ab, col, del⟩ := cd
      cases mro with
      | nil => simp at q
      | cons first bm =>
        simp only [Bool.and_eq_true, decide_eq_true_eq, Bool.not_eq_true'] at q
        obtain ⟨⟨⟨⟨⟨q1, q2, q3⟩, q4⟩, q5⟩, q6⟩, q7⟩ := q
        obtain ⟨k0, k1, k2, k3, k5, rfl⟩ := six q4 q5
        subst q1 q2 q6 q7
        exact ⟨nm, qn, ns, bs, bm, sn, sub, ab, col, dc, k0, k1, k2, k3, k5, rfl, q3⟩
    | _ => cases q
/-- an error class of the program: made by its own __init__, its field called -/
def errB (K : PySem.W.Frag) (x : Str) : Bool := oexB K (He.ga K x) && (decide (PySem.W.findIn K (.ref (He.ga K x)) "__setattr__" = some (some (.builtin "object.__setattr__"))) &&
  (decide (PySem.W.subIn K (.ref (He.ga K x)) (.type "BaseException") = some true) && (decide (PySem.W.typeIn K (.ref (He.ga K x)) = some (.type "type")) && (PySem.W.keepIn K (.ref (He.ga K x)) &&
  (decide (PySem.W.findIn K (.ref (He.ga K x)) "__init__" = some (some (.ref (He.ma K (He.ga K x) "__init__")))) && (decide (PySem.W.typeIn K (.ref (He.ma K (He.ga K x) "__init__")) = some (.type "function")) &&
  decide (PySem.W.findIn K (.ref (He.ga K x)) "called" = some none)))))))
theorem errB_ok {K : PySem.W.Frag} {mg : Str → Option Value} {x qual : Str} {st : Stmt} {fd : FuncData} (h : errB K x = true) (gl : mg x = some (.ref (He.ga K x))) (fn : Fun K "__init__" qual st (He.ma K (He.ga K x) "__init__") fd) (bd : Binds K fd ["self"] []) :
    ErrC K mg x (He.ga K x) (He.ma K (He.ga K x) "__init__") fd qual st := by
  obtain ⟨h1, h⟩ := He.ba h
  obtain ⟨h2, h⟩ := He.ba h
  obtain ⟨h3, h⟩ := He.ba h
  obtain ⟨h4, h⟩ := He.ba h
  obtain ⟨h5, h⟩ := He.ba h
  obtain ⟨h6, h⟩ := He.ba h
  obtain ⟨h7, h8⟩ := He.ba h
  exact ⟨gl, ⟨oexB_ok h1, of_decide_eq_true h2, of_decide_eq_true h3, of_decide_eq_true h4, h5⟩, of_decide_eq_true h6, of_decide_eq_true h7, of_decide_eq_true h8, fn, bd⟩
theorem fun_of_D {K : PySem.W.Frag} {x qual : Str} {st : Stmt} {f : Addr} {fd : FuncData} (F : FunD K x qual (defArgs st) (defBody st) (defScope st) [] [] f fd) : Fun K x qual st f fd := by
  obtain ⟨oc, od, dV, kV, doc, pm, an, cdv, ct, osl, e, lk, cd, dv, kw⟩ := F.ex
  rcases dv with ⟨_, rfl⟩ | ⟨z, _⟩
  · exact ⟨⟨oc, od, kV, doc, pm, an, cdv, ct, osl, e, lk, cd⟩, F.kp⟩
  · exact absurd rfl z
/-- a def of the top -/
def dd (x : Str) (st : Stmt) : He.DefD := ⟨(x, none), x, x, defArgs st, defBody st, defScope st, [], []⟩
def dm (c m q : Str) (st : Stmt) : He.DefD := ⟨(c, some m), m, q, defArgs st, defBody st, defScope st, [], []⟩
end VQ
namespace VQ
open PySem L2 LamX
def plainB (K : PySem.W.Frag) (x : Str) : Bool := decide (PySem.W.exmAny K (.ref (He.ga K x)) [.ref (He.ga K "Taken"), .ref (He.ga K "NoTable"), .ref (He.ga K "NoRow")] = some false) &&
  (decide (PySem.W.exmAny K (.ref (He.ga K x)) [.ref (He.ga K "BadText"), .ref (He.ga K "Unfit")] = some false) && (decide (PySem.W.exmAny K (.ref (He.ga K x)) [.ref (He.ga K "Full")] = some false) &&
  (decide (PySem.W.exmAny K (.ref (He.ga K x)) [.ref (He.ga K "TooMany")] = some false) && (decide (PySem.W.exmAny K (.ref (He.ga K x)) [.ref (He.ga K "QuiltError"), .ref (He.ga K "Nothing")] = some true) &&
  (xfB K (He.ga K x) && decide (PySem.W.findIn K (.ref (He.ga K x)) "called" = some none))))))
theorem plainB_ok {K : PySem.W.Frag} {x : Str} (h : plainB K x = true) : Plain K (He.ga K "Taken") (He.ga K "NoTable") (He.ga K "NoRow") (He.ga K "BadText") (He.ga K "Unfit") (He.ga K "Full") (He.ga K "TooMany") (He.ga K "QuiltError") (He.ga K "Nothing") (He.ga K x) := by
  obtain ⟨h1, h⟩ := He.ba h
  obtain ⟨h2, h⟩ := He.ba h
  obtain ⟨h3, h⟩ := He.ba h
  obtain ⟨h4, h⟩ := He.ba h
  obtain ⟨h5, h⟩ := He.ba h
  obtain ⟨h6, h7⟩ := He.ba h
  exact ⟨of_decide_eq_true h1, of_decide_eq_true h2, of_decide_eq_true h3, of_decide_eq_true h4, of_decide_eq_true h5, xfB_ok h6, of_decide_eq_true h7⟩
end VQ
namespace VQ
open PySem L2 LamX
/-! ### a class of the program as the top has left it -/
def clsB (K : PySem.W.Frag) (x : Str) : Bool := PySem.W.plainGet K (He.ga K x) Str.empty && (PySem.W.hasDictIn K (He.ga K x) && (PySem.W.plainOver K (He.ga K x) && decide (PySem.W.findIn K (.ref (He.ga K x)) "__setattr__" = some (some (.builtin "object.__setattr__")))))
theorem clsB_ok {K : PySem.W.Frag} {x : Str} (h : clsB K x = true) : Cls K (He.ga K x) := by
  obtain ⟨h1, h⟩ := He.ba h
  obtain ⟨h2, h⟩ := He.ba h
  obtain ⟨h3, h4⟩ := He.ba h
  exact ⟨h1, h2, h3, of_decide_eq_true h4⟩
def noB (K : PySem.W.Frag) (x f : Str) : Bool := decide (PySem.W.findIn K (.ref (He.ga K x)) f = some none)
theorem noB_ok {K : PySem.W.Frag} {x f : Str} (h : noB K x f = true) : NoAttr K (He.ga K x) f := by
  show PySem.W.findIn K (.ref (He.ga K x)) f = some none
  exact of_decide_eq_true h
def methB (K : PySem.W.Frag) (x m : Str) : Bool := decide (PySem.W.findIn K (.ref (He.ga K x)) m = some (some (.ref (He.ma K (He.ga K x) m)))) && (PySem.W.isFn K (.ref (He.ma K (He.ga K x) m)) && PySem.W.keepIn K (.ref (He.ma K (He.ga K x) m)))
theorem methB_ok {K : PySem.W.Frag} {x m : Str} (h : methB K x m = true) : Meth K (He.ga K x) m (He.ma K (He.ga K x) m) := by
  obtain ⟨h1, h⟩ := He.ba h
  obtain ⟨h2, h3⟩ := He.ba h
  exact ⟨of_decide_eq_true h1, h2, h3⟩
def mkB (K : PySem.W.Frag) (x : Str) : Bool := PySem.W.makesIn K (He.ga K x) && (decide (PySem.W.findIn K (.ref (He.ga K x)) "__init__" = some (some (.ref (He.ma K (He.ga K x) "__init__")))) && (PySem.W.isFn K (.ref (He.ma K (He.ga K x) "__init__")) && PySem.W.keepIn K (.ref (He.ga K x))))
theorem mkB_ok {K : PySem.W.Frag} {x : Str} (h : mkB K x = true) : Mk K (He.ga K x) (He.ma K (He.ga K x) "__init__") := by
  obtain ⟨h1, h⟩ := He.ba h
  obtain ⟨h2, h⟩ := He.ba h
  obtain ⟨h3, h4⟩ := He.ba h
  exact ⟨h1, of_decide_eq_true h2, h3, h4⟩
end VQ
namespace VQ
open PySem L2 LamX
/-- a table of the top: its keys, its values -/
theorem tab_ok {K : PySem.W.Frag} {w : World} {x : Str} {kvs : List (Str × He.Dv)} (kd : ∃ es n, KDict K w (He.ga K x) es n) (hv : He.valsB K (He.ga K x) kvs = true) (hk : keysB K (He.ga K x) (kvs.map (·.1)) = true) : TabK K w (He.ga K x) (kvs.map fun q => (q.1, He.Dv.v K q.2)) := by
  refine ⟨kd, fun p mp => ?_, fun z nz => keysB_no hk (fun m => nz ?_)⟩
  · obtain ⟨q, mq, rfl⟩ := List.mem_map.mp mp
    exact He.valsB_ok hv mq
  · rw [List.map_map]
    exact m
end VQ
namespace VQ
open PySem L2 LamX
/-! ### refusals with a field, over ValueError and LookupError, as the top has left them -/
def oexTB (K : PySem.W.Frag) (C : Addr) (tl : List Value) (newId : String) : Bool := match K.lookup C with
  | some ⟨cl, _, .cls cd, sl⟩ => decide (cl = .type "type") && (match cd.mro with
    | top :: bm => decide (top = .ref C) && refsT tl bm
    | [] => false) && decide (sl.size = 6) && decide (sl[4]? = some (some (.builtin newId))) && cd.hasDict && !cd.hasDel
  | _ => false
theorem oexTB_ok {K : PySem.W.Frag} {C : Addr} {tl : List Value} {newId : String} (q : oexTB K C tl newId = true) : ∃ nm q N bs bm sn sub ab col dd k0 k1 k2 k3 k5, K.lookup C = some (excClassObj nm q C N bs bm true sn sub ab col dd k0 k1 k2 k3 k5 newId) ∧ refsT tl bm = true := by
  unfold oexTB at q
  cases here : K.lookup C with
  | none => rw [here] at q; cases q
  | some o =>
    obtain ⟨cl, dc, dt, sl⟩ := o
    rw [here] at q
    cases dt with
    | cls cd =>
      obtain ⟨nm, bs, mro, ns, qn, hasD, sn, sub, ab, col, del⟩ := cd
      cases mro with
      | nil => simp at q
      | cons first bm =>
        simp only [Bool.and_eq_true, decide_eq_true_eq, Bool.not_eq_true'] at q
        obtain ⟨⟨⟨⟨⟨q1, q2, q3⟩, q4⟩, q5⟩, q6⟩, q7⟩ := q
        obtain ⟨k0, k1, k2, k3, k5, rfl⟩ := six q4 q5
        subst q1 q2 q6 q7
        exact ⟨nm, qn, ns, bs, bm, sn, sub, ab, col, dc, k0, k1, k2, k3, k5, rfl, q3⟩
    | _ => cases q
def restB (K : PySem.W.Frag) (x fld : Str) : Bool := decide (PySem.W.findIn K (.ref (He.ga K x)) "__setattr__" = some (some (.builtin "object.__setattr__"))) &&
  (decide (PySem.W.subIn K (.ref (He.ga K x)) (.type "BaseException") = some true) && (decide (PySem.W.typeIn K (.ref (He.ga K x)) = some (.type "type")) && (PySem.W.keepIn K (.ref (He.ga K x)) &&
  (decide (PySem.W.findIn K (.ref (He.ga K x)) "__init__" = some (some (.ref (He.ma K (He.ga K x) "__init__")))) && (decide (PySem.W.typeIn K (.ref (He.ma K (He.ga K x) "__init__")) = some (.type "function")) &&
  (decide (PySem.W.findIn K (.ref (He.ga K x)) "called" = some none) && decide (PySem.W.findIn K (.ref (He.ga K x)) fld = some none)))))))
def errYB (K : PySem.W.Frag) (x fld : Str) : Bool := oexB K (He.ga K x) && restB K x fld
def errZB (K : PySem.W.Frag) (x fld : Str) : Bool := oexTB K (He.ga K x) tailL "LookupError.__new__" && restB K x fld
theorem errYB_ok {K : PySem.W.Frag} {mg : Str → Option Value} {x fld qual : Str} {st : Stmt} {ps : List Str} {fd : FuncData} (h : errYB K x fld = true) (gl : mg x = some (.ref (He.ga K x))) (fn : Fun K "__init__" qual st (He.ma K (He.ga K x) "__init__") fd) (bd : Binds K fd ps []) :
    ErrY K mg x fld (He.ga K x) (He.ma K (He.ga K x) "__init__") fd qual st ps := by
  obtain ⟨h1, h⟩ := He.ba h
  obtain ⟨h2, h⟩ := He.ba h
  obtain ⟨h3, h⟩ := He.ba h
  obtain ⟨h4, h⟩ := He.ba h
  obtain ⟨h5, h⟩ := He.ba h
  obtain ⟨h6, h⟩ := He.ba h
  obtain ⟨h7, h⟩ := He.ba h
  obtain ⟨h8, h9⟩ := He.ba h
  exact ⟨gl, ⟨oexB_ok h1, of_decide_eq_true h2, of_decide_eq_true h3, of_decide_eq_true h4, h5⟩, of_decide_eq_true h6, of_decide_eq_true h7, of_decide_eq_true h8, of_decide_eq_true h9, fn, bd⟩
theorem errZB_ok {K : PySem.W.Frag} {mg : Str → Option Value} {x fld qual : Str} {st : Stmt} {ps : List Str} {fd : FuncData} (h : errZB K x fld = true) (gl : mg x = some (.ref (He.ga K x))) (fn : Fun K "__init__" qual st (He.ma K (He.ga K x) "__init__") fd) (bd : Binds K fd ps []) :
    ErrZ K mg x fld (He.ga K x) (He.ma K (He.ga K x) "__init__") fd qual st ps := by
  obtain ⟨h1, h⟩ := He.ba h
  obtain ⟨h2, h⟩ := He.ba h
  obtain ⟨h3, h⟩ := He.ba h
  obtain ⟨h4, h⟩ := He.ba h
  obtain ⟨h5, h⟩ := He.ba h
  obtain ⟨h6, h⟩ := He.ba h
  obtain ⟨h7, h⟩ := He.ba h
  obtain ⟨h8, h9⟩ := He.ba h
  exact ⟨gl, ⟨oexTB_ok h1, of_decide_eq_true h2, of_decide_eq_true h3, of_decide_eq_true h4, h5⟩, of_decide_eq_true h6, of_decide_eq_true h7, of_decide_eq_true h8, of_decide_eq_true h9, fn, bd⟩
def missB (K : PySem.W.Frag) : Bool := PySem.W.readsIn K (He.ga K "Missing") (.type "type") && (decide (PySem.W.specialIn K (.ref (He.ga K "Missing")) "__getattribute__" = some (some (.builtin "type.__getattribute__"))) &&
  ((match PySem.W.findCls K (.ref (He.ga K "Missing")) (.type "type") "__init__" with
    | some (.val (.ref g)) => decide (g = He.ma K (He.ga K "Missing") "__init__")
    | _ => false) && PySem.W.keepIn K (.ref (He.ma K (He.ga K "Missing") "__init__"))))
theorem missB_ok {K : PySem.W.Frag} {mg : Str → Option Value} {fd : FuncData} (h : missB K = true) (gl : mg "Missing" = some (.ref (He.ga K "Missing"))) (fn : Fun K "__init__" "Missing.__init__" sMissing (He.ma K (He.ga K "Missing") "__init__") fd) (bd : Binds K fd ["self", "name"] []) :
    MissAt K mg (He.ga K "Missing") (.type "type") (He.ma K (He.ga K "Missing") "__init__") fd := by
  obtain ⟨h1, h⟩ := He.ba h
  obtain ⟨h2, h⟩ := He.ba h
  obtain ⟨h3, h4⟩ := He.ba h
  refine ⟨gl, ⟨h1, of_decide_eq_true h2⟩, ?_, h4, fn, bd⟩
  split at h3
  · rename_i g e
    rw [e, of_decide_eq_true h3]
  · cases h3
def firstB (K : PySem.W.Frag) (x : Str) : Bool := decide (PySem.W.exmAny K (.ref (He.ga K x)) [.ref (He.ga K "Taken"), .ref (He.ga K "NoTable"), .ref (He.ga K "NoRow")] = some true) &&
  (xfB K (He.ga K x) && (decide (PySem.W.findIn K (.ref (He.ga K x)) "called" = some none) && decide (PySem.W.findIn K (.ref (He.ga K x)) "name" = some none)))
theorem firstB_ok {K : PySem.W.Frag} {x : Str} (h : firstB K x = true) : First K (He.ga K "Taken") (He.ga K "NoTable") (He.ga K "NoRow") (He.ga K x) := by
  obtain ⟨h1, h⟩ := He.ba h
  obtain ⟨h2, h⟩ := He.ba h
  obtain ⟨h3, h4⟩ := He.ba h
  exact ⟨of_decide_eq_true h1, xfB_ok h2, of_decide_eq_true h3, of_decide_eq_true h4⟩
abbrev refOf (K : PySem.W.Frag) : Ref := ⟨He.ga K "Taken", He.ga K "NoTable", He.ga K "NoRow", He.ga K "There"⟩
end VQ
namespace VQ
open PySem L2 LamX
/-! ### Full, as the top has left it -/
def thirdB (K : PySem.W.Frag) (x : Str) : Bool := decide (PySem.W.exmAny K (.ref (He.ga K x)) [.ref (He.ga K "Taken"), .ref (He.ga K "NoTable"), .ref (He.ga K "NoRow")] = some false) &&
  (decide (PySem.W.exmAny K (.ref (He.ga K x)) [.ref (He.ga K "BadText"), .ref (He.ga K "Unfit")] = some false) && (decide (PySem.W.exmAny K (.ref (He.ga K x)) [.ref (He.ga K "Full")] = some true) &&
  (xfB K (He.ga K x) && (decide (PySem.W.findIn K (.ref (He.ga K x)) "called" = some none) && decide (PySem.W.findIn K (.ref (He.ga K x)) "what" = some none)))))
theorem thirdB_ok {K : PySem.W.Frag} {x : Str} (h : thirdB K x = true) : Third K (He.ga K "Taken") (He.ga K "NoTable") (He.ga K "NoRow") (He.ga K "BadText") (He.ga K "Unfit") (He.ga K "Full") (He.ga K x) := by
  obtain ⟨h1, h⟩ := He.ba h
  obtain ⟨h2, h⟩ := He.ba h
  obtain ⟨h3, h⟩ := He.ba h
  obtain ⟨h4, h⟩ := He.ba h
  obtain ⟨h5, h6⟩ := He.ba h
  exact ⟨of_decide_eq_true h1, of_decide_eq_true h2, of_decide_eq_true h3, xfB_ok h4, of_decide_eq_true h5, of_decide_eq_true h6⟩
abbrev refX (K : PySem.W.Frag) : RefX := ⟨He.ga K "BadName", He.ga K "BadWidth", He.ga K "BadRow", He.ga K "Full", He.ga K "NoTable", He.ga K "Taken"⟩
end VQ
namespace VQ
open PySem L2 LamX
/-- a def that makes lambdas, as it stands -/
theorem lam_of {K : PySem.W.Frag} {base : Heap} {mg : Str → Option Value} {x : Str} {st : Stmt} {fd : FuncData} (F : Fun K x x st (He.ga K x) fd) (TB : TabB base mg (He.cT K (x, none)).1 (He.cT K (x, none)).2) : LamFun K base mg x x st (He.ga K x) fd (He.cT K (x, none)).2 := by
  obtain ⟨oc, od, kV, doc, pm, an, cdv, ct, osl, efd, lk, hcd⟩ := F.ex
  obtain ⟨cc, rfl⟩ := He.codeIn_ref hcd
  have ec : He.codeOf K (x, none) = cc := He.codeOf_eq (p := (x, none)) lk (by rw [efd])
  have e1 : (He.cT K (x, none)).1 = cc := ec
  rw [e1] at TB
  exact ⟨oc, od, kV, doc, pm, an, cc, ct, osl, efd, lk, hcd, TB⟩
end VQ
namespace VQ
open PySem L2
/-! ### the head's run in parts, over a list of addresses that is cheap to make, for laws with lambdas as well -/
/-- what the names reach in n steps: all so far, the last step's -/
def asL (g : Addr → Option Obj) : Nat → List Addr × List Addr
  | 0 => ([mainGlobals, cStatics], [mainGlobals])
  | n + 1 => match asL g n with
    | (all, last) => match (last.flatMap fun a => match g a with
        | some o => He.refsD o
        | none => []) with
      | nx => (all ++ nx, nx)
def frM (n : Nat) (g : Addr → Option Obj) : PySem.W.Frag := He.frT g (asL g n).1
section
variable {n : Nat} {fa : List He.Fa} {fn : List He.DefD} {ts : List He.Tab} {tf : List He.Defn} {ex : PySem.W.Frag → Bool} {g : Addr → Option Obj}
def obsM (n : Nat) (fa : List He.Fa) (fn : List He.DefD) (ts : List He.Tab) (tf : List He.Defn) (ex : PySem.W.Frag → Bool) (g : Addr → Option Obj) : He.AlX := (He.obsT fa fn ts (frM n g), ex (frM n g) && He.tabsB g tf (frM n g))
theorem saysM {w : World} {hp : Heap} (e : obsM n fa fn ts tf ex hp.get? = He.valX fn ts w) : He.SaysX fa fn ts tf ex w hp (frM n hp.get?) := by
  have both : (ex (frM n hp.get?) && He.tabsB hp.get? tf (frM n hp.get?)) = true := congrArg (fun y : He.AlX => y.2) e
  obtain ⟨more, tabs⟩ := He.ba both
  have one : ∀ q ∈ tf, PySem.W.codeHdIn (frM n hp.get?) (He.cT (frM n hp.get?) q).1 (He.cT (frM n hp.get?) q).2 = true ∧ ∃ ob, hp.get? (He.cT (frM n hp.get?) q).2 = some ob ∧ He.emptyTab ob = true := fun q mq => by
    obtain ⟨y1, y2⟩ := He.ba (List.all_eq_true.mp tabs q mq)
    cases here : hp.get? (He.cT (frM n hp.get?) q).2 with
    | none => rw [here] at y2; cases y2
    | some ob => rw [here] at y2; exact ⟨y1, ob, rfl, y2⟩
  refine ⟨congrArg (fun y : He.AlX => y.1) e, more, fun q mq => (one q mq).1, fun q mq => ?_, fun q mq => ?_⟩
  · obtain ⟨_, ob, here, em⟩ := one q mq
    exact He.frT_none here em
  · obtain ⟨_, ob, here, em⟩ := one q mq
    rw [here, He.emptyTab_eq em]
def hookM (n : Nat) (fa : List He.Fa) (fn : List He.DefD) (ts : List He.Tab) (tf : List He.Defn) (ex : PySem.W.Frag → Bool) : PySem.W.Hook where
  α := He.AlX
  obs := fun y => obsM n fa fn ts tf ex y.heap.get?
  val := fun v => He.valX fn ts v
  says := fun v hp => ∃ K : PySem.W.Frag, K.In hp ∧ He.SaysX fa fn ts tf ex v hp K
  of := fun _ _ e => ⟨_, He.frT_in, saysM e⟩
  keeps := fun _ _ _ ⟨K, inH, c⟩ kp => ⟨K, PySem.W.Frag.In.keeps inH kp, ⟨c.t, c.more, c.hd, c.out, fun q mq => kp _ _ (c.empty q mq)⟩⟩
theorem obsM_eq {s : Shared} (h : ∀ a, g a = s.heap.get? a) : obsM n fa fn ts tf ex g = (hookM n fa fn ts tf ex).obs s := by
  rw [show g = s.heap.get? from funext h]
  rfl
def obs1 (n : Nat) (fn : List He.DefD) (g : Addr → Option Obj) : Bool × List He.FnW := (fn.all fun d => d.ok (frM n g), fn.map fun d => He.fnW (frM n g) d.at_)
def obs2 (n : Nat) (fa : List He.Fa) (ts : List He.Tab) (tf : List He.Defn) (ex : PySem.W.Frag → Bool) (g : Addr → Option Obj) : Bool × List (Option (List (Option (Str × Int)))) × Bool := (fa.all fun f => f.ok (frM n g), ts.map (fun t => He.dicW (frM n g) (t.1 (frM n g))), (ex (frM n g) && He.tabsB g tf (frM n g)))
theorem obs_parts {fv : List He.FnW} {tv : List (Option (List (Option (Str × Int))))} (h1 : obs1 n fn g = (true, fv)) (h2 : obs2 n fa ts tf ex g = (true, tv, true)) : obsM n fa fn ts tf ex g = (((true, fv), tv), true) := by
  have a1 := congrArg (·.1) h1
  have a2 := congrArg (·.2) h1
  have b1 := congrArg (·.1) h2
  have b2 := congrArg (·.2.1) h2
  have b3 := congrArg (·.2.2) h2
  exact congr (congrArg Prod.mk (congr (congrArg Prod.mk (congr (congrArg Prod.mk (congr (congrArg and b1) a1)) a2)) b2)) b3
theorem parts_of {σ α β : Type} {o : Option σ} {F : σ → α × β} {G : σ → Addr → Option Obj} {v : α × β} {fv : List He.FnW} {tv : List (Option (List (Option (Str × Int))))} (a : o.map F = some v) (b : o.map (fun s => obs1 n fn (G s)) = some (true, fv)) (c : o.map (fun s => obs2 n fa ts tf ex (G s)) = some (true, tv, true)) : o.map (fun s => ((F s).1, (F s).2, obsM n fa fn ts tf ex (G s))) = some (v.1, v.2, (((true, fv), tv), true)) := by
  cases o with
  | none => cases a
  | some s =>
    have a' := Option.some.inj a
    have e := obs_parts (Option.some.inj b) (Option.some.inj c)
    show some ((F s).1, (F s).2, obsM n fa fn ts tf ex (G s)) = _
    rw [a', e]
open PySem.W PySem.Calls PyProof.Rows HandSHeadRun
theorem run_eq {r : OpenRow} {q : Program} {M : Nat} {loose : List PySem.Str} {w : World}
    (a : ∀ os : OsState, (endF (stepQ (denQ tabQ) r.prog w) M r.prog w os).map (fun s => (looksF r.prog (boot_heap w.params) s.abs, seenQ q loose (importedModules r.prog.main.body) (fun s => xlAt q [] s && recOk r.toRowW.records s) s.abs)) = some (true, openGood q loose))
    (b : ∀ os : OsState, (endF (stepQ (denQ tabQ) r.prog w) M r.prog w os).map (fun s => obs1 n fn (getT s)) = some (true, fn.map He.DefD.val))
    (c : ∀ os : OsState, (endF (stepQ (denQ tabQ) r.prog w) M r.prog w os).map (fun s => obs2 n fa ts tf ex (getT s)) = some (true, ts.map (fun t => some (He.keysIn w.params t.2)), true)) : RunEq r q (hookM n fa fn ts tf ex) (fun s => obsM n fa fn ts tf ex (getT s)) M loose w := fun os => by
  have z := parts_of (a os) (b os) (c os)
  exact z
end
end VQ
/-! ### the head: what the top has left, by names -/
namespace VQ
open PySem L2 LamX
def fn : List He.DefD := [dd "_law_bag" sBag, dd "_law_pull" sPull, dd "_law_of" sOf, dd "_law_same" sSame, dd "_law_tried" sTried, dd "_law_pool" sLawPool, dd "_law_stands" sLawStands, dd "_law_full_tables" sLawFullTables, dd "_law_crowd_refused" sLawCrowdRefused, dd "_law_long_way" sLawLongWay, dd "is_number" sIsNumber, dd "is_worth" sIsWorth, dd "is_name" sIsName, dd "is_row" sIsRow, dd "are_rows" sAreRows, dd "need_row" sNeedRow, dd "table_of" sTableOf, dd "with_rows" sWithRows, dd "make_table" sMakeTable, dd "drop_table" sDropTable, dd "put_row" sPutRow, dd "take_row" sTakeRow, dd "fill_table" sFillTable, dd "need_deed" sNeedDeed, dd "done" sDone, dm "There" "__init__" "There.__init__" sThere, dm "BadName" "__init__" "BadName.__init__" sBadName, dm "BadWidth" "__init__" "BadWidth.__init__" sBadWidth, dm "BadRow" "__init__" "BadRow.__init__" sBadRow, dm "Book" "__init__" "Book.__init__" sBookInit, dm "Book" "do" "Book.do" sBookDo, dm "Book" "many" "Book.many" sBookMany, dm "Book" "steps" "Book.steps" sBookSteps, dm "Book" "names" "Book.names" sBookNames, dm "Book" "width" "Book.width" sBookWidth, dm "Book" "rows" "Book.rows" sBookRows, dm "Book" "__len__" "Book.__len__" sBookLen, dm "Book" "__repr__" "Book.__repr__" sBookRepr, dm "Book" "make" "Book.make" sBookMake, dm "Book" "put" "Book.put" sBookPut, dm "Book" "take" "Book.take" sBookTake, dm "Book" "fill" "Book.fill" sBookFill, dm "Book" "undo" "Book.undo" sBookUndo, dm "Taken" "__init__" "Taken.__init__" sTaken, dm "NoTable" "__init__" "NoTable.__init__" sNoTable, dm "NoRow" "__init__" "NoRow.__init__" sNoRow, dm "Missing" "__init__" "Missing.__init__" sMissing, dm "Full" "__init__" "Full.__init__" sFull, dd "law" sLaw]
def fa : List He.Fa := [.free "isinstance", .free "int", .free "bool", .free "str", .free "list", .free "tuple", .free "len", .free "all", .free "range", .free "sum", .free "repr", .free "set", .free "sorted", .free "dict", .int "WORTHS" 32, .int "MOST_WIDTH" 4, .int "MOST_LETTERS" 8, .int "MOST_TABLES" 8, .int "MOST_ROWS" 40, .str "LETTERS" "abcdefghijklmnopqrstuvwxyz", .glo "BARRED", .glo "ACTIONS", .glo "COUNTS", .glo "Missing", .glo "Taken", .glo "NoTable", .glo "NoRow", .glo "BadText", .glo "Unfit", .glo "Full", .glo "TooMany", .glo "QuiltError", .glo "Nothing", .glo "_law_bag", .glo "_law_pull", .glo "_law_of", .glo "_law_same", .glo "_law_tried", .glo "_law_pool", .glo "_law_stands", .glo "_law_full_tables", .glo "_law_crowd_refused", .glo "_law_long_way", .glo "is_number", .glo "is_worth", .glo "is_name", .glo "is_row", .glo "are_rows", .glo "need_row", .glo "table_of", .glo "with_rows", .glo "make_table", .glo "drop_table", .glo "put_row", .glo "take_row", .glo "fill_table", .glo "need_deed", .glo "done", .glo "There", .glo "BadName", .glo "BadWidth", .glo "BadRow", .glo "Book", .glo "law"]
def ex (K : PySem.W.Frag) : Bool := ((errB K "There" && plainB K "There") && (errB K "BadName" && plainB K "BadName") && (errB K "BadWidth" && plainB K "BadWidth") && (errB K "BadRow" && plainB K "BadRow")) && ((clsB K "Book") && ((mkB K "Book") && ((noB K "Book" "tables") && ((noB K "Book" "past") && ((noB K "Book" "future") && ((methB K "Book" "do") && ((methB K "Book" "many") && ((methB K "Book" "steps") && ((methB K "Book" "names") && ((methB K "Book" "width") && ((methB K "Book" "rows") && ((methB K "Book" "__len__") && ((methB K "Book" "__repr__") && ((methB K "Book" "make") && ((methB K "Book" "put") && ((methB K "Book" "take") && ((methB K "Book" "fill") && ((methB K "Book" "undo") && ((He.tupB K "BARRED" [.str "find", .str "some"]) && ((He.valsB K (He.ga K "ACTIONS") [("make", .glo "make_table"), ("drop", .glo "drop_table"), ("put", .glo "put_row"), ("take", .glo "take_row"), ("fill", .glo "fill_table")]) && ((keysB K (He.ga K "ACTIONS") ["make", "drop", "put", "take", "fill"]) && ((He.valsB K (He.ga K "COUNTS") [("make", .int 3), ("drop", .int 2), ("put", .int 3), ("take", .int 3), ("fill", .int 3)]) && ((keysB K (He.ga K "COUNTS") ["make", "drop", "put", "take", "fill"]) && ((errYB K "Taken" "name") && ((errZB K "NoTable" "name") && ((errZB K "NoRow" "name") && ((missB K) && ((firstB K "Taken") && ((firstB K "NoTable") && ((firstB K "NoRow") && ((errYB K "Full" "what") && ((thirdB K "Full") && ((decide ((He.cT K ("law", none)).2 ≠ (He.cT K ("_law_full_tables", none)).2)) && ((decide ((He.cT K ("law", none)).2 ≠ (He.cT K ("_law_crowd_refused", none)).2)) && (decide ((He.cT K ("_law_full_tables", none)).2 ≠ (He.cT K ("_law_crowd_refused", none)).2))))))))))))))))))))))))))))))))))))
def ts : List He.Tab := [((fun K => He.ga K "ACTIONS"), ["make", "drop", "put", "take", "fill"]), ((fun K => He.ga K "COUNTS"), ["make", "drop", "put", "take", "fill"])]
abbrev Rw : PySem.W.OpenRow := PySem.W.OpenLaw.row PySem.Challenge.rw_voidquilt_k58_books_that_are_full
abbrev hk : PySem.W.Hook := hookM 4 fa fn ts [("law", none), ("_law_full_tables", none), ("_law_crowd_refused", none)] ex
def ob (s : PySem.W.SharedT) : He.AlX := obsM 4 fa fn ts [("law", none), ("_law_full_tables", none), ("_law_crowd_refused", none)] ex (HandSHeadRun.getT s)
theorem ob_eq (s : PySem.W.SharedT) : ob s = hk.obs s.abs := obsM_eq (HandSHeadRun.getT_eq s)
def loose : List PySem.Str := (["_wall", "QuiltError", "BadName", "Taken", "BadWidth", "BadRow", "There", "Full", "BadDeed", "BadText", "Unfit", "TooMany", "Missing", "NoTable", "NoRow", "Nothing", "WORTHS", "is_number", "is_worth", "MOST_TABLES", "MOST_ROWS", "MOST_WIDTH", "MOST_LETTERS", "LETTERS", "BARRED", "is_name", "is_row", "are_rows", "need_row", "table_of"] : List PySem.Str) ++ (["with_rows", "make_table", "drop_table", "put_row", "take_row", "fill_table", "ACTIONS", "COUNTS", "need_deed", "done", "Book", "_law_bag", "_law_pull", "_law_of", "_law_same", "_law_tried", "_law_pool", "_law_stands", "_law_full_tables", "_law_crowd_refused", "_law_long_way"] : List PySem.Str)
section
open PySem.W PySem.Calls PyProof.Rows HandSHeadRun
abbrev lkP (w : World) : Prop := ∀ os : OsState, (endF (stepQ (denQ tabQ) Rw.prog w) 40000 Rw.prog w os).map (fun s => (looksF Rw.prog (boot_heap w.params) s.abs, seenQ (PySem.W.view Rw.prog [55]) loose (importedModules Rw.prog.main.body) (fun s => xlAt (PySem.W.view Rw.prog [55]) [] s && recOk Rw.toRowW.records s) s.abs)) = some (true, openGood (PySem.W.view Rw.prog [55]) loose)
abbrev o1P (w : World) : Prop := ∀ os : OsState, (endF (stepQ (denQ tabQ) Rw.prog w) 40000 Rw.prog w os).map (fun s => obs1 4 fn (getT s)) = some (true, fn.map He.DefD.val)
abbrev o2P (w : World) : Prop := ∀ os : OsState, (endF (stepQ (denQ tabQ) Rw.prog w) 40000 Rw.prog w os).map (fun s => obs2 4 fa ts [("law", none), ("_law_full_tables", none), ("_law_crowd_refused", none)] ex (getT s)) = some (true, ts.map (fun t => some (He.keysIn w.params t.2)), true)
theorem run_parts {w : World} (a : lkP w) (b : o1P w) (c : o2P w) : RunEq Rw (PySem.W.view Rw.prog [55]) hk ob 40000 loose w := run_eq (n := 4) (fa := fa) (fn := fn) (ts := ts) (tf := [("law", none), ("_law_full_tables", none), ("_law_crowd_refused", none)]) (ex := ex) a b c
end
theorem lkF (w : World) : lkP (w.withFollow "special-get-raises" false) := by
  intro os
  kernel_rfl
theorem o1F (w : World) : o1P (w.withFollow "special-get-raises" false) := by
  intro os
  kernel_rfl
theorem o2F (w : World) : o2P (w.withFollow "special-get-raises" false) := by
  intro os
  kernel_rfl
theorem lkT (w : World) : lkP (w.withFollow "special-get-raises" true) := by
  intro os
  kernel_rfl
theorem o1T (w : World) : o1P (w.withFollow "special-get-raises" true) := by
  intro os
  kernel_rfl
theorem o2T (w : World) : o2P (w.withFollow "special-get-raises" true) := by
  intro os
  kernel_rfl
theorem run (w : World) : HandSHeadRun.RunEq Rw (PySem.W.view Rw.prog [55]) hk ob 40000 loose w := PySem.W.byRow2 "special-get-raises" (P := fun w => HandSHeadRun.RunEq Rw (PySem.W.view Rw.prog [55]) hk ob 40000 loose w) (fun w => run_parts (lkF w) (o1F w) (o2F w)) (fun w => run_parts (lkT w) (o1T w) (o2T w)) w
theorem at_of {K : PySem.W.Frag} {h : Heap} {mg : Str → Option Value} (X : K.In h) (G : h.Ns mainGlobals mg) {x : Str} {st : Stmt} {ps : List Str} (c : He.SaysD fa fn K) (m : dd x st ∈ fn) (g : He.Fa.glo x ∈ fa)
    (hb : ∀ (kV doc pm : Value) (an : Option Addr) (cdv ct : Value) (us : List Value), us.length = ps.length → bindArgs (PySem.W.fnOf x x (defArgs st) (defBody st) (defScope st) .none kV doc pm an cdv ct) ⟨us, []⟩ = pure (ps.zip us)) : ∃ fd, At K mg x st ps (He.ga K x) fd := by
  obtain ⟨fd, F⟩ := c.defs m
  have F' : Fun K x x st (He.ga K x) fd := fun_of_D F
  exact ⟨fd, F', He.glo_ok X G (c.facts g), F'.binds hb⟩
theorem facts {l : PySem.W.OpenLaw} {w : World} {K : PySem.W.Frag} {h : Heap} {mg : Str → Option Value} {f : Addr} (X : K.In h) (G : h.Ns mainGlobals mg) (hfa : mg ("law" : Str) = some (.ref f)) (S : He.SaysX fa fn ts [("law", none), ("_law_full_tables", none), ("_law_crowd_refused", none)] ex w h K) : LawAtS l w K CX0 14 63 "_law_script" mg f h := by
  have c : He.SaysD fa fn K := S.t.d
  have gl : ∀ {x : Str}, He.Fa.glo x ∈ fa → mg x = some (.ref (He.ga K x)) := fun m => He.glo_ok X G (c.facts m)
  have fr : ∀ {x : Str}, He.Fa.free x ∈ fa → mg x = none := fun m => He.free_ok X G (c.facts m)
  obtain ⟨tkWORTHS, iWORTHS⟩ := He.int_ok X G (x := "WORTHS") (i := 32) (c.facts (by simp [fa]))
  obtain ⟨tkMOST_WIDTH, iMOST_WIDTH⟩ := He.int_ok X G (x := "MOST_WIDTH") (i := 4) (c.facts (by simp [fa]))
  obtain ⟨tkMOST_LETTERS, iMOST_LETTERS⟩ := He.int_ok X G (x := "MOST_LETTERS") (i := 8) (c.facts (by simp [fa]))
  obtain ⟨tkMOST_TABLES, iMOST_TABLES⟩ := He.int_ok X G (x := "MOST_TABLES") (i := 8) (c.facts (by simp [fa]))
  obtain ⟨tkMOST_ROWS, iMOST_ROWS⟩ := He.int_ok X G (x := "MOST_ROWS") (i := 40) (c.facts (by simp [fa]))
  obtain ⟨tkLETTERS, iLETTERS⟩ := He.str_ok X G (x := "LETTERS") (z := "abcdefghijklmnopqrstuvwxyz") (c.facts (by simp [fa]))
  have gBARRED := gl (x := "BARRED") (by simp [fa])
  have gACTIONS := gl (x := "ACTIONS") (by simp [fa])
  have gCOUNTS := gl (x := "COUNTS") (by simp [fa])
  have gMissing := gl (x := "Missing") (by simp [fa])
  have b : Blt mg := ⟨fr (by simp [fa]), fr (by simp [fa]), fr (by simp [fa]), fr (by simp [fa]), fr (by simp [fa]), fr (by simp [fa]), fr (by simp [fa]), fr (by simp [fa]), fr (by simp [fa])⟩
  have fsum : mg "sum" = none := fr (by simp [fa])
  have frepr : mg "repr" = none := fr (by simp [fa])
  have fset : mg "set" = none := fr (by simp [fa])
  have fsorted : mg "sorted" = none := fr (by simp [fa])
  have fdict : mg "dict" = none := fr (by simp [fa])
  have ER : Errs mg (He.ga K "Taken") (He.ga K "NoTable") (He.ga K "NoRow") (He.ga K "BadText") (He.ga K "Unfit") (He.ga K "Full") (He.ga K "TooMany") (He.ga K "QuiltError") (He.ga K "Nothing") :=
    ⟨gl (by simp [fa]), gl (by simp [fa]), gl (by simp [fa]), gl (by simp [fa]), gl (by simp [fa]), gl (by simp [fa]), gl (by simp [fa]), gl (by simp [fa]), gl (by simp [fa])⟩
  have tACTIONS : ∃ es n, KDict K w (He.ga K "ACTIONS") es n := S.t.tab 0
  have tCOUNTS : ∃ es n, KDict K w (He.ga K "COUNTS") es n := S.t.tab 1
  obtain ⟨fdITaken, FITaken⟩ := c.defs (d := dm "Taken" "__init__" "Taken.__init__" sTaken) (by simp [fn])
  have FFTaken : Fun K "__init__" "Taken.__init__" sTaken (He.ma K (He.ga K "Taken") "__init__") fdITaken := fun_of_D FITaken
  have bFTaken : Binds K fdITaken ["self", "name"] [] := FFTaken.binds fun _ _ _ _ _ _ us hl => match us, hl with | [_, _], _ => rfl
  obtain ⟨fdINoTable, FINoTable⟩ := c.defs (d := dm "NoTable" "__init__" "NoTable.__init__" sNoTable) (by simp [fn])
  have FFNoTable : Fun K "__init__" "NoTable.__init__" sNoTable (He.ma K (He.ga K "NoTable") "__init__") fdINoTable := fun_of_D FINoTable
  have bFNoTable : Binds K fdINoTable ["self", "name"] [] := FFNoTable.binds fun _ _ _ _ _ _ us hl => match us, hl with | [_, _], _ => rfl
  obtain ⟨fdINoRow, FINoRow⟩ := c.defs (d := dm "NoRow" "__init__" "NoRow.__init__" sNoRow) (by simp [fn])
  have FFNoRow : Fun K "__init__" "NoRow.__init__" sNoRow (He.ma K (He.ga K "NoRow") "__init__") fdINoRow := fun_of_D FINoRow
  have bFNoRow : Binds K fdINoRow ["self", "name"] [] := FFNoRow.binds fun _ _ _ _ _ _ us hl => match us, hl with | [_, _], _ => rfl
  obtain ⟨fdIMissing, FIMissing⟩ := c.defs (d := dm "Missing" "__init__" "Missing.__init__" sMissing) (by simp [fn])
  have FFMissing : Fun K "__init__" "Missing.__init__" sMissing (He.ma K (He.ga K "Missing") "__init__") fdIMissing := fun_of_D FIMissing
  have bFMissing : Binds K fdIMissing ["self", "name"] [] := FFMissing.binds fun _ _ _ _ _ _ us hl => match us, hl with | [_, _], _ => rfl
  obtain ⟨fdIFull, FIFull⟩ := c.defs (d := dm "Full" "__init__" "Full.__init__" sFull) (by simp [fn])
  have FFFull : Fun K "__init__" "Full.__init__" sFull (He.ma K (He.ga K "Full") "__init__") fdIFull := fun_of_D FIFull
  have bFFull : Binds K fdIFull ["self", "what"] [] := FFFull.binds fun _ _ _ _ _ _ us hl => match us, hl with | [_, _], _ => rfl
  have more : ex K = true := S.more
  unfold ex at more
  obtain ⟨more, cmore⟩ := He.ba more
  simp only [Bool.and_eq_true] at more
  obtain ⟨⟨⟨⟨r0, s0⟩, r1, s1⟩, r2, s2⟩, r3, s3⟩ := more
  obtain ⟨fdIThere, FIThere⟩ := c.defs (d := dm "There" "__init__" "There.__init__" sThere) (by simp [fn])
  have FJThere : Fun K "__init__" "There.__init__" sThere (He.ma K (He.ga K "There") "__init__") fdIThere := fun_of_D FIThere
  have bIThere : Binds K fdIThere ["self"] [] := FJThere.binds fun _ _ _ _ _ _ us hl => match us, hl with | [_], _ => rfl
  have EThere := errB_ok (qual := "There.__init__") (st := sThere) r0 (gl (x := "There") (by simp [fa])) FJThere bIThere
  have PThere := plainB_ok s0
  obtain ⟨fdIBadName, FIBadName⟩ := c.defs (d := dm "BadName" "__init__" "BadName.__init__" sBadName) (by simp [fn])
  have FJBadName : Fun K "__init__" "BadName.__init__" sBadName (He.ma K (He.ga K "BadName") "__init__") fdIBadName := fun_of_D FIBadName
  have bIBadName : Binds K fdIBadName ["self"] [] := FJBadName.binds fun _ _ _ _ _ _ us hl => match us, hl with | [_], _ => rfl
  have EBadName := errB_ok (qual := "BadName.__init__") (st := sBadName) r1 (gl (x := "BadName") (by simp [fa])) FJBadName bIBadName
  have PBadName := plainB_ok s1
  obtain ⟨fdIBadWidth, FIBadWidth⟩ := c.defs (d := dm "BadWidth" "__init__" "BadWidth.__init__" sBadWidth) (by simp [fn])
  have FJBadWidth : Fun K "__init__" "BadWidth.__init__" sBadWidth (He.ma K (He.ga K "BadWidth") "__init__") fdIBadWidth := fun_of_D FIBadWidth
  have bIBadWidth : Binds K fdIBadWidth ["self"] [] := FJBadWidth.binds fun _ _ _ _ _ _ us hl => match us, hl with | [_], _ => rfl
  have EBadWidth := errB_ok (qual := "BadWidth.__init__") (st := sBadWidth) r2 (gl (x := "BadWidth") (by simp [fa])) FJBadWidth bIBadWidth
  have PBadWidth := plainB_ok s2
  obtain ⟨fdIBadRow, FIBadRow⟩ := c.defs (d := dm "BadRow" "__init__" "BadRow.__init__" sBadRow) (by simp [fn])
  have FJBadRow : Fun K "__init__" "BadRow.__init__" sBadRow (He.ma K (He.ga K "BadRow") "__init__") fdIBadRow := fun_of_D FIBadRow
  have bIBadRow : Binds K fdIBadRow ["self"] [] := FJBadRow.binds fun _ _ _ _ _ _ us hl => match us, hl with | [_], _ => rfl
  have EBadRow := errB_ok (qual := "BadRow.__init__") (st := sBadRow) r3 (gl (x := "BadRow") (by simp [fa])) FJBadRow bIBadRow
  have PBadRow := plainB_ok s3
  obtain ⟨cb0, cmore⟩ := He.ba cmore
  obtain ⟨cb1, cmore⟩ := He.ba cmore
  obtain ⟨cb2, cmore⟩ := He.ba cmore
  obtain ⟨cb3, cmore⟩ := He.ba cmore
  obtain ⟨cb4, cmore⟩ := He.ba cmore
  obtain ⟨cb5, cmore⟩ := He.ba cmore
  obtain ⟨cb6, cmore⟩ := He.ba cmore
  obtain ⟨cb7, cmore⟩ := He.ba cmore
  obtain ⟨cb8, cmore⟩ := He.ba cmore
  obtain ⟨cb9, cmore⟩ := He.ba cmore
  obtain ⟨cb10, cmore⟩ := He.ba cmore
  obtain ⟨cb11, cmore⟩ := He.ba cmore
  obtain ⟨cb12, cmore⟩ := He.ba cmore
  obtain ⟨cb13, cmore⟩ := He.ba cmore
  obtain ⟨cb14, cmore⟩ := He.ba cmore
  obtain ⟨cb15, cmore⟩ := He.ba cmore
  obtain ⟨cb16, cmore⟩ := He.ba cmore
  obtain ⟨cb17, cmore⟩ := He.ba cmore
  obtain ⟨cb18, cmore⟩ := He.ba cmore
  obtain ⟨cb19, cmore⟩ := He.ba cmore
  obtain ⟨cb20, cmore⟩ := He.ba cmore
  obtain ⟨cb21, cmore⟩ := He.ba cmore
  obtain ⟨cb22, cmore⟩ := He.ba cmore
  obtain ⟨cb23, cmore⟩ := He.ba cmore
  obtain ⟨cb24, cmore⟩ := He.ba cmore
  obtain ⟨cb25, cmore⟩ := He.ba cmore
  obtain ⟨cb26, cmore⟩ := He.ba cmore
  obtain ⟨cb27, cmore⟩ := He.ba cmore
  obtain ⟨cb28, cmore⟩ := He.ba cmore
  obtain ⟨cb29, cmore⟩ := He.ba cmore
  obtain ⟨cb30, cmore⟩ := He.ba cmore
  obtain ⟨cb31, cmore⟩ := He.ba cmore
  obtain ⟨cb32, cmore⟩ := He.ba cmore
  obtain ⟨cb33, cmore⟩ := He.ba cmore
  have cb34 := cmore
  have KBook := clsB_ok cb0
  have mkBook := mkB_ok cb1
  have gBook := gl (x := "Book") (by simp [fa])
  have nBook_tables := noB_ok cb2
  have nBook_past := noB_ok cb3
  have nBook_future := noB_ok cb4
  obtain ⟨fdMBook___init__, FMBook___init__⟩ := c.defs (d := dm "Book" "__init__" "Book.__init__" sBookInit) (by simp [fn])
  have fBook___init__ : Fun K "__init__" "Book.__init__" sBookInit (He.ma K (He.ga K "Book") "__init__") fdMBook___init__ := fun_of_D FMBook___init__
  have bBook___init__ : Binds K fdMBook___init__ ["self"] [] := fBook___init__.binds fun _ _ _ _ _ _ us hl => match us, hl with | [_], _ => rfl
  have mBook_do := methB_ok cb5
  obtain ⟨fdMBook_do, FMBook_do⟩ := c.defs (d := dm "Book" "do" "Book.do" sBookDo) (by simp [fn])
  have fBook_do : Fun K "do" "Book.do" sBookDo (He.ma K (He.ga K "Book") "do") fdMBook_do := fun_of_D FMBook_do
  have bBook_do : Binds K fdMBook_do ["self", "deed"] [] := fBook_do.binds fun _ _ _ _ _ _ us hl => match us, hl with | [_, _], _ => rfl
  have mBook_many := methB_ok cb6
  obtain ⟨fdMBook_many, FMBook_many⟩ := c.defs (d := dm "Book" "many" "Book.many" sBookMany) (by simp [fn])
  have fBook_many : Fun K "many" "Book.many" sBookMany (He.ma K (He.ga K "Book") "many") fdMBook_many := fun_of_D FMBook_many
  have bBook_many : Binds K fdMBook_many ["self", "deeds"] [] := fBook_many.binds fun _ _ _ _ _ _ us hl => match us, hl with | [_, _], _ => rfl
  have mBook_steps := methB_ok cb7
  obtain ⟨fdMBook_steps, FMBook_steps⟩ := c.defs (d := dm "Book" "steps" "Book.steps" sBookSteps) (by simp [fn])
  have fBook_steps : Fun K "steps" "Book.steps" sBookSteps (He.ma K (He.ga K "Book") "steps") fdMBook_steps := fun_of_D FMBook_steps
  have bBook_steps : Binds K fdMBook_steps ["self"] [] := fBook_steps.binds fun _ _ _ _ _ _ us hl => match us, hl with | [_], _ => rfl
  have mBook_names := methB_ok cb8
  obtain ⟨fdMBook_names, FMBook_names⟩ := c.defs (d := dm "Book" "names" "Book.names" sBookNames) (by simp [fn])
  have fBook_names : Fun K "names" "Book.names" sBookNames (He.ma K (He.ga K "Book") "names") fdMBook_names := fun_of_D FMBook_names
  have bBook_names : Binds K fdMBook_names ["self"] [] := fBook_names.binds fun _ _ _ _ _ _ us hl => match us, hl with | [_], _ => rfl
  have mBook_width := methB_ok cb9
  obtain ⟨fdMBook_width, FMBook_width⟩ := c.defs (d := dm "Book" "width" "Book.width" sBookWidth) (by simp [fn])
  have fBook_width : Fun K "width" "Book.width" sBookWidth (He.ma K (He.ga K "Book") "width") fdMBook_width := fun_of_D FMBook_width
  have bBook_width : Binds K fdMBook_width ["self", "name"] [] := fBook_width.binds fun _ _ _ _ _ _ us hl => match us, hl with | [_, _], _ => rfl
  have mBook_rows := methB_ok cb10
  obtain ⟨fdMBook_rows, FMBook_rows⟩ := c.defs (d := dm "Book" "rows" "Book.rows" sBookRows) (by simp [fn])
  have fBook_rows : Fun K "rows" "Book.rows" sBookRows (He.ma K (He.ga K "Book") "rows") fdMBook_rows := fun_of_D FMBook_rows
  have bBook_rows : Binds K fdMBook_rows ["self", "name"] [] := fBook_rows.binds fun _ _ _ _ _ _ us hl => match us, hl with | [_, _], _ => rfl
  have mBook___len__ := methB_ok cb11
  obtain ⟨fdMBook___len__, FMBook___len__⟩ := c.defs (d := dm "Book" "__len__" "Book.__len__" sBookLen) (by simp [fn])
  have fBook___len__ : Fun K "__len__" "Book.__len__" sBookLen (He.ma K (He.ga K "Book") "__len__") fdMBook___len__ := fun_of_D FMBook___len__
  have bBook___len__ : Binds K fdMBook___len__ ["self"] [] := fBook___len__.binds fun _ _ _ _ _ _ us hl => match us, hl with | [_], _ => rfl
  have mBook___repr__ := methB_ok cb12
  obtain ⟨fdMBook___repr__, FMBook___repr__⟩ := c.defs (d := dm "Book" "__repr__" "Book.__repr__" sBookRepr) (by simp [fn])
  have fBook___repr__ : Fun K "__repr__" "Book.__repr__" sBookRepr (He.ma K (He.ga K "Book") "__repr__") fdMBook___repr__ := fun_of_D FMBook___repr__
  have bBook___repr__ : Binds K fdMBook___repr__ ["self"] [] := fBook___repr__.binds fun _ _ _ _ _ _ us hl => match us, hl with | [_], _ => rfl
  have mBook_make := methB_ok cb13
  obtain ⟨fdMBook_make, FMBook_make⟩ := c.defs (d := dm "Book" "make" "Book.make" sBookMake) (by simp [fn])
  have fBook_make : Fun K "make" "Book.make" sBookMake (He.ma K (He.ga K "Book") "make") fdMBook_make := fun_of_D FMBook_make
  have bBook_make : Binds K fdMBook_make ["self", "name", "width"] [] := fBook_make.binds fun _ _ _ _ _ _ us hl => match us, hl with | [_, _, _], _ => rfl
  have mBook_put := methB_ok cb14
  obtain ⟨fdMBook_put, FMBook_put⟩ := c.defs (d := dm "Book" "put" "Book.put" sBookPut) (by simp [fn])
  have fBook_put : Fun K "put" "Book.put" sBookPut (He.ma K (He.ga K "Book") "put") fdMBook_put := fun_of_D FMBook_put
  have bBook_put : Binds K fdMBook_put ["self", "name", "row"] [] := fBook_put.binds fun _ _ _ _ _ _ us hl => match us, hl with | [_, _, _], _ => rfl
  have mBook_take := methB_ok cb15
  obtain ⟨fdMBook_take, FMBook_take⟩ := c.defs (d := dm "Book" "take" "Book.take" sBookTake) (by simp [fn])
  have fBook_take : Fun K "take" "Book.take" sBookTake (He.ma K (He.ga K "Book") "take") fdMBook_take := fun_of_D FMBook_take
  have bBook_take : Binds K fdMBook_take ["self", "name", "row"] [] := fBook_take.binds fun _ _ _ _ _ _ us hl => match us, hl with | [_, _, _], _ => rfl
  have mBook_fill := methB_ok cb16
  obtain ⟨fdMBook_fill, FMBook_fill⟩ := c.defs (d := dm "Book" "fill" "Book.fill" sBookFill) (by simp [fn])
  have fBook_fill : Fun K "fill" "Book.fill" sBookFill (He.ma K (He.ga K "Book") "fill") fdMBook_fill := fun_of_D FMBook_fill
  have bBook_fill : Binds K fdMBook_fill ["self", "name", "rows"] [] := fBook_fill.binds fun _ _ _ _ _ _ us hl => match us, hl with | [_, _, _], _ => rfl
  have mBook_undo := methB_ok cb17
  obtain ⟨fdMBook_undo, FMBook_undo⟩ := c.defs (d := dm "Book" "undo" "Book.undo" sBookUndo) (by simp [fn])
  have fBook_undo : Fun K "undo" "Book.undo" sBookUndo (He.ma K (He.ga K "Book") "undo") fdMBook_undo := fun_of_D FMBook_undo
  have bBook_undo : Binds K fdMBook_undo ["self"] [] := fBook_undo.binds fun _ _ _ _ _ _ us hl => match us, hl with | [_], _ => rfl
  have tBARRED := He.tupB_ok cb18
  have vACT := id cb19
  have kACT := id cb20
  have vCNT := id cb21
  have kCNT := id cb22
  have yTaken := id cb23
  have zNoTable := id cb24
  have zNoRow := id cb25
  have zMissing := id cb26
  have wTaken := firstB_ok cb27
  have wNoTable := firstB_ok cb28
  have wNoRow := firstB_ok cb29
  have yFull := id cb30
  have wFull := thirdB_ok cb31
  have d12 := of_decide_eq_true cb32
  have d13 := of_decide_eq_true cb33
  have d23 := of_decide_eq_true cb34
  obtain ⟨fd_law_bag, a_law_bag⟩ := at_of (x := "_law_bag") (st := sBag) (ps := ["_law_script"]) X G c (by simp [fn]) (by simp [fa]) fun _ _ _ _ _ _ us hl => match us, hl with | [_], _ => rfl
  obtain ⟨fd_law_pull, a_law_pull⟩ := at_of (x := "_law_pull") (st := sPull) (ps := ["_law_bag_here", "_law_size"]) X G c (by simp [fn]) (by simp [fa]) fun _ _ _ _ _ _ us hl => match us, hl with | [_, _], _ => rfl
  obtain ⟨fd_law_of, a_law_of⟩ := at_of (x := "_law_of") (st := sOf) (ps := ["_law_bag_here", "_law_some"]) X G c (by simp [fn]) (by simp [fa]) fun _ _ _ _ _ _ us hl => match us, hl with | [_, _], _ => rfl
  obtain ⟨fd_law_same, a_law_same⟩ := at_of (x := "_law_same") (st := sSame) (ps := ["_law_found", "_law_due"]) X G c (by simp [fn]) (by simp [fa]) fun _ _ _ _ _ _ us hl => match us, hl with | [_, _], _ => rfl
  obtain ⟨fd_law_tried, a_law_tried⟩ := at_of (x := "_law_tried") (st := sTried) (ps := ["_law_ask"]) X G c (by simp [fn]) (by simp [fa]) fun _ _ _ _ _ _ us hl => match us, hl with | [_], _ => rfl
  obtain ⟨fd_law_pool, a_law_pool⟩ := at_of (x := "_law_pool") (st := sLawPool) (ps := ["_law_bag_here", "_law_many", "_law_most"]) X G c (by simp [fn]) (by simp [fa]) fun _ _ _ _ _ _ us hl => match us, hl with | [_, _, _], _ => rfl
  obtain ⟨fd_law_stands, a_law_stands⟩ := at_of (x := "_law_stands") (st := sLawStands) (ps := ["_law_book", "_law_model"]) X G c (by simp [fn]) (by simp [fa]) fun _ _ _ _ _ _ us hl => match us, hl with | [_, _], _ => rfl
  obtain ⟨fd_law_full_tables, a_law_full_tables⟩ := at_of (x := "_law_full_tables") (st := sLawFullTables) (ps := ["_law_book", "_law_pool_here"]) X G c (by simp [fn]) (by simp [fa]) fun _ _ _ _ _ _ us hl => match us, hl with | [_, _], _ => rfl
  obtain ⟨fd_law_crowd_refused, a_law_crowd_refused⟩ := at_of (x := "_law_crowd_refused") (st := sLawCrowdRefused) (ps := ["_law_bag_here", "_law_book", "_law_name", "_law_rows"]) X G c (by simp [fn]) (by simp [fa]) fun _ _ _ _ _ _ us hl => match us, hl with | [_, _, _, _], _ => rfl
  obtain ⟨fd_law_long_way, a_law_long_way⟩ := at_of (x := "_law_long_way") (st := sLawLongWay) (ps := ["_law_book", "_law_name", "_law_row"]) X G c (by simp [fn]) (by simp [fa]) fun _ _ _ _ _ _ us hl => match us, hl with | [_, _, _], _ => rfl
  obtain ⟨fdis_number, ais_number⟩ := at_of (x := "is_number") (st := sIsNumber) (ps := ["thing", "low", "behind"]) X G c (by simp [fn]) (by simp [fa]) fun _ _ _ _ _ _ us hl => match us, hl with | [_, _, _], _ => rfl
  obtain ⟨fdis_worth, ais_worth⟩ := at_of (x := "is_worth") (st := sIsWorth) (ps := ["thing"]) X G c (by simp [fn]) (by simp [fa]) fun _ _ _ _ _ _ us hl => match us, hl with | [_], _ => rfl
  obtain ⟨fdis_name, ais_name⟩ := at_of (x := "is_name") (st := sIsName) (ps := ["thing", "most"]) X G c (by simp [fn]) (by simp [fa]) fun _ _ _ _ _ _ us hl => match us, hl with | [_, _], _ => rfl
  obtain ⟨fdis_row, ais_row⟩ := at_of (x := "is_row") (st := sIsRow) (ps := ["thing", "width"]) X G c (by simp [fn]) (by simp [fa]) fun _ _ _ _ _ _ us hl => match us, hl with | [_, _], _ => rfl
  obtain ⟨fdare_rows, aare_rows⟩ := at_of (x := "are_rows") (st := sAreRows) (ps := ["thing", "width"]) X G c (by simp [fn]) (by simp [fa]) fun _ _ _ _ _ _ us hl => match us, hl with | [_, _], _ => rfl
  obtain ⟨fdneed_row, aneed_row⟩ := at_of (x := "need_row") (st := sNeedRow) (ps := ["row", "width"]) X G c (by simp [fn]) (by simp [fa]) fun _ _ _ _ _ _ us hl => match us, hl with | [_, _], _ => rfl
  obtain ⟨fdtable_of, atable_of⟩ := at_of (x := "table_of") (st := sTableOf) (ps := ["tables", "name"]) X G c (by simp [fn]) (by simp [fa]) fun _ _ _ _ _ _ us hl => match us, hl with | [_, _], _ => rfl
  obtain ⟨fdwith_rows, awith_rows⟩ := at_of (x := "with_rows") (st := sWithRows) (ps := ["tables", "name", "rows"]) X G c (by simp [fn]) (by simp [fa]) fun _ _ _ _ _ _ us hl => match us, hl with | [_, _, _], _ => rfl
  obtain ⟨fdmake_table, amake_table⟩ := at_of (x := "make_table") (st := sMakeTable) (ps := ["tables", "name", "width"]) X G c (by simp [fn]) (by simp [fa]) fun _ _ _ _ _ _ us hl => match us, hl with | [_, _, _], _ => rfl
  obtain ⟨fddrop_table, adrop_table⟩ := at_of (x := "drop_table") (st := sDropTable) (ps := ["tables", "name"]) X G c (by simp [fn]) (by simp [fa]) fun _ _ _ _ _ _ us hl => match us, hl with | [_, _], _ => rfl
  obtain ⟨fdput_row, aput_row⟩ := at_of (x := "put_row") (st := sPutRow) (ps := ["tables", "name", "row"]) X G c (by simp [fn]) (by simp [fa]) fun _ _ _ _ _ _ us hl => match us, hl with | [_, _, _], _ => rfl
  obtain ⟨fdtake_row, atake_row⟩ := at_of (x := "take_row") (st := sTakeRow) (ps := ["tables", "name", "row"]) X G c (by simp [fn]) (by simp [fa]) fun _ _ _ _ _ _ us hl => match us, hl with | [_, _, _], _ => rfl
  obtain ⟨fdfill_table, afill_table⟩ := at_of (x := "fill_table") (st := sFillTable) (ps := ["tables", "name", "rows"]) X G c (by simp [fn]) (by simp [fa]) fun _ _ _ _ _ _ us hl => match us, hl with | [_, _, _], _ => rfl
  obtain ⟨fdneed_deed, aneed_deed⟩ := at_of (x := "need_deed") (st := sNeedDeed) (ps := ["thing"]) X G c (by simp [fn]) (by simp [fa]) fun _ _ _ _ _ _ us hl => match us, hl with | [_], _ => rfl
  obtain ⟨fddone, adone⟩ := at_of (x := "done") (st := sDone) (ps := ["tables", "deed"]) X G c (by simp [fn]) (by simp [fa]) fun _ _ _ _ _ _ us hl => match us, hl with | [_, _], _ => rfl
  obtain ⟨fd, F⟩ := c.defs (d := dd "law" sLaw) (by simp [fn])
  have ef : f = He.ga K "law" := by
    have e := hfa.symm.trans (gl (x := "law") (by simp [fa]))
    injection e with e
    injection e
  subst ef
  have F' : Fun K "law" "law" sLaw (He.ga K "law") fd := fun_of_D F
  obtain ⟨oc, od, kV, doc, pm, an, cdv, ct, osl, efd, lk, hcd⟩ := F'.ex
  refine ⟨fd, [He.cT K ("law", none), He.cT K ("_law_full_tables", none), He.cT K ("_law_crowd_refused", none)], spLaw3 K (He.cT K ("law", none)).2 (He.cT K ("_law_full_tables", none)).2 (He.cT K ("_law_crowd_refused", none)).2, fun p hp => ?_, fun p hp => ?_, fun p hp => ?_, fun s u => ?_, fun H a ns hn _ hT hS => ?_, fun base KB GB TB => ?_⟩
  · simp only [List.mem_cons, List.not_mem_nil, or_false] at hp
    rcases hp with rfl | rfl | rfl
    all_goals exact S.empty _ (by simp)
  · simp only [List.mem_cons, List.not_mem_nil, or_false] at hp
    rcases hp with rfl | rfl | rfl
    all_goals exact S.out _ (by simp)
  · simp only [List.mem_cons, List.not_mem_nil, or_false] at hp
    rcases hp with rfl | rfl | rfl
    all_goals exact PySem.W.codeHd_of_K X (S.hd _ (by simp))
  · rw [efd]
    exact .of_eq rfl
  · exact ⟨a, ns, rfl, hS, hn, hT _ (by simp), hT _ (by simp), hT _ (by simp), fun _ => rfl⟩
  · exact law_all58 (R := refOf K) (X := refX K) (lam_of F' (TB _ (by simp))) (lam_of a_law_full_tables.fn (TB _ (by simp))) (lam_of a_law_crowd_refused.fn (TB _ (by simp))) ⟨d12, d13, d23⟩ b ER wTaken wNoTable wNoRow wFull PThere PBadName PBadWidth PBadRow rfl rfl (errYB_ok yTaken ER.ta FFTaken bFTaken) (missB_ok zMissing gMissing FFMissing bFMissing) (errZB_ok zNoTable ER.nt FFNoTable bFNoTable) (errZB_ok zNoRow ER.nr FFNoRow bFNoRow) EThere EBadName EBadWidth EBadRow (errYB_ok yFull ER.fu FFFull bFFull) iMOST_LETTERS iMOST_WIDTH iMOST_TABLES iMOST_ROWS iWORTHS iLETTERS gBARRED tBARRED fsorted fsum frepr fset fdict gACTIONS (tab_ok tACTIONS vACT kACT) gCOUNTS (tab_ok tCOUNTS vCNT kCNT) amake_table adrop_table aput_row atake_row afill_table ais_number ais_worth ⟨_, _, ais_name⟩ ⟨_, _, ais_row⟩ ⟨_, _, aare_rows⟩ ⟨_, _, aneed_row⟩ ⟨_, _, atable_of⟩ ⟨_, _, awith_rows⟩ ⟨_, _, aneed_deed⟩ ⟨_, _, adone⟩ ⟨KBook, nBook_tables, nBook_past, nBook_future⟩ mkBook gBook fBook___init__ bBook___init__ ⟨fBook_do, mBook_do, bBook_do⟩ ⟨fBook_many, mBook_many, bBook_many⟩ ⟨fBook_steps, mBook_steps, bBook_steps⟩ ⟨fBook_names, mBook_names, bBook_names⟩ ⟨fBook_width, mBook_width, bBook_width⟩ ⟨fBook_rows, mBook_rows, bBook_rows⟩ ⟨fBook___len__, mBook___len__, bBook___len__⟩ ⟨fBook___repr__, mBook___repr__, bBook___repr__⟩ ⟨fBook_make, mBook_make, bBook_make⟩ ⟨fBook_put, mBook_put, bBook_put⟩ ⟨fBook_take, mBook_take, bBook_take⟩ ⟨fBook_fill, mBook_fill, bBook_fill⟩ ⟨fBook_undo, mBook_undo, bBook_undo⟩ a_law_bag a_law_pull a_law_of a_law_same a_law_tried ⟨_, _, a_law_pool⟩ ⟨_, _, a_law_stands⟩ ⟨_, _, a_law_long_way⟩ a_law_full_tables a_law_crowd_refused
end VQ
open PySem PySem.W PySem.Calls PyProof.Rows
set_option maxRecDepth 100000 in
set_option maxHeartbeats 0 in
theorem PySem.Challenge.cw_voidquilt_k58_books_that_are_full_holds : PySem.Challenge.rw_voidquilt_k58_books_that_are_full.Holds := by
  w_on; o_law
  refine HandSHeadRun.head_any (r := PySem.W.OpenLaw.row PySem.Challenge.rw_voidquilt_k58_books_that_are_full) (q := view (PySem.W.OpenLaw.row PySem.Challenge.rw_voidquilt_k58_books_that_are_full).prog [55]) (H := VQ.hk) (ob := VQ.ob) (M := 40000) (loose := VQ.loose) (d := HandSHeadRun.topDef (PySem.W.OpenLaw.row PySem.Challenge.rw_voidquilt_k58_books_that_are_full).prog 55) (kwd := []) VQ.ob_eq
    (by kernel_rfl) (fun s => by kernel_rfl) VQ.run (by kernel_rfl) (by kernel_rfl) (by kernel_rfl) (by rfl) (by first | assumption | decide +kernel) (by decide +kernel) ⟨rfl, rfl, rfl, rfl, rfl, by decide +kernel⟩ ?hw ?hc
  case hw => w_witness2
  case hc =>
    refine LamX.walk_ofTsE (l := PySem.Challenge.rw_voidquilt_k58_books_that_are_full) (n := 63) (k := 14) (x := "_law_script") (CX := fun _ => L2.CX0) rfl (by decide) (by kernel_rfl) ⟨rfl, by decide, by decide⟩ ?F (fun _ _ _ _ _ z => z)
    intro w mg fa h Y G hmg0
    obtain ⟨K, KX, S⟩ := Y
    have hmg : mg ("law" : PySem.Str) = some (.ref fa) := by
      have e : (HandSHeadRun.topDef (PySem.W.OpenLaw.row PySem.Challenge.rw_voidquilt_k58_books_that_are_full).prog 55).name = ("law" : PySem.Str) := by kernel_rfl
      rw [← e]
      exact hmg0
    exact ⟨K, KX, VQ.facts KX G hmg S⟩
