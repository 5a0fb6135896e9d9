import PyProof.Rows.All
import Wide.All
import OpenK.AllK
import Wide.FinOn
import HandS.ForMost
import HandS.IsInst
import HandS.Wide
import HandS.More
import HandS.Codes
import HandS.Deep
import HandS.Conv
import HandS.SortKw
import KE.DatumOrd
import PySem.Challenge.RW_manygoings_k08_whole_papers_that_err
set_option Elab.async false
set_option linter.all false
set_option maxRecDepth 100000
set_option maxHeartbeats 4000000
/-! Steps over the readings of the hand layer: one lemma a form, and a walk by them. -/
namespace Wp
open PySem PySem.Spec PyProof.Rows L2
section
variable {σ : L2.St} {H : Hp} {Q : VK} {D : Ends} {te ta tb tc : TE} {t u v : TS} {c c2 : TT} {x y z : V} {i : Nat} {K : PySem.W.Frag}
theorem seq (h : t { D with nx := u D } σ H) : tSeq t u D σ H := h
theorem nx_mk {n : L2.St → Hp → Prop} {r : VK} {b k : L2.St → Hp → Prop} (h : n σ H) : (Ends.mk n r b k).nx σ H := h
theorem rt_mk {n : L2.St → Hp → Prop} {r : VK} {b k : L2.St → Hp → Prop} (h : r x H) : (Ends.mk n r b k).rt x H := h
theorem bk_mk {n : L2.St → Hp → Prop} {r : VK} {b k : L2.St → Hp → Prop} (h : b σ H) : (Ends.mk n r b k).bk σ H := h
theorem ct_mk {n : L2.St → Hp → Prop} {r : VK} {b k : L2.St → Hp → Prop} (h : k σ H) : (Ends.mk n r b k).ct σ H := h
theorem next (h : D.nx σ H) : tNext D σ H := h
theorem asg {g : TG} (h : te σ H fun x H1 => g x σ H1 D.nx) : tAsg te g D σ H := h
theorem gname {R : L2.St → Hp → Prop} {σ' : L2.St} (e : σ.set i (some x) = σ') (h : R σ' H) : gName i x σ H R := by subst e; exact h
theorem gsub {s : TSet} {R : L2.St → Hp → Prop} (h : ta σ H fun o H1 => tb σ H1 fun i H2 => s o i x H2 fun H3 => R σ H3) : gSub ta tb s x σ H R := h
theorem ret (h : te σ H D.rt) : tRet te D σ H := h
theorem retN (h : D.rt .non H) : tRetN D σ H := h
theorem drop (h : te σ H fun _ H1 => D.nx σ H1) : tDrop te D σ H := h
theorem ifs (h : c σ H fun b H1 => if b = true then t D σ H1 else u D σ H1) : tIfS c t u D σ H := h
theorem var (h : σ[i]? = some (some x)) (q : Q x H) : tVar i σ H Q := ⟨x, h, q⟩
theorem con (q : Q x H) : tC x σ H Q := q
theorem op {r : R2} (h : ta σ H fun x H1 => tb σ H1 fun y H2 => r x y H2 Q) : tOp r ta tb σ H Q := h
theorem un {r : V → Hp → VK → Prop} (h : ta σ H fun x H1 => r x H1 Q) : tUn r ta σ H Q := h
theorem cb {r : List V → Hp → VK → Prop} {t : TA} (h : t σ H fun vs H1 => r vs H1 Q) : tCB r t σ H Q := h
theorem anil {R : List V → Hp → Prop} (h : R [] H) : tNil σ H R := h
theorem acons {tr : TA} {R : List V → Hp → Prop} (h : te σ H fun x H1 => tr σ H1 fun xs H2 => R (x :: xs) H2) : tCons te tr σ H R := h
theorem call {sp : Sp} {dvs : List V} {E : XK} {t : TA} (h : t σ H fun vs H1 => sp (vs ++ dvs) H1 Q E) : tCall sp dvs E t σ H Q := h
theorem lst {t : TA} (h : t σ H fun xs H1 => xs.length ≤ sizeLine ∧ ∀ p, H1 p = none → Q (.ref p) (upd H1 p (.lst xs))) : tLst t σ H Q := h
theorem tup {t : TA} (h : t σ H fun xs H1 => xs.length ≤ sizeLine ∧ ∀ p, H1 p = none → Q (.ref p) (upd H1 p (.tup xs))) : tTup t σ H Q := h
theorem test {R : Bool → Hp → Prop} (h : te σ H fun x H1 => ∃ k, x = .bl k ∧ R k H1) : tTest te σ H R := h
theorem tb_ {R : Bool → Hp → Prop} (h : te σ H fun x H1 => ∃ k, x = .bl k ∧ R k H1) : tB te σ H R := h
theorem and_ {R : Bool → Hp → Prop} (h : c σ H fun b H1 => if b = true then c2 σ H1 R else R false H1) : tAnd c c2 σ H R := h
theorem or_ {R : Bool → Hp → Prop} (h : c σ H fun b H1 => if b = true then R true H1 else c2 σ H1 R) : tOr c c2 σ H R := h
theorem not_ {R : Bool → Hp → Prop} (h : c σ H fun b H1 => R (!b) H1) : tNot c σ H R := h
theorem andV (h : ta σ H fun x H1 => ∃ c, x = .bl c ∧ if c = true then tb σ H1 Q else Q (.bl false) H1) : tAndV ta tb σ H Q := h
theorem orV (h : ta σ H fun x H1 => ∃ c, x = .bl c ∧ if c = true then Q (.bl true) H1 else tb σ H1 Q) : tOrV ta tb σ H Q := h
theorem notV (h : ta σ H fun x H1 => ∃ c, x = .bl c ∧ Q (.bl (!c)) H1) : tNotV ta σ H Q := h
theorem rI0_ {g : Int → Int → V} {a b : Int} (q : Q (g a b) H) : rI0 g (.int a) (.int b) H Q := ⟨a, b, rfl, rfl, q⟩
theorem rI_ {C : Int → Int → Prop} {g : Int → Int → V} {a b : Int} (k : C a b) (q : Q (g a b) H) : rI C g (.int a) (.int b) H Q := ⟨a, b, rfl, rfl, k, q⟩
theorem rU_ {g : Int → V} {a : Int} (q : Q (g a) H) : rU g (.int a) H Q := ⟨a, rfl, q⟩
theorem rEq_ {x y : V} (k : scal x y = true) (q : Q (.bl (decide (x = y))) H) : rEq x y H Q := ⟨k, q⟩
theorem rNe_ {x y : V} (k : scal x y = true) (q : Q (.bl (!decide (x = y))) H) : rNe x y H Q := ⟨k, q⟩
theorem ixL {p : Addr} {xs : List V} {j : Int} (h : SqL K H p xs) (e : atI xs j = some x) (q : Q x H) : rIxL K (.ref p) (.int j) H Q := ⟨p, xs, j, x, rfl, rfl, h, e, q⟩
theorem ixT {p : Addr} {xs : List V} {j : Int} (h : SqT K H p xs) (e : atI xs j = some x) (q : Q x H) : rIxT K (.ref p) (.int j) H Q := ⟨p, xs, j, x, rfl, rfl, h, e, q⟩
theorem setL {p : Addr} {xs : List V} {j : Int} {n : Nat} {R : Hp → Prop} (h : H p = some (.lst xs)) (e : ixN xs.length j = some n) (q : R (upd H p (.lst (xs.set n x)))) : rSetL (.ref p) (.int j) x H R := ⟨p, xs, j, n, rfl, rfl, h, e, q⟩
/-- a test's two ways -/
theorem ite_ {p A B : Prop} [Decidable p] (h1 : p → A) (h2 : ¬ p → B) : if decide p = true then A else B := by
  by_cases h : p
  · rw [if_pos (decide_eq_true h)]; exact h1 h
  · rw [if_neg (by rw [decide_eq_false h]; exact Bool.false_ne_true)]; exact h2 h
theorem iteN {p A B : Prop} [Decidable p] (h1 : ¬ p → A) (h2 : p → B) : if (!decide p) = true then A else B := by
  by_cases h : p
  · rw [decide_eq_true h]; exact iteF (h2 h)
  · rw [decide_eq_false h]; exact iteT (h1 h)
theorem iteB {b : Bool} {A B : Prop} (h1 : b = true → A) (h2 : b = false → B) : if b = true then A else B := by
  cases b with
  | true => exact iteT (h1 rfl)
  | false => exact iteF (h2 rfl)
end
/-! ### the walk -/
/-- all but the object at b is kept -/
def Kp (b : Addr) (H H' : Hp) : Prop := ∀ a o, a ≠ b → H a = some o → H' a = some o
theorem Kp.refl (b : Addr) (H : Hp) : Kp b H H := fun _ _ _ h => h
theorem Kp.trans {b : Addr} {H H1 H2 : Hp} (x : Kp b H H1) (y : Kp b H1 H2) : Kp b H H2 := fun a o n h => y a o n (x a o n h)
theorem Kp.new {b p : Addr} {H : Hp} {o : HO} (h : H p = none) : Kp b H (upd H p o) := fun a u _ e => by rw [upd_ne (ne_of_none e h)]; exact e
theorem Kp.at {b : Addr} {H : Hp} {o : HO} : Kp b H (upd H b o) := fun a u n e => by rw [upd_ne n]; exact e
section
variable {σ : L2.St} {H H1 H2 : Hp} {Q : VK} {D : Ends} {te ta tb tc : TE} {t u v : TS} {c c2 : TT} {x y z : V} {i : Nat} {K : PySem.W.Frag} {a b p : Addr} {xs ys : List V}
theorem gtup {tt : TGs} {R : L2.St → Hp → Prop} {n : Nat} (h : SqT K H a xs) (e : xs.length = n) (q : tt xs σ H R) : gTup K n tt (.ref a) σ H R := ⟨a, xs, rfl, h, e, q⟩
theorem gcons {g : TG} {tt : TGs} {R : L2.St → Hp → Prop} {r : List V} (q : g x σ H fun σ' H' => tt r σ' H' R) : gCons g tt (x :: r) σ H R := ⟨x, r, rfl, q⟩
theorem gnil {R : L2.St → Hp → Prop} (q : R σ H) : gNil [] σ H R := ⟨rfl, q⟩
theorem sl {r : V → Option Int → Option Int → Hp → VK → Prop} {tl th : TO} (h : te σ H fun x H1 => tl σ H1 fun l H2 => th σ H2 fun u H3 => r x l u H3 Q) : tSl r te tl th σ H Q := h
theorem part {R : Option Int → Hp → Prop} (h : te σ H fun x H1 => ∃ i, x = .int i ∧ R (some i) H1) : tPart te σ H R := h
theorem nopart {R : Option Int → Hp → Prop} (h : R none H) : tNoPart σ H R := h
theorem slS {zs : Str} {lo hi : Option Int} (h : zs.length ≤ sizeLine) (q : Q (.str (cutS zs lo hi)) H) : rSlS (.str zs) lo hi H Q := ⟨zs, rfl, h, q⟩
theorem ifE (h : c σ H fun b H1 => if b = true then ta σ H1 Q else tb σ H1 Q) : tIf c ta tb σ H Q := h
theorem bm0 {T : String} {r : V → List V → Hp → VK → Prop} (h : te σ H fun x H1 => tyV K T x H1 ∧ r x [] H1 Q) : tBM0 K T r te σ H Q := h
theorem bm {T : String} {r : V → List V → Hp → VK → Prop} {tt : TA} (h : te σ H fun x H1 => tyV K T x H1 ∧ tt σ H1 fun xs H2 => r x xs H2 Q) : tBM K T r te tt σ H Q := h
theorem lcat {t u : List V} {R : Addr → Hp → Prop} (h : ∀ p, H p = none → R p (upd H p (.lst (t ++ u)))) : ∀ p, H p = none → R p (upd H p (.lst (t ++ u))) := h
theorem iteT' {A B : Prop} (h : A) : if (!false) = true then A else B := iteT h
theorem iteF' {A B : Prop} (h : B) : if (!true) = true then A else B := iteF h
theorem iteBt {b : Bool} {A B : Prop} (h : b = true) (q : A) : if b = true then A else B := by rw [h]; exact iteT q
theorem iteBf {b : Bool} {A B : Prop} (h : b = false) (q : B) : if b = true then A else B := by rw [h]; exact iteF q
theorem cutS_len (z : Str) (lo hi : Option Int) : (cutS z lo hi).length ≤ z.length := by
  show ((z.cps.toList.drop (HT.sIx z.length 0 lo)).take (HT.sIx z.length z.length hi - HT.sIx z.length 0 lo)).toArray.size ≤ z.cps.size
  rw [List.size_toArray, List.length_take, List.length_drop, Array.length_toList]
  omega
theorem app_len (x y : Str) : (x ++ y).length = x.length + y.length := by
  show (x.cps ++ y.cps).size = x.cps.size + y.cps.size
  exact Array.size_append
theorem str1_len (c : Nat) : (⟨#[c]⟩ : Str).length = 1 := rfl
theorem iteBnT {b : Bool} {A B : Prop} (h : b = false) (q : A) : if (!b) = true then A else B := by rw [h]; exact iteT q
theorem iteBnF {b : Bool} {A B : Prop} (h : b = true) (q : B) : if (!b) = true then A else B := by rw [h]; exact iteF q
theorem pcons {tk tv : TE} {r : List (TE × TE)} {R : List (V × V) → Hp → Prop} (h : tk σ H fun x H1 => tv σ H1 fun y H2 => tPairs r σ H2 fun ps H3 => R ((x, y) :: ps) H3) : tPairs ((tk, tv) :: r) σ H R := h
theorem pnil {R : List (V × V) → Hp → Prop} (h : R [] H) : tPairs [] σ H R := h
/-! ### a written dict with text keys -/
def keysAre : List DictEntry → List (Str × V) → Prop
  | [], [] => True
  | e :: r, (k, v) :: s => (∃ t, e.key = .str k t) ∧ RelV v e.val ∧ keysAre r s
  | _, _ => False
def seek (z : Str) : List (Str × V) → Option V
  | [] => none
  | (k, v) :: s => if k = z then some v else seek z s
theorem keys_find {z : Str} : ∀ {l : List DictEntry} {ks : List (Str × V)}, keysAre l ks →
    (l.any (·.refKey) = false) ∧ ((∃ v e, seek z ks = some v ∧ l.find? (·.key.isStr z) = some e ∧ RelV v e.val) ∨ (seek z ks = none ∧ l.find? (·.key.isStr z) = none))
  | [], [], _ => ⟨rfl, .inr ⟨rfl, rfl⟩⟩
  | [], _ :: _, h => h.elim
  | _ :: _, [], h => h.elim
  | e :: r, (k, v) :: s, ⟨⟨t, hk⟩, hv, h⟩ => by
    obtain ⟨h1, h2⟩ := keys_find (z := z) h
    refine ⟨?_, ?_⟩
    · rw [List.any_cons, h1, Bool.or_false]
      show DictEntry.refKey e = false
      unfold DictEntry.refKey
      rw [hk] <;> rfl
    · rw [List.find?_cons]
      have e1 : (e.key.isStr z) = decide (k = z) := by
        rw [hk, PySem.W.isStr_of]
        show (k == z) = decide (k = z)
        exact Bool.beq_eq_decide_eq k z
      show (∃ v' e', (if k = z then some v else seek z s) = some v' ∧ _) ∨ ((if k = z then some v else seek z s) = none ∧ _)
      by_cases c : k = z
      · rw [if_pos c, e1, decide_eq_true c]
        exact .inl ⟨v, e, rfl, rfl, hv⟩
      · rw [if_neg c, e1, decide_eq_false c]
        exact h2
theorem ns_seek {d : Addr} {es : Array DictEntry} {n : Nat} {ks : List (Str × V)} (hl : K.lookup d = some ⟨.type "dict", none, .dict es n, #[]⟩) (hk : keysAre es.toList ks) (z : Str) :
    (∃ v u, seek z ks = some v ∧ PySem.W.nsIn K d z = some (some u) ∧ RelV v u) ∨ (seek z ks = none ∧ PySem.W.nsIn K d z = some none) := by
  obtain ⟨h1, h2⟩ := keys_find (z := z) hk
  unfold PySem.W.nsIn
  rw [hl]
  dsimp only
  rcases h2 with ⟨v, e, e1, e2, r⟩ | ⟨e1, e2⟩
  · rw [e2]
    exact .inl ⟨v, e.val, e1, rfl, r⟩
  · rw [e2]
    dsimp only
    rw [h1]
    exact .inr ⟨e1, rfl⟩
theorem ixS_any {zs : Str} {j : Int} (hz : zs.length ≤ sizeLine) (h0 : 0 ≤ j) (h1 : j < zs.length) (q : ∀ c, Q (.str ⟨#[c]⟩) H) : rIxS (.str zs) (.int j) H Q := by
  have h2 : j.toNat < zs.cps.toList.length := by
    rw [Array.length_toList]
    show j.toNat < zs.length
    omega
  obtain ⟨c, hc⟩ : ∃ c, zs.cps.toList[j.toNat]? = some c := ⟨_, List.getElem?_eq_getElem h2⟩
  have e : ((j.toNat : Nat) : Int) = j := by omega
  have hc2 := atI_nat hc
  rw [e] at hc2
  exact ⟨zs, j, c, rfl, rfl, hz, hc2, q c⟩
theorem tyvL {p : Addr} {xs : List V} (h : H p = some (.lst xs)) : tyV K "list" (.ref p) H := .inl ⟨rfl, _, SqL.of h⟩
theorem app_ {p : Addr} {xs : List V} {y : V} (h : H p = some (.lst xs)) (hl : xs.length < sizeLine) (q : Q .non (upd H p (.lst (xs ++ [y])))) : rAppend (.ref p) [y] H Q := ⟨p, xs, y, rfl, rfl, h, hl, q⟩
theorem rev_ {p : Addr} {xs : List V} (h : H p = some (.lst xs)) (q : Q .non (upd H p (.lst xs.reverse))) : rReverse (.ref p) [] H Q := ⟨p, xs, rfl, rfl, h, q⟩
theorem slL {p : Addr} {xs : List V} {lo hi : Option Int} (h : SqL K H p xs) (q : ∀ p, H p = none → Q (.ref p) (upd H p (.lst (cutV xs lo hi)))) : rSlL K (.ref p) lo hi H Q := ⟨p, xs, rfl, h, q⟩
theorem cat_ {l b : Addr} {xs zs : List V} (h : H l = some (.lst xs)) (h2 : H b = some (.lst zs)) (hl : xs.length + zs.length ≤ sizeLine) (q : ∀ p, H p = none → Q (.ref p) (upd H p (.lst (xs ++ zs)))) : rCat (.ref l) (.ref b) H Q :=
  ⟨l, b, xs, zs, rfl, rfl, h, h2, hl, q⟩
theorem un65 {k : Nat} {A : Around} (r : Room k A) : A.units + 65 < cLine := by have := r.un; omega
theorem eqD {x y : V} {d : PyData} (h1 : Dp K H x d) (h2 : Dp K H y d) (s : SeqAt.shaped d = true) (e : PyData.eqv d d = true) (q : Q (.bl true) H) : rEqD K x y H Q := ⟨d, d, h1, h2, s, s, by rw [e]; exact q⟩
theorem neD {x y : V} {d : PyData} (h1 : Dp K H x d) (h2 : Dp K H y d) (s : SeqAt.shaped d = true) (e : PyData.eqv d d = true) (q : Q (.bl false) H) : rNeD K x y H Q := ⟨d, d, h1, h2, s, s, by rw [e]; exact q⟩
theorem cut_take {xs : List V} {n : Nat} : cutV xs none (some (n : Int)) = xs.take n := by
  unfold cutV
  rw [show HT.sIx xs.length 0 none = 0 from HT.sIx_none .., show HT.sIx xs.length xs.length (some (n : Int)) = min n xs.length from HT.sIx_nat ..]
  show (xs.drop 0).take (min n xs.length - 0) = xs.take n
  rw [List.drop_zero, Nat.sub_zero]
  by_cases h : n ≤ xs.length
  · rw [Nat.min_eq_left h]
  · rw [Nat.min_eq_right (by omega), List.take_of_length_le (Nat.le_refl _), List.take_of_length_le (by omega)]
theorem dput {td tk tv : TE} (h : tv σ H fun v H1 => td σ H1 fun x H2 => tk σ H2 fun y H3 => ∃ a H', x = .ref a ∧ DPut H3 a y v H' ∧ D.nx σ H') : sDPut td tk tv D σ H := h
theorem cut (Mid : L2.St → Hp → Prop) (h1 : t { D with nx := Mid } σ H) (h2 : ∀ σ' H', Mid σ' H' → u D σ' H') : C8.tCut t u D σ H := ⟨Mid, h1, h2⟩
theorem len_take {xs : List V} {n m : Nat} (h : n ≤ m) : (xs.take n).length ≤ m := Nat.le_trans (List.length_take_le _ _) h
/-! ### loops -/
/-- the loop over J -/
def Loop (J : It) (g : TG) (tb : TS) (D : Ends) (σ : L2.St) (H : Hp) : Prop := ∃ W : Nat → Nat → L2.St → Hp → Prop, (∃ m, W 0 m σ H) ∧ ∀ i m σ H, W i m σ H →
  (J.stop i H ∧ D.nx σ H) ∨ (J.go i H ∧ ∃ N : L2.St → Hp → Prop, (∀ σ' H', N σ' H' → ∃ m', m' < m ∧ W (i + 1) m' σ' H') ∧ ∀ x H', J.yld i H x H' → g x σ H' fun σ2 H2 => tb { D with nx := N, ct := N, bk := D.nx } σ2 H2)
theorem forR1 {ta : TA} {g : TG} {tb : TS} (h : ta σ H fun vs H1 => ∃ j : Int, vs = [.int j] ∧ -(2 ^ 62) ≤ j ∧ j < 2 ^ 62 ∧ Loop (Itr 0 j.toNat) g tb D σ H1) : tFor (iRng1 ta) g tb D σ H := h
theorem forR2 {ta : TA} {g : TG} {tb : TS} (h : ta σ H fun vs H1 => ∃ i j : Int, vs = [.int i, .int j] ∧ (-(2 ^ 62) ≤ i ∧ i < 2 ^ 62 ∧ -(2 ^ 62) ≤ j ∧ j < 2 ^ 62) ∧ Loop (Itr i (j - i).toNat) g tb D σ H1) : tFor (iRng2 ta) g tb D σ H := h
theorem forL {g : TG} {tb : TS} (h : te σ H fun x H1 => ∃ a, x = .ref a ∧ (∃ xs, SqL K H1 a xs) ∧ Loop (Itl K a) g tb D σ H1) : tFor (iList K te) g tb D σ H := h
theorem forT {g : TG} {tb : TS} (h : te σ H fun x H1 => ∃ a, x = .ref a ∧ (∃ xs, SqT K H1 a xs) ∧ Loop (Itt K a) g tb D σ H1) : tFor (iTup K te) g tb D σ H := h
theorem loopR {lo : Int} {n : Nat} {g : TG} {tb : TS} (Pv : Nat → L2.St → Hp → Prop) (h0 : Pv 0 σ H)
    (hs : ∀ i σ H, i < n → Pv i σ H → g (.int (lo + i)) σ H fun σ2 H2 => tb { D with nx := Pv (i + 1), ct := Pv (i + 1), bk := D.nx } σ2 H2) (hd : ∀ σ H, Pv n σ H → D.nx σ H) : Loop (Itr lo n) g tb D σ H := for_range Pv h0 hs hd
theorem loopL {g : TG} {tb : TS} {xs : List V} (Pv : Nat → L2.St → Hp → Prop) (h0 : Pv 0 σ H) (hl : ∀ i σ H, i ≤ xs.length → Pv i σ H → SqL K H a xs)
    (hs : ∀ i x σ H, xs[i]? = some x → Pv i σ H → g x σ H fun σ2 H2 => tb { D with nx := Pv (i + 1), ct := Pv (i + 1), bk := D.nx } σ2 H2) (hd : ∀ σ H, Pv xs.length σ H → D.nx σ H) : Loop (Itl K a) g tb D σ H := for_list Pv h0 hl hs hd
/-! ### comprehensions, whiles -/
def LoopC (J : It) (g : TG) (tt : TT) (te : TE) (vs : List Nat) (σ : L2.St) (D : Addr) (Qd : Hp → Prop) (H0 : Hp) : Prop := ∃ W : Nat → Nat → Hp → Prop, (∃ m, W 0 m H0) ∧ ∀ i m H, W i m H →
  (J.stop i H ∧ Qd H) ∨ (J.go i H ∧ ∃ Nx : Hp → Prop, (∀ H', Nx H' → ∃ m', m' < m ∧ W (i + 1) m' H') ∧ ∀ x H', J.yld i H x H' → g x (wipe σ vs) H' fun σ2 H2 => wipe σ2 vs = wipe σ vs ∧ tt σ2 H2 fun b H3 =>
    if b = true then te σ2 H3 fun y H4 => ∃ acc, H4 D = some (.lst acc) ∧ acc.length < sizeLine ∧ Nx (upd H4 D (.lst (acc ++ [y]))) else Nx H3)
theorem lcR1 {ta : TA} {g : TG} {tt : TT} {vs : List Nat} (h : ta σ H fun us H1 => ∃ j : Int, us = [.int j] ∧ -(2 ^ 62) ≤ j ∧ j < 2 ^ 62 ∧ ∀ D, H1 D = none → LoopC (Itr 0 j.toNat) g tt te vs σ D (fun H => Q (.ref D) H) (upd H1 D (.lst []))) : tLc (iRng1 ta) g tt te vs σ H Q := h
theorem lcR2 {ta : TA} {g : TG} {tt : TT} {vs : List Nat} (h : ta σ H fun us H1 => ∃ i j : Int, us = [.int i, .int j] ∧ (-(2 ^ 62) ≤ i ∧ i < 2 ^ 62 ∧ -(2 ^ 62) ≤ j ∧ j < 2 ^ 62) ∧ ∀ D, H1 D = none → LoopC (Itr i (j - i).toNat) g tt te vs σ D (fun H => Q (.ref D) H) (upd H1 D (.lst []))) : tLc (iRng2 ta) g tt te vs σ H Q := h
theorem lcL {g : TG} {tt : TT} {vs : List Nat} (h : ta σ H fun x H1 => ∃ a, x = .ref a ∧ (∃ xs, SqL K H1 a xs) ∧ ∀ D, H1 D = none → LoopC (Itl K a) g tt te vs σ D (fun H => Q (.ref D) H) (upd H1 D (.lst []))) : tLc (iList K ta) g tt te vs σ H Q := h
theorem loopCR {lo : Int} {n : Nat} {g : TG} {tt : TT} {vs : List Nat} {D : Addr} {Qd : Hp → Prop} (Pv : Nat → Hp → Prop) (h0 : Pv 0 H)
    (hs : ∀ i H, i < n → Pv i H → g (.int (lo + i)) (wipe σ vs) H fun σ2 H2 => wipe σ2 vs = wipe σ vs ∧ tt σ2 H2 fun b H3 =>
      if b = true then te σ2 H3 fun y H4 => ∃ acc, H4 D = some (.lst acc) ∧ acc.length < sizeLine ∧ Pv (i + 1) (upd H4 D (.lst (acc ++ [y]))) else Pv (i + 1) H3) (hd : ∀ H, Pv n H → Qd H) : LoopC (Itr lo n) g tt te vs σ D Qd H := by
  refine ⟨fun i m H => m = n - i ∧ i ≤ n ∧ Pv i H, ⟨n, by simp, Nat.zero_le _, h0⟩, ?_⟩
  rintro i m H ⟨rfl, hi, p⟩
  by_cases hlt : i < n
  · refine .inr ⟨hlt, Pv (i + 1), fun H' p' => ⟨n - (i + 1), by omega, rfl, hlt, p'⟩, fun x H' y => ?_⟩
    obtain ⟨e, y⟩ := y
    subst e y
    exact hs i _ hlt p
  · have e : i = n := by omega
    subst e
    exact .inl ⟨Nat.le_refl _, hd H p⟩
theorem loopCL {a : Addr} {xs : List V} {g : TG} {tt : TT} {vs : List Nat} {D : Addr} {Qd : Hp → Prop} (Pv : Nat → Hp → Prop) (h0 : Pv 0 H) (hl : ∀ i H, i ≤ xs.length → Pv i H → SqL K H a xs)
    (hs : ∀ i x H, xs[i]? = some x → Pv i H → g x (wipe σ vs) H fun σ2 H2 => wipe σ2 vs = wipe σ vs ∧ tt σ2 H2 fun b H3 =>
      if b = true then te σ2 H3 fun y H4 => ∃ acc, H4 D = some (.lst acc) ∧ acc.length < sizeLine ∧ Pv (i + 1) (upd H4 D (.lst (acc ++ [y]))) else Pv (i + 1) H3) (hd : ∀ H, Pv xs.length H → Qd H) : LoopC (Itl K a) g tt te vs σ D Qd H := by
  refine ⟨fun i m H => m = xs.length - i ∧ i ≤ xs.length ∧ Pv i H, ⟨xs.length, by simp, Nat.zero_le _, h0⟩, ?_⟩
  rintro i m H ⟨rfl, hi, p⟩
  have q := hl i H hi p
  by_cases hlt : i < xs.length
  · refine .inr ⟨⟨xs, xs[i], q, by simp [hlt]⟩, Pv (i + 1), fun H' p' => ⟨xs.length - (i + 1), by omega, rfl, hlt, p'⟩, fun x H' y => ?_⟩
    obtain ⟨e, y⟩ := y
    subst e
    exact hs i x _ (y xs q) p
  · have e : i = xs.length := by omega
    subst e
    exact .inl ⟨⟨xs, q, Nat.le_refl _⟩, hd H p⟩
theorem yes {R : Bool → Hp → Prop} (h : R true H) : tYes σ H R := h
theorem whileW (M : Nat → L2.St → Hp → Prop) (m0 : Nat) (h0 : M m0 σ H)
    (hs : ∀ m σ H, M m σ H → c σ H fun b H1 => if b = true then (∃ N : L2.St → Hp → Prop, (∀ σ' H', N σ' H' → ∃ m', m' < m ∧ M m' σ' H') ∧ t { D with nx := N, ct := N, bk := D.nx } σ H1) else D.nx σ H1) : tWhile c t D σ H := by
  refine ⟨M, ⟨m0, h0⟩, fun m σ H h => ?_⟩
  have h2 := hs m σ H h
  exact h2
theorem dinI {ty td : TE} (h : ty σ H fun y H1 => td σ H1 fun x H2 => ∃ a o, x = .ref a ∧ DGet H2 a y o ∧ Q (.bl o.isSome) H2) : tDIn ty td σ H Q := h
theorem dninI {ty td : TE} (h : ty σ H fun y H1 => td σ H1 fun x H2 => ∃ a o, x = .ref a ∧ DGet H2 a y o ∧ Q (.bl (!o.isSome)) H2) : tDNotIn ty td σ H Q := h
theorem dget {ty td : TE} (h : td σ H fun x H1 => ty σ H1 fun y H2 => ∃ a v, x = .ref a ∧ DGet H2 a y (some v) ∧ Q v H2) : tDGet td ty σ H Q := h
/-- len and list of a sequence, by names -/
def rLenS (K : PySem.W.Frag) : List V → Hp → VK → Prop := fun xs H Q => ∃ p ys, xs = [.ref p] ∧ (SqL K H p ys ∨ SqT K H p ys) ∧ Q (.int ys.length) H
theorem call_lenS {X : Cx} : CallR X (.builtin "len") (rLenS X.K) := call_len_seq
def rListS (K : PySem.W.Frag) : List V → Hp → VK → Prop := fun xs H Q => ∃ p ys, xs = [.ref p] ∧ (SqL K H p ys ∨ SqT K H p ys) ∧ ∀ l, H l = none → Q (.ref l) (upd H l (.lst ys))
theorem call_listS {X : Cx} : CallR X (.type "list") (rListS X.K) := call_list_of
theorem lenS_ {p : Addr} {ys : List V} (h : SqL K H p ys) (q : Q (.int ys.length) H) : rLenS K [.ref p] H Q := ⟨p, ys, rfl, .inl h, q⟩
theorem listS_ {p : Addr} {ys : List V} (h : SqL K H p ys) (q : ∀ l, H l = none → Q (.ref l) (upd H l (.lst ys))) : rListS K [.ref p] H Q := ⟨p, ys, rfl, .inl h, q⟩
theorem chain {r r' : R2} (h : ta σ H fun x H1 => tb σ H1 fun y H2 => r x y H2 fun z H3 => ∃ k, z = .bl k ∧ (if k = true then tc σ H3 fun w' H4 => r' y w' H4 Q else Q (.bl false) H3)) : tChain r r' ta tb tc σ H Q := h
/-- a comprehension of two clauses, the first one's loop -/
def LoopC2 (J : It) (g : TG) (tt : TT) (wi1 : TI) (g1 : TG) (tt1 : TT) (te : TE) (vs vs1 : List Nat) (σ : L2.St) (D : Addr) (Qd : Hp → Prop) (H0 : Hp) : Prop := ∃ W : Nat → Nat → Hp → Prop, (∃ m, W 0 m H0) ∧ ∀ i m H, W i m H →
  (J.stop i H ∧ Qd H) ∨ (J.go i H ∧ ∃ Nx : Hp → Prop, (∀ H', Nx H' → ∃ m', m' < m ∧ W (i + 1) m' H') ∧ ∀ x H', J.yld i H x H' → g x (wipe σ vs) H' fun σ2 H2 => wipe σ2 vs = wipe σ vs ∧ tt σ2 H2 fun b H3 =>
    if b = true then wi1 σ2 H3 (fun J1 H4 => LoopC J1 g1 tt1 te vs1 σ2 D Nx H4) else Nx H3)
theorem lc2V {K : PySem.W.Frag} {ts : TA} {wi1 : TI} {g g1 : TG} {tt tt1 : TT} {vs vs1 : List Nat} (h : ts σ H fun us H1 => ∃ (a : Addr) (xs : List V), us = [.ref a] ∧ SqL K H1 a xs ∧ ∀ D, H1 D = none → LoopC2 (Itv K a xs.length) g tt wi1 g1 tt1 te vs vs1 σ D (fun H => Q (.ref D) H) (upd H1 D (.lst []))) :
    tLc2 (iRev K ts) g tt wi1 g1 tt1 te vs vs1 σ H Q := h
theorem loopC2V {a : Addr} {xs : List V} {wi1 : TI} {g g1 : TG} {tt tt1 : TT} {vs vs1 : List Nat} {D : Addr} {Qd : Hp → Prop} (Pv : Nat → Hp → Prop) (h0 : Pv 0 H) (hl : ∀ i H, Pv i H → SqL K H a xs)
    (hs : ∀ i x H, i < xs.length → xs[xs.length - 1 - i]? = some x → Pv i H → g x (wipe σ vs) H fun σ2 H2 => wipe σ2 vs = wipe σ vs ∧ tt σ2 H2 fun b H3 =>
      if b = true then wi1 σ2 H3 (fun J1 H4 => LoopC J1 g1 tt1 te vs1 σ2 D (Pv (i + 1)) H4) else Pv (i + 1) H3) (hd : ∀ H, Pv xs.length H → Qd H) : LoopC2 (Itv K a xs.length) g tt wi1 g1 tt1 te vs vs1 σ D Qd H := by
  refine ⟨fun i m H => m = xs.length - i ∧ i ≤ xs.length ∧ Pv i H, ⟨xs.length, by simp, Nat.zero_le _, h0⟩, ?_⟩
  rintro i m H ⟨rfl, hi, p⟩
  by_cases hlt : i < xs.length
  · have hx : xs.length - 1 - i < xs.length := by omega
    refine .inr ⟨⟨hlt, xs, xs[xs.length - 1 - i], hl i H p, List.getElem?_eq_getElem hx⟩, Pv (i + 1), fun H' p' => ⟨xs.length - (i + 1), by omega, rfl, hlt, p'⟩, fun x H' y => ?_⟩
    obtain ⟨e, y⟩ := y
    subst e
    exact hs i x _ hlt (y xs (hl i _ p)) p
  · have e : i = xs.length := by omega
    subst e
    exact .inl ⟨Nat.le_refl _, hd H p⟩
theorem piL {R : It → Hp → Prop} (h : ta σ H fun x H1 => ∃ a, x = .ref a ∧ (∃ xs, SqL K H1 a xs) ∧ R (Itl K a) H1) : iList K ta σ H R := h
/-! ### kinds -/
/-- a value's built-in type, of what is known of it -/
inductive Kind (H : Hp) : V → String → Prop where
  | non : Kind H .non "NoneType"
  | bl (b : Bool) : Kind H (.bl b) "bool"
  | int (i : Int) : Kind H (.int i) "int"
  | str (x : Str) : Kind H (.str x) "str"
  | lst {a : Addr} {xs : List V} (h : H a = some (.lst xs)) : Kind H (.ref a) "list"
  | tup {a : Addr} {xs : List V} (h : H a = some (.tup xs)) : Kind H (.ref a) "tuple"
  | dK {a : Addr} {kvs : List (Key × V)} (h : H a = some (.dK kvs)) : Kind H (.ref a) "dict"
theorem Kind.tyB {T : String} (k : Kind H x T) : TyB K H x T := by
  cases k with
  | non => exact .non
  | bl b => exact .bl b
  | int i => exact .int i
  | str s => exact .str s
  | lst h => exact .lst (SqL.of h)
  | tup h => exact .tup (SqT.of h)
  | dK h => exact .dK h
theorem Kind.tyX {T : String} (k : Kind H x T) : TyX K H x (.type T) := by
  cases k with
  | non => exact .base .non
  | bl b => exact .base (.bl b)
  | int i => exact .base (.int i)
  | str s => exact .base (.str s)
  | lst h => exact .base (.lst h)
  | tup h => exact .base (.tup h)
  | dK h => exact .base (.dK h)
def isB (T C : String) : Bool := decide (T = C) || (decide (T = "bool") && decide (C = "int"))
theorem isB_eq {T C : String} (h : C ≠ "int") : isB T C = decide (T = C) := by
  unfold isB
  rw [decide_eq_false h, Bool.and_false, Bool.or_false]
theorem Kind.kit {T : String} (k : Kind H x T) {C : String} (hC : C = "int" ∨ C = "bool" ∨ C = "str" ∨ C = "tuple" ∨ C = "list") : PySem.W.kitOne K (.type T) (.type C) = some (isB T C) := by
  rcases hC with rfl | rfl | rfl | rfl | rfl <;> cases k <;> exact kit_ty (by decide +kernel)
theorem isi {T C : String} (k : Kind H x T) (hC : C = "int" ∨ C = "bool" ∨ C = "str" ∨ C = "tuple" ∨ C = "list") (q : Q (.bl (isB T C)) H) : rIsi K [x, .ty C] H Q :=
  ⟨x, .ty C, _, _, _, rfl, .ty C, k.tyX, k.kit hC, q⟩
theorem typ {T : String} (k : Kind H x T) (q : Q (.ty T) H) : rTyp K [x] H Q := ⟨x, T, rfl, k.tyB, q⟩
theorem rNT_ {s1 s2 : String} (q : Q (.bl (!decide (s1 = s2))) H) : rNT (.ty s1) (.ty s2) H Q := ⟨s1, s2, rfl, rfl, q⟩
/-! ### heaps -/
theorem Kp.same (h : H b = none) (k : Kp b H H1) : Same H H1 := fun a o e => k a o (ne_of_none e h) e
theorem Kp.updNew {o : HO} (k : Kp b H H1) (h : H p = none) : Kp b H (upd H1 p o) := fun a u n e => by rw [upd_ne (ne_of_none e h)]; exact k a u n e
theorem Same.kp (k : Same H H1) : Kp b H H1 := fun a o _ e => k a o e
theorem same_new {o : HO} (h : H p = none) : Same H (upd H p o) := fun a u e => by rw [upd_ne (ne_of_none e h)]; exact e
theorem Kp.kind {T : String} {bs : List V} (k : Kp b H H1) (hb : H b = some (.lst bs)) (q : Kind H x T) (n : x ≠ .ref b) : Kind H1 x T := by
  cases q with
  | non => exact .non
  | bl b => exact .bl b
  | int i => exact .int i
  | str s => exact .str s
  | lst h => exact .lst (k _ _ (fun e => n (by rw [e])) h)
  | tup h => exact .tup (k _ _ (fun e => n (by rw [e])) h)
  | dK h => exact .dK (k _ _ (fun e => n (by rw [e])) h)
theorem Same.kind {T : String} (k : Same H H1) (q : Kind H x T) : Kind H1 x T := by
  cases q with
  | non => exact .non
  | bl b => exact .bl b
  | int i => exact .int i
  | str s => exact .str s
  | lst h => exact .lst (k _ _ h)
  | tup h => exact .tup (k _ _ h)
  | dK h => exact .dK (k _ _ h)
theorem atI_of {α : Type} {xs : List α} {x : α} {j : Int} {n : Nat} (e : j = n) (h : xs[n]? = some x) : atI xs j = some x := by rw [e]; exact atI_nat h
end
end Wp

/-! Worths and piles as data: (text, int), lists of such; what is kept of them. -/
namespace Wq
open PySem PySem.Spec PyProof.Rows L2 Wp
abbrev W := Str × Int
def wD (w : W) : PyData := .tuple [.str w.1, .int w.2]
def IsW (H : Hp) (v : V) (w : W) : Prop := ∃ t, v = .ref t ∧ H t = some (.tup [.str w.1, .int w.2])
def Pile (H : Hp) (vs : List V) (ws : List W) : Prop := Paired (IsW H) vs ws
/-- the tuples stay -/
def Tk (H H' : Hp) : Prop := ∀ t xs, H t = some (.tup xs) → H' t = some (.tup xs)
section
variable {H H1 H2 : Hp} {a b p : Addr} {v x y : V} {w : W} {vs us : List V} {ws zs : List W} {K : PySem.W.Frag}
theorem Tk.refl : Tk H H := fun _ _ h => h
theorem Tk.trans (h : Tk H H1) (k : Tk H1 H2) : Tk H H2 := fun t xs e => k t xs (h t xs e)
theorem Same.tk (s : Same H H1) : Tk H H1 := fun t xs e => s t _ e
theorem Kp.tk {bs : List V} (k : Kp b H H1) (h : H b = some (.lst bs)) : Tk H H1 := fun t xs e => k t _ (ne_of e h (by intro q; cases q)) e
theorem Tk.lst {o : HO} {bs : List V} (h : H b = some (.lst bs)) : Tk H (upd H b o) := fun t xs e => by rw [upd_ne (ne_of e h (by intro q; cases q))]; exact e
theorem Tk.dT {o : HO} {bs : List (List Key × V)} (h : H b = some (.dT bs)) : Tk H (upd H b o) := fun t xs e => by rw [upd_ne (ne_of e h (by intro q; cases q))]; exact e
theorem Tk.dK {o : HO} {bs : List (Key × V)} (h : H b = some (.dK bs)) : Tk H (upd H b o) := fun t xs e => by rw [upd_ne (ne_of e h (by intro q; cases q))]; exact e
theorem Tk.new {o : HO} (h : H p = none) : Tk H (upd H p o) := fun t xs e => by rw [upd_ne (ne_of_none e h)]; exact e
theorem IsW.keep (h : IsW H v w) (k : Tk H H1) : IsW H1 v w := by
  obtain ⟨t, e, h⟩ := h
  exact ⟨t, e, k _ _ h⟩
theorem Pile.keep (h : Pile H vs ws) (k : Tk H H1) : Pile H1 vs ws := Paired.mapP h fun _ _ q => q.keep k
theorem Pile.len (h : Pile H vs ws) : vs.length = ws.length := Paired.length h
theorem Pile.nil : Pile H [] [] := Paired.nil
theorem Pile.app (h : Pile H vs ws) (k : Pile H us zs) : Pile H (vs ++ us) (ws ++ zs) := by
  unfold Pile at *
  induction h with
  | nil => exact k
  | cons r t ih => exact .cons r ih
theorem Pile.one (h : IsW H v w) : Pile H [v] [w] := Paired.cons h Paired.nil
theorem Pile.take (h : Pile H vs ws) : ∀ n, Pile H (vs.take n) (ws.take n) := by
  unfold Pile at *
  induction h with
  | nil => intro n; cases n <;> exact .nil
  | cons r t ih => intro n; cases n with
    | zero => exact .nil
    | succ n => exact .cons r (ih n)
theorem Pile.drop (h : Pile H vs ws) : ∀ n, Pile H (vs.drop n) (ws.drop n) := by
  unfold Pile at *
  induction h with
  | nil => intro n; cases n <;> exact .nil
  | cons r t ih => intro n; cases n with
    | zero => exact .cons r t
    | succ n => exact ih n
theorem Pile.rev (h : Pile H vs ws) : Pile H vs.reverse ws.reverse := by
  unfold Pile at *
  induction h with
  | nil => exact .nil
  | cons r t ih =>
    rw [List.reverse_cons, List.reverse_cons]
    exact Pile.app ih (Pile.one r)
theorem Pile.get (h : Pile H vs ws) : ∀ {i : Nat}, vs[i]? = some v → ∃ w, ws[i]? = some w ∧ IsW H v w := by
  unfold Pile at h
  induction h with
  | nil => intro i e; cases i <;> cases e
  | cons r t ih => intro i e; cases i with
    | zero => cases e; exact ⟨_, rfl, r⟩
    | succ n => exact ih e
theorem Pile.at (h : Pile H vs ws) {i : Nat} (hi : i < ws.length) : ∃ v w, vs[i]? = some v ∧ ws[i]? = some w ∧ IsW H v w := by
  have h2 : i < vs.length := by rw [h.len]; exact hi
  obtain ⟨w, hw, q⟩ := h.get (List.getElem?_eq_getElem h2)
  exact ⟨_, w, List.getElem?_eq_getElem h2, hw, q⟩
/-! ### as data -/
theorem IsW.dp (h : IsW H v w) : Dp K H v (wD w) := by
  obtain ⟨t, rfl, h⟩ := h
  exact .tup (SqT.of h) (.cons (.str _) (.cons (.int _) .nil))
theorem Pile.dpAll (h : Pile H vs ws) : DpAll K H vs (ws.map wD) := by
  unfold Pile at h
  induction h with
  | nil => exact .nil
  | cons r t ih => exact .cons r.dp ih
theorem Pile.dp (h : Pile H vs ws) (e : SqL K H a vs) : Dp K H (.ref a) (.list (ws.map wD)) := .lst e h.dpAll
/-- texts as worths have them -/
def Wok (w : W) : Prop := PyData.strOk w.1 = true
theorem wD_lay (h : Wok w) : (wD w).canLay0 = true := by
  unfold wD
  simp only [PyData.canLay0, PyData.canLayAll0]
  rw [show PyData.strOk w.1 = true from h]
  rfl
theorem wD_depth : (wD w).depth = 1 := by simp [wD, PyData.depth, PyData.depthAll]
theorem wDs_lay : ∀ ws : List W, (∀ w ∈ ws, Wok w) → PyData.canLayAll0 (ws.map wD) = true
  | [], _ => by simp [PyData.canLayAll0]
  | w :: ws, h => by
    rw [List.map_cons]
    simp only [PyData.canLayAll0]
    rw [wD_lay (h w List.mem_cons_self), wDs_lay ws (fun x hx => h x (List.mem_cons_of_mem _ hx))] <;> rfl
theorem wDs_depth : ∀ ws : List W, PyData.depthAll (ws.map wD) ≤ 1
  | [] => by simp [PyData.depthAll]
  | w :: ws => by
    have h := wDs_depth ws
    rw [List.map_cons]
    simp only [PyData.depthAll]
    rw [wD_depth]
    omega
theorem wD_shaped (h : Wok w) : SeqAt.shaped (wD w) = true := by
  unfold SeqAt.shaped
  rw [wD_lay h, wD_depth] <;> rfl
theorem wDs_shaped (h : ∀ w ∈ ws, Wok w) : SeqAt.shaped (.list (ws.map wD)) = true := by
  have h2 := wDs_depth ws
  have h3 : (PyData.list (ws.map wD)).depth ≤ 64 := by
    simp only [PyData.depth]
    omega
  show (PyData.canLay0 (.list (ws.map wD)) && decide ((PyData.list (ws.map wD)).depth ≤ 64)) = true
  rw [decide_eq_true h3, Bool.and_true]
  simp only [PyData.canLay0]
  exact wDs_lay ws h
theorem wD_eqv (w z : W) : PyData.eqv (wD w) (wD z) = decide (w = z) := by
  unfold wD
  simp only [PyData.eqv, PyData.eqvAll, Bool.and_true]
  obtain ⟨s, n⟩ := w
  obtain ⟨t, m⟩ := z
  rw [Bool.beq_eq_decide_eq, Bool.beq_eq_decide_eq]
  by_cases e1 : s = t
  · by_cases e2 : n = m
    · subst e1 e2; simp
    · simp [e1, e2]
  · simp [e1]
theorem any_wD (w : W) : ∀ ws : List W, ((ws.map wD).any fun z => PyData.eqv z (wD w)) = decide (w ∈ ws)
  | [] => rfl
  | z :: ws => by
    rw [List.map_cons, List.any_cons, any_wD w ws, wD_eqv]
    by_cases e : z = w
    · subst e; simp
    · rw [decide_eq_false e, Bool.false_or]
      exact decide_eq_decide.mpr ⟨fun h => List.mem_cons_of_mem _ h, fun h => (List.mem_cons.mp h).elim (fun q => absurd q.symm e) id⟩
theorem eq_self {d : PyData} (h : SeqAt.shaped d = true) : PyData.eqv d d = true := by
  refine PySem.SeqAt.eqv_refl d ?_
  have h2 : (d.canLay0 && decide (d.depth ≤ 64)) = true := h
  rw [Bool.and_eq_true] at h2
  exact h2.1
end
end Wq

/-! Papers as data; what is kept of lists; xs[i] op= e. -/
namespace Wr
open PySem PySem.Spec PyProof.Rows L2 Wp Wq
section
variable {X : Cx}
/-- xs[i], read by values, 0 ≤ i -/
def gIx (K : PySem.W.Frag) : V → V → Hp → VK → Prop := fun x y H Q => ∃ p xs, ∃ i : Nat, ∃ v, x = .ref p ∧ y = .int i ∧ SqL K H p xs ∧ xs[i]? = some v ∧ Q v H
theorem get_list : PGet X (gIx X.K) := by
  intro pins s σ H x y v u Q I rx ry h
  obtain ⟨p, xs, i, z, rfl, rfl, hq, he, q⟩ := h
  cases rx
  obtain ⟨t, rfl⟩ := ry
  obtain ⟨its, r, pl, hz⟩ := I.list hq
  obtain ⟨w, ew, rw'⟩ := r.get he
  have hl := r.length
  have hn := line63
  have hi : i < xs.length := (List.getElem?_eq_some_iff.mp he).1
  exact wpAny_getItem_list pl.isList (by omega) (by omega) (by simpa using ew) ⟨z, H, I, rw', q⟩
end
section
variable {σ : L2.St} {H : Hp} {D : Ends} {to ti te : TE} {K : PySem.W.Frag}
theorem augS {tget : V → V → Hp → VK → Prop} {tip : TIp} {tset : TSet} (h : to σ H fun o H1 => ti σ H1 fun i H2 => tget o i H2 fun x H3 => te σ H3 fun y H4 => tip x y H4 fun z H5 => tset o i z H5 fun H6 => D.nx σ H6) : tAugS to ti te tget tip tset D σ H := h
theorem gix {p : Addr} {xs : List V} {i : Nat} {v : V} {Q : VK} (h : SqL K H p xs) (e : xs[i]? = some v) (q : Q v H) : gIx K (.ref p) (.int i) H Q := ⟨p, xs, i, v, rfl, rfl, h, e, q⟩
theorem ipi {f : Int → Int → Int} {a b : Int} {Q : VK} (q : Q (.int (f a b)) H) : ipI f (.int a) (.int b) H Q := ⟨a, b, rfl, rfl, q⟩
end
/-! ### what is kept -/
/-- all but the objects of S is kept, the tuples too -/
structure Ks (S : List Addr) (H H' : Hp) : Prop where
  keep : ∀ a o, a ∉ S → H a = some o → H' a = some o
  tk : Tk H H'
section
variable {S S' : List Addr} {H H1 H2 : Hp} {a b p : Addr} {v : V} {vs : List V} {ws : List W} {K : PySem.W.Frag}
theorem Ks.refl : Ks S H H := ⟨fun _ _ _ h => h, fun _ _ h => h⟩
theorem Ks.trans (x : Ks S H H1) (y : Ks S H1 H2) : Ks S H H2 := ⟨fun a o n h => y.keep a o n (x.keep a o n h), x.tk.trans y.tk⟩
theorem Ks.same (x : Same H H1) : Ks S H H1 := ⟨fun a o _ h => x a o h, Same.tk x⟩
theorem Ks.mono (x : Ks S H H1) (h : ∀ a ∈ S, a ∈ S') : Ks S' H H1 := ⟨fun a o n e => x.keep a o (fun q => n (h a q)) e, x.tk⟩
theorem Ks.kp {bs : List V} (k : Kp b H H1) (h : H b = some (.lst bs)) (m : b ∈ S) : Ks S H H1 := ⟨fun a o n e => k a o (fun q => n (q ▸ m)) e, Kp.tk k h⟩
theorem Ks.upd {bs : List V} {o : HO} (h : H b = some (.lst bs)) (m : b ∈ S) : Ks S H (upd H b o) := ⟨fun a u n e => by rw [upd_ne (fun q : a = b => n (by rw [q]; exact m))]; exact e, Tk.lst h⟩
theorem Ks.new {o : HO} (h : H p = none) : Ks S H (L2.upd H p o) := Ks.same (same_new h)
/-- what is new to H is not looked at -/
theorem Ks.toSame (x : Ks S H1 H2) (s : Same H H1) (n : ∀ a ∈ S, H a = none) : Same H H2 := fun a o e => x.keep a o (fun q => by rw [n a q] at e; cases e) (s a o e)
/-! ### a list of pieces -/
abbrev Pc := Int × List W
def IsPc (S : List Addr) (H : Hp) (v : V) (p : Pc) : Prop := ∃ t l vs, v = .ref t ∧ H t = some (.tup [.int p.1, .ref l]) ∧ H l = some (.lst vs) ∧ Pile H vs p.2 ∧ l ∉ S
def Pieces (S : List Addr) (H : Hp) (xs : List V) (R : List Pc) : Prop := Paired (IsPc S H) xs R
theorem IsPc.keep {p : Pc} (h : IsPc S H v p) (k : Ks S H H1) : IsPc S H1 v p := by
  obtain ⟨t, l, vs, e, h1, h2, h3, h4⟩ := h
  exact ⟨t, l, vs, e, k.tk _ _ h1, k.keep _ _ h4 h2, h3.keep k.tk, h4⟩
theorem IsPc.less {p : Pc} (h : IsPc S H v p) (k : ∀ a ∈ S', a ∈ S) : IsPc S' H v p := by
  obtain ⟨t, l, vs, e, h1, h2, h3, h4⟩ := h
  exact ⟨t, l, vs, e, h1, h2, h3, fun q => h4 (k _ q)⟩
theorem Pieces.keep {xs : List V} {R : List Pc} (h : Pieces S H xs R) (k : Ks S H H1) : Pieces S H1 xs R := Paired.mapP h fun _ _ q => q.keep k
theorem Pieces.less {xs : List V} {R : List Pc} (h : Pieces S H xs R) (k : ∀ a ∈ S', a ∈ S) : Pieces S' H xs R := Paired.mapP h fun _ _ q => q.less k
theorem Pieces.len {xs : List V} {R : List Pc} (h : Pieces S H xs R) : xs.length = R.length := Paired.length h
theorem Pieces.nil : Pieces S H [] [] := Paired.nil
theorem pair_app {α β : Type} {F : α → β → Prop} : ∀ {l₁ m₁ : List α} {l₂ m₂ : List β}, Paired F l₁ l₂ → Paired F m₁ m₂ → Paired F (l₁ ++ m₁) (l₂ ++ m₂)
  | _, _, _, _, .nil, k => k
  | _, _, _, _, .cons r t, k => .cons r (pair_app t k)
theorem pair_at {α β : Type} {F : α → β → Prop} : ∀ {l₁ : List α} {l₂ : List β}, Paired F l₁ l₂ → ∀ {i : Nat} {y : β}, l₂[i]? = some y → ∃ x, l₁[i]? = some x ∧ F x y
  | _, _, .nil, i, y, e => by cases i <;> cases e
  | _, _, .cons r t, 0, y, e => by cases e; exact ⟨_, rfl, r⟩
  | _, _, .cons r t, i + 1, y, e => pair_at t (i := i) e
theorem pair_at1 {α β : Type} {F : α → β → Prop} : ∀ {l₁ : List α} {l₂ : List β}, Paired F l₁ l₂ → ∀ {i : Nat} {x : α}, l₁[i]? = some x → ∃ y, l₂[i]? = some y ∧ F x y
  | _, _, .nil, i, y, e => by cases i <;> cases e
  | _, _, .cons r t, 0, y, e => by cases e; exact ⟨_, rfl, r⟩
  | _, _, .cons r t, i + 1, y, e => pair_at1 t (i := i) e
/-! ### lists of piles -/
def IsLs (S : List Addr) (H : Hp) (v : V) (ws : List W) : Prop := ∃ l vs, v = .ref l ∧ H l = some (.lst vs) ∧ Pile H vs ws ∧ l ∉ S
def Lists (S : List Addr) (H : Hp) (ys : List V) (Ps : List (List W)) : Prop := Paired (IsLs S H) ys Ps
theorem IsLs.keep {ws : List W} (h : IsLs S H v ws) (k : Ks S H H1) : IsLs S H1 v ws := by
  obtain ⟨l, vs, e, h2, h3, h4⟩ := h
  exact ⟨l, vs, e, k.keep _ _ h4 h2, h3.keep k.tk, h4⟩
theorem IsLs.less {ws : List W} (h : IsLs S H v ws) (k : ∀ a ∈ S', a ∈ S) : IsLs S' H v ws := by
  obtain ⟨l, vs, e, h2, h3, h4⟩ := h
  exact ⟨l, vs, e, h2, h3, fun q => h4 (k _ q)⟩
theorem Lists.keep {ys : List V} {Ps : List (List W)} (h : Lists S H ys Ps) (k : Ks S H H1) : Lists S H1 ys Ps := Paired.mapP h fun _ _ q => q.keep k
theorem Lists.less {ys : List V} {Ps : List (List W)} (h : Lists S H ys Ps) (k : ∀ a ∈ S', a ∈ S) : Lists S' H ys Ps := Paired.mapP h fun _ _ q => q.less k
theorem Lists.len {ys : List V} {Ps : List (List W)} (h : Lists S H ys Ps) : ys.length = Ps.length := Paired.length h
/-! ### what a raw paper is, and its piles -/
def RawOk (size : Int) (R : List Pc) : Prop := ∀ (k : Nat) (p : Pc), R[k]? = some p → -1 ≤ p.1 ∧ p.1 < k ∧ 1 ≤ p.2.length ∧ (p.2.length : Int) ≤ size ∧ ∀ z ∈ p.2, Wok z
def belowM (Ps : List (List W)) (u : Int) : List W := if 0 ≤ u then Ps.getD u.toNat [] else []
def PilesOk (R : List Pc) (Ps : List (List W)) : Prop := Ps.length = R.length ∧ ∀ (k : Nat) (p : Pc), R[k]? = some p → Ps[k]? = some (belowM Ps p.1 ++ p.2)
theorem RawOk.nil {size : Int} : RawOk size [] := fun k p e => by cases k <;> cases e
theorem PilesOk.nil : PilesOk [] [] := ⟨rfl, fun k p e => by cases k <;> cases e⟩
theorem get_app1 {α : Type} {l : List α} {x y : α} {k : Nat} (h : (l ++ [x])[k]? = some y) : l[k]? = some y ∨ (k = l.length ∧ y = x) := by
  by_cases c : k < l.length
  · rw [List.getElem?_append_left c] at h; exact .inl h
  · rw [List.getElem?_append_right (by omega)] at h
    have e : k - l.length = 0 := by
      by_cases q : k - l.length = 0
      · exact q
      · obtain ⟨m, hm⟩ : ∃ m, k - l.length = m + 1 := ⟨k - l.length - 1, by omega⟩
        rw [hm] at h; simp at h
    rw [e] at h
    exact .inr ⟨by omega, (Option.some.inj h).symm⟩
theorem RawOk.app {size : Int} {R : List Pc} {p : Pc} (h : RawOk size R) (h1 : -1 ≤ p.1) (h2 : p.1 < R.length) (h3 : 1 ≤ p.2.length) (h4 : (p.2.length : Int) ≤ size) (h5 : ∀ z ∈ p.2, Wok z) : RawOk size (R ++ [p]) := fun k q e => by
  rcases get_app1 e with e | ⟨rfl, rfl⟩
  · exact h k q e
  · exact ⟨h1, h2, h3, h4, h5⟩
theorem below_app {Ps : List (List W)} {x : List W} {u : Int} (h : u < Ps.length) : belowM (Ps ++ [x]) u = belowM Ps u := by
  unfold belowM
  split
  · rw [List.getD_eq_getElem?_getD, List.getD_eq_getElem?_getD, List.getElem?_append_left (by omega)]
  · rfl
theorem PilesOk.app {size : Int} {R : List Pc} {Ps : List (List W)} {p : Pc} (h : PilesOk R Ps) (ok : RawOk size R) (h2 : p.1 < R.length) : PilesOk (R ++ [p]) (Ps ++ [belowM Ps p.1 ++ p.2]) := by
  refine ⟨by rw [List.length_append, List.length_append, h.1] <;> rfl, fun k q e => ?_⟩
  have hl := h.1
  rcases get_app1 e with e | ⟨rfl, rfl⟩
  · have hk : k < R.length := (List.getElem?_eq_some_iff.mp e).1
    have := (ok k q e).2.1
    rw [below_app (by omega), List.getElem?_append_left (by omega)]
    exact h.2 k q e
  · rw [below_app (by omega), ← hl, List.getElem?_append_right (Nat.le_refl _), Nat.sub_self] <;> rfl
/-! ### a paper -/
abbrev Pap := List Pc × List Int
def IsPap (S : List Addr) (H : Hp) (v : V) (P : Pap) : Prop := ∃ t p q xs, v = .ref t ∧ H t = some (.tup [.ref p, .ref q]) ∧ H p = some (.lst xs) ∧ Pieces S H xs P.1 ∧ H q = some (.lst (P.2.map V.int)) ∧ p ∉ S ∧ q ∉ S
theorem IsPap.keep {P : Pap} (h : IsPap S H v P) (k : Ks S H H1) : IsPap S H1 v P := by
  obtain ⟨t, p, q, xs, e, h1, h2, h3, h4, h5, h6⟩ := h
  exact ⟨t, p, q, xs, e, k.tk _ _ h1, k.keep _ _ h5 h2, h3.keep k, k.keep _ _ h6 h4, h5, h6⟩
def pD (p : Pc) : PyData := .tuple [.int p.1, .list (p.2.map wD)]
def papD (P : Pap) : PyData := .tuple [.list (P.1.map pD), .list (P.2.map PyData.int)]
theorem IsPc.dp {p : Pc} (h : IsPc S H v p) : Dp K H v (pD p) := by
  obtain ⟨t, l, vs, rfl, h1, h2, h3, h4⟩ := h
  exact .tup (SqT.of h1) (.cons (.int _) (.cons (h3.dp (SqL.of h2)) .nil))
theorem Pieces.dpAll {xs : List V} {R : List Pc} (h : Pieces S H xs R) : DpAll K H xs (R.map pD) := by
  unfold Pieces at h
  induction h with
  | nil => exact .nil
  | cons r t ih => exact .cons r.dp ih
theorem ints_dp : ∀ ns : List Int, DpAll K H (ns.map V.int) (ns.map PyData.int)
  | [] => .nil
  | _ :: ns => .cons (.int _) (ints_dp ns)
theorem IsPap.dp {P : Pap} (h : IsPap S H v P) : Dp K H v (papD P) := by
  obtain ⟨t, p, q, xs, rfl, h1, h2, h3, h4, h5, h6⟩ := h
  exact .tup (SqT.of h1) (.cons (.lst (SqL.of h2) h3.dpAll) (.cons (.lst (SqL.of h4) (ints_dp _)) .nil))
theorem pD_lay {p : Pc} (h : ∀ w ∈ p.2, Wok w) : (pD p).canLay0 = true := by
  unfold pD
  simp only [PyData.canLay0, PyData.canLayAll0]
  rw [wDs_lay p.2 h] <;> rfl
theorem pDs_lay : ∀ R : List Pc, (∀ p ∈ R, ∀ w ∈ p.2, Wok w) → PyData.canLayAll0 (R.map pD) = true
  | [], _ => by simp [PyData.canLayAll0]
  | p :: R, h => by
    rw [List.map_cons]
    simp only [PyData.canLayAll0]
    rw [pD_lay (h p List.mem_cons_self), pDs_lay R (fun x hx => h x (List.mem_cons_of_mem _ hx))] <;> rfl
theorem ints_lay : ∀ ns : List Int, PyData.canLayAll0 (ns.map PyData.int) = true
  | [] => by simp [PyData.canLayAll0]
  | n :: ns => by
    rw [List.map_cons]
    simp only [PyData.canLayAll0, PyData.canLay0]
    rw [ints_lay ns] <;> rfl
theorem ints_depth : ∀ ns : List Int, PyData.depthAll (ns.map PyData.int) = 0
  | [] => by simp [PyData.depthAll]
  | n :: ns => by
    rw [List.map_cons]
    simp only [PyData.depthAll, PyData.depth]
    rw [ints_depth ns] <;> rfl
theorem pDs_depth : ∀ R : List Pc, PyData.depthAll (R.map pD) ≤ 3
  | [] => by simp [PyData.depthAll]
  | p :: R => by
    have h := pDs_depth R
    have h2 := wDs_depth p.2
    rw [List.map_cons]
    unfold pD at h ⊢
    simp only [PyData.depthAll, PyData.depth]
    omega
theorem papD_shaped {P : Pap} (h : ∀ p ∈ P.1, ∀ w ∈ p.2, Wok w) : SeqAt.shaped (papD P) = true := by
  have h1 := pDs_depth P.1
  have h2 := ints_depth P.2
  have h3 : (papD P).depth ≤ 64 := by
    unfold papD
    simp only [PyData.depth, PyData.depthAll]
    omega
  show (PyData.canLay0 (papD P) && decide ((papD P).depth ≤ 64)) = true
  rw [decide_eq_true h3, Bool.and_true]
  unfold papD
  simp only [PyData.canLay0, PyData.canLayAll0]
  rw [pDs_lay P.1 h, ints_lay] <;> rfl
theorem ints_shaped (ns : List Int) : SeqAt.shaped (.list (ns.map PyData.int)) = true := by
  have h2 := ints_depth ns
  have h3 : (PyData.list (ns.map PyData.int)).depth ≤ 64 := by
    simp only [PyData.depth]
    omega
  show (PyData.canLay0 (.list (ns.map PyData.int)) && decide ((PyData.list (ns.map PyData.int)).depth ≤ 64)) = true
  rw [decide_eq_true h3, Bool.and_true]
  simp only [PyData.canLay0]
  exact ints_lay ns
end
end Wr

/-! A raw paper numbered as its pieces are come to. -/
namespace Wn
open PySem PySem.Spec PyProof.Rows L2 Wp Wq Wr
def pcAt (R : List Pc) (a : Int) : Pc := R.getD a.toNat (-1, [])
def walkM (R : List Pc) : Nat → List Int → Int → List Int
  | 0, o, _ => o
  | f + 1, o, a => if a = -1 ∨ a ∈ o then o else walkM R f (o ++ [a]) (pcAt R a).1
def orderM (R : List Pc) (tops : List Int) : List Int := tops.foldl (fun o t => walkM R (t + 1).toNat o t) []
def placeM (o : List Int) (a : Int) : Int := if a = -1 then -1 else (o.idxOf a : Int)
def numberedM (R : List Pc) (tops : List Int) : Pap := ((orderM R tops).map fun a => (placeM (orderM R tops) (pcAt R a).1, (pcAt R a).2), tops.map (placeM (orderM R tops)))
theorem pcAt_some {R : List Pc} {a : Int} (h0 : 0 ≤ a) (h1 : a < R.length) : R[a.toNat]? = some (pcAt R a) := by
  have h : a.toNat < R.length := by omega
  unfold pcAt
  rw [List.getD_eq_getElem?_getD, List.getElem?_eq_getElem h] <;> rfl
theorem pcAt_ok {size : Int} {R : List Pc} (ok : RawOk size R) {a : Int} (h0 : 0 ≤ a) (h1 : a < R.length) : -1 ≤ (pcAt R a).1 ∧ (pcAt R a).1 < a ∧ 1 ≤ (pcAt R a).2.length ∧ ((pcAt R a).2.length : Int) ≤ size ∧ ∀ z ∈ (pcAt R a).2, Wok z := by
  have := ok a.toNat _ (pcAt_some h0 h1)
  obtain ⟨x1, x2, x3, x4, x5⟩ := this
  exact ⟨x1, by omega, x3, x4, x5⟩
section
variable {size : Int} {R : List Pc}
theorem walk_two (ok : RawOk size R) : ∀ (f g : Nat) (o : List Int) (a : Int), -1 ≤ a → a < R.length → (a + 1).toNat ≤ f → (a + 1).toNat ≤ g → walkM R f o a = walkM R g o a := by
  intro f
  induction f with
  | zero =>
    intro g o a h0 h1 hf hg
    have c : a = -1 := by omega
    cases g with
    | zero => rfl
    | succ g =>
      show o = (if a = -1 ∨ a ∈ o then o else _)
      rw [if_pos (.inl c)]
  | succ f ih =>
    intro g o a h0 h1 hf hg
    show (if a = -1 ∨ a ∈ o then o else walkM R f (o ++ [a]) (pcAt R a).1) = walkM R g o a
    by_cases c2 : a = -1 ∨ a ∈ o
    · rw [if_pos c2]
      cases g with
      | zero => rfl
      | succ g =>
        show o = (if a = -1 ∨ a ∈ o then o else _)
        rw [if_pos c2]
    · rw [if_neg c2]
      have c : a ≠ -1 := fun e => c2 (.inl e)
      obtain ⟨m, rfl⟩ : ∃ m, g = m + 1 := ⟨g - 1, by omega⟩
      show _ = (if a = -1 ∨ a ∈ o then o else walkM R m (o ++ [a]) (pcAt R a).1)
      rw [if_neg c2]
      obtain ⟨u0, u1, _⟩ := pcAt_ok ok (a := a) (by omega) h1
      exact ih m _ _ u0 (by omega) (by omega) (by omega)
/-- one turn -/
theorem walk_step (ok : RawOk size R) {o : List Int} {a : Int} (h0 : -1 ≤ a) (h1 : a < R.length) (c : a ≠ -1) (n : a ∉ o) :
    walkM R (a + 1).toNat o a = walkM R ((pcAt R a).1 + 1).toNat (o ++ [a]) (pcAt R a).1 := by
  obtain ⟨m, hm⟩ : ∃ m, (a + 1).toNat = m + 1 := ⟨a.toNat, by omega⟩
  rw [hm]
  show (if a = -1 ∨ a ∈ o then o else walkM R m (o ++ [a]) (pcAt R a).1) = _
  rw [if_neg (fun h => h.elim c n)]
  obtain ⟨u0, u1, _⟩ := pcAt_ok ok (a := a) (by omega) h1
  exact walk_two ok _ _ _ _ u0 (by omega) (by omega) (Nat.le_refl _)
theorem walk_end {f : Nat} {o : List Int} {a : Int} (c : a = -1 ∨ a ∈ o) : walkM R f o a = o := by
  cases f with
  | zero => rfl
  | succ f =>
    show (if a = -1 ∨ a ∈ o then o else _) = o
    rw [if_pos c]
/-- what a walk keeps and reaches -/
structure OrdOk (R : List Pc) (o : List Int) : Prop where
  rng : ∀ a ∈ o, 0 ≤ a ∧ a < R.length
  nd : o.Nodup
theorem OrdOk.app {o : List Int} {a : Int} (h : OrdOk R o) (h0 : 0 ≤ a) (h1 : a < R.length) (n : a ∉ o) : OrdOk R (o ++ [a]) := by
  refine ⟨fun x hx => ?_, ?_⟩
  · rcases List.mem_append.mp hx with hx | hx
    · exact h.rng x hx
    · rw [List.mem_singleton.mp hx]; exact ⟨h0, h1⟩
  · rw [List.nodup_append]
    refine ⟨h.nd, List.nodup_cons.mpr ⟨List.not_mem_nil, List.nodup_nil⟩, fun x hx y hy e => ?_⟩
    rw [List.mem_singleton.mp hy] at e
    exact n (e ▸ hx)
theorem OrdOk.nil : OrdOk R [] := ⟨(fun _ h => nomatch h), List.nodup_nil⟩
theorem nodup_bound : ∀ {n : Nat} {o : List Int}, o.Nodup → (∀ a ∈ o, 0 ≤ a ∧ a < n) → o.length ≤ n
  | 0, o, _, h => by
    cases o with
    | nil => exact Nat.le_refl _
    | cons a r => have := h a List.mem_cons_self; omega
  | n + 1, o, nd, h => by
    by_cases c : (n : Int) ∈ o
    · have e := List.length_erase_of_mem c
      have q := nodup_bound (n := n) (nd.erase (n : Int)) fun a ha => by
        have h2 := (List.Nodup.mem_erase_iff nd).mp ha
        have h3 := h a h2.2
        have h4 := h2.1
        omega
      omega
    · have q := nodup_bound (n := n) nd fun a ha => by
        have h3 := h a ha
        have h4 : a ≠ n := fun e => c (e ▸ ha)
        omega
      omega
def Near (R : List Pc) (o : List Int) (x : Int) : Prop := ∀ a ∈ o, (pcAt R a).1 = -1 ∨ (pcAt R a).1 ∈ o ∨ (pcAt R a).1 = x
theorem walk_all (ok : RawOk size R) : ∀ (f : Nat) (o : List Int) (a : Int), -1 ≤ a → a < R.length → (a + 1).toNat ≤ f → OrdOk R o → Near R o a →
    OrdOk R (walkM R f o a) ∧ Near R (walkM R f o a) (-1) ∧ (∃ m, walkM R f o a = o ++ m) ∧ (a = -1 ∨ a ∈ walkM R f o a) := by
  intro f
  induction f with
  | zero =>
    intro o a h0 h1 hf ho hn
    have c : a = -1 := by omega
    subst c
    exact ⟨ho, hn, ⟨[], (List.append_nil _).symm⟩, .inl rfl⟩
  | succ f ih =>
    intro o a h0 h1 hf ho hn
    by_cases c2 : a = -1 ∨ a ∈ o
    · rw [walk_end c2]
      refine ⟨ho, fun x hx => ?_, ⟨[], (List.append_nil _).symm⟩, c2⟩
      rcases hn x hx with q | q | q
      · exact .inl q
      · exact .inr (.inl q)
      · rcases c2 with c | c
        · exact .inl (q.trans c)
        · exact .inr (.inl (q ▸ c))
    · have c : a ≠ -1 := fun e => c2 (.inl e)
      have n : a ∉ o := fun e => c2 (.inr e)
      obtain ⟨u0, u1, _⟩ := pcAt_ok ok (a := a) (by omega) h1
      have hn2 : Near R (o ++ [a]) (pcAt R a).1 := by
        intro x hx
        rcases List.mem_append.mp hx with hx | hx
        · rcases hn x hx with q | q | q
          · exact .inl q
          · exact .inr (.inl (List.mem_append_left _ q))
          · exact .inr (.inl (List.mem_append_right _ (q ▸ List.mem_cons_self)))
        · rw [List.mem_singleton.mp hx]
          exact .inr (.inr rfl)
      have h := ih (o ++ [a]) (pcAt R a).1 u0 (by omega) (by omega) (ho.app (by omega) h1 n) hn2
      have e : walkM R (f + 1) o a = walkM R f (o ++ [a]) (pcAt R a).1 := by
        show (if a = -1 ∨ a ∈ o then o else _) = _
        rw [if_neg c2]
      rw [e]
      obtain ⟨q1, q2, ⟨m, q3⟩, q4⟩ := h
      refine ⟨q1, q2, ⟨a :: m, by rw [q3, List.append_assoc] <;> rfl⟩, .inr ?_⟩
      rw [q3]
      exact List.mem_append_left _ (List.mem_append_right _ List.mem_cons_self)
theorem fold_all (ok : RawOk size R) : ∀ (tops : List Int) (o : List Int), (∀ t ∈ tops, -1 ≤ t ∧ t < R.length) → OrdOk R o → Near R o (-1) →
    OrdOk R (tops.foldl (fun o t => walkM R (t + 1).toNat o t) o) ∧ Near R (tops.foldl (fun o t => walkM R (t + 1).toNat o t) o) (-1) ∧ (∃ m, tops.foldl (fun o t => walkM R (t + 1).toNat o t) o = o ++ m) ∧ ∀ t ∈ tops, t = -1 ∨ t ∈ tops.foldl (fun o t => walkM R (t + 1).toNat o t) o
  | [], o, _, ho, hn => ⟨ho, hn, ⟨[], (List.append_nil _).symm⟩, fun _ h => nomatch h⟩
  | t :: tops, o, ht, ho, hn => by
    have h0 := ht t List.mem_cons_self
    obtain ⟨q1, q2, ⟨m, q3⟩, q4⟩ := walk_all ok (t + 1).toNat o t h0.1 h0.2 (Nat.le_refl _) ho (fun x hx => (hn x hx).elim .inl fun q => q.elim (fun q => .inr (.inl q)) .inl)
    obtain ⟨p1, p2, ⟨m2, p3⟩, p4⟩ := fold_all ok tops (walkM R (t + 1).toNat o t) (fun x hx => ht x (List.mem_cons_of_mem _ hx)) q1 q2
    rw [List.foldl_cons]
    refine ⟨p1, p2, ⟨m ++ m2, by rw [p3, q3, List.append_assoc]⟩, fun x hx => ?_⟩
    rcases List.mem_cons.mp hx with e | hx
    · subst e
      rcases q4 with q | q
      · exact .inl q
      · rw [p3]
        exact .inr (List.mem_append_left _ q)
    · exact p4 x hx
theorem order_all (ok : RawOk size R) {tops : List Int} (ht : ∀ t ∈ tops, -1 ≤ t ∧ t < R.length) : OrdOk R (orderM R tops) ∧ (∀ a ∈ orderM R tops, (pcAt R a).1 = -1 ∨ (pcAt R a).1 ∈ orderM R tops) ∧ ∀ t ∈ tops, t = -1 ∨ t ∈ orderM R tops := by
  obtain ⟨h1, h2, _, h4⟩ := fold_all ok tops [] ht OrdOk.nil (fun _ h => nomatch h)
  exact ⟨h1, fun a ha => (h2 a ha).elim .inl fun q => q.elim .inr .inl, h4⟩
/-! ### the dict of places -/
def ents : Nat → List Int → List (Key × V)
  | _, [] => []
  | i, a :: r => (.inl a, .int i) :: ents (i + 1) r
def placesK (o : List Int) : List (Key × V) := (.inl (-1), .int (-1)) :: ents 0 o
theorem ents_len : ∀ (i : Nat) (o : List Int), (ents i o).length = o.length
  | _, [] => rfl
  | i, _ :: r => by show (ents (i + 1) r).length + 1 = r.length + 1; rw [ents_len]
theorem ents_val {a : Int} : ∀ (i : Nat) (o : List Int), valV (ents i o) (.inl a) = if a ∈ o then some (.int ((i + o.idxOf a : Nat) : Int)) else none
  | _, [] => by rw [if_neg List.not_mem_nil]; rfl
  | i, b :: r => by
    show valV ((Sum.inl b, V.int i) :: ents (i + 1) r) (Sum.inl a) = _
    by_cases e : b = a
    · subst e
      rw [valV_pos rfl, if_pos List.mem_cons_self, List.idxOf_cons_self] <;> rfl
    · rw [valV_neg (fun q => e (Sum.inl.inj q)), ents_val (i + 1) r]
      by_cases c : a ∈ r
      · have h2 : (b :: r).idxOf a = r.idxOf a + 1 := by
          rw [List.idxOf_cons]
          have e2 : (b == a) = false := by simpa using e
          rw [e2] <;> rfl
        rw [if_pos c, if_pos (List.mem_cons_of_mem _ c), h2, show i + 1 + r.idxOf a = i + (r.idxOf a + 1) by omega]
      · rw [if_neg c, if_neg (fun h => (List.mem_cons.mp h).elim (fun q => e q.symm) c)]
theorem places_val {o : List Int} {a : Int} : valV (placesK o) (.inl a) = if a = -1 ∨ a ∈ o then some (.int (placeM o a)) else none := by
  unfold placesK placeM
  by_cases e : a = -1
  · subst e
    rw [valV_pos rfl, if_pos (.inl rfl), if_pos rfl]
  · rw [valV_neg (fun q => e (Sum.inl.inj q).symm), ents_val]
    by_cases c : a ∈ o
    · rw [if_pos c, if_pos (.inr c), if_neg e, Nat.zero_add]
    · rw [if_neg c, if_neg (fun h => h.elim e c)]
theorem ents_app (a : Int) : ∀ (i : Nat) (o : List Int), ents i o ++ [(.inl a, .int ((i + o.length : Nat) : Int))] = ents i (o ++ [a])
  | _, [] => rfl
  | i, b :: r => by
    have := ents_app a (i + 1) r
    show (Sum.inl b, V.int i) :: (ents (i + 1) r ++ [(Sum.inl a, V.int ((i + (r.length + 1) : Nat) : Int))]) = (Sum.inl b, V.int i) :: ents (i + 1) (r ++ [a])
    rw [← this, show i + (r.length + 1) = i + 1 + r.length by omega]
theorem places_put {o : List Int} {a : Int} (c : a ≠ -1) (n : a ∉ o) : putK (placesK o) (.inl a) (.int o.length) = placesK (o ++ [a]) := by
  have h : ((placesK o).any fun kv => decide (kv.1 = (Sum.inl a : Key))) = false := by
    rw [List.any_eq_false]
    intro kv hkv
    rw [decide_eq_true_eq]
    intro e
    have hv : valV (placesK o) (.inl a) = none := by rw [places_val, if_neg (fun h => h.elim c n)]
    unfold valV at hv
    have hf : (placesK o).find? (fun kv => decide (kv.1 = (Sum.inl a : Key))) = none := by
      cases q : (placesK o).find? (fun kv => decide (kv.1 = (Sum.inl a : Key))) with
      | none => rfl
      | some x => rw [q] at hv; cases hv
    have := List.find?_eq_none.mp hf kv hkv
    exact this (decide_eq_true e)
  unfold putK
  rw [h, if_neg Bool.false_ne_true]
  have := ents_app a 0 o
  rw [Nat.zero_add] at this
  unfold placesK
  rw [← this] <;> rfl
end
end Wn

/-! A top's pile, piece by piece. -/
namespace Wo
open PySem PySem.Spec PyProof.Rows L2 Wp Wq Wr Wn
inductive OpensN (L : List Pc) : Nat → Int → List W → Prop where
  | nil : OpensN L 0 (-1) []
  | cons {n : Nat} {i : Int} {u : Int} {ws q : List W} (h : L[i.toNat]? = some (u, ws)) (h0 : 0 ≤ i) (t : OpensN L n u q) : OpensN L (n + 1) i (q ++ ws)
theorem OpensN.none {L : List Pc} {n : Nat} {q : List W} (h : OpensN L n (-1) q) : q = [] := by
  generalize e : (-1 : Int) = i at h
  cases h with
  | nil => rfl
  | cons _ h0 _ => omega
theorem OpensN.some {L : List Pc} {n : Nat} {i : Int} {q : List W} (h : OpensN L n i q) (c : i ≠ -1) : ∃ m u ws p, n = m + 1 ∧ L[i.toNat]? = some (u, ws) ∧ 0 ≤ i ∧ OpensN L m u p ∧ q = p ++ ws := by
  cases h with
  | nil => exact absurd rfl c
  | cons h h0 t => exact ⟨_, _, _, _, rfl, h, h0, t, rfl⟩
theorem idx_get : ∀ {o : List Int} {a : Int}, a ∈ o → o[o.idxOf a]? = some a
  | b :: r, a, h => by
    rw [List.idxOf_cons]
    by_cases e : b = a
    · subst e
      rw [beq_self_eq_true] <;> rfl
    · have e2 : (b == a) = false := by simpa using e
      rw [e2]
      show (b :: r)[r.idxOf a + 1]? = _
      rw [List.getElem?_cons_succ]
      exact idx_get ((List.mem_cons.mp h).resolve_left fun q => e q.symm)
/-- of a numbered paper -/
theorem numbered_opens {size : Int} {R : List Pc} {Ps : List (List W)} {tops : List Int} (ok : RawOk size R) (pok : PilesOk R Ps) (ht : ∀ t ∈ tops, -1 ≤ t ∧ t < R.length) :
    ∀ (k : Nat) (a : Int), (a + 1).toNat ≤ k → a = -1 ∨ a ∈ orderM R tops → ∃ n, n ≤ k ∧ OpensN (numberedM R tops).1 n (placeM (orderM R tops) a) (belowM Ps a) := by
  obtain ⟨h1, h2, h3⟩ := order_all ok ht
  have hnil : ∀ k : Nat, ∃ n, n ≤ k ∧ OpensN (numberedM R tops).1 n (placeM (orderM R tops) (-1)) (belowM Ps (-1)) := fun k => ⟨0, Nat.zero_le _, .nil⟩
  intro k
  induction k with
  | zero =>
    intro a ha h
    rcases h with rfl | h
    · exact hnil 0
    · have := (h1.rng a h).1
      omega
  | succ k ih =>
    intro a ha h
    rcases h with rfl | h
    · exact hnil _
    · obtain ⟨a0, a1⟩ := h1.rng a h
      obtain ⟨u0, u1, _⟩ := pcAt_ok ok a0 a1
      obtain ⟨n, hn, hop⟩ := ih (pcAt R a).1 (by omega) (h2 a h)
      refine ⟨n + 1, by omega, ?_⟩
      have e1 : belowM Ps a = belowM Ps (pcAt R a).1 ++ (pcAt R a).2 := by
        have := pok.2 a.toNat _ (pcAt_some a0 a1)
        show (if 0 ≤ a then Ps.getD a.toNat [] else []) = _
        rw [if_pos a0, List.getD_eq_getElem?_getD, this] <;> rfl
      have e2 : placeM (orderM R tops) a = ((orderM R tops).idxOf a : Int) := by
        unfold placeM
        rw [if_neg (by omega)]
      rw [e1, e2]
      refine .cons (u := placeM (orderM R tops) (pcAt R a).1) ?_ (by omega) hop
      show ((orderM R tops).map fun a => (placeM (orderM R tops) (pcAt R a).1, (pcAt R a).2))[((orderM R tops).idxOf a : Int).toNat]? = _
      rw [Int.toNat_natCast, List.getElem?_map, idx_get h] <;> rfl
end Wo

/-! max(xs, default=d) of a list of ints. -/
namespace Wm
open PySem PySem.Spec PyProof.Rows L2 Wp
theorem hold_ints {h : Heap} : ∀ {vs : List Value} {ns : List Int}, IntsAre vs ns → PySem.W.HoldAll h vs ns
  | _, _, .nil => PySem.W.HoldAll.nil
  | _, _, .cons n t r => PySem.W.HoldAll.cons ⟨_, Reads.int n t⟩ (hold_ints r)
theorem maxOf_is : ∀ (xs : List Int) (x : Int), PySem.W.maxOf x xs ∈ x :: xs ∧ ∀ y ∈ x :: xs, y ≤ PySem.W.maxOf x xs := by
  intro xs
  induction xs with
  | nil =>
    intro x
    exact ⟨List.mem_cons_self, fun y hy => by rw [List.mem_singleton.mp hy]; exact Int.le_refl _⟩
  | cons z zs ih =>
    intro x
    have e : PySem.W.maxOf x (z :: zs) = PySem.W.maxOf (if PySem.W.DatumOrd.lt x z = true then z else x) zs := rfl
    have d : PySem.W.DatumOrd.lt x z = decide (x < z) := rfl
    rw [e, d]
    obtain ⟨h1, h2⟩ := ih (if decide (x < z) = true then z else x)
    generalize PySem.W.maxOf (if decide (x < z) = true then z else x) zs = m at h1 h2
    by_cases c : x < z
    · rw [if_pos (decide_eq_true c)] at h1 h2
      refine ⟨List.mem_cons_of_mem _ h1, fun y hy => ?_⟩
      rcases List.mem_cons.mp hy with rfl | hy
      · have := h2 z List.mem_cons_self
        omega
      · exact h2 y hy
    · have c2 : ¬ (decide (x < z) = true) := by simpa using c
      rw [if_neg c2] at h1 h2
      refine ⟨?_, fun y hy => ?_⟩
      · rcases List.mem_cons.mp h1 with h | h
        · rw [h]; exact List.mem_cons_self
        · exact List.mem_cons_of_mem _ (List.mem_cons_of_mem _ h)
      · rcases List.mem_cons.mp hy with rfl | hy
        · exact h2 _ List.mem_cons_self
        · rcases List.mem_cons.mp hy with rfl | hy
          · have := h2 x List.mem_cons_self
            omega
          · exact h2 y (List.mem_cons_of_mem _ hy)
section
variable {X : Cx}
def rMaxD (K : PySem.W.Frag) : List V → List V → Hp → VK → Prop := fun vs zs H Q => ∃ (a : Addr) (ns : List Int) (d : Int), vs = [V.ref a] ∧ zs = [.int d] ∧ SqL K H a (ns.map V.int) ∧ ∀ m, (ns = [] ∧ m = d ∨ m ∈ ns ∧ ∀ y ∈ ns, y ≤ m) → Q (.int m) H
theorem cr_maxD (hc : X.calm = true) (hu : X.A.units + 64 < cLine) : CallRK X (.builtin "max") [Str.ofString "default"] (rMaxD X.K) := by
  intro pins s σ H vs zs us ws Q I r rz h
  obtain ⟨a, ns, d, rfl, rfl, hs, q⟩ := h
  obtain ⟨its, rv, hl, _⟩ := I.list hs
  rw [Vals.ref1 r]
  obtain ⟨w1, rfl, t, rfl⟩ := vals1 rz
  have hi := rv.ints
  refine PySem.W.max_list_datum_default (α := Int) (I.ok.hd hc) hl.isList (xs := ns) ?_ ?_ (fun e h' tk k => ⟨.int d, H, I.kept k, ⟨_, rfl⟩, q d (.inl ⟨e, rfl⟩)⟩) fun y ys i v h' tk e hv hh k => ?_
  · exact hold_ints hi
  · have : PySem.W.Datum.depth Int = 0 := rfl
    omega
  · obtain ⟨as, rd⟩ := hh
    obtain ⟨m1, m2⟩ := maxOf_is ys y
    have rd' : Reads h' v (.int (PySem.W.maxOf y ys)) as := rd
    cases rd'
    exact ⟨.int _, H, I.kept k, ⟨_, rfl⟩, q _ (.inr ⟨e ▸ m1, e ▸ m2⟩)⟩
end
section
variable {K : PySem.W.Frag} {σ : L2.St} {H : Hp} {Q : VK}
theorem augN {i : Nat} {te : TE} {ti : TIp} {D : Ends} {x : V} (h : σ[i]? = some (some x)) (q : te σ H fun y H1 => ti x y H1 fun z H2 => D.nx (σ.set i (some z)) H2) : tAug i te ti D σ H := ⟨x, h, q⟩
theorem idx_mem {a : Int} : ∀ {l : List Int} (m : List Int), a ∈ l → (l ++ m).idxOf a = l.idxOf a
  | b :: l, m, h => by
    rw [List.cons_append, List.idxOf_cons, List.idxOf_cons]
    cases e : b == a with
    | true => rfl
    | false =>
      have h2 : a ∈ l := (List.mem_cons.mp h).resolve_left fun q => by rw [q] at e; simp at e
      show (l ++ m).idxOf a + 1 = l.idxOf a + 1
      rw [idx_mem m h2]
theorem idx_not {a : Int} : ∀ {l : List Int} (m : List Int), a ∉ l → (l ++ m).idxOf a = l.length + m.idxOf a
  | [], m, _ => (Nat.zero_add _).symm
  | b :: l, m, h => by
    rw [List.cons_append, List.idxOf_cons]
    have e : (b == a) = false := by
      have : b ≠ a := fun q => h (q ▸ List.mem_cons_self)
      simpa using this
    rw [e]
    show (l ++ m).idxOf a + 1 = l.length + 1 + m.idxOf a
    rw [idx_not m (fun q => h (List.mem_cons_of_mem _ q))]
    omega
theorem cbK {r : List V → List V → Hp → VK → Prop} {t tk : TA} (h : t σ H fun vs H1 => tk σ H1 fun zs H2 => r vs zs H2 Q) : tCKw r t tk σ H Q := h
theorem maxD_ {a : Addr} {ns : List Int} {d : Int} (h : SqL K H a (ns.map V.int)) (q : ∀ m, (ns = [] ∧ m = d ∨ m ∈ ns ∧ ∀ y ∈ ns, y ≤ m) → Q (.int m) H) : rMaxD K [.ref a] [.int d] H Q := ⟨a, ns, d, rfl, rfl, h, q⟩
end
end Wm

/-! The program's check of the numbers, and the document's clauses walked pile by pile: one answer. -/
namespace Wx
/-! ### as the program goes -/
def uAt (u : List Int) (a : Int) : Int := u.getD a.toNat 0
def runM (u : List Int) : Nat → Nat → Int → Nat × Int
  | 0, m, a => (m, a)
  | f + 1, m, a => if a = m ∧ m < u.length then runM u f (m + 1) (uAt u m) else (m, a)
def numGo (u : List Int) : Nat → List Int → Option Nat
  | m, [] => some m
  | m, t :: ts => if (runM u (u.length - m) m t).2 ≠ -1 ∧ ¬ (0 ≤ (runM u (u.length - m) m t).2 ∧ (runM u (u.length - m) m t).2 < m) then none else numGo u (runM u (u.length - m) m t).1 ts
def numdM (u : List Int) (tops : List Int) : Bool := match numGo u 0 tops with
  | some m => decide (m = u.length)
  | none => false
/-! ### by the clauses -/
def rowM (u : List Int) : Nat → Int → List Int
  | 0, a => [a]
  | f + 1, a => if a = -1 then [a] else a :: rowM u f (uAt u a)
def addM (o : List Int) (l : List Int) : List Int := l.foldl (fun o a => if a ∈ o then o else o ++ [a]) o
def rightGo (u : List Int) : List Int → List Int → Option (List Int)
  | o, [] => some o
  | o, t :: ts => if t < -1 ∨ t ≥ u.length then none else if (rowM u u.length t).getLast? ≠ some (-1) then none else rightGo u (addM o (rowM u u.length t).dropLast) ts
def inR (u : List Int) : Prop := ∀ a ∈ u, -1 ≤ a ∧ a < u.length
def rng (m : Nat) : List Int := (List.range m).map fun i : Nat => (i : Int)
theorem rng_succ {m : Nat} : rng (m + 1) = rng m ++ [(m : Int)] := by
  unfold rng
  rw [List.range_succ, List.map_append] <;> rfl
theorem rng_len {m : Nat} : (rng m).length = m := by unfold rng; rw [List.length_map, List.length_range]
theorem rng_mem {m : Nat} {a : Int} : a ∈ rng m ↔ 0 ≤ a ∧ a < m := by
  unfold rng
  rw [List.mem_map]
  constructor
  · rintro ⟨i, hi, rfl⟩
    have := List.mem_range.mp hi
    omega
  · rintro ⟨h0, h1⟩
    exact ⟨a.toNat, List.mem_range.mpr (by omega), by omega⟩
theorem rng_at {m i : Nat} (h : i < m) : (rng m)[i]? = some (i : Int) := by
  unfold rng
  rw [List.getElem?_map, List.getElem?_range h] <;> rfl
/-- the chain from a ends on nothing in k steps, all below m -/
inductive Ends (u : List Int) (m : Nat) : Nat → Int → Prop where
  | nil : Ends u m 0 (-1)
  | cons {k : Nat} {a : Int} (h0 : 0 ≤ a) (h1 : a < m) (t : Ends u m k (uAt u a)) : Ends u m (k + 1) a
section
variable {u : List Int} {m m' b k : Nat} {a : Int}
theorem Ends.mono (h : Ends u m k a) (hm : m ≤ m') : Ends u m' k a := by
  induction h with
  | nil => exact .nil
  | cons h0 h1 t ih => exact .cons h0 (by omega) ih
theorem Ends.one {k2 m2 : Nat} (h : Ends u m k a) (h2 : Ends u m2 k2 a) : k = k2 := by
  induction h generalizing k2 with
  | nil =>
    cases h2 with
    | nil => rfl
    | cons h0 _ _ => omega
  | cons h0 h1 t ih =>
    cases h2 with
    | nil => omega
    | cons g0 g1 t2 => rw [ih t2]
theorem row_nil {F : Nat} : rowM u F (-1) = [-1] := by
  cases F with
  | zero => rfl
  | succ F => show (if (-1 : Int) = -1 then _ else _) = _; rw [if_pos rfl]
theorem row_ne : ∀ (F : Nat) (a : Int), rowM u F a ≠ []
  | 0, a => List.cons_ne_nil _ _
  | F + 1, a => by
    show (if a = -1 then [a] else a :: rowM u F (uAt u a)) ≠ []
    split <;> exact List.cons_ne_nil _ _
theorem row_cons {F : Nat} (h : a ≠ -1) : rowM u (F + 1) a = a :: rowM u F (uAt u a) := by
  show (if a = -1 then _ else _) = _
  rw [if_neg h]
theorem row_drop {F : Nat} (h : a ≠ -1) : (rowM u (F + 1) a).dropLast = a :: (rowM u F (uAt u a)).dropLast := by
  rw [row_cons h]
  cases e : rowM u F (uAt u a) with
  | nil => exact absurd e (row_ne _ _)
  | cons x r => rfl
theorem row_of {F : Nat} (h : Ends u m k a) (hk : k ≤ F) : (rowM u F a).getLast? = some (-1) ∧ ∀ x ∈ (rowM u F a).dropLast, 0 ≤ x ∧ x < m := by
  induction h generalizing F with
  | nil => rw [row_nil]; exact ⟨rfl, (fun _ h => nomatch h)⟩
  | cons h0 h1 t ih =>
    obtain ⟨G, rfl⟩ : ∃ G, F = G + 1 := ⟨F - 1, by omega⟩
    obtain ⟨i1, i2⟩ := ih (F := G) (by omega)
    rename_i a'
    have hne : a' ≠ -1 := by omega
    refine ⟨?_, ?_⟩
    · rw [row_cons hne, List.getLast?_cons, i1] <;> rfl
    · rw [row_drop hne]
      intro x hx
      rcases List.mem_cons.mp hx with rfl | hx
      · exact ⟨h0, h1⟩
      · exact i2 x hx
theorem ends_of (hr : inR u) : ∀ (F : Nat) (a : Int), -1 ≤ a → a < u.length → (rowM u F a).getLast? = some (-1) → ∃ k, k ≤ F ∧ Ends u u.length k a
  | 0, a, _, _, h => by
    have e : a = -1 := Option.some.inj h
    subst e
    exact ⟨0, Nat.le_refl _, .nil⟩
  | F + 1, a, h0, h1, h => by
    by_cases e : a = -1
    · subst e
      exact ⟨0, Nat.zero_le _, .nil⟩
    · rw [row_cons e, List.getLast?_cons] at h
      have hu : a.toNat < u.length := by omega
      have hm : uAt u a ∈ u := by
        unfold uAt
        rw [List.getD_eq_getElem?_getD, List.getElem?_eq_getElem hu]
        exact List.getElem_mem hu
      have h2 := hr _ hm
      cases e2 : (rowM u F (uAt u a)).getLast? with
      | none => exact absurd (List.getLast?_eq_none_iff.mp e2) (row_ne _ _)
      | some z =>
        rw [e2] at h
        have ez : z = -1 := Option.some.inj h
        rw [ez] at e2
        obtain ⟨k, hk, he⟩ := ends_of hr F (uAt u a) h2.1 h2.2 e2
        exact ⟨k + 1, by omega, .cons (by omega) h1 he⟩
theorem add_in : ∀ (l o : List Int), (∀ x ∈ l, x ∈ o) → addM o l = o
  | [], _, _ => rfl
  | x :: l, o, h => by
    show addM (if x ∈ o then o else o ++ [x]) l = o
    rw [if_pos (h x List.mem_cons_self)]
    exact add_in l o fun y hy => h y (List.mem_cons_of_mem _ hy)
theorem add_pre : ∀ (l o : List Int), ∃ r, addM o l = o ++ r
  | [], o => ⟨[], (List.append_nil _).symm⟩
  | x :: l, o => by
    show ∃ r, addM (if x ∈ o then o else o ++ [x]) l = o ++ r
    by_cases c : x ∈ o
    · rw [if_pos c]; exact add_pre l o
    · rw [if_neg c]
      obtain ⟨r, e⟩ := add_pre l (o ++ [x])
      exact ⟨x :: r, by rw [e, List.append_assoc] <;> rfl⟩
theorem add_cons {o l : List Int} {x : Int} (h : x ∉ o) : addM o (x :: l) = addM (o ++ [x]) l := by
  show addM (if x ∈ o then o else o ++ [x]) l = _
  rw [if_neg h]
theorem rng_pre {n : Nat} {l r : List Int} (h : rng n = l ++ r) : l = rng l.length ∧ l.length ≤ n := by
  have hl : l.length ≤ n := by
    have := congrArg List.length h
    rw [rng_len, List.length_append] at this
    omega
  refine ⟨?_, hl⟩
  apply List.ext_getElem?
  intro i
  by_cases c : i < l.length
  · have h1 : (l ++ r)[i]? = l[i]? := List.getElem?_append_left c
    rw [← h1, ← h, rng_at (by omega), rng_at c]
  · rw [List.getElem?_eq_none (by omega), List.getElem?_eq_none (by rw [rng_len]; omega)]
/-! ### the program's yes is the clauses' -/
theorem run_spec (hb : b ≤ u.length) (cl : ∀ p : Nat, p < b → ∃ k, k ≤ b ∧ Ends u b k p) : ∀ (f m : Nat) (a : Int) (m' : Nat) (a' : Int), runM u f m a = (m', a') → u.length - m ≤ f → m ≤ u.length → b ≤ m → (a' = -1 ∨ 0 ≤ a' ∧ a' < b) →
    m ≤ m' ∧ m' ≤ u.length ∧ ∃ k, k ≤ (m' - m) + b ∧ Ends u m' k a ∧ (∀ p : Nat, m ≤ p → p < m' → ∃ k, k ≤ m' ∧ Ends u m' k p) ∧ ∀ F, k ≤ F → addM (rng m) (rowM u F a).dropLast = rng m' := by
  have stop : ∀ (m : Nat) (a : Int), m ≤ u.length → b ≤ m → (a = -1 ∨ 0 ≤ a ∧ a < b) → m ≤ m ∧ m ≤ u.length ∧ ∃ k, k ≤ (m - m) + b ∧ Ends u m k a ∧ (∀ p : Nat, m ≤ p → p < m → ∃ k, k ≤ m ∧ Ends u m k p) ∧ ∀ F, k ≤ F → addM (rng m) (rowM u F a).dropLast = rng m := by
    intro m a hm hbm ha
    rcases ha with rfl | ⟨a0, a1⟩
    · exact ⟨Nat.le_refl _, hm, 0, Nat.zero_le _, .nil, (fun p h1 h2 => by omega), fun F _ => by rw [row_nil] <;> rfl⟩
    · obtain ⟨k, hk, he⟩ := cl a.toNat (by omega)
      have ea : ((a.toNat : Nat) : Int) = a := by omega
      rw [ea] at he
      refine ⟨Nat.le_refl _, hm, k, by omega, he.mono hbm, (fun p h1 h2 => by omega), fun F hF => add_in _ _ fun x hx => ?_⟩
      have := (row_of he hF).2 x hx
      exact rng_mem.mpr ⟨this.1, by omega⟩
  intro f
  induction f with
  | zero =>
    intro m a m' a' h hf hm hbm ha
    have e : (m, a) = (m', a') := h
    cases e
    exact stop m a hm hbm ha
  | succ f ih =>
    intro m a m' a' h hf hm hbm ha
    have e : (if a = m ∧ m < u.length then runM u f (m + 1) (uAt u m) else (m, a)) = (m', a') := h
    by_cases c : a = m ∧ m < u.length
    · rw [if_pos c] at e
      obtain ⟨i1, i2, k, i3, i4, i5, i6⟩ := ih (m + 1) _ m' a' e (by omega) (by omega) (by omega) ha
      obtain ⟨rfl, c2⟩ := c
      have e4 : Ends u m' (k + 1) (m : Int) := .cons (by omega) (by omega) i4
      refine ⟨by omega, i2, k + 1, by omega, e4, fun p h1 h2 => ?_, fun F hF => ?_⟩
      · by_cases q : p = m
        · subst q; exact ⟨k + 1, by omega, e4⟩
        · exact i5 p (by omega) h2
      · obtain ⟨G, rfl⟩ : ∃ G, F = G + 1 := ⟨F - 1, by omega⟩
        rw [row_drop (by omega), add_cons (fun h => by have := rng_mem.mp h; omega), ← rng_succ]
        exact i6 G (by omega)
    · rw [if_neg c] at e
      cases e
      exact stop m a hm hbm ha
def Cl (u : List Int) (b : Nat) : Prop := ∀ p : Nat, p < b → ∃ k, k ≤ b ∧ Ends u b k p
theorem go_yes : ∀ (ts : List Int) (m n : Nat), numGo u m ts = some n → m ≤ u.length → Cl u m → n ≤ u.length ∧ Cl u n ∧ rightGo u (rng m) ts = some (rng n)
  | [], m, n, h, hm, cl => by
    have e : m = n := Option.some.inj h
    subst e
    exact ⟨hm, cl, rfl⟩
  | t :: ts, m, n, h, hm, cl => by
    have h' : (if (runM u (u.length - m) m t).2 ≠ -1 ∧ ¬ (0 ≤ (runM u (u.length - m) m t).2 ∧ (runM u (u.length - m) m t).2 < m) then none else numGo u (runM u (u.length - m) m t).1 ts) = some n := h
    cases er : runM u (u.length - m) m t with
    | mk m' a' =>
      rw [er] at h'
      by_cases c : a' ≠ -1 ∧ ¬ (0 ≤ a' ∧ a' < m)
      · rw [if_pos c] at h'; cases h'
      · rw [if_neg c] at h'
        have ha : a' = -1 ∨ 0 ≤ a' ∧ a' < m := by omega
        obtain ⟨i1, i2, k, i3, i4, i5, i6⟩ := run_spec hm cl _ _ _ _ _ er (Nat.le_refl _) hm (Nat.le_refl _) ha
        have cl2 : Cl u m' := fun p hp => by
          by_cases q : p < m
          · obtain ⟨k, hk, he⟩ := cl p q
            exact ⟨k, by omega, he.mono i1⟩
          · exact i5 p (by omega) hp
        obtain ⟨j1, j2, j3⟩ := go_yes ts m' n h' i2 cl2
        refine ⟨j1, j2, ?_⟩
        have kn : k ≤ u.length := by omega
        have hrow := (row_of i4 kn).1
        have ht : ¬ (t < -1 ∨ t ≥ u.length) := by
          cases i4 with
          | nil => omega
          | cons h0 h1 _ => omega
        show (if t < -1 ∨ t ≥ u.length then none else if (rowM u u.length t).getLast? ≠ some (-1) then none else rightGo u (addM (rng m) (rowM u u.length t).dropLast) ts) = _
        rw [if_neg ht, if_neg (fun q => q hrow), i6 u.length kn]
        exact j3
theorem yes_right {tops : List Int} (h : numdM u tops = true) : inR u ∧ rightGo u [] tops = some (rng u.length) := by
  unfold numdM at h
  cases e : numGo u 0 tops with
  | none => rw [e] at h; cases h
  | some m =>
    rw [e] at h
    have em : m = u.length := of_decide_eq_true h
    subst em
    obtain ⟨_, cl, hg⟩ := go_yes tops 0 _ e (Nat.zero_le _) (fun p h => absurd h (Nat.not_lt_zero _))
    refine ⟨fun a ha => ?_, hg⟩
    obtain ⟨i, hi, rfl⟩ := List.getElem_of_mem ha
    obtain ⟨k, hk, he⟩ := cl i hi
    have eu : uAt u (i : Int) = u[i] := by
      unfold uAt
      rw [show ((i : Int)).toNat = i from Int.toNat_natCast i, List.getD_eq_getElem?_getD, List.getElem?_eq_getElem hi] <;> rfl
    cases he with
    | cons h0 h1 t =>
      rw [eu] at t
      generalize u[i] = z at t
      cases t with
      | nil => omega
      | cons g0 g1 _ => omega
/-! ### the clauses' yes is the program's -/
theorem run_back (hr : inR u) (clb : ∀ p : Nat, p < b → uAt u p = -1 ∨ 0 ≤ uAt u p ∧ uAt u p < b) {n' : Nat} : ∀ (k : Nat) (a : Int) (M f F : Nat), Ends u u.length k a → b ≤ M → M ≤ u.length → u.length - M ≤ f → k ≤ F →
    (∀ p : Nat, b ≤ p → p < M → ∃ j, k < j ∧ Ends u u.length j p) → (∀ p : Nat, p < M → uAt u p = -1 ∨ 0 ≤ uAt u p ∧ uAt u p < M ∨ uAt u p = a) → (∃ r, rng u.length = addM (rng M) (rowM u F a).dropLast ++ r) →
    ∃ m' a', runM u f M a = (m', a') ∧ (a' = -1 ∨ 0 ≤ a' ∧ a' < b) ∧ M ≤ m' ∧ m' ≤ u.length ∧ addM (rng M) (rowM u F a).dropLast = rng m' ∧ ∀ p : Nat, p < m' → uAt u p = -1 ∨ 0 ≤ uAt u p ∧ uAt u p < m' := by
  have halt : ∀ (f M : Nat) (a : Int), ¬ (a = M ∧ M < u.length) → runM u f M a = (M, a) := by
    intro f M a h
    cases f with
    | zero => rfl
    | succ f =>
      show (if a = M ∧ M < u.length then _ else _) = _
      rw [if_neg h]
  have low : ∀ (k : Nat) (a : Int), Ends u u.length k a → (a = -1 ∨ 0 ≤ a ∧ a < b) → Ends u b k a := by
    intro k a h
    induction h with
    | nil => intro _; exact .nil
    | cons h0 h1 t ih =>
      rename_i k2 a2
      intro hb
      have hb2 : 0 ≤ a2 ∧ a2 < b := by omega
      have e2 : ((a2.toNat : Nat) : Int) = a2 := by omega
      have := clb a2.toNat (by omega)
      rw [e2] at this
      exact .cons h0 hb2.2 (ih this)
  intro k
  induction k with
  | zero =>
    intro a M f F he hbM hM hf hF hj hc hp
    cases he
    refine ⟨M, -1, halt _ _ _ (by omega), .inl rfl, Nat.le_refl _, hM, by rw [row_nil] <;> rfl, fun p hp => ?_⟩
    have := hc p hp
    omega
  | succ k ih =>
    intro a M f F he hbM hM hf hF hj hc hp
    have he0 := he
    cases he with
    | cons h0 h1 t =>
      by_cases c : a < b
      · refine ⟨M, a, halt _ _ _ (by omega), .inr ⟨h0, c⟩, Nat.le_refl _, hM, ?_, fun p hp => ?_⟩
        · refine add_in _ _ fun x hx => ?_
          have := (row_of (low _ _ he0 (.inr ⟨h0, c⟩)) hF).2 x hx
          exact rng_mem.mpr ⟨this.1, by omega⟩
        · have := hc p hp
          omega
      · obtain ⟨G, rfl⟩ : ∃ G, F = G + 1 := ⟨F - 1, by omega⟩
        have hne : a ≠ -1 := by omega
        have nin : a ∉ rng M := by
          intro q
          have q2 := rng_mem.mp q
          obtain ⟨j, hj1, hj2⟩ := hj a.toNat (by omega) (by omega)
          rw [show ((a.toNat : Nat) : Int) = a by omega] at hj2
          have := he0.one hj2
          omega
        rw [row_drop hne, add_cons nin] at hp ⊢
        obtain ⟨r, er⟩ := hp
        obtain ⟨r2, er2⟩ := add_pre (rowM u G (uAt u a)).dropLast (rng M ++ [a])
        have er3 := er
        rw [er2, List.append_assoc] at er3
        obtain ⟨g1, g2⟩ := rng_pre er3
        rw [List.length_append, rng_len] at g1 g2
        have g2' : M + 1 ≤ u.length := g2
        have ea : a = M := by
          have g1' : rng M ++ [a] = rng (M + 1) := g1
          rw [rng_succ] at g1'
          exact (List.cons.inj (List.append_cancel_left g1')).1
        subst ea
        rw [← rng_succ] at er ⊢
        obtain ⟨f2, rfl⟩ : ∃ f2, f = f2 + 1 := ⟨f - 1, by omega⟩
        have step : runM u (f2 + 1) M (M : Int) = runM u f2 (M + 1) (uAt u M) := by
          show (if (M : Int) = M ∧ M < u.length then _ else _) = _
          rw [if_pos ⟨rfl, by omega⟩]
        rw [step]
        have hj' : ∀ p : Nat, b ≤ p → p < M + 1 → ∃ j, k < j ∧ Ends u u.length j p := fun p hp1 hp2 => by
          by_cases q : p = M
          · rw [q]; exact ⟨k + 1, by omega, he0⟩
          · obtain ⟨j, hj1, hj2⟩ := hj p hp1 (by omega)
            exact ⟨j, by omega, hj2⟩
        have hc' : ∀ p : Nat, p < M + 1 → uAt u p = -1 ∨ 0 ≤ uAt u p ∧ uAt u p < ((M + 1 : Nat) : Int) ∨ uAt u p = uAt u M := fun p hp => by
          by_cases q : p = M
          · rw [q]; exact .inr (.inr rfl)
          · have := hc p (by omega)
            omega
        obtain ⟨m', a', q1, q2, q3, q4, q5, q6⟩ := ih (uAt u M) (M + 1) f2 G t (by omega) g2' (by omega) (by omega) hj' hc' ⟨r, er⟩
        exact ⟨m', a', q1, q2, by omega, q4, q5, q6⟩
theorem go_back (hr : inR u) : ∀ (ts : List Int) (m : Nat), rightGo u (rng m) ts = some (rng u.length) → m ≤ u.length → (∀ p : Nat, p < m → uAt u p = -1 ∨ 0 ≤ uAt u p ∧ uAt u p < m) → numGo u m ts = some u.length
  | [], m, h, hm, cl => by
    have e : rng m = rng u.length := Option.some.inj h
    have e2 := congrArg List.length e
    rw [rng_len, rng_len] at e2
    show some m = some u.length
    rw [e2]
  | t :: ts, m, h, hm, cl => by
    have h' : (if t < -1 ∨ t ≥ u.length then none else if (rowM u u.length t).getLast? ≠ some (-1) then none else rightGo u (addM (rng m) (rowM u u.length t).dropLast) ts) = some (rng u.length) := h
    by_cases c1 : t < -1 ∨ t ≥ u.length
    · rw [if_pos c1] at h'; cases h'
    rw [if_neg c1] at h'
    by_cases c2 : (rowM u u.length t).getLast? ≠ some (-1)
    · rw [if_pos c2] at h'; cases h'
    rw [if_neg c2] at h'
    have c2' : (rowM u u.length t).getLast? = some (-1) := Classical.not_not.mp c2
    obtain ⟨k, hk, he⟩ := ends_of hr u.length t (by omega) (by omega) c2'
    have hp : ∃ r, rng u.length = addM (rng m) (rowM u u.length t).dropLast ++ r := go_pre ts _ _ h'
    obtain ⟨m', a', q1, q2, q3, q4, q5, q6⟩ := run_back hr cl (n' := 0) k t m (u.length - m) u.length he (Nat.le_refl _) hm (Nat.le_refl _) hk (fun p h1 h2 => by omega) (fun p hp => (cl p hp).elim .inl fun q => .inr (.inl q)) hp
    rw [q5] at h'
    have ih := go_back hr ts m' h' q4 q6
    show (if (runM u (u.length - m) m t).2 ≠ -1 ∧ ¬ (0 ≤ (runM u (u.length - m) m t).2 ∧ (runM u (u.length - m) m t).2 < m) then none else numGo u (runM u (u.length - m) m t).1 ts) = _
    rw [q1, if_neg (by show ¬ (a' ≠ -1 ∧ ¬ (0 ≤ a' ∧ a' < m)); omega)]
    exact ih
where
  go_pre : ∀ (ts : List Int) (o e : List Int), rightGo u o ts = some e → ∃ r, e = o ++ r
    | [], o, e, h => ⟨[], by rw [List.append_nil]; exact (Option.some.inj h).symm⟩
    | t :: ts, o, e, h => by
      have h' : (if t < -1 ∨ t ≥ u.length then none else if (rowM u u.length t).getLast? ≠ some (-1) then none else rightGo u (addM o (rowM u u.length t).dropLast) ts) = some e := h
      by_cases c1 : t < -1 ∨ t ≥ u.length
      · rw [if_pos c1] at h'; cases h'
      rw [if_neg c1] at h'
      by_cases c2 : (rowM u u.length t).getLast? ≠ some (-1)
      · rw [if_pos c2] at h'; cases h'
      rw [if_neg c2] at h'
      obtain ⟨r, e1⟩ := go_pre ts _ _ h'
      obtain ⟨r2, e2⟩ := add_pre (rowM u u.length t).dropLast o
      exact ⟨r2 ++ r, by rw [e1, e2, List.append_assoc]⟩
theorem right_yes {tops : List Int} (hr : inR u) (h : rightGo u [] tops = some (rng u.length)) : numdM u tops = true := by
  unfold numdM
  have h0 : rightGo u (rng 0) tops = some (rng u.length) := h
  rw [go_back hr tops 0 h0 (Nat.zero_le _) (fun p h => absurd h (Nat.not_lt_zero _))]
  exact decide_eq_true rfl
end

/-! ### a dict walked by its keys, locked -/
section
open PySem PySem.Spec PyProof.Rows L2 Wp
variable {σ : L2.St} {H : Hp} {Q : VK} {te ta : TE} {K : PySem.W.Frag}
theorem lock_ {t : TE} {d : Addr} {kvs : List (Key × V)} (h : H d = some (.dK kvs)) (q : ∀ od, t σ (upd H d (.frz od (.dK kvs))) fun v H' => H' d = some (.frz od (.dK kvs)) ∧ Q v (upd H' d (.dK kvs))) : tLockE t σ H Q := ⟨d, _, h, trivial, q⟩
theorem lcK {g : TG} {tt : TT} {vs : List Nat} (h : ta σ H fun x H1 => ∃ d o, x = .ref d ∧ ((∃ kvs, H1 d = some (.frz o (.dK kvs)) ∧ ∀ D, H1 D = none → LoopC (Itk d o kvs) g tt te vs σ D (fun H => Q (.ref D) H) (upd H1 D (.lst []))) ∨
    ∃ kvs, H1 d = some (.frz o (.dT kvs)) ∧ ∀ D, H1 D = none → LoopC (Itkt d o kvs) g tt te vs σ D (fun H => Q (.ref D) H) (upd H1 D (.lst [])))) : tLc (iKeys ta) g tt te vs σ H Q := h
theorem loopCK {d : Addr} {o : Obj} {kvs : List (Key × V)} {g : TG} {tt : TT} {vs : List Nat} {D : Addr} {Qd : Hp → Prop} (Pv : Nat → Hp → Prop) (h0 : Pv 0 H) (hl : ∀ i H, i ≤ kvs.length → Pv i H → H d = some (.frz o (.dK kvs)))
    (hs : ∀ i k v H, kvs[i]? = some (k, v) → Pv i H → g (kV k) (wipe σ vs) H fun σ2 H2 => wipe σ2 vs = wipe σ vs ∧ tt σ2 H2 fun b H3 =>
      if b = true then te σ2 H3 fun y H4 => ∃ acc, H4 D = some (.lst acc) ∧ acc.length < sizeLine ∧ Pv (i + 1) (upd H4 D (.lst (acc ++ [y]))) else Pv (i + 1) H3) (hd : ∀ H, Pv kvs.length H → Qd H) : LoopC (Itk d o kvs) g tt te vs σ D Qd H := by
  refine ⟨fun i m H => m = kvs.length - i ∧ i ≤ kvs.length ∧ Pv i H, ⟨kvs.length, by simp, Nat.zero_le _, h0⟩, ?_⟩
  rintro i m H ⟨rfl, hi, p⟩
  have q := hl i H hi p
  by_cases hlt : i < kvs.length
  · refine .inr ⟨⟨q, hlt⟩, Pv (i + 1), fun H' p' => ⟨kvs.length - (i + 1), by omega, rfl, hlt, p'⟩, fun x H' y => ?_⟩
    obtain ⟨e, k, v, ek, ex⟩ := y
    subst e
    subst ex
    exact hs i k v _ ek p
  · have e : i = kvs.length := by omega
    subst e
    exact .inl ⟨⟨q, Nat.le_refl _⟩, hd H p⟩
end
end Wx

namespace K08
open PySem PySem.Spec PyProof.Rows L2 Wp Wq Wr
/-! ### the text by places -/
def topS (i : Nat) : Stmt := PySem.Challenge.pw_manygoings_k08_whole_papers_that_err.main.body.getD i (.Pass ⟨0, 0, 0, 0⟩)
abbrev s_is_number : Stmt := topS 4
abbrev s_check_size : Stmt := topS 9
abbrev s_leads_of : Stmt := topS 10
abbrev s_is_numbered : Stmt := topS 11
abbrev s_is_paper : Stmt := topS 12
abbrev s_cell_at : Stmt := topS 14
abbrev s_bag : Stmt := topS 15
abbrev s_draw : Stmt := topS 16
abbrev s_worth : Stmt := topS 17
abbrev s_size : Stmt := topS 18
abbrev s_raw : Stmt := topS 19
abbrev s_numbered : Stmt := topS 20
abbrev s_copy : Stmt := topS 21
abbrev s_right : Stmt := topS 22
abbrev s_asked : Stmt := topS 23
abbrev s_near : Stmt := topS 24
abbrev s_swapped : Stmt := topS 25
abbrev s_long : Stmt := topS 26
abbrev s_turned_piece : Stmt := topS 27
abbrev s_turned : Stmt := topS 28
abbrev s_each : Stmt := topS 29
abbrev s_law : Stmt := topS 30
theorem sc_is_number : FnScope ["thing"] ["thing"] (defScope s_is_number) := ⟨rfl, rfl, rfl, by decide +kernel, rfl, by decide +kernel, by decide +kernel⟩
theorem sc_check_size : FnScope ["size"] ["size"] (defScope s_check_size) := ⟨rfl, rfl, rfl, by decide +kernel, rfl, by decide +kernel, by decide +kernel⟩
theorem sc_leads_of : FnScope ["paper", "pieces", "tops", "under", "_"] ["paper"] (defScope s_leads_of) := ⟨rfl, rfl, rfl, by decide +kernel, rfl, by decide +kernel, by decide +kernel⟩
theorem sc_is_numbered : FnScope ["paper", "pieces", "tops", "many", "at", "before"] ["paper"] (defScope s_is_numbered) := ⟨rfl, rfl, rfl, by decide +kernel, rfl, by decide +kernel, by decide +kernel⟩
theorem sc_is_paper : FnScope ["size", "paper", "at", "_", "worths"] ["size", "paper"] (defScope s_is_paper) := ⟨rfl, rfl, rfl, by decide +kernel, rfl, by decide +kernel, by decide +kernel⟩
theorem sc_cell_at : FnScope ["script", "k"] ["script", "k"] (defScope s_cell_at) := ⟨rfl, rfl, rfl, by decide +kernel, rfl, by decide +kernel, by decide +kernel⟩
theorem sc_bag : FnScope ["cell", "place"] ["cell", "place"] (defScope s_bag) := ⟨rfl, rfl, rfl, by decide +kernel, rfl, by decide +kernel, by decide +kernel⟩
theorem sc_draw : FnScope ["bag", "many", "found", "mixed"] ["bag", "many"] (defScope s_draw) := ⟨rfl, rfl, rfl, by decide +kernel, rfl, by decide +kernel, by decide +kernel⟩
theorem sc_worth : FnScope ["bag", "few", "at", "word", "number", "k"] ["bag", "few"] (defScope s_worth) := ⟨rfl, rfl, rfl, by decide +kernel, rfl, by decide +kernel, by decide +kernel⟩
theorem sc_size : FnScope ["bag"] ["bag"] (defScope s_size) := ⟨rfl, rfl, rfl, by decide +kernel, rfl, by decide +kernel, by decide +kernel⟩
theorem sc_raw : FnScope ["bag", "size", "most", "unlike", "many", "shape", "few", "raw", "piles", "k", "under", "long", "worths", "below", "j"] ["bag", "size", "most", "unlike"] (defScope s_raw) := ⟨rfl, rfl, rfl, by decide +kernel, rfl, by decide +kernel, by decide +kernel⟩
theorem sc_numbered : FnScope ["raw", "tops", "places", "order", "top", "at"] ["raw", "tops"] (defScope s_numbered) := ⟨rfl, rfl, rfl, by decide +kernel, rfl, by decide +kernel, by decide +kernel⟩
theorem sc_copy : FnScope ["paper", "under", "worths"] ["paper"] (defScope s_copy) := ⟨rfl, rfl, rfl, by decide +kernel, rfl, by decide +kernel, by decide +kernel⟩
theorem sc_right : FnScope ["size", "pieces", "tops", "many", "under", "worths", "came", "top", "row", "at"] ["size", "pieces", "tops"] (defScope s_right) := ⟨rfl, rfl, rfl, by decide +kernel, rfl, by decide +kernel, by decide +kernel⟩
theorem sc_asked : FnScope ["size", "paper", "handed", "found"] ["size", "paper"] (defScope s_asked) := ⟨rfl, rfl, rfl, by decide +kernel, rfl, by decide +kernel, by decide +kernel⟩
theorem sc_near : FnScope ["bag", "many", "way", "near", "far"] ["bag", "many"] (defScope s_near) := ⟨rfl, rfl, rfl, by decide +kernel, rfl, by decide +kernel, by decide +kernel⟩
theorem sc_swapped : FnScope ["row", "one", "other", "turned"] ["row", "one", "other"] (defScope s_swapped) := ⟨rfl, rfl, rfl, by decide +kernel, rfl, by decide +kernel, by decide +kernel⟩
theorem sc_long : FnScope ["worths", "most", "k"] ["worths", "most"] (defScope s_long) := ⟨rfl, rfl, rfl, by decide +kernel, rfl, by decide +kernel, by decide +kernel⟩
theorem sc_turned_piece : FnScope ["bag", "size", "paper", "way", "pieces", "many", "at", "other", "under", "worths"] ["bag", "size", "paper", "way"] (defScope s_turned_piece) := ⟨rfl, rfl, rfl, by decide +kernel, rfl, by decide +kernel, by decide +kernel⟩
theorem sc_turned : FnScope ["bag", "size", "paper", "way", "pieces", "tops", "at", "here"] ["bag", "size", "paper"] (defScope s_turned) := ⟨rfl, rfl, rfl, by decide +kernel, rfl, by decide +kernel, by decide +kernel⟩
theorem sc_each : FnScope ["size", "paper", "pieces", "tops", "many", "number", "at", "some"] ["size", "paper"] (defScope s_each) := ⟨rfl, rfl, rfl, by decide +kernel, rfl, by decide +kernel, by decide +kernel⟩
theorem sc_law : FnScope ["script", "bag", "raw", "piles", "tops", "k", "twice", "great", "size", "most", "paper"] ["script"] (defScope s_law) := ⟨rfl, rfl, rfl, by decide +kernel, rfl, by decide +kernel, by decide +kernel⟩
/-! ### the facts of the top -/
structure Txt (P : Program) (w : World) (K : PySem.W.Frag) (mg : Str → Option Value) where
  f_is_number : Addr
  fd_is_number : FuncData
  F_is_number : Fun K "is_number" "is_number" s_is_number f_is_number fd_is_number
  b_is_number : Binds K fd_is_number ["thing"] []
  g_is_number : mg "is_number" = some (.ref f_is_number)
  f_check_size : Addr
  fd_check_size : FuncData
  F_check_size : Fun K "check_size" "check_size" s_check_size f_check_size fd_check_size
  b_check_size : Binds K fd_check_size ["size"] []
  g_check_size : mg "check_size" = some (.ref f_check_size)
  f_leads_of : Addr
  fd_leads_of : FuncData
  F_leads_of : Fun K "leads_of" "leads_of" s_leads_of f_leads_of fd_leads_of
  b_leads_of : Binds K fd_leads_of ["paper"] []
  g_leads_of : mg "leads_of" = some (.ref f_leads_of)
  f_is_numbered : Addr
  fd_is_numbered : FuncData
  F_is_numbered : Fun K "is_numbered" "is_numbered" s_is_numbered f_is_numbered fd_is_numbered
  b_is_numbered : Binds K fd_is_numbered ["paper"] []
  g_is_numbered : mg "is_numbered" = some (.ref f_is_numbered)
  f_is_paper : Addr
  fd_is_paper : FuncData
  F_is_paper : Fun K "is_paper" "is_paper" s_is_paper f_is_paper fd_is_paper
  b_is_paper : Binds K fd_is_paper ["size", "paper"] []
  g_is_paper : mg "is_paper" = some (.ref f_is_paper)
  f_cell_at : Addr
  fd_cell_at : FuncData
  F_cell_at : Fun K "_law_cell_at" "_law_cell_at" s_cell_at f_cell_at fd_cell_at
  b_cell_at : Binds K fd_cell_at ["script", "k"] []
  g_cell_at : mg "_law_cell_at" = some (.ref f_cell_at)
  f_bag : Addr
  fd_bag : FuncData
  F_bag : Fun K "_law_bag" "_law_bag" s_bag f_bag fd_bag
  b_bag : Binds K fd_bag ["cell", "place"] []
  g_bag : mg "_law_bag" = some (.ref f_bag)
  f_draw : Addr
  fd_draw : FuncData
  F_draw : Fun K "_law_draw" "_law_draw" s_draw f_draw fd_draw
  b_draw : Binds K fd_draw ["bag", "many"] []
  g_draw : mg "_law_draw" = some (.ref f_draw)
  f_worth : Addr
  fd_worth : FuncData
  F_worth : Fun K "_law_worth" "_law_worth" s_worth f_worth fd_worth
  b_worth : Binds K fd_worth ["bag", "few"] []
  g_worth : mg "_law_worth" = some (.ref f_worth)
  f_size : Addr
  fd_size : FuncData
  F_size : Fun K "_law_size" "_law_size" s_size f_size fd_size
  b_size : Binds K fd_size ["bag"] []
  g_size : mg "_law_size" = some (.ref f_size)
  f_raw : Addr
  fd_raw : FuncData
  F_raw : Fun K "_law_raw" "_law_raw" s_raw f_raw fd_raw
  b_raw : Binds K fd_raw ["bag", "size", "most", "unlike"] []
  g_raw : mg "_law_raw" = some (.ref f_raw)
  f_numbered : Addr
  fd_numbered : FuncData
  F_numbered : Fun K "_law_numbered" "_law_numbered" s_numbered f_numbered fd_numbered
  b_numbered : Binds K fd_numbered ["raw", "tops"] []
  g_numbered : mg "_law_numbered" = some (.ref f_numbered)
  f_copy : Addr
  fd_copy : FuncData
  F_copy : Fun K "_law_copy" "_law_copy" s_copy f_copy fd_copy
  b_copy : Binds K fd_copy ["paper"] []
  g_copy : mg "_law_copy" = some (.ref f_copy)
  f_right : Addr
  fd_right : FuncData
  F_right : Fun K "_law_right" "_law_right" s_right f_right fd_right
  b_right : Binds K fd_right ["size", "pieces", "tops"] []
  g_right : mg "_law_right" = some (.ref f_right)
  f_asked : Addr
  fd_asked : FuncData
  F_asked : Fun K "_law_asked" "_law_asked" s_asked f_asked fd_asked
  b_asked : Binds K fd_asked ["size", "paper"] []
  g_asked : mg "_law_asked" = some (.ref f_asked)
  f_near : Addr
  fd_near : FuncData
  F_near : Fun K "_law_near" "_law_near" s_near f_near fd_near
  b_near : Binds K fd_near ["bag", "many"] []
  g_near : mg "_law_near" = some (.ref f_near)
  f_swapped : Addr
  fd_swapped : FuncData
  F_swapped : Fun K "_law_swapped" "_law_swapped" s_swapped f_swapped fd_swapped
  b_swapped : Binds K fd_swapped ["row", "one", "other"] []
  g_swapped : mg "_law_swapped" = some (.ref f_swapped)
  f_long : Addr
  fd_long : FuncData
  F_long : Fun K "_law_long" "_law_long" s_long f_long fd_long
  b_long : Binds K fd_long ["worths", "most"] []
  g_long : mg "_law_long" = some (.ref f_long)
  f_turned_piece : Addr
  fd_turned_piece : FuncData
  F_turned_piece : Fun K "_law_turned_piece" "_law_turned_piece" s_turned_piece f_turned_piece fd_turned_piece
  b_turned_piece : Binds K fd_turned_piece ["bag", "size", "paper", "way"] []
  g_turned_piece : mg "_law_turned_piece" = some (.ref f_turned_piece)
  f_turned : Addr
  fd_turned : FuncData
  F_turned : Fun K "_law_turned" "_law_turned" s_turned f_turned fd_turned
  b_turned : Binds K fd_turned ["bag", "size", "paper"] []
  g_turned : mg "_law_turned" = some (.ref f_turned)
  f_each : Addr
  fd_each : FuncData
  F_each : Fun K "_law_each" "_law_each" s_each f_each fd_each
  b_each : Binds K fd_each ["size", "paper"] []
  g_each : mg "_law_each" = some (.ref f_each)
  f_law : Addr
  fd_law : FuncData
  F_law : Fun K "law" "law" s_law f_law fd_law
  b_law : Binds K fd_law ["script"] []
  g_law : mg "law" = some (.ref f_law)
  n_all : mg "all" = none
  n_bool : mg "bool" = none
  n_int : mg "int" = none
  n_isinstance : mg "isinstance" = none
  n_len : mg "len" = none
  n_list : mg "list" = none
  n_max : mg "max" = none
  n_min : mg "min" = none
  n_range : mg "range" = none
  n_type : mg "type" = none
  t_NOTHING : Tok
  c_NOTHING : mg "NOTHING" = some (.int (-1) t_NOTHING)
  t_LEAST_SIZE : Tok
  c_LEAST_SIZE : mg "LEAST_SIZE" = some (.int (2) t_LEAST_SIZE)
  t_MOST_SIZE : Tok
  c_MOST_SIZE : mg "MOST_SIZE" = some (.int (64) t_MOST_SIZE)

local macro_rules | `(tactic| walk_at "ne") => `(tactic| first
  | assumption
  | (refine Ne.symm ?_; assumption)
  | exact ne_of_none (by assumption) (by assumption)
  | exact (ne_of_none (by assumption) (by assumption)).symm
  | exact ne_of (by assumption) (by assumption) (by intro q; cases q))
local macro_rules | `(tactic| walk_at "hp") => `(tactic| first
  | assumption
  | exact upd_same
  | (refine (upd_ne ?_).trans ?_; (walk_at "ne"); (walk_at "hp")))
local macro_rules | `(tactic| walk_at "sq") => `(tactic| first
  | assumption
  | exact SqL.of (by walk_at "hp")
  | exact SqT.of (by walk_at "hp"))
local macro_rules | `(tactic| walk_at "kind") => `(tactic| first
  | assumption
  | exact Kind.int _
  | exact Kind.str _
  | exact Kind.bl _
  | exact Kind.non
  | exact Kind.tup (by walk_at "hp")
  | exact Kind.lst (by walk_at "hp")
  | exact Kind.dK (by walk_at "hp"))
local macro_rules | `(tactic| walk_at "w1") => `(tactic| first
  | (with_reducible refine Wp.seq ?_)
  | (with_reducible refine Wp.nx_mk ?_)
  | (with_reducible refine Wp.rt_mk ?_)
  | (with_reducible refine Wp.bk_mk ?_)
  | (with_reducible refine Wp.ct_mk ?_)
  | (with_reducible refine Wp.next ?_)
  | (with_reducible refine Wp.asg ?_)
  | ((with_reducible refine' Wp.gname ?e ?_); (case e => (try dsimp only [List.set, L2.wipe, List.map_cons, List.map_nil]); (try exact rfl)))
  | (with_reducible refine Wp.gsub ?_)
  | (with_reducible refine Wp.ret ?_)
  | (with_reducible refine Wp.retN ?_)
  | (with_reducible refine Wp.drop ?_)
  | (with_reducible refine Wp.dput ?_)
  | (with_reducible refine Wp.ifs ?_)
  | ((with_reducible refine' Wp.var ?h ?_); (case h => exact rfl))
  | (with_reducible refine Wp.con ?_)
  | (with_reducible refine Wp.op ?_)
  | (with_reducible refine Wp.un ?_)
  | (with_reducible refine Wp.cb ?_)
  | (with_reducible refine Wp.anil ?_)
  | (with_reducible refine Wp.acons ?_)
  | (with_reducible refine Wp.call ?_)
  | (with_reducible refine Wp.test ?_)
  | (with_reducible refine Wp.tb_ ?_)
  | (with_reducible refine Wp.and_ ?_)
  | (with_reducible refine Wp.or_ ?_)
  | (with_reducible refine Wp.not_ ?_)
  | (with_reducible refine Wp.andV ?_)
  | (with_reducible refine Wp.orV ?_)
  | (with_reducible refine Wp.notV ?_)
  | (with_reducible refine Wp.rI0_ ?_)
  | (with_reducible refine Wp.rU_ ?_)
  | ((with_reducible refine Wp.rEq_ ?k ?_); (case k => exact rfl))
  | ((with_reducible refine Wp.rNe_ ?k ?_); (case k => exact rfl))
  | (with_reducible refine Wp.gcons ?_)
  | (with_reducible refine Wp.gnil ?_)
  | ((with_reducible refine' Wp.gtup ?h ?e ?_); (case h => walk_at "sq"); (case e => exact rfl))
  | (with_reducible refine Wp.sl ?_)
  | (with_reducible refine Wp.part ?_)
  | (with_reducible refine Wp.nopart ?_)
  | (with_reducible refine Wp.ifE ?_)
  | (with_reducible refine Wp.bm0 ?_)
  | (with_reducible refine Wp.bm ?_)
  | (with_reducible refine Wp.lcR1 ?_)
  | (with_reducible refine Wp.lcR2 ?_)
  | (with_reducible refine Wp.lcL ?_)
  | (with_reducible refine Wp.chain ?_)
  | (with_reducible refine Wp.lc2V ?_)
  | (with_reducible refine Wp.piL ?_)
  | (with_reducible refine Wp.yes ?_)
  | (with_reducible refine Wp.dinI ?_)
  | (with_reducible refine Wp.dninI ?_)
  | (with_reducible refine Wp.dget ?_)
  | ((with_reducible refine' ⟨?k, ?_⟩); (case k => show L2.wipe _ _ = L2.wipe _ _; exact rfl))
  | (with_reducible refine Wp.forR1 ?_)
  | (with_reducible refine Wp.forR2 ?_)
  | (with_reducible refine Wp.forL ?_)
  | (with_reducible refine Wp.forT ?_)
  | ((with_reducible refine' ⟨?k, ?_⟩); (case k => exact Wp.tyvL (by walk_at "hp")))
  | ((with_reducible refine' Wp.rev_ ?k ?_); (case k => walk_at "hp"))
  | ((with_reducible refine' Wp.isi ?k ?h ?_); (case k => walk_at "kind"); (case h => decide))
  | ((with_reducible refine' Wp.typ ?k ?_); (case k => walk_at "kind"))
  | (with_reducible refine Wp.slS ?k ?_; (case k => assumption))
  | (with_reducible refine iteT ?_)
  | (with_reducible refine iteF ?_)
  | (with_reducible refine Wp.pcons ?_)
  | (with_reducible refine Wp.pnil ?_)
  | ((with_reducible refine' Wp.iteBnT ?h ?_); (case h => show isB _ _ = false; decide))
  | ((with_reducible refine' Wp.iteBnF ?h ?_); (case h => show isB _ _ = true; decide))
  | ((with_reducible refine' Wp.iteBt ?h ?_); (case h => show isB _ _ = true; decide))
  | ((with_reducible refine' Wp.iteBf ?h ?_); (case h => show isB _ _ = false; decide))
  | (with_reducible refine Wp.iteT' ?_)
  | (with_reducible refine Wp.iteF' ?_)
  | (with_reducible refine Wp.rNT_ ?_)
  | ((with_reducible refine Wp.lst ?_))
  | ((with_reducible refine Wp.tup ?_))
  | ((with_reducible refine' Wp.ixL ?h ?e ?_); (case h => walk_at "sq"); (case e => exact rfl))
  | ((with_reducible refine' Wp.ixT ?h ?e ?_); (case h => walk_at "sq"); (case e => exact rfl))
  | ((with_reducible refine' Wp.setL ?h ?e ?_); (case h => walk_at "hp"); (case e => exact rfl))
  | ((with_reducible refine Wp.rI_ ?k ?_); (case k => first | (show (0:Int) < _; omega) | (show CPow _ _; refine' ⟨?_, ?_, ?_⟩ <;> omega) | (show CDiv _ _; refine' ⟨?_, ?_⟩ <;> omega) | (show CMul _ _; refine' Or.inl ⟨?_, ?_⟩ <;> omega) | (show CMul _ _; refine' Or.inr ⟨?_, ?_⟩ <;> first | omega | decide) | (show CDivW _ _; refine' wide_div (b := 240) ?_ ?_ ?_ ?_ <;> first | omega | decide)))
  | ((with_reducible refine ⟨?k, ?_⟩); (case k => first | exact Nat.zero_le _ | (exact Nat.le_of_ble_eq_true rfl)); intro p hp)
  | ((with_reducible refine' ⟨_, _, rfl, .inl ?k, ?_⟩); (case k => walk_at "sq"))
  | ((with_reducible refine' ⟨_, _, rfl, .inr ?k, ?_⟩); (case k => walk_at "sq"))
  | (with_reducible refine ⟨_, rfl, ?_⟩)
  | (with_reducible refine ⟨_, _, rfl, rfl, ?_⟩)
  | (with_reducible refine ⟨_, _, rfl, ?_⟩))
local macro_rules | `(tactic| walk_at "wp") => `(tactic| repeat (walk_at "w1"))

section
variable {P : Program} {w : World} {K : PySem.W.Frag} {mg : Str → Option Value} {base : Heap}
/-- a bag: three ints, the second below 2 ^ 62, the third at most n -/
def Bag (H : Hp) (b : Addr) (n : Nat) : Prop := ∃ x y z : Int, H b = some (.lst [.int x, .int y, .int z]) ∧ 0 ≤ y ∧ y < 4611686018427387904 ∧ 0 ≤ z ∧ z ≤ n
theorem Bag.mono {H : Hp} {b : Addr} {n m : Nat} (h : Bag H b n) (k : n ≤ m) : Bag H b m := by
  obtain ⟨x, y, z, h1, h2, h3, h4, h5⟩ := h
  exact ⟨x, y, z, h1, h2, h3, h4, by omega⟩
theorem Bag.ne_new {H : Hp} {b p : Addr} {n : Nat} (h : Bag H b n) (k : H p = none) : p ≠ b := by
  obtain ⟨x, y, z, h1, h⟩ := h
  exact (ne_of_none h1 k).symm
theorem Bag.keep {H H' : Hp} {b : Addr} {n : Nat} (h : Bag H b n) (k : Same H H') : Bag H' b n := by
  obtain ⟨x, y, z, h1, h⟩ := h
  exact ⟨x, y, z, k _ _ h1, h⟩
theorem Bag.upd {H : Hp} {b r : Addr} {n : Nat} {o : HO} (h : Bag H b n) (k : r ≠ b) : Bag (L2.upd H r o) b n := by
  obtain ⟨x, y, z, h1, h⟩ := h
  exact ⟨x, y, z, by rw [upd_ne k.symm]; exact h1, h⟩

def spCell (K : PySem.W.Frag) : Sp := fun vs H Q _ => ∃ (a : Addr) (ns : List Int) (k : Nat), vs = [.ref a, .int k] ∧ SqL K H a (ns.map V.int) ∧ ∀ v, Q (.int v) H
theorem ok_cell_at (T : Txt P w K mg) : FnOk P w K mg base CX0 1 T.f_cell_at T.fd_cell_at ["script", "k"] (spCell K) := by
  refine T.F_cell_at.ok sc_cell_at (fun vs H Q E h => ?_) (fun cdv A outer s H vs Q E hr h => ?_)
  · obtain ⟨a, ns, k, rfl, _⟩ := h
    rfl
  · obtain ⟨a, ns, k, rfl, hS, q⟩ := h
    refine ⟨_, (pss_cons (ps_if (pt_cmpR op_lt (pv 1) (pe_callB call_len_seq (by rfl) T.n_len (by decide +kernel) (pa_cons (pv 0) pa_nil)) (nomark _)) (pss_one (ps_ret (pe_ix ix_list (pv 0) (pv 1) (fun _ _ => rfl)))) pss_nil)
      (pss_one (ps_ret pe_int))), ?_⟩
    rw [show L2.start ["script", "k"] [.ref a, .int k] = [some (.ref a), some (.int k)] from rfl]
    try dsimp only [cxOf]
    walk_at "wp"
    refine ite_ (fun c => ?_) (fun c => ?_)
    · walk_at "wp"
      have hk : k < ns.length := by
        rw [List.length_map] at c
        omega
      refine ixL hS (atI_nat (v := .int ns[k]) ?_) ?_
      · rw [List.getElem?_map, List.getElem?_eq_getElem hk]
        rfl
      · exact q _
    · walk_at "wp"
      exact q _

def spBag : Sp := fun vs H Q _ => ∃ (c : Int) (p : Nat), vs = [.int c, .int p] ∧ p ≤ 100 ∧ ∀ b H', H b = none → Bag H' b 0 → Same H H' → Q (.ref b) H'
theorem ok_bag (T : Txt P w K mg) : FnOk P w K mg base CX0 1 T.f_bag T.fd_bag ["cell", "place"] spBag := by
  refine T.F_bag.ok sc_bag (fun vs H Q E h => ?_) (fun cdv A outer s H vs Q E hr h => ?_)
  · obtain ⟨c, p, rfl, _⟩ := h
    rfl
  · obtain ⟨c, p, rfl, hp, q⟩ := h
    refine ⟨_, (pss_one (ps_ret (pe_lst (pa_cons (pe_callB (call_max2 rfl) (by rfl) T.n_max (by decide +kernel) (pa_cons pe_int (pa_cons (pe_op op_sub (pv 0) (pe_op op_pow pe_int pe_int)) pa_nil))) (pa_cons (pe_op op_add (pe_op op_mod (pv 0) pe_int) (pe_op op_mul pe_int (pv 1))) (pa_cons pe_int pa_nil)))))), ?_⟩
    rw [show L2.start ["cell", "place"] [.int c, .int p] = [some (.int c), some (.int p)] from rfl]
    try dsimp only [cxOf]
    walk_at "wp"
    refine q _ _ ‹_› ⟨_, _, _, upd_same, ?_, ?_, by omega, by omega⟩ (same_new ‹_›)
    · have := Int.emod_nonneg c (show (2305843009213693951 : Int) ≠ 0 by decide)
      omega
    · have := Int.emod_lt_of_pos c (show (0 : Int) < 2305843009213693951 by decide)
      omega

def spDraw : Sp := fun vs H Q _ => ∃ (b : Addr) (n : Nat) (m : Int), vs = [.ref b, .int m] ∧ Bag H b n ∧ n < 1000000 ∧ 0 < m ∧ m < 2 ^ 240 ∧ ∀ v H', 0 ≤ v → v < m → Bag H' b (n + 1) → Kp b H H' → Q (.int v) H'
theorem ok_draw (T : Txt P w K mg) : FnOk P w K mg base CX0 1 T.f_draw T.fd_draw ["bag", "many"] spDraw := by
  refine T.F_draw.ok sc_draw (fun vs H Q E h => ?_) (fun cdv A outer s H vs Q E hr h => ?_)
  · obtain ⟨b, n, m, rfl, _⟩ := h
    rfl
  · obtain ⟨b, n, m, rfl, ⟨x, y, z, hb, hy, hy2, hz, hz2⟩, hn, hm, hm2, k⟩ := h
    refine ⟨_, (pss_cons (ps_if (pt_cmpR op_gt (pe_ix ix_list (pv 0) pe_int (fun _ _ => rfl)) pe_int (nomark _)) (pss_cons (ps_set (i := 2) sc_draw.nd rfl (.inl rfl) (pe_op op_mod (pe_ix ix_list (pv 0) pe_int (fun _ _ => rfl)) (pv 1)))
      (pss_cons (ps_asg (pe_op op_fdivW (pe_ix ix_list (pv 0) pe_int (fun _ _ => rfl)) (pv 1)) (pg_sub (pv 0) pe_int set_list))
      (pss_one (ps_ret (pv 2))))) pss_nil)
      (pss_cons (ps_asg (pe_op op_add (pe_ix ix_list (pv 0) pe_int (fun _ _ => rfl)) pe_int) (pg_sub (pv 0) pe_int set_list))
      (pss_cons (ps_set (i := 3) sc_draw.nd rfl (.inl rfl) (pe_op op_mod (pe_op op_pow (pe_op op_add (pe_ix ix_list (pv 0) pe_int (fun _ _ => rfl)) (pe_op op_mul pe_int (pe_ix ix_list (pv 0) pe_int (fun _ _ => rfl)))) pe_int) pe_int))
      (pss_cons (ps_set (i := 3) sc_draw.nd rfl (.inl rfl) (pe_op op_mod (pe_op op_pow (pe_op op_add (pv 3) (pe_op op_mul pe_int (pe_ix ix_list (pv 0) pe_int (fun _ _ => rfl)))) pe_int) pe_int))
      (pss_one (ps_ret (pe_op op_mod (pe_op op_fdiv (pv 3) pe_int) (pv 1)))))))), ?_⟩
    rw [show L2.start ["bag", "many", "found", "mixed"] [.ref b, .int m] = [some (.ref b), some (.int m), none, none] from rfl]
    try dsimp only [cxOf]
    walk_at "wp"
    refine ite_ (fun c => ?_) (fun c => ?_)
    · walk_at "wp"
      refine k _ _ ?_ ?_ ⟨_, _, _, upd_same, hy, hy2, hz, by omega⟩ Kp.at
      · exact Int.emod_nonneg _ (by omega)
      · exact Int.emod_lt_of_pos _ hm
    · walk_at "wp"
      refine k _ _ ?_ ?_ ⟨_, _, _, upd_same, hy, hy2, by omega, by omega⟩ Kp.at
      · exact Int.emod_nonneg _ (by omega)
      · exact Int.emod_lt_of_pos _ hm

def spIsNumber : Sp := fun vs H Q _ => ∃ (v : V) (T : String), vs = [v] ∧ Kind H v T ∧ Q (.bl (decide (T = "int"))) H
theorem ok_is_number (T : Txt P w K mg) : FnOk P w K mg base CX0 1 T.f_is_number T.fd_is_number ["thing"] spIsNumber := by
  refine T.F_is_number.ok sc_is_number (fun vs H Q E h => ?_) (fun cdv A outer s H vs Q E hr h => ?_)
  · obtain ⟨v, ty, rfl, _⟩ := h
    rfl
  · obtain ⟨v, ty, rfl, hk, q⟩ := h
    refine ⟨_, (pss_one (ps_ret (pe_cmpR op_isTyB (pe_callTy call_type1 (by rfl) T.n_type (by decide +kernel) (pa_cons (pv 0) pa_nil)) (pe_bltn (v := .ty "int") (by rfl) T.n_int (by decide +kernel) rfl) (nomark _)))), ?_⟩
    rw [show L2.start ["thing"] [v] = [some v] from rfl]
    try dsimp only [cxOf]
    walk_at "wp"
    exact q

def spWorth : Sp := fun vs H Q _ => ∃ (b : Addr) (n : Nat) (f : Int), vs = [.ref b, .int f] ∧ Bag H b n ∧ n < 800000 ∧ 0 < f ∧ f ≤ 1000 ∧ ∀ v z H', IsW H' v z → Wok z → Bag H' b (n + 6) → Kp b H H' → Q v H'
theorem ok_worth (T : Txt P w K mg) : FnOk P w K mg base CX0 2 T.f_worth T.fd_worth ["bag", "few"] spWorth := by
  have G_draw := ok_draw (base := base) T
  refine T.F_worth.ok sc_worth (fun vs H Q E h => ?_) (fun cdv A outer s H vs Q E hr h => ?_)
  · obtain ⟨b, n, f, rfl, _⟩ := h
    rfl
  · obtain ⟨b, n, f, rfl, hb, hn, f0, f1, k⟩ := h
    refine ⟨_, (pss_cons (ps_set (i := 2) sc_worth.nd rfl (.inl rfl) (pe_call G_draw (hr.mono (by decide)) (by rfl) T.g_draw T.F_draw.kp T.b_draw .nil pass0 (pa_cons (pv 0) (pa_cons (pv 1) pa_nil))))
      (pss_cons (ps_set (i := 3) sc_worth.nd rfl (.inl rfl) (pe_ix ix_list (pe_lst (pa_cons pe_str (pa_cons pe_str (pa_cons pe_str (pa_cons pe_str pa_nil))))) (pe_op op_mod (pv 2) pe_int) (fun _ _ => rfl)))
      (pss_cons (ps_if (pt_cmpR op_lt (pv 2) pe_int (nomark _)) (pss_one (ps_ret (pe_tup (pa_cons (pv 3) (pa_cons (pe_op op_fdiv (pv 2) pe_int) pa_nil))))) pss_nil)
      (pss_cons (ps_set (i := 4) sc_worth.nd rfl (.inl rfl) pe_int)
      (pss_cons (ps_for PassesOwn.never rfl (pi_range1 (by rfl) T.n_range (pa_cons pe_int pa_nil)) (pg_name (i := 5) sc_worth.nd rfl (.inl rfl)) (pss_one (ps_set (i := 4) sc_worth.nd rfl (.inl rfl) (pe_op op_add (pe_op op_mul (pv 4) (pe_op op_pow pe_int pe_int)) (pe_call G_draw (hr.mono (by decide)) (by rfl) T.g_draw T.F_draw.kp T.b_draw .nil pass0 (pa_cons (pv 0) (pa_cons (pe_op op_pow pe_int pe_int) pa_nil)))))))
      (pss_cons (ps_if (PW.pt (pw_and (pt_cmpR op_eq (pv 3) pe_str (nomark _)) (pw_and1 (pt_cmpR op_eq (pe_op op_mod (pv 4) pe_int) pe_int (nomark _))))) (pss_one (ps_ret (pe_tup (pa_cons (pv 3) (pa_cons (pe_op op_sub pe_int (pv 4)) pa_nil))))) pss_nil)
      (pss_one (ps_ret (pe_tup (pa_cons (pv 3) (pa_cons (pv 4) pa_nil))))))))))), ?_⟩
    rw [show L2.start ["bag", "few", "at", "word", "number", "k"] [.ref b, .int f] = [some (.ref b), some (.int f), none, none, none, none] from rfl]
    try dsimp only [cxOf]
    walk_at "wp"
    refine ⟨b, n, _, rfl, hb, by omega, by omega, by omega, fun at_ H1 a0 a1 hb1 k1 => ?_⟩
    walk_at "wp"
    rename_i l hl
    obtain ⟨wd, hwd, hw⟩ : ∃ wd : Str, atI [V.str (Str.ofString "num"), V.str (Str.ofString "at"), V.str (Str.ofString "box"), V.str (Str.ofString "go")] (at_ % 4) = some (V.str wd) ∧ PyData.strOk wd = true := by
      have cc : at_ % 4 = 0 ∨ at_ % 4 = 1 ∨ at_ % 4 = 2 ∨ at_ % 4 = 3 := by omega
      rcases cc with e | e | e | e <;> rw [e] <;> exact ⟨_, rfl, by decide +kernel⟩
    refine ixL (SqL.of upd_same) hwd ?_
    have hb1' := hb1.keep (same_new (o := .lst [V.str (Str.ofString "num"), V.str (Str.ofString "at"), V.str (Str.ofString "box"), V.str (Str.ofString "go")]) hl)
    have k1' : Kp b H (upd H1 l (.lst [V.str (Str.ofString "num"), V.str (Str.ofString "at"), V.str (Str.ofString "box"), V.str (Str.ofString "go")])) := Kp.trans k1 (Kp.new hl)
    generalize upd H1 l (.lst [V.str (Str.ofString "num"), V.str (Str.ofString "at"), V.str (Str.ofString "box"), V.str (Str.ofString "go")]) = H1' at hb1' k1'
    walk_at "wp"
    refine ite_ (fun c => ?_) (fun c => ?_)
    · walk_at "wp"
      rename_i t ht
      exact k _ (wd, _) _ ⟨t, rfl, upd_same⟩ hw ((hb1'.keep (same_new ht)).mono (by omega)) (Kp.trans k1' (Kp.new ht))
    · walk_at "wp"
      refine ⟨by decide, by decide, loopR (fun i σ H' => ∃ (g : Int) (v : Option V), σ = [some (.ref b), some (.int f), some (.int at_), some (.str wd), some (.int g), v] ∧ Bag H' b (n + 1 + i) ∧ Kp b H1' H') ⟨0, none, rfl, hb1', Kp.refl _ _⟩ ?_ ?_⟩
      · rintro i σ H3 hi ⟨g, v, rfl, hb3, k3⟩
        have hi5 : i < 5 := hi
        walk_at "wp"
        refine ⟨b, n + 1 + i, _, rfl, hb3, by omega, by decide, by decide, fun v4 H4 v0 v1 hb4 k4 => ?_⟩
        walk_at "wp"
        exact ⟨hb4, Kp.trans k3 k4⟩
      · rintro σ H3 ⟨g, v, rfl, hb3, k3⟩
        have hb3' : Bag H3 b (n + 6) := hb3
        have kk := Kp.trans k1' k3
        walk_at "wp"
        refine ite_ (fun c => ?_) (fun c => ?_)
        · walk_at "wp"
          refine ite_ (fun c => ?_) (fun c => ?_)
          · walk_at "wp"
            rename_i t ht
            exact k _ (wd, _) _ ⟨t, rfl, upd_same⟩ hw (hb3'.keep (same_new ht)) (Kp.trans kk (Kp.new ht))
          · walk_at "wp"
            rename_i t ht
            exact k _ (wd, _) _ ⟨t, rfl, upd_same⟩ hw (hb3'.keep (same_new ht)) (Kp.trans kk (Kp.new ht))
        · walk_at "wp"
          rename_i t ht
          exact k _ (wd, _) _ ⟨t, rfl, upd_same⟩ hw (hb3'.keep (same_new ht)) (Kp.trans kk (Kp.new ht))

def spSize : Sp := fun vs H Q _ => ∃ (b : Addr) (n : Nat), vs = [.ref b] ∧ Bag H b n ∧ n < 800000 ∧ ∀ v H', 2 ≤ v → v ≤ 64 → Bag H' b (n + 2) → Kp b H H' → Q (.int v) H'
theorem ok_size (T : Txt P w K mg) : FnOk P w K mg base CX0 2 T.f_size T.fd_size ["bag"] spSize := by
  have G_draw := ok_draw (base := base) T
  refine T.F_size.ok sc_size (fun vs H Q E h => ?_) (fun cdv A outer s H vs Q E hr h => ?_)
  · obtain ⟨b, n, rfl, _⟩ := h
    rfl
  · obtain ⟨b, n, rfl, hb, hn, k⟩ := h
    refine ⟨_, (pss_cons (ps_if (pt_cmpR op_gt (pe_call G_draw (hr.mono (by decide)) (by rfl) T.g_draw T.F_draw.kp T.b_draw .nil pass0 (pa_cons (pv 0) (pa_cons pe_int pa_nil))) pe_int (nomark _)) (pss_one (ps_ret (pe_op op_add pe_int (pe_call G_draw (hr.mono (by decide)) (by rfl) T.g_draw T.F_draw.kp T.b_draw .nil pass0 (pa_cons (pv 0) (pa_cons pe_int pa_nil)))))) pss_nil)
      (pss_one (ps_ret (pe_op op_add pe_int (pe_call G_draw (hr.mono (by decide)) (by rfl) T.g_draw T.F_draw.kp T.b_draw .nil pass0 (pa_cons (pv 0) (pa_cons pe_int pa_nil))))))), ?_⟩
    rw [show L2.start ["bag"] [.ref b] = [some (.ref b)] from rfl]
    try dsimp only [cxOf]
    walk_at "wp"
    refine ⟨b, n, _, rfl, hb, by omega, by omega, by omega, fun v1 H1 a0 a1 hb1 k1 => ?_⟩
    walk_at "wp"
    refine ite_ (fun c => ?_) (fun c => ?_)
    · walk_at "wp"
      refine ⟨b, n + 1, _, rfl, hb1, by omega, by omega, by omega, fun v2 H2 c0 c1 hb2 k2 => ?_⟩
      walk_at "wp"
      exact k _ _ (by omega) (by omega) hb2 (Kp.trans k1 k2)
    · walk_at "wp"
      refine ⟨b, n + 1, _, rfl, hb1, by omega, by omega, by omega, fun v2 H2 c0 c1 hb2 k2 => ?_⟩
      walk_at "wp"
      exact k _ _ (by omega) (by omega) hb2 (Kp.trans k1 k2)

end
end K08

namespace K08
open PySem PySem.Spec PyProof.Rows L2 Wp Wq Wr
local macro_rules | `(tactic| walk_at "ne") => `(tactic| first
  | assumption
  | (refine Ne.symm ?_; assumption)
  | exact ne_of_none (by assumption) (by assumption)
  | exact (ne_of_none (by assumption) (by assumption)).symm
  | exact ne_of (by assumption) (by assumption) (by intro q; cases q))
local macro_rules | `(tactic| walk_at "hp") => `(tactic| first
  | assumption
  | exact upd_same
  | (refine (upd_ne ?_).trans ?_; (walk_at "ne"); (walk_at "hp")))
local macro_rules | `(tactic| walk_at "sq") => `(tactic| first
  | assumption
  | exact SqL.of (by walk_at "hp")
  | exact SqT.of (by walk_at "hp"))
local macro_rules | `(tactic| walk_at "kind") => `(tactic| first
  | assumption
  | exact Kind.int _
  | exact Kind.str _
  | exact Kind.bl _
  | exact Kind.non
  | exact Kind.tup (by walk_at "hp")
  | exact Kind.lst (by walk_at "hp")
  | exact Kind.dK (by walk_at "hp"))
local macro_rules | `(tactic| walk_at "w1") => `(tactic| first
  | (with_reducible refine Wp.seq ?_)
  | (with_reducible refine Wp.nx_mk ?_)
  | (with_reducible refine Wp.rt_mk ?_)
  | (with_reducible refine Wp.bk_mk ?_)
  | (with_reducible refine Wp.ct_mk ?_)
  | (with_reducible refine Wp.next ?_)
  | (with_reducible refine Wp.asg ?_)
  | ((with_reducible refine' Wp.gname ?e ?_); (case e => (try dsimp only [List.set, L2.wipe, List.map_cons, List.map_nil]); (try exact rfl)))
  | (with_reducible refine Wp.gsub ?_)
  | (with_reducible refine Wp.ret ?_)
  | (with_reducible refine Wp.retN ?_)
  | (with_reducible refine Wp.drop ?_)
  | (with_reducible refine Wp.dput ?_)
  | (with_reducible refine Wp.ifs ?_)
  | ((with_reducible refine' Wp.var ?h ?_); (case h => exact rfl))
  | (with_reducible refine Wp.con ?_)
  | (with_reducible refine Wp.op ?_)
  | (with_reducible refine Wp.un ?_)
  | (with_reducible refine Wp.cb ?_)
  | (with_reducible refine Wp.anil ?_)
  | (with_reducible refine Wp.acons ?_)
  | (with_reducible refine Wp.call ?_)
  | (with_reducible refine Wp.test ?_)
  | (with_reducible refine Wp.tb_ ?_)
  | (with_reducible refine Wp.and_ ?_)
  | (with_reducible refine Wp.or_ ?_)
  | (with_reducible refine Wp.not_ ?_)
  | (with_reducible refine Wp.andV ?_)
  | (with_reducible refine Wp.orV ?_)
  | (with_reducible refine Wp.notV ?_)
  | (with_reducible refine Wp.rI0_ ?_)
  | (with_reducible refine Wp.rU_ ?_)
  | ((with_reducible refine Wp.rEq_ ?k ?_); (case k => exact rfl))
  | ((with_reducible refine Wp.rNe_ ?k ?_); (case k => exact rfl))
  | (with_reducible refine Wp.gcons ?_)
  | (with_reducible refine Wp.gnil ?_)
  | ((with_reducible refine' Wp.gtup ?h ?e ?_); (case h => walk_at "sq"); (case e => exact rfl))
  | (with_reducible refine Wp.sl ?_)
  | (with_reducible refine Wp.part ?_)
  | (with_reducible refine Wp.nopart ?_)
  | (with_reducible refine Wp.ifE ?_)
  | (with_reducible refine Wp.bm0 ?_)
  | (with_reducible refine Wp.bm ?_)
  | (with_reducible refine Wp.lcR1 ?_)
  | (with_reducible refine Wp.lcR2 ?_)
  | (with_reducible refine Wp.lcL ?_)
  | (with_reducible refine Wp.chain ?_)
  | (with_reducible refine Wp.lc2V ?_)
  | (with_reducible refine Wp.piL ?_)
  | (with_reducible refine Wp.yes ?_)
  | (with_reducible refine Wp.dinI ?_)
  | (with_reducible refine Wp.dninI ?_)
  | (with_reducible refine Wp.dget ?_)
  | ((with_reducible refine' ⟨?k, ?_⟩); (case k => show L2.wipe _ _ = L2.wipe _ _; exact rfl))
  | (with_reducible refine Wp.forR1 ?_)
  | (with_reducible refine Wp.forR2 ?_)
  | (with_reducible refine Wp.forL ?_)
  | (with_reducible refine Wp.forT ?_)
  | ((with_reducible refine' ⟨?k, ?_⟩); (case k => exact Wp.tyvL (by walk_at "hp")))
  | ((with_reducible refine' Wp.rev_ ?k ?_); (case k => walk_at "hp"))
  | ((with_reducible refine' Wp.isi ?k ?h ?_); (case k => walk_at "kind"); (case h => decide))
  | ((with_reducible refine' Wp.typ ?k ?_); (case k => walk_at "kind"))
  | (with_reducible refine Wp.slS ?k ?_; (case k => assumption))
  | (with_reducible refine iteT ?_)
  | (with_reducible refine iteF ?_)
  | (with_reducible refine Wp.pcons ?_)
  | (with_reducible refine Wp.pnil ?_)
  | ((with_reducible refine' Wp.iteBnT ?h ?_); (case h => show isB _ _ = false; decide))
  | ((with_reducible refine' Wp.iteBnF ?h ?_); (case h => show isB _ _ = true; decide))
  | ((with_reducible refine' Wp.iteBt ?h ?_); (case h => show isB _ _ = true; decide))
  | ((with_reducible refine' Wp.iteBf ?h ?_); (case h => show isB _ _ = false; decide))
  | (with_reducible refine Wp.iteT' ?_)
  | (with_reducible refine Wp.iteF' ?_)
  | (with_reducible refine Wp.rNT_ ?_)
  | ((with_reducible refine Wp.lst ?_))
  | ((with_reducible refine Wp.tup ?_))
  | ((with_reducible refine' Wp.ixL ?h ?e ?_); (case h => walk_at "sq"); (case e => exact rfl))
  | ((with_reducible refine' Wp.ixT ?h ?e ?_); (case h => walk_at "sq"); (case e => exact rfl))
  | ((with_reducible refine' Wp.setL ?h ?e ?_); (case h => walk_at "hp"); (case e => exact rfl))
  | ((with_reducible refine Wp.rI_ ?k ?_); (case k => first | (show (0:Int) < _; omega) | (show CPow _ _; refine' ⟨?_, ?_, ?_⟩ <;> omega) | (show CDiv _ _; refine' ⟨?_, ?_⟩ <;> omega) | (show CMul _ _; refine' Or.inl ⟨?_, ?_⟩ <;> omega) | (show CMul _ _; refine' Or.inr ⟨?_, ?_⟩ <;> first | omega | decide) | (show CDivW _ _; refine' wide_div (b := 240) ?_ ?_ ?_ ?_ <;> first | omega | decide)))
  | ((with_reducible refine ⟨?k, ?_⟩); (case k => first | exact Nat.zero_le _ | (exact Nat.le_of_ble_eq_true rfl)); intro p hp)
  | ((with_reducible refine' ⟨_, _, rfl, .inl ?k, ?_⟩); (case k => walk_at "sq"))
  | ((with_reducible refine' ⟨_, _, rfl, .inr ?k, ?_⟩); (case k => walk_at "sq"))
  | (with_reducible refine ⟨_, rfl, ?_⟩)
  | (with_reducible refine ⟨_, _, rfl, rfl, ?_⟩)
  | (with_reducible refine ⟨_, _, rfl, ?_⟩))
local macro_rules | `(tactic| walk_at "wp") => `(tactic| repeat (walk_at "w1"))

section
variable {P : Program} {w : World} {K : PySem.W.Frag} {mg : Str → Option Value} {base : Heap}
def spRaw : Sp := fun vs H Q _ => ∃ (b : Addr) (n : Nat) (size most : Int), vs = [.ref b, .int size, .int most, .int 0] ∧ Bag H b n ∧ n ≤ 1000 ∧ 2 ≤ size ∧ size ≤ 64 ∧ 0 ≤ most ∧ most ≤ 400 ∧
  ∀ (t r p q : Addr) (xs ys : List V) (R : List Pc) (Ps : List (List W)) (tops : List Int) (H' : Hp), H' t = some (.tup [.ref r, .ref p, .ref q]) → H' r = some (.lst xs) → Pieces [] H' xs R → H' p = some (.lst ys) → Lists [] H' ys Ps → H' q = some (.lst (tops.map V.int)) →
    RawOk size R → PilesOk R Ps → (∀ x ∈ tops, -1 ≤ x ∧ x < R.length) → tops.length ≤ 61 → R.length ≤ most → Bag H' b (n + 200000) → Kp b H H' → Q (.ref t) H'
theorem ok_raw (T : Txt P w K mg) : FnOk P w K mg base CX0 3 T.f_raw T.fd_raw ["bag", "size", "most", "unlike"] spRaw := by
  have G_draw := ok_draw (base := base) T
  have G_worth := ok_worth (base := base) T
  refine T.F_raw.ok sc_raw (fun vs H Q E h => ?_) (fun cdv A outer s H vs Q E hr h => ?_)
  · obtain ⟨b, n, size, most, rfl, _⟩ := h
    rfl
  · obtain ⟨b, n, size, most, rfl, hb, hn, z0, z1, m0, m1, k⟩ := h
    refine ⟨_, (pss_cons (ps_set (i := 4) sc_raw.nd rfl (.inr rfl) (pe_call G_draw (hr.mono (by decide)) (by rfl) T.g_draw T.F_draw.kp T.b_draw .nil pass0 (pa_cons (pv 0) (pa_cons (pe_op op_add (pv 2) pe_int) pa_nil))))
      (pss_cons (ps_set (i := 5) sc_raw.nd rfl (.inl rfl) (pe_call G_draw (hr.mono (by decide)) (by rfl) T.g_draw T.F_draw.kp T.b_draw .nil pass0 (pa_cons (pv 0) (pa_cons pe_int pa_nil))))
      (pss_cons (ps_set (i := 6) sc_raw.nd rfl (.inr rfl) (pe_ix ix_list (pe_lst (pa_cons pe_int (pa_cons pe_int (pa_cons pe_int pa_nil)))) (pe_call G_draw (hr.mono (by decide)) (by rfl) T.g_draw T.F_draw.kp T.b_draw .nil pass0 (pa_cons (pv 0) (pa_cons pe_int pa_nil))) (fun _ _ => rfl)))
      (pss_cons (ps_set (i := 7) sc_raw.nd rfl (.inl rfl) (pe_lst pa_nil))
      (pss_cons (ps_set (i := 8) sc_raw.nd rfl (.inl rfl) (pe_lst pa_nil))
      (pss_cons (ps_for PassesOwn.never rfl (pi_range1 (by rfl) T.n_range (pa_cons (pv 4) pa_nil)) (pg_name (i := 9) sc_raw.nd rfl (.inl rfl)) (pss_cons (ps_set (i := 10) sc_raw.nd rfl (.inl rfl) (pe_op op_sub (pv 9) pe_int))
      (C8.pss_cut (ps_if (pt_cmpR op_eq (pv 5) pe_int (nomark _)) (pss_one (ps_set (i := 10) sc_raw.nd rfl (.inl rfl) (pe_op op_sub (pe_call G_draw (hr.mono (by decide)) (by rfl) T.g_draw T.F_draw.kp T.b_draw .nil pass0 (pa_cons (pv 0) (pa_cons (pe_op op_add (pv 9) pe_int) pa_nil))) pe_int))) pss_nil)
      (C8.pss_cut (ps_if (pt_cmpR op_eq (pv 5) pe_int (nomark _)) (pss_one (ps_set (i := 10) sc_raw.nd rfl (.inl rfl) (pe_callB (call_max2 rfl) (by rfl) T.n_max (by decide +kernel) (pa_cons (pe_un un_neg pe_int) (pa_cons (pe_op op_sub (pe_op op_sub (pv 9) pe_int) (pe_call G_draw (hr.mono (by decide)) (by rfl) T.g_draw T.F_draw.kp T.b_draw .nil pass0 (pa_cons (pv 0) (pa_cons pe_int pa_nil)))) pa_nil))))) pss_nil)
      (pss_cons (ps_set (i := 11) sc_raw.nd rfl (.inl rfl) (pe_ix ix_list (pe_lst (pa_cons pe_int (pa_cons (pe_callB (call_min2 rfl) (by rfl) T.n_min (by decide +kernel) (pa_cons (pv 1) (pa_cons pe_int pa_nil))) (pa_cons (pv 1) pa_nil)))) (pe_call G_draw (hr.mono (by decide)) (by rfl) T.g_draw T.F_draw.kp T.b_draw .nil pass0 (pa_cons (pv 0) (pa_cons pe_int pa_nil))) (fun _ _ => rfl)))
      (pss_cons (ps_setLc (i := 12) (own := [("j", 14)]) rfl sc_raw.nd rfl rfl (sw_true rfl rfl rfl (by decide +kernel)) (pi_range1 (by rfl) T.n_range (pa_cons (pe_op op_add pe_int (pe_call G_draw (hr.mono (by decide)) (by rfl) T.g_draw T.F_draw.kp T.b_draw .nil pass0 (pa_cons (pv 0) (pa_cons (pv 11) pa_nil)))) pa_nil)) (blkOk_by (N := ["bag", "size", "most", "unlike", "many", "shape", "few", "raw", "piles", "k", "under", "long", "worths", "below", "j"]) (sc := defScope s_raw) (by decide +kernel)) (fun _ _ _ _ _ => pg_name (i := 14) sc_raw.nd rfl (Or.inl rfl)) (fun _ _ _ _ _ => pts_nil) (fun _ _ _ _ _ => (pe_call G_worth (hr.mono (by decide)) (by rfl) T.g_worth T.F_worth.kp T.b_worth .nil pass0 (pa_cons (pv 0) (pa_cons (pv 6) pa_nil)))))
      (C8.pss_cut (ps_if (pt_cmpR op_eq (pv 3) pe_int (nomark _)) (pss_one (ps_asg (pe_tup (pa_cons pe_str (pa_cons (pe_op op_add pe_int (pv 9)) pa_nil))) (pg_sub (pv 12) pe_int set_list))) pss_nil)
      (pss_cons (ps_expr (pe_bm PySem.F.plainAttrs_list PySem.F.slot_list_append PySem.F.type_list_append mt_append (pv 7) (pa_cons (pe_tup (pa_cons (pv 10) (pa_cons (pv 12) pa_nil))) pa_nil)))
      (pss_cons (ps_set (i := 13) sc_raw.nd rfl (.inl rfl) (pe_lst pa_nil))
      (C8.pss_cut (ps_if (pt_cmpR op_ge (pv 10) pe_int (nomark _)) (pss_one (ps_set (i := 13) sc_raw.nd rfl (.inl rfl) (pe_ix ix_list (pv 8) (pv 10) (fun _ _ => rfl)))) pss_nil)
      (pss_one (ps_expr (pe_bm PySem.F.plainAttrs_list PySem.F.slot_list_append PySem.F.type_list_append mt_append (pv 8) (pa_cons (pe_op op_cat (pv 13) (pv 12)) pa_nil))))))))))))))
      (pss_one (ps_ret (pe_tup (pa_cons (pv 7) (pa_cons (pv 8) (pa_cons (pe_lc (own := [("k", 9)]) rfl sc_raw.nd (pi_range1 (by rfl) T.n_range (pa_cons (pe_call G_draw (hr.mono (by decide)) (by rfl) T.g_draw T.F_draw.kp T.b_draw .nil pass0 (pa_cons (pv 0) (pa_cons pe_int pa_nil))) pa_nil)) (blkOk_by (N := ["bag", "size", "most", "unlike", "many", "shape", "few", "raw", "piles", "k", "under", "long", "worths", "below", "j"]) (sc := defScope s_raw) (by decide +kernel)) (fun _ _ _ _ _ => pg_name (i := 9) sc_raw.nd rfl (Or.inl rfl)) (fun _ _ _ _ _ => pts_nil) (fun _ _ _ _ _ => (pe_op op_sub (pe_call G_draw (hr.mono (by decide)) (by rfl) T.g_draw T.F_draw.kp T.b_draw .nil pass0 (pa_cons (pv 0) (pa_cons (pe_op op_add (pv 4) pe_int) pa_nil))) pe_int))) pa_nil)))))))))))), ?_⟩
    rw [show L2.start ["bag", "size", "most", "unlike", "many", "shape", "few", "raw", "piles", "k", "under", "long", "worths", "below", "j"] [.ref b, .int size, .int most, .int 0] = [some (.ref b), some (.int size), some (.int most), some (.int 0), none, none, none, none, none, none, none, none, none, none, none] from rfl]
    try dsimp only [cxOf]
    walk_at "wp"
    refine ⟨b, n, _, rfl, hb, by omega, by omega, by omega, fun many H1 a0 a1 hb1 k1 => ?_⟩
    walk_at "wp"
    refine ⟨b, n + 1, _, rfl, hb1, by omega, by omega, by omega, fun shape H2 s0 s1 hb2 k2 => ?_⟩
    walk_at "wp"
    rename_i l hl
    have tl := same_new (o := .lst [.int 32, .int 4, .int 1]) hl
    refine ⟨b, n + 2, _, rfl, hb2.keep tl, by omega, by omega, by omega, fun fi H3 f0 f1 hb3 k3 => ?_⟩
    have hl3 := k3 _ _ (hb2.ne_new hl) upd_same
    obtain ⟨few, hfew, few0, few1⟩ : ∃ few : Int, atI [V.int 32, V.int 4, V.int 1] fi = some (V.int few) ∧ 0 < few ∧ few ≤ 1000 := by
      have cc : fi = 0 ∨ fi = 1 ∨ fi = 2 := by omega
      rcases cc with rfl | rfl | rfl <;> exact ⟨_, rfl, by decide, by decide⟩
    refine ixL (SqL.of hl3) hfew ?_
    have kk3 : Kp b H H3 := Kp.trans k1 (Kp.trans k2 (Kp.trans (Kp.new hl) k3))
    have hb3' : Bag H3 b (n + 3) := hb3
    walk_at "wp"
    rename_i r hr0 p hp0
    have tr := same_new (o := .lst []) hr0
    have tp := same_new (o := .lst []) hp0
    have hrb := hb3.ne_new hr0
    have hpb := (hb3.keep tr).ne_new hp0
    have hpr : p ≠ r := (ne_of_none upd_same hp0).symm
    have hb4 := hb3'.keep (tr.trans tp)
    have hr4 := tp _ _ (upd_same (H := H3) (a := r) (o := .lst []))
    have hp4 : upd (upd H3 r (.lst [])) p (.lst []) p = some (.lst []) := upd_same
    have kk4 : Kp b H (upd (upd H3 r (.lst [])) p (.lst [])) := Kp.trans kk3 (Kp.trans (Kp.new hr0) (Kp.new hp0))
    have hrH : H r = none := by
      cases q : H r with
      | none => rfl
      | some o => rw [kk3 _ _ hrb q] at hr0; cases hr0
    have hpH : H p = none := by
      cases q : H p with
      | none => rfl
      | some o => rw [tr _ _ (kk3 _ _ hpb q)] at hp0; cases hp0
    generalize upd (upd H3 r (.lst [])) p (.lst []) = H4 at hb4 hr4 hp4 kk4
    refine ⟨by omega, by omega, loopR (fun i σ H' => ∃ y9 y10 y11 y12 y13 y14 xs ys R Ps, σ = [some (.ref b), some (.int size), some (.int most), some (.int 0), some (.int many), some (.int shape), some (.int few), some (.ref r), some (.ref p), y9, y10, y11, y12, y13, y14] ∧
        Bag H' b (n + 3 + 400 * i) ∧ Kp b H H' ∧ H' r = some (.lst xs) ∧ Pieces [b, r, p] H' xs R ∧ R.length = i ∧ RawOk size R ∧ H' p = some (.lst ys) ∧ Lists [b, r, p] H' ys Ps ∧ PilesOk R Ps ∧ ∀ q ∈ Ps, q.length ≤ 64 * i)
      ⟨_, _, _, _, _, _, _, _, _, _, rfl, hb4, kk4, hr4, Pieces.nil, rfl, RawOk.nil, hp4, Paired.nil, PilesOk.nil, (fun _ h => nomatch h)⟩ ?_ ?_⟩
    · rintro i σ H5 hi ⟨y9, y10, y11, y12, y13, y14, xs, ys, R, Ps, rfl, hb5, k5, hr5, pc5, rl, rok, hp5, ls5, pok, plen⟩
      have hi4 : i < 400 := by omega
      rw [Int.zero_add]
      walk_at "wp"
      refine Wp.cut (fun σ' H' => ∃ u : Int, σ' = [some (.ref b), some (.int size), some (.int most), some (.int 0), some (.int many), some (.int shape), some (.int few), some (.ref r), some (.ref p), some (.int i), some (.int u), y11, y12, y13, y14] ∧ -1 ≤ u ∧ u < i ∧ Bag H' b (n + 3 + 400 * i + 1) ∧ Kp b H5 H') ?_ ?_
      · walk_at "wp"
        refine ite_ (fun c => ?_) (fun c => ?_)
        · walk_at "wp"
          refine ⟨b, n + 3 + 400 * i, _, rfl, hb5, by omega, by omega, by omega, fun v H6 v0 v1 hb6 k6 => ?_⟩
          walk_at "wp"
          exact ⟨by omega, by omega, hb6, k6⟩
        · walk_at "wp"
          exact ⟨by omega, by omega, hb5.mono (by omega), Kp.refl _ _⟩
      rintro σ' H6 ⟨u, rfl, u0, u1, hb6, k6⟩
      walk_at "wp"
      refine Wp.cut (fun σ' H' => ∃ u : Int, σ' = [some (.ref b), some (.int size), some (.int most), some (.int 0), some (.int many), some (.int shape), some (.int few), some (.ref r), some (.ref p), some (.int i), some (.int u), y11, y12, y13, y14] ∧ -1 ≤ u ∧ u < i ∧ Bag H' b (n + 3 + 400 * i + 2) ∧ Kp b H5 H') ?_ ?_
      · walk_at "wp"
        refine ite_ (fun c => ?_) (fun c => ?_)
        · walk_at "wp"
          refine ⟨b, n + 3 + 400 * i + 1, _, rfl, hb6, by omega, by omega, by omega, fun v H7 v0 v1 hb7 k7 => ?_⟩
          walk_at "wp"
          refine ⟨?_, ?_, hb7, Kp.trans k6 k7⟩
          · split <;> omega
          · split <;> omega
        · walk_at "wp"
          exact ⟨by omega, by omega, hb6.mono (by omega), k6⟩
      clear u u0 u1 hb6 k6
      rintro σ' H6 ⟨u, rfl, u0, u1, hb6, k6⟩
      walk_at "wp"
      rename_i l1 hl1
      have tl1 := same_new (o := .lst [V.int 1, V.int (if 3 < size then 3 else size), V.int size]) hl1
      refine ⟨b, n + 3 + 400 * i + 2, _, rfl, hb6.keep tl1, by omega, by omega, by omega, fun li H7 g0 g1 hb7 k7 => ?_⟩
      have hl7 := k7 _ _ (hb6.ne_new hl1) upd_same
      obtain ⟨lg, hlg, lg0, lg1⟩ : ∃ lg : Int, atI [V.int 1, V.int (if 3 < size then 3 else size), V.int size] li = some (V.int lg) ∧ 1 ≤ lg ∧ lg ≤ size := by
        have cc : li = 0 ∨ li = 1 ∨ li = 2 := by omega
        rcases cc with rfl | rfl | rfl
        · exact ⟨_, rfl, by decide, by omega⟩
        · refine ⟨_, rfl, ?_, ?_⟩ <;> split <;> omega
        · exact ⟨_, rfl, by omega, by omega⟩
      refine ixL (SqL.of hl7) hlg ?_
      have k7' : Kp b H5 H7 := Kp.trans k6 (Kp.trans (Kp.new hl1) k7)
      walk_at "wp"
      refine ⟨b, n + 3 + 400 * i + 3, _, rfl, hb7, by omega, by omega, by omega, fun cn H8 c0 c1 hb8 k8 => ?_⟩
      have k8' : Kp b H5 H8 := Kp.trans k7' k8
      walk_at "wp"
      refine ⟨by omega, by omega, fun D hD => loopCR (fun j H' => Bag H' b (n + 3 + 400 * i + 4 + 6 * j) ∧ Kp b (upd H8 D (.lst [])) (upd H' D (.lst [])) ∧ Tk H8 H' ∧ ∃ acc ws, H' D = some (.lst acc) ∧ Pile H' acc ws ∧ ws.length = j ∧ ∀ z ∈ ws, Wok z)
        ⟨hb8.keep (same_new hD), ?_, Tk.new hD, [], [], upd_same, Pile.nil, rfl, (fun _ h => nomatch h)⟩ ?_ ?_⟩
      · rw [upd_upd]
        exact Kp.refl _ _
      · rintro j H9 hj ⟨hb9, k9, t9, acc, ws, hD9, p9, wl, wok⟩
        have hj64 : j < 64 := by omega
        have hDb : D ≠ b := hb8.ne_new hD
        rw [Int.zero_add]
        walk_at "wp"
        refine ⟨b, n + 3 + 400 * i + 4 + 6 * j, few, rfl, hb9, by omega, few0, few1, fun v z H10 wz oz hb10 k10 => ?_⟩
        have tk10 : Tk H9 H10 := by obtain ⟨x, y, z, e, _⟩ := hb9; exact Kp.tk k10 e
        have hD10 := k10 _ _ hDb hD9
        walk_at "wp"
        refine ⟨acc, hD10, ?_, ?_, ?_, ?_, _, _, upd_same, (Pile.app (p9.keep tk10) (Pile.one wz)).keep (Tk.lst hD10), ?_, ?_⟩
        · rw [p9.len]; exact small1000 (by omega)
        · obtain ⟨x, y, z, e, rest⟩ := hb10
          exact Bag.mono ⟨x, y, z, by rw [upd_ne hDb.symm]; exact e, rest⟩ (by omega)
        · rw [upd_upd]
          refine Kp.trans k9 ?_
          intro a o na ha
          by_cases e : a = D
          · subst e; rw [upd_same] at ha ⊢; exact ha
          · rw [upd_ne e] at ha ⊢; exact k10 _ _ na ha
        · exact t9.trans (tk10.trans (Tk.lst hD10))
        · rw [List.length_append, wl] <;> rfl
        · intro x hx
          rcases List.mem_append.mp hx with hx | hx
          · exact wok x hx
          · rw [List.mem_singleton.mp hx]; exact oz
      · rintro H9 ⟨hb9, k9, t9, acc, ws, hD9, p9, wl, wok⟩
        have hDb : D ≠ b := hb8.ne_new hD
        have r8 := k8' _ _ hrb hr5
        have p8 := k8' _ _ hpb hp5
        have hDr : D ≠ r := (ne_of_none r8 hD).symm
        have hDp : D ≠ p := (ne_of_none p8 hD).symm
        have k59 : Kp b H5 H9 := by
          intro a o na ha
          have h8 := k8' a o na ha
          have nD := ne_of_none h8 hD
          have h9 := k9 a o na (by rw [upd_ne nD]; exact h8)
          rw [upd_ne nD] at h9
          exact h9
        have ks59 : Ks [b, r, p] H5 H9 := by
          obtain ⟨x, y, z, e, _⟩ := hb5
          exact Ks.kp k59 e List.mem_cons_self
        have hr9 := k59 _ _ hrb hr5
        have hp9 := k59 _ _ hpb hp5
        have pc9 := pc5.keep ks59
        have ls9 := ls5.keep ks59
        have kp9 := Kp.trans k5 k59
        have hDS : D ∉ [b, r, p] := by
          intro h
          rcases List.mem_cons.mp h with e | h
          · exact hDb e
          rcases List.mem_cons.mp h with e | h
          · exact hDr e
          exact hDp (List.mem_singleton.mp h)
        have lb9 : H9 b ≠ none := by
          obtain ⟨x, y, z, e, _⟩ := hb9
          rw [e]; exact fun h => nomatch h
        walk_at "wp"
        refine Wp.cut (fun σ' H' => σ' = [some (.ref b), some (.int size), some (.int most), some (.int 0), some (.int many), some (.int shape), some (.int few), some (.ref r), some (.ref p), some (.int i), some (.int u), some (.int lg), some (.ref D), y13, y14] ∧ H' = H9) ?_ ?_
        · walk_at "wp"
          refine ite_ (fun c => absurd (V.int.inj c) (by decide)) (fun c => ?_)
          walk_at "wp"
          exact ⟨rfl, rfl⟩
        rintro σ' H' ⟨rfl, rfl⟩
        walk_at "wp"
        rename_i t ht
        have st := same_new (o := .tup [.int u, .ref D]) ht
        refine app_ (st _ _ hr9) ?_ ?_
        · rw [pc5.len]; exact small1000 (by omega)
        have pc10 : IsPc [b, r, p] (upd H' t (.tup [.int u, .ref D])) (.ref t) (u, ws) := ⟨t, D, acc, rfl, upd_same, st _ _ hD9, p9.keep (Same.tk st), hDS⟩
        have ksr : Ks [b, r, p] (upd H' t (.tup [.int u, .ref D])) (upd (upd H' t (.tup [.int u, .ref D])) r (.lst (xs ++ [.ref t]))) := Ks.upd (st _ _ hr9) (by simp)
        have ks9 : Ks [b, r, p] H' (upd (upd H' t (.tup [.int u, .ref D])) r (.lst (xs ++ [.ref t]))) := (Ks.same st).trans ksr
        have pcs : Pieces [b, r, p] (upd (upd H' t (.tup [.int u, .ref D])) r (.lst (xs ++ [.ref t]))) (xs ++ [.ref t]) (R ++ [(u, ws)]) := pair_app (pc9.keep ks9) (Paired.cons (pc10.keep ksr) Paired.nil)
        have hr11 : upd (upd H' t (.tup [.int u, .ref D])) r (.lst (xs ++ [.ref t])) r = some (.lst (xs ++ [.ref t])) := upd_same
        have hp11 : upd (upd H' t (.tup [.int u, .ref D])) r (.lst (xs ++ [.ref t])) p = some (.lst ys) := by
          rw [upd_ne hpr]
          exact st _ _ hp9
        have ls11 := ls9.keep ks9
        have hD11 := ks9.keep _ _ hDS hD9
        have p11 := p9.keep ks9.tk
        have hb11 : Bag (upd (upd H' t (.tup [.int u, .ref D])) r (.lst (xs ++ [.ref t]))) b (n + 3 + 400 * i + 4 + 6 * (1 + cn).toNat) := Bag.upd (hb9.keep st) hrb
        have kp11 : Kp b H (upd (upd H' t (.tup [.int u, .ref D])) r (.lst (xs ++ [.ref t]))) := Kp.updNew (Kp.trans kp9 (Kp.new ht)) hrH
        generalize upd (upd H' t (.tup [.int u, .ref D])) r (.lst (xs ++ [.ref t])) = H11 at pcs hr11 hp11 ls11 hD11 p11 hb11 kp11
        walk_at "wp"
        rename_i lb hlb
        have sb := same_new (o := .lst []) hlb
        refine Wp.cut (fun σ' H'' => ∃ lb' vs, σ' = [some (.ref b), some (.int size), some (.int most), some (.int 0), some (.int many), some (.int shape), some (.int few), some (.ref r), some (.ref p), some (.int i), some (.int u), some (.int lg), some (.ref D), some (.ref lb'), y14] ∧ H'' = upd H11 lb (.lst []) ∧ upd H11 lb (.lst []) lb' = some (.lst vs) ∧ Pile (upd H11 lb (.lst [])) vs (belowM Ps u)) ?_ ?_
        · walk_at "wp"
          refine ite_ (fun c => ?_) (fun c => ?_)
          · have hu : u.toNat < Ps.length := by rw [pok.1, rl]; omega
            obtain ⟨y, hy, l, vs, rfl, hl12, p12, _⟩ := pair_at (ls11.keep (Ks.same sb)) (List.getElem?_eq_getElem hu)
            walk_at "wp"
            refine ixL (SqL.of (sb _ _ hp11)) (atI_of (show u = (u.toNat : Int) by omega) hy) ?_
            walk_at "wp"
            refine ⟨_, _, rfl, rfl, hl12, ?_⟩
            unfold belowM
            rw [if_pos c, List.getD_eq_getElem?_getD, List.getElem?_eq_getElem hu]
            exact p12
          · walk_at "wp"
            refine ⟨_, _, rfl, rfl, upd_same, ?_⟩
            unfold belowM
            rw [if_neg c]
            exact Pile.nil
        rintro σ' H'' ⟨lb', vs, rfl, rfl, hlb', plb⟩
        have hr12 := sb _ _ hr11
        have hp12 := sb _ _ hp11
        have hD12 := sb _ _ hD11
        have p12 := p11.keep (Same.tk sb)
        have pcs12 := pcs.keep (Ks.same sb)
        have ls12 := ls11.keep (Ks.same sb)
        have hb12 := hb11.keep sb
        have kp12 := Kp.trans kp11 (Same.kp (b := b) sb)
        generalize upd H11 lb (.lst []) = H12 at hlb' plb hr12 hp12 hD12 p12 pcs12 ls12 hb12 kp12
        have blen : (belowM Ps u).length ≤ 64 * i := by
          unfold belowM
          split
          · rw [List.getD_eq_getElem?_getD]
            cases e : Ps[u.toNat]? with
            | none => exact Nat.zero_le _
            | some q => exact plen q (List.mem_of_getElem? e)
          · exact Nat.zero_le _
        have wlen : ws.length ≤ 64 := by rw [wl]; omega
        walk_at "wp"
        refine cat_ hlb' hD12 ?_ fun c hc => ?_
        · rw [plb.len, p12.len]
          exact Nat.le_of_lt (Nat.lt_of_le_of_lt (show _ ≤ 100000 by omega) (by decide))
        have sc := same_new (o := .lst (vs ++ acc)) hc
        walk_at "wp"
        refine app_ (sc _ _ hp12) ?_ ?_
        · rw [ls12.len, pok.1, rl]; exact small1000 (by omega)
        walk_at "wp"
        have hcS : c ∉ [b, r, p] := by
          intro h
          rcases List.mem_cons.mp h with e | h
          · obtain ⟨x, y, z, e2, _⟩ := hb12
            rw [e, e2] at hc; cases hc
          rcases List.mem_cons.mp h with e | h
          · rw [e, hr12] at hc; cases hc
          · rw [List.mem_singleton.mp h, hp12] at hc; cases hc
        have ksp : Ks [b, r, p] (upd H12 c (.lst (vs ++ acc))) (upd (upd H12 c (.lst (vs ++ acc))) p (.lst (ys ++ [.ref c]))) := Ks.upd (sc _ _ hp12) (by simp)
        have ks12 := (Ks.same (S := [b, r, p]) sc).trans ksp
        have lsc : IsLs [b, r, p] (upd H12 c (.lst (vs ++ acc))) (.ref c) (belowM Ps u ++ ws) := ⟨c, _, rfl, upd_same, (Pile.app plb p12).keep (Same.tk sc), hcS⟩
        refine ⟨_, _, _, _, _, _, _, _, R ++ [(u, ws)], Ps ++ [belowM Ps u ++ ws], rfl, ?_, ?_, ?_, pcs12.keep ks12, ?_, ?_, upd_same, pair_app (ls12.keep ks12) (Paired.cons (lsc.keep ksp) Paired.nil), ?_, ?_⟩
        · exact Bag.mono (Bag.upd (hb12.keep sc) hpb) (by omega)
        · exact Kp.updNew (Kp.trans kp12 (Kp.new hc)) hpH
        · rw [upd_ne hpr.symm]
          exact sc _ _ hr12
        · rw [List.length_append, rl] <;> rfl
        · exact rok.app u0 (by rw [rl]; exact u1) (by show 1 ≤ ws.length; rw [wl]; omega) (by show (ws.length : Int) ≤ size; rw [wl]; omega) wok
        · exact pok.app rok (p := (u, ws)) (by show u < _; rw [rl]; exact u1)
        · intro q hq
          rcases List.mem_append.mp hq with hq | hq
          · have := plen q hq
            omega
          · rw [List.mem_singleton.mp hq, List.length_append]
            omega
    · rintro σ H5 ⟨y9, y10, y11, y12, y13, y14, xs, ys, R, Ps, rfl, hb5, k5, hr5, pc5, rl, rok, hp5, ls5, pok, plen⟩
      have hm400 : many.toNat ≤ 400 := by omega
      walk_at "wp"
      refine ⟨b, n + 3 + 400 * many.toNat, _, rfl, hb5, by omega, by omega, by omega, fun tm H6 t0 t1 hb6 k6 => ?_⟩
      walk_at "wp"
      have k56 : Kp b H5 H6 := k6
      refine ⟨by omega, by omega, fun D hD => loopCR (fun j H' => Bag H' b (n + 3 + 400 * many.toNat + 1 + j) ∧ Kp b (upd H6 D (.lst [])) (upd H' D (.lst [])) ∧ Tk H6 H' ∧ ∃ tops : List Int, H' D = some (.lst (tops.map V.int)) ∧ tops.length = j ∧ ∀ x ∈ tops, -1 ≤ x ∧ x < many)
        ⟨hb6.keep (same_new hD), ?_, Tk.new hD, [], upd_same, rfl, (fun _ h => nomatch h)⟩ ?_ ?_⟩
      · rw [upd_upd]
        exact Kp.refl _ _
      · rintro j H9 hj ⟨hb9, k9, t9, tops, hD9, tl, tok⟩
        have hj64 : j < 7 := by omega
        have hDb : D ≠ b := hb6.ne_new hD
        rw [Int.zero_add]
        walk_at "wp"
        refine ⟨b, n + 3 + 400 * many.toNat + 1 + j, _, rfl, hb9, by omega, by omega, by omega, fun v H10 v0 v1 hb10 k10 => ?_⟩
        have tk10 : Tk H9 H10 := by obtain ⟨x, y, z, e, _⟩ := hb9; exact Kp.tk k10 e
        have hD10 := k10 _ _ hDb hD9
        walk_at "wp"
        refine ⟨_, hD10, ?_, ?_, ?_, ?_, tops ++ [v - 1], ?_, ?_, ?_⟩
        · rw [List.length_map]; exact small1000 (by omega)
        · exact Bag.upd hb10 hDb
        · rw [upd_upd]
          refine Kp.trans k9 ?_
          intro a o na ha
          by_cases e : a = D
          · subst e; rw [upd_same] at ha ⊢; exact ha
          · rw [upd_ne e] at ha ⊢; exact k10 _ _ na ha
        · exact t9.trans (tk10.trans (Tk.lst hD10))
        · rw [upd_same, List.map_append] <;> rfl
        · rw [List.length_append, tl] <;> rfl
        · intro x hx
          rcases List.mem_append.mp hx with hx | hx
          · exact tok x hx
          · rw [List.mem_singleton.mp hx]; omega
      · rintro H9 ⟨hb9, k9, t9, tops, hD9, tl, tok⟩
        have hDb : D ≠ b := hb6.ne_new hD
        have k59 : Kp b H5 H9 := by
          intro a o na ha
          have h8 := k56 a o na ha
          have nD := ne_of_none h8 hD
          have h9 := k9 a o na (by rw [upd_ne nD]; exact h8)
          rw [upd_ne nD] at h9
          exact h9
        have ks59 : Ks [b, r, p] H5 H9 := by
          obtain ⟨x, y, z, e, _⟩ := hb5
          exact Ks.kp k59 e List.mem_cons_self
        have hr9 := k59 _ _ hrb hr5
        have hp9 := k59 _ _ hpb hp5
        have pc9 := (pc5.keep ks59).less (S' := []) (fun _ h => nomatch h)
        have ls9 := (ls5.keep ks59).less (S' := []) (fun _ h => nomatch h)
        walk_at "wp"
        rename_i t ht
        have st := same_new (o := .tup [.ref r, .ref p, .ref D]) ht
        refine k t r p D xs ys R Ps tops _ upd_same (st _ _ hr9) (pc9.keep (Ks.same st)) (st _ _ hp9) (ls9.keep (Ks.same st)) (st _ _ hD9) rok pok ?_ ?_ ?_ ((hb9.keep st).mono (by omega)) (Kp.trans k5 (Kp.trans k59 (Kp.new ht)))
        · rw [rl]
          intro x hx
          have := tok x hx
          omega
        · rw [tl]; omega
        · rw [rl]; omega

end
end K08

namespace K08
open PySem PySem.Spec PyProof.Rows L2 Wp Wq Wr Wn
local macro_rules | `(tactic| walk_at "ne") => `(tactic| first
  | assumption
  | (refine Ne.symm ?_; assumption)
  | exact ne_of_none (by assumption) (by assumption)
  | exact (ne_of_none (by assumption) (by assumption)).symm
  | exact ne_of (by assumption) (by assumption) (by intro q; cases q))
local macro_rules | `(tactic| walk_at "hp") => `(tactic| first
  | assumption
  | exact upd_same
  | (refine (upd_ne ?_).trans ?_; (walk_at "ne"); (walk_at "hp")))
local macro_rules | `(tactic| walk_at "sq") => `(tactic| first
  | assumption
  | exact SqL.of (by walk_at "hp")
  | exact SqT.of (by walk_at "hp"))
local macro_rules | `(tactic| walk_at "kind") => `(tactic| first
  | assumption
  | exact Kind.int _
  | exact Kind.str _
  | exact Kind.bl _
  | exact Kind.non
  | exact Kind.tup (by walk_at "hp")
  | exact Kind.lst (by walk_at "hp")
  | exact Kind.dK (by walk_at "hp"))
local macro_rules | `(tactic| walk_at "w1") => `(tactic| first
  | (with_reducible refine Wp.seq ?_)
  | (with_reducible refine Wp.nx_mk ?_)
  | (with_reducible refine Wp.rt_mk ?_)
  | (with_reducible refine Wp.bk_mk ?_)
  | (with_reducible refine Wp.ct_mk ?_)
  | (with_reducible refine Wp.next ?_)
  | (with_reducible refine Wp.asg ?_)
  | ((with_reducible refine' Wp.gname ?e ?_); (case e => (try dsimp only [List.set, L2.wipe, List.map_cons, List.map_nil]); (try exact rfl)))
  | (with_reducible refine Wp.gsub ?_)
  | (with_reducible refine Wp.ret ?_)
  | (with_reducible refine Wp.retN ?_)
  | (with_reducible refine Wp.drop ?_)
  | (with_reducible refine Wp.dput ?_)
  | (with_reducible refine Wp.ifs ?_)
  | ((with_reducible refine' Wp.var ?h ?_); (case h => exact rfl))
  | (with_reducible refine Wp.con ?_)
  | (with_reducible refine Wp.op ?_)
  | (with_reducible refine Wp.un ?_)
  | (with_reducible refine Wp.cb ?_)
  | (with_reducible refine Wp.anil ?_)
  | (with_reducible refine Wp.acons ?_)
  | (with_reducible refine Wp.call ?_)
  | (with_reducible refine Wp.test ?_)
  | (with_reducible refine Wp.tb_ ?_)
  | (with_reducible refine Wp.and_ ?_)
  | (with_reducible refine Wp.or_ ?_)
  | (with_reducible refine Wp.not_ ?_)
  | (with_reducible refine Wp.andV ?_)
  | (with_reducible refine Wp.orV ?_)
  | (with_reducible refine Wp.notV ?_)
  | (with_reducible refine Wp.rI0_ ?_)
  | (with_reducible refine Wp.rU_ ?_)
  | ((with_reducible refine Wp.rEq_ ?k ?_); (case k => exact rfl))
  | ((with_reducible refine Wp.rNe_ ?k ?_); (case k => exact rfl))
  | (with_reducible refine Wp.gcons ?_)
  | (with_reducible refine Wp.gnil ?_)
  | ((with_reducible refine' Wp.gtup ?h ?e ?_); (case h => walk_at "sq"); (case e => exact rfl))
  | (with_reducible refine Wp.sl ?_)
  | (with_reducible refine Wp.part ?_)
  | (with_reducible refine Wp.nopart ?_)
  | (with_reducible refine Wp.ifE ?_)
  | (with_reducible refine Wp.bm0 ?_)
  | (with_reducible refine Wp.bm ?_)
  | (with_reducible refine Wp.lcR1 ?_)
  | (with_reducible refine Wp.lcR2 ?_)
  | (with_reducible refine Wp.lcL ?_)
  | (with_reducible refine Wp.chain ?_)
  | (with_reducible refine Wp.lc2V ?_)
  | (with_reducible refine Wp.piL ?_)
  | (with_reducible refine Wp.yes ?_)
  | (with_reducible refine Wp.dinI ?_)
  | (with_reducible refine Wp.dninI ?_)
  | (with_reducible refine Wp.dget ?_)
  | ((with_reducible refine' ⟨?k, ?_⟩); (case k => show L2.wipe _ _ = L2.wipe _ _; exact rfl))
  | (with_reducible refine Wp.forR1 ?_)
  | (with_reducible refine Wp.forR2 ?_)
  | (with_reducible refine Wp.forL ?_)
  | (with_reducible refine Wp.forT ?_)
  | ((with_reducible refine' ⟨?k, ?_⟩); (case k => exact Wp.tyvL (by walk_at "hp")))
  | ((with_reducible refine' Wp.rev_ ?k ?_); (case k => walk_at "hp"))
  | ((with_reducible refine' Wp.isi ?k ?h ?_); (case k => walk_at "kind"); (case h => decide))
  | ((with_reducible refine' Wp.typ ?k ?_); (case k => walk_at "kind"))
  | (with_reducible refine Wp.slS ?k ?_; (case k => assumption))
  | (with_reducible refine iteT ?_)
  | (with_reducible refine iteF ?_)
  | (with_reducible refine Wp.pcons ?_)
  | (with_reducible refine Wp.pnil ?_)
  | ((with_reducible refine' Wp.iteBnT ?h ?_); (case h => show isB _ _ = false; decide))
  | ((with_reducible refine' Wp.iteBnF ?h ?_); (case h => show isB _ _ = true; decide))
  | ((with_reducible refine' Wp.iteBt ?h ?_); (case h => show isB _ _ = true; decide))
  | ((with_reducible refine' Wp.iteBf ?h ?_); (case h => show isB _ _ = false; decide))
  | (with_reducible refine Wp.iteT' ?_)
  | (with_reducible refine Wp.iteF' ?_)
  | (with_reducible refine Wp.rNT_ ?_)
  | ((with_reducible refine Wp.lst ?_))
  | ((with_reducible refine Wp.tup ?_))
  | ((with_reducible refine' Wp.ixL ?h ?e ?_); (case h => walk_at "sq"); (case e => exact rfl))
  | ((with_reducible refine' Wp.ixT ?h ?e ?_); (case h => walk_at "sq"); (case e => exact rfl))
  | ((with_reducible refine' Wp.setL ?h ?e ?_); (case h => walk_at "hp"); (case e => exact rfl))
  | ((with_reducible refine Wp.rI_ ?k ?_); (case k => first | (show (0:Int) < _; omega) | (show CPow _ _; refine' ⟨?_, ?_, ?_⟩ <;> omega) | (show CDiv _ _; refine' ⟨?_, ?_⟩ <;> omega) | (show CMul _ _; refine' Or.inl ⟨?_, ?_⟩ <;> omega) | (show CMul _ _; refine' Or.inr ⟨?_, ?_⟩ <;> first | omega | decide) | (show CDivW _ _; refine' wide_div (b := 240) ?_ ?_ ?_ ?_ <;> first | omega | decide)))
  | ((with_reducible refine ⟨?k, ?_⟩); (case k => first | exact Nat.zero_le _ | (exact Nat.le_of_ble_eq_true rfl)); intro p hp)
  | ((with_reducible refine' ⟨_, _, rfl, .inl ?k, ?_⟩); (case k => walk_at "sq"))
  | ((with_reducible refine' ⟨_, _, rfl, .inr ?k, ?_⟩); (case k => walk_at "sq"))
  | (with_reducible refine ⟨_, rfl, ?_⟩)
  | (with_reducible refine ⟨_, _, rfl, rfl, ?_⟩)
  | (with_reducible refine ⟨_, _, rfl, ?_⟩))
local macro_rules | `(tactic| walk_at "wp") => `(tactic| repeat (walk_at "w1"))

section
variable {P : Program} {w : World} {K : PySem.W.Frag} {mg : Str → Option Value} {base : Heap}
def spNumbered : Sp := fun vs H Q _ => ∃ (r t : Addr) (xs : List V) (size : Int) (R : List Pc) (tops : List Int), vs = [.ref r, .ref t] ∧ H r = some (.lst xs) ∧ Pieces [] H xs R ∧ H t = some (.lst (tops.map V.int)) ∧
  RawOk size R ∧ (∀ x ∈ tops, -1 ≤ x ∧ x < R.length) ∧ tops.length ≤ 900 ∧ R.length ≤ 900 ∧ ∀ v H', IsPap [] H' v (numberedM R tops) → (∃ t p q, v = .ref t ∧ H' t = some (.tup [.ref p, .ref q]) ∧ H q = none) → Same H H' → Q v H'
theorem ok_numbered (T : Txt P w K mg) : FnOk P w K mg base CX0 1 T.f_numbered T.fd_numbered ["raw", "tops"] spNumbered := by
  refine T.F_numbered.ok sc_numbered (fun vs H Q E h => ?_) (fun cdv A outer s H vs Q E hr h => ?_)
  · obtain ⟨r, t, xs, size, R, tops, rfl, _⟩ := h
    rfl
  · obtain ⟨r, t, xs, size, R, tops, rfl, hr0, pc0, ht0, rok, tok, tl, rl, k⟩ := h
    refine ⟨_, (pss_cons (ps_set (i := 2) sc_numbered.nd rfl (.inr rfl) (pe_disp (pps_cons (pe_un un_neg pe_int) (pe_un un_neg pe_int) pps_nil) (by rfl) (by rfl) (fun z => by cases z) (by decide)))
      (pss_cons (ps_set (i := 3) sc_numbered.nd rfl (.inl rfl) (pe_lst pa_nil))
      (pss_cons (ps_for PassesOwn.never rfl (pi_list (pv 1)) (pg_name (i := 4) sc_numbered.nd rfl (.inl rfl)) (pss_cons (ps_set (i := 5) sc_numbered.nd rfl (.inl rfl) (pv 4))
      (pss_one (ps_while PassesOwn.never (pt_cmp (pc_dnotin (hu_of hr) (pv 5) (pv 2))) (pss_cons (ps_dput (hu_of hr) (pv 2) (pv 5) (pe_callB call_len_seq (by rfl) T.n_len (by decide +kernel) (pa_cons (pv 3) pa_nil)) rfl)
      (pss_cons (ps_expr (pe_bm PySem.F.plainAttrs_list PySem.F.slot_list_append PySem.F.type_list_append mt_append (pv 3) (pa_cons (pv 5) pa_nil)))
      (pss_one (ps_set (i := 5) sc_numbered.nd rfl (.inl rfl) (pe_ix ix_tup (pe_ix ix_list (pv 0) (pv 5) (fun _ _ => rfl)) pe_int (fun _ _ => rfl))))))))))
      (pss_one (ps_ret (pe_tup (pa_cons (pe_lc (own := [("at", 5)]) rfl sc_numbered.nd (pi_list (pv 3)) (blkOk_by (N := ["raw", "tops", "places", "order", "top", "at"]) (sc := defScope s_numbered) (by decide +kernel)) (fun _ _ _ _ _ => pg_name (i := 5) sc_numbered.nd rfl (Or.inl rfl)) (fun _ _ _ _ _ => pts_nil) (fun _ _ _ _ _ => (pe_tup (pa_cons (pe_dget (hu_of hr) (pv 2) (pe_ix (show IxR _ (rIxT K) from ix_tup) (pe_ix (show IxR _ (rIxL K) from ix_list) (pv 0) (pv 5) (fun _ _ => rfl)) pe_int (fun _ _ => rfl)) (fun _ _ => rfl)) (pa_cons (pe_ix (show IxR _ (rIxT K) from ix_tup) (pe_ix (show IxR _ (rIxL K) from ix_list) (pv 0) (pv 5) (fun _ _ => rfl)) pe_int (fun _ _ => rfl)) pa_nil))))) (pa_cons (pe_lc (own := [("top", 4)]) rfl sc_numbered.nd (pi_list (pv 1)) (blkOk_by (N := ["raw", "tops", "places", "order", "top", "at"]) (sc := defScope s_numbered) (by decide +kernel)) (fun _ _ _ _ _ => pg_name (i := 4) sc_numbered.nd rfl (Or.inl rfl)) (fun _ _ _ _ _ => pts_nil) (fun _ _ _ _ _ => (pe_dget (hu_of hr) (pv 2) (pv 4) (fun _ _ => rfl)))) pa_nil)))))))), ?_⟩
    rw [show L2.start ["raw", "tops", "places", "order", "top", "at"] [.ref r, .ref t] = [some (.ref r), some (.ref t), none, none, none, none] from rfl]
    try dsimp only [cxOf]
    walk_at "wp"
    intro d hd
    walk_at "wp"
    refine ⟨upd_same, [(.inl (-1), .int (-1))], rfl, by decide, ?_⟩
    rw [upd_upd]
    have sd := same_new (o := .dK (mergeK [] [(.inl (-1), .int (-1))])) hd
    walk_at "wp"
    rename_i ol hol
    have so := sd.trans (same_new (o := .lst []) hol)
    have hd2 : upd (upd H d (.dK (mergeK [] [(.inl (-1), .int (-1))]))) ol (.lst []) d = some (.dK (placesK [])) := (same_new (o := .lst []) hol) _ _ upd_same
    have ho2 : upd (upd H d (.dK (mergeK [] [(.inl (-1), .int (-1))]))) ol (.lst []) ol = some (.lst (([] : List Int).map V.int)) := upd_same
    have hdo : d ≠ ol := ne_of_none upd_same hol
    have holH : H ol = none := sd.free hol
    generalize upd (upd H d (.dK (mergeK [] [(.inl (-1), .int (-1))]))) ol (.lst []) = H2 at so hd2 ho2
    have htS : ∀ {HH : Hp}, Same H HH → SqL K HH t (tops.map V.int) := fun s => SqL.of (s _ _ ht0)
    refine ⟨⟨_, htS so⟩, loopL (xs := tops.map V.int) (fun i σ H' => ∃ y4 y5 o, σ = [some (.ref r), some (.ref t), some (.ref d), some (.ref ol), y4, y5] ∧ o = (tops.take i).foldl (fun o t => walkM R (t + 1).toNat o t) [] ∧ H' d = some (.dK (placesK o)) ∧ H' ol = some (.lst (o.map V.int)) ∧ Same H H' ∧ OrdOk R o)
      ⟨_, _, _, rfl, rfl, hd2, ho2, so, OrdOk.nil⟩ (fun i σ H' _ ⟨_, _, _, _, _, _, _, s, _⟩ => htS s) ?_ ?_⟩
    · rintro i x σ H3 hi ⟨y4, y5, o, rfl, eo, hd3, ho3, s3, ook⟩
      obtain ⟨top, htop, rfl⟩ : ∃ top, tops[i]? = some top ∧ x = .int top := by
        rw [List.getElem?_map] at hi
        cases e : tops[i]? with
        | none => rw [e] at hi; cases hi
        | some v => rw [e] at hi; exact ⟨v, rfl, (Option.some.inj hi).symm⟩
      have tb := tok top (List.mem_of_getElem? htop)
      have etgt : (tops.take (i + 1)).foldl (fun o t => walkM R (t + 1).toNat o t) [] = walkM R (top + 1).toNat o top := by
        rw [List.take_add_one, htop, List.foldl_append, ← eo]
        rfl
      walk_at "wp"
      refine Wp.whileW (fun m σ H' => ∃ (a : Int) (o' : List Int), m = (a + 1).toNat ∧ σ = [some (.ref r), some (.ref t), some (.ref d), some (.ref ol), some (.int top), some (.int a)] ∧ -1 ≤ a ∧ a < R.length ∧ walkM R (a + 1).toNat o' a = walkM R (top + 1).toNat o top ∧
          H' d = some (.dK (placesK o')) ∧ H' ol = some (.lst (o'.map V.int)) ∧ Same H H' ∧ OrdOk R o') (top + 1).toNat ⟨top, o, rfl, rfl, tb.1, tb.2, rfl, hd3, ho3, s3, ook⟩ ?_
      rintro m σ H4 ⟨a, o', rfl, rfl, a0, a1, ew, hd4, ho4, s4, ook4⟩
      walk_at "wp"
      refine ⟨d, _, rfl, DGet.k (k := Sum.inl a) hd4, ?_⟩
      rw [places_val]
      walk_at "wp"
      have olen : o'.length ≤ R.length := by
        have h := ook4
        exact nodup_bound h.nd h.rng
      by_cases c : a = -1 ∨ a ∈ o'
      · rw [if_pos c]
        walk_at "wp"
        rw [walk_end c] at ew
        refine ⟨_, _, _, rfl, ?_, hd4, ho4, s4, ook4⟩
        rw [etgt, ← ew]
      · rw [if_neg c]
        have c1 : a ≠ -1 := fun e => c (.inl e)
        have c2 : a ∉ o' := fun e => c (.inr e)
        obtain ⟨u0, u1, _⟩ := pcAt_ok rok (a := a) (by omega) a1
        walk_at "wp"
        refine ⟨fun σ' H' => ∃ m', m' < (a + 1).toNat ∧ ∃ (a : Int) (o' : List Int), m' = (a + 1).toNat ∧ σ' = [some (.ref r), some (.ref t), some (.ref d), some (.ref ol), some (.int top), some (.int a)] ∧ -1 ≤ a ∧ a < R.length ∧ walkM R (a + 1).toNat o' a = walkM R (top + 1).toNat o top ∧
          H' d = some (.dK (placesK o')) ∧ H' ol = some (.lst (o'.map V.int)) ∧ Same H H' ∧ OrdOk R o', fun _ _ h => h, ?_⟩
        walk_at "wp"
        refine ⟨d, _, rfl, DPut.k (k := Sum.inl a) hd4 ?_, ?_⟩
        · show (ents 0 o').length + 1 < sizeLine
          rw [ents_len]; exact small1000 (by omega)
        rw [show ((o'.map V.int).length : Int) = (o'.length : Int) by rw [List.length_map], places_put c1 c2]
        have ho5 : upd H4 d (.dK (placesK (o' ++ [a]))) ol = some (.lst (o'.map V.int)) := by
          rw [upd_ne hdo.symm]; exact ho4
        walk_at "wp"
        refine app_ ho5 ?_ ?_
        · rw [List.length_map]; exact small1000 (by omega)
        have s6 : Same H (upd (upd H4 d (.dK (placesK (o' ++ [a])))) ol (.lst (o'.map V.int ++ [.int a]))) := by
          intro q z hq
          rw [upd_ne (ne_of_none hq holH), upd_ne (ne_of_none hq hd)]
          exact s4 _ _ hq
        have hr6 := s6 _ _ hr0
        have hpc := pcAt_some (R := R) (a := a) (by omega) a1
        obtain ⟨vx, hvx, tx, lx, vsx, rfl, htx, hlx, px, _⟩ := pair_at (pc0.keep (Ks.same s6)) hpc
        walk_at "wp"
        refine ixL (SqL.of hr6) (atI_of (show a = (a.toNat : Int) by omega) hvx) ?_
        walk_at "wp"
        refine ⟨((pcAt R a).1 + 1).toNat, by omega, _, o' ++ [a], rfl, rfl, u0, by omega, ?_, ?_, ?_, s6, ook4.app (by omega) a1 c2⟩
        · rw [← ew]
          exact (walk_step rok a0 a1 c1 c2).symm
        · rw [upd_ne hdo, upd_same]
        · rw [upd_same, List.map_append] <;> rfl
    · rintro σ H3 ⟨y4, y5, o, rfl, eo, hd3, ho3, s3, ook⟩
      rw [List.length_map, List.take_of_length_le (Nat.le_refl _)] at eo
      have eo' : o = orderM R tops := eo
      subst eo'
      clear eo
      obtain ⟨_, near, ttop⟩ := order_all rok tok
      have olen : (orderM R tops).length ≤ R.length := nodup_bound ook.nd ook.rng
      have hnum : numberedM R tops = ((orderM R tops).map (fun a => (placeM (orderM R tops) (pcAt R a).1, (pcAt R a).2)), tops.map (placeM (orderM R tops))) := rfl
      rw [hnum] at k
      generalize orderM R tops = o at hd3 ho3 ook near ttop olen k
      have pl : ∀ {u : Int}, u = -1 ∨ u ∈ o → valV (placesK o) (.inl u) = some (.int (placeM o u)) := fun h => by rw [places_val, if_pos h]
      walk_at "wp"
      refine ⟨⟨_, SqL.of ho3⟩, fun D hD => ?_⟩
      refine loopCL (xs := o.map V.int) (fun j H' => Same H3 H' ∧ ∃ acc, H' D = some (.lst acc) ∧ Pieces [D] H' acc ((o.take j).map fun a => (placeM o (pcAt R a).1, (pcAt R a).2)))
        ⟨same_new hD, [], upd_same, Pieces.nil⟩ (fun j H' _ ⟨s, _⟩ => SqL.of (s _ _ ho3)) ?_ ?_
      · rintro j x H4 hj ⟨s4, acc, hD4, pa⟩
        obtain ⟨a, ha, rfl⟩ : ∃ a, o[j]? = some a ∧ x = .int a := by
          rw [List.getElem?_map] at hj
          cases e : o[j]? with
          | none => rw [e] at hj; cases hj
          | some v => rw [e] at hj; exact ⟨v, rfl, (Option.some.inj hj).symm⟩
        have hmem := List.mem_of_getElem? ha
        obtain ⟨a0, a1⟩ := ook.rng a hmem
        have sH4 := s3.trans s4
        have hpc := pcAt_some (R := R) a0 a1
        obtain ⟨vx, hvx, tx, lx, vsx, rfl, htx0, hlx0, px, _⟩ := pair_at pc0 hpc
        have htx := sH4 _ _ htx0
        have hlx := sH4 _ _ hlx0
        have hlD : lx ≠ D := ne_of_none (s3 _ _ hlx0) hD
        have hr4 := sH4 _ _ hr0
        have hd4 := s4 _ _ hd3
        walk_at "wp"
        refine ixL (SqL.of hr4) (atI_of (show a = (a.toNat : Int) by omega) hvx) ?_
        walk_at "wp"
        have hg := DGet.k (k := Sum.inl (pcAt R a).1) hd4
        rw [pl (near a hmem)] at hg
        refine ⟨d, _, rfl, hg, ?_⟩
        walk_at "wp"
        refine ixL (SqL.of hr4) (atI_of (show a = (a.toNat : Int) by omega) hvx) ?_
        walk_at "wp"
        rename_i t2 ht2
        have s5 := same_new (o := .tup [.int (placeM o (pcAt R a).1), .ref lx]) ht2
        have hD5 := s5 _ _ hD4
        have ks6 : Ks [D] (upd H4 t2 (.tup [.int (placeM o (pcAt R a).1), .ref lx])) (upd (upd H4 t2 (.tup [.int (placeM o (pcAt R a).1), .ref lx])) D (.lst (acc ++ [.ref t2]))) := Ks.upd hD5 List.mem_cons_self
        have one : IsPc [D] (upd H4 t2 (.tup [.int (placeM o (pcAt R a).1), .ref lx])) (.ref t2) (placeM o (pcAt R a).1, (pcAt R a).2) := ⟨t2, lx, vsx, rfl, upd_same, s5 _ _ hlx, px.keep (Same.tk (sH4.trans s5)), fun h => hlD (List.mem_singleton.mp h)⟩
        refine ⟨acc, hD5, ?_, ?_, _, upd_same, ?_⟩
        · rw [pa.len, List.length_map, List.length_take]; exact small1000 (by omega)
        · intro q z hq
          rw [upd_ne (ne_of_none hq hD)]
          exact s5 _ _ (s4 _ _ hq)
        · rw [List.take_add_one, ha, List.map_append]
          exact pair_app (pa.keep ((Ks.same s5).trans ks6)) (Paired.cons (one.keep ks6) Paired.nil)
      · rintro H4 ⟨s4, acc, hD4, pa⟩
        rw [List.length_map, List.take_of_length_le (Nat.le_refl _)] at pa
        have sH4 := s3.trans s4
        walk_at "wp"
        refine ⟨⟨_, SqL.of (sH4 _ _ ht0)⟩, fun E' hE => ?_⟩
        refine loopCL (xs := tops.map V.int) (fun j H' => Same H4 H' ∧ H' E' = some (.lst (((tops.take j).map (placeM o)).map V.int)))
          ⟨same_new hE, upd_same⟩ (fun j H' _ ⟨s, _⟩ => SqL.of ((sH4.trans s) _ _ ht0)) ?_ ?_
        · rintro j x H5 hj ⟨s5, hE5⟩
          obtain ⟨a, ha, rfl⟩ : ∃ a, tops[j]? = some a ∧ x = .int a := by
            rw [List.getElem?_map] at hj
            cases e : tops[j]? with
            | none => rw [e] at hj; cases hj
            | some v => rw [e] at hj; exact ⟨v, rfl, (Option.some.inj hj).symm⟩
          have hmem := List.mem_of_getElem? ha
          have hd5 := s5 _ _ (s4 _ _ hd3)
          have hg := DGet.k (k := Sum.inl a) hd5
          rw [pl (ttop a hmem)] at hg
          walk_at "wp"
          refine ⟨d, _, rfl, hg, ?_⟩
          walk_at "wp"
          refine ⟨_, hE5, ?_, ?_, ?_⟩
          · rw [List.length_map, List.length_map, List.length_take]; exact small1000 (by omega)
          · intro q z hq
            rw [upd_ne (ne_of_none hq hE)]
            exact s5 _ _ hq
          · rw [upd_same, List.take_add_one, ha, List.map_append, List.map_append] <;> rfl
        · rintro H5 ⟨s5, hE5⟩
          rw [List.length_map, List.take_of_length_le (Nat.le_refl _)] at hE5
          walk_at "wp"
          rename_i t2 ht2
          have s6 := s5.trans (same_new (o := .tup [.ref D, .ref E']) ht2)
          exact k _ _ ⟨t2, D, E', acc, rfl, upd_same, s6 _ _ hD4, (pa.less (S' := []) (fun _ h => nomatch h)).keep (Ks.same s6), (same_new ht2) _ _ hE5, List.not_mem_nil, List.not_mem_nil⟩ ⟨t2, D, E', rfl, upd_same, sH4.free hE⟩ (sH4.trans s6)

end
end K08

namespace K08
open PySem PySem.Spec PyProof.Rows L2 Wp Wq Wr Wn
local macro_rules | `(tactic| walk_at "ne") => `(tactic| first
  | assumption
  | (refine Ne.symm ?_; assumption)
  | exact ne_of_none (by assumption) (by assumption)
  | exact (ne_of_none (by assumption) (by assumption)).symm
  | exact ne_of (by assumption) (by assumption) (by intro q; cases q))
local macro_rules | `(tactic| walk_at "hp") => `(tactic| first
  | assumption
  | exact upd_same
  | (refine (upd_ne ?_).trans ?_; (walk_at "ne"); (walk_at "hp")))
local macro_rules | `(tactic| walk_at "sq") => `(tactic| first
  | assumption
  | exact SqL.of (by walk_at "hp")
  | exact SqT.of (by walk_at "hp"))
local macro_rules | `(tactic| walk_at "kind") => `(tactic| first
  | assumption
  | exact Kind.int _
  | exact Kind.str _
  | exact Kind.bl _
  | exact Kind.non
  | exact Kind.tup (by walk_at "hp")
  | exact Kind.lst (by walk_at "hp")
  | exact Kind.dK (by walk_at "hp"))
local macro_rules | `(tactic| walk_at "w1") => `(tactic| first
  | (with_reducible refine Wp.seq ?_)
  | (with_reducible refine Wp.nx_mk ?_)
  | (with_reducible refine Wp.rt_mk ?_)
  | (with_reducible refine Wp.bk_mk ?_)
  | (with_reducible refine Wp.ct_mk ?_)
  | (with_reducible refine Wp.next ?_)
  | (with_reducible refine Wp.asg ?_)
  | ((with_reducible refine' Wp.gname ?e ?_); (case e => (try dsimp only [List.set, L2.wipe, List.map_cons, List.map_nil]); (try exact rfl)))
  | (with_reducible refine Wp.gsub ?_)
  | (with_reducible refine Wp.ret ?_)
  | (with_reducible refine Wp.retN ?_)
  | (with_reducible refine Wp.drop ?_)
  | (with_reducible refine Wp.dput ?_)
  | (with_reducible refine Wp.ifs ?_)
  | ((with_reducible refine' Wp.var ?h ?_); (case h => exact rfl))
  | (with_reducible refine Wp.con ?_)
  | (with_reducible refine Wp.op ?_)
  | (with_reducible refine Wp.un ?_)
  | (with_reducible refine Wp.cb ?_)
  | (with_reducible refine Wp.anil ?_)
  | (with_reducible refine Wp.acons ?_)
  | (with_reducible refine Wp.call ?_)
  | (with_reducible refine Wp.test ?_)
  | (with_reducible refine Wp.tb_ ?_)
  | (with_reducible refine Wp.and_ ?_)
  | (with_reducible refine Wp.or_ ?_)
  | (with_reducible refine Wp.not_ ?_)
  | (with_reducible refine Wp.andV ?_)
  | (with_reducible refine Wp.orV ?_)
  | (with_reducible refine Wp.notV ?_)
  | (with_reducible refine Wp.rI0_ ?_)
  | (with_reducible refine Wp.rU_ ?_)
  | ((with_reducible refine Wp.rEq_ ?k ?_); (case k => exact rfl))
  | ((with_reducible refine Wp.rNe_ ?k ?_); (case k => exact rfl))
  | (with_reducible refine Wp.gcons ?_)
  | (with_reducible refine Wp.gnil ?_)
  | ((with_reducible refine' Wp.gtup ?h ?e ?_); (case h => walk_at "sq"); (case e => exact rfl))
  | (with_reducible refine Wp.sl ?_)
  | (with_reducible refine Wp.part ?_)
  | (with_reducible refine Wp.nopart ?_)
  | (with_reducible refine Wp.ifE ?_)
  | (with_reducible refine Wp.bm0 ?_)
  | (with_reducible refine Wp.bm ?_)
  | (with_reducible refine Wp.lcR1 ?_)
  | (with_reducible refine Wp.lcR2 ?_)
  | (with_reducible refine Wp.lcL ?_)
  | (with_reducible refine Wp.chain ?_)
  | (with_reducible refine Wp.lc2V ?_)
  | (with_reducible refine Wp.piL ?_)
  | (with_reducible refine Wp.yes ?_)
  | (with_reducible refine Wp.dinI ?_)
  | (with_reducible refine Wp.dninI ?_)
  | (with_reducible refine Wp.dget ?_)
  | ((with_reducible refine' ⟨?k, ?_⟩); (case k => show L2.wipe _ _ = L2.wipe _ _; exact rfl))
  | (with_reducible refine Wp.forR1 ?_)
  | (with_reducible refine Wp.forR2 ?_)
  | (with_reducible refine Wp.forL ?_)
  | (with_reducible refine Wp.forT ?_)
  | ((with_reducible refine' ⟨?k, ?_⟩); (case k => exact Wp.tyvL (by walk_at "hp")))
  | ((with_reducible refine' Wp.rev_ ?k ?_); (case k => walk_at "hp"))
  | ((with_reducible refine' Wp.isi ?k ?h ?_); (case k => walk_at "kind"); (case h => decide))
  | ((with_reducible refine' Wp.typ ?k ?_); (case k => walk_at "kind"))
  | (with_reducible refine Wp.slS ?k ?_; (case k => assumption))
  | (with_reducible refine iteT ?_)
  | (with_reducible refine iteF ?_)
  | (with_reducible refine Wp.pcons ?_)
  | (with_reducible refine Wp.pnil ?_)
  | ((with_reducible refine' Wp.iteBnT ?h ?_); (case h => show isB _ _ = false; decide))
  | ((with_reducible refine' Wp.iteBnF ?h ?_); (case h => show isB _ _ = true; decide))
  | ((with_reducible refine' Wp.iteBt ?h ?_); (case h => show isB _ _ = true; decide))
  | ((with_reducible refine' Wp.iteBf ?h ?_); (case h => show isB _ _ = false; decide))
  | (with_reducible refine Wp.iteT' ?_)
  | (with_reducible refine Wp.iteF' ?_)
  | (with_reducible refine Wp.rNT_ ?_)
  | ((with_reducible refine Wp.lst ?_))
  | ((with_reducible refine Wp.tup ?_))
  | ((with_reducible refine' Wp.ixL ?h ?e ?_); (case h => walk_at "sq"); (case e => exact rfl))
  | ((with_reducible refine' Wp.ixT ?h ?e ?_); (case h => walk_at "sq"); (case e => exact rfl))
  | ((with_reducible refine' Wp.setL ?h ?e ?_); (case h => walk_at "hp"); (case e => exact rfl))
  | ((with_reducible refine Wp.rI_ ?k ?_); (case k => first | (show (0:Int) < _; omega) | (show CPow _ _; refine' ⟨?_, ?_, ?_⟩ <;> omega) | (show CDiv _ _; refine' ⟨?_, ?_⟩ <;> omega) | (show CMul _ _; refine' Or.inl ⟨?_, ?_⟩ <;> omega) | (show CMul _ _; refine' Or.inr ⟨?_, ?_⟩ <;> first | omega | decide) | (show CDivW _ _; refine' wide_div (b := 240) ?_ ?_ ?_ ?_ <;> first | omega | decide)))
  | ((with_reducible refine ⟨?k, ?_⟩); (case k => first | exact Nat.zero_le _ | (exact Nat.le_of_ble_eq_true rfl)); intro p hp)
  | ((with_reducible refine' ⟨_, _, rfl, .inl ?k, ?_⟩); (case k => walk_at "sq"))
  | ((with_reducible refine' ⟨_, _, rfl, .inr ?k, ?_⟩); (case k => walk_at "sq"))
  | (with_reducible refine ⟨_, rfl, ?_⟩)
  | (with_reducible refine ⟨_, _, rfl, rfl, ?_⟩)
  | (with_reducible refine ⟨_, _, rfl, ?_⟩))
local macro_rules | `(tactic| walk_at "wp") => `(tactic| repeat (walk_at "w1"))

section
variable {P : Program} {w : World} {K : PySem.W.Frag} {mg : Str → Option Value} {base : Heap}
def spCopy : Sp := fun vs H Q _ => ∃ (v : V) (Pp : Pap), vs = [v] ∧ IsPap [] H v Pp ∧ Pp.1.length ≤ 900 ∧ ∀ v' H', IsPap [] H' v' Pp → Same H H' → Q v' H'
theorem ok_copy (T : Txt P w K mg) : FnOk P w K mg base CX0 1 T.f_copy T.fd_copy ["paper"] spCopy := by
  refine T.F_copy.ok sc_copy (fun vs H Q E h => ?_) (fun cdv A outer s H vs Q E hr h => ?_)
  · obtain ⟨v, Pp, rfl, _⟩ := h
    rfl
  · obtain ⟨v, Pp, rfl, ⟨t, p, q, xs, rfl, ht, hp, pc, hq, _, _⟩, pl, k⟩ := h
    refine ⟨_, (pss_one (ps_ret (pe_tup (pa_cons (pe_lc (own := [("under", 1), ("worths", 2)]) rfl sc_copy.nd (pi_list (pe_ix ix_tup (pv 0) pe_int (fun _ _ => rfl))) (blkOk_by (N := ["paper", "under", "worths"]) (sc := defScope s_copy) (by decide +kernel)) (fun _ _ _ _ _ => (show PG _ _ (gTup K 2 _) from pg_tup (by rfl) (pgs_cons (pg_name (i := 1) sc_copy.nd rfl (Or.inl rfl)) (pgs_cons (pg_name (i := 2) sc_copy.nd rfl (Or.inl rfl)) pgs_nil)))) (fun _ _ _ _ _ => pts_nil) (fun _ _ _ _ _ => (pe_tup (pa_cons (pv 1) (pa_cons (pe_callTy (show CallR _ _ (Wp.rListS K) from Wp.call_listS) (by rfl) T.n_list (by decide +kernel) (pa_cons (pv 2) pa_nil)) pa_nil))))) (pa_cons (pe_callTy call_list_of (by rfl) T.n_list (by decide +kernel) (pa_cons (pe_ix ix_tup (pv 0) pe_int (fun _ _ => rfl)) pa_nil)) pa_nil))))), ?_⟩
    rw [show L2.start ["paper", "under", "worths"] [.ref t] = [some (.ref t), none, none] from rfl]
    try dsimp only [cxOf]
    walk_at "wp"
    refine ⟨⟨_, SqL.of hp⟩, fun D hD => ?_⟩
    refine loopCL (xs := xs) (fun j H' => Same H H' ∧ ∃ acc, H' D = some (.lst acc) ∧ Pieces [D] H' acc (Pp.1.take j)) ⟨same_new hD, [], upd_same, Pieces.nil⟩ (fun j H' _ ⟨s, _⟩ => SqL.of (s _ _ hp)) ?_ ?_
    · rintro j x H4 hj ⟨s4, acc, hD4, pa⟩
      obtain ⟨⟨u, ws⟩, hy, tx, lx, vsx, rfl, htx0, hlx0, px, _⟩ := pair_at1 pc hj
      have htx := s4 _ _ htx0
      have hlx := s4 _ _ hlx0
      have hlD : lx ≠ D := ne_of_none hlx0 hD
      walk_at "wp"
      refine listS_ (SqL.of hlx) fun l2 hl2 => ?_
      have s5 := same_new (o := .lst vsx) hl2
      have hl2D : l2 ≠ D := (ne_of_none hD4 hl2).symm
      walk_at "wp"
      rename_i t2 ht2
      have s6 := s5.trans (same_new (o := .tup [.int u, .ref l2]) ht2)
      have hD6 := s6 _ _ hD4
      have ks7 : Ks [D] (upd (upd H4 l2 (.lst vsx)) t2 (.tup [.int u, .ref l2])) (upd (upd (upd H4 l2 (.lst vsx)) t2 (.tup [.int u, .ref l2])) D (.lst (acc ++ [.ref t2]))) := Ks.upd hD6 List.mem_cons_self
      have one : IsPc [D] (upd (upd H4 l2 (.lst vsx)) t2 (.tup [.int u, .ref l2])) (.ref t2) (u, ws) := ⟨t2, l2, vsx, rfl, upd_same, (same_new ht2) _ _ upd_same, px.keep (Same.tk (s4.trans s6)), fun h => hl2D (List.mem_singleton.mp h)⟩
      refine ⟨acc, hD6, ?_, ?_, _, upd_same, ?_⟩
      · rw [pa.len, List.length_take]; exact small1000 (by omega)
      · intro q z hq
        rw [upd_ne (ne_of_none hq hD)]
        exact s6 _ _ (s4 _ _ hq)
      · rw [List.take_add_one, hy]
        exact pair_app (pa.keep ((Ks.same s6).trans ks7)) (Paired.cons (one.keep ks7) Paired.nil)
    · rintro H4 ⟨s4, acc, hD4, pa⟩
      rw [pc.len, List.take_of_length_le (Nat.le_refl _)] at pa
      have ht4 := s4 _ _ ht
      walk_at "wp"
      refine ⟨q, _, rfl, .inl (SqL.of (s4 _ _ hq)), fun l2 hl2 => ?_⟩
      have s5 := same_new (o := .lst (Pp.2.map V.int)) hl2
      walk_at "wp"
      rename_i t2 ht2
      have s6 := same_new (o := .tup [.ref D, .ref l2]) ht2
      exact k _ _ ⟨t2, D, l2, acc, rfl, upd_same, s6 _ _ (s5 _ _ hD4), (pa.less (S' := []) (fun _ h => nomatch h)).keep (Ks.same (s5.trans s6)), s6 _ _ upd_same, List.not_mem_nil, List.not_mem_nil⟩ (s4.trans (s5.trans s6))


end
end K08

namespace K08
open PySem PySem.Spec PyProof.Rows L2 Wp Wq Wr Wn Wm
local macro_rules | `(tactic| walk_at "ne") => `(tactic| first
  | assumption
  | (refine Ne.symm ?_; assumption)
  | exact ne_of_none (by assumption) (by assumption)
  | exact (ne_of_none (by assumption) (by assumption)).symm
  | exact ne_of (by assumption) (by assumption) (by intro q; cases q))
local macro_rules | `(tactic| walk_at "hp") => `(tactic| first
  | assumption
  | exact upd_same
  | (refine (upd_ne ?_).trans ?_; (walk_at "ne"); (walk_at "hp")))
local macro_rules | `(tactic| walk_at "sq") => `(tactic| first
  | assumption
  | exact SqL.of (by walk_at "hp")
  | exact SqT.of (by walk_at "hp"))
local macro_rules | `(tactic| walk_at "kind") => `(tactic| first
  | assumption
  | exact Kind.int _
  | exact Kind.str _
  | exact Kind.bl _
  | exact Kind.non
  | exact Kind.tup (by walk_at "hp")
  | exact Kind.lst (by walk_at "hp")
  | exact Kind.dK (by walk_at "hp"))
local macro_rules | `(tactic| walk_at "w1") => `(tactic| first
  | (with_reducible refine Wp.seq ?_)
  | (with_reducible refine Wp.nx_mk ?_)
  | (with_reducible refine Wp.rt_mk ?_)
  | (with_reducible refine Wp.bk_mk ?_)
  | (with_reducible refine Wp.ct_mk ?_)
  | (with_reducible refine Wp.next ?_)
  | (with_reducible refine Wp.asg ?_)
  | ((with_reducible refine' Wp.gname ?e ?_); (case e => (try dsimp only [List.set, L2.wipe, List.map_cons, List.map_nil]); (try exact rfl)))
  | (with_reducible refine Wp.gsub ?_)
  | (with_reducible refine Wp.ret ?_)
  | (with_reducible refine Wp.retN ?_)
  | (with_reducible refine Wp.drop ?_)
  | (with_reducible refine Wp.dput ?_)
  | (with_reducible refine Wp.ifs ?_)
  | ((with_reducible refine' Wp.var ?h ?_); (case h => exact rfl))
  | (with_reducible refine Wp.con ?_)
  | (with_reducible refine Wp.op ?_)
  | (with_reducible refine Wp.un ?_)
  | (with_reducible refine Wp.cb ?_)
  | (with_reducible refine Wp.anil ?_)
  | (with_reducible refine Wp.acons ?_)
  | (with_reducible refine Wp.call ?_)
  | (with_reducible refine Wp.test ?_)
  | (with_reducible refine Wp.tb_ ?_)
  | (with_reducible refine Wp.and_ ?_)
  | (with_reducible refine Wp.or_ ?_)
  | (with_reducible refine Wp.not_ ?_)
  | (with_reducible refine Wp.andV ?_)
  | (with_reducible refine Wp.orV ?_)
  | (with_reducible refine Wp.notV ?_)
  | (with_reducible refine Wp.rI0_ ?_)
  | (with_reducible refine Wp.rU_ ?_)
  | ((with_reducible refine Wp.rEq_ ?k ?_); (case k => exact rfl))
  | ((with_reducible refine Wp.rNe_ ?k ?_); (case k => exact rfl))
  | (with_reducible refine Wp.gcons ?_)
  | (with_reducible refine Wp.gnil ?_)
  | ((with_reducible refine' Wp.gtup ?h ?e ?_); (case h => walk_at "sq"); (case e => exact rfl))
  | (with_reducible refine Wp.sl ?_)
  | (with_reducible refine Wp.part ?_)
  | (with_reducible refine Wp.nopart ?_)
  | (with_reducible refine Wp.ifE ?_)
  | (with_reducible refine Wp.bm0 ?_)
  | (with_reducible refine Wp.bm ?_)
  | (with_reducible refine Wp.lcR1 ?_)
  | (with_reducible refine Wp.lcR2 ?_)
  | (with_reducible refine Wp.lcL ?_)
  | (with_reducible refine Wp.chain ?_)
  | (with_reducible refine Wp.lc2V ?_)
  | (with_reducible refine Wp.piL ?_)
  | (with_reducible refine Wp.yes ?_)
  | (with_reducible refine Wp.dinI ?_)
  | (with_reducible refine Wp.dninI ?_)
  | (with_reducible refine Wp.dget ?_)
  | ((with_reducible refine' ⟨?k, ?_⟩); (case k => show L2.wipe _ _ = L2.wipe _ _; exact rfl))
  | (with_reducible refine Wp.forR1 ?_)
  | (with_reducible refine Wp.forR2 ?_)
  | (with_reducible refine Wp.forL ?_)
  | (with_reducible refine Wp.forT ?_)
  | ((with_reducible refine' ⟨?k, ?_⟩); (case k => exact Wp.tyvL (by walk_at "hp")))
  | ((with_reducible refine' Wp.rev_ ?k ?_); (case k => walk_at "hp"))
  | ((with_reducible refine' Wp.isi ?k ?h ?_); (case k => walk_at "kind"); (case h => decide))
  | ((with_reducible refine' Wp.typ ?k ?_); (case k => walk_at "kind"))
  | (with_reducible refine Wp.slS ?k ?_; (case k => assumption))
  | (with_reducible refine iteT ?_)
  | (with_reducible refine iteF ?_)
  | (with_reducible refine Wp.pcons ?_)
  | (with_reducible refine Wp.pnil ?_)
  | ((with_reducible refine' Wp.iteBnT ?h ?_); (case h => show isB _ _ = false; decide))
  | ((with_reducible refine' Wp.iteBnF ?h ?_); (case h => show isB _ _ = true; decide))
  | ((with_reducible refine' Wp.iteBt ?h ?_); (case h => show isB _ _ = true; decide))
  | ((with_reducible refine' Wp.iteBf ?h ?_); (case h => show isB _ _ = false; decide))
  | (with_reducible refine Wp.iteT' ?_)
  | (with_reducible refine Wp.iteF' ?_)
  | (with_reducible refine Wp.rNT_ ?_)
  | ((with_reducible refine Wp.lst ?_))
  | ((with_reducible refine Wp.tup ?_))
  | ((with_reducible refine' Wp.ixL ?h ?e ?_); (case h => walk_at "sq"); (case e => exact rfl))
  | ((with_reducible refine' Wp.ixT ?h ?e ?_); (case h => walk_at "sq"); (case e => exact rfl))
  | ((with_reducible refine' Wp.setL ?h ?e ?_); (case h => walk_at "hp"); (case e => exact rfl))
  | ((with_reducible refine Wp.rI_ ?k ?_); (case k => first | (show (0:Int) < _; omega) | (show CPow _ _; refine' ⟨?_, ?_, ?_⟩ <;> omega) | (show CDiv _ _; refine' ⟨?_, ?_⟩ <;> omega) | (show CMul _ _; refine' Or.inl ⟨?_, ?_⟩ <;> omega) | (show CMul _ _; refine' Or.inr ⟨?_, ?_⟩ <;> first | omega | decide) | (show CDivW _ _; refine' wide_div (b := 240) ?_ ?_ ?_ ?_ <;> first | omega | decide)))
  | ((with_reducible refine ⟨?k, ?_⟩); (case k => first | exact Nat.zero_le _ | (exact Nat.le_of_ble_eq_true rfl)); intro p hp)
  | ((with_reducible refine' ⟨_, _, rfl, .inl ?k, ?_⟩); (case k => walk_at "sq"))
  | ((with_reducible refine' ⟨_, _, rfl, .inr ?k, ?_⟩); (case k => walk_at "sq"))
  | (with_reducible refine ⟨_, rfl, ?_⟩)
  | (with_reducible refine ⟨_, _, rfl, rfl, ?_⟩)
  | (with_reducible refine ⟨_, _, rfl, ?_⟩))
local macro_rules | `(tactic| walk_at "wp") => `(tactic| repeat (walk_at "w1"))

def leadsM (P : Pap) : List Int := P.1.map (·.1) ++ P.2
def us (P : Pap) : List Int := P.1.map (·.1)
theorem us_len {P : Pap} : (us P).length = P.1.length := List.length_map ..
theorem us_at {P : Pap} {i : Nat} {p : Pc} (h : P.1[i]? = some p) : Wx.uAt (us P) (i : Int) = p.1 := by
  unfold Wx.uAt us
  rw [show ((i : Int)).toNat = i from Int.toNat_natCast i, List.getD_eq_getElem?_getD, List.getElem?_map, h] <;> rfl
def okLen (s : Int) (p : Pc) : Bool := if (1 : Int) ≤ (p.2.length : Int) then decide ((p.2.length : Int) ≤ s) else false
def isPaperB (s : Int) (P : Pap) : Bool := (P.1.map (okLen s)).all id && Wx.numdM (us P) P.2
def badPc (n s : Int) (p : Pc) : Prop := p.1 < -1 ∨ p.1 ≥ n ∨ (p.2.length : Int) < 1 ∨ (p.2.length : Int) > s
def stray (o : List Int) : List Int := o.filter fun a => decide ((o.idxOf a : Int) ≠ a)
def rightB (s : Int) (P : Pap) : Prop := (∀ p ∈ P.1, ¬ badPc P.1.length s p) ∧ ∃ o, Wx.rightGo (us P) [] P.2 = some o ∧ stray o = [] ∧ o.length = P.1.length
theorem add_nd : ∀ (l o : List Int), o.Nodup → (Wx.addM o l).Nodup
  | [], _, h => h
  | x :: l, o, h => by
    show (Wx.addM (if x ∈ o then o else o ++ [x]) l).Nodup
    by_cases c : x ∈ o
    · rw [if_pos c]; exact add_nd l o h
    · rw [if_neg c]
      refine add_nd l _ ?_
      rw [List.nodup_append]
      refine ⟨h, List.nodup_cons.mpr ⟨List.not_mem_nil, List.nodup_nil⟩, fun a ha b hb e => ?_⟩
      rw [List.mem_singleton.mp hb] at e
      exact c (e ▸ ha)
theorem go_nd {u : List Int} : ∀ (ts o e : List Int), o.Nodup → Wx.rightGo u o ts = some e → e.Nodup
  | [], o, e, h, q => by
    have : o = e := Option.some.inj q
    rw [← this]; exact h
  | t :: ts, o, e, h, q => by
    have q' : (if t < -1 ∨ t ≥ u.length then none else if (Wx.rowM u u.length t).getLast? ≠ some (-1) then none else Wx.rightGo u (Wx.addM o (Wx.rowM u u.length t).dropLast) ts) = some e := q
    by_cases c1 : t < -1 ∨ t ≥ u.length
    · rw [if_pos c1] at q'; cases q'
    rw [if_neg c1] at q'
    by_cases c2 : (Wx.rowM u u.length t).getLast? ≠ some (-1)
    · rw [if_pos c2] at q'; cases q'
    rw [if_neg c2] at q'
    exact go_nd ts _ e (add_nd _ _ h) q'
theorem idx_nd : ∀ (o : List Int) (i : Nat) (a : Int), o.Nodup → o[i]? = some a → o.idxOf a = i
  | [], i, a, _, h => by cases h
  | b :: o, 0, a, _, h => by cases h; exact List.idxOf_cons_self
  | b :: o, i + 1, a, nd, h => by
    have h' : o[i]? = some a := h
    have nb : b ≠ a := fun e => (List.nodup_cons.mp nd).1 (e ▸ List.mem_of_getElem? h')
    rw [List.idxOf_cons, show (b == a) = false by simpa using nb]
    show o.idxOf a + 1 = i + 1
    rw [idx_nd o i a (List.nodup_cons.mp nd).2 h']
theorem stray_rng {n : Nat} : stray (Wx.rng n) = [] := by
  unfold stray
  rw [List.filter_eq_nil_iff]
  intro a ha
  have h := Wx.rng_mem.mp ha
  have nd : (Wx.rng n).Nodup := by
    unfold Wx.rng List.Nodup
    rw [List.pairwise_map]
    exact List.Pairwise.imp (fun h e => h (by omega)) List.nodup_range
  have := idx_nd (Wx.rng n) a.toNat a nd (by rw [Wx.rng_at (by omega), show ((a.toNat : Nat) : Int) = a by omega])
  rw [this]
  simp only [decide_eq_true_eq]
  omega
theorem rng_stray {o : List Int} (nd : o.Nodup) (h : stray o = []) : o = Wx.rng o.length := by
  unfold stray at h
  rw [List.filter_eq_nil_iff] at h
  apply List.ext_getElem?
  intro i
  by_cases c : i < o.length
  · have e : o[i]? = some o[i] := List.getElem?_eq_getElem c
    have h1 := h o[i] (List.getElem_mem c)
    rw [idx_nd o i _ nd e] at h1
    simp only [decide_eq_true_eq] at h1
    rw [e, Wx.rng_at c, Classical.not_not.mp h1]
  · rw [List.getElem?_eq_none (by omega), List.getElem?_eq_none (by rw [Wx.rng_len]; omega)]
theorem paper_right {s : Int} {P : Pap} : isPaperB s P = true ↔ rightB s P := by
  unfold isPaperB rightB
  rw [Bool.and_eq_true]
  constructor
  · rintro ⟨h1, h2⟩
    obtain ⟨hr, hg⟩ := Wx.yes_right h2
    rw [us_len] at hg
    refine ⟨fun p hp => ?_, _, hg, stray_rng, Wx.rng_len⟩
    have hu := hr p.1 (List.mem_map.mpr ⟨p, hp, rfl⟩)
    rw [us_len] at hu
    have hl : okLen s p = true := by
      rw [List.all_eq_true] at h1
      exact h1 _ (List.mem_map.mpr ⟨p, hp, rfl⟩)
    unfold okLen at hl
    by_cases c : (1 : Int) ≤ (p.2.length : Int)
    · rw [if_pos c] at hl
      have := of_decide_eq_true hl
      unfold badPc
      omega
    · rw [if_neg c] at hl; cases hl
  · rintro ⟨h1, o, hg, hs, hl⟩
    have ho := rng_stray (go_nd _ _ _ List.nodup_nil hg) hs
    have hr : Wx.inR (us P) := by
      intro a ha
      obtain ⟨p, hp, rfl⟩ := List.mem_map.mp ha
      have := h1 p hp
      unfold badPc at this
      rw [us_len]
      omega
    refine ⟨?_, Wx.right_yes hr (by rw [hg, us_len, ← hl]; exact congrArg some ho)⟩
    rw [List.all_eq_true]
    intro b hb
    obtain ⟨p, hp, rfl⟩ := List.mem_map.mp hb
    have := h1 p hp
    unfold badPc at this
    show okLen s p = true
    unfold okLen
    rw [if_pos (by omega)]
    exact decide_eq_true (by omega)
theorem ents_put {o : List Int} {a : Int} (n : a ∉ o) : putK (ents 0 o) (.inl a) (.int o.length) = ents 0 (o ++ [a]) := by
  have h : ((ents 0 o).any fun kv => decide (kv.1 = (Sum.inl a : Key))) = false := by
    rw [List.any_eq_false]
    intro kv hkv
    rw [decide_eq_true_eq]
    intro e
    have hv : valV (ents 0 o) (.inl a) = none := by rw [ents_val, if_neg n]
    unfold valV at hv
    have hf : (ents 0 o).find? (fun kv => decide (kv.1 = (Sum.inl a : Key))) = none := by
      cases q : (ents 0 o).find? (fun kv => decide (kv.1 = (Sum.inl a : Key))) with
      | none => rfl
      | some x => rw [q] at hv; cases hv
    exact List.find?_eq_none.mp hf kv hkv (decide_eq_true e)
  unfold putK
  rw [h, if_neg Bool.false_ne_true]
  have := ents_app a 0 o
  rw [Nat.zero_add] at this
  exact this
theorem ents_at : ∀ (i j : Nat) (o : List Int) (k : Key) (v : V), (ents i o)[j]? = some (k, v) → ∃ a, o[j]? = some a ∧ k = .inl a
  | i, _, [], k, v, h => by cases h
  | i, 0, b :: o, k, v, h => by cases h; exact ⟨b, rfl, rfl⟩
  | i, j + 1, b :: o, k, v, h => ents_at (i + 1) j o k v h
section
variable {P : Program} {w : World} {K : PySem.W.Frag} {mg : Str → Option Value} {base : Heap}
def spLeads : Sp := fun vs H Q _ => ∃ (v : V) (Pp : Pap), vs = [v] ∧ IsPap [] H v Pp ∧ Pp.1.length ≤ 900 ∧ Pp.2.length ≤ 900 ∧ ∀ a H', H a = none → H' a = some (.lst ((leadsM Pp).map V.int)) → Same H H' → Q (.ref a) H'
theorem ok_leads_of (T : Txt P w K mg) : FnOk P w K mg base CX0 1 T.f_leads_of T.fd_leads_of ["paper"] spLeads := by
  refine T.F_leads_of.ok sc_leads_of (fun vs H Q E h => ?_) (fun cdv A outer s H vs Q E hr h => ?_)
  · obtain ⟨v, Pp, rfl, _⟩ := h
    rfl
  · obtain ⟨v, Pp, rfl, ⟨t, p, q, xs, rfl, ht, hp, pc, hq, _, _⟩, pl, tl, k⟩ := h
    refine ⟨_, (pss_cons (ps_asg (pv 0) (pg_tup (by rfl) (pgs_cons (pg_name (i := 1) sc_leads_of.nd rfl (.inl rfl)) (pgs_cons (pg_name (i := 2) sc_leads_of.nd rfl (.inl rfl)) pgs_nil))))
      (pss_one (ps_ret (pe_op op_cat (pe_lc (own := [("under", 3), ("_", 4)]) rfl sc_leads_of.nd (pi_list (pv 1)) (blkOk_by (N := ["paper", "pieces", "tops", "under", "_"]) (sc := defScope s_leads_of) (by decide +kernel)) (fun _ _ _ _ _ => (show PG _ _ (gTup K 2 _) from pg_tup (by rfl) (pgs_cons (pg_name (i := 3) sc_leads_of.nd rfl (Or.inl rfl)) (pgs_cons (pg_name (i := 4) sc_leads_of.nd rfl (Or.inl rfl)) pgs_nil)))) (fun _ _ _ _ _ => pts_nil) (fun _ _ _ _ _ => (pv 3))) (pv 2))))), ?_⟩
    rw [show L2.start ["paper", "pieces", "tops", "under", "_"] [.ref t] = [some (.ref t), none, none, none, none] from rfl]
    try dsimp only [cxOf]
    walk_at "wp"
    refine ⟨⟨_, SqL.of hp⟩, fun D hD => ?_⟩
    refine loopCL (xs := xs) (fun j H' => Same H H' ∧ H' D = some (.lst (((Pp.1.take j).map (·.1)).map V.int))) ⟨same_new hD, upd_same⟩ (fun j H' _ ⟨s, _⟩ => SqL.of (s _ _ hp)) ?_ ?_
    · rintro j x H4 hj ⟨s4, hD4⟩
      obtain ⟨⟨u, ws⟩, hy, tx, lx, vsx, rfl, htx0, hlx0, px, _⟩ := pair_at1 pc hj
      have htx := s4 _ _ htx0
      walk_at "wp"
      refine ⟨_, hD4, ?_, ?_, ?_⟩
      · rw [List.length_map, List.length_map, List.length_take]; exact small1000 (by omega)
      · intro q z hq
        rw [upd_ne (ne_of_none hq hD)]
        exact s4 _ _ hq
      · rw [upd_same, List.take_add_one, hy, List.map_append, List.map_append] <;> rfl
    · rintro H4 ⟨s4, hD4⟩
      rw [pc.len, List.take_of_length_le (Nat.le_refl _)] at hD4
      have hq4 := s4 _ _ hq
      walk_at "wp"
      refine cat_ hD4 hq4 ?_ fun a ha => ?_
      · rw [List.length_map, List.length_map, List.length_map]
        exact Nat.le_trans (show _ ≤ 10000 by omega) (by decide)
      · refine k a _ (s4.free ha) ?_ (s4.trans (same_new ha))
        rw [upd_same]
        unfold leadsM
        rw [List.map_append]
def spCheck : Sp := fun vs H Q _ => ∃ s : Int, vs = [.int s] ∧ 2 ≤ s ∧ s ≤ 64 ∧ Q .non H
theorem ok_check_size (T : Txt P w K mg) : FnOk P w K mg base CX0 2 T.f_check_size T.fd_check_size ["size"] spCheck := by
  have G_is_number := ok_is_number (base := base) T
  refine T.F_check_size.ok sc_check_size (fun vs H Q E h => ?_) (fun cdv A outer s H vs Q E hr h => ?_)
  · obtain ⟨v, rfl, _⟩ := h
    rfl
  · obtain ⟨s, rfl, s0, s1, k⟩ := h
    refine ⟨_, (pss_one (ps_if (PW.pt (pw_or (pt_not (pt_val (pe_call G_is_number (hr.mono (by decide)) (by rfl) T.g_is_number T.F_is_number.kp T.b_is_number .nil pass0 (pa_cons (pv 0) pa_nil)))) (pw_or1 (pt_not (pt_chain op_le op_le (pe_glob (v := .int (2)) (by rfl) T.c_LEAST_SIZE ⟨_, rfl⟩) (pv 0) (pe_glob (v := .int (64)) (by rfl) T.c_MOST_SIZE ⟨_, rfl⟩)))))) (pss_one ps_never) pss_nil)), ?_⟩
    rw [show L2.start ["size"] [.int s] = [some (.int s)] from rfl]
    try dsimp only [cxOf]
    walk_at "wp"
    refine ⟨_, _, rfl, .int _, ?_⟩
    walk_at "wp"
    refine iteN (fun c => absurd rfl c) (fun _ => ?_)
    walk_at "wp"
    refine ite_ (fun _ => ?_) (fun c => absurd s0 c)
    walk_at "wp"
    refine iteN (fun c => absurd s1 c) (fun _ => ?_)
    exact k
def spIsNumbered : Sp := fun vs H Q _ => ∃ (v : V) (Pp : Pap), vs = [v] ∧ IsPap [] H v Pp ∧ Pp.1.length ≤ 900 ∧ Q (.bl (Wx.numdM (us Pp) Pp.2)) H
theorem ok_is_numbered (T : Txt P w K mg) : FnOk P w K mg base CX0 1 T.f_is_numbered T.fd_is_numbered ["paper"] spIsNumbered := by
  refine T.F_is_numbered.ok sc_is_numbered (fun vs H Q E h => ?_) (fun cdv A outer s H vs Q E hr h => ?_)
  · obtain ⟨v, Pp, rfl, _⟩ := h
    rfl
  · obtain ⟨v, Pp, rfl, ⟨t, p, q, xs, rfl, ht, hp, pc, hq, _, _⟩, pl, k⟩ := h
    have xlen := pc.len
    have ulen : (us Pp).length = Pp.1.length := us_len
    refine ⟨_, (pss_cons (ps_asg (pv 0) (pg_tup (by rfl) (pgs_cons (pg_name (i := 1) sc_is_numbered.nd rfl (.inl rfl)) (pgs_cons (pg_name (i := 2) sc_is_numbered.nd rfl (.inl rfl)) pgs_nil))))
      (pss_cons (ps_set (i := 3) sc_is_numbered.nd rfl (.inl rfl) pe_int)
      (pss_cons (ps_for PassesOwn.never rfl (pi_list (pv 2)) (pg_name (i := 4) sc_is_numbered.nd rfl (.inl rfl)) (pss_cons (ps_set (i := 5) sc_is_numbered.nd rfl (.inl rfl) (pv 3))
      (pss_cons (ps_while PassesOwn.never (PW.pt (pw_and (pt_cmpR op_eq (pv 4) (pv 3) (nomark _)) (pw_and1 (pt_cmpR op_lt (pv 3) (pe_callB call_len_seq (by rfl) T.n_len (by decide +kernel) (pa_cons (pv 1) pa_nil)) (nomark _))))) (pss_cons (ps_set (i := 4) sc_is_numbered.nd rfl (.inl rfl) (pe_ix ix_tup (pe_ix ix_list (pv 1) (pv 4) (fun _ _ => rfl)) pe_int (fun _ _ => rfl)))
      (pss_one (ps_aug (i := 3) sc_is_numbered.nd rfl (.inl rfl) pe_int ip_add))))
      (pss_one (ps_if (PW.pt (pw_and (pt_cmpR op_ne (pv 4) (pe_glob (v := .int (-1)) (by rfl) T.c_NOTHING ⟨_, rfl⟩) (nomark _)) (pw_and1 (pt_not (pt_chain op_le op_lt pe_int (pv 4) (pv 5)))))) (pss_one (ps_ret pe_bl)) pss_nil)))))
      (pss_one (ps_ret (pe_cmpR op_eq (pv 3) (pe_callB call_len_seq (by rfl) T.n_len (by decide +kernel) (pa_cons (pv 1) pa_nil)) (nomark _))))))), ?_⟩
    rw [show L2.start ["paper", "pieces", "tops", "many", "at", "before"] [.ref t] = [some (.ref t), none, none, none, none, none] from rfl]
    try dsimp only [cxOf]
    walk_at "wp"
    refine ⟨⟨_, SqL.of hq⟩, loopL (xs := Pp.2.map V.int) (fun i σ H' => H' = H ∧ ∃ y4 y5, ∃ m : Nat, σ = [some (.ref t), some (.ref p), some (.ref q), some (.int m), y4, y5] ∧ m ≤ (us Pp).length ∧ Wx.numGo (us Pp) m (Pp.2.drop i) = Wx.numGo (us Pp) 0 Pp.2)
      ⟨rfl, _, _, 0, rfl, Nat.zero_le _, rfl⟩ (fun i σ H' _ ⟨e, _⟩ => by subst e; exact SqL.of hq) ?_ ?_⟩
    · rintro i x σ H1 hi ⟨rfl, y4, y5, m, rfl, hm, hg⟩
      obtain ⟨tp, hu, rfl⟩ : ∃ u, Pp.2[i]? = some u ∧ x = .int u := by
        rw [List.getElem?_map] at hi
        cases e : Pp.2[i]? with
        | none => rw [e] at hi; cases hi
        | some v => rw [e] at hi; exact ⟨v, rfl, (Option.some.inj hi).symm⟩
      have hd : Pp.2.drop i = tp :: Pp.2.drop (i + 1) := by
        obtain ⟨h1, h2⟩ := List.getElem?_eq_some_iff.mp hu
        rw [List.drop_eq_getElem_cons h1, h2]
      rw [hd] at hg
      have hg' : (if (Wx.runM (us Pp) ((us Pp).length - m) m tp).2 ≠ -1 ∧ ¬ (0 ≤ (Wx.runM (us Pp) ((us Pp).length - m) m tp).2 ∧ (Wx.runM (us Pp) ((us Pp).length - m) m tp).2 < m) then none else Wx.numGo (us Pp) (Wx.runM (us Pp) ((us Pp).length - m) m tp).1 (Pp.2.drop (i + 1))) = Wx.numGo (us Pp) 0 Pp.2 := hg
      walk_at "wp"
      refine Wp.whileW (fun c σ H' => H' = H1 ∧ ∃ (M : Nat) (A : Int), σ = [some (.ref t), some (.ref p), some (.ref q), some (.int M), some (.int A), some (.int m)] ∧ c = (us Pp).length - M ∧ M ≤ (us Pp).length ∧ Wx.runM (us Pp) ((us Pp).length - M) M A = Wx.runM (us Pp) ((us Pp).length - m) m tp) _ ⟨rfl, m, tp, rfl, rfl, hm, rfl⟩ ?_
      rintro c σ H' ⟨rfl, M, A, rfl, rfl, hM, hrun⟩
      have fin : ¬ (A = M ∧ M < (us Pp).length) → Wx.runM (us Pp) ((us Pp).length - m) m tp = (M, A) := by
        intro h
        rw [← hrun]
        cases e : (us Pp).length - M with
        | zero => rfl
        | succ f =>
          show (if A = M ∧ M < (us Pp).length then _ else _) = _
          rw [if_neg h]
      walk_at "wp"
      refine ite_ (fun e => ?_) (fun e => ?_)
      · have e1 : A = M := V.int.inj e
        subst e1
        walk_at "wp"
        refine ite_ (fun e => ?_) (fun e => ?_)
        · have e2 : M < (us Pp).length := by omega
          obtain ⟨pc1, hpc1⟩ : ∃ pc1, Pp.1[M]? = some pc1 := ⟨_, List.getElem?_eq_getElem (by omega)⟩
          obtain ⟨u, ws⟩ := pc1
          obtain ⟨vx, hvx, tx, lx, vsx, rfl, htx, hlx, px, _⟩ := pair_at pc hpc1
          have hua := us_at hpc1
          have hua' : Wx.uAt (us Pp) (M : Int) = u := hua
          refine ⟨fun σ' H'' => ∃ m', m' < (us Pp).length - M ∧ H'' = H' ∧ ∃ (M : Nat) (A : Int), σ' = [some (.ref t), some (.ref p), some (.ref q), some (.int M), some (.int A), some (.int m)] ∧ m' = (us Pp).length - M ∧ M ≤ (us Pp).length ∧ Wx.runM (us Pp) ((us Pp).length - M) M A = Wx.runM (us Pp) ((us Pp).length - m) m tp, fun _ _ h => h, ?_⟩
          walk_at "wp"
          refine ixL (SqL.of hp) (atI_nat hvx) ?_
          walk_at "wp"
          refine Wm.augN rfl ?_
          walk_at "wp"
          refine ipi ?_
          walk_at "wp"
          refine ⟨_, by omega, rfl, M + 1, u, rfl, rfl, by omega, ?_⟩
          rw [← hrun, show (us Pp).length - M = ((us Pp).length - (M + 1)) + 1 by omega]
          show _ = (if (M : Int) = M ∧ M < (us Pp).length then Wx.runM (us Pp) ((us Pp).length - (M + 1)) (M + 1) (Wx.uAt (us Pp) M) else _)
          rw [if_pos ⟨rfl, e2⟩, hua']
        · have hfin := fin (fun h => e (by omega))
          rw [hfin] at hg'
          walk_at "wp"
          refine iteN (fun e3 => ?_) (fun e3 => ?_)
          · rw [if_pos (show (M : Int) ≠ -1 ∧ ¬ (0 ≤ (M : Int) ∧ (M : Int) < m) from ⟨by omega, fun h => by omega⟩)] at hg'
            walk_at "wp"
            refine ite_ (fun e5 => ?_) (fun e5 => absurd (by omega) e5)
            walk_at "wp"
            refine iteN (fun e6 => ?_) (fun e6 => absurd e6 (by omega))
            walk_at "wp"
            unfold Wx.numdM at k
            rw [← hg'] at k
            exact k
          · exact absurd (V.int.inj e3) (by omega)
      · have e1 : A ≠ M := fun h => e (by rw [h])
        have hfin := fin (fun h => e1 h.1)
        rw [hfin] at hg'
        walk_at "wp"
        refine iteN (fun e3 => ?_) (fun e3 => ?_)
        · have e4 : A ≠ -1 := fun h => e3 (by rw [h])
          walk_at "wp"
          refine ite_ (fun e5 => ?_) (fun e5 => ?_)
          · walk_at "wp"
            refine iteN (fun e6 => ?_) (fun e6 => ?_)
            · rw [if_pos (show A ≠ -1 ∧ ¬ (0 ≤ A ∧ A < m) from ⟨e4, fun h => e6 h.2⟩)] at hg'
              walk_at "wp"
              unfold Wx.numdM at k
              rw [← hg'] at k
              exact k
            · rw [if_neg (show ¬ (A ≠ -1 ∧ ¬ (0 ≤ A ∧ A < m)) from fun h => h.2 ⟨e5, e6⟩)] at hg'
              walk_at "wp"
              exact ⟨rfl, _, _, M, rfl, hM, hg'⟩
          · rw [if_pos (show A ≠ -1 ∧ ¬ (0 ≤ A ∧ A < m) from ⟨e4, fun h => e5 h.1⟩)] at hg'
            walk_at "wp"
            unfold Wx.numdM at k
            rw [← hg'] at k
            exact k
        · have e4 : A = -1 := V.int.inj e3
          rw [if_neg (show ¬ (A ≠ -1 ∧ ¬ (0 ≤ A ∧ A < m)) from fun h => h.1 e4)] at hg'
          walk_at "wp"
          exact ⟨rfl, _, _, M, rfl, hM, hg'⟩
    · rintro σ H1 ⟨rfl, y4, y5, m, rfl, hm, hg⟩
      rw [List.length_map, List.drop_eq_nil_of_le (Nat.le_refl _)] at hg
      have hg' : some m = Wx.numGo (us Pp) 0 Pp.2 := hg
      walk_at "wp"
      unfold Wx.numdM at k
      rw [← hg'] at k
      have k' : Q (.bl (decide (m = (us Pp).length))) H1 := k
      have ee : decide (V.int (m : Int) = V.int (xs.length : Nat)) = decide (m = (us Pp).length) := by
        by_cases c : m = (us Pp).length
        · rw [decide_eq_true c, decide_eq_true]
          rw [c, xlen, ulen]
        · rw [decide_eq_false c, decide_eq_false]
          intro h
          have := V.int.inj h
          omega
      rw [ee]
      exact k'
def spIsPaper : Sp := fun vs H Q _ => ∃ (v : V) (s : Int) (Pp : Pap), vs = [.int s, v] ∧ IsPap [] H v Pp ∧ Pp.1.length ≤ 900 ∧ Pp.2.length ≤ 90 ∧ 2 ≤ s ∧ s ≤ 64 ∧ ∀ H', Same H H' → Q (.bl (isPaperB s Pp)) H'
theorem ok_is_paper (T : Txt P w K mg) : FnOk P w K mg base CX0 3 T.f_is_paper T.fd_is_paper ["size", "paper"] spIsPaper := by
  have G_is_number := ok_is_number (base := base) T
  have G_check_size := ok_check_size (base := base) T
  have G_leads_of := ok_leads_of (base := base) T
  have G_is_numbered := ok_is_numbered (base := base) T
  refine T.F_is_paper.ok sc_is_paper (fun vs H Q E h => ?_) (fun cdv A outer s H vs Q E hr h => ?_)
  · obtain ⟨v, s, Pp, rfl, _⟩ := h
    rfl
  · obtain ⟨v, s, Pp, rfl, hP, pl, tl, s0, s1, k⟩ := h
    obtain ⟨t, p, q, xs, rfl, ht, hp, pc, hq, _, _⟩ := id hP
    refine ⟨_, (pss_cons (ps_expr (pe_call G_check_size (hr.mono (by decide)) (by rfl) T.g_check_size T.F_check_size.kp T.b_check_size .nil pass0 (pa_cons (pv 0) pa_nil)))
      (pss_cons (ps_if (pt_not (pt_val (pe_callB (cr_all rfl) (by rfl) T.n_all (by decide +kernel) (pa_cons (pe_lc (own := [("at", 2)]) rfl sc_is_paper.nd (pi_list (pe_call G_leads_of (hr.mono (by decide)) (by rfl) T.g_leads_of T.F_leads_of.kp T.b_leads_of .nil pass0 (pa_cons (pv 1) pa_nil))) (blkOk_by (N := ["size", "paper", "at", "_", "worths"]) (sc := defScope s_is_paper) (by decide +kernel)) (fun _ _ _ _ _ => pg_name (i := 2) sc_is_paper.nd rfl (Or.inl rfl)) (fun _ _ _ _ _ => pts_nil) (fun _ _ _ _ _ => (pe_call G_is_number (hr.mono (by decide)) (by rfl) T.g_is_number T.F_is_number.kp T.b_is_number .nil pass0 (pa_cons (pv 2) pa_nil)))) pa_nil)))) (pss_one (ps_ret pe_bl)) pss_nil)
      (pss_cons (ps_if (pt_not (pt_val (pe_callB (cr_all rfl) (by rfl) T.n_all (by decide +kernel) (pa_cons (pe_lc (own := [("_", 3), ("worths", 4)]) rfl sc_is_paper.nd (pi_list (pe_ix ix_tup (pv 1) pe_int (fun _ _ => rfl))) (blkOk_by (N := ["size", "paper", "at", "_", "worths"]) (sc := defScope s_is_paper) (by decide +kernel)) (fun _ _ _ _ _ => (show PG _ _ (gTup K 2 _) from pg_tup (by rfl) (pgs_cons (pg_name (i := 3) sc_is_paper.nd rfl (Or.inl rfl)) (pgs_cons (pg_name (i := 4) sc_is_paper.nd rfl (Or.inl rfl)) pgs_nil)))) (fun _ _ _ _ _ => pts_nil) (fun _ _ _ _ _ => (pe_chain op_le op_le pe_int (pe_callB (show CallR _ _ (Wp.rLenS K) from Wp.call_lenS) (by rfl) T.n_len (by decide +kernel) (pa_cons (pv 4) pa_nil)) (pv 0)))) pa_nil)))) (pss_one (ps_ret pe_bl)) pss_nil)
      (pss_one (ps_ret (pe_call G_is_numbered (hr.mono (by decide)) (by rfl) T.g_is_numbered T.F_is_numbered.kp T.b_is_numbered .nil pass0 (pa_cons (pv 1) pa_nil))))))), ?_⟩
    rw [show L2.start ["size", "paper", "at", "_", "worths"] [.int s, .ref t] = [some (.int s), some (.ref t), none, none, none] from rfl]
    try dsimp only [cxOf]
    walk_at "wp"
    refine ⟨s, rfl, s0, s1, ?_⟩
    walk_at "wp"
    refine ⟨_, _, rfl, hP, by omega, by omega, fun l H1 hl hl1 s1' => ?_⟩
    have hP1 := hP.keep (Ks.same s1')
    walk_at "wp"
    refine ⟨⟨_, SqL.of hl1⟩, fun D hD => ?_⟩
    have llen : (leadsM Pp).length ≤ 990 := by
      unfold leadsM
      rw [List.length_append, List.length_map]; omega
    refine loopCL (xs := (leadsM Pp).map V.int) (fun j H' => Same H1 H' ∧ H' D = some (.lst ((List.replicate j true).map V.bl))) ⟨same_new hD, upd_same⟩ (fun j H' _ ⟨s, _⟩ => SqL.of (s _ _ hl1)) ?_ ?_
    · rintro j x H4 hj ⟨s4, hD4⟩
      have hj2 := (List.getElem?_eq_some_iff.mp hj).1
      rw [List.length_map] at hj2
      obtain ⟨u, rfl⟩ : ∃ u : Int, x = .int u := by
        rw [List.getElem?_map] at hj
        cases e : (leadsM Pp)[j]? with
        | none => rw [e] at hj; cases hj
        | some v => rw [e] at hj; exact ⟨v, (Option.some.inj hj).symm⟩
      walk_at "wp"
      refine ⟨_, _, rfl, .int _, ?_⟩
      walk_at "wp"
      refine ⟨_, hD4, ?_, ?_, ?_⟩
      · rw [List.length_map, List.length_replicate]; exact small1000 (by omega)
      · intro q z hq
        rw [upd_ne (ne_of_none hq hD)]
        exact s4 _ _ hq
      · rw [upd_same, List.replicate_succ', List.map_append] <;> rfl
    rintro H4 ⟨s4, hD4⟩
    rw [List.length_map] at hD4
    have hP4 := hP1.keep (Ks.same s4)
    obtain ⟨t', p', q', xs', e', ht4, hp4, pc4, hq4, _, _⟩ := id hP4
    cases e'
    walk_at "wp"
    refine ⟨D, _, rfl, SqL.of hD4, ?_⟩
    have eall : (List.replicate (leadsM Pp).length true).all id = true := by
      rw [List.all_eq_true]
      intro b hb
      rw [List.eq_of_mem_replicate hb] <;> rfl
    rw [eall]
    walk_at "wp"
    refine ⟨⟨_, SqL.of hp4⟩, fun D2 hD2 => ?_⟩
    refine loopCL (xs := xs') (fun j H' => Same H4 H' ∧ H' D2 = some (.lst (((Pp.1.take j).map (okLen s)).map V.bl))) ⟨same_new hD2, upd_same⟩ (fun j H' _ ⟨s, _⟩ => SqL.of (s _ _ hp4)) ?_ ?_
    · rintro j x H5 hj ⟨s5, hD5⟩
      obtain ⟨⟨u, ws⟩, hy, tx, lx, vsx, rfl, htx0, hlx0, px, _⟩ := pair_at1 pc4 hj
      have htx := s5 _ _ htx0
      have hlx := s5 _ _ hlx0
      have el : vsx.length = ws.length := px.len
      have put : ∀ b : Bool, b = okLen s (u, ws) → ∃ acc, H5 D2 = some (.lst acc) ∧ acc.length < sizeLine ∧ Same H4 (upd H5 D2 (.lst (acc ++ [V.bl b]))) ∧ upd H5 D2 (.lst (acc ++ [V.bl b])) D2 = some (.lst (((Pp.1.take (j + 1)).map (okLen s)).map V.bl)) := by
        rintro b rfl
        refine ⟨_, hD5, ?_, ?_, ?_⟩
        · rw [List.length_map, List.length_map, List.length_take]; exact small1000 (by omega)
        · intro q z hq
          rw [upd_ne (ne_of_none hq hD2)]
          exact s5 _ _ hq
        · rw [upd_same, List.take_add_one, hy, List.map_append, List.map_append] <;> rfl
      walk_at "wp"
      refine lenS_ (SqL.of hlx) ?_
      walk_at "wp"
      refine ite_ (fun c => ?_) (fun c => ?_)
      · walk_at "wp"
        refine put _ ?_
        unfold okLen
        rw [← el, if_pos c]
      · walk_at "wp"
        refine put _ ?_
        unfold okLen
        rw [← el, if_neg c]
    rintro H5 ⟨s5, hD5⟩
    rw [pc4.len, List.take_of_length_le (Nat.le_refl _)] at hD5
    walk_at "wp"
    refine ⟨D2, _, rfl, SqL.of hD5, ?_⟩
    have s15 : Same H H5 := s1'.trans (s4.trans s5)
    unfold isPaperB at k
    cases eb : ((Pp.1.map (okLen s)).all id) with
    | false =>
      rw [eb] at k
      walk_at "wp"
      exact k _ s15
    | true =>
      rw [eb] at k
      walk_at "wp"
      refine ⟨_, _, rfl, hP4.keep (Ks.same s5), pl, ?_⟩
      exact k _ s15
end
end K08

namespace K08
open PySem PySem.Spec PyProof.Rows L2 Wp Wq Wr Wn Wm
local macro_rules | `(tactic| walk_at "ne") => `(tactic| first
  | assumption
  | (refine Ne.symm ?_; assumption)
  | exact ne_of_none (by assumption) (by assumption)
  | exact (ne_of_none (by assumption) (by assumption)).symm
  | exact ne_of (by assumption) (by assumption) (by intro q; cases q))
local macro_rules | `(tactic| walk_at "hp") => `(tactic| first
  | assumption
  | exact upd_same
  | (refine (upd_ne ?_).trans ?_; (walk_at "ne"); (walk_at "hp")))
local macro_rules | `(tactic| walk_at "sq") => `(tactic| first
  | assumption
  | exact SqL.of (by walk_at "hp")
  | exact SqT.of (by walk_at "hp"))
local macro_rules | `(tactic| walk_at "kind") => `(tactic| first
  | assumption
  | exact Kind.int _
  | exact Kind.str _
  | exact Kind.bl _
  | exact Kind.non
  | exact Kind.tup (by walk_at "hp")
  | exact Kind.lst (by walk_at "hp")
  | exact Kind.dK (by walk_at "hp"))
local macro_rules | `(tactic| walk_at "w1") => `(tactic| first
  | (with_reducible refine Wp.seq ?_)
  | (with_reducible refine Wp.nx_mk ?_)
  | (with_reducible refine Wp.rt_mk ?_)
  | (with_reducible refine Wp.bk_mk ?_)
  | (with_reducible refine Wp.ct_mk ?_)
  | (with_reducible refine Wp.next ?_)
  | (with_reducible refine Wp.asg ?_)
  | ((with_reducible refine' Wp.gname ?e ?_); (case e => (try dsimp only [List.set, L2.wipe, List.map_cons, List.map_nil]); (try exact rfl)))
  | (with_reducible refine Wp.gsub ?_)
  | (with_reducible refine Wp.ret ?_)
  | (with_reducible refine Wp.retN ?_)
  | (with_reducible refine Wp.drop ?_)
  | (with_reducible refine Wp.dput ?_)
  | (with_reducible refine Wp.ifs ?_)
  | ((with_reducible refine' Wp.var ?h ?_); (case h => exact rfl))
  | (with_reducible refine Wp.con ?_)
  | (with_reducible refine Wp.op ?_)
  | (with_reducible refine Wp.un ?_)
  | (with_reducible refine Wp.cb ?_)
  | (with_reducible refine Wp.anil ?_)
  | (with_reducible refine Wp.acons ?_)
  | (with_reducible refine Wp.call ?_)
  | (with_reducible refine Wp.test ?_)
  | (with_reducible refine Wp.tb_ ?_)
  | (with_reducible refine Wp.and_ ?_)
  | (with_reducible refine Wp.or_ ?_)
  | (with_reducible refine Wp.not_ ?_)
  | (with_reducible refine Wp.andV ?_)
  | (with_reducible refine Wp.orV ?_)
  | (with_reducible refine Wp.notV ?_)
  | (with_reducible refine Wp.rI0_ ?_)
  | (with_reducible refine Wp.rU_ ?_)
  | ((with_reducible refine Wp.rEq_ ?k ?_); (case k => exact rfl))
  | ((with_reducible refine Wp.rNe_ ?k ?_); (case k => exact rfl))
  | (with_reducible refine Wp.gcons ?_)
  | (with_reducible refine Wp.gnil ?_)
  | ((with_reducible refine' Wp.gtup ?h ?e ?_); (case h => walk_at "sq"); (case e => exact rfl))
  | (with_reducible refine Wp.sl ?_)
  | (with_reducible refine Wp.part ?_)
  | (with_reducible refine Wp.nopart ?_)
  | (with_reducible refine Wp.ifE ?_)
  | (with_reducible refine Wp.bm0 ?_)
  | (with_reducible refine Wp.bm ?_)
  | (with_reducible refine Wp.lcR1 ?_)
  | (with_reducible refine Wp.lcR2 ?_)
  | (with_reducible refine Wp.lcL ?_)
  | (with_reducible refine Wp.chain ?_)
  | (with_reducible refine Wp.lc2V ?_)
  | (with_reducible refine Wp.piL ?_)
  | (with_reducible refine Wp.yes ?_)
  | (with_reducible refine Wp.dinI ?_)
  | (with_reducible refine Wp.dninI ?_)
  | (with_reducible refine Wp.dget ?_)
  | ((with_reducible refine' ⟨?k, ?_⟩); (case k => show L2.wipe _ _ = L2.wipe _ _; exact rfl))
  | (with_reducible refine Wp.forR1 ?_)
  | (with_reducible refine Wp.forR2 ?_)
  | (with_reducible refine Wp.forL ?_)
  | (with_reducible refine Wp.forT ?_)
  | ((with_reducible refine' ⟨?k, ?_⟩); (case k => exact Wp.tyvL (by walk_at "hp")))
  | ((with_reducible refine' Wp.rev_ ?k ?_); (case k => walk_at "hp"))
  | ((with_reducible refine' Wp.isi ?k ?h ?_); (case k => walk_at "kind"); (case h => decide))
  | ((with_reducible refine' Wp.typ ?k ?_); (case k => walk_at "kind"))
  | (with_reducible refine Wp.slS ?k ?_; (case k => assumption))
  | (with_reducible refine iteT ?_)
  | (with_reducible refine iteF ?_)
  | (with_reducible refine Wp.pcons ?_)
  | (with_reducible refine Wp.pnil ?_)
  | ((with_reducible refine' Wp.iteBnT ?h ?_); (case h => show isB _ _ = false; decide))
  | ((with_reducible refine' Wp.iteBnF ?h ?_); (case h => show isB _ _ = true; decide))
  | ((with_reducible refine' Wp.iteBt ?h ?_); (case h => show isB _ _ = true; decide))
  | ((with_reducible refine' Wp.iteBf ?h ?_); (case h => show isB _ _ = false; decide))
  | (with_reducible refine Wp.iteT' ?_)
  | (with_reducible refine Wp.iteF' ?_)
  | (with_reducible refine Wp.rNT_ ?_)
  | ((with_reducible refine Wp.lst ?_))
  | ((with_reducible refine Wp.tup ?_))
  | ((with_reducible refine' Wp.ixL ?h ?e ?_); (case h => walk_at "sq"); (case e => exact rfl))
  | ((with_reducible refine' Wp.ixT ?h ?e ?_); (case h => walk_at "sq"); (case e => exact rfl))
  | ((with_reducible refine' Wp.setL ?h ?e ?_); (case h => walk_at "hp"); (case e => exact rfl))
  | ((with_reducible refine Wp.rI_ ?k ?_); (case k => first | (show (0:Int) < _; omega) | (show CPow _ _; refine' ⟨?_, ?_, ?_⟩ <;> omega) | (show CDiv _ _; refine' ⟨?_, ?_⟩ <;> omega) | (show CMul _ _; refine' Or.inl ⟨?_, ?_⟩ <;> omega) | (show CMul _ _; refine' Or.inr ⟨?_, ?_⟩ <;> first | omega | decide) | (show CDivW _ _; refine' wide_div (b := 240) ?_ ?_ ?_ ?_ <;> first | omega | decide)))
  | ((with_reducible refine ⟨?k, ?_⟩); (case k => first | exact Nat.zero_le _ | (exact Nat.le_of_ble_eq_true rfl)); intro p hp)
  | ((with_reducible refine' ⟨_, _, rfl, .inl ?k, ?_⟩); (case k => walk_at "sq"))
  | ((with_reducible refine' ⟨_, _, rfl, .inr ?k, ?_⟩); (case k => walk_at "sq"))
  | (with_reducible refine ⟨_, rfl, ?_⟩)
  | (with_reducible refine ⟨_, _, rfl, rfl, ?_⟩)
  | (with_reducible refine ⟨_, _, rfl, ?_⟩))
local macro_rules | `(tactic| walk_at "wp") => `(tactic| repeat (walk_at "w1"))

theorem at_last {pre : List Int} {a : Int} : atI ((pre ++ [a]).map V.int) (-1) = some (.int a) := by
  unfold atI ixN
  have hl : ((pre ++ [a]).map V.int).length = pre.length + 1 := by rw [List.length_map, List.length_append] <;> rfl
  rw [if_neg (by decide), if_pos (by rw [hl]; omega), hl]
  show ((pre ++ [a]).map V.int)[(-1 + ((pre.length + 1 : Nat) : Int)).toNat]? = _
  rw [show (-1 + ((pre.length + 1 : Nat) : Int)).toNat = pre.length by omega, List.map_append, List.getElem?_append_right (by rw [List.length_map]; exact Nat.le_refl _), List.length_map, Nat.sub_self] <;> rfl
theorem cut_last {pre : List Int} {a : Int} : cutV ((pre ++ [a]).map V.int) none (some (-1)) = pre.map V.int := by
  unfold cutV
  have hl : ((pre ++ [a]).map V.int).length = pre.length + 1 := by rw [List.length_map, List.length_append] <;> rfl
  rw [hl, show HT.sIx (pre.length + 1) 0 none = 0 from rfl, show HT.sIx (pre.length + 1) (pre.length + 1) (some (-1)) = pre.length by
    show (if (-1 : Int) < 0 then ((-1 : Int) + ((pre.length + 1 : Nat) : Int)).toNat else min (-1 : Int).toNat (pre.length + 1)) = _
    rw [if_pos (by decide)]
    omega]
  rw [List.drop_zero, Nat.sub_zero, List.map_append, List.take_append_of_le_length (by rw [List.length_map]; exact Nat.le_refl _), List.take_of_length_le (by rw [List.length_map]; exact Nat.le_refl _)]
theorem eqv_nil (ns : List Int) : PyData.eqv (.list (ns.map PyData.int)) (.list []) = decide (ns = []) := by
  cases ns with
  | nil => simp [PyData.eqv, PyData.eqvAll]
  | cons x r => simp [PyData.eqv, PyData.eqvAll]
def stray1 (o l : List Int) : List Int := l.filter fun a => decide ((o.idxOf a : Int) ≠ a)
theorem row_stop {u : List Int} {F : Nat} {a : Int} (h : F = 0 ∨ a = -1) : Wx.rowM u F a = [a] := by
  rcases h with rfl | rfl
  · rfl
  · exact Wx.row_nil
section
variable {P : Program} {w : World} {K : PySem.W.Frag} {mg : Str → Option Value} {base : Heap}
def spRight : Sp := fun vs H Q _ => ∃ (p q : Addr) (xs : List V) (s : Int) (Pp : Pap), vs = [.int s, .ref p, .ref q] ∧ H p = some (.lst xs) ∧ Pieces [] H xs Pp.1 ∧ H q = some (.lst (Pp.2.map V.int)) ∧ Pp.1.length ≤ 900 ∧ Pp.2.length ≤ 90 ∧ ∀ H', Same H H' → Q (.bl (isPaperB s Pp)) H'
theorem ok_right (T : Txt P w K mg) : FnOk P w K mg base CX0 1 T.f_right T.fd_right ["size", "pieces", "tops"] spRight := by
  refine T.F_right.ok sc_right (fun vs H Q E h => ?_) (fun cdv A outer s H vs Q E hr h => ?_)
  · obtain ⟨p, q, xs, s, Pp, rfl, _⟩ := h
    rfl
  · obtain ⟨p, q, xs, s, Pp, rfl, hp, pc, hq, pl, tl, k⟩ := h
    have xlen := pc.len
    have kF : ¬ rightB s Pp → ∀ H', Same H H' → Q (.bl false) H' := fun h H' s' => by
      have e : isPaperB s Pp = false := by
        cases e : isPaperB s Pp with
        | false => rfl
        | true => exact absurd (paper_right.mp e) h
      rw [← e]
      exact k H' s'
    refine ⟨_, (pss_cons (ps_set (i := 3) sc_right.nd rfl (.inl rfl) (pe_callB call_len_seq (by rfl) T.n_len (by decide +kernel) (pa_cons (pv 1) pa_nil)))
      (pss_cons (ps_for PassesOwn.never rfl (pi_list (pv 1)) (pg_tup (by rfl) (pgs_cons (pg_name (i := 4) sc_right.nd rfl (.inl rfl)) (pgs_cons (pg_name (i := 5) sc_right.nd rfl (.inl rfl)) pgs_nil))) (pss_one (ps_if (PW.pt (pw_or (pt_cmpR op_lt (pv 4) (pe_un un_neg pe_int) (nomark _)) (pw_or (pt_cmpR op_ge (pv 4) (pv 3) (nomark _)) (pw_or (pt_cmpR op_lt (pe_callB call_len_seq (by rfl) T.n_len (by decide +kernel) (pa_cons (pv 5) pa_nil)) pe_int (nomark _)) (pw_or1 (pt_cmpR op_gt (pe_callB call_len_seq (by rfl) T.n_len (by decide +kernel) (pa_cons (pv 5) pa_nil)) (pv 0) (nomark _))))))) (pss_one (ps_ret pe_bl)) pss_nil)))
      (pss_cons (ps_set (i := 6) sc_right.nd rfl (.inr rfl) pe_dnewK)
      (pss_cons (ps_for PassesOwn.never rfl (pi_list (pv 2)) (pg_name (i := 7) sc_right.nd rfl (.inl rfl)) (pss_cons (ps_if (PW.pt (pw_or (pt_cmpR op_lt (pv 7) (pe_un un_neg pe_int) (nomark _)) (pw_or1 (pt_cmpR op_ge (pv 7) (pv 3) (nomark _))))) (pss_one (ps_ret pe_bl)) pss_nil)
      (pss_cons (ps_set (i := 8) sc_right.nd rfl (.inl rfl) (pe_lst (pa_cons (pv 7) pa_nil)))
      (pss_cons (ps_while PassesOwn.never (PW.pt (pw_and (pt_cmpR op_ne (pe_ix ix_list (pv 8) (pe_un un_neg pe_int) (fun _ _ => rfl)) (pe_un un_neg pe_int) (nomark _)) (pw_and1 (pt_cmpR op_le (pe_callB call_len_seq (by rfl) T.n_len (by decide +kernel) (pa_cons (pv 8) pa_nil)) (pv 3) (nomark _))))) (pss_one (ps_expr (pe_bm PySem.F.plainAttrs_list PySem.F.slot_list_append PySem.F.type_list_append mt_append (pv 8) (pa_cons (pe_ix ix_tup (pe_ix ix_list (pv 1) (pe_ix ix_list (pv 8) (pe_un un_neg pe_int) (fun _ _ => rfl)) (fun _ _ => rfl)) pe_int (fun _ _ => rfl)) pa_nil)))))
      (pss_cons (ps_if (pt_cmpR op_ne (pe_ix ix_list (pv 8) (pe_un un_neg pe_int) (fun _ _ => rfl)) (pe_un un_neg pe_int) (nomark _)) (pss_one (ps_ret pe_bl)) pss_nil)
      (pss_one (ps_for PassesOwn.never rfl (pi_list (pe_slice sl_list (pv 8) po_none (po_some (pe_un un_neg pe_int)))) (pg_name (i := 9) sc_right.nd rfl (.inl rfl)) (pss_one (ps_if (pt_cmp (pc_dnotin (hu_of hr) (pv 9) (pv 6))) (pss_one (ps_dput (hu_of hr) (pv 6) (pv 9) (pe_callB call_lenD (by rfl) T.n_len (by decide +kernel) (pa_cons (pv 6) pa_nil)) rfl)) pss_nil)))))))))
      (pss_one (ps_ret (pe_and (pe_cmpR (op_eqD hr.units) (pe_lock (pe_lc (own := [("at", 9)]) rfl sc_right.nd (pi_keys (pv 6)) (blkOk_by (N := ["size", "pieces", "tops", "many", "under", "worths", "came", "top", "row", "at"]) (sc := defScope s_right) (by decide +kernel)) (fun _ _ _ _ _ => pg_name (i := 9) sc_right.nd rfl (Or.inl rfl)) (fun _ _ _ _ _ => pts_one (pt_cmpR op_ne (pe_dget (hu_of hr) (pv 6) (pv 9) (fun _ _ => rfl)) (pv 9) (nomark _))) (fun _ _ _ _ _ => (pv 9)))) (pe_lst pa_nil) (nomark _)) (pe_one (pe_cmpR op_eq (pe_callB call_lenD (by rfl) T.n_len (by decide +kernel) (pa_cons (pv 6) pa_nil)) (pv 3) (nomark _)))))))))), ?_⟩
    rw [show L2.start ["size", "pieces", "tops", "many", "under", "worths", "came", "top", "row", "at"] [.int s, .ref p, .ref q] = [some (.int s), some (.ref p), some (.ref q), none, none, none, none, none, none, none] from rfl]
    try dsimp only [cxOf]
    walk_at "wp"
    rw [xlen]
    refine ⟨⟨_, SqL.of hp⟩, loopL (xs := xs) (fun i σ H' => H' = H ∧ ∃ y4 y5, σ = [some (.int s), some (.ref p), some (.ref q), some (.int (Pp.1.length : Nat)), y4, y5, none, none, none, none] ∧ ∀ (j : Nat) (pc : Pc), j < i → Pp.1[j]? = some pc → ¬ badPc Pp.1.length s pc)
      ⟨rfl, _, _, rfl, fun j _ h => absurd h (Nat.not_lt_zero _)⟩ (fun i σ H' _ ⟨e, _⟩ => by subst e; exact SqL.of hp) ?_ ?_⟩
    · rintro i x σ H1 hi ⟨rfl, y4, y5, rfl, hgood⟩
      obtain ⟨⟨u, ws⟩, hy, tx, lx, vsx, rfl, htx, hlx, px, _⟩ := pair_at1 pc hi
      have el : vsx.length = ws.length := px.len
      have bad : badPc Pp.1.length s (u, ws) → ∀ H', Same H1 H' → Q (.bl false) H' := fun b => kF fun r => r.1 _ (List.mem_of_getElem? hy) b
      have good : ¬ badPc Pp.1.length s (u, ws) → ∀ (j : Nat) (pc : Pc), j < i + 1 → Pp.1[j]? = some pc → ¬ badPc Pp.1.length s pc := fun g j pc hj hjp => by
        by_cases e : j = i
        · subst e
          rw [hy] at hjp
          cases hjp
          exact g
        · exact hgood j pc (by omega) hjp
      have same0 : Same H1 H1 := fun _ _ h => h
      walk_at "wp"
      refine ite_ (fun c => ?_) (fun c1 => ?_)
      · walk_at "wp"
        exact bad (.inl c) _ same0
      walk_at "wp"
      refine ite_ (fun c => ?_) (fun c2 => ?_)
      · walk_at "wp"
        exact bad (.inr (.inl c)) _ same0
      walk_at "wp"
      refine ite_ (fun c => ?_) (fun c3 => ?_)
      · walk_at "wp"
        exact bad (.inr (.inr (.inl (by rw [← el]; exact c)))) _ same0
      walk_at "wp"
      refine ite_ (fun c => ?_) (fun c4 => ?_)
      · walk_at "wp"
        exact bad (.inr (.inr (.inr (by rw [← el]; exact c)))) _ same0
      walk_at "wp"
      refine ⟨rfl, _, _, rfl, good fun b => ?_⟩
      rcases b with b | b | b | b
      · exact c1 b
      · exact c2 b
      · exact c3 (by rw [el]; exact b)
      · exact c4 (by rw [el]; exact b)
    rintro σ H1 ⟨rfl, y4, y5, rfl, hgood⟩
    have good1 : ∀ pc ∈ Pp.1, ¬ badPc Pp.1.length s pc := fun pc h => by
      obtain ⟨i, hi, e⟩ := List.getElem_of_mem h
      exact hgood i pc (by rw [xlen]; exact hi) (by rw [← e]; exact List.getElem?_eq_getElem hi)
    have ulen : (us Pp).length = Pp.1.length := us_len
    have hr : Wx.inR (us Pp) := by
      intro a ha
      obtain ⟨p, hp, rfl⟩ := List.mem_map.mp ha
      have := good1 p hp
      unfold badPc at this
      rw [us_len]
      omega
    have kG : Wx.rightGo (us Pp) [] Pp.2 = none → ∀ H', Same H1 H' → Q (.bl false) H' := fun e => kF fun r => by
      obtain ⟨o, ho, _⟩ := r.2
      rw [e] at ho
      cases ho
    walk_at "wp"
    intro d hd
    walk_at "wp"
    have sd := same_new (o := .dK []) hd
    refine ⟨⟨_, SqL.of (sd _ _ hq)⟩, loopL (xs := Pp.2.map V.int) (fun i σ H' => ∃ y4 y5 y7 y8 y9 o, σ = [some (.int s), some (.ref p), some (.ref q), some (.int (Pp.1.length : Nat)), y4, y5, some (.ref d), y7, y8, y9] ∧ Same H1 H' ∧ H' d = some (.dK (ents 0 o)) ∧ Wx.rightGo (us Pp) o (Pp.2.drop i) = Wx.rightGo (us Pp) [] Pp.2 ∧ o.Nodup ∧ ∀ a ∈ o, 0 ≤ a ∧ a < Pp.1.length)
      ⟨_, _, _, _, _, [], rfl, sd, upd_same, rfl, List.nodup_nil, (fun _ h => nomatch h)⟩ (fun i σ H' _ ⟨_, _, _, _, _, _, _, s, _⟩ => SqL.of (s _ _ hq)) ?_ ?_⟩
    · rintro i x σ H2 hi ⟨y4, y5, y7, y8, y9, o, rfl, s2, hd2, hg, nd, org⟩
      obtain ⟨t, hu, rfl⟩ : ∃ u, Pp.2[i]? = some u ∧ x = .int u := by
        rw [List.getElem?_map] at hi
        cases e : Pp.2[i]? with
        | none => rw [e] at hi; cases hi
        | some v => rw [e] at hi; exact ⟨v, rfl, (Option.some.inj hi).symm⟩
      have hdr : Pp.2.drop i = t :: Pp.2.drop (i + 1) := by
        obtain ⟨h1, h2⟩ := List.getElem?_eq_some_iff.mp hu
        rw [List.drop_eq_getElem_cons h1, h2]
      rw [hdr] at hg
      have hg' : (if t < -1 ∨ t ≥ (us Pp).length then none else if (Wx.rowM (us Pp) (us Pp).length t).getLast? ≠ some (-1) then none else Wx.rightGo (us Pp) (Wx.addM o (Wx.rowM (us Pp) (us Pp).length t).dropLast) (Pp.2.drop (i + 1))) = Wx.rightGo (us Pp) [] Pp.2 := hg
      rw [ulen] at hg'
      walk_at "wp"
      refine ite_ (fun c => ?_) (fun c1 => ?_)
      · rw [if_pos (Or.inl c)] at hg'
        walk_at "wp"
        exact kG hg'.symm _ s2
      walk_at "wp"
      refine ite_ (fun c => ?_) (fun c2 => ?_)
      · rw [if_pos (Or.inr c)] at hg'
        walk_at "wp"
        exact kG hg'.symm _ s2
      have t0 : -1 ≤ t := by omega
      have t1 : t < Pp.1.length := by omega
      rw [if_neg (by omega)] at hg'
      walk_at "wp"
      rename_i r hrr
      have s3 := s2.trans (same_new (o := .lst [.int t]) hrr)
      have hrd : r ≠ d := (ne_of_none hd2 hrr).symm
      have hrH1 : H1 r = none := s2.free hrr
      have hd3 := (same_new (o := .lst [V.int t]) hrr) _ _ hd2
      refine Wp.whileW (fun c σ H' => ∃ (pre : List Int) (a : Int), σ = [some (.int s), some (.ref p), some (.ref q), some (.int (Pp.1.length : Nat)), y4, y5, some (.ref d), some (.int t), some (.ref r), y9] ∧ c = Pp.1.length - pre.length ∧ pre.length ≤ Pp.1.length ∧ H' r = some (.lst ((pre ++ [a]).map V.int)) ∧
        H' d = some (.dK (ents 0 o)) ∧ Same H1 H' ∧ -1 ≤ a ∧ a < Pp.1.length ∧ (∀ x ∈ pre, 0 ≤ x ∧ x < (Pp.1.length : Int)) ∧ pre ++ Wx.rowM (us Pp) (Pp.1.length - pre.length) a = Wx.rowM (us Pp) Pp.1.length t) _
        ⟨[], t, rfl, rfl, Nat.zero_le _, upd_same, hd3, s3, t0, t1, (fun _ h => nomatch h), rfl⟩ ?_
      rintro c σ H4 ⟨pre, a, rfl, rfl, prel, hr4, hd4, s4, a0, a1, prr, erow⟩
      have hlen : ((pre ++ [a]).map V.int).length = pre.length + 1 := by rw [List.length_map, List.length_append] <;> rfl
      have after : (Pp.1.length - pre.length = 0 ∨ a = -1) → Wx.rowM (us Pp) Pp.1.length t = pre ++ [a] := fun h => by rw [← erow, row_stop h]
      walk_at "wp"
      refine ixL (SqL.of hr4) at_last ?_
      walk_at "wp"
      refine iteN (fun e => ?_) (fun e => ?_)
      · have an : a ≠ -1 := fun h => e (by rw [h] <;> rfl)
        walk_at "wp"
        rw [hlen]
        refine ite_ (fun c3 => ?_) (fun c3 => ?_)
        · have hlt : pre.length < Pp.1.length := by omega
          refine ⟨fun σ' H' => ∃ m', m' < Pp.1.length - pre.length ∧ ∃ (pre : List Int) (a : Int), σ' = [some (.int s), some (.ref p), some (.ref q), some (.int (Pp.1.length : Nat)), y4, y5, some (.ref d), some (.int t), some (.ref r), y9] ∧ m' = Pp.1.length - pre.length ∧ pre.length ≤ Pp.1.length ∧ H' r = some (.lst ((pre ++ [a]).map V.int)) ∧
            H' d = some (.dK (ents 0 o)) ∧ Same H1 H' ∧ -1 ≤ a ∧ a < Pp.1.length ∧ (∀ x ∈ pre, 0 ≤ x ∧ x < (Pp.1.length : Int)) ∧ pre ++ Wx.rowM (us Pp) (Pp.1.length - pre.length) a = Wx.rowM (us Pp) Pp.1.length t, fun _ _ h => h, ?_⟩
          have hax : a.toNat < Pp.1.length := by omega
          obtain ⟨⟨u, ws⟩, hpa⟩ : ∃ pa, Pp.1[a.toNat]? = some pa := ⟨_, List.getElem?_eq_getElem hax⟩
          obtain ⟨vx, hvx, tx, lx, vsx, rfl, htx0, hlx, px, _⟩ := pair_at pc hpa
          have htx := s4 _ _ htx0
          have ea : ((a.toNat : Nat) : Int) = a := by omega
          have hua : Wx.uAt (us Pp) a = u := by
            have := us_at hpa
            rw [ea] at this
            exact this
          have hur := hr u (List.mem_map.mpr ⟨_, List.mem_of_getElem? hpa, rfl⟩)
          rw [ulen] at hur
          walk_at "wp"
          refine ixL (SqL.of hr4) at_last ?_
          walk_at "wp"
          refine ixL (SqL.of (s4 _ _ hp)) (atI_of (show a = (a.toNat : Int) by omega) hvx) ?_
          walk_at "wp"
          refine app_ hr4 ?_ ?_
          · rw [hlen]; exact small1000 (by omega)
          walk_at "wp"
          have el2 : (pre ++ [a]).length = pre.length + 1 := by rw [List.length_append] <;> rfl
          refine ⟨_, ?_, pre ++ [a], u, rfl, rfl, ?_, ?_, ?_, ?_, hur.1, hur.2, ?_, ?_⟩
          · rw [el2]; omega
          · rw [el2]; omega
          · rw [upd_same, List.map_append (l₁ := pre ++ [a])] <;> rfl
          · rw [upd_ne hrd.symm]; exact hd4
          · intro z w hz
            rw [upd_ne (ne_of_none hz hrH1)]
            exact s4 _ _ hz
          · intro x hx
            rcases List.mem_append.mp hx with hx | hx
            · exact prr x hx
            · rw [List.mem_singleton.mp hx]; omega
          · rw [← erow, el2, show Pp.1.length - pre.length = (Pp.1.length - (pre.length + 1)) + 1 by omega, Wx.row_cons an, hua, List.append_assoc] <;> rfl
        · have e2 := after (.inl (by omega))
          rw [e2, List.getLast?_concat, if_pos (fun h => an (Option.some.inj h))] at hg'
          walk_at "wp"
          refine ixL (SqL.of hr4) at_last ?_
          walk_at "wp"
          refine iteN (fun _ => ?_) (fun e => absurd (V.int.inj e) an)
          walk_at "wp"
          exact kG hg'.symm _ s4
      · have ae : a = -1 := V.int.inj e
        have e2 := after (.inr ae)
        subst ae
        rw [e2, List.getLast?_concat, if_neg (fun h => h rfl), List.dropLast_concat] at hg'
        walk_at "wp"
        refine ixL (SqL.of hr4) at_last ?_
        walk_at "wp"
        refine iteN (fun e => absurd rfl e) (fun _ => ?_)
        walk_at "wp"
        refine slL (SqL.of hr4) fun r2 hr2 => ?_
        have ecut : ∀ m : Int, m = -1 → cutV ((pre ++ [-1]).map V.int) none (some m) = pre.map V.int := fun m e => by rw [e]; exact cut_last
        rw [ecut _ (by rfl)]
        have s5 := s4.trans (same_new (o := .lst (pre.map V.int)) hr2)
        have hd5 := (same_new (o := .lst (pre.map V.int)) hr2) _ _ hd4
        have hdr2 : r2 ≠ d := (ne_of_none hd4 hr2).symm
        have hdH1 : H1 d = none := hd
        walk_at "wp"
        refine ⟨⟨_, SqL.of upd_same⟩, loopL (xs := pre.map V.int) (fun j σ H' => ∃ y9 o', σ = [some (.int s), some (.ref p), some (.ref q), some (.int (Pp.1.length : Nat)), y4, y5, some (.ref d), some (.int t), some (.ref r), y9] ∧ Same H1 H' ∧ H' r2 = some (.lst (pre.map V.int)) ∧ H' d = some (.dK (ents 0 o')) ∧ o' = Wx.addM o (pre.take j) ∧ o'.Nodup ∧ ∀ a ∈ o', 0 ≤ a ∧ a < Pp.1.length)
          ⟨_, _, rfl, s5, upd_same, hd5, rfl, nd, org⟩ (fun j σ H' _ ⟨_, _, _, _, h, _⟩ => SqL.of h) ?_ ?_⟩
        · rintro j x σ H6 hj ⟨y9', o', rfl, s6, hr6, hd6, eo, nd6, org6⟩
          obtain ⟨z, hz, rfl⟩ : ∃ u, pre[j]? = some u ∧ x = .int u := by
            rw [List.getElem?_map] at hj
            cases e : pre[j]? with
            | none => rw [e] at hj; cases hj
            | some v => rw [e] at hj; exact ⟨v, rfl, (Option.some.inj hj).symm⟩
          have zr := prr z (List.mem_of_getElem? hz)
          have est : Wx.addM o (pre.take (j + 1)) = if z ∈ o' then o' else o' ++ [z] := by
            rw [List.take_add_one, hz, eo]
            unfold Wx.addM
            rw [List.foldl_append] <;> rfl
          have olen : o'.length ≤ Pp.1.length := nodup_bound nd6 org6
          walk_at "wp"
          refine ⟨d, _, rfl, DGet.k (k := Sum.inl z) hd6, ?_⟩
          rw [ents_val]
          walk_at "wp"
          by_cases c : z ∈ o'
          · rw [if_pos c] at est ⊢
            walk_at "wp"
            exact ⟨_, _, rfl, s6, hr6, hd6, est.symm, nd6, org6⟩
          · rw [if_neg c] at est ⊢
            walk_at "wp"
            refine Wp.iteT' ?_
            walk_at "wp"
            refine ⟨d, _, rfl, hd6, ?_⟩
            walk_at "wp"
            refine ⟨d, _, rfl, DPut.k (k := Sum.inl z) hd6 ?_, ?_⟩
            · rw [ents_len]; exact small1000 (by omega)
            rw [ents_len, ents_put c]
            walk_at "wp"
            refine ⟨_, o' ++ [z], rfl, ?_, ?_, upd_same, est.symm, ?_, ?_⟩
            · intro w v hw
              rw [upd_ne (ne_of_none hw hdH1)]
              exact s6 _ _ hw
            · rw [upd_ne hdr2]; exact hr6
            · rw [List.nodup_append]
              refine ⟨nd6, List.nodup_cons.mpr ⟨List.not_mem_nil, List.nodup_nil⟩, fun a ha b hb e => ?_⟩
              rw [List.mem_singleton.mp hb] at e
              exact c (e ▸ ha)
            · intro x hx
              rcases List.mem_append.mp hx with hx | hx
              · exact org6 x hx
              · rw [List.mem_singleton.mp hx]; exact zr
        · rintro σ H6 ⟨y9', o', rfl, s6, hr6, hd6, eo, nd6, org6⟩
          rw [List.length_map, List.take_of_length_le (Nat.le_refl _)] at eo
          rw [← eo] at hg'
          exact ⟨_, _, _, _, _, _, rfl, s6, hd6, hg', nd6, org6⟩
    · rintro σ H2 ⟨y4, y5, y7, y8, y9, o, rfl, s2, hd2, hg, nd, org⟩
      rw [List.length_map, List.drop_eq_nil_of_le (Nat.le_refl _)] at hg
      have hg' : Wx.rightGo (us Pp) [] Pp.2 = some o := hg.symm
      have olen : o.length ≤ Pp.1.length := nodup_bound nd org
      have kv : ∀ b : Bool, (b = true ↔ (stray o = [] ∧ o.length = Pp.1.length)) → ∀ H', Same H1 H' → Q (.bl b) H' := fun b hb H' s' => by
        have e : isPaperB s Pp = b := by
          cases b with
          | true => exact paper_right.mpr ⟨good1, o, hg', hb.mp rfl⟩
          | false =>
            cases e : isPaperB s Pp with
            | false => rfl
            | true =>
              obtain ⟨_, o2, h1, h2⟩ := paper_right.mp e
              rw [hg'] at h1
              cases h1
              exact absurd (hb.mpr h2) Bool.false_ne_true
        rw [← e]
        exact k H' s'
      walk_at "wp"
      refine Wx.lock_ hd2 fun od => ?_
      have sL : Same H1 (upd H2 d (.frz od (.dK (ents 0 o)))) := fun w v hw => by
        rw [upd_ne (ne_of_none hw hd)]
        exact s2 _ _ hw
      refine Wx.lcK ?_
      walk_at "wp"
      refine ⟨d, od, rfl, .inl ⟨_, upd_same, fun D hD => ?_⟩⟩
      have hDd : D ≠ d := fun e => by rw [e, upd_same] at hD; cases hD
      refine Wx.loopCK (fun i H' => Same H1 H' ∧ H' d = some (.frz od (.dK (ents 0 o))) ∧ H' D = some (.lst ((stray1 o (o.take i)).map V.int))) ⟨?_, ?_, upd_same⟩ (fun i H' _ ⟨_, h, _⟩ => h) ?_ ?_
      · exact sL.trans (same_new hD)
      · rw [upd_ne hDd.symm, upd_same]
      · rintro i ky v H6 hi ⟨s6, hd6, hD6⟩
        obtain ⟨z, hz, rfl⟩ := ents_at _ _ _ _ _ hi
        have zin := List.mem_of_getElem? hz
        have est : stray1 o (o.take (i + 1)) = if (o.idxOf z : Int) = z then stray1 o (o.take i) else stray1 o (o.take i) ++ [z] := by
          unfold stray1
          rw [List.take_add_one, hz, List.filter_append]
          by_cases c : (o.idxOf z : Int) = z
          · rw [if_pos c]
            show _ ++ List.filter _ [z] = _
            rw [List.filter_cons, if_neg (by simp [c]), List.filter_nil, List.append_nil]
          · rw [if_neg c]
            show _ ++ List.filter _ [z] = _
            rw [List.filter_cons, if_pos (by simp [c]), List.filter_nil]
        show gName 9 (.int z) _ H6 _
        walk_at "wp"
        refine ⟨d, .int (o.idxOf z : Nat), rfl, .inl ⟨_, Sum.inl z, .inr ⟨_, hd6⟩, rfl, by rw [ents_val, if_pos zin, Nat.zero_add]⟩, ?_⟩
        walk_at "wp"
        refine iteN (fun c => ?_) (fun c => ?_)
        · have c1 : ¬ (o.idxOf z : Int) = z := fun h => c (by rw [h])
          rw [if_neg c1] at est
          walk_at "wp"
          refine ⟨_, hD6, ?_, ?_, ?_, ?_⟩
          · have : (stray1 o (o.take i)).length ≤ o.length := by
              unfold stray1
              refine Nat.le_trans (List.length_filter_le _ _) ?_
              rw [List.length_take]
              omega
            rw [List.length_map]; exact small1000 (by omega)
          · intro w v hw
            rw [upd_ne (fun e => by rw [e] at hw; have := sL.free hD; rw [hw] at this; cases this)]
            exact s6 _ _ hw
          · rw [upd_ne hDd.symm]; exact hd6
          · rw [upd_same, est, List.map_append] <;> rfl
        · have c1 : (o.idxOf z : Int) = z := V.int.inj c
          rw [if_pos c1] at est
          rw [est]
          exact ⟨s6, hd6, hD6⟩
      · rintro H6 ⟨s6, hd6, hD6⟩
        rw [ents_len, List.take_of_length_le (Nat.le_refl _)] at hD6
        have hst : stray1 o o = stray o := rfl
        rw [hst] at hD6
        refine ⟨hd6, ?_⟩
        have s7 : Same H1 (upd H6 d (.dK (ents 0 o))) := fun w v hw => by
          rw [upd_ne (ne_of_none hw hd)]
          exact s6 _ _ hw
        have hD7 : upd H6 d (.dK (ents 0 o)) D = some (.lst ((stray o).map V.int)) := by
          rw [upd_ne hDd]; exact hD6
        have hd7 : upd H6 d (.dK (ents 0 o)) d = some (.dK (ents 0 o)) := upd_same
        generalize upd H6 d (.dK (ents 0 o)) = H7 at s7 hD7 hd7
        walk_at "wp"
        rename_i e0 he0
        have s8 := same_new (o := .lst []) he0
        refine ⟨.list ((stray o).map PyData.int), .list [], .lst (SqL.of (s8 _ _ hD7)) (ints_dp _), .lst (SqL.of upd_same) .nil, ints_shaped _, ints_shaped [], ?_⟩
        rw [eqv_nil]
        have hd8 := s8 _ _ hd7
        have s18 := s7.trans s8
        walk_at "wp"
        refine ite_ (fun c => ?_) (fun c => ?_)
        · walk_at "wp"
          refine ⟨d, _, rfl, hd8, ?_⟩
          rw [ents_len]
          walk_at "wp"
          refine kv _ ?_ _ s18
          rw [decide_eq_true_eq]
          constructor
          · intro h
            have := V.int.inj h
            exact ⟨c, by omega⟩
          · rintro ⟨_, h⟩
            rw [h]
        · walk_at "wp"
          refine kv _ ?_ _ s18
          exact ⟨(fun h => nomatch h), fun h => absurd h.1 c⟩
end
end K08

namespace K08
open PySem PySem.Spec PyProof.Rows L2 Wp Wq Wr Wn Wm
local macro_rules | `(tactic| walk_at "ne") => `(tactic| first
  | assumption
  | (refine Ne.symm ?_; assumption)
  | exact ne_of_none (by assumption) (by assumption)
  | exact (ne_of_none (by assumption) (by assumption)).symm
  | exact ne_of (by assumption) (by assumption) (by intro q; cases q))
local macro_rules | `(tactic| walk_at "hp") => `(tactic| first
  | assumption
  | exact upd_same
  | (refine (upd_ne ?_).trans ?_; (walk_at "ne"); (walk_at "hp")))
local macro_rules | `(tactic| walk_at "sq") => `(tactic| first
  | assumption
  | exact SqL.of (by walk_at "hp")
  | exact SqT.of (by walk_at "hp"))
local macro_rules | `(tactic| walk_at "kind") => `(tactic| first
  | assumption
  | exact Kind.int _
  | exact Kind.str _
  | exact Kind.bl _
  | exact Kind.non
  | exact Kind.tup (by walk_at "hp")
  | exact Kind.lst (by walk_at "hp")
  | exact Kind.dK (by walk_at "hp"))
local macro_rules | `(tactic| walk_at "w1") => `(tactic| first
  | (with_reducible refine Wp.seq ?_)
  | (with_reducible refine Wp.nx_mk ?_)
  | (with_reducible refine Wp.rt_mk ?_)
  | (with_reducible refine Wp.bk_mk ?_)
  | (with_reducible refine Wp.ct_mk ?_)
  | (with_reducible refine Wp.next ?_)
  | (with_reducible refine Wp.asg ?_)
  | ((with_reducible refine' Wp.gname ?e ?_); (case e => (try dsimp only [List.set, L2.wipe, List.map_cons, List.map_nil]); (try exact rfl)))
  | (with_reducible refine Wp.gsub ?_)
  | (with_reducible refine Wp.ret ?_)
  | (with_reducible refine Wp.retN ?_)
  | (with_reducible refine Wp.drop ?_)
  | (with_reducible refine Wp.dput ?_)
  | (with_reducible refine Wp.ifs ?_)
  | ((with_reducible refine' Wp.var ?h ?_); (case h => exact rfl))
  | (with_reducible refine Wp.con ?_)
  | (with_reducible refine Wp.op ?_)
  | (with_reducible refine Wp.un ?_)
  | (with_reducible refine Wp.cb ?_)
  | (with_reducible refine Wp.anil ?_)
  | (with_reducible refine Wp.acons ?_)
  | (with_reducible refine Wp.call ?_)
  | (with_reducible refine Wp.test ?_)
  | (with_reducible refine Wp.tb_ ?_)
  | (with_reducible refine Wp.and_ ?_)
  | (with_reducible refine Wp.or_ ?_)
  | (with_reducible refine Wp.not_ ?_)
  | (with_reducible refine Wp.andV ?_)
  | (with_reducible refine Wp.orV ?_)
  | (with_reducible refine Wp.notV ?_)
  | (with_reducible refine Wp.rI0_ ?_)
  | (with_reducible refine Wp.rU_ ?_)
  | ((with_reducible refine Wp.rEq_ ?k ?_); (case k => exact rfl))
  | ((with_reducible refine Wp.rNe_ ?k ?_); (case k => exact rfl))
  | (with_reducible refine Wp.gcons ?_)
  | (with_reducible refine Wp.gnil ?_)
  | ((with_reducible refine' Wp.gtup ?h ?e ?_); (case h => walk_at "sq"); (case e => exact rfl))
  | (with_reducible refine Wp.sl ?_)
  | (with_reducible refine Wp.part ?_)
  | (with_reducible refine Wp.nopart ?_)
  | (with_reducible refine Wp.ifE ?_)
  | (with_reducible refine Wp.bm0 ?_)
  | (with_reducible refine Wp.bm ?_)
  | (with_reducible refine Wp.lcR1 ?_)
  | (with_reducible refine Wp.lcR2 ?_)
  | (with_reducible refine Wp.lcL ?_)
  | (with_reducible refine Wp.chain ?_)
  | (with_reducible refine Wp.lc2V ?_)
  | (with_reducible refine Wp.piL ?_)
  | (with_reducible refine Wp.yes ?_)
  | (with_reducible refine Wp.dinI ?_)
  | (with_reducible refine Wp.dninI ?_)
  | (with_reducible refine Wp.dget ?_)
  | ((with_reducible refine' ⟨?k, ?_⟩); (case k => show L2.wipe _ _ = L2.wipe _ _; exact rfl))
  | (with_reducible refine Wp.forR1 ?_)
  | (with_reducible refine Wp.forR2 ?_)
  | (with_reducible refine Wp.forL ?_)
  | (with_reducible refine Wp.forT ?_)
  | ((with_reducible refine' ⟨?k, ?_⟩); (case k => exact Wp.tyvL (by walk_at "hp")))
  | ((with_reducible refine' Wp.rev_ ?k ?_); (case k => walk_at "hp"))
  | ((with_reducible refine' Wp.isi ?k ?h ?_); (case k => walk_at "kind"); (case h => decide))
  | ((with_reducible refine' Wp.typ ?k ?_); (case k => walk_at "kind"))
  | (with_reducible refine Wp.slS ?k ?_; (case k => assumption))
  | (with_reducible refine iteT ?_)
  | (with_reducible refine iteF ?_)
  | (with_reducible refine Wp.pcons ?_)
  | (with_reducible refine Wp.pnil ?_)
  | ((with_reducible refine' Wp.iteBnT ?h ?_); (case h => show isB _ _ = false; decide))
  | ((with_reducible refine' Wp.iteBnF ?h ?_); (case h => show isB _ _ = true; decide))
  | ((with_reducible refine' Wp.iteBt ?h ?_); (case h => show isB _ _ = true; decide))
  | ((with_reducible refine' Wp.iteBf ?h ?_); (case h => show isB _ _ = false; decide))
  | (with_reducible refine Wp.iteT' ?_)
  | (with_reducible refine Wp.iteF' ?_)
  | (with_reducible refine Wp.rNT_ ?_)
  | ((with_reducible refine Wp.lst ?_))
  | ((with_reducible refine Wp.tup ?_))
  | ((with_reducible refine' Wp.ixL ?h ?e ?_); (case h => walk_at "sq"); (case e => exact rfl))
  | ((with_reducible refine' Wp.ixT ?h ?e ?_); (case h => walk_at "sq"); (case e => exact rfl))
  | ((with_reducible refine' Wp.setL ?h ?e ?_); (case h => walk_at "hp"); (case e => exact rfl))
  | ((with_reducible refine Wp.rI_ ?k ?_); (case k => first | (show (0:Int) < _; omega) | (show CPow _ _; refine' ⟨?_, ?_, ?_⟩ <;> omega) | (show CDiv _ _; refine' ⟨?_, ?_⟩ <;> omega) | (show CMul _ _; refine' Or.inl ⟨?_, ?_⟩ <;> omega) | (show CMul _ _; refine' Or.inr ⟨?_, ?_⟩ <;> first | omega | decide) | (show CDivW _ _; refine' wide_div (b := 240) ?_ ?_ ?_ ?_ <;> first | omega | decide)))
  | ((with_reducible refine ⟨?k, ?_⟩); (case k => first | exact Nat.zero_le _ | (exact Nat.le_of_ble_eq_true rfl)); intro p hp)
  | ((with_reducible refine' ⟨_, _, rfl, .inl ?k, ?_⟩); (case k => walk_at "sq"))
  | ((with_reducible refine' ⟨_, _, rfl, .inr ?k, ?_⟩); (case k => walk_at "sq"))
  | (with_reducible refine ⟨_, rfl, ?_⟩)
  | (with_reducible refine ⟨_, _, rfl, rfl, ?_⟩)
  | (with_reducible refine ⟨_, _, rfl, ?_⟩))
local macro_rules | `(tactic| walk_at "wp") => `(tactic| repeat (walk_at "w1"))

def PapOk (P : Pap) : Prop := ∀ p ∈ P.1, p.2.length ≤ 100 ∧ ∀ z ∈ p.2, Wok z
theorem pap_less {H : Hp} {S S' : List Addr} {v : V} {P : Pap} (h : IsPap S H v P) (k : ∀ a ∈ S', a ∈ S) : IsPap S' H v P := by
  obtain ⟨t, p, q, xs, e, h1, h2, h3, h4, h5, h6⟩ := h
  exact ⟨t, p, q, xs, e, h1, h2, h3.less k, h4, fun z => h5 (k _ z), fun z => h6 (k _ z)⟩
theorem pap_nil {H : Hp} {S : List Addr} {v : V} {P : Pap} (h : IsPap S H v P) : IsPap [] H v P := pap_less h (fun _ h => nomatch h)
theorem seq_ix {i : Int} {n : Nat} (h0 : 0 ≤ i) (h1 : i < n) : seqIndex? i n = some i.toNat := by
  refine (ixN_seq ?_).1
  unfold ixN
  rw [if_pos h0, if_pos h1]
theorem pair_set {α β : Type} {F : α → β → Prop} {x : α} {y : β} (h : F x y) : ∀ {l : List α} {m : List β} (i : Nat), Paired F l m → Paired F (l.set i x) (m.set i y)
  | _, _, i, .nil => .nil
  | _, _, 0, .cons r t => .cons h t
  | _, _, i + 1, .cons r t => .cons r (pair_set h i t)
theorem pair_erase {α β : Type} {F : α → β → Prop} : ∀ {l : List α} {m : List β} (i : Nat), Paired F l m → Paired F (l.eraseIdx i) (m.eraseIdx i)
  | _, _, i, .nil => .nil
  | _, _, 0, .cons r t => t
  | _, _, i + 1, .cons r t => .cons r (pair_erase i t)
theorem pair_take {α β : Type} {F : α → β → Prop} : ∀ {l : List α} {m : List β} (i : Nat), Paired F l m → Paired F (l.take i) (m.take i)
  | _, _, i, .nil => by rw [List.take_nil, List.take_nil]; exact .nil
  | _, _, 0, .cons r t => .nil
  | _, _, i + 1, .cons r t => .cons r (pair_take i t)
theorem pair_drop {α β : Type} {F : α → β → Prop} : ∀ {l : List α} {m : List β} (i : Nat), Paired F l m → Paired F (l.drop i) (m.drop i)
  | _, _, i, .nil => by rw [List.drop_nil, List.drop_nil]; exact .nil
  | _, _, 0, .cons r t => .cons r t
  | _, _, i + 1, .cons r t => pair_drop i t
section
variable {P : Program} {w : World} {K : PySem.W.Frag} {mg : Str → Option Value} {base : Heap}
def spAsked : Sp := fun vs H Q _ => ∃ (v : V) (s : Int) (Pp : Pap), vs = [.int s, v] ∧ IsPap [] H v Pp ∧ Pp.1.length ≤ 900 ∧ Pp.2.length ≤ 90 ∧ 2 ≤ s ∧ s ≤ 64 ∧ PapOk Pp ∧ ∀ H', Same H H' → Q (.bl true) H'
theorem ok_asked (T : Txt P w K mg) : FnOk P w K mg base CX0 4 T.f_asked T.fd_asked ["size", "paper"] spAsked := by
  have G_copy := ok_copy (base := base) T
  have G_is_paper := ok_is_paper (base := base) T
  have G_right := ok_right (base := base) T
  refine T.F_asked.ok sc_asked (fun vs H Q E h => ?_) (fun cdv A outer s H vs Q E hr h => ?_)
  · obtain ⟨v, s, Pp, rfl, _⟩ := h
    rfl
  · obtain ⟨v, s, Pp, rfl, hP, pl, tl, s0, s1, ok, k⟩ := h
    obtain ⟨t, p, q, xs, rfl, ht, hp, pc, hq, _, _⟩ := id hP
    refine ⟨_, (pss_cons (ps_set (i := 2) sc_asked.nd rfl (.inl rfl) (pe_call G_copy (hr.mono (by decide)) (by rfl) T.g_copy T.F_copy.kp T.b_copy .nil pass0 (pa_cons (pv 1) pa_nil)))
      (pss_cons (ps_set (i := 3) sc_asked.nd rfl (.inl rfl) (pe_call G_is_paper (hr.mono (by decide)) (by rfl) T.g_is_paper T.F_is_paper.kp T.b_is_paper .nil pass0 (pa_cons (pv 0) (pa_cons (pv 2) pa_nil))))
      (pss_one (ps_ret (pe_and (pe_callB call_isi (by rfl) T.n_isinstance (by decide +kernel) (pa_cons (pv 3) (pa_cons (pe_bltn (v := .ty "bool") (by rfl) T.n_bool (by decide +kernel) rfl) pa_nil))) (pe_and (pe_cmpR op_eq (pv 3) (pe_call G_right (hr.mono (by decide)) (by rfl) T.g_right T.F_right.kp T.b_right .nil pass0 (pa_cons (pv 0) (pa_cons (pe_ix ix_tup (pv 1) pe_int (fun _ _ => rfl)) (pa_cons (pe_ix ix_tup (pv 1) pe_int (fun _ _ => rfl)) pa_nil)))) (nomark _)) (pe_one (pe_cmpR (op_eqD hr.units) (pv 2) (pv 1) (nomark _))))))))), ?_⟩
    rw [show L2.start ["size", "paper", "handed", "found"] [.int s, .ref t] = [some (.int s), some (.ref t), none, none] from rfl]
    try dsimp only [cxOf]
    walk_at "wp"
    refine ⟨_, Pp, rfl, hP, pl, fun v1 H1 hP1 s1' => ?_⟩
    walk_at "wp"
    refine ⟨v1, s, Pp, rfl, hP1, pl, tl, s0, s1, fun H2 s2 => ?_⟩
    have s12 := s1'.trans s2
    have hP2 := hP.keep (Ks.same s12)
    have ht2 := s12 _ _ ht
    walk_at "wp"
    refine ⟨p, q, xs, s, Pp, rfl, s12 _ _ hp, pc.keep (Ks.same s12), s12 _ _ hq, pl, tl, fun H3 s3 => ?_⟩
    walk_at "wp"
    refine ite_ (fun _ => ?_) (fun c => absurd rfl c)
    walk_at "wp"
    have shp := papD_shaped fun p hp => (ok p hp).2
    refine eqD ((hP1.keep (Ks.same (s2.trans s3))).dp) ((hP2.keep (Ks.same s3)).dp) shp (Wq.eq_self shp) ?_
    exact k _ (s12.trans s3)
def spNear : Sp := fun vs H Q _ => ∃ (b : Addr) (n : Nat) (many : Int), vs = [.ref b, .int many] ∧ Bag H b n ∧ n < 900000 ∧ 0 ≤ many ∧ many ≤ 1000 ∧ ∀ (z : Int) H', Bag H' b (n + 3) → Kp b H H' → Q (.int z) H'
theorem ok_near (T : Txt P w K mg) : FnOk P w K mg base CX0 2 T.f_near T.fd_near ["bag", "many"] spNear := by
  have G_draw := ok_draw (base := base) T
  refine T.F_near.ok sc_near (fun vs H Q E h => ?_) (fun cdv A outer s H vs Q E hr h => ?_)
  · obtain ⟨b, n, many, rfl, _⟩ := h
    rfl
  · obtain ⟨b, n, many, rfl, hb, hn, m0, m1, k⟩ := h
    refine ⟨_, (pss_cons (ps_set (i := 2) sc_near.nd rfl (.inl rfl) (pe_call G_draw (hr.mono (by decide)) (by rfl) T.g_draw T.F_draw.kp T.b_draw .nil pass0 (pa_cons (pv 0) (pa_cons pe_int pa_nil))))
      (pss_cons (ps_set (i := 3) sc_near.nd rfl (.inl rfl) (pe_op op_sub (pe_call G_draw (hr.mono (by decide)) (by rfl) T.g_draw T.F_draw.kp T.b_draw .nil pass0 (pa_cons (pv 0) (pa_cons (pe_op op_add (pv 1) pe_int) pa_nil))) pe_int))
      (pss_cons (ps_set (i := 4) sc_near.nd rfl (.inl rfl) (pe_call G_draw (hr.mono (by decide)) (by rfl) T.g_draw T.F_draw.kp T.b_draw .nil pass0 (pa_cons (pv 0) (pa_cons (pe_op op_pow pe_int pe_int) pa_nil))))
      (pss_cons (ps_if (pt_cmpR op_eq (pv 2) pe_int (nomark _)) (pss_one (ps_ret (pe_op op_add (pe_op op_add (pv 1) pe_int) (pv 4)))) pss_nil)
      (pss_cons (ps_if (pt_cmpR op_eq (pv 2) pe_int (nomark _)) (pss_one (ps_ret (pe_op op_sub (pe_un un_neg pe_int) (pv 4)))) pss_nil)
      (pss_one (ps_ret (pv 3)))))))), ?_⟩
    rw [show L2.start ["bag", "many", "way", "near", "far"] [.ref b, .int many] = [some (.ref b), some (.int many), none, none, none] from rfl]
    try dsimp only [cxOf]
    walk_at "wp"
    refine ⟨b, n, _, rfl, hb, by omega, by omega, by omega, fun way H1 w0 w1 hb1 k1 => ?_⟩
    walk_at "wp"
    refine ⟨b, n + 1, _, rfl, hb1, by omega, by omega, by omega, fun near H2 n0 n1 hb2 k2 => ?_⟩
    walk_at "wp"
    refine ⟨b, n + 2, _, rfl, hb2, by omega, by decide, by decide, fun far H3 f0 f1 hb3 k3 => ?_⟩
    have kk := Kp.trans k1 (Kp.trans k2 k3)
    walk_at "wp"
    refine ite_ (fun c => ?_) (fun c => ?_)
    · walk_at "wp"
      exact k _ _ hb3 kk
    walk_at "wp"
    refine ite_ (fun c => ?_) (fun c => ?_)
    · walk_at "wp"
      exact k _ _ hb3 kk
    walk_at "wp"
    exact k _ _ hb3 kk
def spSwapped : Sp := fun vs H Q _ => ∃ (r : Addr) (i j : Nat) (xs : List V) (x y : V), vs = [.ref r, .int i, .int j] ∧ H r = some (.lst xs) ∧ xs[i]? = some x ∧ xs[j]? = some y ∧ xs.length ≤ 1000 ∧ ∀ l H', H l = none → H' l = some (.lst ((xs.set i y).set j x)) → Same H H' → Q (.ref l) H'
theorem ok_swapped (T : Txt P w K mg) : FnOk P w K mg base CX0 1 T.f_swapped T.fd_swapped ["row", "one", "other"] spSwapped := by
  refine T.F_swapped.ok sc_swapped (fun vs H Q E h => ?_) (fun cdv A outer s H vs Q E hr h => ?_)
  · obtain ⟨r, i, j, xs, x, y, rfl, _⟩ := h
    rfl
  · obtain ⟨r, i, j, xs, x, y, rfl, hr0, hx, hy, hl, k⟩ := h
    have hi := (List.getElem?_eq_some_iff.mp hx).1
    have hj := (List.getElem?_eq_some_iff.mp hy).1
    refine ⟨_, (pss_cons (ps_set (i := 3) sc_swapped.nd rfl (.inl rfl) (pe_callTy call_list_of (by rfl) T.n_list (by decide +kernel) (pa_cons (pv 0) pa_nil)))
      (pss_cons (ps_asg (pe_ix ix_list (pv 0) (pv 2) (fun _ _ => rfl)) (pg_sub (pv 3) (pv 1) set_list))
      (pss_cons (ps_asg (pe_ix ix_list (pv 0) (pv 1) (fun _ _ => rfl)) (pg_sub (pv 3) (pv 2) set_list))
      (pss_one (ps_ret (pv 3)))))), ?_⟩
    rw [show L2.start ["row", "one", "other", "turned"] [.ref r, .int i, .int j] = [some (.ref r), some (.int i), some (.int j), none] from rfl]
    try dsimp only [cxOf]
    walk_at "wp"
    intro l hl0
    have hrl : r ≠ l := ne_of_none hr0 hl0
    walk_at "wp"
    refine ixL (SqL.of (by rw [upd_ne hrl]; exact hr0)) (atI_nat hy) ?_
    walk_at "wp"
    refine setL (n := i) upd_same ?_ ?_
    · unfold ixN
      rw [if_pos (by omega), if_pos (by omega)] <;> rfl
    rw [upd_upd]
    walk_at "wp"
    refine ixL (SqL.of (by rw [upd_ne hrl]; exact hr0)) (atI_nat hx) ?_
    walk_at "wp"
    refine setL (n := j) upd_same ?_ ?_
    · unfold ixN
      rw [List.length_set, if_pos (by omega), if_pos (by omega)] <;> rfl
    rw [upd_upd]
    walk_at "wp"
    exact k l _ hl0 upd_same (same_new hl0)
def spLong : Sp := fun vs H Q _ => ∃ (l : Addr) (m : Int) (us : List V) (ws : List W), vs = [.ref l, .int m] ∧ H l = some (.lst us) ∧ Pile H us ws ∧ ws.length ≤ 100 ∧ 0 ≤ m ∧ m ≤ 100 ∧ (∀ z ∈ ws, Wok z) ∧
  ∀ l' us' ws' H', H l' = none → H' l' = some (.lst us') → Pile H' us' ws' → ws'.length ≤ 100 → (∀ z ∈ ws', Wok z) → Same H H' → Q (.ref l') H'
theorem ok_long (T : Txt P w K mg) : FnOk P w K mg base CX0 1 T.f_long T.fd_long ["worths", "most"] spLong := by
  refine T.F_long.ok sc_long (fun vs H Q E h => ?_) (fun cdv A outer s H vs Q E hr h => ?_)
  · obtain ⟨l, m, us, ws, rfl, _⟩ := h
    rfl
  · obtain ⟨l, m, us, ws, rfl, hl, pi, wl, m0, m1, wok, k⟩ := h
    have ul := pi.len
    refine ⟨_, (pss_one (ps_ret (pe_op op_cat (pv 0) (pe_lc (own := [("k", 2)]) rfl sc_long.nd (pi_range1 (by rfl) T.n_range (pa_cons (pe_op op_sub (pv 1) (pe_callB call_len_seq (by rfl) T.n_len (by decide +kernel) (pa_cons (pv 0) pa_nil))) pa_nil)) (blkOk_by (N := ["worths", "most", "k"]) (sc := defScope s_long) (by decide +kernel)) (fun _ _ _ _ _ => pg_name (i := 2) sc_long.nd rfl (Or.inl rfl)) (fun _ _ _ _ _ => pts_nil) (fun _ _ _ _ _ => (pe_tup (pa_cons pe_str (pa_cons (pv 2) pa_nil)))))))), ?_⟩
    rw [show L2.start ["worths", "most", "k"] [.ref l, .int m] = [some (.ref l), some (.int m), none] from rfl]
    try dsimp only [cxOf]
    walk_at "wp"
    refine ⟨by omega, by omega, fun D hD => ?_⟩
    refine loopCR (fun j H' => Same H H' ∧ ∃ acc zs, H' D = some (.lst acc) ∧ Pile H' acc zs ∧ zs.length = j ∧ ∀ z ∈ zs, Wok z) ⟨same_new hD, [], [], upd_same, Pile.nil, rfl, (fun _ h => nomatch h)⟩ ?_ ?_
    · rintro j H4 hj ⟨s4, acc, zs, hD4, pz, zl, zok⟩
      have al := pz.len
      walk_at "wp"
      rename_i t2 ht2
      have s5 := same_new (o := .tup [.str "num", .int (0 + j)]) ht2
      refine ⟨acc, s5 _ _ hD4, small1000 (by omega), ?_, acc ++ [.ref t2], zs ++ [((("num" : Str), 0 + (j : Int)) : W)], upd_same, ?_, ?_, ?_⟩
      · intro q z hq
        rw [upd_ne (ne_of_none hq hD)]
        exact s5 _ _ (s4 _ _ hq)
      · have tk := Tk.lst (o := .lst (acc ++ [.ref t2])) (s5 _ _ hD4)
        exact Pile.app ((pz.keep (Same.tk s5)).keep tk) (Pile.one ⟨t2, rfl, tk _ _ upd_same⟩)
      · rw [List.length_append, zl] <;> rfl
      · intro z hz
        rcases List.mem_append.mp hz with hz | hz
        · exact zok z hz
        · rw [List.mem_singleton.mp hz]
          show PyData.strOk ("num" : Str) = true
          decide +kernel
    · rintro H4 ⟨s4, acc, zs, hD4, pz, zl, zok⟩
      have al := pz.len
      walk_at "wp"
      refine cat_ (s4 _ _ hl) hD4 ?_ fun a ha => ?_
      · exact Nat.le_trans (show _ ≤ 1000 by omega) (by decide)
      · refine k a _ (ws ++ zs) _ (s4.free ha) upd_same ?_ ?_ ?_ (s4.trans (same_new ha))
        · exact Pile.app ((pi.keep (Same.tk s4)).keep (Same.tk (same_new ha))) (pz.keep (Same.tk (same_new ha)))
        · rw [List.length_append]; omega
        · intro z hz
          rcases List.mem_append.mp hz with hz | hz
          · exact wok z hz
          · exact zok z hz
end
end K08

namespace K08
open PySem PySem.Spec PyProof.Rows L2 Wp Wq Wr Wn Wm
local macro_rules | `(tactic| walk_at "ne") => `(tactic| first
  | assumption
  | (refine Ne.symm ?_; assumption)
  | exact ne_of_none (by assumption) (by assumption)
  | exact (ne_of_none (by assumption) (by assumption)).symm
  | exact ne_of (by assumption) (by assumption) (by intro q; cases q))
local macro_rules | `(tactic| walk_at "hp") => `(tactic| first
  | assumption
  | exact upd_same
  | (refine (upd_ne ?_).trans ?_; (walk_at "ne"); (walk_at "hp")))
local macro_rules | `(tactic| walk_at "sq") => `(tactic| first
  | assumption
  | exact SqL.of (by walk_at "hp")
  | exact SqT.of (by walk_at "hp"))
local macro_rules | `(tactic| walk_at "kind") => `(tactic| first
  | assumption
  | exact Kind.int _
  | exact Kind.str _
  | exact Kind.bl _
  | exact Kind.non
  | exact Kind.tup (by walk_at "hp")
  | exact Kind.lst (by walk_at "hp")
  | exact Kind.dK (by walk_at "hp"))
local macro_rules | `(tactic| walk_at "w1") => `(tactic| first
  | (with_reducible refine Wp.seq ?_)
  | (with_reducible refine Wp.nx_mk ?_)
  | (with_reducible refine Wp.rt_mk ?_)
  | (with_reducible refine Wp.bk_mk ?_)
  | (with_reducible refine Wp.ct_mk ?_)
  | (with_reducible refine Wp.next ?_)
  | (with_reducible refine Wp.asg ?_)
  | ((with_reducible refine' Wp.gname ?e ?_); (case e => (try dsimp only [List.set, L2.wipe, List.map_cons, List.map_nil]); (try exact rfl)))
  | (with_reducible refine Wp.gsub ?_)
  | (with_reducible refine Wp.ret ?_)
  | (with_reducible refine Wp.retN ?_)
  | (with_reducible refine Wp.drop ?_)
  | (with_reducible refine Wp.dput ?_)
  | (with_reducible refine Wp.ifs ?_)
  | ((with_reducible refine' Wp.var ?h ?_); (case h => exact rfl))
  | (with_reducible refine Wp.con ?_)
  | (with_reducible refine Wp.op ?_)
  | (with_reducible refine Wp.un ?_)
  | (with_reducible refine Wp.cb ?_)
  | (with_reducible refine Wp.anil ?_)
  | (with_reducible refine Wp.acons ?_)
  | (with_reducible refine Wp.call ?_)
  | (with_reducible refine Wp.test ?_)
  | (with_reducible refine Wp.tb_ ?_)
  | (with_reducible refine Wp.and_ ?_)
  | (with_reducible refine Wp.or_ ?_)
  | (with_reducible refine Wp.not_ ?_)
  | (with_reducible refine Wp.andV ?_)
  | (with_reducible refine Wp.orV ?_)
  | (with_reducible refine Wp.notV ?_)
  | (with_reducible refine Wp.rI0_ ?_)
  | (with_reducible refine Wp.rU_ ?_)
  | ((with_reducible refine Wp.rEq_ ?k ?_); (case k => exact rfl))
  | ((with_reducible refine Wp.rNe_ ?k ?_); (case k => exact rfl))
  | (with_reducible refine Wp.gcons ?_)
  | (with_reducible refine Wp.gnil ?_)
  | ((with_reducible refine' Wp.gtup ?h ?e ?_); (case h => walk_at "sq"); (case e => exact rfl))
  | (with_reducible refine Wp.sl ?_)
  | (with_reducible refine Wp.part ?_)
  | (with_reducible refine Wp.nopart ?_)
  | (with_reducible refine Wp.ifE ?_)
  | (with_reducible refine Wp.bm0 ?_)
  | (with_reducible refine Wp.bm ?_)
  | (with_reducible refine Wp.lcR1 ?_)
  | (with_reducible refine Wp.lcR2 ?_)
  | (with_reducible refine Wp.lcL ?_)
  | (with_reducible refine Wp.chain ?_)
  | (with_reducible refine Wp.lc2V ?_)
  | (with_reducible refine Wp.piL ?_)
  | (with_reducible refine Wp.yes ?_)
  | (with_reducible refine Wp.dinI ?_)
  | (with_reducible refine Wp.dninI ?_)
  | (with_reducible refine Wp.dget ?_)
  | ((with_reducible refine' ⟨?k, ?_⟩); (case k => show L2.wipe _ _ = L2.wipe _ _; exact rfl))
  | (with_reducible refine Wp.forR1 ?_)
  | (with_reducible refine Wp.forR2 ?_)
  | (with_reducible refine Wp.forL ?_)
  | (with_reducible refine Wp.forT ?_)
  | ((with_reducible refine' ⟨?k, ?_⟩); (case k => exact Wp.tyvL (by walk_at "hp")))
  | ((with_reducible refine' Wp.rev_ ?k ?_); (case k => walk_at "hp"))
  | ((with_reducible refine' Wp.isi ?k ?h ?_); (case k => walk_at "kind"); (case h => decide))
  | ((with_reducible refine' Wp.typ ?k ?_); (case k => walk_at "kind"))
  | (with_reducible refine Wp.slS ?k ?_; (case k => assumption))
  | (with_reducible refine iteT ?_)
  | (with_reducible refine iteF ?_)
  | (with_reducible refine Wp.pcons ?_)
  | (with_reducible refine Wp.pnil ?_)
  | ((with_reducible refine' Wp.iteBnT ?h ?_); (case h => show isB _ _ = false; decide))
  | ((with_reducible refine' Wp.iteBnF ?h ?_); (case h => show isB _ _ = true; decide))
  | ((with_reducible refine' Wp.iteBt ?h ?_); (case h => show isB _ _ = true; decide))
  | ((with_reducible refine' Wp.iteBf ?h ?_); (case h => show isB _ _ = false; decide))
  | (with_reducible refine Wp.iteT' ?_)
  | (with_reducible refine Wp.iteF' ?_)
  | (with_reducible refine Wp.rNT_ ?_)
  | ((with_reducible refine Wp.lst ?_))
  | ((with_reducible refine Wp.tup ?_))
  | ((with_reducible refine' Wp.ixL ?h ?e ?_); (case h => walk_at "sq"); (case e => exact rfl))
  | ((with_reducible refine' Wp.ixT ?h ?e ?_); (case h => walk_at "sq"); (case e => exact rfl))
  | ((with_reducible refine' Wp.setL ?h ?e ?_); (case h => walk_at "hp"); (case e => exact rfl))
  | ((with_reducible refine Wp.rI_ ?k ?_); (case k => first | (show (0:Int) < _; omega) | (show CPow _ _; refine' ⟨?_, ?_, ?_⟩ <;> omega) | (show CDiv _ _; refine' ⟨?_, ?_⟩ <;> omega) | (show CMul _ _; refine' Or.inl ⟨?_, ?_⟩ <;> omega) | (show CMul _ _; refine' Or.inr ⟨?_, ?_⟩ <;> first | omega | decide) | (show CDivW _ _; refine' wide_div (b := 240) ?_ ?_ ?_ ?_ <;> first | omega | decide)))
  | ((with_reducible refine ⟨?k, ?_⟩); (case k => first | exact Nat.zero_le _ | (exact Nat.le_of_ble_eq_true rfl)); intro p hp)
  | ((with_reducible refine' ⟨_, _, rfl, .inl ?k, ?_⟩); (case k => walk_at "sq"))
  | ((with_reducible refine' ⟨_, _, rfl, .inr ?k, ?_⟩); (case k => walk_at "sq"))
  | (with_reducible refine ⟨_, rfl, ?_⟩)
  | (with_reducible refine ⟨_, _, rfl, rfl, ?_⟩)
  | (with_reducible refine ⟨_, _, rfl, ?_⟩))
local macro_rules | `(tactic| walk_at "wp") => `(tactic| repeat (walk_at "w1"))

theorem kp_new {b l : Addr} {H H1 : Hp} {o : HO} (k : Kp b H H1) (h : H l = none) : Kp b H (upd H1 l o) := fun a u n e => by
  rw [upd_ne (ne_of_none e h)]
  exact k a u n e
theorem set_mem {α : Type} {l : List α} {i : Nat} {x y : α} (h : y ∈ l.set i x) : y = x ∨ y ∈ l := by
  rcases List.mem_or_eq_of_mem_set h with h | h
  · exact .inr h
  · exact .inl h
section
variable {P : Program} {w : World} {K : PySem.W.Frag} {mg : Str → Option Value} {base : Heap}
def spTurnedPiece : Sp := fun vs H Q _ => ∃ (b : Addr) (n : Nat) (size : Int) (v : V) (way : Int) (Pp : Pap), vs = [.ref b, .int size, v, .int way] ∧ Bag H b n ∧ n < 800000 ∧ 2 ≤ size ∧ size ≤ 64 ∧ IsPap [b] H v Pp ∧ PapOk Pp ∧ 1 ≤ Pp.1.length ∧ Pp.1.length ≤ 800 ∧ Pp.2.length ≤ 80 ∧ 0 ≤ way ∧ way < 8 ∧
  ∀ v' P' H', IsPap [b] H' v' P' → P'.1.length ≤ Pp.1.length → P'.2 = Pp.2 → PapOk P' → Bag H' b (n + 6) → Kp b H H' → Q v' H'
theorem ok_turned_piece (T : Txt P w K mg) : FnOk P w K mg base CX0 3 T.f_turned_piece T.fd_turned_piece ["bag", "size", "paper", "way"] spTurnedPiece := by
  have G_draw := ok_draw (base := base) T
  have G_near := ok_near (base := base) T
  have G_long := ok_long (base := base) T
  have G_swapped := ok_swapped (base := base) T
  refine T.F_turned_piece.ok sc_turned_piece (fun vs H Q E h => ?_) (fun cdv A outer s H vs Q E hr h => ?_)
  · obtain ⟨b, n, size, v, way, Pp, rfl, _⟩ := h
    rfl
  · obtain ⟨b, n, size, v, way, Pp, rfl, hb, hn, z0, z1, hP, pok, pl1, pl, tl, w0, w1, k⟩ := h
    obtain ⟨t, p, q, xs, rfl, ht, hp, pc, hq, npb, nqb⟩ := id hP
    have xlen := pc.len
    have pb : p ≠ b := fun e => npb (by rw [e]; exact List.mem_cons_self)
    have qb : q ≠ b := fun e => nqb (by rw [e]; exact List.mem_cons_self)
    obtain ⟨bx, by_, bz, hbl, _⟩ := id hb
    have fin : ∀ (l' : Addr) (xs' : List V) (R' : List Pc) (H5 : Hp) (l2 t3 : Addr), H5 l' = some (.lst xs') → l' ≠ b → Pieces [b] H5 xs' R' → R'.length ≤ Pp.1.length → PapOk (R', Pp.2) → Bag H5 b (n + 6) → Kp b H H5 → H5 l2 = none → upd H5 l2 (.lst (Pp.2.map V.int)) t3 = none →
        Q (.ref t3) (upd (upd H5 l2 (.lst (Pp.2.map V.int))) t3 (.tup [.ref l', .ref l2])) := by
      intro l' xs' R' H5 l2 t3 h1 h2 h3 h4 h5 h6 h7 h8 h9
      have s1 := same_new (o := .lst (Pp.2.map V.int)) h8
      have s2 := same_new (o := .tup [.ref l', .ref l2]) h9
      have s12 := s1.trans s2
      have l2b : l2 ≠ b := h6.ne_new h8
      refine k _ (R', Pp.2) _ ⟨t3, l', l2, xs', rfl, upd_same, s12 _ _ h1, h3.keep (Ks.same s12), s2 _ _ upd_same, fun e => h2 (List.mem_singleton.mp e), fun e => l2b (List.mem_singleton.mp e)⟩ h4 rfl h5 (h6.keep s12) (Kp.trans h7 (Same.kp s12))
    refine ⟨_, (pss_cons (ps_set (i := 4) sc_turned_piece.nd rfl (.inl rfl) (pe_callTy call_list_of (by rfl) T.n_list (by decide +kernel) (pa_cons (pe_ix ix_tup (pv 2) pe_int (fun _ _ => rfl)) pa_nil)))
      (pss_cons (ps_set (i := 5) sc_turned_piece.nd rfl (.inl rfl) (pe_callB call_len_seq (by rfl) T.n_len (by decide +kernel) (pa_cons (pv 4) pa_nil)))
      (pss_cons (ps_set (i := 6) sc_turned_piece.nd rfl (.inl rfl) (pe_call G_draw (hr.mono (by decide)) (by rfl) T.g_draw T.F_draw.kp T.b_draw .nil pass0 (pa_cons (pv 0) (pa_cons (pv 5) pa_nil))))
      (pss_cons (ps_set (i := 7) sc_turned_piece.nd rfl (.inl rfl) (pe_call G_draw (hr.mono (by decide)) (by rfl) T.g_draw T.F_draw.kp T.b_draw .nil pass0 (pa_cons (pv 0) (pa_cons (pv 5) pa_nil))))
      (pss_cons (ps_asg (pe_ix ix_list (pv 4) (pv 6) (fun _ _ => rfl)) (pg_tup (by rfl) (pgs_cons (pg_name (i := 8) sc_turned_piece.nd rfl (.inl rfl)) (pgs_cons (pg_name (i := 9) sc_turned_piece.nd rfl (.inl rfl)) pgs_nil))))
      (pss_cons (ps_if (pt_cmpR op_lt (pv 3) pe_int (nomark _)) (pss_one (ps_asg (pe_tup (pa_cons (pe_call G_near (hr.mono (by decide)) (by rfl) T.g_near T.F_near.kp T.b_near .nil pass0 (pa_cons (pv 0) (pa_cons (pv 5) pa_nil))) (pa_cons (pv 9) pa_nil))) (pg_sub (pv 4) (pv 6) set_list))) pss_nil)
      (pss_cons (ps_if (pt_cmpR op_eq (pv 3) pe_int (nomark _)) (pss_one (ps_asg (pe_tup (pa_cons (pv 8) (pa_cons (pe_lst pa_nil) pa_nil))) (pg_sub (pv 4) (pv 6) set_list))) pss_nil)
      (pss_cons (ps_if (pt_cmpR op_eq (pv 3) pe_int (nomark _)) (pss_one (ps_asg (pe_tup (pa_cons (pv 8) (pa_cons (pe_call G_long (hr.mono (by decide)) (by rfl) T.g_long T.F_long.kp T.b_long .nil pass0 (pa_cons (pv 9) (pa_cons (pe_op op_add (pv 1) (pe_call G_draw (hr.mono (by decide)) (by rfl) T.g_draw T.F_draw.kp T.b_draw .nil pass0 (pa_cons (pv 0) (pa_cons pe_int pa_nil)))) pa_nil))) pa_nil))) (pg_sub (pv 4) (pv 6) set_list))) pss_nil)
      (pss_cons (ps_if (pt_cmpR op_eq (pv 3) pe_int (nomark _)) (pss_one (ps_set (i := 4) sc_turned_piece.nd rfl (.inl rfl) (pe_call G_swapped (hr.mono (by decide)) (by rfl) T.g_swapped T.F_swapped.kp T.b_swapped .nil pass0 (pa_cons (pv 4) (pa_cons (pv 6) (pa_cons (pv 7) pa_nil)))))) pss_nil)
      (pss_cons (ps_if (pt_cmpR op_eq (pv 3) pe_int (nomark _)) (pss_one (ps_expr (pe_bm PySem.F.plainAttrs_list PySem.F.slot_list_pop PySem.F.type_list_pop mt_popAt (pv 4) (pa_cons (pv 6) pa_nil)))) pss_nil)
      (pss_one (ps_ret (pe_tup (pa_cons (pv 4) (pa_cons (pe_callTy call_list_of (by rfl) T.n_list (by decide +kernel) (pa_cons (pe_ix ix_tup (pv 2) pe_int (fun _ _ => rfl)) pa_nil)) pa_nil))))))))))))))), ?_⟩
    rw [show L2.start ["bag", "size", "paper", "way", "pieces", "many", "at", "other", "under", "worths"] [.ref b, .int size, .ref t, .int way] = [some (.ref b), some (.int size), some (.ref t), some (.int way), none, none, none, none, none, none] from rfl]
    try dsimp only [cxOf]
    walk_at "wp"
    intro l1 hl1
    have s1 := same_new (o := .lst xs) hl1
    have l1b : l1 ≠ b := hb.ne_new hl1
    walk_at "wp"
    rw [xlen]
    refine ⟨b, n, _, rfl, hb.keep s1, by omega, by omega, by omega, fun at_ H2 a0 a1 hb2 k2 => ?_⟩
    walk_at "wp"
    refine ⟨b, n + 1, _, rfl, hb2, by omega, by omega, by omega, fun other H3 o0 o1 hb3 k3 => ?_⟩
    have kk := Kp.trans (Same.kp s1) (Kp.trans k2 k3)
    have hl3 : H3 l1 = some (.lst xs) := k3 _ _ l1b (k2 _ _ l1b upd_same)
    have ha : at_.toNat < Pp.1.length := by omega
    obtain ⟨⟨u, ws⟩, hpa⟩ : ∃ pa, Pp.1[at_.toNat]? = some pa := ⟨_, List.getElem?_eq_getElem ha⟩
    obtain ⟨vx, hvx, tx, lx, vsx, rfl, htx0, hlx0, px, nlx⟩ := pair_at pc hpa
    have lxb : lx ≠ b := fun e => nlx (by rw [e]; exact List.mem_cons_self)
    have wsok := pok _ (List.mem_of_getElem? hpa)
    have htx := (Kp.tk kk hbl) _ _ htx0
    have hlx := kk _ _ lxb hlx0
    have ht3 := (Kp.tk kk hbl) _ _ ht
    have hq3 := kk _ _ qb hq
    have ea : at_ = (at_.toNat : Int) := by omega
    have lset : ∀ {ys : List V}, ys.length = Pp.1.length → ixN ys.length at_ = some at_.toNat := fun h => by
      unfold ixN
      rw [if_pos a0, if_pos (by rw [h]; exact a1)]
    -- one piece put in
    have putIn : ∀ (t5 l5 : Addr) (vs5 : List V) (u5 : Int) (ws5 : List W) (H5 : Hp), Kp b H H5 → H5 t5 = some (.tup [.int u5, .ref l5]) → H5 l5 = some (.lst vs5) → l5 ≠ b → l5 ≠ l1 → Pile H5 vs5 ws5 → H5 l1 = some (.lst xs) →
        Pieces [b] (upd H5 l1 (.lst (xs.set at_.toNat (.ref t5)))) (xs.set at_.toNat (.ref t5)) (Pp.1.set at_.toNat (u5, ws5)) ∧ Kp b H (upd H5 l1 (.lst (xs.set at_.toNat (.ref t5)))) := by
      intro t5 l5 vs5 u5 ws5 H5 k5 h1 h2 h3 h4 h5 h6
      have k6 : Kp b H (upd H5 l1 (.lst (xs.set at_.toNat (.ref t5)))) := kp_new k5 hl1
      have t5l : t5 ≠ l1 := ne_of h1 h6 (by intro q; cases q)
      refine ⟨pair_set ?_ _ (pc.keep (Ks.kp k6 hbl List.mem_cons_self)), k6⟩
      exact ⟨t5, l5, vs5, rfl, by rw [upd_ne t5l]; exact h1, by rw [upd_ne h4]; exact h2, h5.keep (Tk.lst h6), fun e => h3 (List.mem_singleton.mp e)⟩
    have okSet : ∀ (u5 : Int) (ws5 : List W), ws5.length ≤ 100 → (∀ z ∈ ws5, Wok z) → PapOk (Pp.1.set at_.toNat (u5, ws5), Pp.2) := fun u5 ws5 h1 h2 p hp => by
      rcases set_mem hp with rfl | hp
      · exact ⟨h1, h2⟩
      · exact pok p hp
    have lenSet : ∀ (x : Pc), (Pp.1.set at_.toNat x).length ≤ Pp.1.length := fun x => by rw [List.length_set]; exact Nat.le_refl _
    walk_at "wp"
    refine ixL (SqL.of hl3) (atI_of ea hvx) ?_
    walk_at "wp"
    refine ite_ (fun c4 => ?_) (fun c4 => ?_)
    · walk_at "wp"
      refine ⟨b, n + 2, _, rfl, hb3, by omega, by omega, by omega, fun z H4 hb4 k4 => ?_⟩
      have hl4 := k4 _ _ l1b hl3
      have hlx4 := k4 _ _ lxb hlx
      walk_at "wp"
      rename_i t5 ht5
      have s5 := same_new (o := .tup [.int z, .ref lx]) ht5
      have kk5 := Kp.trans (Kp.trans kk k4) (Same.kp s5)
      have hl5 := s5 _ _ hl4
      obtain ⟨pc6, k6⟩ := putIn t5 lx vsx z ws _ kk5 upd_same (s5 _ _ hlx4) lxb (ne_of_none hlx0 hl1) (px.keep (Kp.tk kk5 hbl)) hl5
      refine setL (n := at_.toNat) hl5 (lset xlen) ?_
      have hl6 : upd (upd H4 t5 (.tup [.int z, .ref lx])) l1 (.lst (xs.set at_.toNat (.ref t5))) l1 = some (.lst (xs.set at_.toNat (.ref t5))) := upd_same
      have hb6 : Bag (upd (upd H4 t5 (.tup [.int z, .ref lx])) l1 (.lst (xs.set at_.toNat (.ref t5)))) b (n + 6) := ((hb4.keep s5).upd l1b).mono (by omega)
      generalize upd (upd H4 t5 (.tup [.int z, .ref lx])) l1 (.lst (xs.set at_.toNat (.ref t5))) = H6 at pc6 k6 hl6 hb6
      have ht6 := (Kp.tk k6 hbl) _ _ ht
      have hq6 := k6 _ _ qb hq
      walk_at "wp"
      refine ite_ (fun e => absurd (V.int.inj e) (by omega)) (fun _ => ?_)
      walk_at "wp"
      refine ite_ (fun e => absurd (V.int.inj e) (by omega)) (fun _ => ?_)
      walk_at "wp"
      refine ite_ (fun e => absurd (V.int.inj e) (by omega)) (fun _ => ?_)
      walk_at "wp"
      refine ite_ (fun e => absurd (V.int.inj e) (by omega)) (fun _ => ?_)
      walk_at "wp"
      intro l2 hl2
      walk_at "wp"
      rename_i t3 ht3'
      exact fin _ _ _ _ _ _ hl6 l1b pc6 (lenSet _) (okSet _ _ wsok.1 wsok.2) hb6 k6 hl2 ht3'
    walk_at "wp"
    refine ite_ (fun e4 => ?_) (fun e4 => ?_)
    · have v4 := V.int.inj e4
      walk_at "wp"
      rename_i l5 hl5' t5 ht5
      have s4 := same_new (o := .lst []) hl5'
      have s5 := s4.trans (same_new (o := .tup [.int u, .ref l5]) ht5)
      have kk5 := Kp.trans kk (Same.kp s5)
      have hl5 := s5 _ _ hl3
      obtain ⟨pc6, k6⟩ := putIn t5 l5 [] u [] _ kk5 upd_same ((same_new ht5) _ _ upd_same) (hb3.ne_new hl5') (ne_of_none hl3 hl5').symm Pile.nil hl5
      refine setL (n := at_.toNat) hl5 (lset xlen) ?_
      have hl6 : upd (upd (upd H3 l5 (.lst [])) t5 (.tup [.int u, .ref l5])) l1 (.lst (xs.set at_.toNat (.ref t5))) l1 = some (.lst (xs.set at_.toNat (.ref t5))) := upd_same
      have hb6 : Bag (upd (upd (upd H3 l5 (.lst [])) t5 (.tup [.int u, .ref l5])) l1 (.lst (xs.set at_.toNat (.ref t5)))) b (n + 6) := ((hb3.keep s5).upd l1b).mono (by omega)
      generalize upd (upd (upd H3 l5 (.lst [])) t5 (.tup [.int u, .ref l5])) l1 (.lst (xs.set at_.toNat (.ref t5))) = H6 at pc6 k6 hl6 hb6
      have ht6 := (Kp.tk k6 hbl) _ _ ht
      have hq6 := k6 _ _ qb hq
      walk_at "wp"
      refine ite_ (fun e => absurd (V.int.inj e) (by omega)) (fun _ => ?_)
      walk_at "wp"
      refine ite_ (fun e => absurd (V.int.inj e) (by omega)) (fun _ => ?_)
      walk_at "wp"
      refine ite_ (fun e => absurd (V.int.inj e) (by omega)) (fun _ => ?_)
      walk_at "wp"
      intro l2 hl2
      walk_at "wp"
      rename_i t3 ht3'
      exact fin _ _ _ _ _ _ hl6 l1b pc6 (lenSet _) (okSet _ _ (Nat.zero_le _) (fun _ h => nomatch h)) hb6 k6 hl2 ht3'
    walk_at "wp"
    refine ite_ (fun e5 => ?_) (fun e5 => ?_)
    · have v5 := V.int.inj e5
      walk_at "wp"
      refine ⟨b, n + 2, _, rfl, hb3, by omega, by omega, by omega, fun m2 H4 m20 m21 hb4 k4 => ?_⟩
      have kk4 := Kp.trans kk k4
      have hl4 := k4 _ _ l1b hl3
      have hlx4 := k4 _ _ lxb hlx
      walk_at "wp"
      refine ⟨lx, _, vsx, ws, rfl, hlx4, px.keep (Kp.tk kk4 hbl), wsok.1, by omega, by omega, wsok.2, fun l5 us5 ws5 H5 hl5' hl55 pi5 w5l w5ok s4 => ?_⟩
      walk_at "wp"
      rename_i t5 ht5
      have s5 := s4.trans (same_new (o := .tup [.int u, .ref l5]) ht5)
      have kk5 := Kp.trans kk4 (Same.kp s5)
      have hl5 := s5 _ _ hl4
      obtain ⟨pc6, k6⟩ := putIn t5 l5 us5 u ws5 _ kk5 upd_same ((same_new ht5) _ _ hl55) (hb4.ne_new hl5') (ne_of_none hl4 hl5').symm (pi5.keep (Same.tk (same_new ht5))) hl5
      refine setL (n := at_.toNat) hl5 (lset xlen) ?_
      have hl6 : upd (upd H5 t5 (.tup [.int u, .ref l5])) l1 (.lst (xs.set at_.toNat (.ref t5))) l1 = some (.lst (xs.set at_.toNat (.ref t5))) := upd_same
      have hb6 : Bag (upd (upd H5 t5 (.tup [.int u, .ref l5])) l1 (.lst (xs.set at_.toNat (.ref t5)))) b (n + 6) := ((hb4.keep s5).upd l1b).mono (by omega)
      generalize upd (upd H5 t5 (.tup [.int u, .ref l5])) l1 (.lst (xs.set at_.toNat (.ref t5))) = H6 at pc6 k6 hl6 hb6
      have ht6 := (Kp.tk k6 hbl) _ _ ht
      have hq6 := k6 _ _ qb hq
      walk_at "wp"
      refine ite_ (fun e => absurd (V.int.inj e) (by omega)) (fun _ => ?_)
      walk_at "wp"
      refine ite_ (fun e => absurd (V.int.inj e) (by omega)) (fun _ => ?_)
      walk_at "wp"
      intro l2 hl2
      walk_at "wp"
      rename_i t3 ht3'
      exact fin _ _ _ _ _ _ hl6 l1b pc6 (lenSet _) (okSet _ _ w5l w5ok) hb6 k6 hl2 ht3'
    walk_at "wp"
    refine ite_ (fun e6 => ?_) (fun e6 => ?_)
    · have v6 := V.int.inj e6
      have ho : other.toNat < Pp.1.length := by omega
      obtain ⟨⟨u2, ws2⟩, hpo⟩ : ∃ pa, Pp.1[other.toNat]? = some pa := ⟨_, List.getElem?_eq_getElem ho⟩
      obtain ⟨vo, hvo, one2⟩ := pair_at pc hpo
      obtain ⟨va, hva, one1⟩ := pair_at pc hpa
      have wsok2 := pok _ (List.mem_of_getElem? hpo)
      walk_at "wp"
      refine ⟨l1, at_.toNat, other.toNat, xs, va, vo, by rw [show ((at_.toNat : Nat) : Int) = at_ by omega, show ((other.toNat : Nat) : Int) = other by omega] <;> rfl, hl3, hva, hvo, by omega, fun l5 H5 hl5' hl5 s5 => ?_⟩
      have kk5 := Kp.trans kk (Same.kp s5)
      have ks : Ks [b] H H5 := Ks.kp kk5 hbl List.mem_cons_self
      have pc6 := pair_set (one1.keep ks) other.toNat (pair_set (one2.keep ks) at_.toNat (pc.keep ks))
      have ht6 := (Kp.tk kk5 hbl) _ _ ht
      have hq6 := kk5 _ _ qb hq
      walk_at "wp"
      refine ite_ (fun e => absurd (V.int.inj e) (by omega)) (fun _ => ?_)
      walk_at "wp"
      intro l2 hl2
      walk_at "wp"
      rename_i t3 ht3'
      refine fin _ _ _ _ _ _ hl5 (hb3.ne_new hl5') pc6 ?_ ?_ ((hb3.keep s5).mono (by omega)) kk5 hl2 ht3'
      · rw [List.length_set, List.length_set]; exact Nat.le_refl _
      · intro p hp
        rcases set_mem hp with rfl | hp
        · exact wsok
        · rcases set_mem hp with rfl | hp
          · exact wsok2
          · exact pok p hp
    walk_at "wp"
    refine ite_ (fun e7 => ?_) (fun e7 => absurd (show V.int way = V.int 7 by rw [show way = 7 by
      have h4 : way ≠ 4 := fun h => e4 (by rw [h])
      have h5 : way ≠ 5 := fun h => e5 (by rw [h])
      have h6 : way ≠ 6 := fun h => e6 (by rw [h])
      omega]) e7)
    walk_at "wp"
    refine ⟨l1, xs, at_, at_.toNat, _, rfl, rfl, hl3, by omega, by omega, seq_ix a0 (by rw [xlen]; exact a1), hvx, ?_⟩
    have k6 : Kp b H (upd H3 l1 (.lst (xs.eraseIdx at_.toNat))) := kp_new kk hl1
    have pc6 := pair_erase at_.toNat (pc.keep (Ks.kp k6 hbl List.mem_cons_self))
    have ht6 := (Kp.tk k6 hbl) _ _ ht
    have hq6 := k6 _ _ qb hq
    walk_at "wp"
    intro l2 hl2
    walk_at "wp"
    rename_i t3 ht3'
    refine fin _ _ _ _ _ _ upd_same l1b pc6 ?_ ?_ ((hb3.upd l1b).mono (by omega)) k6 hl2 ht3'
    · rw [List.length_eraseIdx]; split <;> omega
    · intro p hp
      exact pok p (List.mem_of_mem_eraseIdx hp)
end
end K08

namespace K08
open PySem PySem.Spec PyProof.Rows L2 Wp Wq Wr Wn Wm
local macro_rules | `(tactic| walk_at "ne") => `(tactic| first
  | assumption
  | (refine Ne.symm ?_; assumption)
  | exact ne_of_none (by assumption) (by assumption)
  | exact (ne_of_none (by assumption) (by assumption)).symm
  | exact ne_of (by assumption) (by assumption) (by intro q; cases q))
local macro_rules | `(tactic| walk_at "hp") => `(tactic| first
  | assumption
  | exact upd_same
  | (refine (upd_ne ?_).trans ?_; (walk_at "ne"); (walk_at "hp")))
local macro_rules | `(tactic| walk_at "sq") => `(tactic| first
  | assumption
  | exact SqL.of (by walk_at "hp")
  | exact SqT.of (by walk_at "hp"))
local macro_rules | `(tactic| walk_at "kind") => `(tactic| first
  | assumption
  | exact Kind.int _
  | exact Kind.str _
  | exact Kind.bl _
  | exact Kind.non
  | exact Kind.tup (by walk_at "hp")
  | exact Kind.lst (by walk_at "hp")
  | exact Kind.dK (by walk_at "hp"))
local macro_rules | `(tactic| walk_at "w1") => `(tactic| first
  | (with_reducible refine Wp.seq ?_)
  | (with_reducible refine Wp.nx_mk ?_)
  | (with_reducible refine Wp.rt_mk ?_)
  | (with_reducible refine Wp.bk_mk ?_)
  | (with_reducible refine Wp.ct_mk ?_)
  | (with_reducible refine Wp.next ?_)
  | (with_reducible refine Wp.asg ?_)
  | ((with_reducible refine' Wp.gname ?e ?_); (case e => (try dsimp only [List.set, L2.wipe, List.map_cons, List.map_nil]); (try exact rfl)))
  | (with_reducible refine Wp.gsub ?_)
  | (with_reducible refine Wp.ret ?_)
  | (with_reducible refine Wp.retN ?_)
  | (with_reducible refine Wp.drop ?_)
  | (with_reducible refine Wp.dput ?_)
  | (with_reducible refine Wp.ifs ?_)
  | ((with_reducible refine' Wp.var ?h ?_); (case h => exact rfl))
  | (with_reducible refine Wp.con ?_)
  | (with_reducible refine Wp.op ?_)
  | (with_reducible refine Wp.un ?_)
  | (with_reducible refine Wp.cb ?_)
  | (with_reducible refine Wp.anil ?_)
  | (with_reducible refine Wp.acons ?_)
  | (with_reducible refine Wp.call ?_)
  | (with_reducible refine Wp.test ?_)
  | (with_reducible refine Wp.tb_ ?_)
  | (with_reducible refine Wp.and_ ?_)
  | (with_reducible refine Wp.or_ ?_)
  | (with_reducible refine Wp.not_ ?_)
  | (with_reducible refine Wp.andV ?_)
  | (with_reducible refine Wp.orV ?_)
  | (with_reducible refine Wp.notV ?_)
  | (with_reducible refine Wp.rI0_ ?_)
  | (with_reducible refine Wp.rU_ ?_)
  | ((with_reducible refine Wp.rEq_ ?k ?_); (case k => exact rfl))
  | ((with_reducible refine Wp.rNe_ ?k ?_); (case k => exact rfl))
  | (with_reducible refine Wp.gcons ?_)
  | (with_reducible refine Wp.gnil ?_)
  | ((with_reducible refine' Wp.gtup ?h ?e ?_); (case h => walk_at "sq"); (case e => exact rfl))
  | (with_reducible refine Wp.sl ?_)
  | (with_reducible refine Wp.part ?_)
  | (with_reducible refine Wp.nopart ?_)
  | (with_reducible refine Wp.ifE ?_)
  | (with_reducible refine Wp.bm0 ?_)
  | (with_reducible refine Wp.bm ?_)
  | (with_reducible refine Wp.lcR1 ?_)
  | (with_reducible refine Wp.lcR2 ?_)
  | (with_reducible refine Wp.lcL ?_)
  | (with_reducible refine Wp.chain ?_)
  | (with_reducible refine Wp.lc2V ?_)
  | (with_reducible refine Wp.piL ?_)
  | (with_reducible refine Wp.yes ?_)
  | (with_reducible refine Wp.dinI ?_)
  | (with_reducible refine Wp.dninI ?_)
  | (with_reducible refine Wp.dget ?_)
  | ((with_reducible refine' ⟨?k, ?_⟩); (case k => show L2.wipe _ _ = L2.wipe _ _; exact rfl))
  | (with_reducible refine Wp.forR1 ?_)
  | (with_reducible refine Wp.forR2 ?_)
  | (with_reducible refine Wp.forL ?_)
  | (with_reducible refine Wp.forT ?_)
  | ((with_reducible refine' ⟨?k, ?_⟩); (case k => exact Wp.tyvL (by walk_at "hp")))
  | ((with_reducible refine' Wp.rev_ ?k ?_); (case k => walk_at "hp"))
  | ((with_reducible refine' Wp.isi ?k ?h ?_); (case k => walk_at "kind"); (case h => decide))
  | ((with_reducible refine' Wp.typ ?k ?_); (case k => walk_at "kind"))
  | (with_reducible refine Wp.slS ?k ?_; (case k => assumption))
  | (with_reducible refine iteT ?_)
  | (with_reducible refine iteF ?_)
  | (with_reducible refine Wp.pcons ?_)
  | (with_reducible refine Wp.pnil ?_)
  | ((with_reducible refine' Wp.iteBnT ?h ?_); (case h => show isB _ _ = false; decide))
  | ((with_reducible refine' Wp.iteBnF ?h ?_); (case h => show isB _ _ = true; decide))
  | ((with_reducible refine' Wp.iteBt ?h ?_); (case h => show isB _ _ = true; decide))
  | ((with_reducible refine' Wp.iteBf ?h ?_); (case h => show isB _ _ = false; decide))
  | (with_reducible refine Wp.iteT' ?_)
  | (with_reducible refine Wp.iteF' ?_)
  | (with_reducible refine Wp.rNT_ ?_)
  | ((with_reducible refine Wp.lst ?_))
  | ((with_reducible refine Wp.tup ?_))
  | ((with_reducible refine' Wp.ixL ?h ?e ?_); (case h => walk_at "sq"); (case e => exact rfl))
  | ((with_reducible refine' Wp.ixT ?h ?e ?_); (case h => walk_at "sq"); (case e => exact rfl))
  | ((with_reducible refine' Wp.setL ?h ?e ?_); (case h => walk_at "hp"); (case e => exact rfl))
  | ((with_reducible refine Wp.rI_ ?k ?_); (case k => first | (show (0:Int) < _; omega) | (show CPow _ _; refine' ⟨?_, ?_, ?_⟩ <;> omega) | (show CDiv _ _; refine' ⟨?_, ?_⟩ <;> omega) | (show CMul _ _; refine' Or.inl ⟨?_, ?_⟩ <;> omega) | (show CMul _ _; refine' Or.inr ⟨?_, ?_⟩ <;> first | omega | decide) | (show CDivW _ _; refine' wide_div (b := 240) ?_ ?_ ?_ ?_ <;> first | omega | decide)))
  | ((with_reducible refine ⟨?k, ?_⟩); (case k => first | exact Nat.zero_le _ | (exact Nat.le_of_ble_eq_true rfl)); intro p hp)
  | ((with_reducible refine' ⟨_, _, rfl, .inl ?k, ?_⟩); (case k => walk_at "sq"))
  | ((with_reducible refine' ⟨_, _, rfl, .inr ?k, ?_⟩); (case k => walk_at "sq"))
  | (with_reducible refine ⟨_, rfl, ?_⟩)
  | (with_reducible refine ⟨_, _, rfl, rfl, ?_⟩)
  | (with_reducible refine ⟨_, _, rfl, ?_⟩))
local macro_rules | `(tactic| walk_at "wp") => `(tactic| repeat (walk_at "w1"))

theorem eqv_nilP (l : List Pc) : PyData.eqv (.list (l.map pD)) (.list []) = decide (l = []) := by
  cases l with
  | nil => simp [PyData.eqv, PyData.eqvAll]
  | cons x r => simp [PyData.eqv, PyData.eqvAll]
theorem pcs_shaped {R : List Pc} (h : ∀ p ∈ R, ∀ w ∈ p.2, Wok w) : SeqAt.shaped (.list (R.map pD)) = true := by
  have h1 := pDs_depth R
  have h3 : (PyData.list (R.map pD)).depth ≤ 64 := by
    simp only [PyData.depth]
    omega
  show (PyData.canLay0 (.list (R.map pD)) && decide ((PyData.list (R.map pD)).depth ≤ 64)) = true
  rw [decide_eq_true h3, Bool.and_true]
  simp only [PyData.canLay0]
  exact pDs_lay R h
theorem cut_upto {xs : List V} {n : Nat} : cutV xs none (some (n : Int)) = xs.take n := Wp.cut_take
theorem cut_from {xs : List V} {n : Nat} : cutV xs (some (n : Int)) none = xs.drop n := by
  unfold cutV
  rw [show HT.sIx xs.length 0 (some (n : Int)) = min n xs.length from HT.sIx_nat .., show HT.sIx xs.length xs.length none = xs.length from HT.sIx_none ..]
  by_cases c : n ≤ xs.length
  · rw [Nat.min_eq_left c, List.take_of_length_le (by rw [List.length_drop]; exact Nat.le_refl _)]
  · rw [Nat.min_eq_right (by omega), List.drop_eq_nil_of_le (Nat.le_refl _), List.drop_eq_nil_of_le (by omega), List.take_nil]
section
variable {P : Program} {w : World} {K : PySem.W.Frag} {mg : Str → Option Value} {base : Heap}
def spTurned : Sp := fun vs H Q _ => ∃ (b : Addr) (n : Nat) (size : Int) (v : V) (Pp : Pap), vs = [.ref b, .int size, v] ∧ Bag H b n ∧ n < 700000 ∧ 2 ≤ size ∧ size ≤ 64 ∧ IsPap [b] H v Pp ∧ PapOk Pp ∧ Pp.1.length ≤ 799 ∧ Pp.2.length ≤ 79 ∧
  ∀ v' P' H', IsPap [b] H' v' P' → P'.1.length ≤ Pp.1.length + 1 → P'.2.length ≤ Pp.2.length + 1 → PapOk P' → Bag H' b (n + 10) → Kp b H H' → Q v' H'
theorem ok_turned (T : Txt P w K mg) : FnOk P w K mg base CX0 4 T.f_turned T.fd_turned ["bag", "size", "paper"] spTurned := by
  have G_draw := ok_draw (base := base) T
  have G_near := ok_near (base := base) T
  have G_swapped := ok_swapped (base := base) T
  have G_turned_piece := ok_turned_piece (base := base) T
  refine T.F_turned.ok sc_turned (fun vs H Q E h => ?_) (fun cdv A outer s H vs Q E hr h => ?_)
  · obtain ⟨b, n, size, v, Pp, rfl, _⟩ := h
    rfl
  · obtain ⟨b, n, size, v, Pp, rfl, hb, hn, z0, z1, hP, pok, pl, tl, k⟩ := h
    obtain ⟨t, p, q, xs, rfl, ht, hp, pc, hq, npb, nqb⟩ := id hP
    have xlen := pc.len
    have pb : p ≠ b := fun e => npb (by rw [e]; exact List.mem_cons_self)
    have qb : q ≠ b := fun e => nqb (by rw [e]; exact List.mem_cons_self)
    obtain ⟨bx, by_, bz, hbl, _⟩ := id hb
    have fin : ∀ (l' q' : Addr) (xs' : List V) (P' : Pap) (H5 : Hp) (t3 : Addr), H5 l' = some (.lst xs') → l' ≠ b → Pieces [b] H5 xs' P'.1 → P'.1.length ≤ Pp.1.length + 1 → H5 q' = some (.lst (P'.2.map V.int)) → q' ≠ b → P'.2.length ≤ Pp.2.length + 1 → PapOk P' → Bag H5 b (n + 10) → Kp b H H5 → H5 t3 = none →
        Q (.ref t3) (upd H5 t3 (.tup [.ref l', .ref q'])) := by
      intro l' q' xs' P' H5 t3 h1 h2 h3 h4 h5 h6 h7 h8 h9 h10 h11
      have s2 := same_new (o := .tup [.ref l', .ref q']) h11
      exact k _ P' _ ⟨t3, l', q', xs', rfl, upd_same, s2 _ _ h1, h3.keep (Ks.same s2), s2 _ _ h5, fun e => h2 (List.mem_singleton.mp e), fun e => h6 (List.mem_singleton.mp e)⟩ h4 h7 h8 (h9.keep s2) (Kp.trans h10 (Same.kp s2))
    refine ⟨_, (pss_cons (ps_set (i := 3) sc_turned.nd rfl (.inl rfl) (pe_call G_draw (hr.mono (by decide)) (by rfl) T.g_draw T.F_draw.kp T.b_draw .nil pass0 (pa_cons (pv 0) (pa_cons pe_int pa_nil))))
      (pss_cons (ps_set (i := 4) sc_turned.nd rfl (.inl rfl) (pe_callTy call_list_of (by rfl) T.n_list (by decide +kernel) (pa_cons (pe_ix ix_tup (pv 2) pe_int (fun _ _ => rfl)) pa_nil)))
      (pss_cons (ps_set (i := 5) sc_turned.nd rfl (.inl rfl) (pe_callTy call_list_of (by rfl) T.n_list (by decide +kernel) (pa_cons (pe_ix ix_tup (pv 2) pe_int (fun _ _ => rfl)) pa_nil)))
      (C8.pss_cut (ps_if (PW.pt (pw_and (pt_cmpR op_lt (pv 3) pe_int (nomark _)) (pw_and1 (pt_cmpR (op_neD hr.units) (pv 4) (pe_lst pa_nil) (nomark _))))) (pss_one (ps_ret (pe_call G_turned_piece (hr.mono (by decide)) (by rfl) T.g_turned_piece T.F_turned_piece.kp T.b_turned_piece .nil pass0 (pa_cons (pv 0) (pa_cons (pv 1) (pa_cons (pv 2) (pa_cons (pv 3) pa_nil))))))) pss_nil)
      (pss_cons (ps_set (i := 6) sc_turned.nd rfl (.inl rfl) (pe_call G_draw (hr.mono (by decide)) (by rfl) T.g_draw T.F_draw.kp T.b_draw .nil pass0 (pa_cons (pv 0) (pa_cons (pe_op op_add (pe_callB call_len_seq (by rfl) T.n_len (by decide +kernel) (pa_cons (pv 5) pa_nil)) pe_int) pa_nil))))
      (pss_cons (ps_set (i := 7) sc_turned.nd rfl (.inl rfl) (pe_call G_draw (hr.mono (by decide)) (by rfl) T.g_draw T.F_draw.kp T.b_draw .nil pass0 (pa_cons (pv 0) (pa_cons (pe_op op_add (pe_callB call_len_seq (by rfl) T.n_len (by decide +kernel) (pa_cons (pv 4) pa_nil)) pe_int) pa_nil))))
      (pss_cons (ps_if (pt_cmpR op_eq (pv 3) pe_int (nomark _)) (pss_one (ps_ret (pe_tup (pa_cons (pe_op op_cat (pe_op op_cat (pe_slice sl_list (pv 4) po_none (po_some (pv 7))) (pe_lst (pa_cons (pe_tup (pa_cons (pe_call G_near (hr.mono (by decide)) (by rfl) T.g_near T.F_near.kp T.b_near .nil pass0 (pa_cons (pv 0) (pa_cons (pe_callB call_len_seq (by rfl) T.n_len (by decide +kernel) (pa_cons (pv 4) pa_nil)) pa_nil))) (pa_cons (pe_lst (pa_cons (pe_tup (pa_cons pe_str (pa_cons pe_int pa_nil))) pa_nil)) pa_nil))) pa_nil))) (pe_slice sl_list (pv 4) (po_some (pv 7)) po_none)) (pa_cons (pv 5) pa_nil))))) pss_nil)
      (pss_cons (ps_if (pt_cmpR op_eq (pv 3) pe_int (nomark _)) (pss_one (ps_ret (pe_tup (pa_cons (pv 4) (pa_cons (pe_op op_cat (pe_slice sl_list (pv 5) po_none (po_some (pv 6))) (pe_slice sl_list (pv 5) (po_some (pe_op op_add (pv 6) pe_int)) po_none)) pa_nil))))) pss_nil)
      (pss_cons (ps_if (pt_cmpR op_eq (pv 3) pe_int (nomark _)) (pss_one (ps_ret (pe_tup (pa_cons (pv 4) (pa_cons (pe_op op_cat (pe_op op_cat (pe_slice sl_list (pv 5) po_none (po_some (pv 6))) (pe_lst (pa_cons (pe_call G_near (hr.mono (by decide)) (by rfl) T.g_near T.F_near.kp T.b_near .nil pass0 (pa_cons (pv 0) (pa_cons (pe_callB call_len_seq (by rfl) T.n_len (by decide +kernel) (pa_cons (pv 4) pa_nil)) pa_nil))) pa_nil))) (pe_slice sl_list (pv 5) (po_some (pv 6)) po_none)) pa_nil))))) pss_nil)
      (pss_cons (ps_if (PW.pt (pw_and (pt_cmpR op_eq (pv 3) pe_int (nomark _)) (pw_and1 (pt_cmpR op_lt (pv 6) (pe_callB call_len_seq (by rfl) T.n_len (by decide +kernel) (pa_cons (pv 5) pa_nil)) (nomark _))))) (pss_one (ps_ret (pe_tup (pa_cons (pv 4) (pa_cons (pe_call G_swapped (hr.mono (by decide)) (by rfl) T.g_swapped T.F_swapped.kp T.b_swapped .nil pass0 (pa_cons (pv 5) (pa_cons (pv 6) (pa_cons (pe_call G_draw (hr.mono (by decide)) (by rfl) T.g_draw T.F_draw.kp T.b_draw .nil pass0 (pa_cons (pv 0) (pa_cons (pe_callB call_len_seq (by rfl) T.n_len (by decide +kernel) (pa_cons (pv 5) pa_nil)) pa_nil))) pa_nil)))) pa_nil))))) pss_nil)
      (pss_cons (ps_if (pt_cmpR op_lt (pv 6) (pe_callB call_len_seq (by rfl) T.n_len (by decide +kernel) (pa_cons (pv 5) pa_nil)) (nomark _)) (pss_one (ps_asg (pe_call G_near (hr.mono (by decide)) (by rfl) T.g_near T.F_near.kp T.b_near .nil pass0 (pa_cons (pv 0) (pa_cons (pe_callB call_len_seq (by rfl) T.n_len (by decide +kernel) (pa_cons (pv 4) pa_nil)) pa_nil))) (pg_sub (pv 5) (pv 6) set_list))) pss_nil)
      (pss_one (ps_ret (pe_tup (pa_cons (pv 4) (pa_cons (pv 5) pa_nil)))))))))))))))), ?_⟩
    rw [show L2.start ["bag", "size", "paper", "way", "pieces", "tops", "at", "here"] [.ref b, .int size, .ref t] = [some (.ref b), some (.int size), some (.ref t), none, none, none, none, none] from rfl]
    try dsimp only [cxOf]
    walk_at "wp"
    refine ⟨b, n, _, rfl, hb, by omega, by omega, by omega, fun way H1 w0 w1 hb1 k1 => ?_⟩
    have ht1 := (Kp.tk k1 hbl) _ _ ht
    have hp1 := k1 _ _ pb hp
    have hq1 := k1 _ _ qb hq
    walk_at "wp"
    intro l1 hl1
    have s1 := same_new (o := .lst xs) hl1
    have l1b : l1 ≠ b := hb1.ne_new hl1
    have ht2 := s1 _ _ ht1
    have hq2 := s1 _ _ hq1
    walk_at "wp"
    intro q1 hq1'
    have s2 := same_new (o := .lst (Pp.2.map V.int)) hq1'
    have hb2 := (hb1.keep s1).keep s2
    have q1b : q1 ≠ b := (hb1.keep s1).ne_new hq1'
    have hl2 := s2 _ _ (show upd H1 l1 (.lst xs) l1 = some (.lst xs) from upd_same)
    have hq3 : upd (upd H1 l1 (.lst xs)) q1 (.lst (Pp.2.map V.int)) q1 = some (.lst (Pp.2.map V.int)) := upd_same
    have k2 : Kp b H (upd (upd H1 l1 (.lst xs)) q1 (.lst (Pp.2.map V.int))) := Kp.trans k1 (Same.kp (s1.trans s2))
    generalize upd (upd H1 l1 (.lst xs)) q1 (.lst (Pp.2.map V.int)) = H2 at hb2 hl2 hq3 k2
    walk_at "wp"
    refine Wp.cut (fun σ' H' => σ' = [some (.ref b), some (.int size), some (.ref t), some (.int way), some (.ref l1), some (.ref q1), none, none] ∧ Kp b H H' ∧ Bag H' b (n + 1) ∧ H' l1 = some (.lst xs) ∧ H' q1 = some (.lst (Pp.2.map V.int))) ?_ ?_
    · walk_at "wp"
      refine ite_ (fun c => ?_) (fun c => ?_)
      · walk_at "wp"
        rename_i e0 he0
        have s3 := same_new (o := .lst []) he0
        have k3 := Kp.trans k2 (Same.kp s3)
        have hb3 := hb2.keep s3
        have pc3 := pc.keep (Ks.kp k3 hbl List.mem_cons_self)
        have pw : ∀ p ∈ Pp.1, ∀ w ∈ p.2, Wok w := fun p hp => (pok p hp).2
        refine ⟨.list (Pp.1.map pD), .list [], .lst (SqL.of (s3 _ _ hl2)) pc3.dpAll, .lst (SqL.of upd_same) .nil, pcs_shaped pw, pcs_shaped (R := []) (fun _ h => nomatch h), ?_⟩
        rw [eqv_nilP]
        walk_at "wp"
        refine iteN (fun e => ?_) (fun e => ?_)
        · walk_at "wp"
          have pl1 : 1 ≤ Pp.1.length := by
            cases e2 : Pp.1 with
            | nil => exact absurd e2 e
            | cons x r => exact Nat.succ_le_succ (Nat.zero_le _)
          refine ⟨b, n + 1, size, _, way, Pp, rfl, hb3, by omega, z0, z1, hP.keep (Ks.kp k3 hbl List.mem_cons_self), pok, pl1, by omega, by omega, w0, c, fun v' P' H' hP' h1 h2 h3 h4 h5 => ?_⟩
          exact k v' P' H' hP' (by omega) (by rw [h2]; omega) h3 (h4.mono (by omega)) (Kp.trans k3 h5)
        · walk_at "wp"
          exact ⟨rfl, k3, hb3, s3 _ _ hl2, s3 _ _ hq3⟩
      · walk_at "wp"
        exact ⟨rfl, k2, hb2, hl2, hq3⟩
    clear hb2 hl2 hq3 k2 H2
    rintro σ' H2 ⟨rfl, k2, hb2, hl2, hq2'⟩
    have tlen : (Pp.2.map V.int).length = Pp.2.length := List.length_map ..
    walk_at "wp"
    rw [tlen]
    refine ⟨b, n + 1, _, rfl, hb2, by omega, by omega, by omega, fun at_ H3 a0 a1 hb3 k3 => ?_⟩
    have hl3 := k3 _ _ l1b hl2
    have hq3 := k3 _ _ q1b hq2'
    walk_at "wp"
    rw [xlen]
    refine ⟨b, n + 2, _, rfl, hb3, by omega, by omega, by omega, fun here H4 h0 h1 hb4 k4 => ?_⟩
    have hl4 := k4 _ _ l1b hl3
    have hq4 := k4 _ _ q1b hq3
    have kk := Kp.trans k2 (Kp.trans k3 k4)
    obtain ⟨an, rfl⟩ : ∃ an : Nat, at_ = an := ⟨at_.toNat, by omega⟩
    obtain ⟨hn', rfl⟩ : ∃ hn : Nat, here = hn := ⟨here.toNat, by omega⟩
    clear k3 k4 hb3 hl3 hq3 k2 hb2 hl2 hq2'
    walk_at "wp"
    refine ite_ (fun e8 => ?_) (fun e8 => ?_)
    · -- a piece put in
      walk_at "wp"
      refine slL (SqL.of hl4) fun c1 hc1 => ?_
      rw [cut_upto]
      have s5 := same_new (o := .lst (xs.take hn')) hc1
      have hl5 := s5 _ _ hl4
      have hb5 := hb4.keep s5
      have c1b : c1 ≠ b := hb4.ne_new hc1
      walk_at "wp"
      rw [xlen]
      refine ⟨b, n + 3, _, rfl, hb5, by omega, by omega, by omega, fun z H6 hb6 k6 => ?_⟩
      have hc6 := k6 _ _ c1b (show upd H4 c1 (.lst (xs.take hn')) c1 = _ from upd_same)
      have hl6 := k6 _ _ l1b hl5
      have hq6 := k6 _ _ q1b (s5 _ _ hq4)
      walk_at "wp"
      rename_i t5 ht5 l5 hl5' t6 ht6 l6 hl6'
      have u1 := same_new (o := .tup [.str "go", .int 0]) ht5
      have u2 := same_new (o := .lst [.ref t5]) hl5'
      have u3 := same_new (o := .tup [.int z, .ref l5]) ht6
      have u4 := same_new (o := .lst [.ref t6]) hl6'
      have u14 := u1.trans (u2.trans (u3.trans u4))
      refine cat_ (u14 _ _ hc6) upd_same ?_ fun c2 hc2 => ?_
      · exact Nat.le_trans (show _ ≤ 1000 by rw [List.length_take]; show _ + 1 ≤ _; omega) (by decide)
      have u5 := same_new (o := .lst (xs.take hn' ++ [.ref t6])) hc2
      have u15 := u14.trans u5
      walk_at "wp"
      refine slL (SqL.of (u15 _ _ hl6)) fun c3 hc3 => ?_
      rw [cut_from]
      have u6 := same_new (o := .lst (xs.drop hn')) hc3
      walk_at "wp"
      refine cat_ (u6 _ _ upd_same) upd_same ?_ fun c4 hc4 => ?_
      · exact Nat.le_trans (show _ ≤ 1000 by rw [List.length_append, List.length_take, List.length_drop]; show _ + 1 + _ ≤ _; omega) (by decide)
      have u7 := same_new (o := .lst (xs.take hn' ++ [.ref t6] ++ xs.drop hn')) hc4
      have u37 := u3.trans (u4.trans (u5.trans (u6.trans u7)))
      have u27 := u2.trans u37
      have u17 := u1.trans u27
      have hb7 := hb6.keep u17
      have ht5 := u27 _ _ (show upd H6 t5 (.tup [.str "go", .int 0]) t5 = some (.tup [.str "go", .int 0]) from upd_same)
      have hl5'' := u37 _ _ (show upd (upd H6 t5 (.tup [.str "go", .int 0])) l5 (.lst [.ref t5]) l5 = some (.lst [.ref t5]) from upd_same)
      have ht6' := (u4.trans (u5.trans (u6.trans u7))) _ _ (show upd (upd (upd H6 t5 (.tup [.str "go", .int 0])) l5 (.lst [.ref t5])) t6 (.tup [.int z, .ref l5]) t6 = some (.tup [.int z, .ref l5]) from upd_same)
      have hq7 := u17 _ _ hq6
      have k7 := Kp.trans kk (Kp.trans (Same.kp s5) (Kp.trans k6 (Same.kp u17)))
      have l5b : l5 ≠ b := (hb6.keep u1).ne_new hl5'
      have c4b : c4 ≠ b := (hb6.keep (u15.trans u6)).ne_new hc4
      have hc7 := (upd_same : upd (upd (upd (upd (upd (upd (upd H6 t5 (.tup [.str "go", .int 0])) l5 (.lst [.ref t5])) t6 (.tup [.int z, .ref l5])) l6 (.lst [.ref t6])) c2 (.lst (xs.take hn' ++ [.ref t6]))) c3 (.lst (xs.drop hn'))) c4 (.lst (xs.take hn' ++ [.ref t6] ++ xs.drop hn')) c4 = _)
      generalize upd (upd (upd (upd (upd (upd (upd H6 t5 (.tup [.str "go", .int 0])) l5 (.lst [.ref t5])) t6 (.tup [.int z, .ref l5])) l6 (.lst [.ref t6])) c2 (.lst (xs.take hn' ++ [.ref t6]))) c3 (.lst (xs.drop hn'))) c4 (.lst (xs.take hn' ++ [.ref t6] ++ xs.drop hn')) = H7 at hb7 ht5 hl5'' ht6' hq7 k7 hc7
      have pc7 := pc.keep (S := [b]) (Ks.kp k7 hbl List.mem_cons_self)
      have one : IsPc [b] H7 (.ref t6) (z, [((("go" : Str), (0 : Int)) : W)]) := ⟨t6, l5, [.ref t5], rfl, ht6', hl5'', Pile.one ⟨t5, rfl, ht5⟩, fun e => l5b (List.mem_singleton.mp e)⟩
      walk_at "wp"
      rename_i t3 ht3
      refine fin c4 q1 _ (Pp.1.take hn' ++ [(z, [((("go" : Str), (0 : Int)) : W)])] ++ Pp.1.drop hn', Pp.2) _ _ hc7 c4b (pair_app (pair_app (pair_take _ pc7) (Paired.cons one Paired.nil)) (pair_drop _ pc7)) ?_ hq7 q1b (Nat.le_succ _) ?_ (hb7.mono (by omega)) k7 ht3
      · rw [List.length_append, List.length_append, List.length_take, List.length_drop]
        show _ + 1 + _ ≤ _
        omega
      · intro p hp
        rcases List.mem_append.mp hp with hp | hp
        · rcases List.mem_append.mp hp with hp | hp
          · exact pok p (List.mem_of_mem_take hp)
          · rw [List.mem_singleton.mp hp]
            refine ⟨(show 1 ≤ 100 by decide), fun w hw => ?_⟩
            rw [List.mem_singleton.mp hw]
            show PyData.strOk ("go" : Str) = true
            decide +kernel
        · exact pok p (List.mem_of_mem_drop hp)
    have keepPc : ∀ {H5 : Hp}, Kp b H H5 → Pieces [b] H5 xs Pp.1 := fun k5 => pc.keep (Ks.kp k5 hbl List.mem_cons_self)
    have okT : ∀ ts : List Int, PapOk (Pp.1, ts) := fun ts p hp => pok p hp
    walk_at "wp"
    refine ite_ (fun e9 => ?_) (fun e9 => ?_)
    · -- a top taken out
      walk_at "wp"
      refine slL (SqL.of hq4) fun c1 hc1 => ?_
      rw [cut_upto]
      have u1 := same_new (o := .lst ((Pp.2.map V.int).take an)) hc1
      walk_at "wp"
      refine slL (SqL.of (u1 _ _ hq4)) fun c2 hc2 => ?_
      rw [show ((an : Int) + 1) = ((an + 1 : Nat) : Int) from rfl, cut_from]
      have u2 := same_new (o := .lst ((Pp.2.map V.int).drop (an + 1))) hc2
      walk_at "wp"
      refine cat_ (u2 _ _ upd_same) upd_same ?_ fun c4 hc4 => ?_
      · exact Nat.le_trans (show _ ≤ 1000 by rw [List.length_take, List.length_drop, tlen]; omega) (by decide)
      have u3 := same_new (o := .lst ((Pp.2.map V.int).take an ++ (Pp.2.map V.int).drop (an + 1))) hc4
      have u13 := u1.trans (u2.trans u3)
      have c4b : c4 ≠ b := (hb4.keep (u1.trans u2)).ne_new hc4
      have k7 := Kp.trans kk (Same.kp u13)
      have e0 : (Pp.2.map V.int).take an ++ (Pp.2.map V.int).drop (an + 1) = (Pp.2.take an ++ Pp.2.drop (an + 1)).map V.int := by rw [List.map_append, List.map_take, List.map_drop]
      walk_at "wp"
      rename_i t3 ht3
      refine fin l1 c4 xs (Pp.1, Pp.2.take an ++ Pp.2.drop (an + 1)) _ _ (u13 _ _ hl4) l1b (keepPc k7) (Nat.le_succ _) (by rw [upd_same, e0]) c4b ?_ (okT _) ((hb4.keep u13).mono (by omega)) k7 ht3
      show (Pp.2.take an ++ Pp.2.drop (an + 1)).length ≤ _
      rw [List.length_append, List.length_take, List.length_drop]
      omega
    walk_at "wp"
    refine ite_ (fun e10 => ?_) (fun e10 => ?_)
    · -- a top put in
      walk_at "wp"
      refine slL (SqL.of hq4) fun c1 hc1 => ?_
      rw [cut_upto]
      have u1 := same_new (o := .lst ((Pp.2.map V.int).take an)) hc1
      have c1b : c1 ≠ b := hb4.ne_new hc1
      have hl5 := u1 _ _ hl4
      walk_at "wp"
      rw [xlen]
      refine ⟨b, n + 3, _, rfl, hb4.keep u1, by omega, by omega, by omega, fun z H6 hb6 k6 => ?_⟩
      have hc6 := k6 _ _ c1b (show upd H4 c1 (.lst ((Pp.2.map V.int).take an)) c1 = _ from upd_same)
      have hl6 := k6 _ _ l1b hl5
      have hq6 := k6 _ _ q1b (u1 _ _ hq4)
      walk_at "wp"
      rename_i l6 hl6'
      have v1 := same_new (o := .lst [.int z]) hl6'
      refine cat_ (v1 _ _ hc6) upd_same ?_ fun c2 hc2 => ?_
      · exact Nat.le_trans (show _ ≤ 1000 by rw [List.length_take, tlen]; show _ + 1 ≤ _; omega) (by decide)
      have v2 := same_new (o := .lst ((Pp.2.map V.int).take an ++ [.int z])) hc2
      walk_at "wp"
      refine slL (SqL.of ((v1.trans v2) _ _ hq6)) fun c3 hc3 => ?_
      rw [cut_from]
      have v3 := same_new (o := .lst ((Pp.2.map V.int).drop an)) hc3
      walk_at "wp"
      refine cat_ (v3 _ _ upd_same) upd_same ?_ fun c4 hc4 => ?_
      · exact Nat.le_trans (show _ ≤ 1000 by rw [List.length_append, List.length_take, List.length_drop, tlen]; show _ + 1 + _ ≤ _; omega) (by decide)
      have v4 := same_new (o := .lst ((Pp.2.map V.int).take an ++ [.int z] ++ (Pp.2.map V.int).drop an)) hc4
      have v14 := v1.trans (v2.trans (v3.trans v4))
      have c4b : c4 ≠ b := (hb6.keep (v1.trans (v2.trans v3))).ne_new hc4
      have k7 := Kp.trans kk (Kp.trans (Same.kp u1) (Kp.trans k6 (Same.kp v14)))
      have e0 : (Pp.2.map V.int).take an ++ [.int z] ++ (Pp.2.map V.int).drop an = (Pp.2.take an ++ [z] ++ Pp.2.drop an).map V.int := by rw [List.map_append, List.map_append, List.map_take, List.map_drop] <;> rfl
      walk_at "wp"
      rename_i t3 ht3
      refine fin l1 c4 xs (Pp.1, Pp.2.take an ++ [z] ++ Pp.2.drop an) _ _ (v14 _ _ hl6) l1b (keepPc k7) (Nat.le_succ _) (by rw [upd_same, e0]) c4b ?_ (okT _) ((hb6.keep v14).mono (by omega)) k7 ht3
      show (Pp.2.take an ++ [z] ++ Pp.2.drop an).length ≤ _
      rw [List.length_append, List.length_append, List.length_take, List.length_drop]
      show _ + 1 + _ ≤ _
      omega
    have swapIn : ∀ {j : Nat}, j < Pp.2.length → ∃ x, Pp.2[j]? = some x ∧ (Pp.2.map V.int)[j]? = some (.int x) := fun {j} h => by
      refine ⟨_, List.getElem?_eq_getElem h, ?_⟩
      rw [List.getElem?_map, List.getElem?_eq_getElem h] <;> rfl
    walk_at "wp"
    refine ite_ (fun e11 => ?_) (fun e11 => ?_)
    · walk_at "wp"
      rw [tlen]
      refine ite_ (fun c => ?_) (fun c => ?_)
      · walk_at "wp"
        rw [tlen]
        refine ⟨b, n + 3, _, rfl, hb4, by omega, by omega, by omega, fun other H6 o0 o1 hb6 k6 => ?_⟩
        obtain ⟨on, rfl⟩ : ∃ on : Nat, other = on := ⟨other.toNat, by omega⟩
        obtain ⟨x, hx, hx'⟩ := swapIn (j := an) (by omega)
        obtain ⟨y, hy, hy'⟩ := swapIn (j := on) (by omega)
        have hq6 := k6 _ _ q1b hq4
        have hl6 := k6 _ _ l1b hl4
        walk_at "wp"
        refine ⟨q1, an, on, _, _, _, rfl, hq6, hx', hy', by omega, fun l7 H7 hl7 hl77 s7 => ?_⟩
        have k7 := Kp.trans kk (Kp.trans k6 (Same.kp s7))
        walk_at "wp"
        rename_i t3 ht3
        refine fin l1 l7 xs (Pp.1, (Pp.2.set an y).set on x) _ _ (s7 _ _ hl6) l1b (keepPc k7) (Nat.le_succ _) (by rw [hl77, List.map_set, List.map_set]) (hb6.ne_new hl7) ?_ (okT _) ((hb6.keep s7).mono (by omega)) k7 ht3
        show ((Pp.2.set an y).set on x).length ≤ _
        rw [List.length_set, List.length_set]
        omega
      · walk_at "wp"
        rw [tlen]
        refine ite_ (fun c2 => absurd c2 c) (fun _ => ?_)
        walk_at "wp"
        rename_i t3 ht3
        exact fin l1 q1 xs Pp _ _ hl4 l1b (keepPc kk) (Nat.le_succ _) hq4 q1b (Nat.le_succ _) pok (hb4.mono (by omega)) kk ht3
    · walk_at "wp"
      rw [tlen]
      refine ite_ (fun c => ?_) (fun c => ?_)
      · walk_at "wp"
        rw [xlen]
        refine ⟨b, n + 3, _, rfl, hb4, by omega, by omega, by omega, fun z H6 hb6 k6 => ?_⟩
        have hq6 := k6 _ _ q1b hq4
        have hl6 := k6 _ _ l1b hl4
        walk_at "wp"
        refine setL (n := an) hq6 ?_ ?_
        · unfold ixN
          rw [if_pos (by omega), if_pos (by rw [tlen]; exact c)] <;> rfl
        have hql : l1 ≠ q1 := by
          intro e
          rw [e, hq6] at hl6
          have e2 := (Option.some.inj hl6)
          have e3 : Pp.2.map V.int = xs := HO.lst.inj e2
          have e4 := swapIn (j := an) (by omega)
          obtain ⟨x, _, hx⟩ := e4
          rw [e3] at hx
          obtain ⟨pp, _, tt, ll, vv, hv, _⟩ := pair_at1 pc hx
          cases hv
        have hqH : H q1 = none := by
          cases e : H q1 with
          | none => rfl
          | some o =>
            have := s1 _ _ (k1 _ _ q1b e)
            rw [hq1'] at this
            cases this
        have k7 : Kp b H (upd H6 q1 (.lst ((Pp.2.map V.int).set an (.int z)))) := kp_new (Kp.trans kk k6) hqH
        have hl7 : upd H6 q1 (.lst ((Pp.2.map V.int).set an (.int z))) l1 = some (.lst xs) := by rw [upd_ne hql]; exact hl6
        walk_at "wp"
        rename_i t3 ht3
        refine fin l1 q1 xs (Pp.1, Pp.2.set an z) _ _ hl7 l1b (keepPc k7) (Nat.le_succ _) (by rw [upd_same, List.map_set]) q1b ?_ (okT _) ((hb6.upd q1b).mono (by omega)) k7 ht3
        show (Pp.2.set an z).length ≤ _
        rw [List.length_set]
        omega
      · walk_at "wp"
        rename_i t3 ht3
        exact fin l1 q1 xs Pp _ _ hl4 l1b (keepPc kk) (Nat.le_succ _) hq4 q1b (Nat.le_succ _) pok (hb4.mono (by omega)) kk ht3
end
end K08

namespace K08
open PySem PySem.Spec PyProof.Rows L2 Wp Wq Wr Wn Wm
local macro_rules | `(tactic| walk_at "ne") => `(tactic| first
  | assumption
  | (refine Ne.symm ?_; assumption)
  | exact ne_of_none (by assumption) (by assumption)
  | exact (ne_of_none (by assumption) (by assumption)).symm
  | exact ne_of (by assumption) (by assumption) (by intro q; cases q))
local macro_rules | `(tactic| walk_at "hp") => `(tactic| first
  | assumption
  | exact upd_same
  | (refine (upd_ne ?_).trans ?_; (walk_at "ne"); (walk_at "hp")))
local macro_rules | `(tactic| walk_at "sq") => `(tactic| first
  | assumption
  | exact SqL.of (by walk_at "hp")
  | exact SqT.of (by walk_at "hp"))
local macro_rules | `(tactic| walk_at "kind") => `(tactic| first
  | assumption
  | exact Kind.int _
  | exact Kind.str _
  | exact Kind.bl _
  | exact Kind.non
  | exact Kind.tup (by walk_at "hp")
  | exact Kind.lst (by walk_at "hp")
  | exact Kind.dK (by walk_at "hp"))
local macro_rules | `(tactic| walk_at "w1") => `(tactic| first
  | (with_reducible refine Wp.seq ?_)
  | (with_reducible refine Wp.nx_mk ?_)
  | (with_reducible refine Wp.rt_mk ?_)
  | (with_reducible refine Wp.bk_mk ?_)
  | (with_reducible refine Wp.ct_mk ?_)
  | (with_reducible refine Wp.next ?_)
  | (with_reducible refine Wp.asg ?_)
  | ((with_reducible refine' Wp.gname ?e ?_); (case e => (try dsimp only [List.set, L2.wipe, List.map_cons, List.map_nil]); (try exact rfl)))
  | (with_reducible refine Wp.gsub ?_)
  | (with_reducible refine Wp.ret ?_)
  | (with_reducible refine Wp.retN ?_)
  | (with_reducible refine Wp.drop ?_)
  | (with_reducible refine Wp.dput ?_)
  | (with_reducible refine Wp.ifs ?_)
  | ((with_reducible refine' Wp.var ?h ?_); (case h => exact rfl))
  | (with_reducible refine Wp.con ?_)
  | (with_reducible refine Wp.op ?_)
  | (with_reducible refine Wp.un ?_)
  | (with_reducible refine Wp.cb ?_)
  | (with_reducible refine Wp.anil ?_)
  | (with_reducible refine Wp.acons ?_)
  | (with_reducible refine Wp.call ?_)
  | (with_reducible refine Wp.test ?_)
  | (with_reducible refine Wp.tb_ ?_)
  | (with_reducible refine Wp.and_ ?_)
  | (with_reducible refine Wp.or_ ?_)
  | (with_reducible refine Wp.not_ ?_)
  | (with_reducible refine Wp.andV ?_)
  | (with_reducible refine Wp.orV ?_)
  | (with_reducible refine Wp.notV ?_)
  | (with_reducible refine Wp.rI0_ ?_)
  | (with_reducible refine Wp.rU_ ?_)
  | ((with_reducible refine Wp.rEq_ ?k ?_); (case k => exact rfl))
  | ((with_reducible refine Wp.rNe_ ?k ?_); (case k => exact rfl))
  | (with_reducible refine Wp.gcons ?_)
  | (with_reducible refine Wp.gnil ?_)
  | ((with_reducible refine' Wp.gtup ?h ?e ?_); (case h => walk_at "sq"); (case e => exact rfl))
  | (with_reducible refine Wp.sl ?_)
  | (with_reducible refine Wp.part ?_)
  | (with_reducible refine Wp.nopart ?_)
  | (with_reducible refine Wp.ifE ?_)
  | (with_reducible refine Wp.bm0 ?_)
  | (with_reducible refine Wp.bm ?_)
  | (with_reducible refine Wp.lcR1 ?_)
  | (with_reducible refine Wp.lcR2 ?_)
  | (with_reducible refine Wp.lcL ?_)
  | (with_reducible refine Wp.chain ?_)
  | (with_reducible refine Wp.lc2V ?_)
  | (with_reducible refine Wp.piL ?_)
  | (with_reducible refine Wp.yes ?_)
  | (with_reducible refine Wp.dinI ?_)
  | (with_reducible refine Wp.dninI ?_)
  | (with_reducible refine Wp.dget ?_)
  | ((with_reducible refine' ⟨?k, ?_⟩); (case k => show L2.wipe _ _ = L2.wipe _ _; exact rfl))
  | (with_reducible refine Wp.forR1 ?_)
  | (with_reducible refine Wp.forR2 ?_)
  | (with_reducible refine Wp.forL ?_)
  | (with_reducible refine Wp.forT ?_)
  | ((with_reducible refine' ⟨?k, ?_⟩); (case k => exact Wp.tyvL (by walk_at "hp")))
  | ((with_reducible refine' Wp.rev_ ?k ?_); (case k => walk_at "hp"))
  | ((with_reducible refine' Wp.isi ?k ?h ?_); (case k => walk_at "kind"); (case h => decide))
  | ((with_reducible refine' Wp.typ ?k ?_); (case k => walk_at "kind"))
  | (with_reducible refine Wp.slS ?k ?_; (case k => assumption))
  | (with_reducible refine iteT ?_)
  | (with_reducible refine iteF ?_)
  | (with_reducible refine Wp.pcons ?_)
  | (with_reducible refine Wp.pnil ?_)
  | ((with_reducible refine' Wp.iteBnT ?h ?_); (case h => show isB _ _ = false; decide))
  | ((with_reducible refine' Wp.iteBnF ?h ?_); (case h => show isB _ _ = true; decide))
  | ((with_reducible refine' Wp.iteBt ?h ?_); (case h => show isB _ _ = true; decide))
  | ((with_reducible refine' Wp.iteBf ?h ?_); (case h => show isB _ _ = false; decide))
  | (with_reducible refine Wp.iteT' ?_)
  | (with_reducible refine Wp.iteF' ?_)
  | (with_reducible refine Wp.rNT_ ?_)
  | ((with_reducible refine Wp.lst ?_))
  | ((with_reducible refine Wp.tup ?_))
  | ((with_reducible refine' Wp.ixL ?h ?e ?_); (case h => walk_at "sq"); (case e => exact rfl))
  | ((with_reducible refine' Wp.ixT ?h ?e ?_); (case h => walk_at "sq"); (case e => exact rfl))
  | ((with_reducible refine' Wp.setL ?h ?e ?_); (case h => walk_at "hp"); (case e => exact rfl))
  | ((with_reducible refine Wp.rI_ ?k ?_); (case k => first | (show (0:Int) < _; omega) | (show CPow _ _; refine' ⟨?_, ?_, ?_⟩ <;> omega) | (show CDiv _ _; refine' ⟨?_, ?_⟩ <;> omega) | (show CMul _ _; refine' Or.inl ⟨?_, ?_⟩ <;> omega) | (show CMul _ _; refine' Or.inr ⟨?_, ?_⟩ <;> first | omega | decide) | (show CDivW _ _; refine' wide_div (b := 240) ?_ ?_ ?_ ?_ <;> first | omega | decide)))
  | ((with_reducible refine ⟨?k, ?_⟩); (case k => first | exact Nat.zero_le _ | (exact Nat.le_of_ble_eq_true rfl)); intro p hp)
  | ((with_reducible refine' ⟨_, _, rfl, .inl ?k, ?_⟩); (case k => walk_at "sq"))
  | ((with_reducible refine' ⟨_, _, rfl, .inr ?k, ?_⟩); (case k => walk_at "sq"))
  | (with_reducible refine ⟨_, rfl, ?_⟩)
  | (with_reducible refine ⟨_, _, rfl, rfl, ?_⟩)
  | (with_reducible refine ⟨_, _, rfl, ?_⟩))
local macro_rules | `(tactic| walk_at "wp") => `(tactic| repeat (walk_at "w1"))

theorem place_in {o : List Int} {u : Int} (h : u = -1 ∨ u ∈ o) : -1 ≤ placeM o u ∧ placeM o u < o.length := by
  unfold placeM
  split
  · omega
  · rename_i c
    have := List.idxOf_lt_length_of_mem (h.resolve_left c)
    omega
theorem numbered_ok {size : Int} {R : List Pc} {tops : List Int} (ok : RawOk size R) (ht : ∀ t ∈ tops, -1 ≤ t ∧ t < R.length) : ∀ p ∈ (numberedM R tops).1, 1 ≤ p.2.length ∧ (p.2.length : Int) ≤ size ∧ ∀ z ∈ p.2, Wok z := by
  obtain ⟨h1, h2, h3⟩ := order_all ok ht
  intro p hp
  obtain ⟨a, ha, rfl⟩ := List.mem_map.mp hp
  obtain ⟨_, _, q⟩ := pcAt_ok ok (h1.rng a ha).1 (h1.rng a ha).2
  exact q
theorem numbered_len {size : Int} {R : List Pc} {tops : List Int} (ok : RawOk size R) (ht : ∀ t ∈ tops, -1 ≤ t ∧ t < R.length) : (numberedM R tops).1.length ≤ R.length := by
  obtain ⟨h1, h2, h3⟩ := order_all ok ht
  have e : (numberedM R tops).1.length = (orderM R tops).length := List.length_map ..
  rw [e]
  exact nodup_bound h1.nd h1.rng
/-- a paper does not hold the bag -/
theorem pap_off {H : Hp} {v : V} {P : Pap} {b : Addr} {n : Nat} (h : IsPap [] H v P) (hb : Bag H b n) (hq : ∃ t p q, v = .ref t ∧ H t = some (.tup [.ref p, .ref q]) ∧ q ≠ b) : IsPap [b] H v P := by
  obtain ⟨t, p, q, xs, rfl, h1, h2, h3, h4, _, _⟩ := h
  obtain ⟨t', p', q', e, h5, h6⟩ := hq
  cases e
  rw [h1] at h5
  cases h5
  obtain ⟨x, y, z, hbl, _⟩ := hb
  have off : ∀ (l : Addr) (ys : List V), H l = some (.lst ys) → (∀ v0 ∈ ys, ∃ a, v0 = .ref a) → l ∉ [b] := by
    intro l ys hl hy e
    rw [List.mem_singleton.mp e, hbl] at hl
    have e2 : [V.int x, V.int y, V.int z] = ys := HO.lst.inj (Option.some.inj hl)
    obtain ⟨a, ha⟩ := hy (.int x) (by rw [← e2]; exact List.mem_cons_self)
    cases ha
  have pairRef : ∀ {α : Type} {F : V → α → Prop} {ys : List V} {zs : List α}, (∀ v0 z0, F v0 z0 → ∃ a, v0 = .ref a) → Paired F ys zs → ∀ v0 ∈ ys, ∃ a, v0 = .ref a := by
    intro α F ys zs hF hp v0 hv
    obtain ⟨i, hi, e⟩ := List.getElem_of_mem hv
    obtain ⟨z0, _, hz⟩ := pair_at1 hp (i := i) (x := v0) (by rw [← e]; exact List.getElem?_eq_getElem hi)
    exact hF _ _ hz
  have h3' : Pieces [b] H xs P.1 := by
    unfold Pieces at h3 ⊢
    refine Paired.mapP h3 fun v0 pc0 q => ?_
    obtain ⟨tx, lx, vsx, e1, e2, e3, e4, _⟩ := q
    exact ⟨tx, lx, vsx, e1, e2, e3, e4, off lx vsx e3 (pairRef (fun v0 z0 h => by obtain ⟨a, ha, _⟩ := h; exact ⟨a, ha⟩) e4)⟩
  exact ⟨t, p, q, xs, rfl, h1, h2, h3', h4, off p xs h2 (pairRef (fun v0 z0 h => by obtain ⟨a, _, _, ha, _⟩ := h; exact ⟨a, ha⟩) h3), fun e => h6 (List.mem_singleton.mp e)⟩
section
variable {P : Program} {w : World} {K : PySem.W.Frag} {mg : Str → Option Value} {base : Heap}
def spEach : Sp := fun vs H Q _ => ∃ (v : V) (s : Int) (Pp : Pap), vs = [.int s, v] ∧ IsPap [] H v Pp ∧ Pp.1.length ≤ 900 ∧ Pp.2.length ≤ 90 ∧ 2 ≤ s ∧ s ≤ 64 ∧ PapOk Pp ∧ ∀ H', Same H H' → Q (.bl true) H'
theorem ok_each (T : Txt P w K mg) : FnOk P w K mg base CX0 5 T.f_each T.fd_each ["size", "paper"] spEach := by
  have G_asked := ok_asked (base := base) T
  refine T.F_each.ok sc_each (fun vs H Q E h => ?_) (fun cdv A outer s H vs Q E hr h => ?_)
  · obtain ⟨v, s, Pp, rfl, _⟩ := h
    rfl
  · obtain ⟨v, s, Pp, rfl, hP, pl, tl, s0, s1, ok, k⟩ := h
    obtain ⟨t, p, q, xs, rfl, ht, hp, pc, hq, _, _⟩ := id hP
    have xlen := pc.len
    have tlen : (Pp.2.map V.int).length = Pp.2.length := List.length_map ..
    refine ⟨_, (pss_cons (ps_asg (pv 1) (pg_tup (by rfl) (pgs_cons (pg_name (i := 2) sc_each.nd rfl (.inl rfl)) (pgs_cons (pg_name (i := 3) sc_each.nd rfl (.inl rfl)) pgs_nil))))
      (pss_cons (ps_set (i := 4) sc_each.nd rfl (.inl rfl) (pe_callB call_len_seq (by rfl) T.n_len (by decide +kernel) (pa_cons (pv 2) pa_nil)))
      (pss_cons (ps_if (pt_not (pt_val (pe_call G_asked (hr.mono (by decide)) (by rfl) T.g_asked T.F_asked.kp T.b_asked .nil pass0 (pa_cons (pv 0) (pa_cons (pv 1) pa_nil))))) (pss_one (ps_ret pe_bl)) pss_nil)
      (pss_cons (ps_for PassesOwn.never rfl (pi_range2 (by rfl) T.n_range (pa_cons (pe_un un_neg pe_int) (pa_cons (pe_op op_add (pv 4) pe_int) pa_nil))) (pg_name (i := 5) sc_each.nd rfl (.inl rfl)) (pss_cons (ps_for PassesOwn.never rfl (pi_range1 (by rfl) T.n_range (pa_cons (pv 4) pa_nil)) (pg_name (i := 6) sc_each.nd rfl (.inl rfl)) (pss_cons (ps_set (i := 7) sc_each.nd rfl (.inl rfl) (pe_callTy call_list_of (by rfl) T.n_list (by decide +kernel) (pa_cons (pv 2) pa_nil)))
      (pss_cons (ps_asg (pe_tup (pa_cons (pv 5) (pa_cons (pe_ix ix_tup (pe_ix ix_list (pv 2) (pv 6) (fun _ _ => rfl)) pe_int (fun _ _ => rfl)) pa_nil))) (pg_sub (pv 7) (pv 6) set_list))
      (pss_one (ps_if (pt_not (pt_val (pe_call G_asked (hr.mono (by decide)) (by rfl) T.g_asked T.F_asked.kp T.b_asked .nil pass0 (pa_cons (pv 0) (pa_cons (pe_tup (pa_cons (pv 7) (pa_cons (pv 3) pa_nil))) pa_nil))))) (pss_one (ps_ret pe_bl)) pss_nil)))))
      (pss_one (ps_for PassesOwn.never rfl (pi_range1 (by rfl) T.n_range (pa_cons (pe_callB call_len_seq (by rfl) T.n_len (by decide +kernel) (pa_cons (pv 3) pa_nil)) pa_nil)) (pg_name (i := 6) sc_each.nd rfl (.inl rfl)) (pss_cons (ps_set (i := 7) sc_each.nd rfl (.inl rfl) (pe_callTy call_list_of (by rfl) T.n_list (by decide +kernel) (pa_cons (pv 3) pa_nil)))
      (pss_cons (ps_asg (pv 5) (pg_sub (pv 7) (pv 6) set_list))
      (pss_one (ps_if (pt_not (pt_val (pe_call G_asked (hr.mono (by decide)) (by rfl) T.g_asked T.F_asked.kp T.b_asked .nil pass0 (pa_cons (pv 0) (pa_cons (pe_tup (pa_cons (pv 2) (pa_cons (pv 7) pa_nil))) pa_nil))))) (pss_one (ps_ret pe_bl)) pss_nil))))))))
      (pss_one (ps_ret pe_bl)))))), ?_⟩
    rw [show L2.start ["size", "paper", "pieces", "tops", "many", "number", "at", "some"] [.int s, .ref t] = [some (.int s), some (.ref t), none, none, none, none, none, none] from rfl]
    try dsimp only [cxOf]
    walk_at "wp"
    rw [xlen]
    refine ⟨.ref t, s, Pp, rfl, hP, pl, tl, s0, s1, ok, fun H1 s1' => ?_⟩
    walk_at "wp"
    refine ⟨by omega, loopR (fun i σ H' => ∃ y5 y6 y7, σ = [some (.int s), some (.ref t), some (.ref p), some (.ref q), some (.int (Pp.1.length : Nat)), y5, y6, y7] ∧ Same H H') ⟨_, _, _, rfl, s1'⟩ ?_ ?_⟩
    · rintro i σ H2 hi ⟨y5, y6, y7, rfl, s2⟩
      walk_at "wp"
      refine ⟨by omega, by omega, loopR (fun j σ H' => ∃ (num : Int) (y6 y7 : Option V), σ = [some (.int s), some (.ref t), some (.ref p), some (.ref q), some (.int (Pp.1.length : Nat)), some (.int num), y6, y7] ∧ Same H H') ⟨_, _, _, rfl, s2⟩ ?_ ?_⟩
      · rintro j σ H3 hj ⟨num, y6, y7, rfl, s3⟩
        have hj' : j < Pp.1.length := by omega
        obtain ⟨⟨u, ws⟩, hpa⟩ : ∃ pa, Pp.1[j]? = some pa := ⟨_, List.getElem?_eq_getElem hj'⟩
        obtain ⟨vx, hvx, tx, lx, vsx, rfl, htx0, hlx0, px, nlx⟩ := pair_at pc hpa
        have wsok := ok _ (List.mem_of_getElem? hpa)
        have hp3 := s3 _ _ hp
        rw [Int.zero_add]
        walk_at "wp"
        intro l hl
        have u1 := same_new (o := .lst xs) hl
        have hp4 := u1 _ _ hp3
        have htx4 := u1 _ _ (s3 _ _ htx0)
        have hl4 : upd H3 l (.lst xs) l = some (.lst xs) := upd_same
        walk_at "wp"
        refine ixL (SqL.of hp4) (atI_nat hvx) ?_
        walk_at "wp"
        rename_i t5 ht5
        have u2 := same_new (o := .tup [.int num, .ref lx]) ht5
        have u12 := u1.trans u2
        have hl5 := u2 _ _ hl4
        refine setL (n := j) hl5 ?_ ?_
        · unfold ixN
          rw [if_pos (by omega), if_pos (by omega)] <;> rfl
        have lH : H l = none := s3.free hl
        have s6 : Same H (upd (upd (upd H3 l (.lst xs)) t5 (.tup [.int num, .ref lx])) l (.lst (xs.set j (.ref t5)))) := fun d o hd => by
          rw [upd_ne (ne_of_none hd lH)]
          exact u12 _ _ (s3 _ _ hd)
        have htl : t5 ≠ l := (ne_of_none hl4 ht5).symm
        have ht6 : upd (upd (upd H3 l (.lst xs)) t5 (.tup [.int num, .ref lx])) l (.lst (xs.set j (.ref t5))) t5 = some (.tup [.int num, .ref lx]) := by
          rw [upd_ne htl]; exact upd_same
        have hl6 : upd (upd (upd H3 l (.lst xs)) t5 (.tup [.int num, .ref lx])) l (.lst (xs.set j (.ref t5))) l = some (.lst (xs.set j (.ref t5))) := upd_same
        generalize upd (upd (upd H3 l (.lst xs)) t5 (.tup [.int num, .ref lx])) l (.lst (xs.set j (.ref t5))) = H6 at s6 ht6 hl6
        have one : IsPc [] H6 (.ref t5) (num, ws) := ⟨t5, lx, vsx, rfl, ht6, s6 _ _ hlx0, px.keep (Same.tk s6), List.not_mem_nil⟩
        have pc6 : Pieces [] H6 (xs.set j (.ref t5)) (Pp.1.set j (num, ws)) := pair_set one _ (pc.keep (Ks.same s6))
        walk_at "wp"
        rename_i t6 ht6'
        have u3 := same_new (o := .tup [.ref l, .ref q]) ht6'
        refine ⟨.ref t6, s, (Pp.1.set j (num, ws), Pp.2), rfl, ⟨t6, l, q, _, rfl, upd_same, u3 _ _ hl6, pc6.keep (Ks.same u3), u3 _ _ (s6 _ _ hq), List.not_mem_nil, List.not_mem_nil⟩, ?_, tl, s0, s1, ?_, fun H7 s7 => ?_⟩
        · show (Pp.1.set j (num, ws)).length ≤ _
          rw [List.length_set]; exact pl
        · intro pp hpp
          rcases set_mem hpp with rfl | hpp
          · exact wsok
          · exact ok pp hpp
        walk_at "wp"
        exact ⟨_, _, _, rfl, s6.trans (u3.trans s7)⟩
      · rintro σ H3 ⟨num, y6, y7, rfl, s3⟩
        have hq3 := s3 _ _ hq
        walk_at "wp"
        rw [tlen]
        refine ⟨by omega, by omega, loopR (fun j σ H' => ∃ (num : Int) (y6 y7 : Option V), σ = [some (.int s), some (.ref t), some (.ref p), some (.ref q), some (.int (Pp.1.length : Nat)), some (.int num), y6, y7] ∧ Same H H') ⟨_, _, _, rfl, s3⟩ ?_ ?_⟩
        · rintro j σ H4 hj ⟨num, y6, y7, rfl, s4⟩
          have hq4 := s4 _ _ hq
          rw [Int.zero_add]
          walk_at "wp"
          intro l hl
          walk_at "wp"
          refine setL (n := j) upd_same ?_ ?_
          · unfold ixN
            rw [if_pos (by omega), if_pos (by rw [tlen]; omega)] <;> rfl
          rw [upd_upd]
          have u1 := same_new (o := .lst ((Pp.2.map V.int).set j (.int num))) hl
          have hl5 : upd H4 l (.lst ((Pp.2.map V.int).set j (.int num))) l = some (.lst ((Pp.2.set j num).map V.int)) := by rw [upd_same, List.map_set]
          have s5 := s4.trans u1
          generalize upd H4 l (.lst ((Pp.2.map V.int).set j (.int num))) = H5 at s5 hl5
          walk_at "wp"
          rename_i t6 ht6'
          have u3 := same_new (o := .tup [.ref p, .ref l]) ht6'
          have s6 := s5.trans u3
          refine ⟨.ref t6, s, (Pp.1, Pp.2.set j num), rfl, ⟨t6, p, l, xs, rfl, upd_same, s6 _ _ hp, pc.keep (Ks.same s6), u3 _ _ hl5, List.not_mem_nil, List.not_mem_nil⟩, pl, ?_, s0, s1, ok, fun H7 s7 => ?_⟩
          · show (Pp.2.set j num).length ≤ _
            rw [List.length_set]; exact tl
          walk_at "wp"
          exact ⟨_, _, _, rfl, s6.trans s7⟩
        · rintro σ H4 ⟨num, y6, y7, rfl, s4⟩
          exact ⟨_, _, _, rfl, s4⟩
    · rintro σ H2 ⟨y5, y6, y7, rfl, s2⟩
      walk_at "wp"
      exact k _ s2
def spLaw (K : PySem.W.Frag) : Sp := fun vs H Q _ => ∃ (a : Addr) (ns : List Int), vs = [.ref a] ∧ SqL K H a (ns.map V.int) ∧ ns.length ≤ 63 ∧ ∀ H', Q (.bl true) H'
theorem num_ok {size : Int} {R : List Pc} {tops : List Int} (ok : RawOk size R) (ht : ∀ t ∈ tops, -1 ≤ t ∧ t < R.length) (h : size ≤ 64) : PapOk (numberedM R tops) := fun p hp => by
  obtain ⟨_, h2, h3⟩ := numbered_ok ok ht p hp
  exact ⟨by omega, h3⟩
theorem ok_law (T : Txt P w K mg) : FnOk P w K mg base CX0 6 T.f_law T.fd_law ["script"] (spLaw K) := by
  have G_cell_at := ok_cell_at (base := base) T
  have G_bag := ok_bag (base := base) T
  have G_draw := ok_draw (base := base) T
  have G_size := ok_size (base := base) T
  have G_raw := ok_raw (base := base) T
  have G_numbered := ok_numbered (base := base) T
  have G_turned := ok_turned (base := base) T
  have G_asked := ok_asked (base := base) T
  have G_each := ok_each (base := base) T
  refine T.F_law.ok sc_law (fun vs H Q E h => ?_) (fun cdv A outer s H vs Q E hr h => ?_)
  · obtain ⟨a, ns, rfl, _⟩ := h
    rfl
  · obtain ⟨a, ns, rfl, hS, hl, q⟩ := h
    refine ⟨_, (pss_cons (ps_set (i := 1) sc_law.nd rfl (.inl rfl) (pe_call G_bag (hr.mono (by decide)) (by rfl) T.g_bag T.F_bag.kp T.b_bag .nil pass0 (pa_cons (pe_call G_cell_at (hr.mono (by decide)) (by rfl) T.g_cell_at T.F_cell_at.kp T.b_cell_at .nil pass0 (pa_cons (pv 0) (pa_cons pe_int pa_nil))) (pa_cons pe_int pa_nil))))
      (pss_cons (ps_asg (pe_call G_raw (hr.mono (by decide)) (by rfl) T.g_raw T.F_raw.kp T.b_raw .nil pass0 (pa_cons (pv 1) (pa_cons pe_int (pa_cons pe_int (pa_cons pe_int pa_nil))))) (pg_tup (by rfl) (pgs_cons (pg_name (i := 2) sc_law.nd rfl (.inl rfl)) (pgs_cons (pg_name (i := 3) sc_law.nd rfl (.inl rfl)) (pgs_cons (pg_name (i := 4) sc_law.nd rfl (.inl rfl)) pgs_nil)))))
      (pss_cons (ps_if (pt_not (pt_val (pe_call G_each (hr.mono (by decide)) (by rfl) T.g_each T.F_each.kp T.b_each .nil pass0 (pa_cons pe_int (pa_cons (pe_call G_numbered (hr.mono (by decide)) (by rfl) T.g_numbered T.F_numbered.kp T.b_numbered .nil pass0 (pa_cons (pv 2) (pa_cons (pv 4) pa_nil))) pa_nil))))) (pss_one (ps_ret pe_bl)) pss_nil)
      (pss_cons (ps_for PassesOwn.never rfl (pi_range1 (by rfl) T.n_range (pa_cons (pe_callB (call_max2 rfl) (by rfl) T.n_max (by decide +kernel) (pa_cons pe_int (pa_cons (pe_callB (call_min2 rfl) (by rfl) T.n_min (by decide +kernel) (pa_cons pe_int (pa_cons (pe_callB call_len_seq (by rfl) T.n_len (by decide +kernel) (pa_cons (pv 0) pa_nil)) pa_nil))) pa_nil))) pa_nil)) (pg_name (i := 5) sc_law.nd rfl (.inl rfl)) (pss_cons (ps_set (i := 1) sc_law.nd rfl (.inl rfl) (pe_call G_bag (hr.mono (by decide)) (by rfl) T.g_bag T.F_bag.kp T.b_bag .nil pass0 (pa_cons (pe_call G_cell_at (hr.mono (by decide)) (by rfl) T.g_cell_at T.F_cell_at.kp T.b_cell_at .nil pass0 (pa_cons (pv 0) (pa_cons (pv 5) pa_nil))) (pa_cons (pv 5) pa_nil))))
      (pss_cons (ps_set (i := 6) sc_law.nd rfl (.inl rfl) (pe_call G_draw (hr.mono (by decide)) (by rfl) T.g_draw T.F_draw.kp T.b_draw .nil pass0 (pa_cons (pv 1) (pa_cons pe_int pa_nil))))
      (pss_cons (ps_set (i := 7) sc_law.nd rfl (.inl rfl) (pe_call G_draw (hr.mono (by decide)) (by rfl) T.g_draw T.F_draw.kp T.b_draw .nil pass0 (pa_cons (pv 1) (pa_cons pe_int pa_nil))))
      (pss_cons (ps_set (i := 8) sc_law.nd rfl (.inl rfl) (pe_call G_size (hr.mono (by decide)) (by rfl) T.g_size T.F_size.kp T.b_size .nil pass0 (pa_cons (pv 1) pa_nil)))
      (pss_cons (ps_set (i := 9) sc_law.nd rfl (.inl rfl) pe_int)
      (C8.pss_cut (ps_if (pt_cmpR op_eq (pv 7) pe_int (nomark _)) (pss_cons (ps_set (i := 8) sc_law.nd rfl (.inl rfl) pe_int)
      (pss_one (ps_set (i := 9) sc_law.nd rfl (.inl rfl) pe_int))) pss_nil)
      (pss_cons (ps_asg (pe_call G_raw (hr.mono (by decide)) (by rfl) T.g_raw T.F_raw.kp T.b_raw .nil pass0 (pa_cons (pv 1) (pa_cons (pv 8) (pa_cons (pv 9) (pa_cons pe_int pa_nil))))) (pg_tup (by rfl) (pgs_cons (pg_name (i := 2) sc_law.nd rfl (.inl rfl)) (pgs_cons (pg_name (i := 3) sc_law.nd rfl (.inl rfl)) (pgs_cons (pg_name (i := 4) sc_law.nd rfl (.inl rfl)) pgs_nil)))))
      (pss_cons (ps_set (i := 10) sc_law.nd rfl (.inl rfl) (pe_call G_turned (hr.mono (by decide)) (by rfl) T.g_turned T.F_turned.kp T.b_turned .nil pass0 (pa_cons (pv 1) (pa_cons (pv 8) (pa_cons (pe_call G_numbered (hr.mono (by decide)) (by rfl) T.g_numbered T.F_numbered.kp T.b_numbered .nil pass0 (pa_cons (pv 2) (pa_cons (pv 4) pa_nil))) pa_nil)))))
      (pss_cons (ps_if (pt_not (pt_val (pe_call G_asked (hr.mono (by decide)) (by rfl) T.g_asked T.F_asked.kp T.b_asked .nil pass0 (pa_cons (pv 8) (pa_cons (pv 10) pa_nil))))) (pss_one (ps_ret pe_bl)) pss_nil)
      (pss_one (ps_if (PW.pt (pw_and (pt_cmpR op_eq (pv 6) pe_int (nomark _)) (pw_and1 (pt_not (pt_val (pe_call G_asked (hr.mono (by decide)) (by rfl) T.g_asked T.F_asked.kp T.b_asked .nil pass0 (pa_cons (pv 8) (pa_cons (pe_call G_turned (hr.mono (by decide)) (by rfl) T.g_turned T.F_turned.kp T.b_turned .nil pass0 (pa_cons (pv 1) (pa_cons (pv 8) (pa_cons (pv 10) pa_nil)))) pa_nil)))))))) (pss_one (ps_ret pe_bl)) pss_nil))))))))))))
      (pss_one (ps_ret pe_bl)))))), ?_⟩
    rw [show L2.start ["script", "bag", "raw", "piles", "tops", "k", "twice", "great", "size", "most", "paper"] [.ref a] = [some (.ref a), none, none, none, none, none, none, none, none, none, none] from rfl]
    try dsimp only [cxOf]
    walk_at "wp"
    refine ⟨a, ns, 0, rfl, hS, fun c => ?_⟩
    walk_at "wp"
    refine ⟨c, 61, rfl, by omega, fun b H2 nb hb2 s2 => ?_⟩
    walk_at "wp"
    refine ⟨b, 0, 3, 5, rfl, hb2, by omega, by decide, by decide, by decide, by decide, fun t r p q' xs ys R Ps tops H3 ht3 hr3 pc3 hp3 ls3 hq3 rok pok tok tl rl hb3 k3 => ?_⟩
    have s03 : Same H H3 := fun d o hd => k3 _ _ (ne_of_none hd nb) (s2 _ _ hd)
    have plen := numbered_len rok tok
    have tlen : (numberedM R tops).2.length = tops.length := List.length_map ..
    walk_at "wp"
    refine ⟨r, q', xs, 3, R, tops, rfl, hr3, pc3, hq3, rok, tok, by omega, by omega, fun v H4 hP _ s4 => ?_⟩
    walk_at "wp"
    refine ⟨v, 3, _, rfl, hP, by omega, by omega, by decide, by decide, num_ok rok tok (by decide), fun H5 s5 => ?_⟩
    have hS5 : SqL K H5 a (ns.map V.int) := (s03.trans (s4.trans s5)).seq hS
    clear hS s03 s4 s5 hP plen tlen k3 hb3 rl tl tok pok rok hq3 ls3 hp3 pc3 hr3 ht3 s2 hb2 nb
    walk_at "wp"
    generalize hN : (if (if ((ns.map V.int).length : Int) < 10 then ((ns.map V.int).length : Int) else 10) > 1 then (if ((ns.map V.int).length : Int) < 10 then ((ns.map V.int).length : Int) else 10) else 1) = N
    have hN1 : N ≤ 10 := by
      rw [← hN]
      split <;> (try split) <;> omega
    have hN0 : 0 ≤ N := by
      rw [← hN]
      split <;> (try split) <;> omega
    refine ⟨by omega, by omega, loopR (fun i σ H' => ∃ y1 y2 y3 y4 y5 y6 y7 y8 y9 y10, σ = [some (.ref a), y1, y2, y3, y4, y5, y6, y7, y8, y9, y10] ∧ SqL K H' a (ns.map V.int))
      ⟨_, _, _, _, _, _, _, _, _, _, rfl, hS5⟩ ?_ ?_⟩
    · rintro i σ H1 hi ⟨y1, y2, y3, y4, y5, y6, y7, y8, y9, y10, rfl, hS1⟩
      rw [Int.zero_add]
      walk_at "wp"
      refine ⟨a, ns, i, rfl, hS1, fun c => ?_⟩
      walk_at "wp"
      refine ⟨c, i, rfl, by omega, fun b H2 nb hb2 s2 => ?_⟩
      walk_at "wp"
      refine ⟨b, 0, _, rfl, hb2, by omega, by omega, by omega, fun twice H3 t0 t1 hb3 k3 => ?_⟩
      walk_at "wp"
      refine ⟨b, 1, _, rfl, hb3, by omega, by omega, by omega, fun great H4 g0 g1 hb4 k4 => ?_⟩
      walk_at "wp"
      refine ⟨b, 2, rfl, hb4, by omega, fun size H5 z0 z1 hb5 k5 => ?_⟩
      walk_at "wp"
      refine Wp.cut (fun σ' H' => H' = H5 ∧ ∃ (size most : Int), σ' = [some (.ref a), some (.ref b), y2, y3, y4, some (.int i), some (.int twice), some (.int great), some (.int size), some (.int most), y10] ∧ 2 ≤ size ∧ size ≤ 64 ∧ 0 ≤ most ∧ most ≤ 398) ?_ ?_
      · walk_at "wp"
        refine ite_ (fun c => ?_) (fun c => ?_)
        · walk_at "wp"
          exact ⟨rfl, _, _, rfl, by decide, by decide, by decide, by decide⟩
        · walk_at "wp"
          exact ⟨rfl, _, _, rfl, z0, z1, by decide, by decide⟩
      clear z0 z1 size
      rintro σ' H' ⟨rfl, size, most, rfl, z0, z1, m0, m1⟩
      walk_at "wp"
      refine ⟨b, 4, size, most, rfl, hb5, by omega, z0, z1, m0, by omega, fun t r p q' xs ys R Ps tops H6 ht6 hr6 pc6 hp6 ls6 hq6 rok pok tok tl rl hb6 k6 => ?_⟩
      have s16 : Same H1 H6 := fun d o hd => by
        have nd := ne_of_none hd nb
        exact k6 _ _ nd (k5 _ _ nd (k4 _ _ nd (k3 _ _ nd (s2 _ _ hd))))
      have plen := numbered_len rok tok
      have tlen : (numberedM R tops).2.length = tops.length := List.length_map ..
      have nbH : H1 b = none := nb
      walk_at "wp"
      refine ⟨r, q', xs, size, R, tops, rfl, hr6, pc6, hq6, rok, tok, by omega, by omega, fun v H7 hP hv s7 => ?_⟩
      have hb7 := hb6.keep s7
      have hP' : IsPap [b] H7 v (numberedM R tops) := by
        obtain ⟨t', p', q'', e1, e2, e3⟩ := hv
        exact pap_off hP hb7 ⟨t', p', q'', e1, e2, hb6.ne_new e3⟩
      walk_at "wp"
      refine ⟨b, _, size, v, _, rfl, hb7, by omega, z0, z1, hP', num_ok rok tok z1, by omega, by omega, fun v8 P8 H8 hP8 l1 l2 ok8 hb8 k8 => ?_⟩
      walk_at "wp"
      refine ⟨v8, size, P8, rfl, pap_nil hP8, by omega, by omega, z0, z1, ok8, fun H9 s9 => ?_⟩
      have s19 : Same H1 H9 := fun d o hd => s9 _ _ (k8 _ _ (ne_of_none hd nb) (s7 _ _ (s16 _ _ hd)))
      have hP9 := hP8.keep (Ks.same s9)
      have hb9 := hb8.keep s9
      walk_at "wp"
      refine ite_ (fun c => ?_) (fun c => ?_)
      · walk_at "wp"
        refine ⟨b, _, size, v8, P8, rfl, hb9, by omega, z0, z1, hP9, ok8, by omega, by omega, fun v10 P10 H10 hP10 l3 l4 ok10 hb10 k10 => ?_⟩
        walk_at "wp"
        refine ⟨v10, size, P10, rfl, pap_nil hP10, by omega, by omega, z0, z1, ok10, fun H11 s11 => ?_⟩
        have s111 : Same H1 H11 := fun d o hd => s11 _ _ (k10 _ _ (ne_of_none hd nb) (s19 _ _ hd))
        walk_at "wp"
        exact ⟨_, _, _, _, _, _, _, _, _, _, rfl, s111.seq hS1⟩
      · walk_at "wp"
        exact ⟨_, _, _, _, _, _, _, _, _, _, rfl, s19.seq hS1⟩
    · rintro σ H1 ⟨y1, y2, y3, y4, y5, y6, y7, y8, y9, y10, rfl, hS1⟩
      walk_at "wp"
      exact q _
end
/-! ### what the top has written; the law's own head -/
theorem all_mk {l : PySem.W.OpenLaw} {w : World} {K : PySem.W.Frag} {h : Heap} {mg : Str → Option Value} {fa : Addr} (X : K.In h) (G : h.Ns mainGlobals mg) (hfa : mg "law" = some (.ref fa))
    {f0 : Addr} {od0 an0 : Option Addr} {sl0 : Array (Option Value)} {oc0 kV0 dc0 pm0 cd0 ct0 : Value}
    (a0 : PySem.W.nsIn K mainGlobals "is_number" = some (some (.ref f0))) (l0 : K.lookup f0 = some ⟨oc0, od0, .func (PySem.W.fnOf "is_number" "is_number" (defArgs s_is_number) (defBody s_is_number) (defScope s_is_number) .none kV0 dc0 pm0 an0 cd0 ct0), sl0⟩) (c0 : PySem.W.codeIn K cd0 "is_number" = true) (k0 : PySem.W.keepIn K (.ref f0) = true)
    {f1 : Addr} {od1 an1 : Option Addr} {sl1 : Array (Option Value)} {oc1 kV1 dc1 pm1 cd1 ct1 : Value}
    (a1 : PySem.W.nsIn K mainGlobals "check_size" = some (some (.ref f1))) (l1 : K.lookup f1 = some ⟨oc1, od1, .func (PySem.W.fnOf "check_size" "check_size" (defArgs s_check_size) (defBody s_check_size) (defScope s_check_size) .none kV1 dc1 pm1 an1 cd1 ct1), sl1⟩) (c1 : PySem.W.codeIn K cd1 "check_size" = true) (k1 : PySem.W.keepIn K (.ref f1) = true)
    {f2 : Addr} {od2 an2 : Option Addr} {sl2 : Array (Option Value)} {oc2 kV2 dc2 pm2 cd2 ct2 : Value}
    (a2 : PySem.W.nsIn K mainGlobals "leads_of" = some (some (.ref f2))) (l2 : K.lookup f2 = some ⟨oc2, od2, .func (PySem.W.fnOf "leads_of" "leads_of" (defArgs s_leads_of) (defBody s_leads_of) (defScope s_leads_of) .none kV2 dc2 pm2 an2 cd2 ct2), sl2⟩) (c2 : PySem.W.codeIn K cd2 "leads_of" = true) (k2 : PySem.W.keepIn K (.ref f2) = true)
    {f3 : Addr} {od3 an3 : Option Addr} {sl3 : Array (Option Value)} {oc3 kV3 dc3 pm3 cd3 ct3 : Value}
    (a3 : PySem.W.nsIn K mainGlobals "is_numbered" = some (some (.ref f3))) (l3 : K.lookup f3 = some ⟨oc3, od3, .func (PySem.W.fnOf "is_numbered" "is_numbered" (defArgs s_is_numbered) (defBody s_is_numbered) (defScope s_is_numbered) .none kV3 dc3 pm3 an3 cd3 ct3), sl3⟩) (c3 : PySem.W.codeIn K cd3 "is_numbered" = true) (k3 : PySem.W.keepIn K (.ref f3) = true)
    {f4 : Addr} {od4 an4 : Option Addr} {sl4 : Array (Option Value)} {oc4 kV4 dc4 pm4 cd4 ct4 : Value}
    (a4 : PySem.W.nsIn K mainGlobals "is_paper" = some (some (.ref f4))) (l4 : K.lookup f4 = some ⟨oc4, od4, .func (PySem.W.fnOf "is_paper" "is_paper" (defArgs s_is_paper) (defBody s_is_paper) (defScope s_is_paper) .none kV4 dc4 pm4 an4 cd4 ct4), sl4⟩) (c4 : PySem.W.codeIn K cd4 "is_paper" = true) (k4 : PySem.W.keepIn K (.ref f4) = true)
    {f5 : Addr} {od5 an5 : Option Addr} {sl5 : Array (Option Value)} {oc5 kV5 dc5 pm5 cd5 ct5 : Value}
    (a5 : PySem.W.nsIn K mainGlobals "_law_cell_at" = some (some (.ref f5))) (l5 : K.lookup f5 = some ⟨oc5, od5, .func (PySem.W.fnOf "_law_cell_at" "_law_cell_at" (defArgs s_cell_at) (defBody s_cell_at) (defScope s_cell_at) .none kV5 dc5 pm5 an5 cd5 ct5), sl5⟩) (c5 : PySem.W.codeIn K cd5 "_law_cell_at" = true) (k5 : PySem.W.keepIn K (.ref f5) = true)
    {f6 : Addr} {od6 an6 : Option Addr} {sl6 : Array (Option Value)} {oc6 kV6 dc6 pm6 cd6 ct6 : Value}
    (a6 : PySem.W.nsIn K mainGlobals "_law_bag" = some (some (.ref f6))) (l6 : K.lookup f6 = some ⟨oc6, od6, .func (PySem.W.fnOf "_law_bag" "_law_bag" (defArgs s_bag) (defBody s_bag) (defScope s_bag) .none kV6 dc6 pm6 an6 cd6 ct6), sl6⟩) (c6 : PySem.W.codeIn K cd6 "_law_bag" = true) (k6 : PySem.W.keepIn K (.ref f6) = true)
    {f7 : Addr} {od7 an7 : Option Addr} {sl7 : Array (Option Value)} {oc7 kV7 dc7 pm7 cd7 ct7 : Value}
    (a7 : PySem.W.nsIn K mainGlobals "_law_draw" = some (some (.ref f7))) (l7 : K.lookup f7 = some ⟨oc7, od7, .func (PySem.W.fnOf "_law_draw" "_law_draw" (defArgs s_draw) (defBody s_draw) (defScope s_draw) .none kV7 dc7 pm7 an7 cd7 ct7), sl7⟩) (c7 : PySem.W.codeIn K cd7 "_law_draw" = true) (k7 : PySem.W.keepIn K (.ref f7) = true)
    {f8 : Addr} {od8 an8 : Option Addr} {sl8 : Array (Option Value)} {oc8 kV8 dc8 pm8 cd8 ct8 : Value}
    (a8 : PySem.W.nsIn K mainGlobals "_law_worth" = some (some (.ref f8))) (l8 : K.lookup f8 = some ⟨oc8, od8, .func (PySem.W.fnOf "_law_worth" "_law_worth" (defArgs s_worth) (defBody s_worth) (defScope s_worth) .none kV8 dc8 pm8 an8 cd8 ct8), sl8⟩) (c8 : PySem.W.codeIn K cd8 "_law_worth" = true) (k8 : PySem.W.keepIn K (.ref f8) = true)
    {f9 : Addr} {od9 an9 : Option Addr} {sl9 : Array (Option Value)} {oc9 kV9 dc9 pm9 cd9 ct9 : Value}
    (a9 : PySem.W.nsIn K mainGlobals "_law_size" = some (some (.ref f9))) (l9 : K.lookup f9 = some ⟨oc9, od9, .func (PySem.W.fnOf "_law_size" "_law_size" (defArgs s_size) (defBody s_size) (defScope s_size) .none kV9 dc9 pm9 an9 cd9 ct9), sl9⟩) (c9 : PySem.W.codeIn K cd9 "_law_size" = true) (k9 : PySem.W.keepIn K (.ref f9) = true)
    {f10 : Addr} {od10 an10 : Option Addr} {sl10 : Array (Option Value)} {oc10 kV10 dc10 pm10 cd10 ct10 : Value}
    (a10 : PySem.W.nsIn K mainGlobals "_law_raw" = some (some (.ref f10))) (l10 : K.lookup f10 = some ⟨oc10, od10, .func (PySem.W.fnOf "_law_raw" "_law_raw" (defArgs s_raw) (defBody s_raw) (defScope s_raw) .none kV10 dc10 pm10 an10 cd10 ct10), sl10⟩) (c10 : PySem.W.codeIn K cd10 "_law_raw" = true) (k10 : PySem.W.keepIn K (.ref f10) = true)
    {f11 : Addr} {od11 an11 : Option Addr} {sl11 : Array (Option Value)} {oc11 kV11 dc11 pm11 cd11 ct11 : Value}
    (a11 : PySem.W.nsIn K mainGlobals "_law_numbered" = some (some (.ref f11))) (l11 : K.lookup f11 = some ⟨oc11, od11, .func (PySem.W.fnOf "_law_numbered" "_law_numbered" (defArgs s_numbered) (defBody s_numbered) (defScope s_numbered) .none kV11 dc11 pm11 an11 cd11 ct11), sl11⟩) (c11 : PySem.W.codeIn K cd11 "_law_numbered" = true) (k11 : PySem.W.keepIn K (.ref f11) = true)
    {f12 : Addr} {od12 an12 : Option Addr} {sl12 : Array (Option Value)} {oc12 kV12 dc12 pm12 cd12 ct12 : Value}
    (a12 : PySem.W.nsIn K mainGlobals "_law_copy" = some (some (.ref f12))) (l12 : K.lookup f12 = some ⟨oc12, od12, .func (PySem.W.fnOf "_law_copy" "_law_copy" (defArgs s_copy) (defBody s_copy) (defScope s_copy) .none kV12 dc12 pm12 an12 cd12 ct12), sl12⟩) (c12 : PySem.W.codeIn K cd12 "_law_copy" = true) (k12 : PySem.W.keepIn K (.ref f12) = true)
    {f13 : Addr} {od13 an13 : Option Addr} {sl13 : Array (Option Value)} {oc13 kV13 dc13 pm13 cd13 ct13 : Value}
    (a13 : PySem.W.nsIn K mainGlobals "_law_right" = some (some (.ref f13))) (l13 : K.lookup f13 = some ⟨oc13, od13, .func (PySem.W.fnOf "_law_right" "_law_right" (defArgs s_right) (defBody s_right) (defScope s_right) .none kV13 dc13 pm13 an13 cd13 ct13), sl13⟩) (c13 : PySem.W.codeIn K cd13 "_law_right" = true) (k13 : PySem.W.keepIn K (.ref f13) = true)
    {f14 : Addr} {od14 an14 : Option Addr} {sl14 : Array (Option Value)} {oc14 kV14 dc14 pm14 cd14 ct14 : Value}
    (a14 : PySem.W.nsIn K mainGlobals "_law_asked" = some (some (.ref f14))) (l14 : K.lookup f14 = some ⟨oc14, od14, .func (PySem.W.fnOf "_law_asked" "_law_asked" (defArgs s_asked) (defBody s_asked) (defScope s_asked) .none kV14 dc14 pm14 an14 cd14 ct14), sl14⟩) (c14 : PySem.W.codeIn K cd14 "_law_asked" = true) (k14 : PySem.W.keepIn K (.ref f14) = true)
    {f15 : Addr} {od15 an15 : Option Addr} {sl15 : Array (Option Value)} {oc15 kV15 dc15 pm15 cd15 ct15 : Value}
    (a15 : PySem.W.nsIn K mainGlobals "_law_near" = some (some (.ref f15))) (l15 : K.lookup f15 = some ⟨oc15, od15, .func (PySem.W.fnOf "_law_near" "_law_near" (defArgs s_near) (defBody s_near) (defScope s_near) .none kV15 dc15 pm15 an15 cd15 ct15), sl15⟩) (c15 : PySem.W.codeIn K cd15 "_law_near" = true) (k15 : PySem.W.keepIn K (.ref f15) = true)
    {f16 : Addr} {od16 an16 : Option Addr} {sl16 : Array (Option Value)} {oc16 kV16 dc16 pm16 cd16 ct16 : Value}
    (a16 : PySem.W.nsIn K mainGlobals "_law_swapped" = some (some (.ref f16))) (l16 : K.lookup f16 = some ⟨oc16, od16, .func (PySem.W.fnOf "_law_swapped" "_law_swapped" (defArgs s_swapped) (defBody s_swapped) (defScope s_swapped) .none kV16 dc16 pm16 an16 cd16 ct16), sl16⟩) (c16 : PySem.W.codeIn K cd16 "_law_swapped" = true) (k16 : PySem.W.keepIn K (.ref f16) = true)
    {f17 : Addr} {od17 an17 : Option Addr} {sl17 : Array (Option Value)} {oc17 kV17 dc17 pm17 cd17 ct17 : Value}
    (a17 : PySem.W.nsIn K mainGlobals "_law_long" = some (some (.ref f17))) (l17 : K.lookup f17 = some ⟨oc17, od17, .func (PySem.W.fnOf "_law_long" "_law_long" (defArgs s_long) (defBody s_long) (defScope s_long) .none kV17 dc17 pm17 an17 cd17 ct17), sl17⟩) (c17 : PySem.W.codeIn K cd17 "_law_long" = true) (k17 : PySem.W.keepIn K (.ref f17) = true)
    {f18 : Addr} {od18 an18 : Option Addr} {sl18 : Array (Option Value)} {oc18 kV18 dc18 pm18 cd18 ct18 : Value}
    (a18 : PySem.W.nsIn K mainGlobals "_law_turned_piece" = some (some (.ref f18))) (l18 : K.lookup f18 = some ⟨oc18, od18, .func (PySem.W.fnOf "_law_turned_piece" "_law_turned_piece" (defArgs s_turned_piece) (defBody s_turned_piece) (defScope s_turned_piece) .none kV18 dc18 pm18 an18 cd18 ct18), sl18⟩) (c18 : PySem.W.codeIn K cd18 "_law_turned_piece" = true) (k18 : PySem.W.keepIn K (.ref f18) = true)
    {f19 : Addr} {od19 an19 : Option Addr} {sl19 : Array (Option Value)} {oc19 kV19 dc19 pm19 cd19 ct19 : Value}
    (a19 : PySem.W.nsIn K mainGlobals "_law_turned" = some (some (.ref f19))) (l19 : K.lookup f19 = some ⟨oc19, od19, .func (PySem.W.fnOf "_law_turned" "_law_turned" (defArgs s_turned) (defBody s_turned) (defScope s_turned) .none kV19 dc19 pm19 an19 cd19 ct19), sl19⟩) (c19 : PySem.W.codeIn K cd19 "_law_turned" = true) (k19 : PySem.W.keepIn K (.ref f19) = true)
    {f20 : Addr} {od20 an20 : Option Addr} {sl20 : Array (Option Value)} {oc20 kV20 dc20 pm20 cd20 ct20 : Value}
    (a20 : PySem.W.nsIn K mainGlobals "_law_each" = some (some (.ref f20))) (l20 : K.lookup f20 = some ⟨oc20, od20, .func (PySem.W.fnOf "_law_each" "_law_each" (defArgs s_each) (defBody s_each) (defScope s_each) .none kV20 dc20 pm20 an20 cd20 ct20), sl20⟩) (c20 : PySem.W.codeIn K cd20 "_law_each" = true) (k20 : PySem.W.keepIn K (.ref f20) = true)
    {f21 : Addr} {od21 an21 : Option Addr} {sl21 : Array (Option Value)} {oc21 kV21 dc21 pm21 cd21 ct21 : Value}
    (a21 : PySem.W.nsIn K mainGlobals "law" = some (some (.ref f21))) (l21 : K.lookup f21 = some ⟨oc21, od21, .func (PySem.W.fnOf "law" "law" (defArgs s_law) (defBody s_law) (defScope s_law) .none kV21 dc21 pm21 an21 cd21 ct21), sl21⟩) (c21 : PySem.W.codeIn K cd21 "law" = true) (k21 : PySem.W.keepIn K (.ref f21) = true)
    (z_all : PySem.W.nsIn K mainGlobals "all" = some none)
    (z_bool : PySem.W.nsIn K mainGlobals "bool" = some none)
    (z_int : PySem.W.nsIn K mainGlobals "int" = some none)
    (z_isinstance : PySem.W.nsIn K mainGlobals "isinstance" = some none)
    (z_len : PySem.W.nsIn K mainGlobals "len" = some none)
    (z_list : PySem.W.nsIn K mainGlobals "list" = some none)
    (z_max : PySem.W.nsIn K mainGlobals "max" = some none)
    (z_min : PySem.W.nsIn K mainGlobals "min" = some none)
    (z_range : PySem.W.nsIn K mainGlobals "range" = some none)
    (z_type : PySem.W.nsIn K mainGlobals "type" = some none)
    {tNOTHING : Tok} (sNOTHING : PySem.W.nsIn K mainGlobals "NOTHING" = some (some (.int (-1) tNOTHING)))
    {tLEAST_SIZE : Tok} (sLEAST_SIZE : PySem.W.nsIn K mainGlobals "LEAST_SIZE" = some (some (.int (2) tLEAST_SIZE)))
    {tMOST_SIZE : Tok} (sMOST_SIZE : PySem.W.nsIn K mainGlobals "MOST_SIZE" = some (some (.int (64) tMOST_SIZE)))
    : ∃ fd : FuncData, (∀ (s : Shared) (v : Value), BindsTo s fd ⟨[v], []⟩ [("script", v)]) ∧ ∀ base : Heap, K.In base → base.Ns mainGlobals mg → FnOk l.prog w K mg base CX0 6 fa fd ["script"] (spLaw K) := by
  have e := hfa.symm.trans (PySem.W.mg_of X G a21)
  cases e
  have F0 := fun_mk (st := s_is_number) l0 c0 k0
  have F1 := fun_mk (st := s_check_size) l1 c1 k1
  have F2 := fun_mk (st := s_leads_of) l2 c2 k2
  have F3 := fun_mk (st := s_is_numbered) l3 c3 k3
  have F4 := fun_mk (st := s_is_paper) l4 c4 k4
  have F5 := fun_mk (st := s_cell_at) l5 c5 k5
  have F6 := fun_mk (st := s_bag) l6 c6 k6
  have F7 := fun_mk (st := s_draw) l7 c7 k7
  have F8 := fun_mk (st := s_worth) l8 c8 k8
  have F9 := fun_mk (st := s_size) l9 c9 k9
  have F10 := fun_mk (st := s_raw) l10 c10 k10
  have F11 := fun_mk (st := s_numbered) l11 c11 k11
  have F12 := fun_mk (st := s_copy) l12 c12 k12
  have F13 := fun_mk (st := s_right) l13 c13 k13
  have F14 := fun_mk (st := s_asked) l14 c14 k14
  have F15 := fun_mk (st := s_near) l15 c15 k15
  have F16 := fun_mk (st := s_swapped) l16 c16 k16
  have F17 := fun_mk (st := s_long) l17 c17 k17
  have F18 := fun_mk (st := s_turned_piece) l18 c18 k18
  have F19 := fun_mk (st := s_turned) l19 c19 k19
  have F20 := fun_mk (st := s_each) l20 c20 k20
  have F21 := fun_mk (st := s_law) l21 c21 k21
  let T : Txt l.prog w K mg := {
    f_is_number := f0,
    fd_is_number := _,
    F_is_number := F0,
    b_is_number := F0.binds (ps := ["thing"]) fun _ _ _ _ _ _ us hl => match us, hl with | [_], _ => rfl,
    g_is_number := PySem.W.mg_of X G a0,
    f_check_size := f1,
    fd_check_size := _,
    F_check_size := F1,
    b_check_size := F1.binds (ps := ["size"]) fun _ _ _ _ _ _ us hl => match us, hl with | [_], _ => rfl,
    g_check_size := PySem.W.mg_of X G a1,
    f_leads_of := f2,
    fd_leads_of := _,
    F_leads_of := F2,
    b_leads_of := F2.binds (ps := ["paper"]) fun _ _ _ _ _ _ us hl => match us, hl with | [_], _ => rfl,
    g_leads_of := PySem.W.mg_of X G a2,
    f_is_numbered := f3,
    fd_is_numbered := _,
    F_is_numbered := F3,
    b_is_numbered := F3.binds (ps := ["paper"]) fun _ _ _ _ _ _ us hl => match us, hl with | [_], _ => rfl,
    g_is_numbered := PySem.W.mg_of X G a3,
    f_is_paper := f4,
    fd_is_paper := _,
    F_is_paper := F4,
    b_is_paper := F4.binds (ps := ["size", "paper"]) fun _ _ _ _ _ _ us hl => match us, hl with | [_, _], _ => rfl,
    g_is_paper := PySem.W.mg_of X G a4,
    f_cell_at := f5,
    fd_cell_at := _,
    F_cell_at := F5,
    b_cell_at := F5.binds (ps := ["script", "k"]) fun _ _ _ _ _ _ us hl => match us, hl with | [_, _], _ => rfl,
    g_cell_at := PySem.W.mg_of X G a5,
    f_bag := f6,
    fd_bag := _,
    F_bag := F6,
    b_bag := F6.binds (ps := ["cell", "place"]) fun _ _ _ _ _ _ us hl => match us, hl with | [_, _], _ => rfl,
    g_bag := PySem.W.mg_of X G a6,
    f_draw := f7,
    fd_draw := _,
    F_draw := F7,
    b_draw := F7.binds (ps := ["bag", "many"]) fun _ _ _ _ _ _ us hl => match us, hl with | [_, _], _ => rfl,
    g_draw := PySem.W.mg_of X G a7,
    f_worth := f8,
    fd_worth := _,
    F_worth := F8,
    b_worth := F8.binds (ps := ["bag", "few"]) fun _ _ _ _ _ _ us hl => match us, hl with | [_, _], _ => rfl,
    g_worth := PySem.W.mg_of X G a8,
    f_size := f9,
    fd_size := _,
    F_size := F9,
    b_size := F9.binds (ps := ["bag"]) fun _ _ _ _ _ _ us hl => match us, hl with | [_], _ => rfl,
    g_size := PySem.W.mg_of X G a9,
    f_raw := f10,
    fd_raw := _,
    F_raw := F10,
    b_raw := F10.binds (ps := ["bag", "size", "most", "unlike"]) fun _ _ _ _ _ _ us hl => match us, hl with | [_, _, _, _], _ => rfl,
    g_raw := PySem.W.mg_of X G a10,
    f_numbered := f11,
    fd_numbered := _,
    F_numbered := F11,
    b_numbered := F11.binds (ps := ["raw", "tops"]) fun _ _ _ _ _ _ us hl => match us, hl with | [_, _], _ => rfl,
    g_numbered := PySem.W.mg_of X G a11,
    f_copy := f12,
    fd_copy := _,
    F_copy := F12,
    b_copy := F12.binds (ps := ["paper"]) fun _ _ _ _ _ _ us hl => match us, hl with | [_], _ => rfl,
    g_copy := PySem.W.mg_of X G a12,
    f_right := f13,
    fd_right := _,
    F_right := F13,
    b_right := F13.binds (ps := ["size", "pieces", "tops"]) fun _ _ _ _ _ _ us hl => match us, hl with | [_, _, _], _ => rfl,
    g_right := PySem.W.mg_of X G a13,
    f_asked := f14,
    fd_asked := _,
    F_asked := F14,
    b_asked := F14.binds (ps := ["size", "paper"]) fun _ _ _ _ _ _ us hl => match us, hl with | [_, _], _ => rfl,
    g_asked := PySem.W.mg_of X G a14,
    f_near := f15,
    fd_near := _,
    F_near := F15,
    b_near := F15.binds (ps := ["bag", "many"]) fun _ _ _ _ _ _ us hl => match us, hl with | [_, _], _ => rfl,
    g_near := PySem.W.mg_of X G a15,
    f_swapped := f16,
    fd_swapped := _,
    F_swapped := F16,
    b_swapped := F16.binds (ps := ["row", "one", "other"]) fun _ _ _ _ _ _ us hl => match us, hl with | [_, _, _], _ => rfl,
    g_swapped := PySem.W.mg_of X G a16,
    f_long := f17,
    fd_long := _,
    F_long := F17,
    b_long := F17.binds (ps := ["worths", "most"]) fun _ _ _ _ _ _ us hl => match us, hl with | [_, _], _ => rfl,
    g_long := PySem.W.mg_of X G a17,
    f_turned_piece := f18,
    fd_turned_piece := _,
    F_turned_piece := F18,
    b_turned_piece := F18.binds (ps := ["bag", "size", "paper", "way"]) fun _ _ _ _ _ _ us hl => match us, hl with | [_, _, _, _], _ => rfl,
    g_turned_piece := PySem.W.mg_of X G a18,
    f_turned := f19,
    fd_turned := _,
    F_turned := F19,
    b_turned := F19.binds (ps := ["bag", "size", "paper"]) fun _ _ _ _ _ _ us hl => match us, hl with | [_, _, _], _ => rfl,
    g_turned := PySem.W.mg_of X G a19,
    f_each := f20,
    fd_each := _,
    F_each := F20,
    b_each := F20.binds (ps := ["size", "paper"]) fun _ _ _ _ _ _ us hl => match us, hl with | [_, _], _ => rfl,
    g_each := PySem.W.mg_of X G a20,
    f_law := fa,
    fd_law := _,
    F_law := F21,
    b_law := F21.binds (ps := ["script"]) fun _ _ _ _ _ _ us hl => match us, hl with | [_], _ => rfl,
    g_law := PySem.W.mg_of X G a21,
    n_all := PySem.W.mg_none_of X G z_all,
    n_bool := PySem.W.mg_none_of X G z_bool,
    n_int := PySem.W.mg_none_of X G z_int,
    n_isinstance := PySem.W.mg_none_of X G z_isinstance,
    n_len := PySem.W.mg_none_of X G z_len,
    n_list := PySem.W.mg_none_of X G z_list,
    n_max := PySem.W.mg_none_of X G z_max,
    n_min := PySem.W.mg_none_of X G z_min,
    n_range := PySem.W.mg_none_of X G z_range,
    n_type := PySem.W.mg_none_of X G z_type,
    t_NOTHING := tNOTHING,
    c_NOTHING := PySem.W.mg_of X G sNOTHING,
    t_LEAST_SIZE := tLEAST_SIZE,
    c_LEAST_SIZE := PySem.W.mg_of X G sLEAST_SIZE,
    t_MOST_SIZE := tMOST_SIZE,
    c_MOST_SIZE := PySem.W.mg_of X G sMOST_SIZE }
  exact ⟨PySem.W.fnOf "law" "law" (defArgs s_law) (defBody s_law) (defScope s_law) .none kV21 dc21 pm21 an21 cd21 ct21, fun s v => .of_eq rfl, fun base _ _ => ok_law T⟩
end K08
open PySem PySem.W PyProof.Rows
set_option maxHeartbeats 0 in
theorem PySem.Challenge.cw_manygoings_k08_whole_papers_that_err_holds : PySem.Challenge.rw_manygoings_k08_whole_papers_that_err.Holds := by
  w_on; o_law; k_head; (case hw => w_witness2)
  k_fill
  refine L2.walk_of (l := PySem.Challenge.rw_manygoings_k08_whole_papers_that_err) (n := 63) (k := 6) (x := "script") (CX := fun _ => L2.CX0) (sp := fun w => K08.spLaw _) rfl (by decide) rfl ⟨rfl, by decide, by decide⟩ (fun w h Y => PySem.W.kIn_of Y) ?F (fun _ _ a ns hl _ hS => ⟨a, ns, rfl, hS, hl, fun _ => rfl⟩) (fun _ _ _ _ _ h => h)
  case F =>
    intro w mg fa h KX G hmg
    refine' K08.all_mk KX G hmg ?a0 ?l0 ?c0 ?k0 ?a1 ?l1 ?c1 ?k1 ?a2 ?l2 ?c2 ?k2 ?a3 ?l3 ?c3 ?k3 ?a4 ?l4 ?c4 ?k4 ?a5 ?l5 ?c5 ?k5 ?a6 ?l6 ?c6 ?k6 ?a7 ?l7 ?c7 ?k7 ?a8 ?l8 ?c8 ?k8 ?a9 ?l9 ?c9 ?k9 ?a10 ?l10 ?c10 ?k10 ?a11 ?l11 ?c11 ?k11 ?a12 ?l12 ?c12 ?k12 ?a13 ?l13 ?c13 ?k13 ?a14 ?l14 ?c14 ?k14 ?a15 ?l15 ?c15 ?k15 ?a16 ?l16 ?c16 ?k16 ?a17 ?l17 ?c17 ?k17 ?a18 ?l18 ?c18 ?k18 ?a19 ?l19 ?c19 ?k19 ?a20 ?l20 ?c20 ?k20 ?a21 ?l21 ?c21 ?k21 ?z_all ?z_bool ?z_int ?z_isinstance ?z_len ?z_list ?z_max ?z_min ?z_range ?z_type ?sNOTHING ?sLEAST_SIZE ?sMOST_SIZE
    (case a0 => k_is); (case l0 => k_is); (case c0 => k_is); (case k0 => k_is); (case a1 => k_is); (case l1 => k_is); (case c1 => k_is); (case k1 => k_is); (case a2 => k_is); (case l2 => k_is); (case c2 => k_is); (case k2 => k_is); (case a3 => k_is); (case l3 => k_is); (case c3 => k_is); (case k3 => k_is); (case a4 => k_is); (case l4 => k_is); (case c4 => k_is); (case k4 => k_is); (case a5 => k_is); (case l5 => k_is); (case c5 => k_is); (case k5 => k_is); (case a6 => k_is); (case l6 => k_is); (case c6 => k_is); (case k6 => k_is); (case a7 => k_is); (case l7 => k_is); (case c7 => k_is); (case k7 => k_is); (case a8 => k_is); (case l8 => k_is); (case c8 => k_is); (case k8 => k_is); (case a9 => k_is); (case l9 => k_is); (case c9 => k_is); (case k9 => k_is); (case a10 => k_is); (case l10 => k_is); (case c10 => k_is); (case k10 => k_is); (case a11 => k_is); (case l11 => k_is); (case c11 => k_is); (case k11 => k_is); (case a12 => k_is); (case l12 => k_is); (case c12 => k_is); (case k12 => k_is); (case a13 => k_is); (case l13 => k_is); (case c13 => k_is); (case k13 => k_is); (case a14 => k_is); (case l14 => k_is); (case c14 => k_is); (case k14 => k_is); (case a15 => k_is); (case l15 => k_is); (case c15 => k_is); (case k15 => k_is); (case a16 => k_is); (case l16 => k_is); (case c16 => k_is); (case k16 => k_is); (case a17 => k_is); (case l17 => k_is); (case c17 => k_is); (case k17 => k_is); (case a18 => k_is); (case l18 => k_is); (case c18 => k_is); (case k18 => k_is); (case a19 => k_is); (case l19 => k_is); (case c19 => k_is); (case k19 => k_is); (case a20 => k_is); (case l20 => k_is); (case c20 => k_is); (case k20 => k_is); (case a21 => k_is); (case l21 => k_is); (case c21 => k_is); (case k21 => k_is); (case z_all => k_is); (case z_bool => k_is); (case z_int => k_is); (case z_isinstance => k_is); (case z_len => k_is); (case z_list => k_is); (case z_max => k_is); (case z_min => k_is); (case z_range => k_is); (case z_type => k_is)
    (case sNOTHING => k_is)
    (case sLEAST_SIZE => k_is)
    (case sMOST_SIZE => k_is)

