import PyProof.Rows.All
import Wide.All
import OpenK.AllK
import Wide.FinOn
import HandS.ForMost
import HandS.IsInst
import HandS.Wide
import HandS.More
import HandS.Codes
import HandS.Deep
import HandS.Conv
import KE.KDictKeyed
import KE.KeyNested
import HandS.Iter
import KE.SortData
import HandS.SortKw
import KE.DatumOrd
import HandS.Style
import HandS.DictComp
import KE.KxText
import HandS.FStr
import HandS.Text
import KE.KDictList
import KE.KItemsList
import KE.KDictWalk
import HandS.DictTup
import HandS.ListItems
import HandS.ExcOwn
import HandS.TryOnly
import HandS.WordsExc
import HandS.ExcIs
import HandS.RaiseMore
import PySem.Challenge.RW_manygoings_k15_what_is_a_picture
set_option Elab.async false
set_option linter.all false
set_option maxRecDepth 100000
set_option maxHeartbeats 4000000
/-! Steps over the readings of the hand layer: one lemma a form, and a walk by them. -/
namespace Wp
open PySem PySem.Spec PyProof.Rows L2
section
variable {σ : L2.St} {H : Hp} {Q : VK} {D : Ends} {te ta tb tc : TE} {t u v : TS} {c c2 : TT} {x y z : V} {i : Nat} {K : PySem.W.Frag}
theorem seq (h : t { D with nx := u D } σ H) : tSeq t u D σ H := h
theorem nx_mk {n : L2.St → Hp → Prop} {r : VK} {b k : L2.St → Hp → Prop} (h : n σ H) : (Ends.mk n r b k).nx σ H := h
theorem rt_mk {n : L2.St → Hp → Prop} {r : VK} {b k : L2.St → Hp → Prop} (h : r x H) : (Ends.mk n r b k).rt x H := h
theorem bk_mk {n : L2.St → Hp → Prop} {r : VK} {b k : L2.St → Hp → Prop} (h : b σ H) : (Ends.mk n r b k).bk σ H := h
theorem ct_mk {n : L2.St → Hp → Prop} {r : VK} {b k : L2.St → Hp → Prop} (h : k σ H) : (Ends.mk n r b k).ct σ H := h
theorem next (h : D.nx σ H) : tNext D σ H := h
theorem asg {g : TG} (h : te σ H fun x H1 => g x σ H1 D.nx) : tAsg te g D σ H := h
theorem gname {R : L2.St → Hp → Prop} {σ' : L2.St} (e : σ.set i (some x) = σ') (h : R σ' H) : gName i x σ H R := by subst e; exact h
theorem gsub {s : TSet} {R : L2.St → Hp → Prop} (h : ta σ H fun o H1 => tb σ H1 fun i H2 => s o i x H2 fun H3 => R σ H3) : gSub ta tb s x σ H R := h
theorem ret (h : te σ H D.rt) : tRet te D σ H := h
theorem retN (h : D.rt .non H) : tRetN D σ H := h
theorem drop (h : te σ H fun _ H1 => D.nx σ H1) : tDrop te D σ H := h
theorem ifs (h : c σ H fun b H1 => if b = true then t D σ H1 else u D σ H1) : tIfS c t u D σ H := h
theorem var (h : σ[i]? = some (some x)) (q : Q x H) : tVar i σ H Q := ⟨x, h, q⟩
theorem con (q : Q x H) : tC x σ H Q := q
theorem op {r : R2} (h : ta σ H fun x H1 => tb σ H1 fun y H2 => r x y H2 Q) : tOp r ta tb σ H Q := h
theorem un {r : V → Hp → VK → Prop} (h : ta σ H fun x H1 => r x H1 Q) : tUn r ta σ H Q := h
theorem cb {r : List V → Hp → VK → Prop} {t : TA} (h : t σ H fun vs H1 => r vs H1 Q) : tCB r t σ H Q := h
theorem anil {R : List V → Hp → Prop} (h : R [] H) : tNil σ H R := h
theorem acons {tr : TA} {R : List V → Hp → Prop} (h : te σ H fun x H1 => tr σ H1 fun xs H2 => R (x :: xs) H2) : tCons te tr σ H R := h
theorem call {sp : Sp} {dvs : List V} {E : XK} {t : TA} (h : t σ H fun vs H1 => sp (vs ++ dvs) H1 Q E) : tCall sp dvs E t σ H Q := h
theorem lst {t : TA} (h : t σ H fun xs H1 => xs.length ≤ sizeLine ∧ ∀ p, H1 p = none → Q (.ref p) (upd H1 p (.lst xs))) : tLst t σ H Q := h
theorem tup {t : TA} (h : t σ H fun xs H1 => xs.length ≤ sizeLine ∧ ∀ p, H1 p = none → Q (.ref p) (upd H1 p (.tup xs))) : tTup t σ H Q := h
theorem test {R : Bool → Hp → Prop} (h : te σ H fun x H1 => ∃ k, x = .bl k ∧ R k H1) : tTest te σ H R := h
theorem tb_ {R : Bool → Hp → Prop} (h : te σ H fun x H1 => ∃ k, x = .bl k ∧ R k H1) : tB te σ H R := h
theorem and_ {R : Bool → Hp → Prop} (h : c σ H fun b H1 => if b = true then c2 σ H1 R else R false H1) : tAnd c c2 σ H R := h
theorem or_ {R : Bool → Hp → Prop} (h : c σ H fun b H1 => if b = true then R true H1 else c2 σ H1 R) : tOr c c2 σ H R := h
theorem not_ {R : Bool → Hp → Prop} (h : c σ H fun b H1 => R (!b) H1) : tNot c σ H R := h
theorem andV (h : ta σ H fun x H1 => ∃ c, x = .bl c ∧ if c = true then tb σ H1 Q else Q (.bl false) H1) : tAndV ta tb σ H Q := h
theorem orV (h : ta σ H fun x H1 => ∃ c, x = .bl c ∧ if c = true then Q (.bl true) H1 else tb σ H1 Q) : tOrV ta tb σ H Q := h
theorem notV (h : ta σ H fun x H1 => ∃ c, x = .bl c ∧ Q (.bl (!c)) H1) : tNotV ta σ H Q := h
theorem rI0_ {g : Int → Int → V} {a b : Int} (q : Q (g a b) H) : rI0 g (.int a) (.int b) H Q := ⟨a, b, rfl, rfl, q⟩
theorem rI_ {C : Int → Int → Prop} {g : Int → Int → V} {a b : Int} (k : C a b) (q : Q (g a b) H) : rI C g (.int a) (.int b) H Q := ⟨a, b, rfl, rfl, k, q⟩
theorem rU_ {g : Int → V} {a : Int} (q : Q (g a) H) : rU g (.int a) H Q := ⟨a, rfl, q⟩
theorem rEq_ {x y : V} (k : scal x y = true) (q : Q (.bl (decide (x = y))) H) : rEq x y H Q := ⟨k, q⟩
theorem rNe_ {x y : V} (k : scal x y = true) (q : Q (.bl (!decide (x = y))) H) : rNe x y H Q := ⟨k, q⟩
theorem ixL {p : Addr} {xs : List V} {j : Int} (h : SqL K H p xs) (e : atI xs j = some x) (q : Q x H) : rIxL K (.ref p) (.int j) H Q := ⟨p, xs, j, x, rfl, rfl, h, e, q⟩
theorem ixT {p : Addr} {xs : List V} {j : Int} (h : SqT K H p xs) (e : atI xs j = some x) (q : Q x H) : rIxT K (.ref p) (.int j) H Q := ⟨p, xs, j, x, rfl, rfl, h, e, q⟩
theorem setL {p : Addr} {xs : List V} {j : Int} {n : Nat} {R : Hp → Prop} (h : H p = some (.lst xs)) (e : ixN xs.length j = some n) (q : R (upd H p (.lst (xs.set n x)))) : rSetL (.ref p) (.int j) x H R := ⟨p, xs, j, n, rfl, rfl, h, e, q⟩
/-- a test's two ways -/
theorem ite_ {p A B : Prop} [Decidable p] (h1 : p → A) (h2 : ¬ p → B) : if decide p = true then A else B := by
  by_cases h : p
  · rw [if_pos (decide_eq_true h)]; exact h1 h
  · rw [if_neg (by rw [decide_eq_false h]; exact Bool.false_ne_true)]; exact h2 h
theorem iteN {p A B : Prop} [Decidable p] (h1 : ¬ p → A) (h2 : p → B) : if (!decide p) = true then A else B := by
  by_cases h : p
  · rw [decide_eq_true h]; exact iteF (h2 h)
  · rw [decide_eq_false h]; exact iteT (h1 h)
theorem iteB {b : Bool} {A B : Prop} (h1 : b = true → A) (h2 : b = false → B) : if b = true then A else B := by
  cases b with
  | true => exact iteT (h1 rfl)
  | false => exact iteF (h2 rfl)
end
/-! ### the walk -/
/-- all but the object at b is kept -/
def Kp (b : Addr) (H H' : Hp) : Prop := ∀ a o, a ≠ b → H a = some o → H' a = some o
theorem Kp.refl (b : Addr) (H : Hp) : Kp b H H := fun _ _ _ h => h
theorem Kp.trans {b : Addr} {H H1 H2 : Hp} (x : Kp b H H1) (y : Kp b H1 H2) : Kp b H H2 := fun a o n h => y a o n (x a o n h)
theorem Kp.new {b p : Addr} {H : Hp} {o : HO} (h : H p = none) : Kp b H (upd H p o) := fun a u _ e => by rw [upd_ne (ne_of_none e h)]; exact e
theorem Kp.at {b : Addr} {H : Hp} {o : HO} : Kp b H (upd H b o) := fun a u n e => by rw [upd_ne n]; exact e
section
variable {σ : L2.St} {H H1 H2 : Hp} {Q : VK} {D : Ends} {te ta tb tc : TE} {t u v : TS} {c c2 : TT} {x y z : V} {i : Nat} {K : PySem.W.Frag} {a b p : Addr} {xs ys : List V}
theorem gtup {tt : TGs} {R : L2.St → Hp → Prop} {n : Nat} (h : SqT K H a xs) (e : xs.length = n) (q : tt xs σ H R) : gTup K n tt (.ref a) σ H R := ⟨a, xs, rfl, h, e, q⟩
theorem gcons {g : TG} {tt : TGs} {R : L2.St → Hp → Prop} {r : List V} (q : g x σ H fun σ' H' => tt r σ' H' R) : gCons g tt (x :: r) σ H R := ⟨x, r, rfl, q⟩
theorem gnil {R : L2.St → Hp → Prop} (q : R σ H) : gNil [] σ H R := ⟨rfl, q⟩
theorem sl {r : V → Option Int → Option Int → Hp → VK → Prop} {tl th : TO} (h : te σ H fun x H1 => tl σ H1 fun l H2 => th σ H2 fun u H3 => r x l u H3 Q) : tSl r te tl th σ H Q := h
theorem part {R : Option Int → Hp → Prop} (h : te σ H fun x H1 => ∃ i, x = .int i ∧ R (some i) H1) : tPart te σ H R := h
theorem nopart {R : Option Int → Hp → Prop} (h : R none H) : tNoPart σ H R := h
theorem slS {zs : Str} {lo hi : Option Int} (h : zs.length ≤ sizeLine) (q : Q (.str (cutS zs lo hi)) H) : rSlS (.str zs) lo hi H Q := ⟨zs, rfl, h, q⟩
theorem ifE (h : c σ H fun b H1 => if b = true then ta σ H1 Q else tb σ H1 Q) : tIf c ta tb σ H Q := h
theorem bm0 {T : String} {r : V → List V → Hp → VK → Prop} (h : te σ H fun x H1 => tyV K T x H1 ∧ r x [] H1 Q) : tBM0 K T r te σ H Q := h
theorem bm {T : String} {r : V → List V → Hp → VK → Prop} {tt : TA} (h : te σ H fun x H1 => tyV K T x H1 ∧ tt σ H1 fun xs H2 => r x xs H2 Q) : tBM K T r te tt σ H Q := h
theorem lcat {t u : List V} {R : Addr → Hp → Prop} (h : ∀ p, H p = none → R p (upd H p (.lst (t ++ u)))) : ∀ p, H p = none → R p (upd H p (.lst (t ++ u))) := h
theorem iteT' {A B : Prop} (h : A) : if (!false) = true then A else B := iteT h
theorem iteF' {A B : Prop} (h : B) : if (!true) = true then A else B := iteF h
theorem iteBt {b : Bool} {A B : Prop} (h : b = true) (q : A) : if b = true then A else B := by rw [h]; exact iteT q
theorem iteBf {b : Bool} {A B : Prop} (h : b = false) (q : B) : if b = true then A else B := by rw [h]; exact iteF q
theorem cutS_len (z : Str) (lo hi : Option Int) : (cutS z lo hi).length ≤ z.length := by
  show ((z.cps.toList.drop (HT.sIx z.length 0 lo)).take (HT.sIx z.length z.length hi - HT.sIx z.length 0 lo)).toArray.size ≤ z.cps.size
  rw [List.size_toArray, List.length_take, List.length_drop, Array.length_toList]
  omega
theorem app_len (x y : Str) : (x ++ y).length = x.length + y.length := by
  show (x.cps ++ y.cps).size = x.cps.size + y.cps.size
  exact Array.size_append
theorem str1_len (c : Nat) : (⟨#[c]⟩ : Str).length = 1 := rfl
theorem iteBnT {b : Bool} {A B : Prop} (h : b = false) (q : A) : if (!b) = true then A else B := by rw [h]; exact iteT q
theorem iteBnF {b : Bool} {A B : Prop} (h : b = true) (q : B) : if (!b) = true then A else B := by rw [h]; exact iteF q
theorem pcons {tk tv : TE} {r : List (TE × TE)} {R : List (V × V) → Hp → Prop} (h : tk σ H fun x H1 => tv σ H1 fun y H2 => tPairs r σ H2 fun ps H3 => R ((x, y) :: ps) H3) : tPairs ((tk, tv) :: r) σ H R := h
theorem pnil {R : List (V × V) → Hp → Prop} (h : R [] H) : tPairs [] σ H R := h
/-! ### a written dict with text keys -/
def keysAre : List DictEntry → List (Str × V) → Prop
  | [], [] => True
  | e :: r, (k, v) :: s => (∃ t, e.key = .str k t) ∧ RelV v e.val ∧ keysAre r s
  | _, _ => False
def seek (z : Str) : List (Str × V) → Option V
  | [] => none
  | (k, v) :: s => if k = z then some v else seek z s
theorem keys_find {z : Str} : ∀ {l : List DictEntry} {ks : List (Str × V)}, keysAre l ks →
    (l.any (·.refKey) = false) ∧ ((∃ v e, seek z ks = some v ∧ l.find? (·.key.isStr z) = some e ∧ RelV v e.val) ∨ (seek z ks = none ∧ l.find? (·.key.isStr z) = none))
  | [], [], _ => ⟨rfl, .inr ⟨rfl, rfl⟩⟩
  | [], _ :: _, h => h.elim
  | _ :: _, [], h => h.elim
  | e :: r, (k, v) :: s, ⟨⟨t, hk⟩, hv, h⟩ => by
    obtain ⟨h1, h2⟩ := keys_find (z := z) h
    refine ⟨?_, ?_⟩
    · rw [List.any_cons, h1, Bool.or_false]
      show DictEntry.refKey e = false
      unfold DictEntry.refKey
      rw [hk] <;> rfl
    · rw [List.find?_cons]
      have e1 : (e.key.isStr z) = decide (k = z) := by
        rw [hk, PySem.W.isStr_of]
        show (k == z) = decide (k = z)
        exact Bool.beq_eq_decide_eq k z
      show (∃ v' e', (if k = z then some v else seek z s) = some v' ∧ _) ∨ ((if k = z then some v else seek z s) = none ∧ _)
      by_cases c : k = z
      · rw [if_pos c, e1, decide_eq_true c]
        exact .inl ⟨v, e, rfl, rfl, hv⟩
      · rw [if_neg c, e1, decide_eq_false c]
        exact h2
theorem ns_seek {d : Addr} {es : Array DictEntry} {n : Nat} {ks : List (Str × V)} (hl : K.lookup d = some ⟨.type "dict", none, .dict es n, #[]⟩) (hk : keysAre es.toList ks) (z : Str) :
    (∃ v u, seek z ks = some v ∧ PySem.W.nsIn K d z = some (some u) ∧ RelV v u) ∨ (seek z ks = none ∧ PySem.W.nsIn K d z = some none) := by
  obtain ⟨h1, h2⟩ := keys_find (z := z) hk
  unfold PySem.W.nsIn
  rw [hl]
  dsimp only
  rcases h2 with ⟨v, e, e1, e2, r⟩ | ⟨e1, e2⟩
  · rw [e2]
    exact .inl ⟨v, e.val, e1, rfl, r⟩
  · rw [e2]
    dsimp only
    rw [h1]
    exact .inr ⟨e1, rfl⟩
theorem ixS_any {zs : Str} {j : Int} (hz : zs.length ≤ sizeLine) (h0 : 0 ≤ j) (h1 : j < zs.length) (q : ∀ c, Q (.str ⟨#[c]⟩) H) : rIxS (.str zs) (.int j) H Q := by
  have h2 : j.toNat < zs.cps.toList.length := by
    rw [Array.length_toList]
    show j.toNat < zs.length
    omega
  obtain ⟨c, hc⟩ : ∃ c, zs.cps.toList[j.toNat]? = some c := ⟨_, List.getElem?_eq_getElem h2⟩
  have e : ((j.toNat : Nat) : Int) = j := by omega
  have hc2 := atI_nat hc
  rw [e] at hc2
  exact ⟨zs, j, c, rfl, rfl, hz, hc2, q c⟩
theorem tyvL {p : Addr} {xs : List V} (h : H p = some (.lst xs)) : tyV K "list" (.ref p) H := .inl ⟨rfl, _, SqL.of h⟩
theorem app_ {p : Addr} {xs : List V} {y : V} (h : H p = some (.lst xs)) (hl : xs.length < sizeLine) (q : Q .non (upd H p (.lst (xs ++ [y])))) : rAppend (.ref p) [y] H Q := ⟨p, xs, y, rfl, rfl, h, hl, q⟩
theorem rev_ {p : Addr} {xs : List V} (h : H p = some (.lst xs)) (q : Q .non (upd H p (.lst xs.reverse))) : rReverse (.ref p) [] H Q := ⟨p, xs, rfl, rfl, h, q⟩
theorem slL {p : Addr} {xs : List V} {lo hi : Option Int} (h : SqL K H p xs) (q : ∀ p, H p = none → Q (.ref p) (upd H p (.lst (cutV xs lo hi)))) : rSlL K (.ref p) lo hi H Q := ⟨p, xs, rfl, h, q⟩
theorem cat_ {l b : Addr} {xs zs : List V} (h : H l = some (.lst xs)) (h2 : H b = some (.lst zs)) (hl : xs.length + zs.length ≤ sizeLine) (q : ∀ p, H p = none → Q (.ref p) (upd H p (.lst (xs ++ zs)))) : rCat (.ref l) (.ref b) H Q :=
  ⟨l, b, xs, zs, rfl, rfl, h, h2, hl, q⟩
theorem un65 {k : Nat} {A : Around} (r : Room k A) : A.units + 65 < cLine := by have := r.un; omega
theorem eqD {x y : V} {d : PyData} (h1 : Dp K H x d) (h2 : Dp K H y d) (s : SeqAt.shaped d = true) (e : PyData.eqv d d = true) (q : Q (.bl true) H) : rEqD K x y H Q := ⟨d, d, h1, h2, s, s, by rw [e]; exact q⟩
theorem neD {x y : V} {d : PyData} (h1 : Dp K H x d) (h2 : Dp K H y d) (s : SeqAt.shaped d = true) (e : PyData.eqv d d = true) (q : Q (.bl false) H) : rNeD K x y H Q := ⟨d, d, h1, h2, s, s, by rw [e]; exact q⟩
theorem cut_take {xs : List V} {n : Nat} : cutV xs none (some (n : Int)) = xs.take n := by
  unfold cutV
  rw [show HT.sIx xs.length 0 none = 0 from HT.sIx_none .., show HT.sIx xs.length xs.length (some (n : Int)) = min n xs.length from HT.sIx_nat ..]
  show (xs.drop 0).take (min n xs.length - 0) = xs.take n
  rw [List.drop_zero, Nat.sub_zero]
  by_cases h : n ≤ xs.length
  · rw [Nat.min_eq_left h]
  · rw [Nat.min_eq_right (by omega), List.take_of_length_le (Nat.le_refl _), List.take_of_length_le (by omega)]
theorem dput {td tk tv : TE} (h : tv σ H fun v H1 => td σ H1 fun x H2 => tk σ H2 fun y H3 => ∃ a H', x = .ref a ∧ DPut H3 a y v H' ∧ D.nx σ H') : sDPut td tk tv D σ H := h
theorem cut (Mid : L2.St → Hp → Prop) (h1 : t { D with nx := Mid } σ H) (h2 : ∀ σ' H', Mid σ' H' → u D σ' H') : C8.tCut t u D σ H := ⟨Mid, h1, h2⟩
theorem len_take {xs : List V} {n m : Nat} (h : n ≤ m) : (xs.take n).length ≤ m := Nat.le_trans (List.length_take_le _ _) h
/-! ### loops -/
/-- the loop over J -/
def Loop (J : It) (g : TG) (tb : TS) (D : Ends) (σ : L2.St) (H : Hp) : Prop := ∃ W : Nat → Nat → L2.St → Hp → Prop, (∃ m, W 0 m σ H) ∧ ∀ i m σ H, W i m σ H →
  (J.stop i H ∧ D.nx σ H) ∨ (J.go i H ∧ ∃ N : L2.St → Hp → Prop, (∀ σ' H', N σ' H' → ∃ m', m' < m ∧ W (i + 1) m' σ' H') ∧ ∀ x H', J.yld i H x H' → g x σ H' fun σ2 H2 => tb { D with nx := N, ct := N, bk := D.nx } σ2 H2)
theorem forR1 {ta : TA} {g : TG} {tb : TS} (h : ta σ H fun vs H1 => ∃ j : Int, vs = [.int j] ∧ -(2 ^ 62) ≤ j ∧ j < 2 ^ 62 ∧ Loop (Itr 0 j.toNat) g tb D σ H1) : tFor (iRng1 ta) g tb D σ H := h
theorem forR2 {ta : TA} {g : TG} {tb : TS} (h : ta σ H fun vs H1 => ∃ i j : Int, vs = [.int i, .int j] ∧ (-(2 ^ 62) ≤ i ∧ i < 2 ^ 62 ∧ -(2 ^ 62) ≤ j ∧ j < 2 ^ 62) ∧ Loop (Itr i (j - i).toNat) g tb D σ H1) : tFor (iRng2 ta) g tb D σ H := h
theorem forL {g : TG} {tb : TS} (h : te σ H fun x H1 => ∃ a, x = .ref a ∧ (∃ xs, SqL K H1 a xs) ∧ Loop (Itl K a) g tb D σ H1) : tFor (iList K te) g tb D σ H := h
theorem forT {g : TG} {tb : TS} (h : te σ H fun x H1 => ∃ a, x = .ref a ∧ (∃ xs, SqT K H1 a xs) ∧ Loop (Itt K a) g tb D σ H1) : tFor (iTup K te) g tb D σ H := h
theorem loopR {lo : Int} {n : Nat} {g : TG} {tb : TS} (Pv : Nat → L2.St → Hp → Prop) (h0 : Pv 0 σ H)
    (hs : ∀ i σ H, i < n → Pv i σ H → g (.int (lo + i)) σ H fun σ2 H2 => tb { D with nx := Pv (i + 1), ct := Pv (i + 1), bk := D.nx } σ2 H2) (hd : ∀ σ H, Pv n σ H → D.nx σ H) : Loop (Itr lo n) g tb D σ H := for_range Pv h0 hs hd
theorem loopL {g : TG} {tb : TS} {xs : List V} (Pv : Nat → L2.St → Hp → Prop) (h0 : Pv 0 σ H) (hl : ∀ i σ H, i ≤ xs.length → Pv i σ H → SqL K H a xs)
    (hs : ∀ i x σ H, xs[i]? = some x → Pv i σ H → g x σ H fun σ2 H2 => tb { D with nx := Pv (i + 1), ct := Pv (i + 1), bk := D.nx } σ2 H2) (hd : ∀ σ H, Pv xs.length σ H → D.nx σ H) : Loop (Itl K a) g tb D σ H := for_list Pv h0 hl hs hd
/-! ### comprehensions, whiles -/
def LoopC (J : It) (g : TG) (tt : TT) (te : TE) (vs : List Nat) (σ : L2.St) (D : Addr) (Qd : Hp → Prop) (H0 : Hp) : Prop := ∃ W : Nat → Nat → Hp → Prop, (∃ m, W 0 m H0) ∧ ∀ i m H, W i m H →
  (J.stop i H ∧ Qd H) ∨ (J.go i H ∧ ∃ Nx : Hp → Prop, (∀ H', Nx H' → ∃ m', m' < m ∧ W (i + 1) m' H') ∧ ∀ x H', J.yld i H x H' → g x (wipe σ vs) H' fun σ2 H2 => wipe σ2 vs = wipe σ vs ∧ tt σ2 H2 fun b H3 =>
    if b = true then te σ2 H3 fun y H4 => ∃ acc, H4 D = some (.lst acc) ∧ acc.length < sizeLine ∧ Nx (upd H4 D (.lst (acc ++ [y]))) else Nx H3)
theorem lcR1 {ta : TA} {g : TG} {tt : TT} {vs : List Nat} (h : ta σ H fun us H1 => ∃ j : Int, us = [.int j] ∧ -(2 ^ 62) ≤ j ∧ j < 2 ^ 62 ∧ ∀ D, H1 D = none → LoopC (Itr 0 j.toNat) g tt te vs σ D (fun H => Q (.ref D) H) (upd H1 D (.lst []))) : tLc (iRng1 ta) g tt te vs σ H Q := h
theorem lcR2 {ta : TA} {g : TG} {tt : TT} {vs : List Nat} (h : ta σ H fun us H1 => ∃ i j : Int, us = [.int i, .int j] ∧ (-(2 ^ 62) ≤ i ∧ i < 2 ^ 62 ∧ -(2 ^ 62) ≤ j ∧ j < 2 ^ 62) ∧ ∀ D, H1 D = none → LoopC (Itr i (j - i).toNat) g tt te vs σ D (fun H => Q (.ref D) H) (upd H1 D (.lst []))) : tLc (iRng2 ta) g tt te vs σ H Q := h
theorem lcL {g : TG} {tt : TT} {vs : List Nat} (h : ta σ H fun x H1 => ∃ a, x = .ref a ∧ (∃ xs, SqL K H1 a xs) ∧ ∀ D, H1 D = none → LoopC (Itl K a) g tt te vs σ D (fun H => Q (.ref D) H) (upd H1 D (.lst []))) : tLc (iList K ta) g tt te vs σ H Q := h
theorem loopCR {lo : Int} {n : Nat} {g : TG} {tt : TT} {vs : List Nat} {D : Addr} {Qd : Hp → Prop} (Pv : Nat → Hp → Prop) (h0 : Pv 0 H)
    (hs : ∀ i H, i < n → Pv i H → g (.int (lo + i)) (wipe σ vs) H fun σ2 H2 => wipe σ2 vs = wipe σ vs ∧ tt σ2 H2 fun b H3 =>
      if b = true then te σ2 H3 fun y H4 => ∃ acc, H4 D = some (.lst acc) ∧ acc.length < sizeLine ∧ Pv (i + 1) (upd H4 D (.lst (acc ++ [y]))) else Pv (i + 1) H3) (hd : ∀ H, Pv n H → Qd H) : LoopC (Itr lo n) g tt te vs σ D Qd H := by
  refine ⟨fun i m H => m = n - i ∧ i ≤ n ∧ Pv i H, ⟨n, by simp, Nat.zero_le _, h0⟩, ?_⟩
  rintro i m H ⟨rfl, hi, p⟩
  by_cases hlt : i < n
  · refine .inr ⟨hlt, Pv (i + 1), fun H' p' => ⟨n - (i + 1), by omega, rfl, hlt, p'⟩, fun x H' y => ?_⟩
    obtain ⟨e, y⟩ := y
    subst e y
    exact hs i _ hlt p
  · have e : i = n := by omega
    subst e
    exact .inl ⟨Nat.le_refl _, hd H p⟩
theorem loopCL {a : Addr} {xs : List V} {g : TG} {tt : TT} {vs : List Nat} {D : Addr} {Qd : Hp → Prop} (Pv : Nat → Hp → Prop) (h0 : Pv 0 H) (hl : ∀ i H, i ≤ xs.length → Pv i H → SqL K H a xs)
    (hs : ∀ i x H, xs[i]? = some x → Pv i H → g x (wipe σ vs) H fun σ2 H2 => wipe σ2 vs = wipe σ vs ∧ tt σ2 H2 fun b H3 =>
      if b = true then te σ2 H3 fun y H4 => ∃ acc, H4 D = some (.lst acc) ∧ acc.length < sizeLine ∧ Pv (i + 1) (upd H4 D (.lst (acc ++ [y]))) else Pv (i + 1) H3) (hd : ∀ H, Pv xs.length H → Qd H) : LoopC (Itl K a) g tt te vs σ D Qd H := by
  refine ⟨fun i m H => m = xs.length - i ∧ i ≤ xs.length ∧ Pv i H, ⟨xs.length, by simp, Nat.zero_le _, h0⟩, ?_⟩
  rintro i m H ⟨rfl, hi, p⟩
  have q := hl i H hi p
  by_cases hlt : i < xs.length
  · refine .inr ⟨⟨xs, xs[i], q, by simp [hlt]⟩, Pv (i + 1), fun H' p' => ⟨xs.length - (i + 1), by omega, rfl, hlt, p'⟩, fun x H' y => ?_⟩
    obtain ⟨e, y⟩ := y
    subst e
    exact hs i x _ (y xs q) p
  · have e : i = xs.length := by omega
    subst e
    exact .inl ⟨⟨xs, q, Nat.le_refl _⟩, hd H p⟩
theorem yes {R : Bool → Hp → Prop} (h : R true H) : tYes σ H R := h
theorem whileW (M : Nat → L2.St → Hp → Prop) (m0 : Nat) (h0 : M m0 σ H)
    (hs : ∀ m σ H, M m σ H → c σ H fun b H1 => if b = true then (∃ N : L2.St → Hp → Prop, (∀ σ' H', N σ' H' → ∃ m', m' < m ∧ M m' σ' H') ∧ t { D with nx := N, ct := N, bk := D.nx } σ H1) else D.nx σ H1) : tWhile c t D σ H := by
  refine ⟨M, ⟨m0, h0⟩, fun m σ H h => ?_⟩
  have h2 := hs m σ H h
  exact h2
theorem dinI {ty td : TE} (h : ty σ H fun y H1 => td σ H1 fun x H2 => ∃ a o, x = .ref a ∧ DGet H2 a y o ∧ Q (.bl o.isSome) H2) : tDIn ty td σ H Q := h
theorem dninI {ty td : TE} (h : ty σ H fun y H1 => td σ H1 fun x H2 => ∃ a o, x = .ref a ∧ DGet H2 a y o ∧ Q (.bl (!o.isSome)) H2) : tDNotIn ty td σ H Q := h
theorem dget {ty td : TE} (h : td σ H fun x H1 => ty σ H1 fun y H2 => ∃ a v, x = .ref a ∧ DGet H2 a y (some v) ∧ Q v H2) : tDGet td ty σ H Q := h
/-- len and list of a sequence, by names -/
def rLenS (K : PySem.W.Frag) : List V → Hp → VK → Prop := fun xs H Q => ∃ p ys, xs = [.ref p] ∧ (SqL K H p ys ∨ SqT K H p ys) ∧ Q (.int ys.length) H
theorem call_lenS {X : Cx} : CallR X (.builtin "len") (rLenS X.K) := call_len_seq
def rListS (K : PySem.W.Frag) : List V → Hp → VK → Prop := fun xs H Q => ∃ p ys, xs = [.ref p] ∧ (SqL K H p ys ∨ SqT K H p ys) ∧ ∀ l, H l = none → Q (.ref l) (upd H l (.lst ys))
theorem call_listS {X : Cx} : CallR X (.type "list") (rListS X.K) := call_list_of
theorem lenS_ {p : Addr} {ys : List V} (h : SqL K H p ys) (q : Q (.int ys.length) H) : rLenS K [.ref p] H Q := ⟨p, ys, rfl, .inl h, q⟩
theorem listS_ {p : Addr} {ys : List V} (h : SqL K H p ys) (q : ∀ l, H l = none → Q (.ref l) (upd H l (.lst ys))) : rListS K [.ref p] H Q := ⟨p, ys, rfl, .inl h, q⟩
theorem chain {r r' : R2} (h : ta σ H fun x H1 => tb σ H1 fun y H2 => r x y H2 fun z H3 => ∃ k, z = .bl k ∧ (if k = true then tc σ H3 fun w' H4 => r' y w' H4 Q else Q (.bl false) H3)) : tChain r r' ta tb tc σ H Q := h
/-- a comprehension of two clauses, the first one's loop -/
def LoopC2 (J : It) (g : TG) (tt : TT) (wi1 : TI) (g1 : TG) (tt1 : TT) (te : TE) (vs vs1 : List Nat) (σ : L2.St) (D : Addr) (Qd : Hp → Prop) (H0 : Hp) : Prop := ∃ W : Nat → Nat → Hp → Prop, (∃ m, W 0 m H0) ∧ ∀ i m H, W i m H →
  (J.stop i H ∧ Qd H) ∨ (J.go i H ∧ ∃ Nx : Hp → Prop, (∀ H', Nx H' → ∃ m', m' < m ∧ W (i + 1) m' H') ∧ ∀ x H', J.yld i H x H' → g x (wipe σ vs) H' fun σ2 H2 => wipe σ2 vs = wipe σ vs ∧ tt σ2 H2 fun b H3 =>
    if b = true then wi1 σ2 H3 (fun J1 H4 => LoopC J1 g1 tt1 te vs1 σ2 D Nx H4) else Nx H3)
theorem lc2V {K : PySem.W.Frag} {ts : TA} {wi1 : TI} {g g1 : TG} {tt tt1 : TT} {vs vs1 : List Nat} (h : ts σ H fun us H1 => ∃ (a : Addr) (xs : List V), us = [.ref a] ∧ SqL K H1 a xs ∧ ∀ D, H1 D = none → LoopC2 (Itv K a xs.length) g tt wi1 g1 tt1 te vs vs1 σ D (fun H => Q (.ref D) H) (upd H1 D (.lst []))) :
    tLc2 (iRev K ts) g tt wi1 g1 tt1 te vs vs1 σ H Q := h
theorem loopC2V {a : Addr} {xs : List V} {wi1 : TI} {g g1 : TG} {tt tt1 : TT} {vs vs1 : List Nat} {D : Addr} {Qd : Hp → Prop} (Pv : Nat → Hp → Prop) (h0 : Pv 0 H) (hl : ∀ i H, Pv i H → SqL K H a xs)
    (hs : ∀ i x H, i < xs.length → xs[xs.length - 1 - i]? = some x → Pv i H → g x (wipe σ vs) H fun σ2 H2 => wipe σ2 vs = wipe σ vs ∧ tt σ2 H2 fun b H3 =>
      if b = true then wi1 σ2 H3 (fun J1 H4 => LoopC J1 g1 tt1 te vs1 σ2 D (Pv (i + 1)) H4) else Pv (i + 1) H3) (hd : ∀ H, Pv xs.length H → Qd H) : LoopC2 (Itv K a xs.length) g tt wi1 g1 tt1 te vs vs1 σ D Qd H := by
  refine ⟨fun i m H => m = xs.length - i ∧ i ≤ xs.length ∧ Pv i H, ⟨xs.length, by simp, Nat.zero_le _, h0⟩, ?_⟩
  rintro i m H ⟨rfl, hi, p⟩
  by_cases hlt : i < xs.length
  · have hx : xs.length - 1 - i < xs.length := by omega
    refine .inr ⟨⟨hlt, xs, xs[xs.length - 1 - i], hl i H p, List.getElem?_eq_getElem hx⟩, Pv (i + 1), fun H' p' => ⟨xs.length - (i + 1), by omega, rfl, hlt, p'⟩, fun x H' y => ?_⟩
    obtain ⟨e, y⟩ := y
    subst e
    exact hs i x _ hlt (y xs (hl i _ p)) p
  · have e : i = xs.length := by omega
    subst e
    exact .inl ⟨Nat.le_refl _, hd H p⟩
theorem piL {R : It → Hp → Prop} (h : ta σ H fun x H1 => ∃ a, x = .ref a ∧ (∃ xs, SqL K H1 a xs) ∧ R (Itl K a) H1) : iList K ta σ H R := h
/-! ### kinds -/
/-- a value's built-in type, of what is known of it -/
inductive Kind (H : Hp) : V → String → Prop where
  | non : Kind H .non "NoneType"
  | bl (b : Bool) : Kind H (.bl b) "bool"
  | int (i : Int) : Kind H (.int i) "int"
  | str (x : Str) : Kind H (.str x) "str"
  | lst {a : Addr} {xs : List V} (h : H a = some (.lst xs)) : Kind H (.ref a) "list"
  | tup {a : Addr} {xs : List V} (h : H a = some (.tup xs)) : Kind H (.ref a) "tuple"
  | dK {a : Addr} {kvs : List (Key × V)} (h : H a = some (.dK kvs)) : Kind H (.ref a) "dict"
theorem Kind.tyB {T : String} (k : Kind H x T) : TyB K H x T := by
  cases k with
  | non => exact .non
  | bl b => exact .bl b
  | int i => exact .int i
  | str s => exact .str s
  | lst h => exact .lst (SqL.of h)
  | tup h => exact .tup (SqT.of h)
  | dK h => exact .dK h
theorem Kind.tyX {T : String} (k : Kind H x T) : TyX K H x (.type T) := by
  cases k with
  | non => exact .base .non
  | bl b => exact .base (.bl b)
  | int i => exact .base (.int i)
  | str s => exact .base (.str s)
  | lst h => exact .base (.lst h)
  | tup h => exact .base (.tup h)
  | dK h => exact .base (.dK h)
def isB (T C : String) : Bool := decide (T = C) || (decide (T = "bool") && decide (C = "int"))
theorem isB_eq {T C : String} (h : C ≠ "int") : isB T C = decide (T = C) := by
  unfold isB
  rw [decide_eq_false h, Bool.and_false, Bool.or_false]
theorem Kind.kit {T : String} (k : Kind H x T) {C : String} (hC : C = "int" ∨ C = "bool" ∨ C = "str" ∨ C = "tuple" ∨ C = "list") : PySem.W.kitOne K (.type T) (.type C) = some (isB T C) := by
  rcases hC with rfl | rfl | rfl | rfl | rfl <;> cases k <;> exact kit_ty (by decide +kernel)
theorem isi {T C : String} (k : Kind H x T) (hC : C = "int" ∨ C = "bool" ∨ C = "str" ∨ C = "tuple" ∨ C = "list") (q : Q (.bl (isB T C)) H) : rIsi K [x, .ty C] H Q :=
  ⟨x, .ty C, _, _, _, rfl, .ty C, k.tyX, k.kit hC, q⟩
theorem typ {T : String} (k : Kind H x T) (q : Q (.ty T) H) : rTyp K [x] H Q := ⟨x, T, rfl, k.tyB, q⟩
theorem rNT_ {s1 s2 : String} (q : Q (.bl (!decide (s1 = s2))) H) : rNT (.ty s1) (.ty s2) H Q := ⟨s1, s2, rfl, rfl, q⟩
/-! ### heaps -/
theorem Kp.same (h : H b = none) (k : Kp b H H1) : Same H H1 := fun a o e => k a o (ne_of_none e h) e
theorem Kp.updNew {o : HO} (k : Kp b H H1) (h : H p = none) : Kp b H (upd H1 p o) := fun a u n e => by rw [upd_ne (ne_of_none e h)]; exact k a u n e
theorem Same.kp (k : Same H H1) : Kp b H H1 := fun a o _ e => k a o e
theorem look {o : HO} (s : Same H H1) (h : H p = some o) : H1 p = some o := s _ _ h
theorem kpT (x : Kp b H H1) (y : Kp b H1 H2) : Kp b H H2 := Kp.trans x y
theorem same_new {o : HO} (h : H p = none) : Same H (upd H p o) := fun a u e => by rw [upd_ne (ne_of_none e h)]; exact e
theorem Kp.kind {T : String} {bs : List V} (k : Kp b H H1) (hb : H b = some (.lst bs)) (q : Kind H x T) (n : x ≠ .ref b) : Kind H1 x T := by
  cases q with
  | non => exact .non
  | bl b => exact .bl b
  | int i => exact .int i
  | str s => exact .str s
  | lst h => exact .lst (k _ _ (fun e => n (by rw [e])) h)
  | tup h => exact .tup (k _ _ (fun e => n (by rw [e])) h)
  | dK h => exact .dK (k _ _ (fun e => n (by rw [e])) h)
theorem Same.kind {T : String} (k : Same H H1) (q : Kind H x T) : Kind H1 x T := by
  cases q with
  | non => exact .non
  | bl b => exact .bl b
  | int i => exact .int i
  | str s => exact .str s
  | lst h => exact .lst (k _ _ h)
  | tup h => exact .tup (k _ _ h)
  | dK h => exact .dK (k _ _ h)
theorem atI_of {α : Type} {xs : List α} {x : α} {j : Int} {n : Nat} (e : j = n) (h : xs[n]? = some x) : atI xs j = some x := by rw [e]; exact atI_nat h
end
end Wp

/-! Worths and piles as data: (text, int), lists of such; what is kept of them. -/
namespace Wq
open PySem PySem.Spec PyProof.Rows L2 Wp
abbrev W := Str × Int
def wD (w : W) : PyData := .tuple [.str w.1, .int w.2]
def IsW (H : Hp) (v : V) (w : W) : Prop := ∃ t, v = .ref t ∧ H t = some (.tup [.str w.1, .int w.2])
def Pile (H : Hp) (vs : List V) (ws : List W) : Prop := Paired (IsW H) vs ws
/-- the tuples stay -/
def Tk (H H' : Hp) : Prop := ∀ t xs, H t = some (.tup xs) → H' t = some (.tup xs)
section
variable {H H1 H2 : Hp} {a b p : Addr} {v x y : V} {w : W} {vs us : List V} {ws zs : List W} {K : PySem.W.Frag}
theorem Tk.refl : Tk H H := fun _ _ h => h
theorem Tk.trans (h : Tk H H1) (k : Tk H1 H2) : Tk H H2 := fun t xs e => k t xs (h t xs e)
theorem Same.tk (s : Same H H1) : Tk H H1 := fun t xs e => s t _ e
theorem Kp.tk {bs : List V} (k : Kp b H H1) (h : H b = some (.lst bs)) : Tk H H1 := fun t xs e => k t _ (ne_of e h (by intro q; cases q)) e
theorem Tk.lst {o : HO} {bs : List V} (h : H b = some (.lst bs)) : Tk H (upd H b o) := fun t xs e => by rw [upd_ne (ne_of e h (by intro q; cases q))]; exact e
theorem Tk.dT {o : HO} {bs : List (List Key × V)} (h : H b = some (.dT bs)) : Tk H (upd H b o) := fun t xs e => by rw [upd_ne (ne_of e h (by intro q; cases q))]; exact e
theorem Tk.dK {o : HO} {bs : List (Key × V)} (h : H b = some (.dK bs)) : Tk H (upd H b o) := fun t xs e => by rw [upd_ne (ne_of e h (by intro q; cases q))]; exact e
theorem Tk.new {o : HO} (h : H p = none) : Tk H (upd H p o) := fun t xs e => by rw [upd_ne (ne_of_none e h)]; exact e
theorem IsW.keep (h : IsW H v w) (k : Tk H H1) : IsW H1 v w := by
  obtain ⟨t, e, h⟩ := h
  exact ⟨t, e, k _ _ h⟩
theorem Pile.keep (h : Pile H vs ws) (k : Tk H H1) : Pile H1 vs ws := Paired.mapP h fun _ _ q => q.keep k
theorem Pile.len (h : Pile H vs ws) : vs.length = ws.length := Paired.length h
theorem Pile.nil : Pile H [] [] := Paired.nil
theorem Pile.app (h : Pile H vs ws) (k : Pile H us zs) : Pile H (vs ++ us) (ws ++ zs) := by
  unfold Pile at *
  induction h with
  | nil => exact k
  | cons r t ih => exact .cons r ih
theorem Pile.one (h : IsW H v w) : Pile H [v] [w] := Paired.cons h Paired.nil
theorem Pile.take (h : Pile H vs ws) : ∀ n, Pile H (vs.take n) (ws.take n) := by
  unfold Pile at *
  induction h with
  | nil => intro n; cases n <;> exact .nil
  | cons r t ih => intro n; cases n with
    | zero => exact .nil
    | succ n => exact .cons r (ih n)
theorem Pile.drop (h : Pile H vs ws) : ∀ n, Pile H (vs.drop n) (ws.drop n) := by
  unfold Pile at *
  induction h with
  | nil => intro n; cases n <;> exact .nil
  | cons r t ih => intro n; cases n with
    | zero => exact .cons r t
    | succ n => exact ih n
theorem Pile.rev (h : Pile H vs ws) : Pile H vs.reverse ws.reverse := by
  unfold Pile at *
  induction h with
  | nil => exact .nil
  | cons r t ih =>
    rw [List.reverse_cons, List.reverse_cons]
    exact Pile.app ih (Pile.one r)
theorem Pile.get (h : Pile H vs ws) : ∀ {i : Nat}, vs[i]? = some v → ∃ w, ws[i]? = some w ∧ IsW H v w := by
  unfold Pile at h
  induction h with
  | nil => intro i e; cases i <;> cases e
  | cons r t ih => intro i e; cases i with
    | zero => cases e; exact ⟨_, rfl, r⟩
    | succ n => exact ih e
theorem Pile.at (h : Pile H vs ws) {i : Nat} (hi : i < ws.length) : ∃ v w, vs[i]? = some v ∧ ws[i]? = some w ∧ IsW H v w := by
  have h2 : i < vs.length := by rw [h.len]; exact hi
  obtain ⟨w, hw, q⟩ := h.get (List.getElem?_eq_getElem h2)
  exact ⟨_, w, List.getElem?_eq_getElem h2, hw, q⟩
/-! ### as data -/
theorem IsW.dp (h : IsW H v w) : Dp K H v (wD w) := by
  obtain ⟨t, rfl, h⟩ := h
  exact .tup (SqT.of h) (.cons (.str _) (.cons (.int _) .nil))
theorem Pile.dpAll (h : Pile H vs ws) : DpAll K H vs (ws.map wD) := by
  unfold Pile at h
  induction h with
  | nil => exact .nil
  | cons r t ih => exact .cons r.dp ih
theorem Pile.dp (h : Pile H vs ws) (e : SqL K H a vs) : Dp K H (.ref a) (.list (ws.map wD)) := .lst e h.dpAll
/-- texts as worths have them -/
def Wok (w : W) : Prop := PyData.strOk w.1 = true
theorem wD_lay (h : Wok w) : (wD w).canLay0 = true := by
  unfold wD
  simp only [PyData.canLay0, PyData.canLayAll0]
  rw [show PyData.strOk w.1 = true from h]
  rfl
theorem wD_depth : (wD w).depth = 1 := by simp [wD, PyData.depth, PyData.depthAll]
theorem wDs_lay : ∀ ws : List W, (∀ w ∈ ws, Wok w) → PyData.canLayAll0 (ws.map wD) = true
  | [], _ => by simp [PyData.canLayAll0]
  | w :: ws, h => by
    rw [List.map_cons]
    simp only [PyData.canLayAll0]
    rw [wD_lay (h w List.mem_cons_self), wDs_lay ws (fun x hx => h x (List.mem_cons_of_mem _ hx))] <;> rfl
theorem wDs_depth : ∀ ws : List W, PyData.depthAll (ws.map wD) ≤ 1
  | [] => by simp [PyData.depthAll]
  | w :: ws => by
    have h := wDs_depth ws
    rw [List.map_cons]
    simp only [PyData.depthAll]
    rw [wD_depth]
    omega
theorem wD_shaped (h : Wok w) : SeqAt.shaped (wD w) = true := by
  unfold SeqAt.shaped
  rw [wD_lay h, wD_depth] <;> rfl
theorem wDs_shaped (h : ∀ w ∈ ws, Wok w) : SeqAt.shaped (.list (ws.map wD)) = true := by
  have h2 := wDs_depth ws
  have h3 : (PyData.list (ws.map wD)).depth ≤ 64 := by
    simp only [PyData.depth]
    omega
  show (PyData.canLay0 (.list (ws.map wD)) && decide ((PyData.list (ws.map wD)).depth ≤ 64)) = true
  rw [decide_eq_true h3, Bool.and_true]
  simp only [PyData.canLay0]
  exact wDs_lay ws h
theorem wD_eqv (w z : W) : PyData.eqv (wD w) (wD z) = decide (w = z) := by
  unfold wD
  simp only [PyData.eqv, PyData.eqvAll, Bool.and_true]
  obtain ⟨s, n⟩ := w
  obtain ⟨t, m⟩ := z
  rw [Bool.beq_eq_decide_eq, Bool.beq_eq_decide_eq]
  by_cases e1 : s = t
  · by_cases e2 : n = m
    · subst e1 e2; simp
    · simp [e1, e2]
  · simp [e1]
theorem any_wD (w : W) : ∀ ws : List W, ((ws.map wD).any fun z => PyData.eqv z (wD w)) = decide (w ∈ ws)
  | [] => rfl
  | z :: ws => by
    rw [List.map_cons, List.any_cons, any_wD w ws, wD_eqv]
    by_cases e : z = w
    · subst e; simp
    · rw [decide_eq_false e, Bool.false_or]
      exact decide_eq_decide.mpr ⟨fun h => List.mem_cons_of_mem _ h, fun h => (List.mem_cons.mp h).elim (fun q => absurd q.symm e) id⟩
theorem eq_self {d : PyData} (h : SeqAt.shaped d = true) : PyData.eqv d d = true := by
  refine PySem.SeqAt.eqv_refl d ?_
  have h2 : (d.canLay0 && decide (d.depth ≤ 64)) = true := h
  rw [Bool.and_eq_true] at h2
  exact h2.1
end
end Wq

/-! Papers as data; what is kept of lists; xs[i] op= e. -/
namespace Wr
open PySem PySem.Spec PyProof.Rows L2 Wp Wq
section
variable {X : Cx}
/-- xs[i], read by values, 0 ≤ i -/
def gIx (K : PySem.W.Frag) : V → V → Hp → VK → Prop := fun x y H Q => ∃ p xs, ∃ i : Nat, ∃ v, x = .ref p ∧ y = .int i ∧ SqL K H p xs ∧ xs[i]? = some v ∧ Q v H
theorem get_list : PGet X (gIx X.K) := by
  intro pins s σ H x y v u Q I rx ry h
  obtain ⟨p, xs, i, z, rfl, rfl, hq, he, q⟩ := h
  cases rx
  obtain ⟨t, rfl⟩ := ry
  obtain ⟨its, r, pl, hz⟩ := I.list hq
  obtain ⟨w, ew, rw'⟩ := r.get he
  have hl := r.length
  have hn := line63
  have hi : i < xs.length := (List.getElem?_eq_some_iff.mp he).1
  exact wpAny_getItem_list pl.isList (by omega) (by omega) (by simpa using ew) ⟨z, H, I, rw', q⟩
end
section
variable {σ : L2.St} {H : Hp} {D : Ends} {to ti te : TE} {K : PySem.W.Frag}
theorem augS {tget : V → V → Hp → VK → Prop} {tip : TIp} {tset : TSet} (h : to σ H fun o H1 => ti σ H1 fun i H2 => tget o i H2 fun x H3 => te σ H3 fun y H4 => tip x y H4 fun z H5 => tset o i z H5 fun H6 => D.nx σ H6) : tAugS to ti te tget tip tset D σ H := h
theorem gix {p : Addr} {xs : List V} {i : Nat} {v : V} {Q : VK} (h : SqL K H p xs) (e : xs[i]? = some v) (q : Q v H) : gIx K (.ref p) (.int i) H Q := ⟨p, xs, i, v, rfl, rfl, h, e, q⟩
theorem ipi {f : Int → Int → Int} {a b : Int} {Q : VK} (q : Q (.int (f a b)) H) : ipI f (.int a) (.int b) H Q := ⟨a, b, rfl, rfl, q⟩
end
/-! ### what is kept -/
/-- all but the objects of S is kept, the tuples too -/
structure Ks (S : List Addr) (H H' : Hp) : Prop where
  keep : ∀ a o, a ∉ S → H a = some o → H' a = some o
  tk : Tk H H'
section
variable {S S' : List Addr} {H H1 H2 : Hp} {a b p : Addr} {v : V} {vs : List V} {ws : List W} {K : PySem.W.Frag}
theorem Ks.refl : Ks S H H := ⟨fun _ _ _ h => h, fun _ _ h => h⟩
theorem Ks.trans (x : Ks S H H1) (y : Ks S H1 H2) : Ks S H H2 := ⟨fun a o n h => y.keep a o n (x.keep a o n h), x.tk.trans y.tk⟩
theorem Ks.same (x : Same H H1) : Ks S H H1 := ⟨fun a o _ h => x a o h, Same.tk x⟩
theorem Ks.mono (x : Ks S H H1) (h : ∀ a ∈ S, a ∈ S') : Ks S' H H1 := ⟨fun a o n e => x.keep a o (fun q => n (h a q)) e, x.tk⟩
theorem Ks.kp {bs : List V} (k : Kp b H H1) (h : H b = some (.lst bs)) (m : b ∈ S) : Ks S H H1 := ⟨fun a o n e => k a o (fun q => n (q ▸ m)) e, Kp.tk k h⟩
theorem Ks.upd {bs : List V} {o : HO} (h : H b = some (.lst bs)) (m : b ∈ S) : Ks S H (upd H b o) := ⟨fun a u n e => by rw [upd_ne (fun q : a = b => n (by rw [q]; exact m))]; exact e, Tk.lst h⟩
theorem Ks.new {o : HO} (h : H p = none) : Ks S H (L2.upd H p o) := Ks.same (same_new h)
/-- what is new to H is not looked at -/
theorem Ks.toSame (x : Ks S H1 H2) (s : Same H H1) (n : ∀ a ∈ S, H a = none) : Same H H2 := fun a o e => x.keep a o (fun q => by rw [n a q] at e; cases e) (s a o e)
/-! ### a list of pieces -/
abbrev Pc := Int × List W
def IsPc (S : List Addr) (H : Hp) (v : V) (p : Pc) : Prop := ∃ t l vs, v = .ref t ∧ H t = some (.tup [.int p.1, .ref l]) ∧ H l = some (.lst vs) ∧ Pile H vs p.2 ∧ l ∉ S
def Pieces (S : List Addr) (H : Hp) (xs : List V) (R : List Pc) : Prop := Paired (IsPc S H) xs R
theorem IsPc.keep {p : Pc} (h : IsPc S H v p) (k : Ks S H H1) : IsPc S H1 v p := by
  obtain ⟨t, l, vs, e, h1, h2, h3, h4⟩ := h
  exact ⟨t, l, vs, e, k.tk _ _ h1, k.keep _ _ h4 h2, h3.keep k.tk, h4⟩
theorem IsPc.less {p : Pc} (h : IsPc S H v p) (k : ∀ a ∈ S', a ∈ S) : IsPc S' H v p := by
  obtain ⟨t, l, vs, e, h1, h2, h3, h4⟩ := h
  exact ⟨t, l, vs, e, h1, h2, h3, fun q => h4 (k _ q)⟩
theorem Pieces.keep {xs : List V} {R : List Pc} (h : Pieces S H xs R) (k : Ks S H H1) : Pieces S H1 xs R := Paired.mapP h fun _ _ q => q.keep k
theorem Pieces.less {xs : List V} {R : List Pc} (h : Pieces S H xs R) (k : ∀ a ∈ S', a ∈ S) : Pieces S' H xs R := Paired.mapP h fun _ _ q => q.less k
theorem Pieces.len {xs : List V} {R : List Pc} (h : Pieces S H xs R) : xs.length = R.length := Paired.length h
theorem Pieces.nil : Pieces S H [] [] := Paired.nil
theorem pair_app {α β : Type} {F : α → β → Prop} : ∀ {l₁ m₁ : List α} {l₂ m₂ : List β}, Paired F l₁ l₂ → Paired F m₁ m₂ → Paired F (l₁ ++ m₁) (l₂ ++ m₂)
  | _, _, _, _, .nil, k => k
  | _, _, _, _, .cons r t, k => .cons r (pair_app t k)
theorem pair_at {α β : Type} {F : α → β → Prop} : ∀ {l₁ : List α} {l₂ : List β}, Paired F l₁ l₂ → ∀ {i : Nat} {y : β}, l₂[i]? = some y → ∃ x, l₁[i]? = some x ∧ F x y
  | _, _, .nil, i, y, e => by cases i <;> cases e
  | _, _, .cons r t, 0, y, e => by cases e; exact ⟨_, rfl, r⟩
  | _, _, .cons r t, i + 1, y, e => pair_at t (i := i) e
theorem pair_at1 {α β : Type} {F : α → β → Prop} : ∀ {l₁ : List α} {l₂ : List β}, Paired F l₁ l₂ → ∀ {i : Nat} {x : α}, l₁[i]? = some x → ∃ y, l₂[i]? = some y ∧ F x y
  | _, _, .nil, i, y, e => by cases i <;> cases e
  | _, _, .cons r t, 0, y, e => by cases e; exact ⟨_, rfl, r⟩
  | _, _, .cons r t, i + 1, y, e => pair_at1 t (i := i) e
/-! ### lists of piles -/
def IsLs (S : List Addr) (H : Hp) (v : V) (ws : List W) : Prop := ∃ l vs, v = .ref l ∧ H l = some (.lst vs) ∧ Pile H vs ws ∧ l ∉ S
def Lists (S : List Addr) (H : Hp) (ys : List V) (Ps : List (List W)) : Prop := Paired (IsLs S H) ys Ps
theorem IsLs.keep {ws : List W} (h : IsLs S H v ws) (k : Ks S H H1) : IsLs S H1 v ws := by
  obtain ⟨l, vs, e, h2, h3, h4⟩ := h
  exact ⟨l, vs, e, k.keep _ _ h4 h2, h3.keep k.tk, h4⟩
theorem IsLs.less {ws : List W} (h : IsLs S H v ws) (k : ∀ a ∈ S', a ∈ S) : IsLs S' H v ws := by
  obtain ⟨l, vs, e, h2, h3, h4⟩ := h
  exact ⟨l, vs, e, h2, h3, fun q => h4 (k _ q)⟩
theorem Lists.keep {ys : List V} {Ps : List (List W)} (h : Lists S H ys Ps) (k : Ks S H H1) : Lists S H1 ys Ps := Paired.mapP h fun _ _ q => q.keep k
theorem Lists.less {ys : List V} {Ps : List (List W)} (h : Lists S H ys Ps) (k : ∀ a ∈ S', a ∈ S) : Lists S' H ys Ps := Paired.mapP h fun _ _ q => q.less k
theorem Lists.len {ys : List V} {Ps : List (List W)} (h : Lists S H ys Ps) : ys.length = Ps.length := Paired.length h
/-! ### what a raw paper is, and its piles -/
def RawOk (size : Int) (R : List Pc) : Prop := ∀ (k : Nat) (p : Pc), R[k]? = some p → -1 ≤ p.1 ∧ p.1 < k ∧ 1 ≤ p.2.length ∧ (p.2.length : Int) ≤ size ∧ ∀ z ∈ p.2, Wok z
def belowM (Ps : List (List W)) (u : Int) : List W := if 0 ≤ u then Ps.getD u.toNat [] else []
def PilesOk (R : List Pc) (Ps : List (List W)) : Prop := Ps.length = R.length ∧ ∀ (k : Nat) (p : Pc), R[k]? = some p → Ps[k]? = some (belowM Ps p.1 ++ p.2)
theorem RawOk.nil {size : Int} : RawOk size [] := fun k p e => by cases k <;> cases e
theorem PilesOk.nil : PilesOk [] [] := ⟨rfl, fun k p e => by cases k <;> cases e⟩
theorem get_app1 {α : Type} {l : List α} {x y : α} {k : Nat} (h : (l ++ [x])[k]? = some y) : l[k]? = some y ∨ (k = l.length ∧ y = x) := by
  by_cases c : k < l.length
  · rw [List.getElem?_append_left c] at h; exact .inl h
  · rw [List.getElem?_append_right (by omega)] at h
    have e : k - l.length = 0 := by
      by_cases q : k - l.length = 0
      · exact q
      · obtain ⟨m, hm⟩ : ∃ m, k - l.length = m + 1 := ⟨k - l.length - 1, by omega⟩
        rw [hm] at h; simp at h
    rw [e] at h
    exact .inr ⟨by omega, (Option.some.inj h).symm⟩
theorem RawOk.app {size : Int} {R : List Pc} {p : Pc} (h : RawOk size R) (h1 : -1 ≤ p.1) (h2 : p.1 < R.length) (h3 : 1 ≤ p.2.length) (h4 : (p.2.length : Int) ≤ size) (h5 : ∀ z ∈ p.2, Wok z) : RawOk size (R ++ [p]) := fun k q e => by
  rcases get_app1 e with e | ⟨rfl, rfl⟩
  · exact h k q e
  · exact ⟨h1, h2, h3, h4, h5⟩
theorem below_app {Ps : List (List W)} {x : List W} {u : Int} (h : u < Ps.length) : belowM (Ps ++ [x]) u = belowM Ps u := by
  unfold belowM
  split
  · rw [List.getD_eq_getElem?_getD, List.getD_eq_getElem?_getD, List.getElem?_append_left (by omega)]
  · rfl
theorem PilesOk.app {size : Int} {R : List Pc} {Ps : List (List W)} {p : Pc} (h : PilesOk R Ps) (ok : RawOk size R) (h2 : p.1 < R.length) : PilesOk (R ++ [p]) (Ps ++ [belowM Ps p.1 ++ p.2]) := by
  refine ⟨by rw [List.length_append, List.length_append, h.1] <;> rfl, fun k q e => ?_⟩
  have hl := h.1
  rcases get_app1 e with e | ⟨rfl, rfl⟩
  · have hk : k < R.length := (List.getElem?_eq_some_iff.mp e).1
    have := (ok k q e).2.1
    rw [below_app (by omega), List.getElem?_append_left (by omega)]
    exact h.2 k q e
  · rw [below_app (by omega), ← hl, List.getElem?_append_right (Nat.le_refl _), Nat.sub_self] <;> rfl
/-! ### a paper -/
abbrev Pap := List Pc × List Int
def IsPap (S : List Addr) (H : Hp) (v : V) (P : Pap) : Prop := ∃ t p q xs, v = .ref t ∧ H t = some (.tup [.ref p, .ref q]) ∧ H p = some (.lst xs) ∧ Pieces S H xs P.1 ∧ H q = some (.lst (P.2.map V.int)) ∧ p ∉ S ∧ q ∉ S
theorem IsPap.keep {P : Pap} (h : IsPap S H v P) (k : Ks S H H1) : IsPap S H1 v P := by
  obtain ⟨t, p, q, xs, e, h1, h2, h3, h4, h5, h6⟩ := h
  exact ⟨t, p, q, xs, e, k.tk _ _ h1, k.keep _ _ h5 h2, h3.keep k, k.keep _ _ h6 h4, h5, h6⟩
def pD (p : Pc) : PyData := .tuple [.int p.1, .list (p.2.map wD)]
def papD (P : Pap) : PyData := .tuple [.list (P.1.map pD), .list (P.2.map PyData.int)]
theorem IsPc.dp {p : Pc} (h : IsPc S H v p) : Dp K H v (pD p) := by
  obtain ⟨t, l, vs, rfl, h1, h2, h3, h4⟩ := h
  exact .tup (SqT.of h1) (.cons (.int _) (.cons (h3.dp (SqL.of h2)) .nil))
theorem Pieces.dpAll {xs : List V} {R : List Pc} (h : Pieces S H xs R) : DpAll K H xs (R.map pD) := by
  unfold Pieces at h
  induction h with
  | nil => exact .nil
  | cons r t ih => exact .cons r.dp ih
theorem ints_dp : ∀ ns : List Int, DpAll K H (ns.map V.int) (ns.map PyData.int)
  | [] => .nil
  | _ :: ns => .cons (.int _) (ints_dp ns)
theorem IsPap.dp {P : Pap} (h : IsPap S H v P) : Dp K H v (papD P) := by
  obtain ⟨t, p, q, xs, rfl, h1, h2, h3, h4, h5, h6⟩ := h
  exact .tup (SqT.of h1) (.cons (.lst (SqL.of h2) h3.dpAll) (.cons (.lst (SqL.of h4) (ints_dp _)) .nil))
theorem pD_lay {p : Pc} (h : ∀ w ∈ p.2, Wok w) : (pD p).canLay0 = true := by
  unfold pD
  simp only [PyData.canLay0, PyData.canLayAll0]
  rw [wDs_lay p.2 h] <;> rfl
theorem pDs_lay : ∀ R : List Pc, (∀ p ∈ R, ∀ w ∈ p.2, Wok w) → PyData.canLayAll0 (R.map pD) = true
  | [], _ => by simp [PyData.canLayAll0]
  | p :: R, h => by
    rw [List.map_cons]
    simp only [PyData.canLayAll0]
    rw [pD_lay (h p List.mem_cons_self), pDs_lay R (fun x hx => h x (List.mem_cons_of_mem _ hx))] <;> rfl
theorem ints_lay : ∀ ns : List Int, PyData.canLayAll0 (ns.map PyData.int) = true
  | [] => by simp [PyData.canLayAll0]
  | n :: ns => by
    rw [List.map_cons]
    simp only [PyData.canLayAll0, PyData.canLay0]
    rw [ints_lay ns] <;> rfl
theorem ints_depth : ∀ ns : List Int, PyData.depthAll (ns.map PyData.int) = 0
  | [] => by simp [PyData.depthAll]
  | n :: ns => by
    rw [List.map_cons]
    simp only [PyData.depthAll, PyData.depth]
    rw [ints_depth ns] <;> rfl
theorem pDs_depth : ∀ R : List Pc, PyData.depthAll (R.map pD) ≤ 3
  | [] => by simp [PyData.depthAll]
  | p :: R => by
    have h := pDs_depth R
    have h2 := wDs_depth p.2
    rw [List.map_cons]
    unfold pD at h ⊢
    simp only [PyData.depthAll, PyData.depth]
    omega
theorem papD_shaped {P : Pap} (h : ∀ p ∈ P.1, ∀ w ∈ p.2, Wok w) : SeqAt.shaped (papD P) = true := by
  have h1 := pDs_depth P.1
  have h2 := ints_depth P.2
  have h3 : (papD P).depth ≤ 64 := by
    unfold papD
    simp only [PyData.depth, PyData.depthAll]
    omega
  show (PyData.canLay0 (papD P) && decide ((papD P).depth ≤ 64)) = true
  rw [decide_eq_true h3, Bool.and_true]
  unfold papD
  simp only [PyData.canLay0, PyData.canLayAll0]
  rw [pDs_lay P.1 h, ints_lay] <;> rfl
theorem ints_shaped (ns : List Int) : SeqAt.shaped (.list (ns.map PyData.int)) = true := by
  have h2 := ints_depth ns
  have h3 : (PyData.list (ns.map PyData.int)).depth ≤ 64 := by
    simp only [PyData.depth]
    omega
  show (PyData.canLay0 (.list (ns.map PyData.int)) && decide ((PyData.list (ns.map PyData.int)).depth ≤ 64)) = true
  rw [decide_eq_true h3, Bool.and_true]
  simp only [PyData.canLay0]
  exact ints_lay ns
end
end Wr

/-! Dicts whose keys are pairs of a whole number and a worth. -/
namespace Wd
open PySem PySem.Spec PyProof.Rows L2 Wp Wq
abbrev KW := Int × W
abbrev NE := KW × Addr × V
def kN (k : KW) : NestedKey := .tup [.num k.1, .tup [.text k.2.1, .num k.2.2]]
theorem kN_inj {a b : KW} (h : kN a = kN b) : a = b := by
  obtain ⟨i, s, n⟩ := a
  obtain ⟨j, t, m⟩ := b
  unfold kN at h
  simp at h
  obtain ⟨h1, h2, h3⟩ := h
  rw [h1, h2, h3]
abbrev NX := NestedKey × Addr × Value
def NR (es : List NE) (xs : List NX) : Prop := Paired (fun (p : NE) (q : NX) => kN p.1 = q.1 ∧ p.2.1 = q.2.1 ∧ RelV p.2.2 q.2.2) es xs
def NRaw (P : Program) (w : World) (a : Addr) (xs : List NX) (h : Heap) : Prop :=
  ∃ o ess ep, h.get? a = some o ∧ o.ExactDict ∧ o.data = .dict ess ep ∧ ess.toList = xs.map (entryOfKey (nestedKind P w)) ∧ (xs.map (·.1)).Nodup
def NO (P : Program) (w : World) (a : Addr) (es : List NE) : HO :=
  .ext fun h => es.length ≤ sizeLine ∧ (a == sysModules) = false ∧ ∃ xs, NR es xs ∧ NRaw P w a xs h
/-- the pair at b is the key k -/
def IsKN (H : Hp) (b : Addr) (k : KW) : Prop := ∃ t, H b = some (.tup [.int k.1, .ref t]) ∧ H t = some (.tup [.str k.2.1, .int k.2.2])
theorem IsKN.keep {H H' : Hp} {b : Addr} {k : KW} (h : IsKN H b k) (s : Tk H H') : IsKN H' b k := by
  obtain ⟨t, h1, h2⟩ := h
  exact ⟨t, s _ _ h1, s _ _ h2⟩
/-- at d stands a dict of these keys and values, in their order -/
def NDict (P : Program) (w : World) (H : Hp) (d : Addr) (kvs : List (KW × V)) : Prop :=
  ∃ es : List NE, H d = some (NO P w d es) ∧ (∀ e ∈ es, IsKN H e.2.1 e.1) ∧ es.map (fun e => (e.1, e.2.2)) = kvs
theorem NDict.keep {P : Program} {w : World} {H H' : Hp} {d : Addr} {kvs : List (KW × V)} (h : NDict P w H d kvs) (k : H' d = H d) (s : Tk H H') : NDict P w H' d kvs := by
  obtain ⟨es, h1, h2, h3⟩ := h
  exact ⟨es, k.trans h1, fun e he => (h2 e he).keep s, h3⟩
theorem NDict.same {P : Program} {w : World} {H H' : Hp} {d : Addr} {kvs : List (KW × V)} (h : NDict P w H d kvs) (s : Same H H') : NDict P w H' d kvs := by
  have ⟨es, h1, h2, h3⟩ := h
  exact h.keep ((s _ _ h1).trans h1.symm) (Same.tk s)
theorem NDict.kp {P : Program} {w : World} {H H' : Hp} {d b : Addr} {bs : List V} {kvs : List (KW × V)} (h : NDict P w H d kvs) (hb : H b = some (.lst bs)) (s : Kp b H H') : NDict P w H' d kvs := by
  have ⟨es, h1, h2, h3⟩ := h
  exact h.keep ((s _ _ (ne_of h1 hb (by intro q; cases q)) h1).trans h1.symm) (Kp.tk s hb)
theorem NDict.isSome {P : Program} {w : World} {H : Hp} {d : Addr} {kvs : List (KW × V)} (h : NDict P w H d kvs) : ∃ o, H d = some o := by
  obtain ⟨es, h1, _⟩ := h
  exact ⟨_, h1⟩
theorem NDict.ne_lst {P : Program} {w : World} {H : Hp} {d a : Addr} {bs : List V} {kvs : List (KW × V)} (h : NDict P w H d kvs) (ha : H a = some (.lst bs)) : d ≠ a := by
  obtain ⟨es, h1, _⟩ := h
  exact ne_of h1 ha (by intro q; cases q)
section
variable {X : Cx} {pins : List (Addr × Obj)} {σ : L2.St} {H : Hp} {s : Shared} {d b : Addr} {k : KW} {es : List NE} {xs : List NX}
theorem key_is (I : Inv X pins σ H s) (h : IsKN H b k) : (nestedKind X.prog X.w).is s.heap (kN k) b := by
  obtain ⟨t, hb, ht⟩ := h
  obtain ⟨_, its, rv, o1, g1, c1, n1, d1⟩ := (show ObjOk X.prog X.w H s.heap b (.tup [.int k.1, .ref t]) from I.hok b _ hb)
  obtain ⟨_, jts, rw', o2, g2, c2, n2, d2⟩ := (show ObjOk X.prog X.w H s.heap t (.tup [.str k.2.1, .int k.2.2]) from I.hok t _ ht)
  cases rv with
  | cons r1 r2 =>
    cases r2 with
    | cons r3 r4 =>
      cases r4
      cases rw' with
      | cons q1 q2 =>
        cases q2 with
        | cons q3 q4 =>
          cases q4
          obtain ⟨t1, rfl⟩ := r1
          cases r3
          obtain ⟨t2, rfl⟩ := q1
          obtain ⟨t3, rfl⟩ := q3
          exact ⟨.tup g1 c1 d1 (.cons (.int _ _) (.cons (.tup g2 c2 d2 (.cons (.text _ _) (.cons (.int _ _) .nil))) .nil)), by simp [kN, NestedKey.depth, NestedKey.depthAll]⟩
theorem no_get (I : Inv X pins σ H s) (h : H d = some (NO X.prog X.w d es)) : es.length ≤ sizeLine ∧ (d == sysModules) = false ∧ ∃ xs, NR es xs ∧ NRaw X.prog X.w d xs s.heap := (I.hok d _ h).1
theorem no_new {P : Program} {w : World} {h : Heap} (z : es.length ≤ sizeLine) (hd : (d == sysModules) = false) (r : NR es xs) (q : NRaw P w d xs h) : ObjOk P w H h d (NO P w d es) := by
  have ⟨o, ess, ep, ho, rest⟩ := q
  refine ⟨⟨z, hd, xs, r, q⟩, ⟨o, ho⟩, fun h1 h2 p k => ?_⟩
  obtain ⟨z, hd, xs, r, o, ess, ep, ho, rest⟩ := p
  exact ⟨z, hd, xs, r, o, ess, ep, k o ho, rest⟩
theorem pgetR {α β : Type} {R : α → β → Prop} : ∀ {l1 : List α} {l2 : List β}, Paired R l1 l2 → ∀ {i : Nat} {y : β}, l2[i]? = some y → ∃ x, l1[i]? = some x ∧ R x y
  | _, _, .nil, i, y, h => by cases i <;> cases h
  | _, _, .cons r t, 0, y, h => by cases h; exact ⟨_, rfl, r⟩
  | _, _, .cons r t, i + 1, y, h => pgetR t h
theorem pgetL {α β : Type} {R : α → β → Prop} : ∀ {l1 : List α} {l2 : List β}, Paired R l1 l2 → ∀ {i : Nat} {x : α}, l1[i]? = some x → ∃ y, l2[i]? = some y ∧ R x y
  | _, _, .nil, i, y, h => by cases i <;> cases h
  | _, _, .cons r t, 0, y, h => by cases h; exact ⟨_, rfl, r⟩
  | _, _, .cons r t, i + 1, y, h => pgetL t h
theorem papp {α β : Type} {R : α → β → Prop} : ∀ {l1 m1 : List α} {l2 m2 : List β}, Paired R l1 l2 → Paired R m1 m2 → Paired R (l1 ++ m1) (l2 ++ m2)
  | _, _, _, _, .nil, k => k
  | _, _, _, _, .cons r t, k => .cons r (papp t k)
theorem no_dict (I : Inv X pins σ H s) (h : H d = some (NO X.prog X.w d es)) (hk : ∀ e ∈ es, IsKN H e.2.1 e.1) : ∃ xs, NR es xs ∧ s.heap.DictOfH (nestedKind X.prog X.w) d xs := by
  obtain ⟨z, hd, xs, r, o, ess, ep, ho, hx, hdat, he, hn⟩ := no_get I h
  refine ⟨xs, r, o, ess, ep, ho, hx, hdat, he, fun x hx => ?_, hn⟩
  obtain ⟨i, hi⟩ := List.mem_iff_getElem?.mp hx
  obtain ⟨e, he, r1, r2, r3⟩ := pgetR r hi
  rw [← r1, ← r2]
  exact key_is I (hk e (List.mem_of_getElem? he))
theorem NR.val (r : NR es xs) (k : KW) : RelO (valV (es.map fun e => (e.1, e.2.2)) k) ((atKey xs (kN k)).map (·.2)) := by
  unfold NR at r
  induction r with
  | nil => trivial
  | @cons p q l1 l2 h t ih =>
    obtain ⟨h1, h2, h3⟩ := h
    rw [List.map_cons]
    by_cases e : p.1 = k
    · have e2 : q.1 = kN k := by rw [← h1, e]
      rw [valV_pos e]
      unfold atKey
      rw [List.find?_cons, decide_eq_true e2]
      exact h3
    · have e2 : ¬ q.1 = kN k := fun c => e (kN_inj (h1.trans c))
      rw [valV_neg e]
      unfold atKey at ih ⊢
      rw [List.find?_cons, decide_eq_false e2]
      exact ih
theorem NR.len (r : NR es xs) : es.length = xs.length := Paired.length r
end
/-! ### a new one -/
section
variable {X : Cx} {P : Program} {w : World} {σ : L2.St} {H : Hp} {Q : VK} {te ta tb to : TE}
theorem no_empty {H : Hp} (h : Heap) (hb : sysModules < h.objs.size) : ObjOk P w H (h.push { cls := .type "dict", data := .dict #[] }) h.objs.size (NO P w h.objs.size []) := by
  obtain ⟨o, es, ep, ho, hx, hdat, he, _, hn⟩ := Heap.DictOfH.new (knd := nestedKind P w) h
  exact no_new (xs := []) (Nat.zero_le _) (by rw [beq_eq_false_iff_ne]; exact Nat.ne_of_gt hb) .nil ⟨o, es, ep, ho, hx, hdat, he, hn⟩
def tNew (P : Program) (w : World) : TE := fun _ H Q => ∀ p, H p = none → Q (.ref p) (upd H p (NO P w p []))
theorem pe_new {pos : Pos} : PE X (.Dict [] [] pos) (tNew X.prog X.w) := ⟨fun pins s σ H Q I h =>
  wpAny_Dict_empty ⟨.ref s.heap.objs.size, _, I.laid (a := s.heap.objs.size) (o := NO X.prog X.w s.heap.objs.size []) (t' := s.toks) (fun _ _ q => Heap.get?_push_of_some _ q) (Nat.le_refl _) (no_empty s.heap I.big), rfl, h _ (I.hok.fresh (Nat.le_refl _))⟩⟩
theorem ndict_new {H : Hp} {p : Addr} : NDict P w (upd H p (NO P w p [])) p [] := ⟨[], upd_same, (fun _ h => nomatch h), rfl⟩
/-! ### d.setdefault((i, worth), v) -/
def rSetD (P : Program) (w : World) : V → List V → Hp → VK → Prop := fun x xs H Q => ∃ (d b : Addr) (k : KW) (v : V) (kvs : List (KW × V)), x = .ref d ∧ xs = [.ref b, v] ∧ NDict P w H d kvs ∧ IsKN H b k ∧ kvs.length < sizeLine ∧
  (∀ u, valV kvs k = some u → Q u H) ∧ (valV kvs k = none → ∀ H', NDict P w H' d (kvs ++ [(k, v)]) → Kp d H H' → Q v H')
theorem mt_setD (hu : X.A.units + 64 < cLine) : MtR X "dict.setdefault" (rSetD X.prog X.w) := by
  intro pins s σ H x xs v us Q I rx rxs h
  obtain ⟨d, b, k, v0, kvs, rfl, rfl, ⟨es, hd, hk, rfl⟩, hb, room, q1, q2⟩ := h
  cases rx
  cases rxs with
  | cons r1 r2 =>
    cases r2 with
    | cons r3 r4 =>
      cases r4
      cases r1
      rename_i v1
      obtain ⟨z, hsys, _⟩ := no_get I hd
      obtain ⟨xs, r, hm⟩ := no_dict I hd hk
      have hv := NR.val r k
      refine call_setdefault_heap (knd := nestedKind X.prog X.w) (k := kN k) (hu := by show X.A.units + 1 + 8 < cLine; omega) (hkey := key_is I hb) (hd := hsys) (hm := hm) (hsz := by rw [← NR.len r]; exact z) (fun p hp => ?_) (fun hn h' hm' hs => ?_)
      · rw [hp] at hv
        cases e : valV (es.map fun e => (e.1, e.2.2)) k with
        | none => rw [e] at hv; exact hv.elim
        | some u =>
          rw [e] at hv
          exact ⟨u, H, I.tok _, hv, q1 u e⟩
      · rw [hn] at hv
        cases e : valV (es.map fun e => (e.1, e.2.2)) k with
        | some u => rw [e] at hv; exact hv.elim
        | none =>
          rw [storedH_new hn] at hm'
          obtain ⟨o, ess, ep, ho, hx, hdat, he, _, hnd⟩ := hm'
          rw [List.length_map] at room
          have rn : NR (es ++ [(k, b, v0)]) (xs ++ [(kN k, b, v1)]) := papp r (.cons ⟨rfl, rfl, r3⟩ .nil)
          have new : ∀ HH, ObjOk X.prog X.w HH h' d (NO X.prog X.w d (es ++ [(k, b, v0)])) := fun HH => no_new (by rw [List.length_append]; exact room) hsys rn ⟨o, ess, ep, ho, hx, hdat, he, hnd⟩
          refine ⟨v0, upd H d (NO X.prog X.w d (es ++ [(k, b, v0)])), d_write I (by rw [hd]; trivial) hs ⟨o, ho⟩ (new _), r3, q2 e _ ⟨_, upd_same, ?_, ?_⟩ Kp.at⟩
          · intro e he
            have tk : Tk H (upd H d (NO X.prog X.w d (es ++ [(k, b, v0)]))) := fun t xs e => by rw [upd_ne (ne_of e hd (by intro q; cases q))]; exact e
            rcases List.mem_append.mp he with he | he
            · exact (hk e he).keep tk
            · rw [List.mem_singleton.mp he]; exact hb.keep tk
          · rw [List.map_append] <;> rfl
def tNM (P : Program) (w : World) (r : V → List V → Hp → VK → Prop) (to : TE) (t : TA) : TE := fun σ H Q => to σ H fun x H1 => (∃ a kvs, x = V.ref a ∧ NDict P w H1 a kvs) ∧ t σ H1 fun xs H2 => r x xs H2 Q
variable {o e : Expr} {es : List Expr} {t : TA} {apos cpos : Pos}
theorem nd_typeIs {pins : List (Addr × Obj)} {H : Hp} {s : Shared} {d : Addr} {kvs : List (KW × V)} (I : Inv X pins σ H s) (g : NDict X.prog X.w H d kvs) : s.TypeIs (.ref d) "dict" := by
  obtain ⟨es, hd, hk, _⟩ := g
  obtain ⟨xs, r, hm⟩ := no_dict I hd hk
  exact hm.typeIs
theorem nd_noDict {pins : List (Addr × Obj)} {H : Hp} {s : Shared} {d : Addr} {kvs : List (KW × V)} (I : Inv X pins σ H s) (g : NDict X.prog X.w H d kvs) :
    ∀ b, Value.ref d = .ref b → ∃ ob, s.heap.get? b = some ob ∧ ob.dict = none := fun b q => by
  cases q
  obtain ⟨es, hd, hk, _⟩ := g
  obtain ⟨xs, r, ob, _, _, h1, h2, _⟩ := no_dict I hd hk
  exact ⟨ob, h1, h2.2.1⟩
theorem pe_setD (hu : X.A.units + 64 < cLine) (ho : PE X o to) (ha : PA X (e :: es) t)
    (hbase : attributeBase o "setdefault" X.env (eval o X.env) = eval o X.env := by rfl)
    (hfew : ((backTo cpos (starEach (e :: es) X.env)).all (fun x => !x.1) && (backToKw cpos (keywordEach [] X.env)).all (fun x => x.1.isSome)
      && decide ((e :: es).length + ([] : List Keyword).length + (if ([] : List Keyword).isEmpty then 0 else 1) < 30)) = true := by rfl)
    (hline : (apos.endLine == cpos.line) = true := by rfl) (hs : starEach (e :: es) X.env = (false, eval e X.env) :: starEach es X.env := by rfl) (hplain : (backTo cpos (starEach es X.env)).any (·.1) = false := by rfl) :
    PE X (.Call (.Attribute o "setdefault" apos) (e :: es) [] cpos) (tNM X.prog X.w (rSetD X.prog X.w) to t) := by
  refine ⟨fun pins s σ H Q I h => ?_⟩
  refine wpAny_Call_method_late hbase hfew hline rfl (thn (ho.run pins s σ H _ I h) fun v s1 ⟨x, H1, I1, r1, ty, q1⟩ => ?_)
  obtain ⟨a, kvs, rfl, hka⟩ := ty
  cases r1
  refine ⟨"dict", "dict.setdefault", F.plainAttrs_dict, F.slot_dict_setdefault, F.type_dict_setdefault, nd_typeIs I1 hka, nd_noDict I1 hka, ?_⟩
  have hA := ha.run cpos pins s1 σ H1 _ I1 q1
  rw [hs] at hA ⊢
  refine Calls.callWith_builtin (by show (false || (backTo cpos (starEach es X.env)).any (·.1)) = false; rw [hplain] <;> rfl) (Calls.evalArgs_plain ?_)
  exact thn hA fun us s2 ⟨vs, H2, I2, r2, q2⟩ => mt_setD hu pins s2 σ H2 (.ref a) vs (.ref a) us Q I2 rfl r2 q2
/-! ### d[(i, worth)], len(d), k in d -/
def rIxN (P : Program) (w : World) : R2 := fun x y H Q => ∃ (d b : Addr) (k : KW) (kvs : List (KW × V)) (u : V), x = .ref d ∧ y = .ref b ∧ NDict P w H d kvs ∧ IsKN H b k ∧ valV kvs k = some u ∧ Q u H
def tNGet (P : Program) (w : World) (td ty : TE) : TE := fun σ H Q => td σ H fun x H1 => ty σ H1 fun y H2 => rIxN P w x y H2 Q
theorem call_lenN : CallR X (.builtin "len") (fun xs H Q => ∃ a kvs, xs = [V.ref a] ∧ NDict X.prog X.w H a kvs ∧ Q (.int kvs.length) H) := by
  intro pins s σ H xs us Q I r h
  obtain ⟨a, kvs, rfl, ha, q⟩ := h
  obtain ⟨u, rfl, ru⟩ := vals1 r
  cases ru
  have hT := nd_typeIs I ha
  obtain ⟨es, hd, hk, rfl⟩ := ha
  obtain ⟨z, hsys, _⟩ := no_get I hd
  obtain ⟨xs, r, hm⟩ := no_dict I hd hk
  have el := NR.len r
  refine call_len_slot (n := xs.length) hT F.slot_dict_len (fun Q' hq => len_keyed (kvs := pairsH xs) hsys ⟨xs, hm, rfl⟩ (by rw [pairsH_length]; exact hq)) (by omega) (by rw [sizeLine_eq] at z; omega) ?_
  rw [← el, List.length_map] at *
  exact ⟨.int es.length, H, (I.tok _).tok _, ⟨_, rfl⟩, q⟩
variable {i : Expr} {td ty : TE} {pos : Pos}
theorem pe_nget (hu : X.A.units + 64 < cLine) (ho : PE X o td) (hi : PE X i ty) (hs : NoSl i) : PE X (.Subscript o i pos) (tNGet X.prog X.w td ty) := by
  refine ⟨fun pins s σ H Q I h => ?_⟩
  refine subD_of PySem.F.slot_dict_getitem.lookup hs (thn (ho.run pins s σ H _ I h) fun u s1 ⟨x, H1, I1, rx, q1⟩ => thn (hi.run pins s1 σ H1 _ I1 q1) fun iv s2 ⟨y, H2, I2, ry, d, b, k, kvs, v, ex, ey, g, hb, hv, q2⟩ => ?_)
  subst ex ey
  obtain rfl : u = Value.ref d := rx
  obtain rfl : iv = Value.ref b := ry
  refine ⟨nd_typeIs I2 g, ?_⟩
  obtain ⟨es, hd, hk, rfl⟩ := g
  obtain ⟨xs, r, hm⟩ := no_dict I2 hd hk
  have hr := NR.val r k
  rw [hv] at hr
  cases e : atKey xs (kN k) with
  | none => rw [e] at hr; exact hr.elim
  | some p =>
    rw [e] at hr
    refine wpAny_getItem_heap (knd := nestedKind X.prog X.w) (hu := by show X.A.units + 1 + 8 < cLine; omega) (hkey := key_is I2 hb) (hm := hm) (hp := e) ?_
    exact ⟨v, H2, I2.tok _, hr, q2⟩
/-! ### for pair in d: the dict is locked -/
def NDictF (P : Program) (w : World) (H : Hp) (d : Addr) (o : Obj) (es : List NE) : Prop := H d = some (.frz o (NO P w d es))
def Itn (P : Program) (w : World) (d : Addr) (o : Obj) (es : List NE) : It :=
  ⟨fun i H => NDictF P w H d o es ∧ i < es.length, fun i H x H' => H' = H ∧ ∃ e, es[i]? = some e ∧ x = .ref e.2.1, fun i H => NDictF P w H d o es ∧ es.length ≤ i⟩
theorem frzN {pins : List (Addr × Obj)} {H : Hp} {s : Shared} {d : Addr} {o : Obj} {es : List NE} (I : Inv X pins σ H s) (h : NDictF X.prog X.w H d o es) :
    (d == sysModules) = false ∧ s.heap.get? d = some o ∧ o.ExactDict ∧ ∃ (ess : Array DictEntry) (ep : Nat), o.data = .dict ess ep ∧ ess.size = es.length ∧
      ∀ (i : Nat) (e : NE), es[i]? = some e → ∃ (en : DictEntry), ess[i]? = some en ∧ en.key = .ref e.2.1 := by
  obtain ⟨hg, z⟩ := I.hok d _ h
  obtain ⟨z, hsys, xs, r, o', ess, ep, ho, hx, hdt, he, hn⟩ := (show ObjOk X.prog X.w H s.heap d (NO X.prog X.w d es) from z).1
  rw [hg] at ho
  cases ho
  refine ⟨hsys, hg, hx, ess, ep, hdt, ?_, fun i e hi => ?_⟩
  · have l1 : ess.size = xs.length := size_of_entries he
    have l2 := NR.len r
    omega
  · obtain ⟨x, hx, r1, r2, r3⟩ := pgetL r hi
    have q := entry_at he i
    rw [hx] at q
    exact ⟨_, q, by rw [r2] <;> rfl⟩
theorem turn_keysN {P : Program} {w : World} {K : PySem.W.Frag} {tg : Expr} {d : Addr} {o : Obj} {ess : Array DictEntry} {ep : Nat} {es : List NE} (it : Addr) (hod : o.data = .dict ess ep) : Turn P w K tg (Itn P w d o es) [it] it (fun i h => h.IsKeyIter it d i es.length ep) where
  mem := by simp
  obj := fun i h st b hb => by
    have e : b = it := by simpa using hb
    subst e
    obtain ⟨oi, e, c, dd⟩ := st
    exact ⟨oi, e, fun v z => by rw [dd] at z; cases z⟩
  keep := fun i h h' st k => st.at fun oi e => k it (by simp) oi e
  item := by
    intro X hP hw hK hc i pins s σ H E I hf st hg
    subst hP hw hK
    obtain ⟨hd, hi⟩ := hg
    obtain ⟨f0, f1, f2, f3, f4, f5⟩ := hf it (by simp)
    obtain ⟨hs, hgd, hx, es', ep', hdt, hsz, ent⟩ := frzN I hd
    obtain ⟨rfl, rfl⟩ := dict_ep hod hdt
    obtain ⟨e0, he0⟩ : ∃ p, es[i]? = some p := ⟨es[i], List.getElem?_eq_getElem hi⟩
    obtain ⟨en, hen, hkey⟩ := ent i e0 he0
    refine next_key_item st hgd hdt hsz hen fun h' st' sb => ?_
    have I1 : Inv X pins σ H { s with heap := h' } := I.turned (t' := s.toks) (fun b ob hb e => (sb.2 b hb).trans e) f0 f1 f3 f4 f5
    obtain ⟨oi, e, c, dd⟩ := id st'
    exact ⟨en.key, rfl, go_of (s := { s with heap := h' }) e c dd (by decide) ⟨.ref e0.2.1, H, I1, hkey, ⟨rfl, e0, he0, rfl⟩, st', fun b hb => (hf b hb).1⟩⟩
  done := by
    intro X hP hw hK hc i pins s σ H E I hf st hg
    subst hP hw hK
    obtain ⟨hd, hi⟩ := hg
    obtain ⟨f0, f1, f2, f3, f4, f5⟩ := hf it (by simp)
    obtain ⟨hs, hgd, hx, es', ep', hdt, hsz, ent⟩ := frzN I hd
    obtain ⟨rfl, rfl⟩ := dict_ep hod hdt
    exact next_key_end (I.ok.hd hc) st hgd hdt hsz hi fun h' eb => ⟨rfl, I.turned (t' := s.toks) (fun b ob hb e => eb b ob hb e) f0 f1 f3 f4 f5⟩
  self := fun A i s Q E st h => by
    refine wpAny_pyIter_slot st.typeIs F.slot_dict_keyiterator_iter (wpAny_call_entry F.slot_dict_keyiterator_iter st.typeIs F.entry_dict_keyiterator_iter ?_ (F.args_dict_keyiterator_iter_1 _))
    show wpAny _ _ (ret (.ref it)) _ _ s
    exact wpAny_pure ⟨_, rfl, "dict_keyiterator", _, st.typeIs, F.slot_dict_keyiterator_next.lookup, h⟩
def iKeysN (P : Program) (w : World) (td : TE) : TI := fun σ H R => td σ H fun x H1 => ∃ d o es, x = .ref d ∧ NDictF P w H1 d o es ∧ R (Itn P w d o es) H1
theorem pi_keysN {tg e : Expr} {td : TE} (he : PE X e td) : PI X tg e (iKeysN X.prog X.w td) := by
  refine ⟨fun pins s σ H R I h => ?_⟩
  refine thn (he.run pins s σ H _ I h) fun u s1 ⟨x, H1, I1, rx, d, o, es, ex, hd, q⟩ => ?_
  subst ex
  obtain rfl : u = Value.ref d := rx
  obtain ⟨hs, hgd, hx, ess, ep, hdt, hsz, ent⟩ := frzN I1 hd
  refine iter_keys hs hgd hx hdt (pi_one (tk := s1.toks) I1 _ (turn_keysN _ hdt) ⟨_, Heap.get?_push_size _ rfl, rfl, ?_⟩ q)
  rw [hsz] <;> rfl
end
section
variable {P : Program} {w : World} {r : V → List V → Hp → VK → Prop} {to td ty : TE} {t : TA} {σ : L2.St} {H : Hp} {Q : VK} {R : It → Hp → Prop}
theorem nm (h : to σ H fun x H1 => (∃ a kvs, x = V.ref a ∧ NDict P w H1 a kvs) ∧ t σ H1 fun xs H2 => r x xs H2 Q) : tNM P w r to t σ H Q := h
theorem nget (h : td σ H fun x H1 => ty σ H1 fun y H2 => rIxN P w x y H2 Q) : tNGet P w td ty σ H Q := h
theorem tnew (h : ∀ p, H p = none → Q (.ref p) (upd H p (NO P w p []))) : tNew P w σ H Q := h
theorem pikn (h : td σ H fun x H1 => ∃ d o es, x = .ref d ∧ NDictF P w H1 d o es ∧ R (Itn P w d o es) H1) : iKeysN P w td σ H R := h
end
end Wd

/-! sorted of anything that reads as data. -/
namespace Ws
open PySem PySem.Spec PyProof.Rows L2 Wp Wq
abbrev VD := V × PyData
def leD (a b : VD) : Bool := PySem.W.dataLe false (fun x : VD => x.2) a b
def rSortD (K : PySem.W.Frag) : List V → Hp → VK → Prop := fun vs H Q => ∃ (a : Addr) (bs : List VD), vs = [.ref a] ∧ SqL K H a (bs.map (·.1)) ∧ (∀ b ∈ bs, Dp K H b.1 b.2) ∧ PySem.W.AllAlike (bs.map (·.2)) ∧ PySem.W.Sortable (bs.map (·.2)) ∧ (∀ b ∈ bs, b.2.depth ≤ 60) ∧
  ∀ p, H p = none → Q (.ref p) (upd H p (.lst ((bs.mergeSort leD).map (·.1))))
section
variable {X : Cx}
theorem each_rel : ∀ {bs : List VD} {its : List Value}, Vals (bs.map (·.1)) its → PySem.W.EachIs (fun (v : Value) (b : VD) => RelV b.1 v) its bs
  | [], _, h => by cases h; exact .nil
  | b :: bs, _, h => by
    cases h with
    | cons r t => exact .cons r (each_rel t)
theorem rel_each : ∀ {bs : List VD} {its : List Value}, PySem.W.EachIs (fun (v : Value) (b : VD) => RelV b.1 v) its bs → Vals (bs.map (·.1)) its
  | [], _, h => by cases h; exact .nil
  | b :: bs, _, h => by
    cases h with
    | cons r t => exact .cons r (rel_each t)
theorem each_reads {pins : List (Addr × Obj)} {σ : L2.St} {H : Hp} {s : Shared} (I : Inv X pins σ H s) : ∀ {bs : List VD} {its : List Value}, Vals (bs.map (·.1)) its → (∀ b ∈ bs, Dp X.K H b.1 b.2) → PySem.W.EachIs (fun (v : Value) (b : VD) => ∃ as, Reads s.heap v b.2 as) its bs
  | [], _, h, _ => by cases h; exact .nil
  | b :: bs, _, h, d => by
    cases h with
    | cons r t => exact .cons (Dp.reads I _ _ _ (d b List.mem_cons_self) r) (each_reads I t fun x hx => d x (List.mem_cons_of_mem _ hx))
theorem cr_sortD (hu : X.A.units + 64 < cLine) : CallR X (.builtin "sorted") (rSortD X.K) := by
  intro pins s σ H vs us Q I r h
  obtain ⟨a, bs, rfl, hs, hd, hal, hk, hdep, q⟩ := h
  obtain ⟨its, rv, hl, hz⟩ := I.list hs
  rw [Vals.ref1 r]
  rw [List.length_map] at hz
  refine PySem.W.sorted_data (enc := fun x : VD => x.2) (vs := its) hl.isList (each_rel rv) (each_reads I rv hd) hal hk hz (fun b hb => by have := hdep b hb; show X.A.units + 2 + b.2.depth < cLine; omega) fun out h1 h2 => ?_
  obtain ⟨ep, he'⟩ := PyProof.Rows.sortedAll_at s.heap its out.toArray
  have hlen : ((bs.mergeSort leD).map (·.1)).length ≤ sizeLine := by
    rw [List.length_map, List.length_mergeSort]
    exact hz
  exact ⟨.ref _, upd H (s.heap.objs.size + 1) (.lst ((bs.mergeSort leD).map (·.1))), I.laid (t' := s.toks) (fun _ _ => PyProof.Rows.sortedAll_old) (Nat.le_succ _) ⟨hlen, out, ep, rel_each h2, he'⟩, rfl, q _ (I.hok.fresh (Nat.le_succ _))⟩
end
end Ws

/-! Beginnings of piles: the dict's mirror, and how sorted piles count them. -/
namespace Wk
open PySem PySem.Spec PyProof.Rows L2 Wp Wq Wr Wd
def ins (T : List (List W)) (q : List W) : List (List W) := if q ∈ T then T else T ++ [q]
def begs (p : List W) (j : Nat) : List (List W) := (List.range j).map fun n => p.take (n + 1)
def insPile (T : List (List W)) (p : List W) : List (List W) := (begs p p.length).foldl ins T
def trie (ps : List (List W)) : List (List W) := ps.foldl insPile []
theorem begs_succ (p : List W) (j : Nat) : begs p (j + 1) = begs p j ++ [p.take (j + 1)] := by
  unfold begs
  rw [List.range_succ, List.map_append] <;> rfl
theorem mem_ins {T : List (List W)} {q x : List W} : x ∈ ins T q ↔ x ∈ T ∨ x = q := by
  unfold ins
  split
  · rename_i h
    exact ⟨.inl, fun k => k.elim id fun e => e ▸ h⟩
  · rw [List.mem_append, List.mem_singleton]
theorem mem_foldl {x : List W} : ∀ {qs T : List (List W)}, x ∈ qs.foldl ins T ↔ x ∈ T ∨ x ∈ qs
  | [], T => by simp
  | q :: qs, T => by
    rw [List.foldl_cons, mem_foldl (qs := qs), mem_ins, List.mem_cons]
    exact ⟨fun h => by rcases h with (h | h) | h <;> simp [h], fun h => by rcases h with h | h | h <;> simp [h]⟩
theorem mem_begs {p x : List W} {j : Nat} : x ∈ begs p j ↔ ∃ n, n < j ∧ x = p.take (n + 1) := by
  unfold begs
  rw [List.mem_map]
  exact ⟨fun ⟨n, h, e⟩ => ⟨n, List.mem_range.mp h, e.symm⟩, fun ⟨n, h, e⟩ => ⟨n, List.mem_range.mpr h, e.symm⟩⟩
theorem mem_insPile {T : List (List W)} {p x : List W} : x ∈ insPile T p ↔ x ∈ T ∨ ∃ n, n < p.length ∧ x = p.take (n + 1) := by
  unfold insPile
  rw [mem_foldl, mem_begs]
theorem mem_trie' {x : List W} : ∀ {ps T : List (List W)}, x ∈ ps.foldl insPile T ↔ x ∈ T ∨ ∃ p ∈ ps, ∃ n, n < p.length ∧ x = p.take (n + 1)
  | [], T => by simp
  | p :: ps, T => by
    rw [List.foldl_cons, mem_trie' (ps := ps), mem_insPile]
    constructor
    · rintro ((h | ⟨n, h1, h2⟩) | ⟨p', hp, n, h1, h2⟩)
      · exact .inl h
      · exact .inr ⟨p, List.mem_cons_self, n, h1, h2⟩
      · exact .inr ⟨p', List.mem_cons_of_mem _ hp, n, h1, h2⟩
    · rintro (h | ⟨p', hp, n, h1, h2⟩)
      · exact .inl (.inl h)
      · rcases List.mem_cons.mp hp with rfl | hp
        · exact .inl (.inr ⟨n, h1, h2⟩)
        · exact .inr ⟨p', hp, n, h1, h2⟩
theorem mem_trie {x : List W} {ps : List (List W)} : x ∈ trie ps ↔ ∃ p ∈ ps, ∃ n, n < p.length ∧ x = p.take (n + 1) := by
  unfold trie
  rw [mem_trie']
  simp
theorem ins_old {T : List (List W)} {q : List W} (h : q ∈ T) : ins T q = T := if_pos h
theorem ins_new {T : List (List W)} {q : List W} (h : q ∉ T) : ins T q = T ++ [q] := if_neg h
theorem ins_nodup {T : List (List W)} {q : List W} (h : T.Nodup) : (ins T q).Nodup := by
  unfold ins
  split
  · exact h
  · rename_i c
    rw [List.nodup_append]
    refine ⟨h, List.nodup_cons.mpr ⟨List.not_mem_nil, List.nodup_nil⟩, fun a ha b hb e => c ?_⟩
    rw [List.mem_singleton] at hb
    rw [← hb, ← e]
    exact ha
theorem foldl_nodup : ∀ {qs T : List (List W)}, T.Nodup → (qs.foldl ins T).Nodup
  | [], _, h => h
  | q :: qs, _, h => foldl_nodup (qs := qs) (ins_nodup h)
theorem trie_nodup' : ∀ {ps T : List (List W)}, T.Nodup → (ps.foldl insPile T).Nodup
  | [], _, h => h
  | p :: ps, _, h => trie_nodup' (ps := ps) (foldl_nodup h)
theorem trie_nodup (ps : List (List W)) : (trie ps).Nodup := trie_nodup' List.nodup_nil
/-- only which piles there are counts -/
theorem trie_len_perm {ps qs : List (List W)} (h : ∀ p, p ∈ ps ↔ p ∈ qs) : (trie ps).length = (trie qs).length := by
  refine ((List.perm_ext_iff_of_nodup (trie_nodup ps) (trie_nodup qs)).mpr fun x => ?_).length_eq
  rw [mem_trie, mem_trie]
  exact ⟨fun ⟨p, hp, r⟩ => ⟨p, (h p).mp hp, r⟩, fun ⟨p, hp, r⟩ => ⟨p, (h p).mpr hp, r⟩⟩
/-! ### sorted piles -/
def lcp : List W → List W → Nat
  | x :: xs, y :: ys => if x = y then lcp xs ys + 1 else 0
  | _, _ => 0
theorem lcp_cons (x y : W) (xs ys : List W) : lcp (x :: xs) (y :: ys) = if x = y then lcp xs ys + 1 else 0 := rfl
theorem lcp_le : ∀ (a b : List W), lcp a b ≤ b.length ∧ lcp a b ≤ a.length
  | [], b => by unfold lcp; exact ⟨Nat.zero_le _, Nat.zero_le _⟩
  | x :: xs, [] => by unfold lcp; exact ⟨Nat.zero_le _, Nat.zero_le _⟩
  | x :: xs, y :: ys => by
    have h := lcp_le xs ys
    rw [lcp_cons]
    split
    · rw [List.length_cons, List.length_cons]; omega
    · exact ⟨Nat.zero_le _, Nat.zero_le _⟩
theorem take_pre : ∀ (a b : List W) (n : Nat), n ≤ b.length → (b.take n <+: a ↔ n ≤ lcp a b)
  | a, b, 0, _ => by simp
  | [], y :: ys, n + 1, h => by
    rw [List.take_succ_cons]
    unfold lcp
    simp
  | x :: xs, y :: ys, n + 1, h => by
    rw [List.take_succ_cons, List.cons_prefix_cons, take_pre xs ys n (by rw [List.length_cons] at h; omega), lcp_cons]
    by_cases e : x = y
    · subst e
      rw [if_pos rfl]
      simp
    · rw [if_neg e]
      constructor
      · rintro ⟨e2, _⟩
        exact absurd e2.symm e
      · intro q
        omega
  | a, [], n + 1, h => by simp at h
theorem lcp_nil (b : List W) : lcp [] b = 0 := by unfold lcp; rfl
/-- how many are new -/
theorem insPile_len {T : List (List W)} {p : List W} {m : Nat} (hm : m ≤ p.length) (h : ∀ n, n < p.length → (p.take (n + 1) ∈ T ↔ n + 1 ≤ m)) : (insPile T p).length = T.length + (p.length - m) := by
  unfold insPile
  have go : ∀ j, j ≤ p.length → ((begs p j).foldl ins T).length = T.length + (j - m) := by
    intro j
    induction j with
    | zero => intro _; unfold begs; simp
    | succ j ih =>
      intro hj
      have ih := ih (by omega)
      rw [begs_succ, List.foldl_append]
      show (ins ((begs p j).foldl ins T) (p.take (j + 1))).length = _
      have mem : p.take (j + 1) ∈ (begs p j).foldl ins T ↔ j + 1 ≤ m := by
        rw [mem_foldl, mem_begs, h j (by omega)]
        constructor
        · rintro (q | ⟨n, hn, e⟩)
          · exact q
          · have := congrArg List.length e
            rw [List.length_take, List.length_take] at this
            omega
        · exact .inl
      by_cases c : p.take (j + 1) ∈ (begs p j).foldl ins T
      · have := mem.mp c
        rw [ins_old c]
        omega
      · have : ¬ j + 1 ≤ m := fun q => c (mem.mpr q)
        rw [ins_new c, List.length_append]
        show _ + 1 = _
        omega
  exact go _ (Nat.le_refl _)
def ltW (x y : W) : Bool := PySem.W.dataLt (wD x) (wD y)
def ltR (x y : List W) : Bool := PySem.W.rowLt (x.map wD) (y.map wD)
theorem alikeW (x y : W) : PySem.W.alike (wD x) (wD y) = true := by
  unfold wD
  simp [PySem.W.alike, PySem.W.alikeAll]
theorem ltR_nil (y : W) (ys : List W) : ltR [] (y :: ys) = true := by
  unfold ltR PySem.W.rowLt
  rw [List.map_nil, List.map_cons, PySem.W.toks_all_cons]
  simp only [PySem.W.keyToksAll]
  rw [lex_diff (O := itemOrd) (by simp)]
  rfl
theorem ltR_cons (x y : W) (xs ys : List W) : ltR (x :: xs) (y :: ys) = if x = y then ltR xs ys else ltW x y := by
  unfold ltR PySem.W.rowLt
  rw [List.map_cons, List.map_cons, PySem.W.dataLt_cons (alikeW x y), wD_eqv]
  by_cases e : x = y
  · rw [if_pos (decide_eq_true e), if_pos e]
  · rw [if_neg (by rw [decide_eq_false e]; exact Bool.false_ne_true), if_neg e]
    rfl
theorem ltW_tri {x y : W} (h : x ≠ y) (h1 : ltW x y = false) : ltW y x = true := by
  obtain ⟨s, n⟩ := x
  obtain ⟨t, m⟩ := y
  unfold ltW wD at *
  rw [PySem.W.dataLt_pair (by simp [PySem.W.alike]) (by simp [PySem.W.alike])] at *
  simp only [PyData.eqv, PySem.W.dataLt_str, PySem.W.dataLt_int, beq_iff_eq] at *
  by_cases e : s = t
  · subst e
    rw [if_pos rfl] at *
    by_cases e2 : n = m
    · subst e2
      exact absurd rfl h
    · rw [if_neg e2] at h1
      rw [if_neg (fun q => e2 q.symm)]
      rw [decide_eq_false_iff_not] at h1
      rw [decide_eq_true_eq]
      omega
  · rw [if_neg e] at h1
    rw [if_neg (fun q => e q.symm)]
    rw [decide_eq_false_iff_not] at h1
    rw [decide_eq_true_eq]
    by_cases q : t.cps.toList < s.cps.toList
    · exact q
    · exact absurd (Str.ext' (Array.toList_inj.mp (List.le_antisymm (List.not_lt.mp q) (List.not_lt.mp h1)))) e
/-- a beginning of the one ahead and of the one behind is one of those between -/
theorem mid_pre : ∀ {q a b c : List W}, ltR b a = false → ltR c b = false → q <+: a → q <+: c → q <+: b
  | [], _, _, _, _, _, _, _ => List.nil_prefix
  | z :: q, a, b, c, h1, h2, pa, pc => by
    cases a with
    | nil => simp at pa
    | cons x xs =>
      cases c with
      | nil => simp at pc
      | cons y ys =>
        rw [List.cons_prefix_cons] at pa pc
        obtain ⟨rfl, pa⟩ := pa
        obtain ⟨rfl, pc⟩ := pc
        cases b with
        | nil => rw [ltR_nil] at h1; cases h1
        | cons w ws =>
          rw [ltR_cons] at h1 h2
          by_cases e : w = z
          · subst e
            rw [if_pos rfl] at h1 h2
            rw [List.cons_prefix_cons]
            exact ⟨rfl, mid_pre h1 h2 pa pc⟩
          · rw [if_neg e] at h1
            rw [if_neg (fun q => e q.symm)] at h2
            rw [ltW_tri e h1] at h2
            cases h2
theorem ltR_irrefl (a : List W) : ltR a a = false := lex_irrefl _
/-- as the law counts -/
def sumL : List W → List (List W) → Nat
  | _, [] => 0
  | prev, p :: ps => (p.length - lcp prev p) + sumL p ps
theorem trie_snoc (l : List (List W)) (p : List W) : trie (l ++ [p]) = insPile (trie l) p := by
  unfold trie
  rw [List.foldl_append] <;> rfl
theorem trie_step {l : List (List W)} {prev p : List W} (hl : (l = [] ∧ prev = []) ∨ (prev ∈ l ∧ ∀ a ∈ l, ltR prev a = false)) (hp : ltR p prev = false) :
    (trie (l ++ [p])).length = (trie l).length + (p.length - lcp prev p) := by
  rw [trie_snoc]
  refine insPile_len (lcp_le prev p).1 fun n hn => ?_
  rw [mem_trie, ← take_pre prev p (n + 1) hn]
  constructor
  · rintro ⟨a, ha, k, hk, e⟩
    have e2 : p.take (n + 1) <+: a := by rw [e]; exact List.take_prefix _ _
    rcases hl with ⟨rfl, _⟩ | ⟨_, hl⟩
    · cases ha
    · exact mid_pre (hl a ha) hp e2 (List.take_prefix _ _)
  · intro h
    rcases hl with ⟨_, rfl⟩ | ⟨hm, _⟩
    · have := List.prefix_nil.mp h
      have := congrArg List.length this
      rw [List.length_take, List.length_nil] at this
      omega
    · refine ⟨prev, hm, n, ?_, ?_⟩
      · have := h.length_le
        rw [List.length_take] at this
        omega
      · have e := List.prefix_iff_eq_take.mp h
        rw [List.length_take, Nat.min_eq_left (by omega)] at e
        exact e
theorem sum_trie : ∀ {r l : List (List W)} {prev : List W}, ((l = [] ∧ prev = []) ∨ (prev ∈ l ∧ ∀ a ∈ l, ltR prev a = false)) → (l ++ r).Pairwise (fun a b => ltR b a = false) → (∀ p ∈ r, ltR p prev = false) →
    (trie (l ++ r)).length = (trie l).length + sumL prev r
  | [], l, prev, _, _, _ => by rw [List.append_nil]; rfl
  | p :: r, l, prev, hl, hs, hr => by
    have hp := hr p List.mem_cons_self
    have h1 := trie_step hl hp
    have es : l ++ p :: r = (l ++ [p]) ++ r := by rw [List.append_assoc] <;> rfl
    rw [es] at hs ⊢
    have hs' := List.pairwise_append.mp hs
    have hs2 := List.pairwise_append.mp hs'.1
    rw [sum_trie (l := l ++ [p]) (prev := p) (.inr ⟨List.mem_append_right _ List.mem_cons_self, fun a ha => ?_⟩) hs fun q hq => hs'.2.2 p (List.mem_append_right _ List.mem_cons_self) q hq, h1]
    · show _ + _ + _ = _ + ((p.length - lcp prev p) + sumL p r)
      omega
    · rcases List.mem_append.mp ha with ha | ha
      · exact hs2.2.2 a ha p List.mem_cons_self
      · rw [List.mem_singleton.mp ha]
        exact ltR_irrefl p
theorem ltR_nil_r (p : List W) : ltR p [] = false := by
  cases p with
  | nil => exact ltR_irrefl _
  | cons x xs =>
    unfold ltR PySem.W.rowLt
    rw [List.map_nil, List.map_cons, PySem.W.toks_all_cons]
    simp only [PySem.W.keyToksAll]
    rw [lex_diff (O := itemOrd) (by simp)]
    rfl
theorem sorted_sum {ps qs : List (List W)} (hp : qs.Perm ps) (hs : qs.Pairwise (fun a b => ltR b a = false)) : sumL [] qs = (trie ps).length := by
  have h := sum_trie (r := qs) (l := []) (prev := []) (.inl ⟨rfl, rfl⟩) hs (fun p _ => ltR_nil_r p)
  rw [trie_len_perm (ps := ps) (qs := qs) (fun p => hp.symm.mem_iff)]
  rw [List.nil_append] at h
  rw [h]
  show _ = 0 + _
  omega
end Wk

/-! The program's dict of beginnings, as a mirror of the trie. -/
namespace Wk
open PySem PySem.Spec PyProof.Rows L2 Wp Wq Wr Wd
def numOf (T : List (List W)) (q : List W) : Nat := if q = [] then 0 else T.idxOf q + 1
def lastW (q : List W) : W := q.getLast?.getD (Str.empty, 0)
def entT (T : List (List W)) (q : List W) : KW × V := ((((numOf T q.dropLast : Nat) : Int), lastW q), V.int ((numOf T q : Nat) : Int))
def kvsT (T : List (List W)) : List (KW × V) := T.map (entT T)
structure TOk (T : List (List W)) : Prop where
  nd : T.Nodup
  ne : ∀ q ∈ T, q ≠ []
  cl : ∀ q ∈ T, q.dropLast = [] ∨ q.dropLast ∈ T
theorem TOk.nil : TOk [] := ⟨List.nodup_nil, (fun _ h => nomatch h), (fun _ h => nomatch h)⟩
theorem numOf_nil (T : List (List W)) : numOf T [] = 0 := if_pos rfl
theorem numOf_mem {T : List (List W)} {q : List W} (h : q ≠ []) : numOf T q = T.idxOf q + 1 := if_neg h
theorem numOf_inj {T : List (List W)} {a b : List W} (ha : a = [] ∨ a ∈ T) (hb : b = [] ∨ b ∈ T) (e : numOf T a = numOf T b) : a = b := by
  by_cases ca : a = []
  · by_cases cb : b = []
    · rw [ca, cb]
    · rw [ca, numOf_nil, numOf_mem cb] at e
      omega
  · by_cases cb : b = []
    · rw [cb, numOf_nil, numOf_mem ca] at e
      omega
    · rw [numOf_mem ca, numOf_mem cb] at e
      have ha := ha.resolve_left ca
      have hb := hb.resolve_left cb
      have h1 := List.getElem_idxOf (List.idxOf_lt_length_of_mem ha)
      have h2 := List.getElem_idxOf (List.idxOf_lt_length_of_mem hb)
      have e' : T.idxOf a = T.idxOf b := by omega
      rw [← h1, ← h2]
      simp only [e']
theorem numOf_app {T : List (List W)} {q x : List W} (h : q = [] ∨ q ∈ T) : numOf (T ++ [x]) q = numOf T q := by
  by_cases c : q = []
  · rw [c, numOf_nil, numOf_nil]
  · have h := h.resolve_left c
    rw [numOf_mem c, numOf_mem c, List.idxOf_append, if_pos h]
theorem numOf_new {T : List (List W)} {x : List W} (h : x ∉ T) (c : x ≠ []) : numOf (T ++ [x]) x = T.length + 1 := by
  rw [numOf_mem c, List.idxOf_append, if_neg h]
  simp
theorem lastW_app (p : List W) (z : W) : lastW (p ++ [z]) = z := by
  unfold lastW
  simp
theorem drop_last {q : List W} (h : q ≠ []) : q.dropLast ++ [lastW q] = q := by
  have e := List.dropLast_concat_getLast h
  unfold lastW
  rw [List.getLast?_eq_some_getLast h]
  exact e
theorem valV_none {T : List (List W)} {f : List W → KW × V} {k : KW} (h : ∀ q ∈ T, (f q).1 ≠ k) : valV (T.map f) k = none := by
  induction T with
  | nil => rfl
  | cons q T ih =>
    rw [List.map_cons, valV_neg (h q List.mem_cons_self)]
    exact ih fun x hx => h x (List.mem_cons_of_mem _ hx)
theorem valV_some {T : List (List W)} {f : List W → KW × V} {k : KW} {q : List W} (hq : q ∈ T) (h : ∀ x ∈ T, (f x).1 = k ↔ x = q) : valV (T.map f) k = some (f q).2 := by
  induction T with
  | nil => cases hq
  | cons x T ih =>
    rw [List.map_cons]
    by_cases c : (f x).1 = k
    · have e := (h x List.mem_cons_self).mp c
      subst e
      exact valV_pos c
    · rw [valV_neg c]
      have hx : q ∈ T := by
        rcases List.mem_cons.mp hq with e | e
        · subst e
          exact absurd ((h q List.mem_cons_self).mpr rfl) c
        · exact e
      exact ih hx fun y hy => h y (List.mem_cons_of_mem _ hy)
theorem key_iff {T : List (List W)} (h : TOk T) {p q : List W} {z : W} (hp : p = [] ∨ p ∈ T) (hq : q ∈ T) : (entT T q).1 = (((numOf T p : Nat) : Int), z) ↔ q = p ++ [z] := by
  constructor
  · intro e
    have e1 : ((numOf T q.dropLast : Nat) : Int) = ((numOf T p : Nat) : Int) := congrArg Prod.fst e
    have e2 : lastW q = z := congrArg Prod.snd e
    have e3 := numOf_inj (h.cl q hq) hp (by omega)
    rw [← drop_last (h.ne q hq), e3, e2]
  · rintro rfl
    unfold entT
    rw [List.dropLast_concat, lastW_app]
theorem step_old {T : List (List W)} (h : TOk T) {p : List W} {z : W} (hp : p = [] ∨ p ∈ T) (hq : p ++ [z] ∈ T) : valV (kvsT T) (((numOf T p : Nat) : Int), z) = some (.int ((numOf T (p ++ [z]) : Nat) : Int)) :=
  valV_some hq fun x hx => key_iff h hp hx
theorem step_none {T : List (List W)} (h : TOk T) {p : List W} {z : W} (hp : p = [] ∨ p ∈ T) (hq : p ++ [z] ∉ T) : valV (kvsT T) (((numOf T p : Nat) : Int), z) = none :=
  valV_none fun x hx e => hq (by rw [← (key_iff h hp hx).mp e]; exact hx)
theorem step_new {T : List (List W)} (h : TOk T) {p : List W} {z : W} (hp : p = [] ∨ p ∈ T) (hq : p ++ [z] ∉ T) : kvsT (T ++ [p ++ [z]]) = kvsT T ++ [((((numOf T p : Nat) : Int), z), .int ((T.length + 1 : Nat) : Int))] := by
  unfold kvsT
  rw [List.map_append]
  congr 1
  · refine List.map_congr_left fun q hm => ?_
    unfold entT
    rw [numOf_app (h.cl q hm), numOf_app (.inr hm)]
  · rw [List.map_cons, List.map_nil]
    unfold entT
    rw [List.dropLast_concat, lastW_app, numOf_app hp, numOf_new hq (by simp)]
theorem TOk.app {T : List (List W)} (h : TOk T) {p : List W} {z : W} (hp : p = [] ∨ p ∈ T) (hq : p ++ [z] ∉ T) : TOk (T ++ [p ++ [z]]) := by
  refine ⟨?_, fun q hm => ?_, fun q hm => ?_⟩
  · have := ins_nodup (q := p ++ [z]) h.nd
    rw [ins_new hq] at this
    exact this
  · rcases List.mem_append.mp hm with hm | hm
    · exact h.ne q hm
    · rw [List.mem_singleton.mp hm]; simp
  · rcases List.mem_append.mp hm with hm | hm
    · rcases h.cl q hm with e | e
      · exact .inl e
      · exact .inr (List.mem_append_left _ e)
    · rw [List.mem_singleton.mp hm, List.dropLast_concat]
      rcases hp with e | e
      · exact .inl e
      · exact .inr (List.mem_append_left _ e)
/-- the trie behind j worths of a pile -/
def at_ (T : List (List W)) (p : List W) (j : Nat) : List (List W) := (begs p j).foldl ins T
theorem at_zero (T : List (List W)) (p : List W) : at_ T p 0 = T := rfl
theorem at_succ {T : List (List W)} {p : List W} {j : Nat} {z : W} (h : p[j]? = some z) : at_ T p (j + 1) = ins (at_ T p j) (p.take j ++ [z]) := by
  unfold at_
  rw [begs_succ, List.foldl_append, List.take_add_one, h]
  rfl
theorem at_len (T : List (List W)) (p : List W) : at_ T p p.length = insPile T p := rfl
theorem at_here {T : List (List W)} {p : List W} {j : Nat} (hj : j ≤ p.length) : p.take j = [] ∨ p.take j ∈ at_ T p j := by
  cases j with
  | zero => exact .inl (List.take_zero)
  | succ j =>
    refine .inr ?_
    unfold at_
    rw [mem_foldl, mem_begs]
    exact .inr ⟨j, Nat.lt_succ_self _, rfl⟩
theorem at_ok {T : List (List W)} {p : List W} (h : TOk T) : ∀ j, j ≤ p.length → TOk (at_ T p j)
  | 0, _ => h
  | j + 1, hj => by
    have ih := at_ok (p := p) h j (by omega)
    obtain ⟨z, hz⟩ : ∃ z, p[j]? = some z := ⟨p[j]'(by omega), List.getElem?_eq_getElem (by omega)⟩
    rw [at_succ hz]
    by_cases c : p.take j ++ [z] ∈ at_ T p j
    · rw [ins_old c]; exact ih
    · rw [ins_new c]; exact ih.app (at_here (T := T) (p := p) (j := j) (by omega)) c
theorem trie_ok' : ∀ {ps T : List (List W)}, TOk T → TOk (ps.foldl insPile T)
  | [], _, h => h
  | p :: ps, _, h => trie_ok' (ps := ps) (at_ok h p.length (Nat.le_refl _))
theorem trie_ok (ps : List (List W)) : TOk (trie ps) := trie_ok' TOk.nil
theorem at_size {T : List (List W)} {p : List W} : ∀ j, (at_ T p j).length ≤ T.length + j
  | 0 => Nat.le_refl _
  | j + 1 => by
    have ih := at_size (T := T) (p := p) j
    unfold at_ at *
    rw [begs_succ, List.foldl_append]
    show (ins ((begs p j).foldl ins T) (p.take (j + 1))).length ≤ _
    by_cases c : p.take (j + 1) ∈ (begs p j).foldl ins T
    · rw [ins_old c]; omega
    · rw [ins_new c, List.length_append]
      show _ + 1 ≤ _
      omega
theorem trie_size : ∀ {ps T : List (List W)} {m : Nat}, (∀ p ∈ ps, p.length ≤ m) → (ps.foldl insPile T).length ≤ T.length + ps.length * m
  | [], T, m, _ => by simp
  | p :: ps, T, m, h => by
    have h1 := at_size (T := T) (p := p) p.length
    have h2 := trie_size (ps := ps) (T := insPile T p) (m := m) (fun q hq => h q (List.mem_cons_of_mem _ hq))
    have h3 := h p List.mem_cons_self
    rw [at_len] at h1
    rw [List.foldl_cons, List.length_cons, Nat.succ_mul]
    omega
end Wk

/-! A raw paper numbered as its pieces are come to. -/
namespace Wn
open PySem PySem.Spec PyProof.Rows L2 Wp Wq Wr
def pcAt (R : List Pc) (a : Int) : Pc := R.getD a.toNat (-1, [])
def walkM (R : List Pc) : Nat → List Int → Int → List Int
  | 0, o, _ => o
  | f + 1, o, a => if a = -1 ∨ a ∈ o then o else walkM R f (o ++ [a]) (pcAt R a).1
def orderM (R : List Pc) (tops : List Int) : List Int := tops.foldl (fun o t => walkM R (t + 1).toNat o t) []
def placeM (o : List Int) (a : Int) : Int := if a = -1 then -1 else (o.idxOf a : Int)
def numberedM (R : List Pc) (tops : List Int) : Pap := ((orderM R tops).map fun a => (placeM (orderM R tops) (pcAt R a).1, (pcAt R a).2), tops.map (placeM (orderM R tops)))
theorem pcAt_some {R : List Pc} {a : Int} (h0 : 0 ≤ a) (h1 : a < R.length) : R[a.toNat]? = some (pcAt R a) := by
  have h : a.toNat < R.length := by omega
  unfold pcAt
  rw [List.getD_eq_getElem?_getD, List.getElem?_eq_getElem h] <;> rfl
theorem pcAt_ok {size : Int} {R : List Pc} (ok : RawOk size R) {a : Int} (h0 : 0 ≤ a) (h1 : a < R.length) : -1 ≤ (pcAt R a).1 ∧ (pcAt R a).1 < a ∧ 1 ≤ (pcAt R a).2.length ∧ ((pcAt R a).2.length : Int) ≤ size ∧ ∀ z ∈ (pcAt R a).2, Wok z := by
  have := ok a.toNat _ (pcAt_some h0 h1)
  obtain ⟨x1, x2, x3, x4, x5⟩ := this
  exact ⟨x1, by omega, x3, x4, x5⟩
section
variable {size : Int} {R : List Pc}
theorem walk_two (ok : RawOk size R) : ∀ (f g : Nat) (o : List Int) (a : Int), -1 ≤ a → a < R.length → (a + 1).toNat ≤ f → (a + 1).toNat ≤ g → walkM R f o a = walkM R g o a := by
  intro f
  induction f with
  | zero =>
    intro g o a h0 h1 hf hg
    have c : a = -1 := by omega
    cases g with
    | zero => rfl
    | succ g =>
      show o = (if a = -1 ∨ a ∈ o then o else _)
      rw [if_pos (.inl c)]
  | succ f ih =>
    intro g o a h0 h1 hf hg
    show (if a = -1 ∨ a ∈ o then o else walkM R f (o ++ [a]) (pcAt R a).1) = walkM R g o a
    by_cases c2 : a = -1 ∨ a ∈ o
    · rw [if_pos c2]
      cases g with
      | zero => rfl
      | succ g =>
        show o = (if a = -1 ∨ a ∈ o then o else _)
        rw [if_pos c2]
    · rw [if_neg c2]
      have c : a ≠ -1 := fun e => c2 (.inl e)
      obtain ⟨m, rfl⟩ : ∃ m, g = m + 1 := ⟨g - 1, by omega⟩
      show _ = (if a = -1 ∨ a ∈ o then o else walkM R m (o ++ [a]) (pcAt R a).1)
      rw [if_neg c2]
      obtain ⟨u0, u1, _⟩ := pcAt_ok ok (a := a) (by omega) h1
      exact ih m _ _ u0 (by omega) (by omega) (by omega)
/-- one turn -/
theorem walk_step (ok : RawOk size R) {o : List Int} {a : Int} (h0 : -1 ≤ a) (h1 : a < R.length) (c : a ≠ -1) (n : a ∉ o) :
    walkM R (a + 1).toNat o a = walkM R ((pcAt R a).1 + 1).toNat (o ++ [a]) (pcAt R a).1 := by
  obtain ⟨m, hm⟩ : ∃ m, (a + 1).toNat = m + 1 := ⟨a.toNat, by omega⟩
  rw [hm]
  show (if a = -1 ∨ a ∈ o then o else walkM R m (o ++ [a]) (pcAt R a).1) = _
  rw [if_neg (fun h => h.elim c n)]
  obtain ⟨u0, u1, _⟩ := pcAt_ok ok (a := a) (by omega) h1
  exact walk_two ok _ _ _ _ u0 (by omega) (by omega) (Nat.le_refl _)
theorem walk_end {f : Nat} {o : List Int} {a : Int} (c : a = -1 ∨ a ∈ o) : walkM R f o a = o := by
  cases f with
  | zero => rfl
  | succ f =>
    show (if a = -1 ∨ a ∈ o then o else _) = o
    rw [if_pos c]
/-- what a walk keeps and reaches -/
structure OrdOk (R : List Pc) (o : List Int) : Prop where
  rng : ∀ a ∈ o, 0 ≤ a ∧ a < R.length
  nd : o.Nodup
theorem OrdOk.app {o : List Int} {a : Int} (h : OrdOk R o) (h0 : 0 ≤ a) (h1 : a < R.length) (n : a ∉ o) : OrdOk R (o ++ [a]) := by
  refine ⟨fun x hx => ?_, ?_⟩
  · rcases List.mem_append.mp hx with hx | hx
    · exact h.rng x hx
    · rw [List.mem_singleton.mp hx]; exact ⟨h0, h1⟩
  · rw [List.nodup_append]
    refine ⟨h.nd, List.nodup_cons.mpr ⟨List.not_mem_nil, List.nodup_nil⟩, fun x hx y hy e => ?_⟩
    rw [List.mem_singleton.mp hy] at e
    exact n (e ▸ hx)
theorem OrdOk.nil : OrdOk R [] := ⟨(fun _ h => nomatch h), List.nodup_nil⟩
theorem nodup_bound : ∀ {n : Nat} {o : List Int}, o.Nodup → (∀ a ∈ o, 0 ≤ a ∧ a < n) → o.length ≤ n
  | 0, o, _, h => by
    cases o with
    | nil => exact Nat.le_refl _
    | cons a r => have := h a List.mem_cons_self; omega
  | n + 1, o, nd, h => by
    by_cases c : (n : Int) ∈ o
    · have e := List.length_erase_of_mem c
      have q := nodup_bound (n := n) (nd.erase (n : Int)) fun a ha => by
        have h2 := (List.Nodup.mem_erase_iff nd).mp ha
        have h3 := h a h2.2
        have h4 := h2.1
        omega
      omega
    · have q := nodup_bound (n := n) nd fun a ha => by
        have h3 := h a ha
        have h4 : a ≠ n := fun e => c (e ▸ ha)
        omega
      omega
def Near (R : List Pc) (o : List Int) (x : Int) : Prop := ∀ a ∈ o, (pcAt R a).1 = -1 ∨ (pcAt R a).1 ∈ o ∨ (pcAt R a).1 = x
theorem walk_all (ok : RawOk size R) : ∀ (f : Nat) (o : List Int) (a : Int), -1 ≤ a → a < R.length → (a + 1).toNat ≤ f → OrdOk R o → Near R o a →
    OrdOk R (walkM R f o a) ∧ Near R (walkM R f o a) (-1) ∧ (∃ m, walkM R f o a = o ++ m) ∧ (a = -1 ∨ a ∈ walkM R f o a) := by
  intro f
  induction f with
  | zero =>
    intro o a h0 h1 hf ho hn
    have c : a = -1 := by omega
    subst c
    exact ⟨ho, hn, ⟨[], (List.append_nil _).symm⟩, .inl rfl⟩
  | succ f ih =>
    intro o a h0 h1 hf ho hn
    by_cases c2 : a = -1 ∨ a ∈ o
    · rw [walk_end c2]
      refine ⟨ho, fun x hx => ?_, ⟨[], (List.append_nil _).symm⟩, c2⟩
      rcases hn x hx with q | q | q
      · exact .inl q
      · exact .inr (.inl q)
      · rcases c2 with c | c
        · exact .inl (q.trans c)
        · exact .inr (.inl (q ▸ c))
    · have c : a ≠ -1 := fun e => c2 (.inl e)
      have n : a ∉ o := fun e => c2 (.inr e)
      obtain ⟨u0, u1, _⟩ := pcAt_ok ok (a := a) (by omega) h1
      have hn2 : Near R (o ++ [a]) (pcAt R a).1 := by
        intro x hx
        rcases List.mem_append.mp hx with hx | hx
        · rcases hn x hx with q | q | q
          · exact .inl q
          · exact .inr (.inl (List.mem_append_left _ q))
          · exact .inr (.inl (List.mem_append_right _ (q ▸ List.mem_cons_self)))
        · rw [List.mem_singleton.mp hx]
          exact .inr (.inr rfl)
      have h := ih (o ++ [a]) (pcAt R a).1 u0 (by omega) (by omega) (ho.app (by omega) h1 n) hn2
      have e : walkM R (f + 1) o a = walkM R f (o ++ [a]) (pcAt R a).1 := by
        show (if a = -1 ∨ a ∈ o then o else _) = _
        rw [if_neg c2]
      rw [e]
      obtain ⟨q1, q2, ⟨m, q3⟩, q4⟩ := h
      refine ⟨q1, q2, ⟨a :: m, by rw [q3, List.append_assoc] <;> rfl⟩, .inr ?_⟩
      rw [q3]
      exact List.mem_append_left _ (List.mem_append_right _ List.mem_cons_self)
theorem fold_all (ok : RawOk size R) : ∀ (tops : List Int) (o : List Int), (∀ t ∈ tops, -1 ≤ t ∧ t < R.length) → OrdOk R o → Near R o (-1) →
    OrdOk R (tops.foldl (fun o t => walkM R (t + 1).toNat o t) o) ∧ Near R (tops.foldl (fun o t => walkM R (t + 1).toNat o t) o) (-1) ∧ (∃ m, tops.foldl (fun o t => walkM R (t + 1).toNat o t) o = o ++ m) ∧ ∀ t ∈ tops, t = -1 ∨ t ∈ tops.foldl (fun o t => walkM R (t + 1).toNat o t) o
  | [], o, _, ho, hn => ⟨ho, hn, ⟨[], (List.append_nil _).symm⟩, fun _ h => nomatch h⟩
  | t :: tops, o, ht, ho, hn => by
    have h0 := ht t List.mem_cons_self
    obtain ⟨q1, q2, ⟨m, q3⟩, q4⟩ := walk_all ok (t + 1).toNat o t h0.1 h0.2 (Nat.le_refl _) ho (fun x hx => (hn x hx).elim .inl fun q => q.elim (fun q => .inr (.inl q)) .inl)
    obtain ⟨p1, p2, ⟨m2, p3⟩, p4⟩ := fold_all ok tops (walkM R (t + 1).toNat o t) (fun x hx => ht x (List.mem_cons_of_mem _ hx)) q1 q2
    rw [List.foldl_cons]
    refine ⟨p1, p2, ⟨m ++ m2, by rw [p3, q3, List.append_assoc]⟩, fun x hx => ?_⟩
    rcases List.mem_cons.mp hx with e | hx
    · subst e
      rcases q4 with q | q
      · exact .inl q
      · rw [p3]
        exact .inr (List.mem_append_left _ q)
    · exact p4 x hx
theorem order_all (ok : RawOk size R) {tops : List Int} (ht : ∀ t ∈ tops, -1 ≤ t ∧ t < R.length) : OrdOk R (orderM R tops) ∧ (∀ a ∈ orderM R tops, (pcAt R a).1 = -1 ∨ (pcAt R a).1 ∈ orderM R tops) ∧ ∀ t ∈ tops, t = -1 ∨ t ∈ orderM R tops := by
  obtain ⟨h1, h2, _, h4⟩ := fold_all ok tops [] ht OrdOk.nil (fun _ h => nomatch h)
  exact ⟨h1, fun a ha => (h2 a ha).elim .inl fun q => q.elim .inr .inl, h4⟩
/-! ### the dict of places -/
def ents : Nat → List Int → List (Key × V)
  | _, [] => []
  | i, a :: r => (.inl a, .int i) :: ents (i + 1) r
def placesK (o : List Int) : List (Key × V) := (.inl (-1), .int (-1)) :: ents 0 o
theorem ents_len : ∀ (i : Nat) (o : List Int), (ents i o).length = o.length
  | _, [] => rfl
  | i, _ :: r => by show (ents (i + 1) r).length + 1 = r.length + 1; rw [ents_len]
theorem ents_val {a : Int} : ∀ (i : Nat) (o : List Int), valV (ents i o) (.inl a) = if a ∈ o then some (.int ((i + o.idxOf a : Nat) : Int)) else none
  | _, [] => by rw [if_neg List.not_mem_nil]; rfl
  | i, b :: r => by
    show valV ((Sum.inl b, V.int i) :: ents (i + 1) r) (Sum.inl a) = _
    by_cases e : b = a
    · subst e
      rw [valV_pos rfl, if_pos List.mem_cons_self, List.idxOf_cons_self] <;> rfl
    · rw [valV_neg (fun q => e (Sum.inl.inj q)), ents_val (i + 1) r]
      by_cases c : a ∈ r
      · have h2 : (b :: r).idxOf a = r.idxOf a + 1 := by
          rw [List.idxOf_cons]
          have e2 : (b == a) = false := by simpa using e
          rw [e2] <;> rfl
        rw [if_pos c, if_pos (List.mem_cons_of_mem _ c), h2, show i + 1 + r.idxOf a = i + (r.idxOf a + 1) by omega]
      · rw [if_neg c, if_neg (fun h => (List.mem_cons.mp h).elim (fun q => e q.symm) c)]
theorem places_val {o : List Int} {a : Int} : valV (placesK o) (.inl a) = if a = -1 ∨ a ∈ o then some (.int (placeM o a)) else none := by
  unfold placesK placeM
  by_cases e : a = -1
  · subst e
    rw [valV_pos rfl, if_pos (.inl rfl), if_pos rfl]
  · rw [valV_neg (fun q => e (Sum.inl.inj q).symm), ents_val]
    by_cases c : a ∈ o
    · rw [if_pos c, if_pos (.inr c), if_neg e, Nat.zero_add]
    · rw [if_neg c, if_neg (fun h => h.elim e c)]
theorem ents_app (a : Int) : ∀ (i : Nat) (o : List Int), ents i o ++ [(.inl a, .int ((i + o.length : Nat) : Int))] = ents i (o ++ [a])
  | _, [] => rfl
  | i, b :: r => by
    have := ents_app a (i + 1) r
    show (Sum.inl b, V.int i) :: (ents (i + 1) r ++ [(Sum.inl a, V.int ((i + (r.length + 1) : Nat) : Int))]) = (Sum.inl b, V.int i) :: ents (i + 1) (r ++ [a])
    rw [← this, show i + (r.length + 1) = i + 1 + r.length by omega]
theorem places_put {o : List Int} {a : Int} (c : a ≠ -1) (n : a ∉ o) : putK (placesK o) (.inl a) (.int o.length) = placesK (o ++ [a]) := by
  have h : ((placesK o).any fun kv => decide (kv.1 = (Sum.inl a : Key))) = false := by
    rw [List.any_eq_false]
    intro kv hkv
    rw [decide_eq_true_eq]
    intro e
    have hv : valV (placesK o) (.inl a) = none := by rw [places_val, if_neg (fun h => h.elim c n)]
    unfold valV at hv
    have hf : (placesK o).find? (fun kv => decide (kv.1 = (Sum.inl a : Key))) = none := by
      cases q : (placesK o).find? (fun kv => decide (kv.1 = (Sum.inl a : Key))) with
      | none => rfl
      | some x => rw [q] at hv; cases hv
    have := List.find?_eq_none.mp hf kv hkv
    exact this (decide_eq_true e)
  unfold putK
  rw [h, if_neg Bool.false_ne_true]
  have := ents_app a 0 o
  rw [Nat.zero_add] at this
  unfold placesK
  rw [← this] <;> rfl
end
end Wn

/-! A top's pile, piece by piece. -/
namespace Wo
open PySem PySem.Spec PyProof.Rows L2 Wp Wq Wr Wn
inductive OpensN (L : List Pc) : Nat → Int → List W → Prop where
  | nil : OpensN L 0 (-1) []
  | cons {n : Nat} {i : Int} {u : Int} {ws q : List W} (h : L[i.toNat]? = some (u, ws)) (h0 : 0 ≤ i) (t : OpensN L n u q) : OpensN L (n + 1) i (q ++ ws)
theorem OpensN.none {L : List Pc} {n : Nat} {q : List W} (h : OpensN L n (-1) q) : q = [] := by
  generalize e : (-1 : Int) = i at h
  cases h with
  | nil => rfl
  | cons _ h0 _ => omega
theorem OpensN.some {L : List Pc} {n : Nat} {i : Int} {q : List W} (h : OpensN L n i q) (c : i ≠ -1) : ∃ m u ws p, n = m + 1 ∧ L[i.toNat]? = some (u, ws) ∧ 0 ≤ i ∧ OpensN L m u p ∧ q = p ++ ws := by
  cases h with
  | nil => exact absurd rfl c
  | cons h h0 t => exact ⟨_, _, _, _, rfl, h, h0, t, rfl⟩
theorem idx_get : ∀ {o : List Int} {a : Int}, a ∈ o → o[o.idxOf a]? = some a
  | b :: r, a, h => by
    rw [List.idxOf_cons]
    by_cases e : b = a
    · subst e
      rw [beq_self_eq_true] <;> rfl
    · have e2 : (b == a) = false := by simpa using e
      rw [e2]
      show (b :: r)[r.idxOf a + 1]? = _
      rw [List.getElem?_cons_succ]
      exact idx_get ((List.mem_cons.mp h).resolve_left fun q => e q.symm)
/-- of a numbered paper -/
theorem numbered_opens {size : Int} {R : List Pc} {Ps : List (List W)} {tops : List Int} (ok : RawOk size R) (pok : PilesOk R Ps) (ht : ∀ t ∈ tops, -1 ≤ t ∧ t < R.length) :
    ∀ (k : Nat) (a : Int), (a + 1).toNat ≤ k → a = -1 ∨ a ∈ orderM R tops → ∃ n, n ≤ k ∧ OpensN (numberedM R tops).1 n (placeM (orderM R tops) a) (belowM Ps a) := by
  obtain ⟨h1, h2, h3⟩ := order_all ok ht
  have hnil : ∀ k : Nat, ∃ n, n ≤ k ∧ OpensN (numberedM R tops).1 n (placeM (orderM R tops) (-1)) (belowM Ps (-1)) := fun k => ⟨0, Nat.zero_le _, .nil⟩
  intro k
  induction k with
  | zero =>
    intro a ha h
    rcases h with rfl | h
    · exact hnil 0
    · have := (h1.rng a h).1
      omega
  | succ k ih =>
    intro a ha h
    rcases h with rfl | h
    · exact hnil _
    · obtain ⟨a0, a1⟩ := h1.rng a h
      obtain ⟨u0, u1, _⟩ := pcAt_ok ok a0 a1
      obtain ⟨n, hn, hop⟩ := ih (pcAt R a).1 (by omega) (h2 a h)
      refine ⟨n + 1, by omega, ?_⟩
      have e1 : belowM Ps a = belowM Ps (pcAt R a).1 ++ (pcAt R a).2 := by
        have := pok.2 a.toNat _ (pcAt_some a0 a1)
        show (if 0 ≤ a then Ps.getD a.toNat [] else []) = _
        rw [if_pos a0, List.getD_eq_getElem?_getD, this] <;> rfl
      have e2 : placeM (orderM R tops) a = ((orderM R tops).idxOf a : Int) := by
        unfold placeM
        rw [if_neg (by omega)]
      rw [e1, e2]
      refine .cons (u := placeM (orderM R tops) (pcAt R a).1) ?_ (by omega) hop
      show ((orderM R tops).map fun a => (placeM (orderM R tops) (pcAt R a).1, (pcAt R a).2))[((orderM R tops).idxOf a : Int).toNat]? = _
      rw [Int.toNat_natCast, List.getElem?_map, idx_get h] <;> rfl
end Wo

/-! max(xs, default=d) of a list of ints. -/
namespace Wm
open PySem PySem.Spec PyProof.Rows L2 Wp
theorem hold_ints {h : Heap} : ∀ {vs : List Value} {ns : List Int}, IntsAre vs ns → PySem.W.HoldAll h vs ns
  | _, _, .nil => PySem.W.HoldAll.nil
  | _, _, .cons n t r => PySem.W.HoldAll.cons ⟨_, Reads.int n t⟩ (hold_ints r)
theorem maxOf_is : ∀ (xs : List Int) (x : Int), PySem.W.maxOf x xs ∈ x :: xs ∧ ∀ y ∈ x :: xs, y ≤ PySem.W.maxOf x xs := by
  intro xs
  induction xs with
  | nil =>
    intro x
    exact ⟨List.mem_cons_self, fun y hy => by rw [List.mem_singleton.mp hy]; exact Int.le_refl _⟩
  | cons z zs ih =>
    intro x
    have e : PySem.W.maxOf x (z :: zs) = PySem.W.maxOf (if PySem.W.DatumOrd.lt x z = true then z else x) zs := rfl
    have d : PySem.W.DatumOrd.lt x z = decide (x < z) := rfl
    rw [e, d]
    obtain ⟨h1, h2⟩ := ih (if decide (x < z) = true then z else x)
    generalize PySem.W.maxOf (if decide (x < z) = true then z else x) zs = m at h1 h2
    by_cases c : x < z
    · rw [if_pos (decide_eq_true c)] at h1 h2
      refine ⟨List.mem_cons_of_mem _ h1, fun y hy => ?_⟩
      rcases List.mem_cons.mp hy with rfl | hy
      · have := h2 z List.mem_cons_self
        omega
      · exact h2 y hy
    · have c2 : ¬ (decide (x < z) = true) := by simpa using c
      rw [if_neg c2] at h1 h2
      refine ⟨?_, fun y hy => ?_⟩
      · rcases List.mem_cons.mp h1 with h | h
        · rw [h]; exact List.mem_cons_self
        · exact List.mem_cons_of_mem _ (List.mem_cons_of_mem _ h)
      · rcases List.mem_cons.mp hy with rfl | hy
        · exact h2 _ List.mem_cons_self
        · rcases List.mem_cons.mp hy with rfl | hy
          · have := h2 x List.mem_cons_self
            omega
          · exact h2 y (List.mem_cons_of_mem _ hy)
section
variable {X : Cx}
def rMaxD (K : PySem.W.Frag) : List V → List V → Hp → VK → Prop := fun vs zs H Q => ∃ (a : Addr) (ns : List Int) (d : Int), vs = [V.ref a] ∧ zs = [.int d] ∧ SqL K H a (ns.map V.int) ∧ ∀ m, (ns = [] ∧ m = d ∨ m ∈ ns ∧ ∀ y ∈ ns, y ≤ m) → Q (.int m) H
theorem cr_maxD (hc : X.calm = true) (hu : X.A.units + 64 < cLine) : CallRK X (.builtin "max") [Str.ofString "default"] (rMaxD X.K) := by
  intro pins s σ H vs zs us ws Q I r rz h
  obtain ⟨a, ns, d, rfl, rfl, hs, q⟩ := h
  obtain ⟨its, rv, hl, _⟩ := I.list hs
  rw [Vals.ref1 r]
  obtain ⟨w1, rfl, t, rfl⟩ := vals1 rz
  have hi := rv.ints
  refine PySem.W.max_list_datum_default (α := Int) (I.ok.hd hc) hl.isList (xs := ns) ?_ ?_ (fun e h' tk k => ⟨.int d, H, I.kept k, ⟨_, rfl⟩, q d (.inl ⟨e, rfl⟩)⟩) fun y ys i v h' tk e hv hh k => ?_
  · exact hold_ints hi
  · have : PySem.W.Datum.depth Int = 0 := rfl
    omega
  · obtain ⟨as, rd⟩ := hh
    obtain ⟨m1, m2⟩ := maxOf_is ys y
    have rd' : Reads h' v (.int (PySem.W.maxOf y ys)) as := rd
    cases rd'
    exact ⟨.int _, H, I.kept k, ⟨_, rfl⟩, q _ (.inr ⟨e ▸ m1, e ▸ m2⟩)⟩
end
section
variable {K : PySem.W.Frag} {σ : L2.St} {H : Hp} {Q : VK}
theorem augN {i : Nat} {te : TE} {ti : TIp} {D : Ends} {x : V} (h : σ[i]? = some (some x)) (q : te σ H fun y H1 => ti x y H1 fun z H2 => D.nx (σ.set i (some z)) H2) : tAug i te ti D σ H := ⟨x, h, q⟩
theorem idx_mem {a : Int} : ∀ {l : List Int} (m : List Int), a ∈ l → (l ++ m).idxOf a = l.idxOf a
  | b :: l, m, h => by
    rw [List.cons_append, List.idxOf_cons, List.idxOf_cons]
    cases e : b == a with
    | true => rfl
    | false =>
      have h2 : a ∈ l := (List.mem_cons.mp h).resolve_left fun q => by rw [q] at e; simp at e
      show (l ++ m).idxOf a + 1 = l.idxOf a + 1
      rw [idx_mem m h2]
theorem idx_not {a : Int} : ∀ {l : List Int} (m : List Int), a ∉ l → (l ++ m).idxOf a = l.length + m.idxOf a
  | [], m, _ => (Nat.zero_add _).symm
  | b :: l, m, h => by
    rw [List.cons_append, List.idxOf_cons]
    have e : (b == a) = false := by
      have : b ≠ a := fun q => h (q ▸ List.mem_cons_self)
      simpa using this
    rw [e]
    show (l ++ m).idxOf a + 1 = l.length + 1 + m.idxOf a
    rw [idx_not m (fun q => h (List.mem_cons_of_mem _ q))]
    omega
theorem cbK {r : List V → List V → Hp → VK → Prop} {t tk : TA} (h : t σ H fun vs H1 => tk σ H1 fun zs H2 => r vs zs H2 Q) : tCKw r t tk σ H Q := h
theorem maxD_ {a : Addr} {ns : List Int} {d : Int} (h : SqL K H a (ns.map V.int)) (q : ∀ m, (ns = [] ∧ m = d ∨ m ∈ ns ∧ ∀ y ∈ ns, y ≤ m) → Q (.int m) H) : rMaxD K [.ref a] [.int d] H Q := ⟨a, ns, d, rfl, rfl, h, q⟩
end
end Wm

/-! The program's check of the numbers, and the document's clauses walked pile by pile: one answer. -/
namespace Wx
/-! ### as the program goes -/
def uAt (u : List Int) (a : Int) : Int := u.getD a.toNat 0
def runM (u : List Int) : Nat → Nat → Int → Nat × Int
  | 0, m, a => (m, a)
  | f + 1, m, a => if a = m ∧ m < u.length then runM u f (m + 1) (uAt u m) else (m, a)
def numGo (u : List Int) : Nat → List Int → Option Nat
  | m, [] => some m
  | m, t :: ts => if (runM u (u.length - m) m t).2 ≠ -1 ∧ ¬ (0 ≤ (runM u (u.length - m) m t).2 ∧ (runM u (u.length - m) m t).2 < m) then none else numGo u (runM u (u.length - m) m t).1 ts
def numdM (u : List Int) (tops : List Int) : Bool := match numGo u 0 tops with
  | some m => decide (m = u.length)
  | none => false
/-! ### by the clauses -/
def rowM (u : List Int) : Nat → Int → List Int
  | 0, a => [a]
  | f + 1, a => if a = -1 then [a] else a :: rowM u f (uAt u a)
def addM (o : List Int) (l : List Int) : List Int := l.foldl (fun o a => if a ∈ o then o else o ++ [a]) o
def rightGo (u : List Int) : List Int → List Int → Option (List Int)
  | o, [] => some o
  | o, t :: ts => if t < -1 ∨ t ≥ u.length then none else if (rowM u u.length t).getLast? ≠ some (-1) then none else rightGo u (addM o (rowM u u.length t).dropLast) ts
def inR (u : List Int) : Prop := ∀ a ∈ u, -1 ≤ a ∧ a < u.length
def rng (m : Nat) : List Int := (List.range m).map fun i : Nat => (i : Int)
theorem rng_succ {m : Nat} : rng (m + 1) = rng m ++ [(m : Int)] := by
  unfold rng
  rw [List.range_succ, List.map_append] <;> rfl
theorem rng_len {m : Nat} : (rng m).length = m := by unfold rng; rw [List.length_map, List.length_range]
theorem rng_mem {m : Nat} {a : Int} : a ∈ rng m ↔ 0 ≤ a ∧ a < m := by
  unfold rng
  rw [List.mem_map]
  constructor
  · rintro ⟨i, hi, rfl⟩
    have := List.mem_range.mp hi
    omega
  · rintro ⟨h0, h1⟩
    exact ⟨a.toNat, List.mem_range.mpr (by omega), by omega⟩
theorem rng_at {m i : Nat} (h : i < m) : (rng m)[i]? = some (i : Int) := by
  unfold rng
  rw [List.getElem?_map, List.getElem?_range h] <;> rfl
/-- the chain from a ends on nothing in k steps, all below m -/
inductive Ends (u : List Int) (m : Nat) : Nat → Int → Prop where
  | nil : Ends u m 0 (-1)
  | cons {k : Nat} {a : Int} (h0 : 0 ≤ a) (h1 : a < m) (t : Ends u m k (uAt u a)) : Ends u m (k + 1) a
section
variable {u : List Int} {m m' b k : Nat} {a : Int}
theorem Ends.mono (h : Ends u m k a) (hm : m ≤ m') : Ends u m' k a := by
  induction h with
  | nil => exact .nil
  | cons h0 h1 t ih => exact .cons h0 (by omega) ih
theorem Ends.one {k2 m2 : Nat} (h : Ends u m k a) (h2 : Ends u m2 k2 a) : k = k2 := by
  induction h generalizing k2 with
  | nil =>
    cases h2 with
    | nil => rfl
    | cons h0 _ _ => omega
  | cons h0 h1 t ih =>
    cases h2 with
    | nil => omega
    | cons g0 g1 t2 => rw [ih t2]
theorem row_nil {F : Nat} : rowM u F (-1) = [-1] := by
  cases F with
  | zero => rfl
  | succ F => show (if (-1 : Int) = -1 then _ else _) = _; rw [if_pos rfl]
theorem row_ne : ∀ (F : Nat) (a : Int), rowM u F a ≠ []
  | 0, a => List.cons_ne_nil _ _
  | F + 1, a => by
    show (if a = -1 then [a] else a :: rowM u F (uAt u a)) ≠ []
    split <;> exact List.cons_ne_nil _ _
theorem row_cons {F : Nat} (h : a ≠ -1) : rowM u (F + 1) a = a :: rowM u F (uAt u a) := by
  show (if a = -1 then _ else _) = _
  rw [if_neg h]
theorem row_drop {F : Nat} (h : a ≠ -1) : (rowM u (F + 1) a).dropLast = a :: (rowM u F (uAt u a)).dropLast := by
  rw [row_cons h]
  cases e : rowM u F (uAt u a) with
  | nil => exact absurd e (row_ne _ _)
  | cons x r => rfl
theorem row_of {F : Nat} (h : Ends u m k a) (hk : k ≤ F) : (rowM u F a).getLast? = some (-1) ∧ ∀ x ∈ (rowM u F a).dropLast, 0 ≤ x ∧ x < m := by
  induction h generalizing F with
  | nil => rw [row_nil]; exact ⟨rfl, (fun _ h => nomatch h)⟩
  | cons h0 h1 t ih =>
    obtain ⟨G, rfl⟩ : ∃ G, F = G + 1 := ⟨F - 1, by omega⟩
    obtain ⟨i1, i2⟩ := ih (F := G) (by omega)
    rename_i a'
    have hne : a' ≠ -1 := by omega
    refine ⟨?_, ?_⟩
    · rw [row_cons hne, List.getLast?_cons, i1] <;> rfl
    · rw [row_drop hne]
      intro x hx
      rcases List.mem_cons.mp hx with rfl | hx
      · exact ⟨h0, h1⟩
      · exact i2 x hx
theorem ends_of (hr : inR u) : ∀ (F : Nat) (a : Int), -1 ≤ a → a < u.length → (rowM u F a).getLast? = some (-1) → ∃ k, k ≤ F ∧ Ends u u.length k a
  | 0, a, _, _, h => by
    have e : a = -1 := Option.some.inj h
    subst e
    exact ⟨0, Nat.le_refl _, .nil⟩
  | F + 1, a, h0, h1, h => by
    by_cases e : a = -1
    · subst e
      exact ⟨0, Nat.zero_le _, .nil⟩
    · rw [row_cons e, List.getLast?_cons] at h
      have hu : a.toNat < u.length := by omega
      have hm : uAt u a ∈ u := by
        unfold uAt
        rw [List.getD_eq_getElem?_getD, List.getElem?_eq_getElem hu]
        exact List.getElem_mem hu
      have h2 := hr _ hm
      cases e2 : (rowM u F (uAt u a)).getLast? with
      | none => exact absurd (List.getLast?_eq_none_iff.mp e2) (row_ne _ _)
      | some z =>
        rw [e2] at h
        have ez : z = -1 := Option.some.inj h
        rw [ez] at e2
        obtain ⟨k, hk, he⟩ := ends_of hr F (uAt u a) h2.1 h2.2 e2
        exact ⟨k + 1, by omega, .cons (by omega) h1 he⟩
theorem add_in : ∀ (l o : List Int), (∀ x ∈ l, x ∈ o) → addM o l = o
  | [], _, _ => rfl
  | x :: l, o, h => by
    show addM (if x ∈ o then o else o ++ [x]) l = o
    rw [if_pos (h x List.mem_cons_self)]
    exact add_in l o fun y hy => h y (List.mem_cons_of_mem _ hy)
theorem add_pre : ∀ (l o : List Int), ∃ r, addM o l = o ++ r
  | [], o => ⟨[], (List.append_nil _).symm⟩
  | x :: l, o => by
    show ∃ r, addM (if x ∈ o then o else o ++ [x]) l = o ++ r
    by_cases c : x ∈ o
    · rw [if_pos c]; exact add_pre l o
    · rw [if_neg c]
      obtain ⟨r, e⟩ := add_pre l (o ++ [x])
      exact ⟨x :: r, by rw [e, List.append_assoc] <;> rfl⟩
theorem add_cons {o l : List Int} {x : Int} (h : x ∉ o) : addM o (x :: l) = addM (o ++ [x]) l := by
  show addM (if x ∈ o then o else o ++ [x]) l = _
  rw [if_neg h]
theorem rng_pre {n : Nat} {l r : List Int} (h : rng n = l ++ r) : l = rng l.length ∧ l.length ≤ n := by
  have hl : l.length ≤ n := by
    have := congrArg List.length h
    rw [rng_len, List.length_append] at this
    omega
  refine ⟨?_, hl⟩
  apply List.ext_getElem?
  intro i
  by_cases c : i < l.length
  · have h1 : (l ++ r)[i]? = l[i]? := List.getElem?_append_left c
    rw [← h1, ← h, rng_at (by omega), rng_at c]
  · rw [List.getElem?_eq_none (by omega), List.getElem?_eq_none (by rw [rng_len]; omega)]
/-! ### the program's yes is the clauses' -/
theorem run_spec (hb : b ≤ u.length) (cl : ∀ p : Nat, p < b → ∃ k, k ≤ b ∧ Ends u b k p) : ∀ (f m : Nat) (a : Int) (m' : Nat) (a' : Int), runM u f m a = (m', a') → u.length - m ≤ f → m ≤ u.length → b ≤ m → (a' = -1 ∨ 0 ≤ a' ∧ a' < b) →
    m ≤ m' ∧ m' ≤ u.length ∧ ∃ k, k ≤ (m' - m) + b ∧ Ends u m' k a ∧ (∀ p : Nat, m ≤ p → p < m' → ∃ k, k ≤ m' ∧ Ends u m' k p) ∧ ∀ F, k ≤ F → addM (rng m) (rowM u F a).dropLast = rng m' := by
  have stop : ∀ (m : Nat) (a : Int), m ≤ u.length → b ≤ m → (a = -1 ∨ 0 ≤ a ∧ a < b) → m ≤ m ∧ m ≤ u.length ∧ ∃ k, k ≤ (m - m) + b ∧ Ends u m k a ∧ (∀ p : Nat, m ≤ p → p < m → ∃ k, k ≤ m ∧ Ends u m k p) ∧ ∀ F, k ≤ F → addM (rng m) (rowM u F a).dropLast = rng m := by
    intro m a hm hbm ha
    rcases ha with rfl | ⟨a0, a1⟩
    · exact ⟨Nat.le_refl _, hm, 0, Nat.zero_le _, .nil, (fun p h1 h2 => by omega), fun F _ => by rw [row_nil] <;> rfl⟩
    · obtain ⟨k, hk, he⟩ := cl a.toNat (by omega)
      have ea : ((a.toNat : Nat) : Int) = a := by omega
      rw [ea] at he
      refine ⟨Nat.le_refl _, hm, k, by omega, he.mono hbm, (fun p h1 h2 => by omega), fun F hF => add_in _ _ fun x hx => ?_⟩
      have := (row_of he hF).2 x hx
      exact rng_mem.mpr ⟨this.1, by omega⟩
  intro f
  induction f with
  | zero =>
    intro m a m' a' h hf hm hbm ha
    have e : (m, a) = (m', a') := h
    cases e
    exact stop m a hm hbm ha
  | succ f ih =>
    intro m a m' a' h hf hm hbm ha
    have e : (if a = m ∧ m < u.length then runM u f (m + 1) (uAt u m) else (m, a)) = (m', a') := h
    by_cases c : a = m ∧ m < u.length
    · rw [if_pos c] at e
      obtain ⟨i1, i2, k, i3, i4, i5, i6⟩ := ih (m + 1) _ m' a' e (by omega) (by omega) (by omega) ha
      obtain ⟨rfl, c2⟩ := c
      have e4 : Ends u m' (k + 1) (m : Int) := .cons (by omega) (by omega) i4
      refine ⟨by omega, i2, k + 1, by omega, e4, fun p h1 h2 => ?_, fun F hF => ?_⟩
      · by_cases q : p = m
        · subst q; exact ⟨k + 1, by omega, e4⟩
        · exact i5 p (by omega) h2
      · obtain ⟨G, rfl⟩ : ∃ G, F = G + 1 := ⟨F - 1, by omega⟩
        rw [row_drop (by omega), add_cons (fun h => by have := rng_mem.mp h; omega), ← rng_succ]
        exact i6 G (by omega)
    · rw [if_neg c] at e
      cases e
      exact stop m a hm hbm ha
def Cl (u : List Int) (b : Nat) : Prop := ∀ p : Nat, p < b → ∃ k, k ≤ b ∧ Ends u b k p
theorem go_yes : ∀ (ts : List Int) (m n : Nat), numGo u m ts = some n → m ≤ u.length → Cl u m → n ≤ u.length ∧ Cl u n ∧ rightGo u (rng m) ts = some (rng n)
  | [], m, n, h, hm, cl => by
    have e : m = n := Option.some.inj h
    subst e
    exact ⟨hm, cl, rfl⟩
  | t :: ts, m, n, h, hm, cl => by
    have h' : (if (runM u (u.length - m) m t).2 ≠ -1 ∧ ¬ (0 ≤ (runM u (u.length - m) m t).2 ∧ (runM u (u.length - m) m t).2 < m) then none else numGo u (runM u (u.length - m) m t).1 ts) = some n := h
    cases er : runM u (u.length - m) m t with
    | mk m' a' =>
      rw [er] at h'
      by_cases c : a' ≠ -1 ∧ ¬ (0 ≤ a' ∧ a' < m)
      · rw [if_pos c] at h'; cases h'
      · rw [if_neg c] at h'
        have ha : a' = -1 ∨ 0 ≤ a' ∧ a' < m := by omega
        obtain ⟨i1, i2, k, i3, i4, i5, i6⟩ := run_spec hm cl _ _ _ _ _ er (Nat.le_refl _) hm (Nat.le_refl _) ha
        have cl2 : Cl u m' := fun p hp => by
          by_cases q : p < m
          · obtain ⟨k, hk, he⟩ := cl p q
            exact ⟨k, by omega, he.mono i1⟩
          · exact i5 p (by omega) hp
        obtain ⟨j1, j2, j3⟩ := go_yes ts m' n h' i2 cl2
        refine ⟨j1, j2, ?_⟩
        have kn : k ≤ u.length := by omega
        have hrow := (row_of i4 kn).1
        have ht : ¬ (t < -1 ∨ t ≥ u.length) := by
          cases i4 with
          | nil => omega
          | cons h0 h1 _ => omega
        show (if t < -1 ∨ t ≥ u.length then none else if (rowM u u.length t).getLast? ≠ some (-1) then none else rightGo u (addM (rng m) (rowM u u.length t).dropLast) ts) = _
        rw [if_neg ht, if_neg (fun q => q hrow), i6 u.length kn]
        exact j3
theorem yes_right {tops : List Int} (h : numdM u tops = true) : inR u ∧ rightGo u [] tops = some (rng u.length) := by
  unfold numdM at h
  cases e : numGo u 0 tops with
  | none => rw [e] at h; cases h
  | some m =>
    rw [e] at h
    have em : m = u.length := of_decide_eq_true h
    subst em
    obtain ⟨_, cl, hg⟩ := go_yes tops 0 _ e (Nat.zero_le _) (fun p h => absurd h (Nat.not_lt_zero _))
    refine ⟨fun a ha => ?_, hg⟩
    obtain ⟨i, hi, rfl⟩ := List.getElem_of_mem ha
    obtain ⟨k, hk, he⟩ := cl i hi
    have eu : uAt u (i : Int) = u[i] := by
      unfold uAt
      rw [show ((i : Int)).toNat = i from Int.toNat_natCast i, List.getD_eq_getElem?_getD, List.getElem?_eq_getElem hi] <;> rfl
    cases he with
    | cons h0 h1 t =>
      rw [eu] at t
      generalize u[i] = z at t
      cases t with
      | nil => omega
      | cons g0 g1 _ => omega
/-! ### the clauses' yes is the program's -/
theorem run_back (hr : inR u) (clb : ∀ p : Nat, p < b → uAt u p = -1 ∨ 0 ≤ uAt u p ∧ uAt u p < b) {n' : Nat} : ∀ (k : Nat) (a : Int) (M f F : Nat), Ends u u.length k a → b ≤ M → M ≤ u.length → u.length - M ≤ f → k ≤ F →
    (∀ p : Nat, b ≤ p → p < M → ∃ j, k < j ∧ Ends u u.length j p) → (∀ p : Nat, p < M → uAt u p = -1 ∨ 0 ≤ uAt u p ∧ uAt u p < M ∨ uAt u p = a) → (∃ r, rng u.length = addM (rng M) (rowM u F a).dropLast ++ r) →
    ∃ m' a', runM u f M a = (m', a') ∧ (a' = -1 ∨ 0 ≤ a' ∧ a' < b) ∧ M ≤ m' ∧ m' ≤ u.length ∧ addM (rng M) (rowM u F a).dropLast = rng m' ∧ ∀ p : Nat, p < m' → uAt u p = -1 ∨ 0 ≤ uAt u p ∧ uAt u p < m' := by
  have halt : ∀ (f M : Nat) (a : Int), ¬ (a = M ∧ M < u.length) → runM u f M a = (M, a) := by
    intro f M a h
    cases f with
    | zero => rfl
    | succ f =>
      show (if a = M ∧ M < u.length then _ else _) = _
      rw [if_neg h]
  have low : ∀ (k : Nat) (a : Int), Ends u u.length k a → (a = -1 ∨ 0 ≤ a ∧ a < b) → Ends u b k a := by
    intro k a h
    induction h with
    | nil => intro _; exact .nil
    | cons h0 h1 t ih =>
      rename_i k2 a2
      intro hb
      have hb2 : 0 ≤ a2 ∧ a2 < b := by omega
      have e2 : ((a2.toNat : Nat) : Int) = a2 := by omega
      have := clb a2.toNat (by omega)
      rw [e2] at this
      exact .cons h0 hb2.2 (ih this)
  intro k
  induction k with
  | zero =>
    intro a M f F he hbM hM hf hF hj hc hp
    cases he
    refine ⟨M, -1, halt _ _ _ (by omega), .inl rfl, Nat.le_refl _, hM, by rw [row_nil] <;> rfl, fun p hp => ?_⟩
    have := hc p hp
    omega
  | succ k ih =>
    intro a M f F he hbM hM hf hF hj hc hp
    have he0 := he
    cases he with
    | cons h0 h1 t =>
      by_cases c : a < b
      · refine ⟨M, a, halt _ _ _ (by omega), .inr ⟨h0, c⟩, Nat.le_refl _, hM, ?_, fun p hp => ?_⟩
        · refine add_in _ _ fun x hx => ?_
          have := (row_of (low _ _ he0 (.inr ⟨h0, c⟩)) hF).2 x hx
          exact rng_mem.mpr ⟨this.1, by omega⟩
        · have := hc p hp
          omega
      · obtain ⟨G, rfl⟩ : ∃ G, F = G + 1 := ⟨F - 1, by omega⟩
        have hne : a ≠ -1 := by omega
        have nin : a ∉ rng M := by
          intro q
          have q2 := rng_mem.mp q
          obtain ⟨j, hj1, hj2⟩ := hj a.toNat (by omega) (by omega)
          rw [show ((a.toNat : Nat) : Int) = a by omega] at hj2
          have := he0.one hj2
          omega
        rw [row_drop hne, add_cons nin] at hp ⊢
        obtain ⟨r, er⟩ := hp
        obtain ⟨r2, er2⟩ := add_pre (rowM u G (uAt u a)).dropLast (rng M ++ [a])
        have er3 := er
        rw [er2, List.append_assoc] at er3
        obtain ⟨g1, g2⟩ := rng_pre er3
        rw [List.length_append, rng_len] at g1 g2
        have g2' : M + 1 ≤ u.length := g2
        have ea : a = M := by
          have g1' : rng M ++ [a] = rng (M + 1) := g1
          rw [rng_succ] at g1'
          exact (List.cons.inj (List.append_cancel_left g1')).1
        subst ea
        rw [← rng_succ] at er ⊢
        obtain ⟨f2, rfl⟩ : ∃ f2, f = f2 + 1 := ⟨f - 1, by omega⟩
        have step : runM u (f2 + 1) M (M : Int) = runM u f2 (M + 1) (uAt u M) := by
          show (if (M : Int) = M ∧ M < u.length then _ else _) = _
          rw [if_pos ⟨rfl, by omega⟩]
        rw [step]
        have hj' : ∀ p : Nat, b ≤ p → p < M + 1 → ∃ j, k < j ∧ Ends u u.length j p := fun p hp1 hp2 => by
          by_cases q : p = M
          · rw [q]; exact ⟨k + 1, by omega, he0⟩
          · obtain ⟨j, hj1, hj2⟩ := hj p hp1 (by omega)
            exact ⟨j, by omega, hj2⟩
        have hc' : ∀ p : Nat, p < M + 1 → uAt u p = -1 ∨ 0 ≤ uAt u p ∧ uAt u p < ((M + 1 : Nat) : Int) ∨ uAt u p = uAt u M := fun p hp => by
          by_cases q : p = M
          · rw [q]; exact .inr (.inr rfl)
          · have := hc p (by omega)
            omega
        obtain ⟨m', a', q1, q2, q3, q4, q5, q6⟩ := ih (uAt u M) (M + 1) f2 G t (by omega) g2' (by omega) (by omega) hj' hc' ⟨r, er⟩
        exact ⟨m', a', q1, q2, by omega, q4, q5, q6⟩
theorem go_back (hr : inR u) : ∀ (ts : List Int) (m : Nat), rightGo u (rng m) ts = some (rng u.length) → m ≤ u.length → (∀ p : Nat, p < m → uAt u p = -1 ∨ 0 ≤ uAt u p ∧ uAt u p < m) → numGo u m ts = some u.length
  | [], m, h, hm, cl => by
    have e : rng m = rng u.length := Option.some.inj h
    have e2 := congrArg List.length e
    rw [rng_len, rng_len] at e2
    show some m = some u.length
    rw [e2]
  | t :: ts, m, h, hm, cl => by
    have h' : (if t < -1 ∨ t ≥ u.length then none else if (rowM u u.length t).getLast? ≠ some (-1) then none else rightGo u (addM (rng m) (rowM u u.length t).dropLast) ts) = some (rng u.length) := h
    by_cases c1 : t < -1 ∨ t ≥ u.length
    · rw [if_pos c1] at h'; cases h'
    rw [if_neg c1] at h'
    by_cases c2 : (rowM u u.length t).getLast? ≠ some (-1)
    · rw [if_pos c2] at h'; cases h'
    rw [if_neg c2] at h'
    have c2' : (rowM u u.length t).getLast? = some (-1) := Classical.not_not.mp c2
    obtain ⟨k, hk, he⟩ := ends_of hr u.length t (by omega) (by omega) c2'
    have hp : ∃ r, rng u.length = addM (rng m) (rowM u u.length t).dropLast ++ r := go_pre ts _ _ h'
    obtain ⟨m', a', q1, q2, q3, q4, q5, q6⟩ := run_back hr cl (n' := 0) k t m (u.length - m) u.length he (Nat.le_refl _) hm (Nat.le_refl _) hk (fun p h1 h2 => by omega) (fun p hp => (cl p hp).elim .inl fun q => .inr (.inl q)) hp
    rw [q5] at h'
    have ih := go_back hr ts m' h' q4 q6
    show (if (runM u (u.length - m) m t).2 ≠ -1 ∧ ¬ (0 ≤ (runM u (u.length - m) m t).2 ∧ (runM u (u.length - m) m t).2 < m) then none else numGo u (runM u (u.length - m) m t).1 ts) = _
    rw [q1, if_neg (by show ¬ (a' ≠ -1 ∧ ¬ (0 ≤ a' ∧ a' < m)); omega)]
    exact ih
where
  go_pre : ∀ (ts : List Int) (o e : List Int), rightGo u o ts = some e → ∃ r, e = o ++ r
    | [], o, e, h => ⟨[], by rw [List.append_nil]; exact (Option.some.inj h).symm⟩
    | t :: ts, o, e, h => by
      have h' : (if t < -1 ∨ t ≥ u.length then none else if (rowM u u.length t).getLast? ≠ some (-1) then none else rightGo u (addM o (rowM u u.length t).dropLast) ts) = some e := h
      by_cases c1 : t < -1 ∨ t ≥ u.length
      · rw [if_pos c1] at h'; cases h'
      rw [if_neg c1] at h'
      by_cases c2 : (rowM u u.length t).getLast? ≠ some (-1)
      · rw [if_pos c2] at h'; cases h'
      rw [if_neg c2] at h'
      obtain ⟨r, e1⟩ := go_pre ts _ _ h'
      obtain ⟨r2, e2⟩ := add_pre (rowM u u.length t).dropLast o
      exact ⟨r2 ++ r, by rw [e1, e2, List.append_assoc]⟩
theorem right_yes {tops : List Int} (hr : inR u) (h : rightGo u [] tops = some (rng u.length)) : numdM u tops = true := by
  unfold numdM
  have h0 : rightGo u (rng 0) tops = some (rng u.length) := h
  rw [go_back hr tops 0 h0 (Nat.zero_le _) (fun p h => absurd h (Nat.not_lt_zero _))]
  exact decide_eq_true rfl
end

/-! ### a dict walked by its keys, locked -/
section
open PySem PySem.Spec PyProof.Rows L2 Wp
variable {σ : L2.St} {H : Hp} {Q : VK} {te ta : TE} {K : PySem.W.Frag}
theorem lock_ {t : TE} {d : Addr} {kvs : List (Key × V)} (h : H d = some (.dK kvs)) (q : ∀ od, t σ (upd H d (.frz od (.dK kvs))) fun v H' => H' d = some (.frz od (.dK kvs)) ∧ Q v (upd H' d (.dK kvs))) : tLockE t σ H Q := ⟨d, _, h, trivial, q⟩
theorem lcK {g : TG} {tt : TT} {vs : List Nat} (h : ta σ H fun x H1 => ∃ d o, x = .ref d ∧ ((∃ kvs, H1 d = some (.frz o (.dK kvs)) ∧ ∀ D, H1 D = none → LoopC (Itk d o kvs) g tt te vs σ D (fun H => Q (.ref D) H) (upd H1 D (.lst []))) ∨
    ∃ kvs, H1 d = some (.frz o (.dT kvs)) ∧ ∀ D, H1 D = none → LoopC (Itkt d o kvs) g tt te vs σ D (fun H => Q (.ref D) H) (upd H1 D (.lst [])))) : tLc (iKeys ta) g tt te vs σ H Q := h
theorem loopCK {d : Addr} {o : Obj} {kvs : List (Key × V)} {g : TG} {tt : TT} {vs : List Nat} {D : Addr} {Qd : Hp → Prop} (Pv : Nat → Hp → Prop) (h0 : Pv 0 H) (hl : ∀ i H, i ≤ kvs.length → Pv i H → H d = some (.frz o (.dK kvs)))
    (hs : ∀ i k v H, kvs[i]? = some (k, v) → Pv i H → g (kV k) (wipe σ vs) H fun σ2 H2 => wipe σ2 vs = wipe σ vs ∧ tt σ2 H2 fun b H3 =>
      if b = true then te σ2 H3 fun y H4 => ∃ acc, H4 D = some (.lst acc) ∧ acc.length < sizeLine ∧ Pv (i + 1) (upd H4 D (.lst (acc ++ [y]))) else Pv (i + 1) H3) (hd : ∀ H, Pv kvs.length H → Qd H) : LoopC (Itk d o kvs) g tt te vs σ D Qd H := by
  refine ⟨fun i m H => m = kvs.length - i ∧ i ≤ kvs.length ∧ Pv i H, ⟨kvs.length, by simp, Nat.zero_le _, h0⟩, ?_⟩
  rintro i m H ⟨rfl, hi, p⟩
  have q := hl i H hi p
  by_cases hlt : i < kvs.length
  · refine .inr ⟨⟨q, hlt⟩, Pv (i + 1), fun H' p' => ⟨kvs.length - (i + 1), by omega, rfl, hlt, p'⟩, fun x H' y => ?_⟩
    obtain ⟨e, k, v, ek, ex⟩ := y
    subst e
    subst ex
    exact hs i k v _ ek p
  · have e : i = kvs.length := by omega
    subst e
    exact .inl ⟨⟨q, Nat.le_refl _⟩, hd H p⟩
end
end Wx

/-! The tight paper: a mirror over beginnings. -/
namespace Wg
open PySem PySem.Spec PyProof.Rows L2 Wp Wq Wr Wk
/-! ### where piles are cut -/
section
variable {st : List W → Bool} {s : Nat} {p q : List W}
def E (st : List W → Bool) (s : Nat) (p : List W) : Nat → List Nat
  | 0 => [0]
  | h + 1 => if st (p.take (h + 1)) = true ∨ h + 1 - (E st s p h).getLastD 0 = s then E st s p h ++ [h + 1] else E st s p h
theorem E_take : ∀ (h m : Nat), h ≤ m → E st s (p.take m) h = E st s p h
  | 0, _, _ => rfl
  | h + 1, m, hm => by
    unfold E
    rw [E_take h m (by omega), List.take_take, Nat.min_eq_left hm]
theorem E_succ (h : Nat) : E st s p (h + 1) = E st s p h ++ [h + 1] ∨ E st s p (h + 1) = E st s p h := by
  show (if _ then _ else _) = _ ∨ (if _ then _ else _) = _
  split
  · exact .inl rfl
  · exact .inr rfl
theorem E_pre : ∀ {h m : Nat}, h ≤ m → E st s p h <+: E st s p m
  | h, 0, hm => by
    obtain rfl : h = 0 := by omega
    exact List.prefix_refl _
  | h, m + 1, hm => by
    by_cases e : h = m + 1
    · subst e; exact List.prefix_refl _
    · have ih := E_pre (h := h) (m := m) (by omega)
      rcases E_succ (st := st) (s := s) (p := p) m with e | e
      · rw [e]; exact ih.trans (List.prefix_append _ _)
      · rw [e]; exact ih
theorem E_ne (h : Nat) : E st s p h ≠ [] := by
  have := (E_pre (st := st) (s := s) (p := p) (Nat.zero_le h)).length_le
  intro e
  rw [e] at this
  simp [E] at this
/-- rising, ending at most at h -/
theorem E_rise : ∀ (h : Nat), (E st s p h).Pairwise (· < ·) ∧ ∀ x ∈ E st s p h, x ≤ h
  | 0 => by
    refine ⟨?_, fun x hx => ?_⟩
    · show List.Pairwise _ [0]
      simp
    · have : x = 0 := by simpa [E] using hx
      omega
  | h + 1 => by
    have ih := E_rise h
    rcases E_succ (st := st) (s := s) (p := p) h with e | e
    · rw [e]
      refine ⟨List.pairwise_append.mpr ⟨ih.1, by simp, fun a ha b hb => ?_⟩, fun x hx => ?_⟩
      · have := ih.2 a ha
        rw [List.mem_singleton.mp hb]
        omega
      · rcases List.mem_append.mp hx with hx | hx
        · have := ih.2 x hx; omega
        · rw [List.mem_singleton.mp hx]; exact Nat.le_refl _
    · rw [e]
      exact ⟨ih.1, fun x hx => by have := ih.2 x hx; omega⟩
theorem getD_app1 {l r : List Nat} {k d : Nat} (h : k < l.length) : (l ++ r).getD k d = l.getD k d := by
  rw [List.getD_eq_getElem?_getD, List.getD_eq_getElem?_getD, List.getElem?_append_left h]
theorem getD_app2 {l r : List Nat} {k d : Nat} (h : l.length ≤ k) : (l ++ r).getD k d = r.getD (k - l.length) d := by
  rw [List.getD_eq_getElem?_getD, List.getD_eq_getElem?_getD, List.getElem?_append_right h]
theorem last_mem {l : List Nat} (h : l ≠ []) : l.getLastD 0 ∈ l := by
  rw [List.getLastD_eq_getLast?, List.getLast?_eq_some_getLast h]
  exact List.getLast_mem h
/-- steps of at most s -/
theorem E_step (hs : 1 ≤ s) : ∀ (h : Nat), h - (E st s p h).getLastD 0 < s ∧ ∀ k, k + 1 < (E st s p h).length → (E st s p h).getD (k + 1) 0 - (E st s p h).getD k 0 ≤ s
  | 0 => by
    refine ⟨?_, fun k hk => ?_⟩
    · show 0 - 0 < s
      omega
    · simp [E] at hk
  | h + 1 => by
    have ih := E_step hs h
    have rise := E_rise (st := st) (s := s) (p := p) h
    have ne := E_ne (st := st) (s := s) (p := p) h
    have lm := rise.2 _ (last_mem ne)
    by_cases c : st (p.take (h + 1)) = true ∨ h + 1 - (E st s p h).getLastD 0 = s
    · have e : E st s p (h + 1) = E st s p h ++ [h + 1] := if_pos c
      rw [e]
      refine ⟨by simp; omega, fun k hk => ?_⟩
      rw [List.length_append, List.length_singleton] at hk
      by_cases ck : k + 1 < (E st s p h).length
      · rw [getD_app1 ck, getD_app1 (by omega)]
        exact ih.2 k ck
      · have e1 : k + 1 = (E st s p h).length := by omega
        rw [getD_app1 (show k < (E st s p h).length by omega), getD_app2 (by omega), e1, Nat.sub_self]
        have e2 : (E st s p h).getD k 0 = (E st s p h).getLastD 0 := by
          rw [List.getLastD_eq_getLast?, List.getLast?_eq_getElem?, List.getD_eq_getElem?_getD, ← e1]
          rfl
        rw [e2]
        show h + 1 - _ ≤ s
        omega
    · have e : E st s p (h + 1) = E st s p h := if_neg c
      rw [e]
      refine ⟨?_, ih.2⟩
      have : h + 1 - (E st s p h).getLastD 0 ≠ s := fun q => c (.inr q)
      omega
/-! ### cuts -/
def es (st : List W → Bool) (s : Nat) (p : List W) : List Nat := E st s p p.length
def hi (st : List W → Bool) (s : Nat) (p : List W) (k : Nat) : Nat := (es st s p).getD k 0
def cut (st : List W → Bool) (s : Nat) (p : List W) (k : Nat) : List W := p.take (hi st s p k)
def top (st : List W → Bool) (s : Nat) (p : List W) : Nat := (es st s p).length - 1
theorem es_ne : es st s p ≠ [] := E_ne _
theorem es_len : (es st s p).length = top st s p + 1 := by
  have := List.length_pos_iff.mpr (es_ne (st := st) (s := s) (p := p))
  unfold top
  omega
theorem hi_zero : hi st s p 0 = 0 := by
  have h := E_pre (st := st) (s := s) (p := p) (Nat.zero_le p.length)
  obtain ⟨r, hr⟩ := h
  unfold hi es
  rw [← hr]
  rfl
theorem hi_mem {k : Nat} (hk : k ≤ top st s p) : hi st s p k ∈ es st s p := by
  have h : k < (es st s p).length := by rw [es_len]; omega
  unfold hi
  rw [List.getD_eq_getElem?_getD, List.getElem?_eq_getElem h]
  exact List.getElem_mem h
theorem hi_le {k : Nat} (hk : k ≤ top st s p) : hi st s p k ≤ p.length := (E_rise p.length).2 _ (hi_mem hk)
theorem hi_lt {j k : Nat} (hj : j < k) (hk : k ≤ top st s p) : hi st s p j < hi st s p k := by
  have h : k < (es st s p).length := by rw [es_len]; omega
  have h2 : j < (es st s p).length := by omega
  have r := List.pairwise_iff_getElem.mp (show (es st s p).Pairwise (· < ·) from (E_rise (st := st) (s := s) (p := p) p.length).1) j k h2 h hj
  unfold hi
  rw [List.getD_eq_getElem?_getD, List.getD_eq_getElem?_getD, List.getElem?_eq_getElem h, List.getElem?_eq_getElem (show j < (es st s p).length by omega)]
  exact r
theorem cut_zero : cut st s p 0 = [] := by
  unfold cut
  rw [hi_zero, List.take_zero]
theorem cut_len {k : Nat} (hk : k ≤ top st s p) : (cut st s p k).length = hi st s p k := by
  unfold cut
  rw [List.length_take, Nat.min_eq_left (hi_le hk)]
theorem cut_ne {k : Nat} (h1 : 1 ≤ k) (hk : k ≤ top st s p) : cut st s p k ≠ [] := by
  intro e
  have l := cut_len hk
  rw [e] at l
  have := hi_lt (show 0 < k by omega) hk
  rw [hi_zero] at this
  simp at l
  omega
theorem cut_inj {j k : Nat} (hj : j ≤ top st s p) (hk : k ≤ top st s p) (e : cut st s p j = cut st s p k) : j = k := by
  have l := congrArg List.length e
  rw [cut_len hj, cut_len hk] at l
  by_cases c : j < k
  · have := hi_lt c hk; omega
  · by_cases c2 : k < j
    · have := hi_lt c2 hj; omega
    · omega
/-- a cut's own edges -/
theorem E_at : ∀ {h : Nat} {k : Nat}, k < (E st s p h).length → E st s p ((E st s p h).getD k 0) = (E st s p h).take (k + 1)
  | 0, k, hk => by
    have : k = 0 := by simp [E] at hk; omega
    subst this
    rfl
  | h + 1, k, hk => by
    rcases E_succ (st := st) (s := s) (p := p) h with e | e
    · rw [e] at hk ⊢
      rw [List.length_append, List.length_singleton] at hk
      by_cases c : k < (E st s p h).length
      · rw [getD_app1 c, E_at c, List.take_append_of_le_length (by omega)]
      · have e1 : k = (E st s p h).length := by omega
        rw [getD_app2 (by omega), e1, Nat.sub_self]
        show E st s p (h + 1) = _
        rw [e, List.take_of_length_le (by rw [List.length_append, List.length_singleton]; omega)]
    · rw [e] at hk ⊢
      exact E_at hk
theorem es_cut {k : Nat} (hk : k ≤ top st s p) : es st s (cut st s p k) = (es st s p).take (k + 1) := by
  unfold es
  rw [cut_len hk]
  unfold cut
  rw [E_take _ _ (Nat.le_refl _)]
  exact E_at (by have := es_len (st := st) (s := s) (p := p); unfold es at this; omega)
theorem top_cut {k : Nat} (hk : k ≤ top st s p) : top st s (cut st s p k) = k := by
  unfold top
  rw [es_cut hk, List.length_take, es_len]
  omega
theorem cut_cut {j k : Nat} (hj : j ≤ k) (hk : k ≤ top st s p) : cut st s (cut st s p k) j = cut st s p j := by
  have e : hi st s (cut st s p k) j = hi st s p j := by
    unfold hi
    rw [es_cut hk, List.getD_eq_getElem?_getD, List.getD_eq_getElem?_getD, List.getElem?_take_of_lt (by omega)]
  have l : hi st s p j ≤ hi st s p k := by
    by_cases c : j = k
    · subst c; exact Nat.le_refl _
    · exact Nat.le_of_lt (hi_lt (by omega) hk)
  show (cut st s p k).take (hi st s (cut st s p k) j) = _
  rw [e]
  unfold cut
  rw [List.take_take, Nat.min_eq_left l]
/-! ### laying -/
def place (L : List (List W)) (q : List W) : Int := if q = [] then -1 else (L.idxOf q : Int)
def lowOf (st : List W → Bool) (s : Nat) (q : List W) : List W := cut st s q (top st s q - 1)
def pieceOf (st : List W → Bool) (s : Nat) (L : List (List W)) (q : List W) : Pc := (place L (lowOf st s q), q.drop (lowOf st s q).length)
/-- q ends at a cut -/
def IsCut (st : List W → Bool) (s : Nat) (q : List W) : Prop := q ≠ [] ∧ cut st s q (top st s q) = q ∧ 1 ≤ top st s q
theorem low_cut {k : Nat} (hk : k ≤ top st s p) : lowOf st s (cut st s p k) = cut st s p (k - 1) := by
  unfold lowOf
  rw [top_cut hk, cut_cut (by omega) hk]
theorem cut_isCut {k : Nat} (h1 : 1 ≤ k) (hk : k ≤ top st s p) : IsCut st s (cut st s p k) := by
  refine ⟨cut_ne h1 hk, ?_, by rw [top_cut hk]; exact h1⟩
  rw [top_cut hk, cut_cut (Nat.le_refl _) hk]
structure LOk (st : List W → Bool) (s : Nat) (L : List (List W)) : Prop where
  nd : L.Nodup
  ic : ∀ q ∈ L, IsCut st s q
  cl : ∀ q ∈ L, lowOf st s q = [] ∨ lowOf st s q ∈ L
theorem LOk.nil : LOk st s [] := ⟨List.nodup_nil, (fun _ h => nomatch h), (fun _ h => nomatch h)⟩
theorem LOk.down {L : List (List W)} (h : LOk st s L) {k : Nat} (h1 : 2 ≤ k) (hk : k ≤ top st s p) (m : cut st s p k ∈ L) : cut st s p (k - 1) ∈ L := by
  rcases h.cl _ m with e | e
  · rw [low_cut hk] at e
    exact absurd e (cut_ne (by omega) (by omega))
  · rw [low_cut hk] at e
    exact e
/-- how many cuts are there already -/
theorem known {L : List (List W)} (h : LOk st s L) : ∀ n, n ≤ top st s p → ∃ k0, k0 ≤ n ∧ ∀ k, 1 ≤ k → k ≤ n → (cut st s p k ∈ L ↔ k ≤ k0)
  | 0, _ => ⟨0, Nat.le_refl _, fun k h1 h2 => by omega⟩
  | n + 1, hn => by
    by_cases c : cut st s p (n + 1) ∈ L
    · refine ⟨n + 1, Nat.le_refl _, fun k h1 h2 => ⟨fun _ => h2, fun _ => ?_⟩⟩
      have go : ∀ d, d ≤ n → cut st s p (n + 1 - d) ∈ L := by
        intro d
        induction d with
        | zero => intro _; exact c
        | succ d ih =>
          intro hd
          have := h.down (show 2 ≤ n + 1 - d by omega) (by omega) (ih (by omega))
          rw [show n + 1 - d - 1 = n + 1 - (d + 1) by omega] at this
          exact this
      have := go (n + 1 - k) (by omega)
      rw [show n + 1 - (n + 1 - k) = k by omega] at this
      exact this
    · obtain ⟨k0, h0, hk⟩ := known h n (by omega)
      refine ⟨k0, by omega, fun k h1 h2 => ?_⟩
      by_cases e : k = n + 1
      · subst e
        exact ⟨fun m => absurd m c, fun q => by omega⟩
      · exact hk k h1 (by omega)
def freshK (st : List W → Bool) (s : Nat) (L : List (List W)) (p : List W) : List Nat :=
  ((List.range (top st s p)).map fun i => top st s p - i).filter fun k => decide (cut st s p k ∉ L)
theorem fresh_eq {L : List (List W)} {k0 : Nat} (h0 : k0 ≤ top st s p) (hk : ∀ k, 1 ≤ k → k ≤ top st s p → (cut st s p k ∈ L ↔ k ≤ k0)) :
    freshK st s L p = (List.range (top st s p - k0)).map fun i => top st s p - i := by
  unfold freshK
  have e : List.range (top st s p) = List.range (top st s p - k0) ++ (List.range k0).map (top st s p - k0 + ·) := by
    rw [← List.range_add, Nat.sub_add_cancel h0]
  rw [e, List.map_append, List.filter_append]
  have a1 : ((List.range (top st s p - k0)).map fun i => top st s p - i).filter (fun k => decide (cut st s p k ∉ L)) = (List.range (top st s p - k0)).map fun i => top st s p - i := by
    rw [List.filter_eq_self]
    intro k hm
    obtain ⟨i, hi, rfl⟩ := List.mem_map.mp hm
    have hi := List.mem_range.mp hi
    rw [decide_eq_true_eq, hk _ (by omega) (by omega)]
    omega
  have a2 : (((List.range k0).map (top st s p - k0 + ·)).map fun i => top st s p - i).filter (fun k => decide (cut st s p k ∉ L)) = [] := by
    rw [List.filter_eq_nil_iff]
    intro k hm
    obtain ⟨j, hj, rfl⟩ := List.mem_map.mp hm
    obtain ⟨i, hi, rfl⟩ := List.mem_map.mp hj
    have hi := List.mem_range.mp hi
    rw [decide_eq_true_eq, hk _ (by omega) (by omega)]
    omega
  rw [a1, a2, List.append_nil]
def layL (st : List W → Bool) (s : Nat) (L : List (List W)) (p : List W) : List (List W) := L ++ (freshK st s L p).map (cut st s p)
end
end Wg

/-! The tight paper: right, and open to its piles. -/
namespace Wg
open PySem PySem.Spec PyProof.Rows L2 Wp Wq Wr Wk Wo
section
variable {st : List W → Bool} {s : Nat} {p q : List W} {L M : List (List W)}
theorem lay_eq {k0 : Nat} (h0 : k0 ≤ top st s p) (hk : ∀ k, 1 ≤ k → k ≤ top st s p → (cut st s p k ∈ L ↔ k ≤ k0)) :
    layL st s L p = L ++ (List.range (top st s p - k0)).map fun i => cut st s p (top st s p - i) := by
  unfold layL
  rw [fresh_eq h0 hk, List.map_map]
  rfl
theorem mem_lay (h : LOk st s L) : q ∈ layL st s L p ↔ q ∈ L ∨ ∃ k, 1 ≤ k ∧ k ≤ top st s p ∧ q = cut st s p k := by
  obtain ⟨k0, h0, hk⟩ := known (p := p) h _ (Nat.le_refl _)
  rw [lay_eq h0 hk, List.mem_append, List.mem_map]
  constructor
  · rintro (m | ⟨i, hi, rfl⟩)
    · exact .inl m
    · have := List.mem_range.mp hi
      exact .inr ⟨_, by omega, by omega, rfl⟩
  · rintro (m | ⟨k, h1, h2, rfl⟩)
    · exact .inl m
    · by_cases c : k ≤ k0
      · exact .inl ((hk k h1 h2).mpr c)
      · exact .inr ⟨top st s p - k, List.mem_range.mpr (by omega), by rw [show top st s p - (top st s p - k) = k by omega]⟩
theorem lay_ok (h : LOk st s L) (p : List W) : LOk st s (layL st s L p) := by
  obtain ⟨k0, h0, hk⟩ := known (p := p) h _ (Nat.le_refl _)
  refine ⟨?_, fun q hq => ?_, fun q hq => ?_⟩
  · rw [lay_eq h0 hk, List.nodup_append]
    refine ⟨h.nd, ?_, fun a ha b hb e => ?_⟩
    · rw [List.nodup_iff_pairwise_ne, List.pairwise_map]
      refine List.Pairwise.imp_of_mem (fun {i j} hi hj hij e => ?_) (List.pairwise_lt_range)
      have hi := List.mem_range.mp hi
      have hj := List.mem_range.mp hj
      have := cut_inj (by omega) (by omega) e
      omega
    · obtain ⟨i, hi, rfl⟩ := List.mem_map.mp hb
      have hi := List.mem_range.mp hi
      rw [e] at ha
      have := (hk _ (by omega) (by omega)).mp ha
      omega
  · rcases (mem_lay h).mp hq with m | ⟨k, h1, h2, rfl⟩
    · exact h.ic q m
    · exact cut_isCut h1 h2
  · rcases (mem_lay h).mp hq with m | ⟨k, h1, h2, rfl⟩
    · exact (h.cl q m).imp id fun m => (mem_lay h).mpr (.inl m)
    · rw [low_cut h2]
      by_cases c : k = 1
      · left
        rw [c]
        exact cut_zero
      · right
        exact (mem_lay h).mpr (.inr ⟨k - 1, by omega, by omega, rfl⟩)
def tightL (st : List W → Bool) (s : Nat) (Ps : List (List W)) (L : List (List W)) : List (List W) := Ps.foldl (layL st s) L
theorem tight_ok : ∀ {Ps L : List (List W)}, LOk st s L → LOk st s (tightL st s Ps L)
  | [], _, h => h
  | p :: Ps, _, h => tight_ok (Ps := Ps) (lay_ok h p)
theorem lay_pre : L <+: layL st s L p := List.prefix_append _ _
theorem tight_pre : ∀ {Ps L : List (List W)}, L <+: tightL st s Ps L
  | [], _ => List.prefix_refl _
  | p :: Ps, L => (lay_pre (p := p)).trans (tight_pre (Ps := Ps))
/-! ### places -/
theorem place_nil : place L [] = -1 := if_pos rfl
theorem place_mem (h : q ≠ []) : place L q = (L.idxOf q : Int) := if_neg h
theorem place_pre (hp : L <+: M) (h : q = [] ∨ q ∈ L) : place M q = place L q := by
  obtain ⟨r, rfl⟩ := hp
  by_cases c : q = []
  · rw [c, place_nil, place_nil]
  · rw [place_mem c, place_mem c, List.idxOf_append, if_pos (h.resolve_left c)]
theorem place_lt (h : q = [] ∨ q ∈ L) : -1 ≤ place L q ∧ place L q < L.length := by
  by_cases c : q = []
  · rw [c, place_nil]; omega
  · rw [place_mem c]
    have := List.idxOf_lt_length_of_mem (h.resolve_left c)
    omega
theorem place_ge (c : q ≠ []) : 0 ≤ place L q := by rw [place_mem c]; omega
theorem place_get (c : q ≠ []) (h : q ∈ L) : L[(place L q).toNat]? = some q := by
  rw [place_mem c, Int.toNat_natCast, List.getElem?_eq_getElem (List.idxOf_lt_length_of_mem h), List.getElem_idxOf]
theorem place_at {i : Nat} (nd : L.Nodup) (h : L[i]? = some q) (c : q ≠ []) : place L q = (i : Int) := by
  rw [place_mem c]
  obtain ⟨hi, e⟩ := List.getElem?_eq_some_iff.mp h
  have := nd.idxOf_getElem i hi
  rw [e] at this
  rw [this]
/-! ### the pieces -/
def piecesOf (st : List W → Bool) (s : Nat) (L : List (List W)) : List Pc := L.map (pieceOf st s L)
theorem piece_pre (h : LOk st s L) (hp : L <+: M) (m : q ∈ L) : pieceOf st s M q = pieceOf st s L q := by
  unfold pieceOf
  rw [place_pre hp (h.cl q m)]
def newPc (st : List W → Bool) (s : Nat) (L : List (List W)) (p : List W) (k : Nat) : Pc := (place L (cut st s p (k - 1)), (p.drop (hi st s p (k - 1))).take (hi st s p k - hi st s p (k - 1)))
theorem piece_cut {k : Nat} (h1 : 1 ≤ k) (hk : k ≤ top st s p) : pieceOf st s M (cut st s p k) = newPc st s M p k := by
  unfold pieceOf newPc
  rw [low_cut hk, cut_len (by omega)]
  congr 1
  unfold cut
  rw [List.drop_take]
theorem pieces_lay (h : LOk st s L) : piecesOf st s (layL st s L p) = piecesOf st s L ++ (freshK st s L p).map (newPc st s (layL st s L p) p) := by
  obtain ⟨k0, h0, hk⟩ := known (p := p) h _ (Nat.le_refl _)
  unfold piecesOf
  have e : layL st s L p = L ++ (freshK st s L p).map (cut st s p) := rfl
  generalize hM : layL st s L p = M at *
  conv => lhs; arg 2; rw [e]
  rw [List.map_append]
  congr 1
  · exact List.map_congr_left fun q hq => piece_pre h (by rw [e]; exact List.prefix_append _ _) hq
  · rw [List.map_map, fresh_eq h0 hk, List.map_map, List.map_map]
    refine List.map_congr_left fun i hi => ?_
    have := List.mem_range.mp hi
    exact piece_cut (k := top st s p - i) (by omega) (by omega)
theorem low_pre (h : IsCut st s q) : ∃ r, lowOf st s q ++ r = q ∧ q.drop (lowOf st s q).length = r ∧ 1 ≤ r.length ∧ (1 ≤ s → r.length ≤ s) := by
  obtain ⟨hn, hc, h1⟩ := h
  have hl : (lowOf st s q).length = hi st s q (top st s q - 1) := cut_len (by omega)
  have e : lowOf st s q = q.take (hi st s q (top st s q - 1)) := rfl
  have ht : hi st s q (top st s q) = q.length := by
    rw [← cut_len (Nat.le_refl _), hc]
  have hlt := hi_lt (show top st s q - 1 < top st s q by omega) (Nat.le_refl (top st s q))
  refine ⟨q.drop (hi st s q (top st s q - 1)), by rw [e, List.take_append_drop], by rw [hl], ?_, fun hs => ?_⟩
  · rw [List.length_drop]; omega
  · rw [List.length_drop]
    have stp := (E_step (st := st) (s := s) (p := q) hs q.length).2 (top st s q - 1) (by have := es_len (st := st) (s := s) (p := q); unfold es at this; omega)
    rw [show top st s q - 1 + 1 = top st s q by omega] at stp
    have s2 : hi st s q (top st s q) - hi st s q (top st s q - 1) ≤ s := stp
    omega
theorem down_all (h : LOk st s L) (m : q ∈ L) : ∀ k, 1 ≤ k → k ≤ top st s q → cut st s q k ∈ L := by
  have hc := (h.ic q m).2.1
  have go : ∀ d, d < top st s q → cut st s q (top st s q - d) ∈ L := by
    intro d
    induction d with
    | zero => intro _; rw [Nat.sub_zero, hc]; exact m
    | succ d ih =>
      intro hd
      have := h.down (show 2 ≤ top st s q - d by omega) (by omega) (ih (by omega))
      rw [show top st s q - d - 1 = top st s q - (d + 1) by omega] at this
      exact this
  intro k h1 h2
  have := go (top st s q - k) (by omega)
  rw [show top st s q - (top st s q - k) = k by omega] at this
  exact this
theorem opens_cut (h : LOk st s L) (m : q ∈ L) : ∀ k, k ≤ top st s q → OpensN (piecesOf st s L) k (place L (cut st s q k)) (cut st s q k)
  | 0, _ => by
    rw [cut_zero, place_nil]
    exact .nil
  | k + 1, hk => by
    have ih := opens_cut h m k (by omega)
    have mc := down_all h m (k + 1) (by omega) hk
    have ic := h.ic _ mc
    obtain ⟨r, e1, e2, _⟩ := low_pre ic
    have el : lowOf st s (cut st s q (k + 1)) = cut st s q k := low_cut hk
    have hg : (piecesOf st s L)[(place L (cut st s q (k + 1))).toNat]? = some (pieceOf st s L (cut st s q (k + 1))) := by
      unfold piecesOf
      rw [List.getElem?_map, place_get ic.1 mc]
      rfl
    unfold pieceOf at hg
    rw [e2, el] at hg
    rw [el] at e1
    have := OpensN.cons hg (place_ge ic.1) ih
    rw [e1] at this
    exact this
theorem opens (h : LOk st s L) (m : q = [] ∨ q ∈ L) : ∃ n, n ≤ q.length ∧ OpensN (piecesOf st s L) n (place L q) q := by
  by_cases c : q = []
  · subst c
    refine ⟨0, Nat.le_refl _, ?_⟩
    rw [place_nil]
    exact .nil
  · have m := m.resolve_left c
    have ho := opens_cut h m (top st s q) (Nat.le_refl _)
    rw [(h.ic q m).2.1] at ho
    refine ⟨_, ?_, ho⟩
    have := (E_rise (st := st) (s := s) (p := q) q.length).1
    have h2 : ∀ k, k ≤ top st s q → k ≤ hi st s q k := by
      intro k
      induction k with
      | zero => intro _; omega
      | succ k ih =>
        intro hk
        have := ih (by omega)
        have := hi_lt (show k < k + 1 by omega) hk
        omega
    exact Nat.le_trans (h2 _ (Nat.le_refl _)) (hi_le (Nat.le_refl _))
/-! ### numbered as they are come to -/
def undersOf (st : List W → Bool) (s : Nat) (L : List (List W)) : List Int := (piecesOf st s L).map (·.1)
theorem unders_len : (undersOf st s L).length = L.length := by unfold undersOf piecesOf; rw [List.length_map, List.length_map]
theorem unders_at {i : Nat} (hp : L <+: M) (h : LOk st s L) (e : L[i]? = some q) : Wx.uAt (undersOf st s M) (i : Int) = place L (lowOf st s q) := by
  obtain ⟨r, rfl⟩ := hp
  unfold Wx.uAt undersOf piecesOf
  have hi := (List.getElem?_eq_some_iff.mp e).1
  rw [Int.toNat_natCast, List.getD_eq_getElem?_getD, List.getElem?_map, List.getElem?_map, List.getElem?_append_left hi, e]
  show place _ _ = _
  exact place_pre (List.prefix_append _ _) (h.cl q (List.mem_of_getElem? e))
theorem full (h : st p = true) (hn : p ≠ []) : cut st s p (top st s p) = p ∧ 1 ≤ top st s p := by
  have hl : 1 ≤ p.length := List.length_pos_iff.mpr hn
  have e : es st s p = E st s p (p.length - 1) ++ [p.length] := by
    unfold es
    obtain ⟨n, hn⟩ : ∃ n, p.length = n + 1 := ⟨p.length - 1, by omega⟩
    rw [hn]
    show E st s p (n + 1) = E st s p (n + 1 - 1) ++ [n + 1]
    have : E st s p (n + 1) = E st s p n ++ [n + 1] := if_pos (.inl (by rw [← hn, List.take_length]; exact h))
    rw [this, Nat.add_sub_cancel]
  have hne := List.length_pos_iff.mpr (E_ne (st := st) (s := s) (p := p) (p.length - 1))
  have ht : top st s p = (E st s p (p.length - 1)).length := by
    unfold top
    rw [e, List.length_append, List.length_singleton, Nat.add_sub_cancel]
  refine ⟨?_, by omega⟩
  have : hi st s p (top st s p) = p.length := by
    unfold hi
    rw [e, ht, getD_app2 (Nat.le_refl _), Nat.sub_self]
    rfl
  unfold cut
  rw [this, List.take_length]
theorem run_stop {u : List Int} {f m : Nat} {a : Int} (h : a ≠ m) : Wx.runM u f m a = (m, a) := by
  cases f with
  | zero => rfl
  | succ f =>
    show (if a = m ∧ m < u.length then _ else _) = _
    rw [if_neg fun q => h q.1]
theorem run_go {u : List Int} {f m : Nat} (h : m < u.length) : Wx.runM u (f + 1) m m = Wx.runM u f (m + 1) (Wx.uAt u m) := by
  show (if (m : Int) = m ∧ m < u.length then _ else _) = _
  rw [if_pos ⟨rfl, h⟩]
theorem numbered : ∀ (Ps L : List (List W)), LOk st s L → (∀ p ∈ Ps, p ≠ [] → st p = true) → Wx.numGo (undersOf st s (tightL st s Ps L)) L.length (Ps.map (place (tightL st s Ps L))) = some (tightL st s Ps L).length
  | [], L, _, _ => rfl
  | p :: Ps, L, h, hst => by
    have h1 := lay_ok h p
    have hp1 : layL st s L p <+: tightL st s Ps (layL st s L p) := tight_pre
    have ih := numbered Ps (layL st s L p) h1 fun q hq => hst q (List.mem_cons_of_mem _ hq)
    have eF : tightL st s (p :: Ps) L = tightL st s Ps (layL st s L p) := rfl
    rw [eF]
    generalize tightL st s Ps (layL st s L p) = F at *
    rw [List.map_cons]
    obtain ⟨k0, h0, hk⟩ := known (p := p) h _ (Nat.le_refl _)
    have el := lay_eq h0 hk
    have ll : (layL st s L p).length = L.length + (top st s p - k0) := by rw [el, List.length_append, List.length_map, List.length_range]
    have lF := hp1.length_le
    have hu : (undersOf st s F).length = F.length := unders_len
    -- the way down
    have lowk : cut st s p k0 = [] ∨ cut st s p k0 ∈ L := by
      by_cases c : k0 = 0
      · left; rw [c]; exact cut_zero
      · right; exact (hk k0 (by omega) h0).mpr (Nat.le_refl _)
    have pl := place_lt lowk
    have at_ : ∀ i, i < top st s p - k0 → (layL st s L p)[L.length + i]? = some (cut st s p (top st s p - i)) := by
      intro i hi
      rw [el, List.getElem?_append_right (by omega), Nat.add_sub_cancel_left, List.getElem?_map, List.getElem?_range hi]
      rfl
    have down : ∀ (j i fuel : Nat), i + j = top st s p - k0 → j ≤ fuel → Wx.runM (undersOf st s F) fuel (L.length + i) (if i < top st s p - k0 then ((L.length + i : Nat) : Int) else place L (cut st s p k0)) = (L.length + (top st s p - k0), place L (cut st s p k0)) := by
      intro j
      induction j with
      | zero =>
        intro i fuel hi _
        rw [if_neg (by omega), run_stop (by omega), show L.length + i = L.length + (top st s p - k0) by omega]
      | succ j ihj =>
        intro i fuel hi hf
        rw [if_pos (by omega)]
        obtain ⟨f', rfl⟩ : ∃ f', fuel = f' + 1 := ⟨fuel - 1, by omega⟩
        rw [run_go (by rw [hu]; omega), unders_at hp1 h1 (at_ i (by omega)), low_cut (by omega)]
        have e2 : place (layL st s L p) (cut st s p (top st s p - i - 1)) = if i + 1 < top st s p - k0 then ((L.length + (i + 1) : Nat) : Int) else place L (cut st s p k0) := by
          by_cases c : i + 1 < top st s p - k0
          · rw [if_pos c]
            have a2 := at_ (i + 1) c
            rw [show top st s p - i - 1 = top st s p - (i + 1) by omega]
            exact place_at h1.nd a2 (cut_ne (by omega) (by omega))
          · rw [if_neg c, show top st s p - i - 1 = k0 by omega]
            exact place_pre lay_pre lowk
        rw [e2]
        exact ihj (i + 1) f' (by omega) (by omega)
    have first : place F p = if 0 < top st s p - k0 then ((L.length + 0 : Nat) : Int) else place L (cut st s p k0) := by
      by_cases c : p = []
      · subst c
        have t0 : top st s ([] : List W) = 0 := rfl
        rw [t0] at h0 ⊢
        rw [if_neg (by omega), place_nil, show k0 = 0 by omega, cut_zero, place_nil]
      · obtain ⟨fc, f1⟩ := full (s := s) (hst p List.mem_cons_self c) c
        have pm : p ∈ layL st s L p := (mem_lay h).mpr (.inr ⟨top st s p, f1, Nat.le_refl _, fc.symm⟩)
        rw [place_pre hp1 (.inr pm)]
        by_cases c2 : 0 < top st s p - k0
        · rw [if_pos c2]
          have a2 := at_ 0 c2
          rw [Nat.sub_zero, fc] at a2
          exact place_at h1.nd a2 c
        · rw [if_neg c2, show k0 = top st s p by omega, fc]
          rw [show k0 = top st s p by omega, fc] at lowk
          exact place_pre lay_pre lowk
    have run := down (top st s p - k0) 0 ((undersOf st s F).length - L.length) (by omega) (by rw [hu]; omega)
    rw [← first, Nat.add_zero] at run
    show (if (Wx.runM (undersOf st s F) ((undersOf st s F).length - L.length) L.length (place F p)).2 ≠ -1 ∧ ¬ (0 ≤ (Wx.runM (undersOf st s F) ((undersOf st s F).length - L.length) L.length (place F p)).2 ∧ (Wx.runM (undersOf st s F) ((undersOf st s F).length - L.length) L.length (place F p)).2 < L.length) then none else Wx.numGo (undersOf st s F) (Wx.runM (undersOf st s F) ((undersOf st s F).length - L.length) L.length (place F p)).1 (Ps.map (place F))) = some F.length
    rw [run]
    dsimp only
    rw [if_neg (by omega), ← ll]
    exact ih
end
end Wg

/-! Bags; lists of drawn worths. -/
namespace Wb
open PySem PySem.Spec PyProof.Rows L2 Wp Wq Wr
def Bag (H : Hp) (b : Addr) (n : Nat) : Prop := ∃ x y z : Int, H b = some (.lst [.int x, .int y, .int z]) ∧ 0 ≤ y ∧ y < 4611686018427387904 ∧ 0 ≤ z ∧ z ≤ n
theorem Bag.mono {H : Hp} {b : Addr} {n m : Nat} (h : Bag H b n) (k : n ≤ m) : Bag H b m := by
  obtain ⟨x, y, z, h1, h2, h3, h4, h5⟩ := h
  exact ⟨x, y, z, h1, h2, h3, h4, by omega⟩
theorem Bag.ne_new {H : Hp} {b p : Addr} {n : Nat} (h : Bag H b n) (k : H p = none) : p ≠ b := by
  obtain ⟨x, y, z, h1, h⟩ := h
  exact (ne_of_none h1 k).symm
theorem Bag.keep {H H' : Hp} {b : Addr} {n : Nat} (h : Bag H b n) (k : Same H H') : Bag H' b n := by
  obtain ⟨x, y, z, h1, h⟩ := h
  exact ⟨x, y, z, k _ _ h1, h⟩
theorem Bag.upd {H : Hp} {b r : Addr} {n : Nat} {o : HO} (h : Bag H b n) (k : r ≠ b) : Bag (L2.upd H r o) b n := by
  obtain ⟨x, y, z, h1, h⟩ := h
  exact ⟨x, y, z, by rw [upd_ne k.symm]; exact h1, h⟩
theorem Bag.ks {H H' : Hp} {b : Addr} {n : Nat} (h : Bag H b n) (k : Kp b H H') : Ks [b] H H' := by
  obtain ⟨x, y, z, h1, h⟩ := h
  exact Ks.kp k h1 List.mem_cons_self
theorem Bag.at {H H' : Hp} {b : Addr} {n : Nat} (h : Bag H b n) (k : ∀ o, H b = some o → H' b = some o) : Bag H' b n := by
  obtain ⟨x, y, z, h1, h⟩ := h
  exact ⟨x, y, z, k _ h1, h⟩
theorem small {n : Nat} (h : n < 1000000) : n < sizeLine := Nat.lt_of_lt_of_le h (by decide)
section
variable {S : List Addr} {H H1 H2 : Hp} {a b D : Addr} {σ : L2.St} {g : TG} {te : TE} {vs : List Nat} {Qd : Hp → Prop}
/-- a new list is not looked at by what stood -/
theorem Ks.drop (x : Ks (D :: S) H1 H2) (s : Ks S H H1) (n : H D = none) : Ks S H H2 :=
  ⟨fun a o na e => x.keep a o (fun q => (List.mem_cons.mp q).elim (fun q => by rw [q, n] at e; cases e) na) (s.keep a o na e), s.tk.trans x.tk⟩
theorem Ks.kpOf (x : Ks [b] H H1) : Kp b H H1 := fun a o n e => x.keep a o (fun q => n (List.mem_singleton.mp q)) e
theorem Ks.kpNew (x : Ks (D :: [b]) H1 H2) (s : Same H H1) (n : H D = none) : Kp b H H2 := Ks.kpOf (Ks.drop x (Ks.same s) n)
theorem Ks.updD {o : HO} {bs : List V} (h : H D = some (.lst bs)) : Ks [D] H (upd H D o) := Ks.upd h List.mem_cons_self
/-- [.. for j in range(m)], a bag and a new list of worths -/
theorem lc_worths {m n inc : Nat} {ok : W → Prop} (hm : m < 1000) (hb : Bag H b n) (hD : H D = none)
    (body : ∀ (j : Nat) (H1 : Hp), j < m → ∀ R : V → Hp → Prop, Bag H1 b (n + inc * j) → Ks [D, b] (upd H D (.lst [])) H1 → (∀ v z H2, IsW H2 v z → ok z → Bag H2 b (n + inc * j + inc) → Kp b H1 H2 → R v H2) →
      g (.int (0 + (j : Int))) (wipe σ vs) H1 fun σ2 H2 => wipe σ2 vs = wipe σ vs ∧ te σ2 H2 R)
    (done : ∀ (H1 : Hp) (acc : List V) (ws : List W), Bag H1 b (n + inc * m) → Ks [b] H H1 → H1 D = some (.lst acc) → Pile H1 acc ws → ws.length = m → (∀ z ∈ ws, ok z) → Qd H1) :
    LoopC (Itr 0 m) g tYes te vs σ D Qd (upd H D (.lst [])) := by
  have hDb : D ≠ b := hb.ne_new hD
  refine loopCR (fun j H' => Bag H' b (n + inc * j) ∧ Ks [D, b] (upd H D (.lst [])) H' ∧ ∃ acc ws, H' D = some (.lst acc) ∧ Pile H' acc ws ∧ ws.length = j ∧ ∀ z ∈ ws, ok z) ⟨hb.keep (same_new hD), Ks.refl, [], [], upd_same, Pile.nil, rfl, (fun _ h => nomatch h)⟩ ?_ ?_
  · rintro j H3 hj ⟨hb3, k3, acc, ws, hD3, p3, wl, wok⟩
    refine body j H3 hj (fun y H4 => ∃ acc, H4 D = some (.lst acc) ∧ acc.length < sizeLine ∧ _) hb3 k3 fun v z H4 wz oz hb4 k4 => ?_
    have tk4 : Tk H3 H4 := (hb3.ks k4).tk
    have hD4 := k4 _ _ hDb hD3
    refine ⟨acc, hD4, ?_, ?_, ?_, _, _, upd_same, (Pile.app (p3.keep tk4) (Pile.one wz)).keep (Tk.lst hD4), ?_, ?_⟩
    · rw [p3.len]; exact small (by omega)
    · rw [Nat.mul_succ, ← Nat.add_assoc]
      exact hb4.upd hDb
    · exact k3.trans ((Ks.mono (hb3.ks k4) (by simp)).trans (Ks.upd hD4 List.mem_cons_self))
    · rw [List.length_append, wl] <;> rfl
    · intro x hx
      rcases List.mem_append.mp hx with hx | hx
      · exact wok x hx
      · rw [List.mem_singleton.mp hx]; exact oz
  · rintro H3 ⟨hb3, k3, acc, ws, hD3, p3, wl, wok⟩
    exact done H3 acc ws hb3 (Ks.drop k3 (Ks.same (same_new hD)) hD) hD3 p3 wl wok
end
end Wb

/-! Lists of piles as data; sorted. -/
namespace Wc
open PySem PySem.Spec PyProof.Rows L2 Wp Wq Wr Wk Wb
def lD (p : List W) : PyData := .list (p.map wD)
def PsOk (Ps : List (List W)) : Prop := ∀ q ∈ Ps, q.length ≤ 400 ∧ ∀ z ∈ q, Wok z
section
variable {S : List Addr} {H H1 H2 : Hp} {a b D : Addr} {K : PySem.W.Frag} {ys : List V} {Ps : List (List W)} {v : V} {p : List W}
theorem IsLs.dp (h : IsLs S H v p) : Dp K H v (lD p) := by
  obtain ⟨l, vs, rfl, hl, hp, _⟩ := h
  exact hp.dp (SqL.of hl)
theorem Lists.dpAll (h : Lists S H ys Ps) : DpAll K H ys (Ps.map lD) := by
  unfold Lists at h
  induction h with
  | nil => exact .nil
  | cons r t ih => exact .cons (IsLs.dp r) ih
theorem Lists.dp (h : Lists S H ys Ps) (e : SqL K H a ys) : Dp K H (.ref a) (.list (Ps.map lD)) := .lst e (Lists.dpAll h)
theorem lD_lay (h : ∀ z ∈ p, Wok z) : (lD p).canLay0 = true := by
  unfold lD
  simp only [PyData.canLay0]
  exact wDs_lay p h
theorem lDs_lay : ∀ Ps : List (List W), PsOk Ps → PyData.canLayAll0 (Ps.map lD) = true
  | [], _ => by simp [PyData.canLayAll0]
  | p :: Ps, h => by
    rw [List.map_cons]
    simp only [PyData.canLayAll0]
    rw [lD_lay (h p List.mem_cons_self).2, lDs_lay Ps (fun x hx => h x (List.mem_cons_of_mem _ hx))] <;> rfl
theorem lD_depth (p : List W) : (lD p).depth ≤ 2 := by
  have := wDs_depth p
  unfold lD
  simp only [PyData.depth]
  omega
theorem lDs_depth : ∀ Ps : List (List W), PyData.depthAll (Ps.map lD) ≤ 2
  | [] => by simp [PyData.depthAll]
  | p :: Ps => by
    have h := lDs_depth Ps
    have h2 := lD_depth p
    rw [List.map_cons]
    simp only [PyData.depthAll]
    omega
theorem lDs_shaped (h : PsOk Ps) : SeqAt.shaped (.list (Ps.map lD)) = true := by
  have h2 := lDs_depth Ps
  have h3 : (PyData.list (Ps.map lD)).depth ≤ 64 := by
    simp only [PyData.depth]
    omega
  show (PyData.canLay0 (.list (Ps.map lD)) && decide ((PyData.list (Ps.map lD)).depth ≤ 64)) = true
  rw [decide_eq_true h3, Bool.and_true]
  simp only [PyData.canLay0]
  exact lDs_lay Ps h
/-! ### sorted -/
def RB (S : List Addr) (H : Hp) (b : Ws.VD) (p : List W) : Prop := b.2 = lD p ∧ IsLs S H b.1 p
theorem lists_bs (h : Lists S H ys Ps) : ∃ bs : List Ws.VD, bs.map (·.1) = ys ∧ Paired (RB S H) bs Ps := by
  unfold Lists at h
  induction h with
  | nil => exact ⟨[], rfl, .nil⟩
  | @cons x p l1 l2 r t ih =>
    obtain ⟨bs, e, q⟩ := ih
    exact ⟨(x, lD p) :: bs, by rw [List.map_cons, e], .cons ⟨rfl, r⟩ q⟩
theorem bs_lists {bs : List Ws.VD} (h : Paired (RB S H) bs Ps) : Lists S H (bs.map (·.1)) Ps := by
  induction h with
  | nil => exact .nil
  | cons r t ih => exact .cons r.2 ih
theorem perm_pair {α β : Type} {R : α → β → Prop} {l1 l1' : List α} (h : l1'.Perm l1) : ∀ {l2 : List β}, Paired R l1 l2 → ∃ l2', l2'.Perm l2 ∧ Paired R l1' l2' := by
  induction h with
  | nil => intro l2 q; cases q; exact ⟨[], .nil, .nil⟩
  | cons x _ ih =>
    intro l2 q
    cases q with
    | @cons _ y _ t r q =>
      obtain ⟨t', ht, qt⟩ := ih q
      exact ⟨y :: t', .cons _ ht, .cons r qt⟩
  | swap x y l =>
    intro l2 q
    cases q with
    | cons r q => cases q with
      | cons r2 q => exact ⟨_, .swap _ _ _, .cons r2 (.cons r q)⟩
  | trans _ _ ih1 ih2 =>
    intro l2 q
    obtain ⟨m, hm, qm⟩ := ih2 q
    obtain ⟨l', hl, ql⟩ := ih1 qm
    exact ⟨l', hl.trans hm, ql⟩
theorem le_lt {a b : Ws.VD} {p q : List W} (ha : a.2 = lD p) (hb : b.2 = lD q) (h : Ws.leD a b = true) : ltR q p = false := by
  have h2 : (!PySem.W.dataLt b.2 a.2) = true := h
  rw [ha, hb] at h2
  have e : PySem.W.dataLt (lD q) (lD p) = ltR q p := PySem.W.dataLt_list _ _
  rw [e] at h2
  cases c : ltR q p with
  | false => rfl
  | true => rw [c] at h2; cases h2
theorem pair_wise {bs : List Ws.VD} (h : Paired (RB S H) bs Ps) (hs : bs.Pairwise (fun a b => Ws.leD a b = true)) : Ps.Pairwise (fun a b => ltR b a = false) := by
  induction h with
  | nil => exact .nil
  | @cons x p l1 l2 r t ih =>
    rw [List.pairwise_cons] at hs ⊢
    refine ⟨fun q hq => ?_, ih hs.2⟩
    obtain ⟨i, hi⟩ := List.mem_iff_getElem?.mp hq
    obtain ⟨b, hb, rb⟩ := pair_at t hi
    exact le_lt r.1 rb.1 (hs.1 b (List.mem_of_getElem? hb))
theorem leD_total : PySem.W.TotalLe Ws.leD := PySem.W.sortLe_total _ false _
theorem sorted_bs {bs : List Ws.VD} (h : Paired (RB S H) bs Ps) : ∃ Ps', Ps'.Perm Ps ∧ Lists S H ((bs.mergeSort Ws.leD).map (·.1)) Ps' ∧ Ps'.Pairwise (fun a b => ltR b a = false) := by
  obtain ⟨Ps', hp, q⟩ := perm_pair (List.mergeSort_perm bs Ws.leD) h
  exact ⟨Ps', hp, bs_lists q, pair_wise q (PySem.W.sort_pairwise leD_total bs)⟩
theorem bs_dp {bs : List Ws.VD} (h : Paired (RB S H) bs Ps) : ∀ b ∈ bs, Dp K H b.1 b.2 := fun b hb => by
  obtain ⟨i, hi⟩ := List.mem_iff_getElem?.mp hb
  obtain ⟨p, _, e, r⟩ := pair_at1 h hi
  rw [e]
  exact IsLs.dp r
theorem alikeL : ∀ (p q : List W), PySem.W.alikeAll (p.map wD) (q.map wD) = true
  | [], _ => by simp [PySem.W.alikeAll]
  | _ :: _, [] => by simp [PySem.W.alikeAll]
  | x :: p, y :: q => by
    rw [List.map_cons, List.map_cons]
    simp only [PySem.W.alikeAll]
    rw [alikeW, alikeL p q] <;> rfl
theorem bs_alike {bs : List Ws.VD} (h : Paired (RB S H) bs Ps) : PySem.W.AllAlike (bs.map (·.2)) := by
  intro d hd d' hd'
  obtain ⟨b, hb, rfl⟩ := List.mem_map.mp hd
  obtain ⟨b', hb', rfl⟩ := List.mem_map.mp hd'
  obtain ⟨i, hi⟩ := List.mem_iff_getElem?.mp hb
  obtain ⟨j, hj⟩ := List.mem_iff_getElem?.mp hb'
  obtain ⟨p, _, e, _⟩ := pair_at1 h hi
  obtain ⟨q, _, e', _⟩ := pair_at1 h hj
  rw [e, e']
  unfold lD
  simp only [PySem.W.alike]
  exact alikeL p q
theorem bs_sortable {bs : List Ws.VD} (h : Paired (RB S H) bs Ps) : PySem.W.Sortable (bs.map (·.2)) := .inr fun d hd => by
  obtain ⟨b, hb, rfl⟩ := List.mem_map.mp hd
  obtain ⟨i, hi⟩ := List.mem_iff_getElem?.mp hb
  obtain ⟨p, _, e, _⟩ := pair_at1 h hi
  rw [e]
  exact ⟨(fun q => nomatch q), fun xs q => nomatch q⟩
theorem bs_depth {bs : List Ws.VD} (h : Paired (RB S H) bs Ps) : ∀ b ∈ bs, b.2.depth ≤ 60 := fun b hb => by
  obtain ⟨i, hi⟩ := List.mem_iff_getElem?.mp hb
  obtain ⟨p, _, e, _⟩ := pair_at1 h hi
  rw [e]
  exact Nat.le_trans (lD_depth p) (by decide)
/-- the sorted list of piles -/
theorem sort_lists {Q : VK} {X : List V} (h : Lists S H ys Ps) (e : X = [.ref a]) (hs : SqL K H a ys) (q : ∀ (q : Addr) (ys' : List V) (Ps' : List (List W)), H q = none → Ps'.Perm Ps → Lists S H ys' Ps' → Ps'.Pairwise (fun a b => ltR b a = false) → Q (.ref q) (upd H q (.lst ys'))) : Ws.rSortD K X H Q := by
  obtain ⟨bs, eb, hb⟩ := lists_bs h
  obtain ⟨Ps', hp, L, hw⟩ := sorted_bs hb
  exact ⟨a, bs, e, by rw [eb]; exact hs, bs_dp hb, bs_alike hb, bs_sortable hb, bs_depth hb, fun p hp0 => q p _ Ps' hp0 hp L hw⟩
end
/-! ### sums -/
theorem sumL_snoc : ∀ (l : List (List W)) (prev p : List W), sumL prev (l ++ [p]) = sumL prev l + (p.length - lcp (l.getLastD prev) p)
  | [], prev, p => by
    show (p.length - lcp prev p) + 0 = 0 + _
    rw [Nat.add_zero, Nat.zero_add]
    rfl
  | q :: l, prev, p => by
    show (q.length - lcp prev q) + sumL q (l ++ [p]) = (q.length - lcp prev q) + sumL q l + _
    rw [sumL_snoc l q p, Nat.add_assoc]
    congr 3
    cases l <;> simp [List.getLastD]
theorem lcp_step : ∀ {a b : List W} {m : Nat}, m ≤ lcp a b → (m < lcp a b ↔ ∃ z, a[m]? = some z ∧ b[m]? = some z)
  | [], b, m, h => by
    have e : lcp [] b = 0 := lcp_nil b
    rw [e] at h ⊢
    simp
  | x :: xs, [], m, h => by
    have e : lcp (x :: xs) [] = 0 := rfl
    rw [e] at h ⊢
    simp
  | x :: xs, y :: ys, m, h => by
    rw [lcp_cons] at h ⊢
    by_cases c : x = y
    · rw [if_pos c] at h ⊢
      subst c
      cases m with
      | zero => simp
      | succ m =>
        have ih := lcp_step (a := xs) (b := ys) (m := m) (by omega)
        rw [List.getElem?_cons_succ, List.getElem?_cons_succ, ← ih]
        omega
    · rw [if_neg c] at h ⊢
      have e : m = 0 := by omega
      subst e
      simp only [List.getElem?_cons_zero]
      constructor
      · intro q; omega
      · rintro ⟨z, h1, h2⟩
        cases h1
        cases h2
        exact absurd rfl c
theorem cut_drop {xs : List V} {n : Nat} : cutV xs (some (n : Int)) none = xs.drop n := by
  unfold cutV
  rw [show HT.sIx xs.length 0 (some (n : Int)) = min n xs.length from HT.sIx_nat .., show HT.sIx xs.length xs.length none = xs.length from HT.sIx_none ..]
  by_cases h : n ≤ xs.length
  · rw [Nat.min_eq_left h, List.take_of_length_le (by rw [List.length_drop]; omega)]
  · rw [Nat.min_eq_right (by omega), List.drop_of_length_le (Nat.le_refl _), List.drop_of_length_le (by omega), List.take_nil]
theorem Lists.take {S : List Addr} {H : Hp} {ys : List V} {Ps : List (List W)} (h : Lists S H ys Ps) : ∀ n, Lists S H (ys.take n) (Ps.take n) := by
  unfold Lists at *
  induction h with
  | nil => intro n; cases n <;> exact .nil
  | cons r t ih => intro n; cases n with
    | zero => exact .nil
    | succ n => exact .cons r (ih n)
theorem Lists.drop {S : List Addr} {H : Hp} {ys : List V} {Ps : List (List W)} (h : Lists S H ys Ps) : ∀ n, Lists S H (ys.drop n) (Ps.drop n) := by
  unfold Lists at *
  induction h with
  | nil => intro n; cases n <;> exact .nil
  | cons r t ih => intro n; cases n with
    | zero => exact .cons r t
    | succ n => exact ih n
theorem Lists.rev {S : List Addr} {H : Hp} {ys : List V} {Ps : List (List W)} (h : Lists S H ys Ps) : Lists S H ys.reverse Ps.reverse := by
  unfold Lists at *
  induction h with
  | nil => exact .nil
  | cons r t ih =>
    rw [List.reverse_cons, List.reverse_cons]
    exact pair_app ih (.cons r .nil)
theorem revL {σ : L2.St} {H : Hp} {Q : VK} {te : TE} {K : PySem.W.Frag} (h : te σ H fun x H1 => ∃ a xs, x = .ref a ∧ SqL K H1 a xs ∧ ∀ p, H1 p = none → Q (.ref p) (upd H1 p (.lst xs.reverse))) : tRevL K te σ H Q := h
end Wc

/-! More steps: pairs stored, dict comprehensions over a list, zip. -/
namespace Wz
open PySem PySem.Spec PyProof.Rows L2 Wp Wq Wr
section
variable {σ : L2.St} {H : Hp} {Q : VK} {D : Ends} {ta : TA} {te : TE} {g : TG} {tb : TS} {tt : TT} {tk tv : TE} {vs : List Nat} {K : PySem.W.Frag} {a b : Addr} {xs ys : List V} {i j : Nat}
theorem par (h : ta σ H fun us H1 => ∃ v w, us = [v, w] ∧ D.nx ((σ.set i (some v)).set j (some w)) H1) : tPar i j ta D σ H := h
def LoopD (J : It) (g : TG) (tt : TT) (tk tv : TE) (vs : List Nat) (σ : L2.St) (D : Addr) (Qd : Hp → Prop) (H0 : Hp) : Prop := ∃ W : Nat → Nat → Hp → Prop, (∃ m, W 0 m H0) ∧ ∀ i m H, W i m H →
  (J.stop i H ∧ Qd H) ∨ (J.go i H ∧ ∃ Nx : Hp → Prop, (∀ H', Nx H' → ∃ m', m' < m ∧ W (i + 1) m' H') ∧ ∀ x H', J.yld i H x H' → g x (wipe σ vs) H' fun σ2 H2 => wipe σ2 vs = wipe σ vs ∧ tt σ2 H2 fun b H3 =>
    if b = true then tk σ2 H3 fun y H4 => tv σ2 H4 fun z H5 => ∃ kvs k, y = kV k ∧ H5 D = some (.dK kvs) ∧ kvs.length < sizeLine ∧ Nx (upd H5 D (.dK (putK kvs k z))) else Nx H3)
theorem dcL (h : te σ H fun x H1 => ∃ a, x = .ref a ∧ (∃ xs, SqL K H1 a xs) ∧ ∀ D, H1 D = none → LoopD (Itl K a) g tt tk tv vs σ D (fun H => Q (.ref D) H) (upd H1 D (.dK []))) : tDc (iList K te) g tt tk tv vs σ H Q := h
theorem loopDL {D : Addr} {Qd : Hp → Prop} (Pv : Nat → Hp → Prop) (h0 : Pv 0 H) (hl : ∀ i H, i ≤ xs.length → Pv i H → SqL K H a xs)
    (hs : ∀ i x H, xs[i]? = some x → Pv i H → g x (wipe σ vs) H fun σ2 H2 => wipe σ2 vs = wipe σ vs ∧ tt σ2 H2 fun b H3 =>
      if b = true then tk σ2 H3 fun y H4 => tv σ2 H4 fun z H5 => ∃ kvs k, y = kV k ∧ H5 D = some (.dK kvs) ∧ kvs.length < sizeLine ∧ Pv (i + 1) (upd H5 D (.dK (putK kvs k z))) else Pv (i + 1) H3) (hd : ∀ H, Pv xs.length H → Qd H) : LoopD (Itl K a) g tt tk tv vs σ D Qd H := by
  refine ⟨fun i m H => m = xs.length - i ∧ i ≤ xs.length ∧ Pv i H, ⟨xs.length, by simp, Nat.zero_le _, h0⟩, ?_⟩
  rintro i m H ⟨rfl, hi, p⟩
  have q := hl i H hi p
  by_cases hlt : i < xs.length
  · refine .inr ⟨⟨xs, xs[i], q, by simp [hlt]⟩, Pv (i + 1), fun H' p' => ⟨xs.length - (i + 1), by omega, rfl, hlt, p'⟩, fun x H' y => ?_⟩
    obtain ⟨e, y⟩ := y
    subst e
    exact hs i x _ (y xs q) p
  · have e : i = xs.length := by omega
    subst e
    exact .inl ⟨⟨xs, q, Nat.le_refl _⟩, hd H p⟩
theorem forZ (h : ta σ H fun us H1 => ∃ a b xs ys, us = [.ref a, .ref b] ∧ SqL K H1 a xs ∧ SqL K H1 b ys ∧ Loop (Itz K a b) g tb D σ H1) : tFor (iZip K ta) g tb D σ H := h
theorem loopZ (Pv : Nat → L2.St → Hp → Prop) (el : xs.length = ys.length) (h0 : Pv 0 σ H) (hl : ∀ i σ H, i ≤ xs.length → Pv i σ H → SqL K H a xs ∧ SqL K H b ys)
    (hs : ∀ i x y T σ H, xs[i]? = some x → ys[i]? = some y → Pv i σ H → H T = none → g (.ref T) σ (upd H T (.tup [x, y])) fun σ2 H2 => tb { D with nx := Pv (i + 1), ct := Pv (i + 1), bk := D.nx } σ2 H2) (hd : ∀ σ H, Pv xs.length σ H → D.nx σ H) : Loop (Itz K a b) g tb D σ H := by
  refine ⟨fun i m σ H => m = xs.length - i ∧ i ≤ xs.length ∧ Pv i σ H, ⟨xs.length, by simp, Nat.zero_le _, h0⟩, ?_⟩
  rintro i m σ H ⟨rfl, hi, p⟩
  obtain ⟨q1, q2⟩ := hl i σ H hi p
  by_cases hlt : i < xs.length
  · have hlt2 : i < ys.length := by omega
    refine .inr ⟨⟨xs, ys, xs[i], ys[i], q1, q2, List.getElem?_eq_getElem hlt, List.getElem?_eq_getElem hlt2⟩, Pv (i + 1), fun σ' H' p' => ⟨xs.length - (i + 1), by omega, rfl, hlt, p'⟩, fun x H' y => ?_⟩
    obtain ⟨T, x1, y1, rfl, hT, rfl, e1, e2⟩ := y
    exact hs i x1 y1 T σ H (e1 xs q1) (e2 ys q2) p hT
  · have e : i = xs.length := by omega
    subst e
    exact .inl ⟨⟨xs, ys, q1, q2, .inl (Nat.le_refl _)⟩, hd σ H p⟩
theorem lcR3 {tt : TT} {vs : List Nat} (h : ta σ H fun us H1 => ∃ (i j c : Int) (n : Nat), us = [.int i, .int j, .int c] ∧ RgC i j c n ∧ ∀ D, H1 D = none → LoopC (Itc i c n) g tt te vs σ D (fun H => Q (.ref D) H) (upd H1 D (.lst []))) : tLc (iRng3 ta) g tt te vs σ H Q := h
theorem loopCc {lo c : Int} {n : Nat} {D : Addr} {Qd : Hp → Prop} (Pv : Nat → Hp → Prop) (h0 : Pv 0 H)
    (hs : ∀ i H, i < n → Pv i H → g (.int (lo + i * c)) (wipe σ vs) H fun σ2 H2 => wipe σ2 vs = wipe σ vs ∧ tt σ2 H2 fun b H3 =>
      if b = true then te σ2 H3 fun y H4 => ∃ acc, H4 D = some (.lst acc) ∧ acc.length < sizeLine ∧ Pv (i + 1) (upd H4 D (.lst (acc ++ [y]))) else Pv (i + 1) H3) (hd : ∀ H, Pv n H → Qd H) : LoopC (Itc lo c n) g tt te vs σ D Qd H := by
  refine ⟨fun i m H => m = n - i ∧ i ≤ n ∧ Pv i H, ⟨n, by simp, Nat.zero_le _, h0⟩, ?_⟩
  rintro i m H ⟨rfl, hi, p⟩
  by_cases hlt : i < n
  · refine .inr ⟨hlt, Pv (i + 1), fun H' p' => ⟨n - (i + 1), by omega, rfl, hlt, p'⟩, fun x H' y => ?_⟩
    obtain ⟨e, y⟩ := y
    subst e y
    exact hs i _ hlt p
  · have e : i = n := by omega
    subst e
    exact .inl ⟨Nat.le_refl _, hd H p⟩
theorem forN {P : Program} {w : World} (h : te σ H fun x H1 => ∃ d o es, x = .ref d ∧ Wd.NDictF P w H1 d o es ∧ Loop (Wd.Itn P w d o es) g tb D σ H1) : tFor (Wd.iKeysN P w te) g tb D σ H := h
theorem loopN {P : Program} {w : World} {d : Addr} {o : Obj} {es : List Wd.NE} (Pv : Nat → L2.St → Hp → Prop) (h0 : Pv 0 σ H) (hl : ∀ i σ H, i ≤ es.length → Pv i σ H → Wd.NDictF P w H d o es)
    (hs : ∀ i e σ H, es[i]? = some e → Pv i σ H → g (.ref e.2.1) σ H fun σ2 H2 => tb { D with nx := Pv (i + 1), ct := Pv (i + 1), bk := D.nx } σ2 H2) (hd : ∀ σ H, Pv es.length σ H → D.nx σ H) : Loop (Wd.Itn P w d o es) g tb D σ H := by
  refine ⟨fun i m σ H => m = es.length - i ∧ i ≤ es.length ∧ Pv i σ H, ⟨es.length, by simp, Nat.zero_le _, h0⟩, ?_⟩
  rintro i m σ H ⟨rfl, hi, p⟩
  have q1 := hl i σ H hi p
  by_cases hlt : i < es.length
  · refine .inr ⟨⟨q1, hlt⟩, Pv (i + 1), fun σ' H' p' => ⟨es.length - (i + 1), by omega, rfl, hlt, p'⟩, fun x H' y => ?_⟩
    obtain ⟨rfl, e, he, rfl⟩ := y
    exact hs i e σ H' he p
  · have e : i = es.length := by omega
    subst e
    exact .inl ⟨⟨q1, Nat.le_refl _⟩, hd σ H p⟩
theorem lockN {t : TS} {d : Addr} {u : HO} (h : H d = some u) (m : Mut (some u)) (q : ∀ od, t ⟨fun σ' H' => H' d = some (.frz od u) ∧ D.nx σ' (upd H' d u), fun v H' => H' d = some (.frz od u) ∧ D.rt v (upd H' d u), fun σ' H' => H' d = some (.frz od u) ∧ D.bk σ' (upd H' d u), fun σ' H' => H' d = some (.frz od u) ∧ D.ct σ' (upd H' d u)⟩ σ (upd H d (.frz od u))) : tLock t D σ H := ⟨d, u, h, m, q⟩
end
end Wz

/-! The tight paper over the heap: what its defs hand to one another. -/
namespace Wy
open PySem PySem.Spec PyProof.Rows L2 Wp Wq Wr Wk Wg
theorem at_end {xs : List V} {y : V} : atI (xs ++ [y]) (-1) = some y := by
  unfold atI ixN
  have hl : (xs ++ [y]).length = xs.length + 1 := by rw [List.length_append] <;> rfl
  rw [if_neg (by decide), if_pos (by rw [hl]; omega), hl]
  show (xs ++ [y])[(-1 + ((xs.length + 1 : Nat) : Int)).toNat]? = _
  rw [show (-1 + ((xs.length + 1 : Nat) : Int)).toNat = xs.length by omega, List.getElem?_append_right (Nat.le_refl _), Nat.sub_self] <;> rfl
/-- the numbers of a pile's beginnings, none to j worths -/
def pathU (T : List (List W)) (p : List W) (j : Nat) : List V := (List.range (j + 1)).map fun h => V.int ((numOf T (p.take h) : Nat) : Int)
def pathV (T : List (List W)) (p : List W) : List V := pathU T p p.length
theorem pathU_succ {T : List (List W)} {p : List W} {j : Nat} : pathU T p (j + 1) = pathU T p j ++ [V.int ((numOf T (p.take (j + 1)) : Nat) : Int)] := by
  unfold pathU
  rw [List.range_succ, List.map_append] <;> rfl
theorem pathU_last {T : List (List W)} {p : List W} {j : Nat} : atI (pathU T p j) (-1) = some (V.int ((numOf T (p.take j) : Nat) : Int)) := by
  cases j with
  | zero => exact at_end (xs := [])
  | succ j => rw [pathU_succ]; exact at_end
theorem pathV_last {T : List (List W)} {p : List W} : atI (pathV T p) (-1) = some (V.int ((numOf T p : Nat) : Int)) := by
  have := pathU_last (T := T) (p := p) (j := p.length)
  rw [List.take_length] at this
  exact this
theorem pathV_len {T : List (List W)} {p : List W} : (pathV T p).length = p.length + 1 := by unfold pathV pathU; rw [List.length_map, List.length_range]
theorem pathV_at {T : List (List W)} {p : List W} {h : Nat} (hh : h ≤ p.length) : (pathV T p)[h]? = some (V.int ((numOf T (p.take h) : Nat) : Int)) := by
  unfold pathV pathU
  rw [List.getElem?_map, List.getElem?_range (by omega)] <;> rfl
/-- a stop: a pile, or two go on from it -/
def stB (T : List (List W)) (Ps : List (List W)) (q : List W) : Bool := decide (q ∈ Ps) || decide (2 ≤ (T.filter fun x => decide (x.dropLast = q)).length)
def IsPath (T : List (List W)) (H : Hp) (v : V) (p : List W) : Prop := ∃ r, v = .ref r ∧ H r = some (.lst (pathV T p))
def Within (T : List (List W)) (p : List W) : Prop := ∀ h, p.take h = [] ∨ p.take h ∈ T
theorem within_trie {Ps : List (List W)} {p : List W} (hp : p ∈ Ps) : Within (trie Ps) p := by
  intro h
  by_cases c : p.take h = []
  · exact .inl c
  · right
    rw [mem_trie]
    have hl : 1 ≤ (p.take h).length := List.length_pos_iff.mpr c
    rw [List.length_take] at hl
    refine ⟨p, hp, min h p.length - 1, by omega, ?_⟩
    rw [show min h p.length - 1 + 1 = min h p.length by omega]
    by_cases e : h ≤ p.length
    · rw [Nat.min_eq_left e]
    · rw [Nat.min_eq_right (by omega), List.take_length, List.take_of_length_le (by omega)]
/-- the places: none at -1, what is laid at its number -/
def Places (T L : List (List W)) (kvs : List (Key × V)) : Prop := kvs.length = L.length + 1 ∧ ∀ q, (q = [] ∨ q ∈ T) → valV kvs (.inl ((numOf T q : Nat) : Int)) = if q = [] ∨ q ∈ L then some (.int (place L q)) else none
theorem Places.new {T : List (List W)} (h : TOk T) : Places T [] [(.inl 0, .int (-1))] := by
  refine ⟨rfl, fun q hq => ?_⟩
  by_cases c : q = []
  · subst c
    rw [numOf_nil, if_pos (.inl rfl), place_nil]
    exact valV_pos rfl
  · rw [if_neg (by rintro (e | e); exact c e; cases e), numOf_mem c]
    rw [valV_neg (by
      intro e
      have := Sum.inl.inj e
      omega)]
    rfl
theorem Places.put {T L : List (List W)} {kvs : List (Key × V)} (h : Places T L kvs) {q : List W} (hq : q ∈ T) (hT : TOk T) (hL : ∀ x ∈ L, x ∈ T) (n : q ∉ L) : Places T (L ++ [q]) (putK kvs (.inl ((numOf T q : Nat) : Int)) (.int ((kvs.length : Nat) - 1 : Int))) := by
  have qn := hT.ne q hq
  have old := h.2 q (.inr hq)
  rw [if_neg (by rintro (e | e); exact qn e; exact n e)] at old
  refine ⟨?_, fun x hx => ?_⟩
  · rw [putK_new _ old, List.length_append, List.length_append, h.1] <;> rfl
  · rw [valV_put]
    by_cases c : x = q
    · subst c
      rw [if_pos rfl, if_pos (.inr (List.mem_append_right _ List.mem_cons_self)), place_mem qn, List.idxOf_append, if_neg n, h.1]
      congr 2
      simp
    · have ne : ¬ (Sum.inl ((numOf T x : Nat) : Int) : Key) = .inl ((numOf T q : Nat) : Int) := fun e => by
        have e1 := Sum.inl.inj e
        exact c (numOf_inj hx (.inr hq) (by omega))
      rw [if_neg ne, h.2 x hx]
      by_cases m : x = [] ∨ x ∈ L
      · rw [if_pos m, if_pos (m.imp id fun m => List.mem_append_left _ m), place_pre (List.prefix_append _ _) m]
      · rw [if_neg m, if_neg]
        rintro (e | e)
        · exact m (.inl e)
        · rcases List.mem_append.mp e with e | e
          · exact m (.inr e)
          · exact c (List.mem_singleton.mp e)
/-- no two pieces have one list, and each list is new to H0 -/
def Dist (H0 H : Hp) (xs : List V) : Prop := (∀ (i j : Nat) (ti tj li lj : Addr) (u v : V), i ≠ j → xs[i]? = some (.ref ti) → xs[j]? = some (.ref tj) → H ti = some (.tup [u, .ref li]) → H tj = some (.tup [v, .ref lj]) → li ≠ lj) ∧
  ∀ (i : Nat) (ti li : Addr) (u : V), xs[i]? = some (.ref ti) → H ti = some (.tup [u, .ref li]) → H0 li = none
theorem Dist.nil {H0 H : Hp} : Dist H0 H [] := ⟨(fun i _ _ _ _ _ _ _ _ h => by cases i <;> cases h), (fun i _ _ _ h => by cases i <;> cases h)⟩
/-- what every def keeps of a list of pieces -/
theorem Dist.keep {S : List Addr} {H0 H H' : Hp} {xs : List V} {R : List Pc} (h : Dist H0 H xs) (p : Pieces S H xs R) (k : Tk H H') : Dist H0 H' xs := by
  have back : ∀ {i : Nat} {t l : Addr} {u : V}, xs[i]? = some (.ref t) → H' t = some (.tup [u, .ref l]) → H t = some (.tup [u, .ref l]) := by
    intro i t l u hi ht
    obtain ⟨y, _, t', l', vs, e, h1, _⟩ := pair_at1 p hi
    cases e
    have := k _ _ h1
    rw [ht] at this
    cases this
    exact h1
  exact ⟨fun i j ti tj li lj u v n hi hj h1 h2 => h.1 i j ti tj li lj u v n hi hj (back hi h1) (back hj h2), fun i ti li u hi h1 => h.2 i ti li u hi (back hi h1)⟩
theorem Dist.app {S : List Addr} {H0 H : Hp} {xs : List V} {R : List Pc} {t l : Addr} {u : V} (h : Dist H0 H xs) (p : Pieces S H xs R) (ht : H t = some (.tup [u, .ref l])) (new : H0 l = none)
    (fresh : ∀ (i : Nat) (ti li : Addr) (v : V), xs[i]? = some (.ref ti) → H ti = some (.tup [v, .ref li]) → li ≠ l) : Dist H0 H (xs ++ [.ref t]) := by
  have cases_ : ∀ {i : Nat} {y : V}, (xs ++ [.ref t])[i]? = some y → xs[i]? = some y ∨ (i = xs.length ∧ y = .ref t) := fun h => get_app1 h
  refine ⟨fun i j ti tj li lj v w n hi hj h1 h2 => ?_, fun i ti li v hi h1 => ?_⟩
  · rcases cases_ hi with hi | ⟨ei, e1⟩ <;> rcases cases_ hj with hj | ⟨ej, e2⟩
    · exact h.1 i j ti tj li lj v w n hi hj h1 h2
    · cases e2
      rw [ht] at h2
      cases h2
      exact fresh i ti li v hi h1
    · cases e1
      rw [ht] at h1
      cases h1
      exact (fresh j tj lj w hj h2).symm
    · exact absurd (ei.trans ej.symm) n
  · rcases cases_ hi with hi | ⟨ei, e1⟩
    · exact h.2 i ti li v hi h1
    · cases e1
      rw [ht] at h1
      cases h1
      exact new
theorem E_len {st : List W → Bool} {s : Nat} {p : List W} : ∀ h, (E st s p h).length ≤ h + 1
  | 0 => Nat.le_refl _
  | h + 1 => by
    have ih := E_len (st := st) (s := s) (p := p) h
    rcases E_succ (st := st) (s := s) (p := p) h with e | e
    · rw [e, List.length_append, List.length_singleton]; omega
    · rw [e]; omega
theorem stB_pile {T Ps : List (List W)} {p : List W} (h : p ∈ Ps) : stB T Ps p = true := by
  unfold stB
  rw [decide_eq_true h, Bool.true_or]
theorem tight_mem {st : List W → Bool} {s : Nat} : ∀ {Ps L : List (List W)} {p : List W}, LOk st s L → p ∈ Ps → p ≠ [] → st p = true → p ∈ tightL st s Ps L
  | q :: Ps, L, p, h, hp, hn, hs => by
    show p ∈ tightL st s Ps (layL st s L q)
    rcases List.mem_cons.mp hp with e | e
    · subst e
      obtain ⟨fc, f1⟩ := full (s := s) hs hn
      exact (tight_pre (Ps := Ps)).subset ((mem_lay h).mpr (.inr ⟨_, f1, Nat.le_refl _, fc.symm⟩))
    · exact tight_mem (lay_ok h q) e hn hs
theorem tight_in {st : List W → Bool} {s : Nat} {T : List (List W)} : ∀ {Ps L : List (List W)}, LOk st s L → (∀ q ∈ L, q ∈ T) → (∀ p ∈ Ps, Within T p) → ∀ q ∈ tightL st s Ps L, q ∈ T
  | [], L, _, h, _ => h
  | p :: Ps, L, hl, h, hw => by
    show ∀ q ∈ tightL st s Ps (layL st s L p), q ∈ T
    refine tight_in (lay_ok hl p) (fun q hq => ?_) (fun x hx => hw x (List.mem_cons_of_mem _ hx))
    rcases (mem_lay hl).mp hq with m | ⟨k, k1, k2, rfl⟩
    · exact h q m
    · exact (hw p List.mem_cons_self _).resolve_left (cut_ne k1 k2)
theorem tight_snoc {st : List W → Bool} {s : Nat} {Ps : List (List W)} {p : List W} : tightL st s (Ps ++ [p]) [] = layL st s (tightL st s Ps []) p := by
  unfold tightL
  rw [List.foldl_append] <;> rfl
/-- the tight paper of a list of piles -/
def stT (Ps : List (List W)) : List W → Bool := stB (trie Ps) Ps
def tL (s : Nat) (Ps : List (List W)) : List (List W) := tightL (stT Ps) s Ps []
def tPap (s : Nat) (Ps : List (List W)) : Pap := (piecesOf (stT Ps) s (tL s Ps), Ps.map (place (tL s Ps)))
end Wy

/-! Wells; powers of wide numbers. -/
namespace Ww
open PySem PySem.Spec PyProof.Rows L2 Wp Wq Wr Wb
def Well (H : Hp) (b : Addr) (n : Nat) : Prop := ∃ x y z : Int, H b = some (.lst [.int x, .int y, .int z]) ∧ 0 ≤ x ∧ 0 ≤ y ∧ y < 10 ^ 43 ∧ 0 ≤ z ∧ z ≤ n
theorem Well.mono {H : Hp} {b : Addr} {n m : Nat} (h : Well H b n) (k : n ≤ m) : Well H b m := by
  obtain ⟨x, y, z, h1, h2, h3, h4, h5, h6⟩ := h
  exact ⟨x, y, z, h1, h2, h3, h4, h5, by omega⟩
theorem Well.ne_new {H : Hp} {b p : Addr} {n : Nat} (h : Well H b n) (k : H p = none) : p ≠ b := by
  obtain ⟨x, y, z, h1, h⟩ := h
  exact (ne_of_none h1 k).symm
theorem Well.keep {H H' : Hp} {b : Addr} {n : Nat} (h : Well H b n) (k : Same H H') : Well H' b n := by
  obtain ⟨x, y, z, h1, h⟩ := h
  exact ⟨x, y, z, k _ _ h1, h⟩
theorem Well.upd {H : Hp} {b r : Addr} {n : Nat} {o : HO} (h : Well H b n) (k : r ≠ b) : Well (L2.upd H r o) b n := by
  obtain ⟨x, y, z, h1, h⟩ := h
  exact ⟨x, y, z, by rw [upd_ne k.symm]; exact h1, h⟩
theorem Well.ks {H H' : Hp} {b : Addr} {n : Nat} (h : Well H b n) (k : Kp b H H') : Ks [b] H H' := by
  obtain ⟨x, y, z, h1, h⟩ := h
  exact Ks.kp k h1 List.mem_cons_self
theorem Well.at {H H' : Hp} {b : Addr} {n : Nat} (h : Well H b n) (k : ∀ o, H b = some o → H' b = some o) : Well H' b n := by
  obtain ⟨x, y, z, h1, h⟩ := h
  exact ⟨x, y, z, k _ h1, h⟩
section
variable {X : Cx}
def CPowW (i j : Int) : Prop := 0 ≤ j ∧ (Builtin.Int.intBits i : Int) * j ≤ 2 ^ 27
theorem op_powW : OpR X (binaryOp .Pow) (rI CPowW fun i j => .int (i ^ j.toNat)) := opI fun _ _ _ _ _ _ _ hc q => pow_int hc.1 hc.2 q
theorem bits_of {x : Int} {b : Nat} (h : x.natAbs < 2 ^ b) (hb : 0 < b) : Builtin.Int.intBits x ≤ b := by
  have e : Builtin.Int.intBits x ≤ x.natAbs.log2 + 1 := by
    unfold Builtin.Int.intBits
    split <;> omega
  by_cases c : x.natAbs = 0
  · rw [c] at e
    have : (0 : Nat).log2 = 0 := by decide
    omega
  · have := (Nat.log2_lt c).mpr h
    omega
theorem mulW {x y : Int} {a b : Nat} (h : x.natAbs < 2 ^ a) (k : y.natAbs < 2 ^ b) (ha : 0 < a := by decide) (hb : 0 < b := by decide) (hs : a + b < 1000000 := by decide) : CMulW x y := by
  have e1 := PySem.Flt.log2_lt_of ha h
  have e2 := PySem.Flt.log2_lt_of hb k
  show _ + _ < 1000000
  omega
theorem pow5 {x : Int} (h : x.natAbs < 2 ^ 300) : CPowW x 5 := ⟨by decide, by
  have := bits_of h (by decide)
  omega⟩
end
section
variable {S : List Addr} {H H1 H2 : Hp} {a b D : Addr} {σ : L2.St} {g : TG} {te : TE} {vs : List Nat} {Qd : Hp → Prop}
/-- [.. for j in range(m)], a bag and a new list of worths -/
theorem lc_wells {m n inc : Nat} {ok : W → Prop} (hm : m < 1000) (hb : Well H b n) (hD : H D = none)
    (body : ∀ (j : Nat) (H1 : Hp), j < m → ∀ R : V → Hp → Prop, Well H1 b (n + inc * j) → Ks [D, b] (upd H D (.lst [])) H1 → (∀ v z H2, IsW H2 v z → ok z → Well H2 b (n + inc * j + inc) → Kp b H1 H2 → R v H2) →
      g (.int (0 + (j : Int))) (wipe σ vs) H1 fun σ2 H2 => wipe σ2 vs = wipe σ vs ∧ te σ2 H2 R)
    (done : ∀ (H1 : Hp) (acc : List V) (ws : List W), Well H1 b (n + inc * m) → Ks [b] H H1 → H1 D = some (.lst acc) → Pile H1 acc ws → ws.length = m → (∀ z ∈ ws, ok z) → Qd H1) :
    LoopC (Itr 0 m) g tYes te vs σ D Qd (upd H D (.lst [])) := by
  have hDb : D ≠ b := hb.ne_new hD
  refine loopCR (fun j H' => Well H' b (n + inc * j) ∧ Ks [D, b] (upd H D (.lst [])) H' ∧ ∃ acc ws, H' D = some (.lst acc) ∧ Pile H' acc ws ∧ ws.length = j ∧ ∀ z ∈ ws, ok z) ⟨hb.keep (same_new hD), Ks.refl, [], [], upd_same, Pile.nil, rfl, (fun _ h => nomatch h)⟩ ?_ ?_
  · rintro j H3 hj ⟨hb3, k3, acc, ws, hD3, p3, wl, wok⟩
    refine body j H3 hj (fun y H4 => ∃ acc, H4 D = some (.lst acc) ∧ acc.length < sizeLine ∧ _) hb3 k3 fun v z H4 wz oz hb4 k4 => ?_
    have tk4 : Tk H3 H4 := (hb3.ks k4).tk
    have hD4 := k4 _ _ hDb hD3
    refine ⟨acc, hD4, ?_, ?_, ?_, _, _, upd_same, (Pile.app (p3.keep tk4) (Pile.one wz)).keep (Tk.lst hD4), ?_, ?_⟩
    · rw [p3.len]; exact small (by omega)
    · rw [Nat.mul_succ, ← Nat.add_assoc]
      exact hb4.upd hDb
    · exact k3.trans ((Ks.mono (hb3.ks k4) (by simp)).trans (Ks.upd hD4 List.mem_cons_self))
    · rw [List.length_append, wl] <;> rfl
    · intro x hx
      rcases List.mem_append.mp hx with hx | hx
      · exact wok x hx
      · rw [List.mem_singleton.mp hx]; exact oz
  · rintro H3 ⟨hb3, k3, acc, ws, hD3, p3, wl, wok⟩
    exact done H3 acc ws hb3 (Ks.drop k3 (Ks.same (same_new hD)) hD) hD3 p3 wl wok
end
end Ww

/-! Names of small letters; joined ones. -/
namespace Wu
open PySem PySem.Spec PyProof.Rows L2 Wp Wq Wr Wb
def Low (s : Str) : Prop := ∀ c ∈ s.cps.toList, 97 ≤ c ∧ c ≤ 122
theorem Low.app {x y : Str} (h : Low x) (k : Low y) : Low (x ++ y) := by
  intro c hc
  have h2 : c ∈ (x.cps ++ y.cps).toList := hc
  rw [Array.toList_append] at h2
  rcases List.mem_append.mp h2 with q | q
  · exact h c q
  · exact k c q
theorem Low.cut {z : Str} {lo hi : Option Int} (h : Low z) : Low (cutS z lo hi) := fun c hc => h c (List.mem_of_mem_drop (List.mem_of_mem_take hc))
theorem Low.nil : Low (Str.ofString "") := by
  intro c hc
  have : (Str.ofString "").cps.toList = [] := by decide +kernel
  rw [this] at hc
  exact nomatch hc
theorem Low.join : ∀ ys : List Str, (∀ y ∈ ys, Low y) → Low (Str.join (Str.ofString "") ys)
  | [], _ => by
    intro c hc
    exact (nomatch hc)
  | [x], h => h x (by simp)
  | x :: y :: r, h => Low.app (Low.app (h x (by simp)) Low.nil) (Low.join (y :: r) fun z hz => h z (List.mem_cons_of_mem _ hz))
theorem cut_lo {z : Str} {n : Nat} (h : n ≤ z.length) : (cutS z none (some (n : Int))).length = n := by
  show ((z.cps.toList.drop (HT.sIx z.length 0 none)).take (HT.sIx z.length z.length (some (n : Int)) - HT.sIx z.length 0 none)).toArray.size = n
  rw [show HT.sIx z.length 0 none = 0 from HT.sIx_none .., HT.sIx_nat, List.size_toArray, List.length_take, List.length_drop, Array.length_toList]
  have : z.cps.size = z.length := rfl
  omega
theorem cut_hi {z : Str} {n : Nat} (h : n ≤ z.length) : (cutS z (some (n : Int)) none).length = z.length - n := by
  show ((z.cps.toList.drop (HT.sIx z.length 0 (some (n : Int)))).take (HT.sIx z.length z.length none - HT.sIx z.length 0 (some (n : Int)))).toArray.size = _
  rw [show HT.sIx z.length z.length none = z.length from HT.sIx_none .., HT.sIx_nat, List.size_toArray, List.length_take, List.length_drop, Array.length_toList]
  have : z.cps.size = z.length := rfl
  omega
theorem low_ok {s : Str} (h : Low s) : PyData.strOk s = true := by
  show s.cps.all (fun c => decide (c < 0x110000)) = true
  rw [← Array.all_toList, List.all_eq_true]
  intro c hc
  have := h c hc
  exact decide_eq_true (by omega)
/-- a name: small letters, eight at most -/
def Nm (s : Str) : Prop := Low s ∧ s.length ≤ 8
variable {H : Hp} {Q : V → Hp → Prop}
theorem ixS_low {zs : Str} {j : Int} (hl : Low zs) (hz : zs.length ≤ sizeLine) (h0 : 0 ≤ j) (h1 : j < zs.length) (q : ∀ c, Low ⟨#[c]⟩ → Q (.str ⟨#[c]⟩) H) : rIxS (.str zs) (.int j) H Q := by
  have h2 : j.toNat < zs.cps.toList.length := by
    rw [Array.length_toList]
    show j.toNat < zs.length
    omega
  obtain ⟨c, hc⟩ : ∃ c, zs.cps.toList[j.toNat]? = some c := ⟨_, List.getElem?_eq_getElem h2⟩
  have e : ((j.toNat : Nat) : Int) = j := by omega
  have hc2 := atI_nat hc
  rw [e] at hc2
  refine ⟨zs, j, c, rfl, rfl, hz, hc2, q c ?_⟩
  intro d hd
  have : d = c := List.mem_singleton.mp hd
  rw [this]
  exact hl c (List.mem_of_getElem? hc)
theorem join_low {ys : List Str} (h : ∀ y ∈ ys, Low y ∧ y.length = 1) : Low (Txt.join (Str.ofString "") ys) ∧ (Txt.join (Str.ofString "") ys).length = ys.length := by
  refine ⟨?_, _root_.PySem.W.KT.join_ones ys fun a ha => (h a ha).2⟩
  show Low (Builtin.Str.glued (Str.ofString "") ys)
  rw [StrLaws.glued_eq_join]
  exact Low.join ys fun y hy => (h y hy).1
def letters : Str := Str.ofString "abcdefghijklmnopqrstuvwxyz"
theorem letters_low : Low letters := by
  have h : (letters.cps.toList.all fun c => decide (97 ≤ c ∧ c ≤ 122)) = true := by decide +kernel
  intro c hc
  exact of_decide_eq_true (List.all_eq_true.mp h c hc)
theorem letters_len : letters.length = 26 := by decide +kernel
theorem Kp.updN {b D : Addr} {o : HO} {H1 : Hp} (k : Kp b H H1) (h : H D = none) : Kp b H (upd H1 D o) := by
  intro a u na ha
  rw [upd_ne (ne_of_none ha h)]
  exact k a u na ha
theorem Well.updN {b D : Addr} {n : Nat} {o : HO} (h : Ww.Well H b n) {H1 : Hp} (h1 : Ww.Well H1 b n) (hD : H D = none) : Ww.Well (upd H1 D o) b n := h1.upd (h.ne_new hD)
end Wu

/-! The views of a dict of texts and ints: list(d.values()), sorted(d.items()). -/
namespace Wf
open PySem PySem.Spec PyProof.Rows PySem.W PySem.Calls PyProof.V L2 L2.DX Wp Wq
/-- the view d.values() at p -/
def valuesO (p d : Addr) : HO := .ext fun h => h.IsValuesView p d
theorem valuesO_ok {P : Program} {w : World} {H : Hp} {h : Heap} {p d : Addr} (e : h.get? p = some { cls := .type "dict_values", data := .fields #[.ref d] }) : ObjOk P w H h p (valuesO p d) :=
  ⟨⟨_, e, rfl, rfl⟩, ⟨_, e⟩, fun h1 h2 x k => let ⟨o, ho, r⟩ := x; ⟨o, k o ho, r⟩⟩
theorem vals_of : ∀ {kvs : List (Key × V)} {vs : List (Key × Value)}, KV kvs vs → Vals (kvs.map (·.2)) (vs.map (·.2))
  | _, _, .nil => .nil
  | _, _, .cons h t => .cons h.2 (vals_of t)
section
variable {X : Cx}
def rValuesK : V → List V → Hp → VK → Prop := fun x xs H Q => ∃ (a : Addr) (kvs : List (Key × V)), x = .ref a ∧ xs = [] ∧ H a = some (.dK kvs) ∧ ∀ p, H p = none → Q (.ref p) (upd H p (valuesO p a))
theorem mt_valuesK : MtR X "dict.values" rValuesK := by
  intro pins s σ H x xs v us Q I rx rxs h
  obtain ⟨a, kvs, rfl, rfl, ha, q⟩ := h
  cases rx
  cases rxs
  obtain ⟨z, hd, vs, rel, dd⟩ := dk_of I.hok ha
  have hf : H s.heap.objs.size = none := I.hok.fresh (Nat.le_refl _)
  refine call_meetsIn F.slot_dict_values dd.typeIs F.entry_dict_values (F.args_dict_values_1 _) (meets_dict_values (mixKind X.prog X.w) a hd) ⟨⟨vs, dd⟩, ?_⟩
  exact ⟨.ref s.heap.objs.size, upd H s.heap.objs.size (valuesO s.heap.objs.size a), I.laid (t' := s.toks) (fun b u e => Heap.get?_push_of_some _ e) (Nat.le_refl _) (valuesO_ok (Heap.get?_push_size _ rfl)), rfl, q _ hf⟩
def rItemsK : V → List V → Hp → VK → Prop := fun x xs H Q => ∃ (a : Addr) (kvs : List (Key × V)), x = .ref a ∧ xs = [] ∧ H a = some (.dK kvs) ∧ ∀ p, H p = none → Q (.ref p) (upd H p (itemsO p a))
theorem mt_itemsK : MtR X "dict.items" rItemsK := by
  intro pins s σ H x xs v us Q I rx rxs h
  obtain ⟨a, kvs, rfl, rfl, ha, q⟩ := h
  cases rx
  cases rxs
  obtain ⟨z, hd, vs, rel, dd⟩ := dk_of I.hok ha
  have hf : H s.heap.objs.size = none := I.hok.fresh (Nat.le_refl _)
  refine call_meetsIn F.slot_dict_items dd.typeIs F.entry_dict_items (F.args_dict_items_1 _) (meets_dict_items (mixKind X.prog X.w) a hd) ⟨⟨vs, dd⟩, ?_⟩
  exact ⟨.ref s.heap.objs.size, upd H s.heap.objs.size (itemsO s.heap.objs.size a), I.laid (t' := s.toks) (fun b u e => Heap.get?_push_of_some _ e) (Nat.le_refl _) (itemsO_ok (Heap.get?_push_size _ rfl)), rfl, q _ hf⟩
/-- list(d.values()) -/
def rListVals : List V → Hp → VK → Prop := fun xs H Q => ∃ (p a : Addr) (kvs : List (Key × V)), xs = [.ref p] ∧ H p = some (valuesO p a) ∧ H a = some (.dK kvs) ∧ ∀ l, H l = none → Q (.ref l) (upd H l (.lst (kvs.map (·.2))))
theorem cr_listVals (hc : X.calm = true) : CallR X (.type "list") rListVals := by
  intro pins s σ H xs us Q I r h
  obtain ⟨p, a, kvs, rfl, hp, ha, q⟩ := h
  obtain rfl := Vals.ref1 r
  have view : s.heap.IsValuesView p a := (show ObjOk X.prog X.w H s.heap p (valuesO p a) from I.hok p _ hp).1
  obtain ⟨z, hd, vs, rel, dd⟩ := dk_of I.hok ha
  obtain ⟨ep, hat⟩ := dd.dictAt
  have hl : kvs.length = vs.length := Paired.length rel
  have hf : H s.heap.objs.size = none := I.hok.fresh (Nat.le_refl _)
  refine PySem.W.kdl_call (PySem.W.kdl_values (knd := mixKind X.prog X.w) (kvs := vs) (ep := ep)) (I.ok.hd hc) ⟨view, hat⟩ (by omega) fun h' tk acc c hk hS hacc => ?_
  have ev : acc.toList = vs.map (·.2) := PySem.W.kdl_vals_eq acc.toList (by rw [Array.length_toList]; exact hacc.1) fun j v e => hacc.2 j v (by rw [← Array.getElem?_toList]; exact e)
  refine ⟨.ref s.heap.objs.size, upd H s.heap.objs.size (.lst (kvs.map (·.2))), I.laid (t' := tk) hk (Nat.le_refl _) ⟨by rw [List.length_map]; exact z, acc.toList, c, by rw [ev]; exact vals_of rel, by rw [Array.toArray_toList]; exact hS⟩, rfl, q _ hf⟩
end
mutual
theorem reads_lt {h : Heap} : ∀ {v : Value} {d : PyData} {as : List Addr}, Reads h v d as → ∀ x ∈ as, x < h.objs.size
  | _, _, _, .none, _, q => nomatch q
  | _, _, _, .bool b, _, q => nomatch q
  | _, _, _, .int i t, _, q => nomatch q
  | _, _, _, .str x t, _, q => nomatch q
  | _, _, _, .list h1 h2 h3 h4, x, q => by
    rcases List.mem_cons.mp q with e | q
    · rw [e]; exact Heap.lt_size h1
    · exact readsAll_lt h4 x q
  | _, _, _, .tuple h1 h2 h3 h4, x, q => readsAll_lt h4 x q
  | _, _, _, .dict h1 h2 h3 h4 h5, x, q => by
    rcases List.mem_append.mp q with q | q
    · rcases List.mem_cons.mp q with e | q
      · rw [e]; exact Heap.lt_size h1
      · exact readsAll_lt h4 x q
    · exact readsAll_lt h5 x q
theorem readsAll_lt {h : Heap} : ∀ {vs : List Value} {ds : List PyData} {as : List Addr}, ReadsAll h vs ds as → ∀ x ∈ as, x < h.objs.size
  | _, _, _, .nil, _, q => nomatch q
  | _, _, _, .cons h1 h2, x, q => by
    rcases List.mem_append.mp q with q | q
    · exact reads_lt h1 x q
    · exact readsAll_lt h2 x q
end
theorem each_get {α β : Type} {R : α → β → Prop} : ∀ {vs : List α} {bs : List β}, vs.length = bs.length → (∀ (j : Nat) (v : α) (b : β), vs[j]? = some v → bs[j]? = some b → R v b) → PySem.W.EachIs R vs bs
  | [], [], _, _ => .nil
  | v :: vs, b :: bs, hl, h => .cons (h 0 v b rfl rfl) (each_get (Nat.succ.inj hl) fun j x y e1 e2 => h (j + 1) x y e1 e2)
theorem each_mem1 {α β : Type} {R : α → β → Prop} : ∀ {vs : List α} {bs : List β}, PySem.W.EachIs R vs bs → ∀ v ∈ vs, ∃ b, b ∈ bs ∧ R v b
  | _, _, .nil, v, h => nomatch h
  | _, _, .cons r t, v, h => by
    rcases List.mem_cons.mp h with e | h
    · rw [e]; exact ⟨_, List.mem_cons_self, r⟩
    · obtain ⟨b, hb, q⟩ := each_mem1 t v h
      exact ⟨b, List.mem_cons_of_mem _ hb, q⟩
/-- a key, a value, what the value reads as -/
abbrev BD := Key × V × PyData
def kD : Key → PyData
  | .inl i => .int i
  | .inr x => .str x
def pD (b : BD) : PyData := .tuple [kD b.1, b.2.2]
def leP (a b : BD) : Bool := PySem.W.dataLe false pD a b
theorem key_reads {h : Heap} {k : Key} {v : Value} (r : RelV (kV k) v) : Reads h v (kD k) [] := by
  cases k with
  | inl i => obtain ⟨t, rfl⟩ := r; exact .int i t
  | inr x => obtain ⟨t, rfl⟩ := r; exact .str x t
/-- sorted(d.items()), the values whatever reads as data -/
def rSortItems (K : PySem.W.Frag) : List V → Hp → VK → Prop := fun vs H Q => ∃ (p a : Addr) (bs : List BD), vs = [.ref p] ∧ H p = some (itemsO p a) ∧ H a = some (.dK (bs.map fun b => (b.1, b.2.1))) ∧ (∀ b ∈ bs, Dp K H b.2.1 b.2.2) ∧
  PySem.W.AllAlike (bs.map pD) ∧ PySem.W.Sortable (bs.map pD) ∧ (∀ b ∈ bs, (pD b).depth ≤ 60) ∧
  ∀ (H' : Hp) (l : Addr) (ts : List Addr), (∀ b o, H b = some o → H' b = some o) → H l = none → (∀ t ∈ ts, H t = none) → H' l = some (.lst (ts.map V.ref)) → Paired (fun (t : Addr) (b : BD) => H' t = some (.tup [kV b.1, b.2.1])) ts (bs.mergeSort leP) → Q (.ref l) H'
section
variable {X : Cx}
/-- what a made pair is -/
def PairV (h : Heap) (as : List Addr) (v : Value) (b : BD) : Prop := ∃ t key x, v = .ref t ∧ t ∈ as ∧ h.get? t = some { cls := .type "tuple", data := .seq #[key, x] } ∧ RelV (kV b.1) key ∧ RelV b.2.1 x
theorem pairs_ts {h : Heap} {as : List Addr} : ∀ {out : List Value} {cs : List BD}, PySem.W.EachIs (PairV h as) out cs → ∃ ts : List Addr, out = ts.map Value.ref ∧ Paired (fun (t : Addr) (b : BD) => t ∈ as ∧ ∃ key x, h.get? t = some { cls := .type "tuple", data := .seq #[key, x] } ∧ RelV (kV b.1) key ∧ RelV b.2.1 x) ts cs
  | _, _, .nil => ⟨[], rfl, .nil⟩
  | _, _, .cons ⟨t, key, x, e, m, g, r1, r2⟩ r => by
    obtain ⟨ts, e', pr⟩ := pairs_ts r
    exact ⟨t :: ts, by rw [e, e']; rfl, .cons ⟨m, key, x, g, r1, r2⟩ pr⟩
theorem cr_sortItems (hc : X.calm = true) (hu : X.A.units + 64 < cLine) : CallR X (.builtin "sorted") (rSortItems X.K) := by
  intro pins s σ H xs us Q I r h
  obtain ⟨p, a, bs, rfl, hp, ha, hd, hal, hk, hdep, q⟩ := h
  obtain rfl := Vals.ref1 r
  have view : s.heap.IsItemsView p a := (show ObjOk X.prog X.w H s.heap p (itemsO p a) from I.hok p _ hp).1
  obtain ⟨z, hd0, vs, rel, dd⟩ := dk_of I.hok ha
  obtain ⟨es, ep, hraw, hes, hent⟩ := _root_.PySem.Heap.DictOf.raw dd
  have hl : bs.length = vs.length := by have := Paired.length rel; rw [List.length_map] at this; exact this
  rw [List.length_map] at z
  have hh : X.A.handled = none := I.ok.hd hc
  refine DT.sortedI (es := es) (ep := ep) hh view hraw (by omega) fun h' tk as hk' hlt hla hG => ?_
  have hB : ∀ x, x < h'.objs.size → x ≠ h'.objs.size := fun x hx => Nat.ne_of_lt hx
  have hsz : s.heap.objs.size ≤ h'.objs.size := Nat.le_of_lt hlt
  have hob : (h'.push { cls := .type "list", data := .seq (as.map Value.ref).toArray }).get? h'.objs.size = some (seqObj "list" (as.map Value.ref).toArray 0) := Heap.get?_push_size _ rfl
  have ka : ∀ b o, h'.get? b = some o → (h'.push { cls := .type "list", data := .seq (as.map Value.ref).toArray }).get? b = some o := fun b o e => Heap.get?_push_of_some _ e
  have nd : as.Nodup := List.Pairwise.imp (fun {a b} (h : a < b) => Nat.ne_of_lt h) hG.rise
  have hpair : ∀ (j : Nat) (v : Value) (b : BD), (as.map Value.ref)[j]? = some v → bs[j]? = some b → PairV h' as v b ∧ ∃ rs, Reads h' v (pD b) rs ∧ ∀ x ∈ rs, x < h'.objs.size := by
    intro j v b hv hb
    rw [List.getElem?_map] at hv
    cases hj : as[j]? with
    | none => rw [hj] at hv; cases hv
    | some t =>
      rw [hj] at hv
      have ev : Value.ref t = v := Option.some.inj hv
      obtain ⟨en, hen, h3⟩ := hG.pairs j t hj
      obtain ⟨hi, hee⟩ := Array.getElem?_eq_some_iff.mp hen
      have hj2 : j < vs.length := by omega
      obtain ⟨h2, h4⟩ := hent j hi vs[j].1 vs[j].2 (List.getElem?_eq_getElem hj2)
      have h1 : vs[j]? = some (vs[j].1, vs[j].2) := List.getElem?_eq_getElem hj2
      rw [hee] at h2 h4
      rw [h4] at h3
      generalize vs[j].1 = k at h1 h2
      generalize vs[j].2 = x at h1 h3
      generalize en.key = key at h2 h3
      obtain ⟨e0, he0, r1, r2⟩ := pget rel h1
      rw [List.getElem?_map, hb] at he0
      have ee : (b.1, b.2.1) = e0 := Option.some.inj he0
      rw [← ee] at r1 r2
      have rk : RelV (kV b.1) key := by
        rw [show b.1 = k from r1]
        exact relV_key (show keyIs k key = true from h2)
      have rx : RelV b.2.1 x := r2
      obtain ⟨rs, rd⟩ := Dp.reads I _ _ _ (hd b (List.mem_of_getElem? hb)) rx
      have rd' := Reads.keeps hk' rd
      refine ⟨⟨t, key, x, ev.symm, List.mem_of_getElem? hj, h3, rk, rx⟩, [] ++ (rs ++ []), ?_, ?_⟩
      · rw [← ev]
        exact .tuple h3 rfl rfl (.cons (key_reads rk) (.cons rd' .nil))
      · intro y hy
        rw [List.nil_append, List.append_nil] at hy
        exact reads_lt rd' y hy
  have lab : (as.map Value.ref).length = bs.length := by rw [List.length_map, hla, hes, hl]
  have e1 : PySem.W.EachIs (PairV h' as) (as.map Value.ref) bs := each_get lab fun j v b h1 h2 => (hpair j v b h1 h2).1
  have e2 : PySem.W.EachIs (fun v b => ∃ rs, Reads (h'.push { cls := .type "list", data := .seq (as.map Value.ref).toArray }) v (pD b) rs ∧ h'.objs.size ∉ rs) (as.map Value.ref) bs := each_get lab fun j v b h1 h2 => by
    obtain ⟨_, rs, rd, lt⟩ := hpair j v b h1 h2
    exact ⟨rs, Reads.keeps ka rd, fun m => absurd (lt _ m) (Nat.lt_irrefl _)⟩
  · refine PySem.W.list_sort_data (enc := pD) (s := { s with heap := h'.push { cls := .type "list", data := .seq (as.map Value.ref).toArray }, toks := tk }) hob e1 e2 hal hk z (fun b hb => by have := hdep b hb; simp only [Around.in1_units]; omega) fun out ho eo => ?_
    obtain ⟨ts, rfl, pr⟩ := pairs_ts eo
    obtain ⟨c, hc2⟩ := sortedHeap_at (vs := as.map Value.ref) (out := (ts.map Value.ref).toArray) hob
    have old : ∀ b o, h'.get? b = some o → (sortedHeap (h'.push { cls := .type "list", data := .seq (as.map Value.ref).toArray }) h'.objs.size (as.map Value.ref) (ts.map Value.ref).toArray).get? b = some o := fun b o e =>
      (sortedHeap_old (hB b (Heap.lt_size e)) (Heap.lt_size (ka b o e))).trans (ka b o e)
    generalize sortedHeap (h'.push { cls := .type "list", data := .seq (as.map Value.ref).toArray }) h'.objs.size (as.map Value.ref) (ts.map Value.ref).toArray = hF at hc2 old
    have I1 : Inv X pins σ H { s with heap := hF, toks := tk } := I.kept (t' := tk) fun b o e => old b o (hk' b o e)
    have fresh : ∀ t ∈ as, s.heap.objs.size ≤ t ∧ H t = none := fun t ht => by
      have := hG.above t ht
      exact ⟨Nat.le_of_lt this, I.hok.fresh (Nat.le_of_lt this)⟩
    have bn : H h'.objs.size = none := I.hok.fresh hsz
    have I2 : Inv X pins σ (upd H h'.objs.size (.lst (ts.map V.ref))) { s with heap := hF, toks := tk } := I1.take (h' := hF) (t' := tk) (fun b ob _ e => e) (I.fpOk hsz bn) ⟨by rw [List.length_map]; rw [List.length_map] at ho; omega, ts.map Value.ref, c, LiI.vals_refs ts, hc2⟩
    obtain ⟨H2, I3, k2, hT⟩ := takeT (P := fun t us => ∃ key x, h'.get? t = some { cls := .type "tuple", data := .seq #[key, x] } ∧ Vals us [key, x]) I as _ I2 nd fun t ht => by
      obtain ⟨j, hj⟩ := List.mem_iff_getElem?.mp ht
      have jl : j < bs.length := by
        have := (List.getElem?_eq_some_iff.mp hj).1
        omega
      obtain ⟨t', key, x, ev, _, g, r1, r2⟩ := (hpair j (.ref t) bs[j] (by rw [List.getElem?_map, hj]; rfl) (List.getElem?_eq_getElem jl)).1
      have et : t = t' := by injection ev
      rw [← et] at g
      refine ⟨(fresh t ht).1, ?_, ?_⟩
      · rw [upd_ne (hB t (Heap.lt_size g))]; exact (fresh t ht).2
      · exact ⟨[kV bs[j].1, bs[j].2.1], ⟨key, x, g, .cons r1 (.cons r2 .nil)⟩, fun H2 => ⟨by show 2 ≤ sizeLine; decide, [key, x], .cons r1 (.cons r2 .nil), ⟨_, old _ _ g, rfl, _, rfl⟩⟩⟩
    refine ⟨.ref h'.objs.size, _, I3, rfl, q _ _ ts (fun b o e => k2 b o (by rw [upd_ne (ne_of_none e bn)]; exact e)) bn ?_ (k2 _ _ upd_same) ?_⟩
    · intro t ht
      obtain ⟨_, _, _, _, m, _⟩ := LiI.paired_ix pr ht
      exact (fresh t m).2
    · refine Paired.mapP pr fun t b hb => ?_
      obtain ⟨m, key, x, g, r1, r2⟩ := hb
      obtain ⟨us, ⟨key', x', g', rv⟩, e⟩ := hT t m
      rw [g] at g'
      have e3 : [key, x] = [key', x'] := congrArg Array.toList (show #[key, x] = #[key', x'] by injection g' with g'; injection g' with _ _ g'; injection g')
      rw [← e3] at rv
      cases rv with
      | cons q1 q2 =>
        cases q2 with
        | cons q2 q3 =>
          cases q3
          rw [RelV.inj q1 r1, RelV.inj q2 r2] at e
          exact e
end
end Wf

/-! Comprehensions that pick from a list of worths, or make worths. -/
namespace Wpk
open PySem PySem.Spec PyProof.Rows L2 Wp Wq Wr Wb
section
variable {H H1 H2 : Hp} {a b D : Addr} {σ : L2.St} {g : TG} {tt : TT} {te : TE} {vs : List Nat} {Qd : Hp → Prop}
theorem paired_snoc {α β : Type} {F : α → β → Prop} : ∀ {l1 : List α} {l2 : List β}, Paired F l1 l2 → ∀ {x : α} {y : β}, F x y → Paired F (l1 ++ [x]) (l2 ++ [y])
  | _, _, .nil, _, _, h => .cons h .nil
  | _, _, .cons r t, _, _, h => .cons r (paired_snoc t h)
theorem lc_pick {m : Nat} {ws : List W} (hm : m < 1000) (hD : H D = none)
    (body : ∀ (j : Nat) (H1 : Hp), j < m → Same H H1 → ∀ (R : V → Hp → Prop) (R0 : Hp → Prop), (∀ v z, IsW H1 v z → z ∈ ws → R v H1) → R0 H1 →
      g (.int (0 + (j : Int))) (wipe σ vs) H1 fun σ2 H2 => wipe σ2 vs = wipe σ vs ∧ tt σ2 H2 fun b H3 => if b = true then te σ2 H3 R else R0 H3)
    (done : ∀ (H1 : Hp) (acc : List V) (zs : List W), Same H H1 → H1 D = some (.lst acc) → Pile H1 acc zs → zs.length ≤ m → (∀ z ∈ zs, z ∈ ws) → Qd H1) :
    LoopC (Itr 0 m) g tt te vs σ D Qd (upd H D (.lst [])) := by
  refine loopCR (fun j H' => Same H H' ∧ ∃ acc zs, H' D = some (.lst acc) ∧ Pile H' acc zs ∧ zs.length ≤ j ∧ ∀ z ∈ zs, z ∈ ws) ⟨same_new hD, [], [], upd_same, Pile.nil, Nat.le_refl _, (fun _ h => nomatch h)⟩ ?_ ?_
  · rintro j H3 hj ⟨s3, acc, zs, hD3, p3, zl, zk⟩
    refine body j H3 hj s3 (fun y H4 => ∃ acc, H4 D = some (.lst acc) ∧ acc.length < sizeLine ∧ _) _ ?_ ?_
    · intro v z wz zm
      refine ⟨acc, hD3, ?_, ?_, _, zs ++ [z], upd_same, (Pile.app p3 (Pile.one wz)).keep (Tk.lst hD3), ?_, ?_⟩
      · rw [p3.len]
        have : 1000 < sizeLine := by decide
        omega
      · intro x o e
        rw [upd_ne (ne_of_none e hD)]
        exact s3 x o e
      · rw [List.length_append]
        show zs.length + 1 ≤ j + 1
        omega
      · intro x hx
        rcases List.mem_append.mp hx with hx | hx
        · exact zk x hx
        · rw [List.mem_singleton.mp hx]; exact zm
    · exact ⟨s3, acc, zs, hD3, p3, by omega, zk⟩
  · rintro H3 ⟨s3, acc, zs, hD3, p3, zl, zk⟩
    exact done H3 acc zs s3 hD3 p3 zl zk
theorem lc_filt {K : PySem.W.Frag} {xs : List V} {ws : List W} {f : W → Bool} (hD : H D = none) (hb : H b = some (.lst xs)) (p : Pile H xs ws) (hl : ws.length < 1000000)
    (body : ∀ (x : V) (z : W) (H1 : Hp) (R : V → Hp → Prop) (R0 : Hp → Prop), z ∈ ws → IsW H1 x z → Same H H1 → (f z = true → ∀ H3, Same H1 H3 → R x H3) → (f z = false → ∀ H3, Same H1 H3 → R0 H3) →
      g x (wipe σ vs) H1 fun σ2 H2 => wipe σ2 vs = wipe σ vs ∧ tt σ2 H2 fun b H3 => if b = true then te σ2 H3 R else R0 H3)
    (done : ∀ (H1 : Hp) (acc : List V), Same H H1 → H1 D = some (.lst acc) → Pile H1 acc (ws.filter f) → Qd H1) :
    LoopC (Itl K b) g tt te vs σ D Qd (upd H D (.lst [])) := by
  refine loopCL (xs := xs) (fun j H' => Same H H' ∧ ∃ acc, H' D = some (.lst acc) ∧ Pile H' acc ((ws.take j).filter f)) ⟨same_new hD, [], upd_same, Pile.nil⟩ (fun j H' _ h => SqL.of (h.1 _ _ hb)) ?_ ?_
  · rintro j x H3 hj ⟨s3, acc, hD3, p3⟩
    obtain ⟨z, hz, hw⟩ := p.get hj
    have wz := hw.keep (Same.tk s3)
    have al : acc.length < sizeLine := by
      rw [p3.len]
      have := List.length_filter_le f (ws.take j)
      rw [List.length_take] at this
      have : 1000000 < sizeLine := by decide
      omega
    refine body x z H3 (fun y H4 => ∃ acc, H4 D = some (.lst acc) ∧ acc.length < sizeLine ∧ _) _ (List.mem_of_getElem? hz) wz s3 (fun c H4 s4 => ?_) (fun c H4 s4 => ?_)
    · have h4 := s4 _ _ hD3
      refine ⟨acc, h4, al, fun a o e => ?_, _, upd_same, ?_⟩
      · rw [upd_ne (ne_of_none e hD)]
        exact s4 _ _ (s3 _ _ e)
      · rw [List.take_add_one, hz, List.filter_append, show List.filter f (some z).toList = [z] by show List.filter f [z] = [z]; rw [List.filter_cons_of_pos c, List.filter_nil]]
        exact (Pile.app (p3.keep (Same.tk s4)) (Pile.one (wz.keep (Same.tk s4)))).keep (Tk.lst h4)
    · refine ⟨s3.trans s4, acc, s4 _ _ hD3, ?_⟩
      rw [List.take_add_one, hz, List.filter_append, show List.filter f (some z).toList = [] by show List.filter f [z] = []; rw [List.filter_cons_of_neg (by rw [c]; exact Bool.false_ne_true), List.filter_nil], List.append_nil]
      exact p3.keep (Same.tk s4)
  · rintro H3 ⟨s3, acc, hD3, p3⟩
    rw [p.len, List.take_length] at p3
    exact done H3 acc s3 hD3 p3
end
end Wpk

/-! Pictures as data; how one is made. -/
namespace Wpm
open PySem PySem.Spec PyProof.Rows L2 Wp Wq Wr
def Newly (ws : List W) (z : W) : Prop := z ∈ ws ∨ (z.1 = Str.ofString "at" ∧ 0 ≤ z.2) ∨ z.1 = Str.ofString "num"
theorem eqv_nil {ds : List PyData} : PyData.eqv (.list ds) (.list []) = decide (ds = []) := by
  cases ds <;> simp [PyData.eqv, PyData.eqvAll]
/-- many wells -/
def Wells (H : Hp) (bs : List Addr) (n : Nat) : Prop := ∀ b ∈ bs, Ww.Well H b n
theorem Wells.step {H H' : Hp} {bs : List Addr} {b : Addr} {n m : Nat} (h : Wells H bs n) (hb : Ww.Well H' b m) (k : Kp b H H') (hm : n ≤ m) : Wells H' bs m := by
  intro c hc
  by_cases e : c = b
  · rw [e]; exact hb
  · exact ((h c hc).at fun o ho => k c o e ho).mono hm
theorem Wells.keep {H H' : Hp} {bs : List Addr} {n : Nat} (h : Wells H bs n) (k : Same H H') : Wells H' bs n := fun c hc => (h c hc).keep k
theorem Wells.mono {H : Hp} {bs : List Addr} {n m : Nat} (h : Wells H bs n) (k : n ≤ m) : Wells H bs m := fun c hc => (h c hc).mono k
/-- a list of numbered names -/
def sBox : Str := Str.ofString "box"
def sGo : Str := Str.ofString "go"
def Named (ws : List W) : Prop := (∀ z ∈ ws, (z.1 = sBox ∨ z.1 = sGo) ∧ 0 ≤ z.2) ∧ ws.Pairwise fun x y => x.1 = y.1 → x.2 < y.2
/-- the last number of each word -/
def LastD (g : Str → Int) : List (Key × V) := [(.inr sBox, .int (g sBox)), (.inr sGo, .int (g sGo))]
theorem box_go : sBox ≠ sGo := by decide +kernel
theorem LastD.get (g : Str → Int) {wd : Str} (h : wd = sBox ∨ wd = sGo) : valV (LastD g) (.inr wd) = some (.int (g wd)) := by
  rcases h with rfl | rfl
  · exact valV_pos rfl
  · rw [show LastD g = (.inr sBox, .int (g sBox)) :: [(.inr sGo, .int (g sGo))] from rfl, valV_neg (fun e => box_go (Sum.inr.inj e))]
    exact valV_pos rfl
theorem LastD.put (g : Str → Int) {wd : Str} (h : wd = sBox ∨ wd = sGo) (v : Int) : putK (LastD g) (.inr wd) (.int v) = LastD fun u => if u = wd then v else g u := by
  have n1 : ¬ (Sum.inr sBox : Key) = Sum.inr sGo := fun e => box_go (Sum.inr.inj e)
  have n2 : ¬ (Sum.inr sGo : Key) = Sum.inr sBox := fun e => box_go (Sum.inr.inj e).symm
  rcases h with rfl | rfl
  · simp [putK, LastD, n1, n2, box_go, box_go.symm]
  · simp [putK, LastD, n1, n2, box_go, box_go.symm]
theorem Named.app {ws : List W} {z : W} (h : Named ws) (k : z.1 = sBox ∨ z.1 = sGo) (z0 : 0 ≤ z.2) (lt : ∀ x ∈ ws, x.1 = z.1 → x.2 < z.2) : Named (ws ++ [z]) := by
  refine ⟨?_, ?_⟩
  · intro x hx
    rcases List.mem_append.mp hx with hx | hx
    · exact h.1 x hx
    · rw [List.mem_singleton.mp hx]; exact ⟨k, z0⟩
  · rw [List.pairwise_append]
    refine ⟨h.2, List.pairwise_singleton _ _, ?_⟩
    intro x hx y hy
    rw [List.mem_singleton.mp hy]
    exact lt x hx
/-- what a hold does: a peg more, or a worth more in a row -/
def Held1 (H H' : Hp) (b pg : Addr) (kvs : List (Key × V)) (rs : List Addr) (v : V) : Prop :=
  (∃ name : Str, Wu.Nm name ∧ 1 ≤ name.length ∧ valV kvs (.inr name) = none ∧ H' pg = some (.dK (kvs ++ [(.inr name, v)])) ∧ Ks [b, pg] H H') ∨
  (∃ r xs k, r ∈ rs ∧ H r = some (.lst xs) ∧ H' r = some (.lst (xs.take k ++ v :: xs.drop k)) ∧ k ≤ xs.length ∧ Ks [b, r] H H')
/-- the pegs' dict -/
def PegOk (ws : List W) (H : Hp) (kvs : List (Key × V)) (n : Nat) : Prop := (∀ kv ∈ kvs, ∃ (nm : Str) (z : W), kv.1 = .inr nm ∧ IsW H kv.2 z ∧ Wu.Nm nm ∧ 1 ≤ nm.length ∧ Newly ws z) ∧ (kvs.map (·.1)).Nodup ∧ kvs.length ≤ n
theorem PegOk.keep {ws : List W} {H H' : Hp} {kvs : List (Key × V)} {n : Nat} (h : PegOk ws H kvs n) (k : Tk H H') : PegOk ws H' kvs n := ⟨fun kv m => by
  obtain ⟨nm, z, e, w, r⟩ := h.1 kv m
  exact ⟨nm, z, e, w.keep k, r⟩, h.2⟩
theorem PegOk.put {ws : List W} {H : Hp} {kvs : List (Key × V)} {n : Nat} {nm : Str} {v : V} {z : W} (h : PegOk ws H kvs n) (w : IsW H v z) (n1 : Wu.Nm nm) (n2 : 1 ≤ nm.length) (nz : Newly ws z) : PegOk ws H (putK kvs (.inr nm) v) (n + 1) := by
  obtain ⟨h1, h2, h3⟩ := h
  unfold putK
  by_cases c : (kvs.any fun kv => decide (kv.1 = (Sum.inr nm : Key))) = true
  · rw [if_pos c]
    refine ⟨?_, ?_, by rw [List.length_map]; omega⟩
    · intro kv m
      obtain ⟨kv0, m0, rfl⟩ := List.mem_map.mp m
      by_cases e : kv0.1 = (Sum.inr nm : Key)
      · rw [if_pos e]; exact ⟨nm, z, e, w, n1, n2, nz⟩
      · rw [if_neg e]; exact h1 kv0 m0
    · have : (kvs.map fun kv => if kv.1 = (Sum.inr nm : Key) then (kv.1, v) else kv).map (·.1) = kvs.map (·.1) := by
        rw [List.map_map]
        refine List.map_congr_left fun kv _ => ?_
        show (if kv.1 = (Sum.inr nm : Key) then (kv.1, v) else kv).1 = kv.1
        split <;> rfl
      rw [this]; exact h2
  · rw [if_neg c]
    refine ⟨?_, ?_, by rw [List.length_append]; show kvs.length + 1 ≤ n + 1; omega⟩
    · intro kv m
      rcases List.mem_append.mp m with m | m
      · exact h1 kv m
      · rw [List.mem_singleton.mp m]; exact ⟨nm, z, rfl, w, n1, n2, nz⟩
    · rw [List.map_append]
      refine List.pairwise_append.mpr ⟨h2, List.pairwise_singleton _ _, ?_⟩
      intro x hx y hy
      rw [List.mem_singleton.mp hy]
      obtain ⟨kv, m, rfl⟩ := List.mem_map.mp hx
      exact fun e => c (List.any_eq_true.mpr ⟨kv, m, decide_eq_true e⟩)
/-! ### a picture as data -/
def strLt (a b : Str) : Prop := a.cps.toList < b.cps.toList
structure Pic where
  pile : List W
  pegs : List (Str × W)
  goings : List (Int × Int × List W)
  boxes : List (Int × W)
namespace Pic
def things (P : Pic) : List W := P.boxes.map (fun b => (sBox, b.1)) ++ P.goings.map (fun g => (sGo, g.1))
def worths (P : Pic) : List W := P.pile ++ (P.pegs.map (·.2) ++ P.boxes.map (·.2)) ++ P.goings.flatMap (·.2.2)
end Pic
/-- a worth -/
def Wk (z : W) : Prop := ((z.1 = sBox ∨ z.1 = sGo) ∧ 0 ≤ z.2) ∨ (z.1 = Str.ofString "at" ∧ 0 ≤ z.2) ∨ z.1 = Str.ofString "num"
structure Pic.Ok (P : Pic) : Prop where
  words : ∀ z ∈ P.worths, Wk z
  names : ∀ p ∈ P.pegs, Wu.Nm p.1 ∧ 1 ≤ p.1.length
  pegUp : P.pegs.Pairwise fun a b => strLt a.1 b.1
  goUp : P.goings.Pairwise fun a b => a.1 < b.1
  goNat : ∀ g ∈ P.goings, 0 ≤ g.1 ∧ 0 ≤ g.2.1
  boxUp : P.boxes.Pairwise fun a b => a.1 < b.1
  boxNat : ∀ b ∈ P.boxes, 0 ≤ b.1
  closed : ∀ z ∈ P.worths, (z.1 = sBox ∨ z.1 = sGo) → z ∈ P.things
  held : ∀ z ∈ P.things, z ∈ P.worths
def Pic.Small (n : Nat) (P : Pic) : Prop := P.pile.length ≤ n ∧ P.pegs.length ≤ 100 ∧ P.goings.length ≤ 100 ∧ P.boxes.length ≤ 100 ∧ ∀ g ∈ P.goings, g.2.2.length ≤ n
def IsPegT (H : Hp) (x : V) (p : Str × W) : Prop := ∃ t v, x = .ref t ∧ H t = some (.tup [.str p.1, v]) ∧ IsW H v p.2
def IsBoxT (H : Hp) (x : V) (p : Int × W) : Prop := ∃ t v, x = .ref t ∧ H t = some (.tup [.int p.1, v]) ∧ IsW H v p.2
def IsGoT (S : List Addr) (H : Hp) (x : V) (g : Int × Int × List W) : Prop := ∃ t l vs, x = .ref t ∧ H t = some (.tup [.int g.1, .int g.2.1, .ref l]) ∧ H l = some (.lst vs) ∧ Pile H vs g.2.2 ∧ l ∉ S
structure PicAt (S : List Addr) (H : Hp) (a b c d : Addr) (pa xb xc xd : List V) (P : Pic) : Prop where
  ha : H a = some (.lst pa)
  hb : H b = some (.lst xb)
  hc : H c = some (.lst xc)
  hd : H d = some (.lst xd)
  pile : Pile H pa P.pile
  pegs : Paired (IsPegT H) xb P.pegs
  goings : Paired (IsGoT S H) xc P.goings
  boxes : Paired (IsBoxT H) xd P.boxes
  free : ∀ x ∈ [a, b, c, d], x ∉ S
def IsPic (S : List Addr) (H : Hp) (v : V) (P : Pic) : Prop := ∃ t a b c d pa xb xc xd, v = .ref t ∧ H t = some (.tup [.ref a, .ref b, .ref c, .ref d]) ∧ PicAt S H a b c d pa xb xc xd P
section
variable {S S' : List Addr} {H H' : Hp} {x v : V}
theorem IsPegT.keep {p : Str × W} (h : IsPegT H x p) (k : Tk H H') : IsPegT H' x p := by
  obtain ⟨t, v, e, h1, h2⟩ := h
  exact ⟨t, v, e, k _ _ h1, h2.keep k⟩
theorem IsBoxT.keep {p : Int × W} (h : IsBoxT H x p) (k : Tk H H') : IsBoxT H' x p := by
  obtain ⟨t, v, e, h1, h2⟩ := h
  exact ⟨t, v, e, k _ _ h1, h2.keep k⟩
theorem IsGoT.keep {g : Int × Int × List W} (h : IsGoT S H x g) (k : Ks S H H') : IsGoT S H' x g := by
  obtain ⟨t, l, vs, e, h1, h2, h3, h4⟩ := h
  exact ⟨t, l, vs, e, k.tk _ _ h1, k.keep _ _ h4 h2, h3.keep k.tk, h4⟩
theorem IsGoT.less {g : Int × Int × List W} (h : IsGoT S H x g) (k : ∀ a ∈ S', a ∈ S) : IsGoT S' H x g := by
  obtain ⟨t, l, vs, e, h1, h2, h3, h4⟩ := h
  exact ⟨t, l, vs, e, h1, h2, h3, fun q => h4 (k _ q)⟩
theorem PicAt.keep {a b c d : Addr} {pa xb xc xd : List V} {P : Pic} (h : PicAt S H a b c d pa xb xc xd P) (k : Ks S H H') : PicAt S H' a b c d pa xb xc xd P where
  ha := k.keep _ _ (h.free a (by simp)) h.ha
  hb := k.keep _ _ (h.free b (by simp)) h.hb
  hc := k.keep _ _ (h.free c (by simp)) h.hc
  hd := k.keep _ _ (h.free d (by simp)) h.hd
  pile := h.pile.keep k.tk
  pegs := Paired.mapP h.pegs fun _ _ q => q.keep k.tk
  goings := Paired.mapP h.goings fun _ _ q => q.keep k
  boxes := Paired.mapP h.boxes fun _ _ q => q.keep k.tk
  free := h.free
theorem IsPic.keep {P : Pic} (h : IsPic S H v P) (k : Ks S H H') : IsPic S H' v P := by
  obtain ⟨t, a, b, c, d, pa, xb, xc, xd, e, h1, h2⟩ := h
  exact ⟨t, a, b, c, d, pa, xb, xc, xd, e, k.tk _ _ h1, h2.keep k⟩
end
/-! ### the making -/
def IsPeg (H : Hp) (kv : Key × V) (nz : Str × W) : Prop := kv.1 = .inr nz.1 ∧ IsW H kv.2 nz.2
theorem IsPeg.keep {H H' : Hp} {kv : Key × V} {nz : Str × W} (h : IsPeg H kv nz) (k : Tk H H') : IsPeg H' kv nz := ⟨h.1, h.2.keep k⟩
theorem pegs_of {ws : List W} {H : Hp} : ∀ {kvs : List (Key × V)}, (∀ kv ∈ kvs, ∃ (nm : Str) (z : W), kv.1 = .inr nm ∧ IsW H kv.2 z ∧ Wu.Nm nm ∧ 1 ≤ nm.length ∧ Newly ws z) →
    ∃ kw : List (Str × W), Paired (IsPeg H) kvs kw ∧ ∀ nz ∈ kw, Wu.Nm nz.1 ∧ 1 ≤ nz.1.length ∧ Newly ws nz.2
  | [], _ => ⟨[], .nil, fun _ h => nomatch h⟩
  | kv :: kvs, h => by
    obtain ⟨nm, z, e, w, n1, n2, nz⟩ := h kv List.mem_cons_self
    obtain ⟨kw, p, q⟩ := pegs_of fun x hx => h x (List.mem_cons_of_mem _ hx)
    refine ⟨(nm, z) :: kw, .cons ⟨e, w⟩ p, fun y hy => ?_⟩
    rcases List.mem_cons.mp hy with rfl | hy
    · exact ⟨n1, n2, nz⟩
    · exact q y hy
theorem pegs_keys {H : Hp} : ∀ {kvs : List (Key × V)} {kw : List (Str × W)}, Paired (IsPeg H) kvs kw → kvs.map (·.1) = kw.map fun nz => (Sum.inr nz.1 : Key)
  | _, _, .nil => rfl
  | _, _, .cons r t => by rw [List.map_cons, List.map_cons, pegs_keys t, r.1]
theorem pegs_nodup {H : Hp} {kvs : List (Key × V)} {kw : List (Str × W)} (h : Paired (IsPeg H) kvs kw) (n : (kvs.map (·.1)).Nodup) : (kw.map (·.1)).Nodup := by
  rw [pegs_keys h, show (fun nz : Str × W => (Sum.inr nz.1 : Key)) = (fun s => (Sum.inr s : Key)) ∘ (·.1) from rfl, ← List.map_map] at n
  exact (List.Pairwise.of_map _ (fun a b q e => q (congrArg _ e)) n)
theorem valV_none {k : Key} : ∀ {kvs : List (Key × V)}, valV kvs k = none → k ∉ kvs.map (·.1)
  | [], _ => fun m => nomatch m
  | kv :: kvs, h => by
    by_cases e : kv.1 = k
    · rw [show kv :: kvs = (kv.1, kv.2) :: kvs from rfl, valV_pos e] at h
      cases h
    · rw [show kv :: kvs = (kv.1, kv.2) :: kvs from rfl, valV_neg e] at h
      have ih := valV_none h
      intro m
      rcases List.mem_cons.mp m with q | m
      · exact e q.symm
      · exact ih m
def Stands (Ps : List (List W)) (pw : List W) (kw : List (Str × W)) (z : W) : Prop := z ∈ pw ∨ (∃ p ∈ Ps, z ∈ p) ∨ ∃ nz ∈ kw, nz.2 = z
structure Dat (ws : List W) (N i : Nat) (Ps : List (List W)) (pw : List W) (kw : List (Str × W)) : Prop where
  psl : Ps.length = N
  rows : ∀ (j : Nat) (z : W) (p : List W), ws[j]? = some z → Ps[j]? = some p → (z.1 = sBox → p.length = 1) ∧ p.length ≤ 4 + i ∧ ∀ y ∈ p, Newly ws y
  pile : pw.length ≤ 7 + i ∧ ∀ y ∈ pw, Newly ws y
  pegs : kw.length ≤ 4 + i ∧ (kw.map (·.1)).Nodup ∧ ∀ nz ∈ kw, Wu.Nm nz.1 ∧ 1 ≤ nz.1.length ∧ Newly ws nz.2
  held : ∀ j, j < i → ∀ z, ws[j]? = some z → Stands Ps pw kw z
structure Fix (ws : List W) (N : Nat) (H0 : Hp) (D E r R Pl G Pg : Addr) (bs ra : List Addr) (sd pp : List Int) : Prop where
  bl : bs.length = N
  sl : sd.length = N
  wl : ws.length = N
  rl : ra.length = N
  pl : pp.length = N
  N30 : N ≤ 30
  sb : ∀ x ∈ sd, 0 ≤ x ∧ x < 2
  wn : Named ws
  pp0 : ∀ x ∈ pp, 0 ≤ x
  nd : ra.Nodup
  Gra : G ∉ ra
  Pgx : Pg ≠ G ∧ Pg ∉ ra
  apart : ∀ x ∈ [D, E, r, R, Pl], x ∉ Pg :: G :: (ra ++ bs)
  wap : ∀ b ∈ bs, b ∉ Pg :: G :: ra
  fresh : ∀ x ∈ Pg :: G :: (ra ++ bs), H0 x = none
structure Mid (ws : List W) (H0 : Hp) (D E r R Pl G Pg : Addr) (bs ra : List Addr) (sd pp : List Int) (vs : List V) (n : Nat) (H : Hp) (Ps : List (List W)) (pw : List W) (kvs : List (Key × V)) (kw : List (Str × W)) : Prop where
  hD : H D = some (.lst (bs.map V.ref))
  hE : H E = some (.lst (sd.map V.int))
  hr : H r = some (.lst vs)
  hp : Pile H vs ws
  hR : H R = some (.lst (ra.map V.ref))
  hPl : H Pl = some (.lst (pp.map V.int))
  rows : Lists [] H (ra.map V.ref) Ps
  pile : ∃ pa, H G = some (.lst pa) ∧ Pile H pa pw
  hPg : H Pg = some (.dK kvs)
  pegs : Paired (IsPeg H) kvs kw
  wells : Wells H bs n
  same : Same H0 H
theorem Lists.more {S : List Addr} {H : Hp} : ∀ {ra : List Addr} {Ps : List (List W)}, Lists [] H (ra.map V.ref) Ps → (∀ a ∈ ra, a ∉ S) → Lists S H (ra.map V.ref) Ps
  | [], _, .nil, _ => .nil
  | a :: ra, _, .cons ⟨l, vs, e, h1, h2, _⟩ t, k => by
    refine .cons ⟨l, vs, e, h1, h2, ?_⟩ (Lists.more t fun x hx => k x (List.mem_cons_of_mem _ hx))
    injection e with e
    rw [← e]
    exact k a List.mem_cons_self
theorem Lists.ins {H H' : Hp} {b r : Addr} {v : V} {z : W} {k : Nat} {xs : List V} (hx : H r = some (.lst xs)) (h' : H' r = some (.lst (xs.take k ++ v :: xs.drop k))) (hk : Ks [b, r] H H') (wz : IsW H v z) :
    ∀ {ra : List Addr} {Ps : List (List W)} {j : Nat} {p : List W}, Lists [] H (ra.map V.ref) Ps → ra.Nodup → b ∉ ra → ra[j]? = some r → Ps[j]? = some p → Lists [] H' (ra.map V.ref) (Ps.set j (p.take k ++ z :: p.drop k))
  | a :: ra, _ :: Ps, 0, p, .cons ⟨l, vs, e, h1, h2, _⟩ t, nd, nb, hj, hp => by
    cases hj
    cases hp
    injection e with e
    subst e
    rw [hx] at h1
    cases h1
    have nd2 := List.nodup_cons.mp nd
    refine .cons ⟨r, _, rfl, h', ?_, by simp⟩ ?_
    · exact (Pile.app (h2.take k) (Paired.cons wz (h2.drop k))).keep hk.tk
    · refine Lists.less (S := [b, r]) ((Lists.more t fun x hx => ?_).keep hk) (fun _ h => nomatch h)
      intro m
      rcases List.mem_cons.mp m with q | m
      · exact nb (by rw [← q]; exact List.mem_cons_of_mem _ hx)
      · rw [List.mem_singleton.mp m] at hx; exact nd2.1 hx
  | a :: ra, q :: Ps, j + 1, p, .cons ⟨l, vs, e, h1, h2, h3⟩ t, nd, nb, hj, hp => by
    have nd2 := List.nodup_cons.mp nd
    injection e with e
    subst e
    have hm : r ∈ ra := List.mem_of_getElem? (show ra[j]? = some r from hj)
    have na : a ∉ [b, r] := by
      intro m
      rcases List.mem_cons.mp m with q | m
      · exact nb (by rw [← q]; exact List.mem_cons_self)
      · rw [← List.mem_singleton.mp m] at hm; exact nd2.1 hm
    exact .cons ⟨a, vs, rfl, hk.keep _ _ na h1, h2.keep hk.tk, h3⟩ (Lists.ins hx h' hk wz t nd2.2 (fun m => nb (List.mem_cons_of_mem _ m)) hj hp)
section
variable {ws : List W} {N i n n' : Nat} {H0 H H' : Hp} {D E r R Pl G Pg b : Addr} {bs ra hs : List Addr} {sd pp : List Int} {vs : List V} {Ps : List (List W)} {pw : List W} {kvs : List (Key × V)} {kw : List (Str × W)} {z : W} {v : V}
theorem Dat.skip (d : Dat ws N i Ps pw kw) (h : ∀ z, ws[i]? = some z → Stands Ps pw kw z) : Dat ws N (i + 1) Ps pw kw where
  psl := d.psl
  rows := fun j z p hz hp => ⟨(d.rows j z p hz hp).1, by have := (d.rows j z p hz hp).2.1; omega, (d.rows j z p hz hp).2.2⟩
  pile := ⟨by have := d.pile.1; omega, d.pile.2⟩
  pegs := ⟨by have := d.pegs.1; omega, d.pegs.2⟩
  held := fun j hj z hz => by
    by_cases e : j = i
    · rw [e] at hz; exact h z hz
    · exact d.held j (by omega) z hz
/-- the fixed part behind a change at one place -/
theorem Mid.fixed (F : Fix ws N H0 D E r R Pl G Pg bs ra sd pp) (m : Mid ws H0 D E r R Pl G Pg bs ra sd pp vs n H Ps pw kvs kw) (hb : b ∈ bs) {x : Addr} (hx : x ∈ Pg :: G :: ra) (k : Ks [b, x] H H') :
    H' D = some (.lst (bs.map V.ref)) ∧ H' E = some (.lst (sd.map V.int)) ∧ H' r = some (.lst vs) ∧ Pile H' vs ws ∧ H' R = some (.lst (ra.map V.ref)) ∧ H' Pl = some (.lst (pp.map V.int)) ∧ Same H0 H' := by
  have xin : x ∈ Pg :: G :: (ra ++ bs) := by
    rcases List.mem_cons.mp hx with h | h
    · rw [h]; exact List.mem_cons_self
    · rcases List.mem_cons.mp h with h | h
      · rw [h]; simp
      · simp [h]
  have bin : b ∈ Pg :: G :: (ra ++ bs) := by simp [hb]
  have ap : ∀ y ∈ [D, E, r, R, Pl], y ∉ [b, x] := fun y hy m => by
    rcases List.mem_cons.mp m with h | h
    · exact F.apart y hy (h ▸ bin)
    · exact F.apart y hy (List.mem_singleton.mp h ▸ xin)
  refine ⟨k.keep _ _ (ap _ (by simp)) m.hD, k.keep _ _ (ap _ (by simp)) m.hE, k.keep _ _ (ap _ (by simp)) m.hr, m.hp.keep k.tk, k.keep _ _ (ap _ (by simp)) m.hR, k.keep _ _ (ap _ (by simp)) m.hPl, ?_⟩
  refine k.toSame m.same fun a ha => ?_
  rcases List.mem_cons.mp ha with h | h
  · rw [h]; exact F.fresh b bin
  · rw [List.mem_singleton.mp h]; exact F.fresh x xin
theorem Wells.put {x : Addr} (h : Wells H bs n) (hb : b ∈ bs) (hw : Ww.Well H' b n') (hn : n ≤ n') (hx : x ∉ bs) (k : Ks [b, x] H H') : Wells H' bs n' := by
  intro c hc
  by_cases e : c = b
  · rw [e]; exact hw
  · refine ((h c hc).at fun o ho => k.keep c o (fun m => ?_) ho).mono hn
    rcases List.mem_cons.mp m with q | q
    · exact e q
    · rw [List.mem_singleton.mp q] at hc; exact hx hc
theorem Mid.hold (F : Fix ws N H0 D E r R Pl G Pg bs ra sd pp) (m : Mid ws H0 D E r R Pl G Pg bs ra sd pp vs n H Ps pw kvs kw) (d : Dat ws N i Ps pw kw) (hz : ws[i]? = some z) (hv : IsW H v z) (hb : b ∈ bs) (hw : Ww.Well H' b n') (hn : n ≤ n')
    (h : Held1 H H' b Pg kvs (G :: hs) v) (hhs : ∀ a ∈ hs, ∃ (j : Nat) (zj : W), ra[j]? = some a ∧ ws[j]? = some zj ∧ zj.1 = sGo) :
    ∃ Ps' pw' kvs' kw', Mid ws H0 D E r R Pl G Pg bs ra sd pp vs n' H' Ps' pw' kvs' kw' ∧ Dat ws N (i + 1) Ps' pw' kw' := by
  have zn : Newly ws z := .inl (List.mem_of_getElem? hz)
  have bap := F.wap b hb
  have bPg : b ≠ Pg := fun e => bap (e ▸ List.mem_cons_self)
  have bG : b ≠ G := fun e => bap (e ▸ List.mem_cons_of_mem _ List.mem_cons_self)
  have bra : b ∉ ra := fun e => bap (List.mem_cons_of_mem _ (List.mem_cons_of_mem _ e))
  have nbs : ∀ x ∈ Pg :: G :: ra, x ∉ bs := fun x hx q => F.wap x q hx
  obtain ⟨pa, hG, pG⟩ := m.pile
  rcases h with ⟨name, n1, n2, nn, hPg', k⟩ | ⟨q, xs, c, hq, hq1, hq2, hc, k⟩
  · obtain ⟨f1, f2, f3, f4, f5, f6, f7⟩ := Mid.fixed F m hb (x := Pg) List.mem_cons_self k
    have nk : name ∉ kw.map (·.1) := by
      have := valV_none nn
      rw [pegs_keys m.pegs] at this
      intro q
      obtain ⟨nz, m1, e⟩ := List.mem_map.mp q
      exact this (List.mem_map.mpr ⟨nz, m1, by rw [e]⟩)
    refine ⟨Ps, pw, _, kw ++ [(name, z)], ⟨f1, f2, f3, f4, f5, f6, ?_, ⟨pa, ?_, pG.keep k.tk⟩, hPg', ?_, ?_, f7⟩, ?_⟩
    · refine Lists.less (S := [b, Pg]) ((Lists.more m.rows fun x hx => ?_).keep k) (fun _ h => nomatch h)
      intro q
      rcases List.mem_cons.mp q with q | q
      · exact bra (q ▸ hx)
      · exact F.Pgx.2 (List.mem_singleton.mp q ▸ hx)
    · refine k.keep _ _ (fun q => ?_) hG
      rcases List.mem_cons.mp q with q | q
      · exact bG q.symm
      · exact F.Pgx.1 (List.mem_singleton.mp q).symm
    · exact Wpk.paired_snoc (Paired.mapP m.pegs fun _ _ q => q.keep k.tk) ⟨rfl, hv.keep k.tk⟩
    · exact Wells.put m.wells hb hw hn (nbs _ List.mem_cons_self) k
    · refine ⟨d.psl, fun j y p hy hp => ⟨(d.rows j y p hy hp).1, by have := (d.rows j y p hy hp).2.1; omega, (d.rows j y p hy hp).2.2⟩, ⟨by have := d.pile.1; omega, d.pile.2⟩, ⟨?_, ?_, ?_⟩, ?_⟩
      · rw [List.length_append]
        have := d.pegs.1
        show kw.length + 1 ≤ _
        omega
      · rw [List.map_append]
        refine List.pairwise_append.mpr ⟨d.pegs.2.1, List.pairwise_singleton _ _, ?_⟩
        intro x hx y hy
        rw [List.mem_singleton.mp hy]
        rintro rfl
        exact nk hx
      · intro nz hnz
        rcases List.mem_append.mp hnz with h | h
        · exact d.pegs.2.2 nz h
        · rw [List.mem_singleton.mp h]; exact ⟨n1, n2, zn⟩
      · intro j hj y hy
        by_cases e : j = i
        · rw [e, hz] at hy
          cases hy
          exact .inr (.inr ⟨(name, z), by simp, rfl⟩)
        · rcases d.held j (by omega) y hy with h | h | ⟨nz, h, e2⟩
          · exact .inl h
          · exact .inr (.inl h)
          · exact .inr (.inr ⟨nz, List.mem_append_left _ h, e2⟩)
  · rcases List.mem_cons.mp hq with e | hq
    · subst e
      rw [hG] at hq1
      cases hq1
      obtain ⟨f1, f2, f3, f4, f5, f6, f7⟩ := Mid.fixed F m hb (x := q) (by simp) k
      have pl2 : Pile H' (pa.take c ++ v :: pa.drop c) (pw.take c ++ z :: pw.drop c) := (Pile.app (pG.take c) (Paired.cons hv (pG.drop c))).keep k.tk
      have inw : ∀ y, y ∈ pw.take c ++ z :: pw.drop c ↔ y ∈ pw ∨ y = z := by
        intro y
        constructor
        · intro h
          rcases List.mem_append.mp h with h | h
          · exact .inl (List.mem_of_mem_take h)
          · rcases List.mem_cons.mp h with h | h
            · exact .inr h
            · exact .inl (List.mem_of_mem_drop h)
        · intro h
          rcases h with h | h
          · rw [← List.take_append_drop c pw] at h
            rcases List.mem_append.mp h with h | h
            · exact List.mem_append_left _ h
            · exact List.mem_append_right _ (List.mem_cons_of_mem _ h)
          · rw [h]; exact List.mem_append_right _ List.mem_cons_self
      have lw : (pw.take c ++ z :: pw.drop c).length = pw.length + 1 := by
        rw [List.length_append, List.length_cons, List.length_take, List.length_drop]
        omega
      refine ⟨Ps, _, kvs, kw, ⟨f1, f2, f3, f4, f5, f6, ?_, ⟨_, hq2, pl2⟩, ?_, Paired.mapP m.pegs fun _ _ q => q.keep k.tk, ?_, f7⟩, ?_⟩
      · refine Lists.less (S := [b, q]) ((Lists.more m.rows fun x hx => ?_).keep k) (fun _ h => nomatch h)
        intro w
        rcases List.mem_cons.mp w with w | w
        · exact bra (w ▸ hx)
        · exact F.Gra (List.mem_singleton.mp w ▸ hx)
      · refine k.keep _ _ (fun w => ?_) m.hPg
        rcases List.mem_cons.mp w with w | w
        · exact bPg w.symm
        · exact F.Pgx.1 (List.mem_singleton.mp w)
      · exact Wells.put m.wells hb hw hn (nbs _ (by simp)) k
      · refine ⟨d.psl, fun j y p hy hp => ⟨(d.rows j y p hy hp).1, by have := (d.rows j y p hy hp).2.1; omega, (d.rows j y p hy hp).2.2⟩, ⟨by rw [lw]; have := d.pile.1; omega, fun y hy => ?_⟩, ⟨by have := d.pegs.1; omega, d.pegs.2⟩, ?_⟩
        · rcases (inw y).mp hy with h | h
          · exact d.pile.2 y h
          · rw [h]; exact zn
        · intro j hj y hy
          by_cases e : j = i
          · rw [e, hz] at hy
            cases hy
            exact .inl ((inw _).mpr (.inr rfl))
          · rcases d.held j (by omega) y hy with h | h | h
            · exact .inl ((inw _).mpr (.inl h))
            · exact .inr (.inl h)
            · exact .inr (.inr h)
    · obtain ⟨j0, zj, hj0, hzj, hgo⟩ := hhs q hq
      have qra : q ∈ ra := List.mem_of_getElem? hj0
      obtain ⟨f1, f2, f3, f4, f5, f6, f7⟩ := Mid.fixed F m hb (x := q) (by simp [qra]) k
      have hlt : j0 < Ps.length := by
        rw [d.psl, ← F.rl]
        exact (List.getElem?_eq_some_iff.mp hj0).1
      obtain ⟨p0, hp0⟩ : ∃ p, Ps[j0]? = some p := ⟨_, List.getElem?_eq_getElem hlt⟩
      have L' := Lists.ins hq1 hq2 k hv m.rows F.nd bra hj0 hp0
      have inw : ∀ y, y ∈ p0.take c ++ z :: p0.drop c ↔ y ∈ p0 ∨ y = z := by
        intro y
        constructor
        · intro h
          rcases List.mem_append.mp h with h | h
          · exact .inl (List.mem_of_mem_take h)
          · rcases List.mem_cons.mp h with h | h
            · exact .inr h
            · exact .inl (List.mem_of_mem_drop h)
        · intro h
          rcases h with h | h
          · rw [← List.take_append_drop c p0] at h
            rcases List.mem_append.mp h with h | h
            · exact List.mem_append_left _ h
            · exact List.mem_append_right _ (List.mem_cons_of_mem _ h)
          · rw [h]; exact List.mem_append_right _ List.mem_cons_self
      have lw : (p0.take c ++ z :: p0.drop c).length = p0.length + 1 := by
        rw [List.length_append, List.length_cons, List.length_take, List.length_drop]
        omega
      refine ⟨_, pw, kvs, kw, ⟨f1, f2, f3, f4, f5, f6, L', ⟨pa, ?_, pG.keep k.tk⟩, ?_, Paired.mapP m.pegs fun _ _ q => q.keep k.tk, ?_, f7⟩, ?_⟩
      · refine k.keep _ _ (fun w => ?_) hG
        rcases List.mem_cons.mp w with w | w
        · exact bG w.symm
        · exact F.Gra (List.mem_singleton.mp w ▸ qra)
      · refine k.keep _ _ (fun w => ?_) m.hPg
        rcases List.mem_cons.mp w with w | w
        · exact bPg w.symm
        · exact F.Pgx.2 (List.mem_singleton.mp w ▸ qra)
      · exact Wells.put m.wells hb hw hn (nbs _ (by simp [qra])) k
      · refine ⟨by rw [List.length_set]; exact d.psl, fun j y p hy hp => ?_, ⟨by have := d.pile.1; omega, d.pile.2⟩, ⟨by have := d.pegs.1; omega, d.pegs.2⟩, ?_⟩
        · by_cases e : j = j0
          · subst e
            rw [List.getElem?_set_self hlt] at hp
            cases hp
            rw [hzj] at hy
            cases hy
            refine ⟨fun e => absurd (e.symm.trans hgo) box_go, ?_, fun y hy => ?_⟩
            · rw [lw]; have := (d.rows j _ p0 hzj hp0).2.1; omega
            · rcases (inw y).mp hy with h | h
              · exact (d.rows j _ p0 hzj hp0).2.2 y h
              · rw [h]; exact zn
          · rw [List.getElem?_set_ne (fun q => e q.symm)] at hp
            exact ⟨(d.rows j y p hy hp).1, by have := (d.rows j y p hy hp).2.1; omega, (d.rows j y p hy hp).2.2⟩
        · intro j hj y hy
          have low : ∀ y, (∃ p ∈ Ps, y ∈ p) ∨ y = z → ∃ p ∈ Ps.set j0 (p0.take c ++ z :: p0.drop c), y ∈ p := by
            intro y hy
            have here : p0.take c ++ z :: p0.drop c ∈ Ps.set j0 (p0.take c ++ z :: p0.drop c) := List.mem_of_getElem? (List.getElem?_set_self hlt)
            rcases hy with ⟨p, hp, hy⟩ | e
            · obtain ⟨jp, hjp⟩ := List.mem_iff_getElem?.mp hp
              by_cases e : jp = j0
              · rw [e, hp0] at hjp
                cases hjp
                exact ⟨_, here, (inw y).mpr (.inl hy)⟩
              · exact ⟨p, List.mem_of_getElem? (by rw [List.getElem?_set_ne (fun q => e q.symm)]; exact hjp), hy⟩
            · exact ⟨_, here, (inw y).mpr (.inr e)⟩
          by_cases e : j = i
          · rw [e, hz] at hy
            cases hy
            exact .inr (.inl (low _ (.inr rfl)))
          · rcases d.held j (by omega) y hy with h | h | h
            · exact .inl h
            · exact .inr (.inl (low _ (.inl h)))
            · exact .inr (.inr h)
end
end Wpm

/-! The made picture is right. -/
namespace Wpn
open PySem PySem.Spec PyProof.Rows L2 Wp Wq Wr Wpm Wk
/-! ### sorted pegs -/
def RP (H : Hp) (b : Wf.BD) (nz : Str × W) : Prop := b.1 = .inr nz.1 ∧ IsW H b.2.1 nz.2 ∧ b.2.2 = wD nz.2
section
variable {H : Hp} {kvs : List (Key × V)} {kw : List (Str × W)} {K : PySem.W.Frag} {bs : List Wf.BD}
theorem bs_of : ∀ {kvs : List (Key × V)} {kw : List (Str × W)}, Paired (IsPeg H) kvs kw → ∃ bs : List Wf.BD, (bs.map fun b => (b.1, b.2.1)) = kvs ∧ Paired (RP H) bs kw
  | _, _, .nil => ⟨[], rfl, .nil⟩
  | kv :: _, nz :: _, .cons r t => by
    obtain ⟨bs, e, p⟩ := bs_of t
    exact ⟨(kv.1, kv.2, wD nz.2) :: bs, by rw [List.map_cons, e], .cons ⟨r.1, r.2, rfl⟩ p⟩
theorem RP.mem (h : Paired (RP H) bs kw) {b : Wf.BD} (hb : b ∈ bs) : ∃ nz, nz ∈ kw ∧ RP H b nz := by
  obtain ⟨i, hi⟩ := List.mem_iff_getElem?.mp hb
  obtain ⟨nz, e, r⟩ := pair_at1 h hi
  exact ⟨nz, List.mem_of_getElem? e, r⟩
theorem RP.pD {b : Wf.BD} {nz : Str × W} (r : RP H b nz) : Wf.pD b = .tuple [.str nz.1, wD nz.2] := by
  unfold Wf.pD
  rw [r.1, r.2.2] <;> rfl
theorem bs_dp (h : Paired (RP H) bs kw) : ∀ b ∈ bs, Dp K H b.2.1 b.2.2 := fun b hb => by
  obtain ⟨nz, _, r⟩ := RP.mem h hb
  rw [r.2.2]
  exact r.2.1.dp
theorem bs_alike (h : Paired (RP H) bs kw) : PySem.W.AllAlike (bs.map Wf.pD) := by
  intro d hd d' hd'
  obtain ⟨b, hb, rfl⟩ := List.mem_map.mp hd
  obtain ⟨b', hb', rfl⟩ := List.mem_map.mp hd'
  obtain ⟨nz, _, r⟩ := RP.mem h hb
  obtain ⟨nz', _, r'⟩ := RP.mem h hb'
  rw [r.pD, r'.pD]
  simp [PySem.W.alike, PySem.W.alikeAll, alikeW]
theorem bs_sortable (h : Paired (RP H) bs kw) : PySem.W.Sortable (bs.map Wf.pD) := .inl fun d hd => by
  obtain ⟨b, hb, rfl⟩ := List.mem_map.mp hd
  obtain ⟨nz, _, r⟩ := RP.mem h hb
  exact ⟨_, _, r.pD⟩
theorem bs_depth (h : Paired (RP H) bs kw) : ∀ b ∈ bs, (Wf.pD b).depth ≤ 60 := fun b hb => by
  obtain ⟨nz, _, r⟩ := RP.mem h hb
  rw [r.pD]
  have e := wD_depth (w := nz.2)
  simp only [PyData.depth, PyData.depthAll] at *
  rw [e]
  decide
theorem le_name {a b : Wf.BD} {p q : Str × W} (ha : RP H a p) (hb : RP H b q) (h : Wf.leP a b = true) (n : p.1 ≠ q.1) : strLt p.1 q.1 := by
  have h2 : (!PySem.W.dataLt (Wf.pD b) (Wf.pD a)) = true := h
  rw [ha.pD, hb.pD, PySem.W.dataLt_pair (by simp [PySem.W.alike]) (alikeW _ _)] at h2
  simp only [PyData.eqv, PySem.W.dataLt_str, beq_iff_eq] at h2
  rw [if_neg (fun e => n e.symm)] at h2
  have h3 : ¬ q.1.cps.toList < p.1.cps.toList := by
    intro c
    rw [decide_eq_true c] at h2
    cases h2
  show p.1.cps.toList < q.1.cps.toList
  by_cases c : p.1.cps.toList < q.1.cps.toList
  · exact c
  · exact absurd (Str.ext' (Array.toList_inj.mp (List.le_antisymm (List.not_lt.mp h3) (List.not_lt.mp c)))) n
theorem pair_wise (h : Paired (RP H) bs kw) (hs : bs.Pairwise (fun a b => Wf.leP a b = true)) (nd : (kw.map (·.1)).Nodup) : kw.Pairwise fun a b => strLt a.1 b.1 := by
  induction h with
  | nil => exact .nil
  | @cons x p l1 l2 r t ih =>
    rw [List.pairwise_cons] at hs ⊢
    rw [List.map_cons] at nd
    have nd2 := List.nodup_cons.mp nd
    refine ⟨fun q hq => ?_, ih hs.2 nd2.2⟩
    obtain ⟨i, hi⟩ := List.mem_iff_getElem?.mp hq
    obtain ⟨b, hb, rb⟩ := pair_at t hi
    exact le_name r rb (hs.1 b (List.mem_of_getElem? hb)) fun e => nd2.1 (List.mem_map.mpr ⟨q, hq, e.symm⟩)
theorem leP_total : PySem.W.TotalLe Wf.leP := PySem.W.sortLe_total _ false _
theorem sorted_bs (h : Paired (RP H) bs kw) (nd : (kw.map (·.1)).Nodup) : ∃ kw', kw'.Perm kw ∧ Paired (RP H) (bs.mergeSort Wf.leP) kw' ∧ kw'.Pairwise fun a b => strLt a.1 b.1 := by
  obtain ⟨kw', hp, q⟩ := Wc.perm_pair (List.mergeSort_perm bs Wf.leP) h
  exact ⟨kw', hp, q, pair_wise q (PySem.W.sort_pairwise leP_total bs) ((hp.map (·.1)).nodup_iff.mpr nd)⟩
/-- sorted(pegs.items()) -/
theorem sort_pegs {Q : VK} {p a : Addr} (h : Paired (IsPeg H) kvs kw) (nd : (kw.map (·.1)).Nodup) (hp : H p = some (L2.DX.itemsO p a)) (ha : H a = some (.dK kvs))
    (q : ∀ (H' : Hp) (l : Addr) (xb : List V) (kw' : List (Str × W)), Same H H' → H l = none → H' l = some (.lst xb) → kw'.Perm kw → kw'.Pairwise (fun a b => strLt a.1 b.1) → Paired (IsPegT H') xb kw' → Q (.ref l) H') : Wf.rSortItems K [.ref p] H Q := by
  obtain ⟨bs, eb, hb⟩ := bs_of h
  obtain ⟨kw', hp', L, hw⟩ := sorted_bs hb nd
  refine ⟨p, a, bs, rfl, hp, by rw [eb]; exact ha, bs_dp hb, bs_alike hb, bs_sortable hb, bs_depth hb, fun H' l ts s hl hts hl' pr => ?_⟩
  clear hts
  refine q H' l _ kw' s hl hl' hp' hw ?_
  clear hl' hp' hw q
  generalize bs.mergeSort Wf.leP = cs at L pr
  clear hb eb
  induction L generalizing ts with
  | nil =>
    cases pr
    exact .nil
  | @cons b nz l1 l2 r t ih =>
    cases pr with
    | @cons t0 _ ts' _ e pr =>
      rw [List.map_cons]
      refine .cons ⟨t0, b.2.1, rfl, ?_, r.2.1.keep (Same.tk s)⟩ (ih ts' pr)
      rw [e, r.1] <;> rfl
end
/-! ### goings and boxes -/
def goOf {α : Type} : List W → List Int → List α → List (Int × Int × α)
  | z :: ws, q :: pp, p :: Ps => if z.1 = sGo then (z.2, q, p) :: goOf ws pp Ps else goOf ws pp Ps
  | _, _, _ => []
def boxOf : List W → List (List W) → List (Int × W)
  | z :: ws, (y :: _) :: Ps => if z.1 = sBox then (z.2, y) :: boxOf ws Ps else boxOf ws Ps
  | _ :: ws, [] :: Ps => boxOf ws Ps
  | _, _ => []
theorem goOf_app {α : Type} : ∀ {ws : List W} {pp : List Int} {Ps : List α} {z : W} {q : Int} {p : α}, pp.length = ws.length → Ps.length = ws.length → goOf (ws ++ [z]) (pp ++ [q]) (Ps ++ [p]) = goOf ws pp Ps ++ if z.1 = sGo then [(z.2, q, p)] else []
  | [], [], [], z, q, p, _, _ => by
    show (if z.1 = sGo then (z.2, q, p) :: goOf [] [] [] else goOf [] [] []) = _
    split <;> rfl
  | w :: ws, r :: pp, s :: Ps, z, q, p, h1, h2 => by
    have ih := goOf_app (ws := ws) (pp := pp) (Ps := Ps) (z := z) (q := q) (p := p) (by simpa using h1) (by simpa using h2)
    show (if w.1 = sGo then (w.2, r, s) :: goOf (ws ++ [z]) (pp ++ [q]) (Ps ++ [p]) else goOf (ws ++ [z]) (pp ++ [q]) (Ps ++ [p])) = (if w.1 = sGo then (w.2, r, s) :: goOf ws pp Ps else goOf ws pp Ps) ++ _
    rw [ih]
    by_cases c : w.1 = sGo
    · rw [if_pos c, if_pos c] <;> rfl
    · rw [if_neg c, if_neg c]
  | [], _ :: _, _, _, _, _, h, _ => by cases h
  | [], [], _ :: _, _, _, _, _, h => by cases h
  | _ :: _, [], _, _, _, _, h, _ => by cases h
  | _ :: _, _ :: _, [], _, _, _, _, h => by cases h
theorem boxOf_app : ∀ {ws : List W} {Ps : List (List W)} {z y : W} {p : List W}, Ps.length = ws.length → boxOf (ws ++ [z]) (Ps ++ [y :: p]) = boxOf ws Ps ++ if z.1 = sBox then [(z.2, y)] else []
  | [], [], z, y, p, _ => by
    show (if z.1 = sBox then (z.2, y) :: boxOf [] [] else boxOf [] []) = _
    split <;> rfl
  | w :: ws, (x :: s) :: Ps, z, y, p, h => by
    have ih := boxOf_app (ws := ws) (Ps := Ps) (z := z) (y := y) (p := p) (by simpa using h)
    show (if w.1 = sBox then (w.2, x) :: boxOf (ws ++ [z]) (Ps ++ [y :: p]) else boxOf (ws ++ [z]) (Ps ++ [y :: p])) = (if w.1 = sBox then (w.2, x) :: boxOf ws Ps else boxOf ws Ps) ++ _
    rw [ih]
    by_cases c : w.1 = sBox
    · rw [if_pos c, if_pos c] <;> rfl
    · rw [if_neg c, if_neg c]
  | w :: ws, [] :: Ps, z, y, p, h => boxOf_app (ws := ws) (Ps := Ps) (by simpa using h)
  | [], _ :: _, _, _, _, h => by cases h
  | _ :: _, [], _, _, _, h => by cases h
theorem boxOf_skip : ∀ {ws : List W} {Ps : List (List W)} {z : W} {p : List W}, Ps.length = ws.length → z.1 ≠ sBox → boxOf (ws ++ [z]) (Ps ++ [p]) = boxOf ws Ps := by
  intro ws Ps z p h n
  cases p with
  | cons y p => rw [boxOf_app h, if_neg n, List.append_nil]
  | nil =>
    induction ws generalizing Ps with
    | nil => cases Ps with
      | nil => rfl
      | cons _ _ => cases h
    | cons w ws ih => cases Ps with
      | nil => cases h
      | cons s Ps =>
        have e := ih (Ps := Ps) (by simpa using h)
        cases s with
        | nil => exact e
        | cons x s =>
          show (if w.1 = sBox then (w.2, x) :: boxOf (ws ++ [z]) (Ps ++ [[]]) else boxOf (ws ++ [z]) (Ps ++ [[]])) = (if w.1 = sBox then (w.2, x) :: boxOf ws Ps else boxOf ws Ps)
          rw [e]
theorem goOf_mem : ∀ {ws : List W} {pp : List Int} {Ps : List (List W)} {g : Int × Int × List W}, g ∈ goOf ws pp Ps → ∃ (j : Nat) (z : W) (q : Int) (p : List W), ws[j]? = some z ∧ pp[j]? = some q ∧ Ps[j]? = some p ∧ z.1 = sGo ∧ g = (z.2, q, p)
  | z :: ws, q :: pp, p :: Ps, g, h => by
    have low : g ∈ goOf ws pp Ps → ∃ (j : Nat) (z' : W) (q' : Int) (p' : List W), (z :: ws)[j]? = some z' ∧ (q :: pp)[j]? = some q' ∧ (p :: Ps)[j]? = some p' ∧ z'.1 = sGo ∧ g = (z'.2, q', p') := fun h => by
      obtain ⟨j, a, b, c, h1, h2, h3, h4⟩ := goOf_mem h
      exact ⟨j + 1, a, b, c, h1, h2, h3, h4⟩
    have h : g ∈ if z.1 = sGo then (z.2, q, p) :: goOf ws pp Ps else goOf ws pp Ps := h
    by_cases c : z.1 = sGo
    · rw [if_pos c] at h
      rcases List.mem_cons.mp h with h | h
      · exact ⟨0, z, q, p, rfl, rfl, rfl, c, h⟩
      · exact low h
    · rw [if_neg c] at h; exact low h
  | [], _, _, _, h => by simp [goOf] at h
  | _ :: _, [], _, _, h => by simp [goOf] at h
  | _ :: _, _ :: _, [], _, h => by simp [goOf] at h
theorem goOf_in : ∀ {ws : List W} {pp : List Int} {Ps : List (List W)} {j : Nat} {z : W} {q : Int} {p : List W}, ws[j]? = some z → pp[j]? = some q → Ps[j]? = some p → z.1 = sGo → (z.2, q, p) ∈ goOf ws pp Ps
  | z :: ws, q :: pp, p :: Ps, 0, _, _, _, h1, h2, h3, c => by
    cases h1; cases h2; cases h3
    show _ ∈ if z.1 = sGo then (z.2, q, p) :: goOf ws pp Ps else goOf ws pp Ps
    rw [if_pos c]
    exact List.mem_cons_self
  | z :: ws, q :: pp, p :: Ps, j + 1, z', q', p', h1, h2, h3, c => by
    have ih : (z'.2, q', p') ∈ goOf ws pp Ps := goOf_in (j := j) h1 h2 h3 c
    show _ ∈ if z.1 = sGo then (z.2, q, p) :: goOf ws pp Ps else goOf ws pp Ps
    split
    · exact List.mem_cons_of_mem _ ih
    · exact ih
  | [], _, _, _, _, _, _, h, _, _, _ => by cases h
  | _ :: _, [], _, _, _, _, _, _, h, _, _ => by cases h
  | _ :: _, _ :: _, [], _, _, _, _, _, _, h, _ => by cases h
theorem boxOf_mem : ∀ {ws : List W} {Ps : List (List W)} {g : Int × W}, g ∈ boxOf ws Ps → ∃ (j : Nat) (z y : W) (p : List W), ws[j]? = some z ∧ Ps[j]? = some (y :: p) ∧ z.1 = sBox ∧ g = (z.2, y)
  | z :: ws, (y :: p) :: Ps, g, h => by
    have low : g ∈ boxOf ws Ps → ∃ (j : Nat) (z' y' : W) (p' : List W), (z :: ws)[j]? = some z' ∧ ((y :: p) :: Ps)[j]? = some (y' :: p') ∧ z'.1 = sBox ∧ g = (z'.2, y') := fun h => by
      obtain ⟨j, a, b, c, h1, h2, h3⟩ := boxOf_mem h
      exact ⟨j + 1, a, b, c, h1, h2, h3⟩
    have h : g ∈ if z.1 = sBox then (z.2, y) :: boxOf ws Ps else boxOf ws Ps := h
    by_cases c : z.1 = sBox
    · rw [if_pos c] at h
      rcases List.mem_cons.mp h with h | h
      · exact ⟨0, z, y, p, rfl, rfl, c, h⟩
      · exact low h
    · rw [if_neg c] at h; exact low h
  | _ :: ws, [] :: Ps, g, h => by
    obtain ⟨j, a, b, c, h1, h2, h3⟩ := boxOf_mem (ws := ws) (Ps := Ps) h
    exact ⟨j + 1, a, b, c, h1, h2, h3⟩
  | [], _, _, h => by simp [boxOf] at h
  | _ :: _, [], _, h => by simp [boxOf] at h
theorem boxOf_in : ∀ {ws : List W} {Ps : List (List W)} {j : Nat} {z y : W} {p : List W}, ws[j]? = some z → Ps[j]? = some (y :: p) → z.1 = sBox → (z.2, y) ∈ boxOf ws Ps
  | z :: ws, (y :: p) :: Ps, 0, _, _, _, h1, h2, c => by
    cases h1; cases h2
    show _ ∈ if z.1 = sBox then (z.2, y) :: boxOf ws Ps else boxOf ws Ps
    rw [if_pos c]
    exact List.mem_cons_self
  | z :: ws, (y :: p) :: Ps, j + 1, z', y', p', h1, h2, c => by
    have ih : (z'.2, y') ∈ boxOf ws Ps := boxOf_in (j := j) h1 h2 c
    show _ ∈ if z.1 = sBox then (z.2, y) :: boxOf ws Ps else boxOf ws Ps
    split
    · exact List.mem_cons_of_mem _ ih
    · exact ih
  | _ :: ws, [] :: Ps, 0, _, _, _, _, h, _ => by cases h
  | _ :: ws, [] :: Ps, j + 1, _, _, _, h1, h2, c => boxOf_in (ws := ws) (Ps := Ps) (j := j) h1 h2 c
  | [], _, _, _, _, _, h, _, _ => by cases h
  | _ :: _, [], _, _, _, _, _, h, _ => by cases h
theorem goOf_up : ∀ {ws : List W} {pp : List Int} {Ps : List (List W)}, (ws.Pairwise fun x y => x.1 = y.1 → x.2 < y.2) → (goOf ws pp Ps).Pairwise fun a b => a.1 < b.1
  | z :: ws, q :: pp, p :: Ps, h => by
    rw [List.pairwise_cons] at h
    show (if z.1 = sGo then (z.2, q, p) :: goOf ws pp Ps else goOf ws pp Ps).Pairwise _
    by_cases c : z.1 = sGo
    · rw [if_pos c, List.pairwise_cons]
      refine ⟨fun g hg => ?_, goOf_up h.2⟩
      obtain ⟨j, z', q', p', h1, _, _, h4, rfl⟩ := goOf_mem hg
      exact h.1 z' (List.mem_of_getElem? h1) (c.trans h4.symm)
    · rw [if_neg c]; exact goOf_up h.2
  | [], _, _, _ => by simp [goOf]
  | _ :: _, [], _, _ => by simp [goOf]
  | _ :: _, _ :: _, [], _ => by simp [goOf]
theorem boxOf_up : ∀ {ws : List W} {Ps : List (List W)}, (ws.Pairwise fun x y => x.1 = y.1 → x.2 < y.2) → (boxOf ws Ps).Pairwise fun a b => a.1 < b.1
  | z :: ws, (y :: p) :: Ps, h => by
    rw [List.pairwise_cons] at h
    show (if z.1 = sBox then (z.2, y) :: boxOf ws Ps else boxOf ws Ps).Pairwise _
    by_cases c : z.1 = sBox
    · rw [if_pos c, List.pairwise_cons]
      refine ⟨fun g hg => ?_, boxOf_up h.2⟩
      obtain ⟨j, z', y', p', h1, _, h4, rfl⟩ := boxOf_mem hg
      exact h.1 z' (List.mem_of_getElem? h1) (c.trans h4.symm)
    · rw [if_neg c]; exact boxOf_up h.2
  | _ :: ws, [] :: Ps, h => boxOf_up (ws := ws) (Ps := Ps) (List.pairwise_cons.mp h).2
  | [], _, _ => by simp [boxOf]
  | _ :: _, [], _ => by simp [boxOf]
theorem goOf_len : ∀ {ws : List W} {pp : List Int} {Ps : List (List W)}, (goOf ws pp Ps).length ≤ ws.length
  | z :: ws, q :: pp, p :: Ps => by
    have := goOf_len (ws := ws) (pp := pp) (Ps := Ps)
    show (if z.1 = sGo then (z.2, q, p) :: goOf ws pp Ps else goOf ws pp Ps).length ≤ _
    split <;> simp only [List.length_cons] <;> omega
  | [], _, _ => by simp [goOf]
  | _ :: _, [], _ => by simp [goOf]
  | _ :: _, _ :: _, [] => by simp [goOf]
theorem boxOf_len : ∀ {ws : List W} {Ps : List (List W)}, (boxOf ws Ps).length ≤ ws.length
  | z :: ws, (y :: p) :: Ps => by
    have := boxOf_len (ws := ws) (Ps := Ps)
    show (if z.1 = sBox then (z.2, y) :: boxOf ws Ps else boxOf ws Ps).length ≤ _
    split <;> simp only [List.length_cons] <;> omega
  | _ :: ws, [] :: Ps => Nat.le_trans (boxOf_len (ws := ws) (Ps := Ps)) (Nat.le_succ _)
  | [], _ => by simp [boxOf]
  | _ :: _, [] => by simp [boxOf]
/-! ### the whole is right -/
theorem at_apart : ∀ {z : W}, (z.1 = sBox ∨ z.1 = sGo) → z.1 ≠ Str.ofString "at" ∧ z.1 ≠ Str.ofString "num" := by
  intro z h
  rcases h with h | h <;> rw [h] <;> decide +kernel
theorem Newly.wk {ws : List W} {z : W} (wn : Named ws) (h : Newly ws z) : Wk z := by
  rcases h with h | h | h
  · exact .inl (wn.1 z h)
  · exact .inr (.inl h)
  · exact .inr (.inr h)
theorem Newly.thing {ws : List W} {z : W} (h : Newly ws z) (k : z.1 = sBox ∨ z.1 = sGo) : z ∈ ws := by
  rcases h with h | h | h
  · exact h
  · exact absurd h.1 (at_apart k).1
  · exact absurd h (at_apart k).2
theorem made {ws : List W} {N : Nat} {pp : List Int} {Ps : List (List W)} {pw : List W} {kw kw' : List (Str × W)} (d : Dat ws N N Ps pw kw) (wl : ws.length = N) (N30 : N ≤ 30) (pl : pp.length = N) (wn : Named ws) (pp0 : ∀ x ∈ pp, 0 ≤ x) (hp : kw'.Perm kw) (hu : kw'.Pairwise fun a b => strLt a.1 b.1) :
    Pic.Ok ⟨pw, kw', goOf ws pp Ps, boxOf ws Ps⟩ ∧ Pic.Small 60 ⟨pw, kw', goOf ws pp Ps, boxOf ws Ps⟩ := by
  have memT : ∀ z, z ∈ Pic.things ⟨pw, kw', goOf ws pp Ps, boxOf ws Ps⟩ ↔ z ∈ ws := by
    intro z
    unfold Pic.things
    constructor
    · intro h
      rcases List.mem_append.mp h with h | h
      · obtain ⟨g, hg, rfl⟩ := List.mem_map.mp h
        obtain ⟨j, y, _, _, h1, _, h4, rfl⟩ := boxOf_mem hg
        rw [← h4]
        exact List.mem_of_getElem? h1
      · obtain ⟨g, hg, rfl⟩ := List.mem_map.mp h
        obtain ⟨j, y, _, _, h1, _, _, h4, rfl⟩ := goOf_mem hg
        rw [← h4]
        exact List.mem_of_getElem? h1
    · intro h
      obtain ⟨j, hj⟩ := List.mem_iff_getElem?.mp h
      have jl : j < N := by rw [← wl]; exact (List.getElem?_eq_some_iff.mp hj).1
      obtain ⟨p, hpj⟩ : ∃ p, Ps[j]? = some p := ⟨_, List.getElem?_eq_getElem (by rw [d.psl]; exact jl)⟩
      rcases (wn.1 z h).1 with c | c
      · have := (d.rows j z p hj hpj).1 c
        cases p with
        | nil => cases this
        | cons y p =>
          refine List.mem_append_left _ (List.mem_map.mpr ⟨_, boxOf_in hj hpj c, ?_⟩)
          rw [← c]
      · obtain ⟨q, hq⟩ : ∃ q, pp[j]? = some q := ⟨_, List.getElem?_eq_getElem (by rw [pl]; exact jl)⟩
        refine List.mem_append_right _ (List.mem_map.mpr ⟨_, goOf_in hj hq hpj c, ?_⟩)
        rw [← c]
  have newT : ∀ z ∈ Pic.worths ⟨pw, kw', goOf ws pp Ps, boxOf ws Ps⟩, Newly ws z := by
    intro z h
    unfold Pic.worths at h
    rcases List.mem_append.mp h with h | h
    · rcases List.mem_append.mp h with h | h
      · exact d.pile.2 z h
      · rcases List.mem_append.mp h with h | h
        · obtain ⟨nz, hn, rfl⟩ := List.mem_map.mp h
          exact (d.pegs.2.2 nz (hp.mem_iff.mp hn)).2.2
        · obtain ⟨g, hg, rfl⟩ := List.mem_map.mp h
          obtain ⟨j, y, x, p, h1, h2, _, rfl⟩ := boxOf_mem hg
          exact (d.rows j y _ h1 h2).2.2 x List.mem_cons_self
    · obtain ⟨g, hg, hz⟩ := List.mem_flatMap.mp h
      obtain ⟨j, y, q, p, h1, _, h3, _, rfl⟩ := goOf_mem hg
      exact (d.rows j y p h1 h3).2.2 z hz
  refine ⟨⟨fun z h => Newly.wk wn (newT z h), fun p h => ?_, hu, goOf_up wn.2, fun g h => ?_, boxOf_up wn.2, fun b h => ?_, fun z h k => (memT z).mpr (Newly.thing (newT z h) k), fun z h => ?_⟩, ?_⟩
  · have := d.pegs.2.2 p (hp.mem_iff.mp h)
    exact ⟨this.1, this.2.1⟩
  · obtain ⟨j, y, q, p, h1, h2, _, _, rfl⟩ := goOf_mem h
    exact ⟨(wn.1 y (List.mem_of_getElem? h1)).2, pp0 q (List.mem_of_getElem? h2)⟩
  · obtain ⟨j, y, x, p, h1, _, _, rfl⟩ := boxOf_mem h
    exact (wn.1 y (List.mem_of_getElem? h1)).2
  · have hw := (memT z).mp h
    obtain ⟨j, hj⟩ := List.mem_iff_getElem?.mp hw
    have jl : j < N := by rw [← wl]; exact (List.getElem?_eq_some_iff.mp hj).1
    show z ∈ pw ++ (kw'.map (·.2) ++ (boxOf ws Ps).map (·.2)) ++ (goOf ws pp Ps).flatMap (·.2.2)
    rcases d.held j jl z hj with h | ⟨p, hpm, hz⟩ | ⟨nz, hn, e⟩
    · exact List.mem_append_left _ (List.mem_append_left _ h)
    · obtain ⟨i, hi⟩ := List.mem_iff_getElem?.mp hpm
      have il : i < N := by rw [← d.psl]; exact (List.getElem?_eq_some_iff.mp hi).1
      obtain ⟨y, hy⟩ : ∃ y, ws[i]? = some y := ⟨_, List.getElem?_eq_getElem (by rw [wl]; exact il)⟩
      rcases (wn.1 y (List.mem_of_getElem? hy)).1 with c | c
      · have l1 := (d.rows i y p hy hi).1 c
        match p, l1, hz, hi with
        | [x], _, hz, hi =>
          rw [List.mem_singleton.mp hz]
          exact List.mem_append_left _ (List.mem_append_right _ (List.mem_append_right _ (List.mem_map.mpr ⟨_, boxOf_in hy hi c, rfl⟩)))
      · obtain ⟨q, hq⟩ : ∃ q, pp[i]? = some q := ⟨_, List.getElem?_eq_getElem (by rw [pl]; exact il)⟩
        exact List.mem_append_right _ (List.mem_flatMap.mpr ⟨_, goOf_in hy hq hi c, hz⟩)
    · exact List.mem_append_left _ (List.mem_append_right _ (List.mem_append_left _ (List.mem_map.mpr ⟨nz, hp.mem_iff.mpr hn, e⟩)))
  · refine ⟨by have := d.pile.1; show pw.length ≤ 60; omega, by rw [hp.length_eq]; have := d.pegs.1; omega, ?_, ?_, fun g h => ?_⟩
    · have := goOf_len (ws := ws) (pp := pp) (Ps := Ps)
      show (goOf ws pp Ps).length ≤ 100
      omega
    · have := boxOf_len (ws := ws) (Ps := Ps)
      show (boxOf ws Ps).length ≤ 100
      omega
    · obtain ⟨j, y, q, p, h1, _, h3, _, rfl⟩ := goOf_mem h
      have := (d.rows j y p h1 h3).2.1
      show p.length ≤ 60
      omega
theorem _root_.Wpm.Newly.wok {ws : List W} {z : W} (wn : Named ws) (h : Newly ws z) : Wok z := by
  rcases h with h | h | h
  · rcases (wn.1 z h).1 with e | e
    · show PyData.strOk z.1 = true
      rw [e]; decide +kernel
    · show PyData.strOk z.1 = true
      rw [e]; decide +kernel
  · show PyData.strOk z.1 = true
    rw [h.1]; decide +kernel
  · show PyData.strOk z.1 = true
    rw [h]; decide +kernel
theorem vals_pile {H : Hp} : ∀ {kvs : List (Key × V)} {kw : List (Str × W)}, Paired (IsPeg H) kvs kw → Pile H (kvs.map (·.2)) (kw.map (·.2))
  | _, _, .nil => Pile.nil
  | _, _, .cons r t => Paired.cons r.2 (vals_pile t)
theorem _root_.Wpm.Mid.keep {ws : List W} {n : Nat} {H0 H H' : Hp} {D E r R Pl G Pg : Addr} {bs ra : List Addr} {sd pp : List Int} {vs : List V} {Ps : List (List W)} {pw : List W} {kvs : List (Key × V)} {kw : List (Str × W)} (m : Mid ws H0 D E r R Pl G Pg bs ra sd pp vs n H Ps pw kvs kw) (s : Same H H') : Mid ws H0 D E r R Pl G Pg bs ra sd pp vs n H' Ps pw kvs kw where
  hD := s _ _ m.hD
  hE := s _ _ m.hE
  hr := s _ _ m.hr
  hp := m.hp.keep (Same.tk s)
  hR := s _ _ m.hR
  hPl := s _ _ m.hPl
  rows := m.rows.keep (Ks.same s)
  pile := by
    obtain ⟨pa, h1, h2⟩ := m.pile
    exact ⟨pa, s _ _ h1, h2.keep (Same.tk s)⟩
  hPg := s _ _ m.hPg
  pegs := Paired.mapP m.pegs fun _ _ q => q.keep (Same.tk s)
  wells := m.wells.keep s
  same := m.same.trans s
theorem lists_pick {H : Hp} {ra : List Addr} {Ps : List (List W)} (L : Lists [] H (ra.map V.ref) Ps) : ∀ {hs : List Addr}, (∀ a ∈ hs, ∃ k : Nat, ra[k]? = some a) → ∃ Qs, Lists [] H (hs.map V.ref) Qs ∧ ∀ q ∈ Qs, q ∈ Ps
  | [], _ => ⟨[], .nil, fun _ h => nomatch h⟩
  | a :: hs, h => by
    obtain ⟨Qs, L', k'⟩ := lists_pick L fun x hx => h x (List.mem_cons_of_mem _ hx)
    obtain ⟨k, hk⟩ := h a List.mem_cons_self
    obtain ⟨p, hp, lp⟩ := pair_at1 L (i := k) (x := V.ref a) (by rw [List.getElem?_map, hk]; rfl)
    refine ⟨p :: Qs, .cons lp L', fun q hq => ?_⟩
    rcases List.mem_cons.mp hq with rfl | hq
    · exact List.mem_of_getElem? hp
    · exact k' q hq
theorem rows_ok {ws : List W} {N i : Nat} {Ps : List (List W)} {pw : List W} {kw : List (Str × W)} (d : Dat ws N i Ps pw kw) (wl : ws.length = N) (wn : Named ws) (N30 : N ≤ 30) (hi : i ≤ N) : Wc.PsOk Ps := by
  intro p hp
  obtain ⟨j, hj⟩ := List.mem_iff_getElem?.mp hp
  have jl : j < N := by rw [← d.psl]; exact (List.getElem?_eq_some_iff.mp hj).1
  obtain ⟨z, hz⟩ : ∃ z, ws[j]? = some z := ⟨_, List.getElem?_eq_getElem (by rw [wl]; exact jl)⟩
  obtain ⟨_, h2, h3⟩ := d.rows j z p hz hj
  exact ⟨by omega, fun y hy => Newly.wok wn (h3 y hy)⟩
theorem mem_stands {Ps : List (List W)} {pw : List W} {kw : List (Str × W)} {z : W} : Stands Ps pw kw z ↔ z ∈ pw ++ kw.map (·.2) ∨ (Ps.any fun p => decide (z ∈ p)) = true := by
  unfold Stands
  rw [List.mem_append, List.any_eq_true, List.mem_map]
  constructor
  · rintro (h | ⟨p, h1, h2⟩ | ⟨nz, h1, h2⟩)
    · exact .inl (.inl h)
    · exact .inr ⟨p, h1, decide_eq_true h2⟩
    · exact .inl (.inr ⟨nz, h1, h2⟩)
  · rintro ((h | ⟨nz, h1, h2⟩) | ⟨p, h1, h2⟩)
    · exact .inl h
    · exact .inr (.inr ⟨nz, h1, h2⟩)
    · exact .inr (.inl ⟨p, h1, of_decide_eq_true h2⟩)
/-- a going's tuple, its pile by the address -/
def IsT3 (H : Hp) (x : V) (g : Int × Int × Addr) : Prop := ∃ t, x = .ref t ∧ H t = some (.tup [.int g.1, .int g.2.1, .ref g.2.2])
theorem IsT3.keep {H H' : Hp} {x : V} {g : Int × Int × Addr} (h : IsT3 H x g) (k : Tk H H') : IsT3 H' x g := by
  obtain ⟨t, e, h⟩ := h
  exact ⟨t, e, k _ _ h⟩
theorem t3_go {S : List Addr} {H : Hp} : ∀ {ws : List W} {pp : List Int} {ra : List Addr} {Ps : List (List W)} {xs : List V}, Lists [] H (ra.map V.ref) Ps → (∀ a ∈ ra, a ∉ S) → Paired (IsT3 H) xs (goOf ws pp ra) → Paired (IsGoT S H) xs (goOf ws pp Ps)
  | z :: ws, q :: pp, a :: ra, p :: Ps, xs, .cons l L, hs, h => by
    have low := fun {xs} (h : Paired (IsT3 H) xs (goOf ws pp ra)) => t3_go (S := S) L (fun x hx => hs x (List.mem_cons_of_mem _ hx)) h
    show Paired (IsGoT S H) xs (if z.1 = sGo then (z.2, q, p) :: goOf ws pp Ps else goOf ws pp Ps)
    have h : Paired (IsT3 H) xs (if z.1 = sGo then (z.2, q, a) :: goOf ws pp ra else goOf ws pp ra) := h
    by_cases c : z.1 = sGo
    · rw [if_pos c] at h ⊢
      cases h with
      | cons r t =>
        obtain ⟨t0, e, h0⟩ := r
        obtain ⟨l0, vs, e1, h1, h2, _⟩ := l
        injection e1 with e1
        subst e1
        exact .cons ⟨t0, a, vs, e, h0, h1, h2, hs a List.mem_cons_self⟩ (low t)
    · rw [if_neg c] at h ⊢
      exact low h
  | [], _, _, _, xs, _, _, h => by
    rw [show ∀ a b, goOf (α := Addr) [] a b = [] from fun a b => by simp [goOf]] at h
    rw [show ∀ a b, goOf (α := List W) [] a b = [] from fun a b => by simp [goOf]]
    cases h
    exact .nil
  | z :: ws, [], _, _, xs, _, _, h => by
    rw [show ∀ b, goOf (α := Addr) (z :: ws) [] b = [] from fun b => by simp [goOf]] at h
    rw [show ∀ b, goOf (α := List W) (z :: ws) [] b = [] from fun b => by simp [goOf]]
    cases h
    exact .nil
  | z :: ws, q :: pp, [], [], xs, .nil, _, h => by
    rw [show goOf (α := Addr) (z :: ws) (q :: pp) [] = [] by simp [goOf]] at h
    rw [show goOf (α := List W) (z :: ws) (q :: pp) [] = [] by simp [goOf]]
    cases h
    exact .nil
theorem goOf_step {α : Type} {ws : List W} {pp : List Int} {Ps : List α} {j : Nat} {z : W} {q : Int} {p : α} (h1 : ws[j]? = some z) (h2 : pp[j]? = some q) (h3 : Ps[j]? = some p) : goOf (ws.take (j + 1)) (pp.take (j + 1)) (Ps.take (j + 1)) = goOf (ws.take j) (pp.take j) (Ps.take j) ++ if z.1 = sGo then [(z.2, q, p)] else [] := by
  have l1 := (List.getElem?_eq_some_iff.mp h1).1
  have l2 := (List.getElem?_eq_some_iff.mp h2).1
  have l3 := (List.getElem?_eq_some_iff.mp h3).1
  rw [List.take_add_one, List.take_add_one, List.take_add_one, h1, h2, h3]
  exact goOf_app (by rw [List.length_take, List.length_take]; omega) (by rw [List.length_take, List.length_take]; omega)
theorem boxOf_step {ws : List W} {Ps : List (List W)} {j : Nat} {z y : W} {p : List W} (h1 : ws[j]? = some z) (h3 : Ps[j]? = some (y :: p)) : boxOf (ws.take (j + 1)) (Ps.take (j + 1)) = boxOf (ws.take j) (Ps.take j) ++ if z.1 = sBox then [(z.2, y)] else [] := by
  have l1 := (List.getElem?_eq_some_iff.mp h1).1
  have l3 := (List.getElem?_eq_some_iff.mp h3).1
  rw [List.take_add_one, List.take_add_one, h1, h3]
  exact boxOf_app (by rw [List.length_take, List.length_take]; omega)
theorem boxOf_step0 {ws : List W} {Ps : List (List W)} {j : Nat} {z : W} {p : List W} (h1 : ws[j]? = some z) (h3 : Ps[j]? = some p) (n : z.1 ≠ sBox) : boxOf (ws.take (j + 1)) (Ps.take (j + 1)) = boxOf (ws.take j) (Ps.take j) := by
  have l1 := (List.getElem?_eq_some_iff.mp h1).1
  have l3 := (List.getElem?_eq_some_iff.mp h3).1
  rw [List.take_add_one, List.take_add_one, h1, h3]
  exact boxOf_skip (by rw [List.length_take, List.length_take]; omega) n
/-- behind the pegs' loop, behind the hold loop -/
def M13 (c : Addr) (most : Int) (H : Hp) (σ : L2.St) (H' : Hp) : Prop := ∃ (hd : Addr) (d1 : Int) (N : Nat) (y5 : Option V) (D E r R Pl F : Addr) (y12 : Option V) (G Pg : Addr) (nm : Str) (bs ra : List Addr) (sd pp : List Int) (vs : List V) (ws : List W) (n : Nat) (Ps : List (List W)) (pw : List W) (kvs : List (Key × V)) (kw : List (Str × W)),
  σ = [some (.ref c), some (.int most), some (.ref hd), some (.int d1), some (.int N), y5, some (.ref D), some (.ref E), some (.ref r), some (.ref R), some (.ref Pl), some (.ref F), y12, some (.ref G), some (.ref Pg), some (.str nm), none, none, none, none, none, none, none] ∧
  Fix ws N H D E r R Pl G Pg bs ra sd pp ∧ Mid ws H D E r R Pl G Pg bs ra sd pp vs n H' Ps pw kvs kw ∧ Dat ws N 0 Ps pw kw ∧ n ≤ 2000
def M14 (c : Addr) (most : Int) (H : Hp) (σ : L2.St) (H' : Hp) : Prop := ∃ (hd : Addr) (d1 : Int) (N : Nat) (y5 : Option V) (D E r R Pl F : Addr) (y12 : Option V) (G Pg : Addr) (nm : Str) (y16 y17 : Option V) (bs ra : List Addr) (sd pp : List Int) (vs : List V) (ws : List W) (n : Nat) (Ps : List (List W)) (pw : List W) (kvs : List (Key × V)) (kw : List (Str × W)),
  σ = [some (.ref c), some (.int most), some (.ref hd), some (.int d1), some (.int N), y5, some (.ref D), some (.ref E), some (.ref r), some (.ref R), some (.ref Pl), some (.ref F), y12, some (.ref G), some (.ref Pg), some (.str nm), y16, y17, none, none, none, none, none] ∧
  Fix ws N H D E r R Pl G Pg bs ra sd pp ∧ Mid ws H D E r R Pl G Pg bs ra sd pp vs n H' Ps pw kvs kw ∧ Dat ws N N Ps pw kw
structure Fix8 (ws : List W) (N : Nat) (H0 : Hp) (D E r R Pl hd : Addr) (bs ra : List Addr) (sd pp : List Int) : Prop where
  bl : bs.length = N
  sl : sd.length = N
  wl : ws.length = N
  rl : ra.length = N
  pl : pp.length = N
  N30 : N ≤ 30
  sb : ∀ x ∈ sd, 0 ≤ x ∧ x < 2
  wn : Named ws
  pp0 : ∀ x ∈ pp, 0 ≤ x
  nd : ra.Nodup
  apart : ∀ x ∈ [D, E, r, R, Pl], x ∉ hd :: (ra ++ bs)
  wap : ∀ b ∈ bs, b ∉ ra
  hdx : hd ∉ ra ++ bs
  fresh : ∀ x ∈ hd :: (ra ++ bs), H0 x = none
structure Mid8 (ws : List W) (H0 : Hp) (D E r R Pl : Addr) (bs ra : List Addr) (sd pp : List Int) (vs : List V) (n : Nat) (H : Hp) (Ps : List (List W)) : Prop where
  hD : H D = some (.lst (bs.map V.ref))
  hE : H E = some (.lst (sd.map V.int))
  hr : H r = some (.lst vs)
  hp : Pile H vs ws
  hR : H R = some (.lst (ra.map V.ref))
  hPl : H Pl = some (.lst (pp.map V.int))
  rows : Lists [] H (ra.map V.ref) Ps
  wells : Wells H bs n
  same : Same H0 H
def RowsOk (ws : List W) (Ps : List (List W)) : Prop := ∀ (j : Nat) (z : W) (p : List W), ws[j]? = some z → Ps[j]? = some p → (z.1 = sBox → p.length = 1) ∧ p.length ≤ 4 ∧ ∀ y ∈ p, Newly ws y
def M8 (c : Addr) (most : Int) (H : Hp) (σ : L2.St) (H' : Hp) : Prop := ∃ (hd : Addr) (d1 : Int) (N : Nat) (y5 : Option V) (D E r R Pl : Addr) (y11 y12 : Option V) (bs ra : List Addr) (sd pp : List Int) (vs : List V) (ws : List W) (n : Nat) (Ps : List (List W)),
  σ = [some (.ref c), some (.int most), some (.ref hd), some (.int d1), some (.int N), y5, some (.ref D), some (.ref E), some (.ref r), some (.ref R), some (.ref Pl), y11, y12, none, none, none, none, none, none, none, none, none, none] ∧
  Fix8 ws N H D E r R Pl hd bs ra sd pp ∧ Mid8 ws H D E r R Pl bs ra sd pp vs n H' Ps ∧ RowsOk ws Ps ∧ Ww.Well H' hd 2 ∧ n ≤ 2000
theorem m13_of {ws : List W} {N n : Nat} {H H8 H4 : Hp} {D E r R Pl hd G Pg : Addr} {bs ra : List Addr} {sd pp : List Int} {vs pa : List V} {Ps : List (List W)} {pw : List W} {kvs : List (Key × V)} (F : Fix8 ws N H D E r R Pl hd bs ra sd pp) (m : Mid8 ws H D E r R Pl bs ra sd pp vs n H8 Ps) (LP : RowsOk ws Ps)
    (kall : Ks [Pg, hd] H8 H4) (up : ∀ x o, H8 x = some o → x ≠ hd → x ≠ Pg ∧ x ≠ G) (Gn : H G = none) (Pgn : H Pg = none) (Ghd : G ≠ hd) (PgG : Pg ≠ G) (Phd : Pg ≠ hd)
    (hG : H4 G = some (.lst pa)) (pG : Pile H4 pa pw) (pwl : pw.length ≤ 7) (pwk : ∀ z ∈ pw, Newly ws z) (hPg4 : H4 Pg = some (.dK kvs)) (pk4 : PegOk ws H4 kvs 4) (SHe : Same H H4) :
    ∃ kw, Fix ws N H D E r R Pl G Pg bs ra sd pp ∧ Mid ws H D E r R Pl G Pg bs ra sd pp vs n H4 Ps pw kvs kw ∧ Dat ws N 0 Ps pw kw := by
  have pt : ∀ x o, H8 x = some o → x ≠ hd → x ∉ [Pg, hd] := fun x o h n m => by
    rcases List.mem_cons.mp m with e | m
    · exact (up x o h n).1 e
    · exact n (List.mem_singleton.mp m)
  have raH8 : ∀ x ∈ ra, ∃ o, H8 x = some o := fun x hx => by
    obtain ⟨j, hj⟩ := List.mem_iff_getElem?.mp hx
    obtain ⟨q, _, l, us, e, h2, _⟩ := pair_at1 m.rows (i := j) (x := V.ref x) (by rw [List.getElem?_map, hj]; rfl)
    injection e with e
    exact ⟨_, e ▸ h2⟩
  have rahd : ∀ x ∈ ra, x ≠ hd := fun x hx e => F.hdx (e ▸ List.mem_append_left _ hx)
  have bshd : ∀ x ∈ bs, x ≠ hd := fun x hx e => F.hdx (e ▸ List.mem_append_right _ hx)
  have aphd : ∀ x ∈ [D, E, r, R, Pl], x ≠ hd := fun x hx e => F.apart x hx (e ▸ List.mem_cons_self)
  have ap : ∀ x ∈ [D, E, r, R, Pl], ∀ o, H8 x = some o → x ∉ Pg :: G :: (ra ++ bs) := fun x hx o ho m => by
    have u := up x o ho (aphd x hx)
    rcases List.mem_cons.mp m with e | m
    · exact u.1 e
    · rcases List.mem_cons.mp m with e | m
      · exact u.2 e
      · exact F.apart x hx (List.mem_cons_of_mem _ m)
  obtain ⟨kw, pkw, okw⟩ := pegs_of pk4.1
  refine ⟨kw, ?_, ?_, ?_⟩
  · refine ⟨F.bl, F.sl, F.wl, F.rl, F.pl, F.N30, F.sb, F.wn, F.pp0, F.nd, fun h => ?_, ⟨PgG, fun h => ?_⟩, fun x hx => ?_, fun b hb h => ?_, fun x hx => ?_⟩
    · obtain ⟨o, ho⟩ := raH8 G h
      exact (up G o ho Ghd).2 rfl
    · obtain ⟨o, ho⟩ := raH8 Pg h
      exact (up Pg o ho Phd).1 rfl
    · simp only [List.mem_cons, List.not_mem_nil, or_false] at hx
      rcases hx with rfl | rfl | rfl | rfl | rfl
      · exact ap _ (by simp) _ m.hD
      · exact ap _ (by simp) _ m.hE
      · exact ap _ (by simp) _ m.hr
      · exact ap _ (by simp) _ m.hR
      · exact ap _ (by simp) _ m.hPl
    · obtain ⟨x, y, z, h1, _⟩ := m.wells b hb
      have u := up b _ h1 (bshd b hb)
      rcases List.mem_cons.mp h with e | h
      · exact u.1 e
      · rcases List.mem_cons.mp h with e | h
        · exact u.2 e
        · exact F.wap b hb h
    · rcases List.mem_cons.mp hx with e | hx
      · rw [e]; exact Pgn
      · rcases List.mem_cons.mp hx with e | hx
        · rw [e]; exact Gn
        · exact F.fresh x (List.mem_cons_of_mem _ hx)
  · refine ⟨kall.keep _ _ (pt _ _ m.hD (aphd _ (by simp))) m.hD, kall.keep _ _ (pt _ _ m.hE (aphd _ (by simp))) m.hE, kall.keep _ _ (pt _ _ m.hr (aphd _ (by simp))) m.hr, m.hp.keep kall.tk, kall.keep _ _ (pt _ _ m.hR (aphd _ (by simp))) m.hR, kall.keep _ _ (pt _ _ m.hPl (aphd _ (by simp))) m.hPl, ?_, ⟨pa, hG, pG⟩, hPg4, pkw, ?_, SHe⟩
    · refine Lists.less (S := [Pg, hd]) ((Wpm.Lists.more m.rows fun a ha => ?_).keep kall) (fun _ h => nomatch h)
      obtain ⟨o, ho⟩ := raH8 a ha
      exact pt a o ho (rahd a ha)
    · intro b hb
      obtain ⟨x, y, z, h1, hz⟩ := m.wells b hb
      exact ⟨x, y, z, kall.keep _ _ (pt _ _ h1 (bshd b hb)) h1, hz⟩
  · refine ⟨by rw [← m.rows.len, List.length_map]; exact F.rl, fun j z p hz hp => ⟨(LP j z p hz hp).1, (LP j z p hz hp).2.1, (LP j z p hz hp).2.2⟩, ⟨pwl, pwk⟩, ⟨?_, pegs_nodup pkw pk4.2.1, okw⟩, fun j hj => absurd hj (Nat.not_lt_zero j)⟩
    rw [← Paired.length pkw]
    exact pk4.2.2
/-- the body in three pieces, each in a context of its own -/
theorem split3 {D : Ends} {σ : L2.St} {H : Hp} (M8 M13 : L2.St → Hp → Prop) {a0 a1 a2 a3 a4 a5 a6 a7 a8 a9 a10 a11 a12 a13 u : TS}
    (front : (∀ σ' H', M8 σ' H' → tSeq a9 (tSeq a10 (tSeq a11 (tSeq a12 (C8.tCut a13 u)))) D σ' H') → tSeq a0 (tSeq a1 (tSeq a2 (tSeq a3 (tSeq a4 (tSeq a5 (tSeq a6 (tSeq a7 (C8.tCut a8 (tSeq a9 (tSeq a10 (tSeq a11 (tSeq a12 (C8.tCut a13 u))))))))))))) D σ H)
    (mid : (∀ σ' H', M13 σ' H' → u D σ' H') → ∀ σ' H', M8 σ' H' → tSeq a9 (tSeq a10 (tSeq a11 (tSeq a12 (C8.tCut a13 u)))) D σ' H')
    (back : ∀ σ' H', M13 σ' H' → u D σ' H') : tSeq a0 (tSeq a1 (tSeq a2 (tSeq a3 (tSeq a4 (tSeq a5 (tSeq a6 (tSeq a7 (C8.tCut a8 (tSeq a9 (tSeq a10 (tSeq a11 (tSeq a12 (C8.tCut a13 u))))))))))))) D σ H := front (mid back)
end Wpn

/-! Whole numbers as texts. -/
namespace Wt
open PySem PySem.Spec PyProof.Rows L2 Wp Wq TL
def numT (i : Int) : Str := Str.ofString (toString i)
theorem numT_nat (m : Nat) : (numT (m : Int)).cps.toList = numL m := tl_num m
theorem numL_head : ∀ (m : Nat) (r : List Nat), numL m = 48 :: r → m = 0 ∧ r = [] := by
  intro m
  induction m using Nat.strongRecOn with
  | _ m ih =>
    intro r h
    by_cases c : m < 10
    · rw [numL_lt c] at h
      have h1 := (List.cons.inj h).1
      have h2 := (List.cons.inj h).2
      exact ⟨by omega, h2.symm⟩
    · rw [numL_step (by omega)] at h
      cases e : numL (m / 10) with
      | nil => exact absurd e (numL_ne _)
      | cons x s =>
        rw [e, List.cons_append] at h
        have hx := (List.cons.inj h).1
        subst hx
        have := (ih (m / 10) (by omega) s e).1
        omega
theorem numT_len {m : Nat} (h : m < 10 ^ 60) : 1 ≤ (numT (m : Int)).length ∧ (numT (m : Int)).length ≤ 60 := by
  have e : (numT (m : Int)).length = (numL m).length := by
    rw [← numT_nat]
    show (numT (m : Int)).cps.size = _
    rw [Array.length_toList]
  rw [e]
  refine ⟨?_, numL_len (by decide) h⟩
  cases q : numL m with
  | nil => exact absurd q (numL_ne m)
  | cons x s => exact Nat.succ_le_succ (Nat.zero_le _)
theorem int_back {m : Nat} (h : m < 10 ^ 60) : intText? (numT (m : Int)) = some (m : Int) := by
  have hl := numT_len h
  have z := PySem.intText_digits (x := numT (m : Int)) (by rw [numT_nat]; exact numL_digits m) (by rw [numT_nat]; exact numL_ne m) (by omega)
  rw [z, numT_nat, numL_val]
theorem numT_neg {m : Nat} (h : 0 < m) : tl (numT (-(m : Int))) = 45 :: numL m := by
  unfold numT
  rw [PyProof.Rows.toString_neg (by omega), show (0 - -(m : Int)) = (m : Int) by omega]
  show (PySem.Str.ofString ("-" ++ toString (m : Int))).cps.toList = _
  rw [PyProof.Rows.signs_ofString, String.toList_append, List.map_append, ← PyProof.Rows.signs_ofString (toString (m : Int))]
  rw [show List.map Char.toNat "-".toList = [45] by decide +kernel]
  exact congrArg (fun l => 45 :: l) (tl_num m)
theorem emp_app (x : Str) : Str.empty ++ x = x := ext_tl (by rw [tl_append] <;> rfl)
theorem numT_any {i : Int} (h : i.natAbs < 10 ^ 60) : (numT i).length ≤ 61 := by
  by_cases c : 0 ≤ i
  · have := (numT_len (m := i.natAbs) h).2
    rw [show ((i.natAbs : Nat) : Int) = i by omega] at this
    omega
  · rw [len_tl, show i = -((i.natAbs : Nat) : Int) by omega, numT_neg (by omega)]
    have := numL_len (k := 60) (by decide) h
    show (numL _).length + 1 ≤ 61
    omega
section
variable {σ : L2.St} {H : Hp} {Q : VK} {R : Str → Hp → Prop} {te t : TE} {ts : List TE} {acc : Str} {K : PySem.W.Frag} {w : World}
theorem js_nil (h : R acc H) : tJs [] acc σ H R := h
theorem js_cons (h : t σ H fun x H1 => ∃ y : Str, x = .str y ∧ (acc ++ y).length ≤ sizeLine ∧ tJs ts (acc ++ y) σ H1 R) : tJs (t :: ts) acc σ H R := h
theorem fmt_ (h : te σ H fun x H1 => (∃ y : Str, x = .str y ∧ y.length ≤ sizeLine ∧ Q (.str y) H1) ∨ ∃ i : Int, x = .int i ∧ i.natAbs.log2 < 1920 ∧ Q (.str (toString i)) H1) : tFmt te σ H Q := h
end
section
variable {σ : L2.St} {H : Hp} {Q : VK} {te ta to : TE} {r : V → List V → Hp → VK → Prop}
theorem m1 (h : to σ H fun x H1 => (∃ a, x = .str a) ∧ te σ H1 fun y H2 => r x [y] H2 Q) : tM1 r to te σ H Q := h
theorem m0 (h : to σ H fun x H1 => (∃ a, x = .str a) ∧ r x [] H1 Q) : tM0 r to σ H Q := h
theorem lcS {g : TG} {tt : TT} {vs : List Nat} (h : ta σ H fun x H1 => ∃ z, x = .str z ∧ ∀ D, H1 D = none → LoopC (Its z) g tt te vs σ D (fun H => Q (.ref D) H) (upd H1 D (.lst []))) : tLc (iStr ta) g tt te vs σ H Q := h
theorem loopCS {z : Str} {g : TG} {tt : TT} {vs : List Nat} {D : Addr} {Qd : Hp → Prop} (Pv : Nat → Hp → Prop) (h0 : Pv 0 H)
    (hs : ∀ i c H, z.cps[i]? = some c → Pv i H → g (.str ⟨#[c]⟩) (wipe σ vs) H fun σ2 H2 => wipe σ2 vs = wipe σ vs ∧ tt σ2 H2 fun b H3 =>
      if b = true then te σ2 H3 fun y H4 => ∃ acc, H4 D = some (.lst acc) ∧ acc.length < sizeLine ∧ Pv (i + 1) (upd H4 D (.lst (acc ++ [y]))) else Pv (i + 1) H3) (hd : ∀ H, Pv z.cps.size H → Qd H) : LoopC (Its z) g tt te vs σ D Qd H := by
  refine ⟨fun i m H => m = z.cps.size - i ∧ i ≤ z.cps.size ∧ Pv i H, ⟨z.cps.size, by simp, Nat.zero_le _, h0⟩, ?_⟩
  rintro i m H ⟨rfl, hi, p⟩
  by_cases hlt : i < z.cps.size
  · refine .inr ⟨hlt, Pv (i + 1), fun H' p' => ⟨z.cps.size - (i + 1), by omega, rfl, hlt, p'⟩, fun x H' y => ?_⟩
    obtain ⟨e, c, hc, ex⟩ := y
    subst e
    subst ex
    exact hs i c _ hc p
  · have e : i = z.cps.size := by omega
    subst e
    exact .inl ⟨Nat.le_refl _, hd H p⟩
end
theorem log_ok {n : Nat} (h : n < 10 ^ 60) : n.log2 < 1920 := by
  by_cases e : n = 0
  · subst e; decide
  · rw [Nat.log2_lt e]
    exact Nat.lt_of_lt_of_le h (by decide)
end Wt

/-! Errors of own classes, caught. -/
namespace Wex
open PySem PySem.Spec PyProof.Rows L2 Wp
theorem exm_of2 {K : PySem.W.Frag} {C S : Addr} {b : Bool} (h1 : PySem.W.subIn K (.ref C) (.type "BaseException") = some true) (h1s : PySem.W.subIn K (.ref S) (.type "BaseException") = some true) (h2 : PySem.W.isClsIn K S = true) (h3 : PySem.W.typeIn K (.ref S) = some (.type "type")) (h4 : PySem.W.subIn K (.ref C) (.ref S) = some b) :
    PySem.W.exmOne K (.ref C) (.ref S) = some b := by
  have e1 : (PySem.W.subIn K (.ref S) (.type "BaseException") == some true) = true := by rw [h1s] <;> rfl
  have e2 : ((PySem.W.clsIn K S).isSome && PySem.W.typeIn K (.ref S) == some (.type "type")) = true := by
    have h2' : (PySem.W.clsIn K S).isSome = true := h2
    rw [h2', h3] <;> rfl
  show (if (PySem.W.subIn K (.ref S) (.type "BaseException") == some true) = true then (if ((PySem.W.clsIn K S).isSome && PySem.W.typeIn K (.ref S) == some (.type "type")) = true then PySem.W.subIn K (.ref C) (.ref S) else none) else none) = some b
  rw [if_pos e1, if_pos e2]
  exact h4
theorem exm_self {K : PySem.W.Frag} {S : Addr} (h1 : PySem.W.subIn K (.ref S) (.type "BaseException") = some true) (h2 : PySem.W.isClsIn K S = true) (h3 : PySem.W.typeIn K (.ref S) = some (.type "type")) (h4 : PySem.W.subIn K (.ref S) (.ref S) = some true) :
    PySem.W.exmOne K (.ref S) (.ref S) = some true := exm_of2 h1 h1 h2 h3 h4
section
variable {σ : L2.St} {H : Hp} {Q : VK} {sp : Sp} {E : L2.St → XK} {t : TA}
theorem callS (h : t σ H fun vs H1 => sp vs H1 Q (E σ)) : tCallS sp E t σ H Q := h
end
/-- a suite walked for errors of one class alone -/
theorem suite_of {X : Cx} {C : Addr} {suite : List Stmt} {t : Addr → TS} (h : ∀ (a : Addr) (oe : Obj) (pn : List (Addr × Obj)), Zc (.ref C) none oe → (∃ vs, oe.data = .fields vs) → PSs (X.suite a ((a, oe) :: pn)) suite (t a)) :
    ∀ (a : Addr) (oe : Obj) (cls : Value) (d : Option Addr) (pn : List (Addr × Obj)), Zc cls d oe → (∃ vs, oe.data = .fields vs) → PSs (X.suite a ((a, oe) :: pn)) suite (fun D σ H => (cls = .ref C ∧ d = none) ∧ t a D σ H) := fun a oe cls d pn hz hf => by
  refine ⟨fun pins s σ H D I q => ?_⟩
  obtain ⟨⟨e1, e2⟩, q⟩ := q
  subst e1 e2
  exact (h a oe pn hz hf).run pins s σ H D I q
/-- isinstance(e, (C, ..)) in the suite -/
def rIsET (K : PySem.W.Frag) (D a : Addr) : List V → Hp → VK → Prop := fun xs H Q => ∃ (tp : Addr) (cs : List V) (us : List Value) (b : Bool), xs = [.ref a, .ref tp] ∧ H tp = some (.tup cs) ∧ Paired ClsV cs us ∧ PySem.W.kitAny K (.ref D) us = some b ∧ Q (.bl b) H
theorem call_isET {X : Cx} {a D : Addr} {oe : Obj} {pn : List (Addr × Obj)} (C : ExcC X.K D) (hz : Zc (.ref D) none oe) (hf : ∃ vs, oe.data = .fields vs) : CallR (X.suite a ((a, oe) :: pn)) (.builtin "isinstance") (rIsET X.K D a) := by
  intro pins s σ H xs us Q I r h
  obtain ⟨tp, cs, ws, b, rfl, hT, k, e, q⟩ := h
  obtain ⟨u1, u2, rfl, r1, r2⟩ := vals2 r
  cases (show u2 = Value.ref tp from r2)
  cases (show u1 = Value.ref a from r1)
  obtain ⟨hget, _⟩ := I.pin (a, oe) (List.mem_append.mpr (.inl List.mem_cons_self))
  obtain ⟨vs, hv⟩ := hf
  have J : PySem.W.InstAt s.heap a oe D none := by
    obtain ⟨oc, od, oda, osl⟩ := oe
    obtain ⟨h1, h2⟩ := hz
    dsimp only at h1 h2 hv
    subst h1 h2 hv
    exact ⟨hget, rfl, rfl, trivial⟩
  obtain ⟨_, its, rv, o, h1, h2, n, h3⟩ := (show ObjOk _ _ H s.heap tp (.tup cs) from I.hok tp _ hT)
  have e3 := ClsV.all k rv
  subst e3
  obtain ⟨oc, od, dt, sl⟩ := o
  simp only at h2 h3
  subst h2 h3
  exact PySem.W.kia_tup (PySem.W.handS_kitx_exc C.hg C.hk C.hs C.hd C.ha C.hn C.ht C.hm) I.kIn J h1 e (fun z => nomatch z) fun tk => ⟨.bl b, H, I.kept (t' := tk) fun _ _ z => z, rfl, q⟩
end Wex

namespace K15
open PySem PySem.Spec PyProof.Rows L2 Wp Wq Wr Wpm
/-! ### the text by places -/
def topS (i : Nat) : Stmt := PySem.Challenge.pw_manygoings_k15_what_is_a_picture.main.body.getD i (.Pass ⟨0, 0, 0, 0⟩)
abbrev s_is_number : Stmt := topS 2
abbrev s_is_worth : Stmt := topS 3
abbrev s_is_thing : Stmt := topS 4
abbrev s_things_of : Stmt := topS 5
abbrev s_is_name : Stmt := topS 9
abbrev s_is_count : Stmt := topS 10
abbrev s_is_pile : Stmt := topS 11
abbrev s_are_rows : Stmt := topS 12
abbrev s_is_rising : Stmt := topS 13
abbrev s_are_pegs : Stmt := topS 14
abbrev s_are_goings : Stmt := topS 15
abbrev s_are_boxes : Stmt := topS 16
abbrev s_worths_of : Stmt := topS 17
abbrev s_is_picture : Stmt := topS 18
abbrev s_things : Stmt := topS 19
abbrev s_holdings : Stmt := topS 20
abbrev s_cell_at : Stmt := topS 22
abbrev s_stir : Stmt := topS 23
abbrev s_well : Stmt := topS 24
abbrev s_draw : Stmt := topS 25
abbrev s_worth : Stmt := topS 26
abbrev s_name : Stmt := topS 27
abbrev s_numbered : Stmt := topS 28
abbrev s_hold : Stmt := topS 29
abbrev s_picture : Stmt := topS 30
abbrev s_lcopy : Stmt := topS 31
abbrev s_more : Stmt := topS 32
abbrev s_law : Stmt := topS 33
theorem sc_is_number : FnScope ["thing"] ["thing"] (defScope s_is_number) := ⟨rfl, rfl, rfl, by decide +kernel, rfl, by decide +kernel, by decide +kernel⟩
theorem sc_is_worth : FnScope ["thing", "word", "number"] ["thing"] (defScope s_is_worth) := ⟨rfl, rfl, rfl, by decide +kernel, rfl, by decide +kernel, by decide +kernel⟩
theorem sc_is_thing : FnScope ["worth"] ["worth"] (defScope s_is_thing) := ⟨rfl, rfl, rfl, by decide +kernel, rfl, by decide +kernel, by decide +kernel⟩
theorem sc_things_of : FnScope ["worths", "found", "worth"] ["worths"] (defScope s_things_of) := ⟨rfl, rfl, rfl, by decide +kernel, rfl, by decide +kernel, by decide +kernel⟩
theorem sc_is_name : FnScope ["thing", "sign"] ["thing"] (defScope s_is_name) := ⟨rfl, rfl, rfl, by decide +kernel, rfl, by decide +kernel, by decide +kernel⟩
theorem sc_is_count : FnScope ["thing"] ["thing"] (defScope s_is_count) := ⟨rfl, rfl, rfl, by decide +kernel, rfl, by decide +kernel, by decide +kernel⟩
theorem sc_is_pile : FnScope ["thing", "worth"] ["thing"] (defScope s_is_pile) := ⟨rfl, rfl, rfl, by decide +kernel, rfl, by decide +kernel, by decide +kernel⟩
theorem sc_are_rows : FnScope ["thing", "width", "row"] ["thing", "width"] (defScope s_are_rows) := ⟨rfl, rfl, rfl, by decide +kernel, rfl, by decide +kernel, by decide +kernel⟩
theorem sc_is_rising : FnScope ["keys", "low", "high"] ["keys"] (defScope s_is_rising) := ⟨rfl, rfl, rfl, by decide +kernel, rfl, by decide +kernel, by decide +kernel⟩
theorem sc_are_pegs : FnScope ["thing", "name", "_", "worth"] ["thing"] (defScope s_are_pegs) := ⟨rfl, rfl, rfl, by decide +kernel, rfl, by decide +kernel, by decide +kernel⟩
theorem sc_are_goings : FnScope ["thing", "row", "g", "place", "pile"] ["thing"] (defScope s_are_goings) := ⟨rfl, rfl, rfl, by decide +kernel, rfl, by decide +kernel, by decide +kernel⟩
theorem sc_are_boxes : FnScope ["thing", "b", "_", "worth"] ["thing"] (defScope s_are_boxes) := ⟨rfl, rfl, rfl, by decide +kernel, rfl, by decide +kernel, by decide +kernel⟩
theorem sc_worths_of : FnScope ["picture", "pile", "pegs", "goings", "boxes", "row", "worths"] ["picture"] (defScope s_worths_of) := ⟨rfl, rfl, rfl, by decide +kernel, rfl, by decide +kernel, by decide +kernel⟩
theorem sc_is_picture : FnScope ["thing", "pile", "pegs", "goings", "boxes"] ["thing"] (defScope s_is_picture) := ⟨rfl, rfl, rfl, by decide +kernel, rfl, by decide +kernel, by decide +kernel⟩
theorem sc_things : FnScope ["picture"] ["picture"] (defScope s_things) := ⟨rfl, rfl, rfl, by decide +kernel, rfl, by decide +kernel, by decide +kernel⟩
theorem sc_holdings : FnScope ["picture", "goings", "boxes", "table", "row", "b", "worth"] ["picture"] (defScope s_holdings) := ⟨rfl, rfl, rfl, by decide +kernel, rfl, by decide +kernel, by decide +kernel⟩
theorem sc_cell_at : FnScope ["script", "k"] ["script", "k"] (defScope s_cell_at) := ⟨rfl, rfl, rfl, by decide +kernel, rfl, by decide +kernel, by decide +kernel⟩
theorem sc_stir : FnScope ["seed", "turn", "number"] ["seed", "turn"] (defScope s_stir) := ⟨rfl, rfl, rfl, by decide +kernel, rfl, by decide +kernel, by decide +kernel⟩
theorem sc_well : FnScope ["cell", "k", "seed"] ["cell", "k"] (defScope s_well) := ⟨rfl, rfl, rfl, by decide +kernel, rfl, by decide +kernel, by decide +kernel⟩
theorem sc_draw : FnScope ["well", "many", "taken"] ["well", "many"] (defScope s_draw) := ⟨rfl, rfl, rfl, by decide +kernel, rfl, by decide +kernel, by decide +kernel⟩
theorem sc_worth : FnScope ["well", "some", "way", "number"] ["well", "some"] (defScope s_worth) := ⟨rfl, rfl, rfl, by decide +kernel, rfl, by decide +kernel, by decide +kernel⟩
theorem sc_name : FnScope ["well", "last", "letters", "way", "letter", "at", "k"] ["well", "last"] (defScope s_name) := ⟨rfl, rfl, rfl, by decide +kernel, rfl, by decide +kernel, by decide +kernel⟩
theorem sc_numbered : FnScope ["wells", "last", "found", "k", "word", "wide", "gap"] ["wells"] (defScope s_numbered) := ⟨rfl, rfl, rfl, by decide +kernel, rfl, by decide +kernel, by decide +kernel⟩
theorem sc_hold : FnScope ["well", "where", "thing", "pile", "pegs", "hosts", "row", "name"] ["well", "where", "thing", "pile", "pegs", "hosts"] (defScope s_hold) := ⟨rfl, rfl, rfl, by decide +kernel, rfl, by decide +kernel, by decide +kernel⟩
theorem sc_picture : FnScope ["cells", "most", "head", "parts", "many", "k", "wells", "sides", "names", "rows", "places", "some", "size", "pile", "pegs", "name", "hosts", "where", "goings", "boxes", "well", "j", "row"] ["cells", "most"] (defScope s_picture) := ⟨rfl, rfl, rfl, by decide +kernel, rfl, by decide +kernel, by decide +kernel⟩
theorem sc_lcopy : FnScope ["picture", "pile", "pegs", "goings", "boxes", "g", "place", "row"] ["picture"] (defScope s_lcopy) := ⟨rfl, rfl, rfl, by decide +kernel, rfl, by decide +kernel, by decide +kernel⟩
theorem sc_more : FnScope ["picture", "well", "pile", "pegs", "goings", "boxes", "way", "number", "thing", "name", "rows", "at", "row"] ["picture", "well"] (defScope s_more) := ⟨rfl, rfl, rfl, by decide +kernel, rfl, by decide +kernel, by decide +kernel⟩
theorem sc_law : FnScope ["script", "picture", "handed", "more", "due", "found"] ["script"] (defScope s_law) := ⟨rfl, rfl, rfl, by decide +kernel, rfl, by decide +kernel, by decide +kernel⟩
/-! ### the facts of the top -/
structure Txt (P : Program) (w : World) (K : PySem.W.Frag) (mg : Str → Option Value) where
  f_is_number : Addr
  fd_is_number : FuncData
  F_is_number : Fun K "is_number" "is_number" s_is_number f_is_number fd_is_number
  b_is_number : Binds K fd_is_number ["thing"] []
  g_is_number : mg "is_number" = some (.ref f_is_number)
  f_is_worth : Addr
  fd_is_worth : FuncData
  F_is_worth : Fun K "is_worth" "is_worth" s_is_worth f_is_worth fd_is_worth
  b_is_worth : Binds K fd_is_worth ["thing"] []
  g_is_worth : mg "is_worth" = some (.ref f_is_worth)
  f_is_thing : Addr
  fd_is_thing : FuncData
  F_is_thing : Fun K "is_thing" "is_thing" s_is_thing f_is_thing fd_is_thing
  b_is_thing : Binds K fd_is_thing ["worth"] []
  g_is_thing : mg "is_thing" = some (.ref f_is_thing)
  f_things_of : Addr
  fd_things_of : FuncData
  F_things_of : Fun K "things_of" "things_of" s_things_of f_things_of fd_things_of
  b_things_of : Binds K fd_things_of ["worths"] []
  g_things_of : mg "things_of" = some (.ref f_things_of)
  f_is_name : Addr
  fd_is_name : FuncData
  F_is_name : Fun K "is_name" "is_name" s_is_name f_is_name fd_is_name
  b_is_name : Binds K fd_is_name ["thing"] []
  g_is_name : mg "is_name" = some (.ref f_is_name)
  f_is_count : Addr
  fd_is_count : FuncData
  F_is_count : Fun K "is_count" "is_count" s_is_count f_is_count fd_is_count
  b_is_count : Binds K fd_is_count ["thing"] []
  g_is_count : mg "is_count" = some (.ref f_is_count)
  f_is_pile : Addr
  fd_is_pile : FuncData
  F_is_pile : Fun K "is_pile" "is_pile" s_is_pile f_is_pile fd_is_pile
  b_is_pile : Binds K fd_is_pile ["thing"] []
  g_is_pile : mg "is_pile" = some (.ref f_is_pile)
  f_are_rows : Addr
  fd_are_rows : FuncData
  F_are_rows : Fun K "are_rows" "are_rows" s_are_rows f_are_rows fd_are_rows
  b_are_rows : Binds K fd_are_rows ["thing", "width"] []
  g_are_rows : mg "are_rows" = some (.ref f_are_rows)
  f_is_rising : Addr
  fd_is_rising : FuncData
  F_is_rising : Fun K "is_rising" "is_rising" s_is_rising f_is_rising fd_is_rising
  b_is_rising : Binds K fd_is_rising ["keys"] []
  g_is_rising : mg "is_rising" = some (.ref f_is_rising)
  f_are_pegs : Addr
  fd_are_pegs : FuncData
  F_are_pegs : Fun K "are_pegs" "are_pegs" s_are_pegs f_are_pegs fd_are_pegs
  b_are_pegs : Binds K fd_are_pegs ["thing"] []
  g_are_pegs : mg "are_pegs" = some (.ref f_are_pegs)
  f_are_goings : Addr
  fd_are_goings : FuncData
  F_are_goings : Fun K "are_goings" "are_goings" s_are_goings f_are_goings fd_are_goings
  b_are_goings : Binds K fd_are_goings ["thing"] []
  g_are_goings : mg "are_goings" = some (.ref f_are_goings)
  f_are_boxes : Addr
  fd_are_boxes : FuncData
  F_are_boxes : Fun K "are_boxes" "are_boxes" s_are_boxes f_are_boxes fd_are_boxes
  b_are_boxes : Binds K fd_are_boxes ["thing"] []
  g_are_boxes : mg "are_boxes" = some (.ref f_are_boxes)
  f_worths_of : Addr
  fd_worths_of : FuncData
  F_worths_of : Fun K "worths_of" "worths_of" s_worths_of f_worths_of fd_worths_of
  b_worths_of : Binds K fd_worths_of ["picture"] []
  g_worths_of : mg "worths_of" = some (.ref f_worths_of)
  f_is_picture : Addr
  fd_is_picture : FuncData
  F_is_picture : Fun K "is_picture" "is_picture" s_is_picture f_is_picture fd_is_picture
  b_is_picture : Binds K fd_is_picture ["thing"] []
  g_is_picture : mg "is_picture" = some (.ref f_is_picture)
  f_things : Addr
  fd_things : FuncData
  F_things : Fun K "things" "things" s_things f_things fd_things
  b_things : Binds K fd_things ["picture"] []
  g_things : mg "things" = some (.ref f_things)
  f_holdings : Addr
  fd_holdings : FuncData
  F_holdings : Fun K "holdings" "holdings" s_holdings f_holdings fd_holdings
  b_holdings : Binds K fd_holdings ["picture"] []
  g_holdings : mg "holdings" = some (.ref f_holdings)
  f_cell_at : Addr
  fd_cell_at : FuncData
  F_cell_at : Fun K "_law_cell_at" "_law_cell_at" s_cell_at f_cell_at fd_cell_at
  b_cell_at : Binds K fd_cell_at ["script", "k"] []
  g_cell_at : mg "_law_cell_at" = some (.ref f_cell_at)
  f_stir : Addr
  fd_stir : FuncData
  F_stir : Fun K "_law_stir" "_law_stir" s_stir f_stir fd_stir
  b_stir : Binds K fd_stir ["seed", "turn"] []
  g_stir : mg "_law_stir" = some (.ref f_stir)
  f_well : Addr
  fd_well : FuncData
  F_well : Fun K "_law_well" "_law_well" s_well f_well fd_well
  b_well : Binds K fd_well ["cell", "k"] []
  g_well : mg "_law_well" = some (.ref f_well)
  f_draw : Addr
  fd_draw : FuncData
  F_draw : Fun K "_law_draw" "_law_draw" s_draw f_draw fd_draw
  b_draw : Binds K fd_draw ["well", "many"] []
  g_draw : mg "_law_draw" = some (.ref f_draw)
  f_worth : Addr
  fd_worth : FuncData
  F_worth : Fun K "_law_worth" "_law_worth" s_worth f_worth fd_worth
  b_worth : Binds K fd_worth ["well", "some"] []
  g_worth : mg "_law_worth" = some (.ref f_worth)
  f_name : Addr
  fd_name : FuncData
  F_name : Fun K "_law_name" "_law_name" s_name f_name fd_name
  b_name : Binds K fd_name ["well", "last"] []
  g_name : mg "_law_name" = some (.ref f_name)
  f_numbered : Addr
  fd_numbered : FuncData
  F_numbered : Fun K "_law_numbered" "_law_numbered" s_numbered f_numbered fd_numbered
  b_numbered : Binds K fd_numbered ["wells"] []
  g_numbered : mg "_law_numbered" = some (.ref f_numbered)
  f_hold : Addr
  fd_hold : FuncData
  F_hold : Fun K "_law_hold" "_law_hold" s_hold f_hold fd_hold
  b_hold : Binds K fd_hold ["well", "where", "thing", "pile", "pegs", "hosts"] []
  g_hold : mg "_law_hold" = some (.ref f_hold)
  f_picture : Addr
  fd_picture : FuncData
  F_picture : Fun K "_law_picture" "_law_picture" s_picture f_picture fd_picture
  b_picture : Binds K fd_picture ["cells", "most"] []
  g_picture : mg "_law_picture" = some (.ref f_picture)
  f_lcopy : Addr
  fd_lcopy : FuncData
  F_lcopy : Fun K "_law_copy" "_law_copy" s_lcopy f_lcopy fd_lcopy
  b_lcopy : Binds K fd_lcopy ["picture"] []
  g_lcopy : mg "_law_copy" = some (.ref f_lcopy)
  f_more : Addr
  fd_more : FuncData
  F_more : Fun K "_law_more" "_law_more" s_more f_more fd_more
  b_more : Binds K fd_more ["picture", "well"] []
  g_more : mg "_law_more" = some (.ref f_more)
  f_law : Addr
  fd_law : FuncData
  F_law : Fun K "law" "law" s_law f_law fd_law
  b_law : Binds K fd_law ["script"] []
  g_law : mg "law" = some (.ref f_law)
  n_all : mg "all" = none
  n_any : mg "any" = none
  n_bool : mg "bool" = none
  n_int : mg "int" = none
  n_isinstance : mg "isinstance" = none
  n_len : mg "len" = none
  n_list : mg "list" = none
  n_max : mg "max" = none
  n_min : mg "min" = none
  n_range : mg "range" = none
  n_sorted : mg "sorted" = none
  n_str : mg "str" = none
  n_tuple : mg "tuple" = none
  n_type : mg "type" = none
  n_zip : mg "zip" = none
  d_SIGNS : Addr
  es_SIGNS : Array DictEntry
  no_SIGNS : Nat
  c_SIGNS : mg "SIGNS" = some (.ref d_SIGNS)
  k_SIGNS : KDict K w d_SIGNS es_SIGNS no_SIGNS
  i_SIGNS : ∀ z : Str, ∃ r, PySem.W.nsIn K d_SIGNS z = some r ∧ r.isSome = (decide (z = "num") || decide (z = "at") || decide (z = "box") || decide (z = "go"))
  t_LETTERS : Tok
  c_LETTERS : mg "LETTERS" = some (.str "abcdefghijklmnopqrstuvwxyz" t_LETTERS)
  t_MOST_LETTERS : Tok
  c_MOST_LETTERS : mg "MOST_LETTERS" = some (.int 8 t_MOST_LETTERS)

local macro_rules | `(tactic| walk_at "ne") => `(tactic| first
  | assumption
  | (refine Ne.symm ?_; assumption)
  | exact ne_of_none (by assumption) (by assumption)
  | exact (ne_of_none (by assumption) (by assumption)).symm
  | exact ne_of (by assumption) (by assumption) (by intro q; cases q))
local macro_rules | `(tactic| walk_at "hp") => `(tactic| first
  | assumption
  | exact upd_same
  | (refine (upd_ne ?_).trans ?_; (walk_at "ne"); (walk_at "hp")))
local macro_rules | `(tactic| walk_at "hq") => `(tactic| first
  | assumption
  | exact upd_same
  | (refine same_new (by assumption) _ _ ?_; (walk_at "hq"))
  | (refine Wp.look (by assumption) ?_; (walk_at "hq")))
local macro_rules | `(tactic| walk_at "sm") => `(tactic| first
  | assumption
  | exact fun _ _ h => h
  | exact same_new (by assumption)
  | (refine Same.trans ?_ (same_new (by assumption)); (walk_at "sm"))
  | (refine Same.trans ?_ (by assumption); (walk_at "sm")))
local macro_rules | `(tactic| walk_at "kp") => `(tactic| first
  | assumption
  | exact Kp.refl _ _
  | (refine Kp.trans ?_ (Kp.new (by assumption)); (walk_at "kp"))
  | (refine Kp.trans ?_ (Same.kp (by assumption)); (walk_at "kp"))
  | (refine Wp.kpT ?_ (by assumption); (walk_at "kp"))
  | exact Same.kp (by walk_at "sm"))
local macro_rules | `(tactic| walk_at "sq") => `(tactic| first
  | assumption
  | exact SqL.of (by walk_at "hp")
  | exact SqT.of (by walk_at "hp"))
local macro_rules | `(tactic| walk_at "kind") => `(tactic| first
  | assumption
  | exact Kind.int _
  | exact Kind.str _
  | exact Kind.bl _
  | exact Kind.non
  | exact Kind.tup (by walk_at "hp")
  | exact Kind.lst (by walk_at "hp")
  | exact Kind.dK (by walk_at "hp"))
local macro_rules | `(tactic| walk_at "w1") => `(tactic| first
  | (with_reducible refine Wp.seq ?_)
  | (with_reducible refine Wp.nx_mk ?_)
  | (with_reducible refine Wp.rt_mk ?_)
  | (with_reducible refine Wp.bk_mk ?_)
  | (with_reducible refine Wp.ct_mk ?_)
  | (with_reducible refine Wp.next ?_)
  | (with_reducible refine Wp.asg ?_)
  | ((with_reducible refine' Wp.gname ?e ?_); (case e => (try dsimp only [List.set, L2.wipe, List.map_cons, List.map_nil]); (try exact rfl)))
  | (with_reducible refine Wp.gsub ?_)
  | (with_reducible refine Wp.ret ?_)
  | (with_reducible refine Wp.retN ?_)
  | (with_reducible refine Wp.drop ?_)
  | (with_reducible refine Wp.dput ?_)
  | (with_reducible refine Wp.ifs ?_)
  | ((with_reducible refine' Wp.var ?h ?_); (case h => exact rfl))
  | (with_reducible refine Wp.con ?_)
  | (with_reducible refine Wp.op ?_)
  | (with_reducible refine Wp.un ?_)
  | (with_reducible refine Wp.cb ?_)
  | (with_reducible refine Wp.anil ?_)
  | (with_reducible refine Wp.acons ?_)
  | (with_reducible refine Wp.call ?_)
  | (with_reducible refine Wp.test ?_)
  | (with_reducible refine Wp.tb_ ?_)
  | (with_reducible refine Wp.and_ ?_)
  | (with_reducible refine Wp.or_ ?_)
  | (with_reducible refine Wp.not_ ?_)
  | (with_reducible refine Wp.andV ?_)
  | (with_reducible refine Wp.orV ?_)
  | (with_reducible refine Wp.notV ?_)
  | (with_reducible refine Wp.rI0_ ?_)
  | (with_reducible refine Wp.rU_ ?_)
  | ((with_reducible refine Wp.rEq_ ?k ?_); (case k => exact rfl))
  | ((with_reducible refine Wp.rNe_ ?k ?_); (case k => exact rfl))
  | (with_reducible refine Wp.gcons ?_)
  | (with_reducible refine Wp.gnil ?_)
  | ((with_reducible refine' Wp.gtup ?h ?e ?_); (case h => walk_at "sq"); (case e => exact rfl))
  | (with_reducible refine Wp.sl ?_)
  | (with_reducible refine Wp.part ?_)
  | (with_reducible refine Wp.nopart ?_)
  | (with_reducible refine Wp.ifE ?_)
  | (with_reducible refine Wp.bm0 ?_)
  | (with_reducible refine Wp.bm ?_)
  | (with_reducible refine Wp.lcR1 ?_)
  | (with_reducible refine Wp.lcR2 ?_)
  | (with_reducible refine Wp.lcL ?_)
  | (with_reducible refine Wp.chain ?_)
  | (with_reducible refine Wp.lc2V ?_)
  | (with_reducible refine Wp.piL ?_)
  | (with_reducible refine Wp.yes ?_)
  | (with_reducible refine Wp.dinI ?_)
  | (with_reducible refine Wp.dninI ?_)
  | (with_reducible refine Wp.dget ?_)
  | ((with_reducible refine' ⟨?k, ?_⟩); (case k => show L2.wipe _ _ = L2.wipe _ _; exact rfl))
  | ((with_reducible refine' ⟨?k, ?_⟩); (case k => show V.non = V.non; exact rfl))
  | (with_reducible refine Wp.forR1 ?_)
  | (with_reducible refine Wp.forR2 ?_)
  | (with_reducible refine Wp.forL ?_)
  | (with_reducible refine Wp.forT ?_)
  | ((with_reducible refine' ⟨?k, ?_⟩); (case k => exact Wp.tyvL (by walk_at "hp")))
  | ((with_reducible refine' Wp.rev_ ?k ?_); (case k => walk_at "hp"))
  | ((with_reducible refine' Wp.isi ?k ?h ?_); (case k => walk_at "kind"); (case h => decide))
  | ((with_reducible refine' Wp.typ ?k ?_); (case k => walk_at "kind"))
  | (with_reducible refine Wp.slS ?k ?_; (case k => assumption))
  | (with_reducible refine iteT ?_)
  | (with_reducible refine iteF ?_)
  | (with_reducible refine Wtc.dcL ?_)
  | (with_reducible refine Wst.step ?_)
  | (with_reducible refine Wtc.dget2 ?_)
  | (with_reducible refine Wtc.lcZ ?_)
  | (with_reducible refine Wrw.loop_setLc ?_)
  | (with_reducible refine Wz.par ?_)
  | (with_reducible refine Wz.forN ?_)
  | (with_reducible refine Wz.dcL ?_)
  | (with_reducible refine Wz.forZ ?_)
  | (with_reducible refine Wz.lcR3 ?_)
  | (with_reducible refine Wc.revL ?_)
  | (with_reducible refine Wd.nm ?_)
  | (with_reducible refine Wd.nget ?_)
  | ((with_reducible refine Wd.tnew ?_); intro p hp)
  | (with_reducible refine Wd.pikn ?_)
  | (with_reducible refine Wt.m1 ?_)
  | (with_reducible refine Wt.m0 ?_)
  | ((with_reducible refine' ⟨?k, ?_⟩); (case k => show ∃ a, _ = V.str a; exact ⟨_, rfl⟩))
  | (with_reducible refine Wt.js_cons ?_)
  | (with_reducible refine Wt.fmt_ ?_)
  | (with_reducible refine Wp.pcons ?_)
  | (with_reducible refine Wp.pnil ?_)
  | ((with_reducible refine' Wp.iteBnT ?h ?_); (case h => show isB _ _ = false; decide))
  | ((with_reducible refine' Wp.iteBnF ?h ?_); (case h => show isB _ _ = true; decide))
  | ((with_reducible refine' Wp.iteBt ?h ?_); (case h => show isB _ _ = true; decide))
  | ((with_reducible refine' Wp.iteBf ?h ?_); (case h => show isB _ _ = false; decide))
  | (with_reducible refine Wp.iteT' ?_)
  | (with_reducible refine Wp.iteF' ?_)
  | (with_reducible refine Wp.rNT_ ?_)
  | ((with_reducible refine Wp.lst ?_))
  | ((with_reducible refine Wp.tup ?_))
  | ((with_reducible refine' Wp.ixL ?h ?e ?_); (case h => walk_at "sq"); (case e => exact rfl))
  | ((with_reducible refine' Wp.ixT ?h ?e ?_); (case h => walk_at "sq"); (case e => exact rfl))
  | ((with_reducible refine' Wp.setL ?h ?e ?_); (case h => walk_at "hp"); (case e => exact rfl))
  | ((with_reducible refine Wp.rI_ ?k ?_); (case k => first | (show (0:Int) < _; omega) | (show CPow _ _; refine' ⟨?_, ?_, ?_⟩ <;> omega) | (show CDiv _ _; refine' ⟨?_, ?_⟩ <;> omega) | (show CMul _ _; refine' Or.inl ⟨?_, ?_⟩ <;> omega) | (show CMul _ _; refine' Or.inr ⟨?_, ?_⟩ <;> first | omega | decide) | (show CDivW _ _; refine' wide_div (b := 240) ?_ ?_ ?_ ?_ <;> first | omega | decide)))
  | ((with_reducible refine ⟨?k, ?_⟩); (case k => first | exact Nat.zero_le _ | (exact Nat.le_of_ble_eq_true rfl)); intro p hp)
  | ((with_reducible refine' ⟨_, _, rfl, .inl ?k, ?_⟩); (case k => walk_at "sq"))
  | ((with_reducible refine' ⟨_, _, rfl, .inr ?k, ?_⟩); (case k => walk_at "sq"))
  | (with_reducible refine ⟨_, rfl, ?_⟩)
  | (with_reducible refine ⟨_, _, rfl, rfl, ?_⟩)
  | (with_reducible refine ⟨_, _, rfl, ?_⟩))
local macro_rules | `(tactic| walk_at "wp") => `(tactic| repeat (walk_at "w1"))

section
variable {P : Program} {w : World} {K : PySem.W.Frag} {mg : Str → Option Value} {base : Heap}
def spStir : Sp := fun vs H Q _ => ∃ seed turn : Int, vs = [.int seed, .int turn] ∧ 0 ≤ seed ∧ seed < 10 ^ 43 ∧ 0 ≤ turn ∧ turn ≤ 10000000 ∧ ∀ v, 0 ≤ v → Q (.int v) H
theorem ok_stir (T : Txt P w K mg) : FnOk P w K mg base CX0 1 T.f_stir T.fd_stir ["seed", "turn"] spStir := by
  refine T.F_stir.ok sc_stir (fun vs H Q E h => ?_) (fun cdv A outer s H vs Q E hr h => ?_)
  · obtain ⟨a, b, rfl, _⟩ := h
    rfl
  · obtain ⟨seed, turn, rfl, s0, s1, t0, t1, q⟩ := h
    refine ⟨_, (pss_cons (ps_set (i := 2) sc_stir.nd rfl (.inl rfl) (pe_op op_add (pe_op op_mulW (pe_op op_add (pv 0) pe_int) pe_int) (pe_op op_mulW (pe_op op_add (pv 1) pe_int) pe_int)))
      (pss_one (ps_ret (pe_op op_mod (pe_op Ww.op_powW (pv 2) pe_int) pe_int)))), ?_⟩
    rw [show L2.start ["seed", "turn", "number"] [.int seed, .int turn] = [some (.int seed), some (.int turn), none] from rfl]
    try dsimp only [cxOf]
    walk_at "wp"
    have b1 : (seed + 1).natAbs < 2 ^ 150 := by
      have e : (10 : Int) ^ 43 < 2 ^ 149 := by decide
      omega
    have b2 : (turn + 1).natAbs < 2 ^ 150 := by omega
    refine rI_ (Ww.mulW (b := 100) b1 (by decide)) ?_
    walk_at "wp"
    refine rI_ (Ww.mulW (b := 100) b2 (by decide)) ?_
    walk_at "wp"
    have b3 : (((seed + 1) * 91736405528000000000000167) + ((turn + 1) * 2846193000000000000000009113)).natAbs < 2 ^ 300 := by
      have e : (10 : Int) ^ 43 < 2 ^ 149 := by decide
      omega
    refine rI_ (Ww.pow5 b3) ?_
    walk_at "wp"
    exact q _ (Int.emod_nonneg _ (by decide))

def spWell : Sp := fun vs H Q _ => ∃ (c : Int) (p : Nat), vs = [.int c, .int p] ∧ p ≤ 1000 ∧ ∀ b H', H b = none → Ww.Well H' b 0 → Same H H' → Q (.ref b) H'
theorem ok_well (T : Txt P w K mg) : FnOk P w K mg base CX0 2 T.f_well T.fd_well ["cell", "k"] spWell := by
  have G_stir := ok_stir (base := base) T
  refine T.F_well.ok sc_well (fun vs H Q E h => ?_) (fun cdv A outer s H vs Q E hr h => ?_)
  · obtain ⟨c, p, rfl, _⟩ := h
    rfl
  · obtain ⟨c, p, rfl, hp, q⟩ := h
    refine ⟨_, (pss_cons (ps_set (i := 2) sc_well.nd rfl (.inl rfl) (pe_op op_add (pe_op op_mul (pe_op op_mod (pv 0) (pe_op op_pow pe_int pe_int)) pe_int) (pv 1)))
      (pss_cons (ps_if (pt_cmpR op_ge (pv 0) (pe_op op_pow pe_int pe_int) (nomark _)) (pss_one (ps_ret (pe_lst (pa_cons (pe_op op_sub (pv 0) (pe_op op_pow pe_int pe_int)) (pa_cons (pv 2) (pa_cons pe_int pa_nil)))))) pss_nil)
      (pss_one (ps_ret (pe_lst (pa_cons (pe_call G_stir (hr.mono (by decide)) (by rfl) T.g_stir T.F_stir.kp T.b_stir .nil pass0 (pa_cons (pv 2) (pa_cons pe_int pa_nil))) (pa_cons (pv 2) (pa_cons pe_int pa_nil)))))))), ?_⟩
    rw [show L2.start ["cell", "k", "seed"] [.int c, .int p] = [some (.int c), some (.int p), none] from rfl]
    try dsimp only [cxOf]
    walk_at "wp"
    refine rI_ (show (0 : Int) < 10 ^ Int.toNat 40 by decide) ?_
    walk_at "wp"
    have m0 : 0 ≤ c % (10 ^ Int.toNat 40) := Int.emod_nonneg _ (by decide)
    have m1 : c % (10 ^ Int.toNat 40) < 10 ^ Int.toNat 40 := Int.emod_lt_of_pos _ (by decide)
    have e40 : (10 : Int) ^ Int.toNat 40 = 10000000000000000000000000000000000000000 := by decide
    have e18 : (10 : Int) ^ Int.toNat 18 = 1000000000000000000 := by decide
    have e43 : (10 : Int) ^ 43 = 10000000000000000000000000000000000000000000 := by decide
    rw [e40] at m0 m1
    refine ite_ (fun h => ?_) (fun h => ?_)
    · walk_at "wp"
      rename_i r hr0
      exact q r _ hr0 ⟨_, _, _, upd_same, by omega, by rw [e40]; omega, by rw [e40, e43]; omega, by decide, by decide⟩ (same_new hr0)
    · walk_at "wp"
      refine ⟨_, _, rfl, by rw [e40]; omega, by rw [e40, e43]; omega, by decide, by decide, fun v v0 => ?_⟩
      walk_at "wp"
      rename_i r hr0
      exact q r _ hr0 ⟨_, _, _, upd_same, v0, by rw [e40]; omega, by rw [e40, e43]; omega, by decide, by decide⟩ (same_new hr0)

def spDraw : Sp := fun vs H Q _ => ∃ (b : Addr) (n : Nat) (m : Int), vs = [.ref b, .int m] ∧ Ww.Well H b n ∧ n < 1000000 ∧ 0 < m ∧ m < 2 ^ 240 ∧ ∀ v H', 0 ≤ v → v < m → Ww.Well H' b (n + 1) → Kp b H H' → Q (.int v) H'
theorem ok_draw (T : Txt P w K mg) : FnOk P w K mg base CX0 2 T.f_draw T.fd_draw ["well", "many"] spDraw := by
  have G_stir := ok_stir (base := base) T
  refine T.F_draw.ok sc_draw (fun vs H Q E h => ?_) (fun cdv A outer s H vs Q E hr h => ?_)
  · obtain ⟨b, n, m, rfl, _⟩ := h
    rfl
  · obtain ⟨b, n, m, rfl, ⟨x, y, z, hb, x0, y0, y1, z0, z1⟩, hn, m0, m1, q⟩ := h
    refine ⟨_, (pss_cons (ps_if (pt_cmpR op_eq (pe_ix ix_list (pv 0) pe_int (fun _ _ => rfl)) pe_int (nomark _)) (pss_cons (ps_asg (pe_op op_add (pe_ix ix_list (pv 0) pe_int (fun _ _ => rfl)) pe_int) (pg_sub (pv 0) pe_int set_list))
      (pss_one (ps_asg (pe_call G_stir (hr.mono (by decide)) (by rfl) T.g_stir T.F_stir.kp T.b_stir .nil pass0 (pa_cons (pe_ix ix_list (pv 0) pe_int (fun _ _ => rfl)) (pa_cons (pe_ix ix_list (pv 0) pe_int (fun _ _ => rfl)) pa_nil))) (pg_sub (pv 0) pe_int set_list)))) pss_nil)
      (pss_cons (ps_set (i := 2) sc_draw.nd rfl (.inl rfl) (pe_op op_mod (pe_ix ix_list (pv 0) pe_int (fun _ _ => rfl)) (pv 1)))
      (pss_cons (ps_asg (pe_op op_fdivW (pe_ix ix_list (pv 0) pe_int (fun _ _ => rfl)) (pv 1)) (pg_sub (pv 0) pe_int set_list))
      (pss_one (ps_ret (pv 2)))))), ?_⟩
    rw [show L2.start ["well", "many", "taken"] [.ref b, .int m] = [some (.ref b), some (.int m), none] from rfl]
    try dsimp only [cxOf]
    walk_at "wp"
    refine ite_ (fun h => ?_) (fun h => ?_)
    · walk_at "wp"
      refine ⟨y, z + 1, rfl, y0, y1, by omega, by omega, fun v v0 => ?_⟩
      walk_at "wp"
      exact q _ _ (Int.emod_nonneg _ (by omega)) (Int.emod_lt_of_pos _ m0) ⟨_, _, _, upd_same, Int.ediv_nonneg v0 (by omega), y0, y1, by omega, by omega⟩ (Kp.trans Kp.at (Kp.trans Kp.at Kp.at))
    · walk_at "wp"
      exact q _ _ (Int.emod_nonneg _ (by omega)) (Int.emod_lt_of_pos _ m0) ⟨_, _, _, upd_same, Int.ediv_nonneg x0 (by omega), y0, y1, by omega, by omega⟩ Kp.at

def spWorth : Sp := fun vs H Q _ => ∃ (b a : Addr) (n : Nat) (xs : List V) (ws : List W), vs = [.ref b, .ref a] ∧ Ww.Well H b n ∧ n < 900000 ∧ H a = some (.lst xs) ∧ Pile H xs ws ∧ (∀ z ∈ ws, Wok z) ∧ ws.length < 1000000 ∧ a ≠ b ∧ ∀ v z H', IsW H' v z → Newly ws z → Ww.Well H' b (n + 4) → Kp b H H' → Q v H'
theorem ok_worth (T : Txt P w K mg) : FnOk P w K mg base CX0 3 T.f_worth T.fd_worth ["well", "some"] spWorth := by
  have G_draw := ok_draw (base := base) T
  refine T.F_worth.ok sc_worth (fun vs H Q E h => ?_) (fun cdv A outer s H vs Q E hr h => ?_)
  · obtain ⟨b, a, n, xs, ws, rfl, _⟩ := h
    rfl
  · obtain ⟨b, a, n, xs, ws, rfl, hb, hn, ha, hp, wk, hw, hab, q⟩ := h
    refine ⟨_, (pss_cons (ps_set (i := 2) sc_worth.nd rfl (.inl rfl) (pe_call G_draw (hr.mono (by decide)) (by rfl) T.g_draw T.F_draw.kp T.b_draw .nil pass0 (pa_cons (pv 0) (pa_cons pe_int pa_nil))))
      (C8.pss_cut (ps_if (PW.pt (pw_and (pt_cmpR op_lt (pv 2) pe_int (nomark _)) (pw_and1 (pt_cmpR (op_neD hr.units) (pv 1) (pe_lst pa_nil) (nomark _))))) (pss_one (ps_ret (pe_ix ix_list (pv 1) (pe_call G_draw (hr.mono (by decide)) (by rfl) T.g_draw T.F_draw.kp T.b_draw .nil pass0 (pa_cons (pv 0) (pa_cons (pe_callB call_len_seq (by rfl) T.n_len (by decide +kernel) (pa_cons (pv 1) pa_nil)) pa_nil))) (fun _ _ => rfl)))) pss_nil)
      (pss_cons (ps_set (i := 3) sc_worth.nd rfl (.inl rfl) (pe_call G_draw (hr.mono (by decide)) (by rfl) T.g_draw T.F_draw.kp T.b_draw .nil pass0 (pa_cons (pv 0) (pa_cons (pe_ix ix_list (pe_lst (pa_cons pe_int (pa_cons (pe_op op_pow pe_int pe_int) pa_nil))) (pe_call G_draw (hr.mono (by decide)) (by rfl) T.g_draw T.F_draw.kp T.b_draw .nil pass0 (pa_cons (pv 0) (pa_cons pe_int pa_nil))) (fun _ _ => rfl)) pa_nil))))
      (pss_cons (ps_if (pt_cmpR op_eq (pv 2) pe_int (nomark _)) (pss_one (ps_ret (pe_tup (pa_cons pe_str (pa_cons (pv 3) pa_nil))))) pss_nil)
      (pss_one (ps_ret (pe_tup (pa_cons pe_str (pa_cons (pe_op op_mul (pv 3) (pe_op op_sub pe_int (pe_op op_mul pe_int (pe_call G_draw (hr.mono (by decide)) (by rfl) T.g_draw T.F_draw.kp T.b_draw .nil pass0 (pa_cons (pv 0) (pa_cons pe_int pa_nil)))))) pa_nil))))))))), ?_⟩
    rw [show L2.start ["well", "some", "way", "number"] [.ref b, .ref a] = [some (.ref b), some (.ref a), none, none] from rfl]
    try dsimp only [cxOf]
    walk_at "wp"
    refine ⟨b, n, _, rfl, hb, by omega, by omega, by omega, fun way H1 w0 w1 hb1 k1 => ?_⟩
    walk_at "wp"
    have ha1 := k1 _ _ hab ha
    have p1 := hp.keep (hb.ks k1).tk
    refine Wp.cut (fun σ' H' => σ' = [some (.ref b), some (.ref a), some (.int way), none] ∧ Ww.Well H' b (n + 1) ∧ Kp b H H') ?_ ?_
    · walk_at "wp"
      refine ite_ (fun c => ?_) (fun c => ?_)
      · walk_at "wp"
        rename_i r hr0
        have k2 : Same H1 (upd H1 r (.lst [])) := same_new hr0
        refine ⟨_, _, p1.keep (Same.tk k2) |>.dp (SqL.of (k2 _ _ ha1)), .lst (SqL.of upd_same) .nil, Wq.wDs_shaped wk, by decide, ?_⟩
        rw [eqv_nil]
        have hb2 := hb1.keep k2
        walk_at "wp"
        refine iteN (fun e => ?_) (fun e => ?_)
        · walk_at "wp"
          refine ⟨b, n + 1, _, rfl, hb2, by omega, ?_, ?_, fun i H3 i0 i1 hb3 k3 => ?_⟩
          · have : ws ≠ [] := fun z => e (by rw [z]; rfl)
            have := List.length_pos_iff.mpr this
            rw [hp.len]; omega
          · rw [hp.len]; omega
          · have p3 := (p1.keep (Same.tk k2)).keep (hb2.ks k3).tk
            have ha3 := k3 _ _ hab (k2 _ _ ha1)
            obtain ⟨v, z, hv, hz, wz⟩ := p3.at (i := i.toNat) (by rw [hp.len] at i1; omega)
            refine ixL (SqL.of ha3) (show atI xs i = some v from ?_) ?_
            · exact atI_of (by omega) hv
            · exact q _ z _ wz (.inl (List.mem_of_getElem? hz)) (hb3.mono (by omega)) (Kp.trans k1 (Kp.trans (Kp.new hr0) k3))
        · walk_at "wp"
          exact ⟨rfl, hb2, Kp.trans k1 (Kp.new hr0)⟩
      · walk_at "wp"
        exact ⟨rfl, hb1, k1⟩
    · rintro σ' H2 ⟨rfl, hb2, k2⟩
      walk_at "wp"
      rename_i r hr0
      have hb2' := hb2.keep (same_new (o := .lst [V.int 4, V.int (10 ^ Int.toNat 30)]) hr0)
      have k2' : Kp b H (upd H2 r (.lst [V.int 4, V.int (10 ^ Int.toNat 30)])) := Kp.trans k2 (Kp.new hr0)
      refine ⟨b, n + 1, _, rfl, hb2', by omega, by omega, by omega, fun i H3 i0 i1 hb3 k3 => ?_⟩
      have hr3 : H3 r = some (.lst [V.int 4, V.int (10 ^ Int.toNat 30)]) := k3 _ _ (hb2.ne_new hr0) upd_same
      obtain ⟨m, hm, m0, m1⟩ : ∃ m : Int, atI [V.int 4, V.int (10 ^ Int.toNat 30)] i = some (.int m) ∧ 0 < m ∧ m < 2 ^ 240 := by
        have : i = 0 ∨ i = 1 := by omega
        rcases this with rfl | rfl
        · exact ⟨_, rfl, by decide, by decide⟩
        · exact ⟨_, rfl, by decide, by decide⟩
      refine ixL (SqL.of hr3) hm ?_
      walk_at "wp"
      refine ⟨b, n + 2, _, rfl, hb3, by omega, m0, m1, fun j H4 j0 j1 hb4 k4 => ?_⟩
      walk_at "wp"
      refine ite_ (fun c => ?_) (fun c => ?_)
      · walk_at "wp"
        rename_i t ht
        exact q _ (Str.ofString "at", j) _ ⟨t, rfl, upd_same⟩ (.inr (.inl ⟨rfl, j0⟩)) ((hb4.keep (same_new ht)).mono (by omega)) (Kp.trans k2' (Kp.trans k3 (Kp.trans k4 (Kp.new ht))))
      · walk_at "wp"
        refine ⟨b, n + 3, _, rfl, hb4, by omega, by omega, by omega, fun u H5 u0 u1 hb5 k5 => ?_⟩
        walk_at "wp"
        rename_i t ht
        exact q _ (Str.ofString "num", _) _ ⟨t, rfl, upd_same⟩ (.inr (.inr rfl)) ((hb5.keep (same_new ht)).mono (by omega)) (Kp.trans k2' (Kp.trans k3 (Kp.trans k4 (Kp.trans k5 (Kp.new ht)))))

theorem sum_ones : ∀ ys : List Str, (∀ y ∈ ys, y.length = 1) → (ys.map (·.length)).sum = ys.length
  | [], _ => rfl
  | y :: ys, h => by
    rw [List.map_cons, List.sum_cons, h y (by simp), sum_ones ys fun z hz => h z (List.mem_cons_of_mem _ hz), List.length_cons]
    omega
def spName : Sp := fun vs H Q _ => ∃ (b : Addr) (n : Nat) (last : Str), vs = [.ref b, .str last] ∧ Ww.Well H b n ∧ n < 900000 ∧ Wu.Nm last ∧ ∀ v H', Wu.Nm v → 1 ≤ v.length → Ww.Well H' b (n + 12) → Kp b H H' → Q (.str v) H'
theorem ok_name (T : Txt P w K mg) : FnOk P w K mg base CX0 3 T.f_name T.fd_name ["well", "last"] spName := by
  have G_draw := ok_draw (base := base) T
  refine T.F_name.ok sc_name (fun vs H Q E h => ?_) (fun cdv A outer s H vs Q E hr h => ?_)
  · obtain ⟨b, n, last, rfl, _⟩ := h
    rfl
  · obtain ⟨b, n, last, rfl, hb, hn, ⟨low, l8⟩, q⟩ := h
    refine ⟨_, (pss_cons (ps_set (i := 2) sc_name.nd rfl (.inr rfl) pe_str)
      (pss_cons (ps_set (i := 3) sc_name.nd rfl (.inl rfl) (pe_call G_draw (hr.mono (by decide)) (by rfl) T.g_draw T.F_draw.kp T.b_draw .nil pass0 (pa_cons (pv 0) (pa_cons pe_int pa_nil))))
      (pss_cons (ps_set (i := 4) sc_name.nd rfl (.inl rfl) (pe_ix ix_str (pv 2) (pe_call G_draw (hr.mono (by decide)) (by rfl) T.g_draw T.F_draw.kp T.b_draw .nil pass0 (pa_cons (pv 0) (pa_cons pe_int pa_nil))) (fun _ _ => rfl)))
      (C8.pss_cut (ps_if (PW.pt (pw_and (pt_cmpR op_eq (pv 3) pe_int (nomark _)) (pw_and1 (pt_chain op_lt op_lt pe_int (pe_callB call_len_str (by rfl) T.n_len (by decide +kernel) (pa_cons (pv 1) pa_nil)) pe_int)))) (pss_one (ps_ret (pe_op op_add_str (pv 1) (pv 4)))) pss_nil)
      (C8.pss_cut (ps_if (PW.pt (pw_and (pt_cmpR op_eq (pv 3) pe_int (nomark _)) (pw_and1 (pt_cmpR op_ne (pv 1) pe_str (nomark _))))) (pss_cons (ps_set (i := 5) sc_name.nd rfl (.inl rfl) (pe_call G_draw (hr.mono (by decide)) (by rfl) T.g_draw T.F_draw.kp T.b_draw .nil pass0 (pa_cons (pv 0) (pa_cons (pe_callB call_len_str (by rfl) T.n_len (by decide +kernel) (pa_cons (pv 1) pa_nil)) pa_nil))))
      (pss_one (ps_ret (pe_op op_add_str (pe_op op_add_str (pe_slice sl_str (pv 1) po_none (po_some (pv 5))) (pv 4)) (pe_slice sl_str (pv 1) (po_some (pe_op op_add (pv 5) pe_int)) po_none))))) pss_nil)
      (pss_one (ps_ret (pe_join pe_str (pe_lc (own := [("k", 6)]) rfl sc_name.nd (pi_range1 (by rfl) T.n_range (pa_cons (pe_op op_add pe_int (pe_call G_draw (hr.mono (by decide)) (by rfl) T.g_draw T.F_draw.kp T.b_draw .nil pass0 (pa_cons (pv 0) (pa_cons pe_int pa_nil)))) pa_nil)) (blkOk_by (N := ["well", "last", "letters", "way", "letter", "at", "k"]) (sc := defScope s_name) (by decide +kernel)) (fun _ _ _ _ _ => pg_name (i := 6) sc_name.nd rfl (Or.inl rfl)) (fun _ _ _ _ _ => pts_nil) (fun _ _ _ _ _ => (pe_ix ix_str (pv 2) (pe_call G_draw (hr.mono (by decide)) (by rfl) T.g_draw T.F_draw.kp T.b_draw .nil pass0 (pa_cons (pv 0) (pa_cons pe_int pa_nil))) (fun _ _ => rfl)))))))))))), ?_⟩
    rw [show L2.start ["well", "last", "letters", "way", "letter", "at", "k"] [.ref b, .str last] = [some (.ref b), some (.str last), none, none, none, none, none] from rfl]
    try dsimp only [cxOf]
    walk_at "wp"
    refine ⟨b, n, _, rfl, hb, by omega, by omega, by omega, fun way H1 w0 w1 hb1 k1 => ?_⟩
    walk_at "wp"
    refine ⟨b, n + 1, _, rfl, hb1, by omega, by omega, by omega, fun i H2 i0 i1 hb2 k2 => ?_⟩
    have ll : (Str.ofString "abcdefghijklmnopqrstuvwxyz").length = 26 := Wu.letters_len
    refine Wu.ixS_low Wu.letters_low (by rw [ll]; decide) i0 (by rw [ll]; exact i1) fun c lc => ?_
    walk_at "wp"
    have k12 := Kp.trans k1 k2
    have len1 : (⟨#[c]⟩ : Str).length = 1 := rfl
    refine Wp.cut (fun σ' H' => σ' = [some (.ref b), some (.str last), some (.str Wu.letters), some (.int way), some (.str ⟨#[c]⟩), none, none] ∧ H' = H2) ?_ ?_
    · walk_at "wp"
      refine ite_ (fun e => ?_) (fun e => ?_)
      · walk_at "wp"
        refine ⟨Nat.le_trans l8 (by decide), ?_⟩
        walk_at "wp"
        refine ite_ (fun e1 => ?_) (fun e1 => ?_)
        · walk_at "wp"
          refine ite_ (fun e2 => ?_) (fun e2 => ?_)
          · walk_at "wp"
            refine ⟨by have : 9 ≤ sizeLine := by decide
                       omega, ?_⟩
            refine q _ _ ⟨low.app lc, ?_⟩ ?_ (hb2.mono (by omega)) k12
            · rw [Wp.app_len, len1]; omega
            · rw [Wp.app_len, len1]; omega
          · walk_at "wp"
            exact ⟨rfl, rfl⟩
        · walk_at "wp"
          exact ⟨rfl, rfl⟩
      · walk_at "wp"
        exact ⟨rfl, rfl⟩
    · rintro σ' H3 ⟨rfl, rfl⟩
      refine Wp.cut (fun σ' H' => ∃ y, σ' = [some (.ref b), some (.str last), some (.str Wu.letters), some (.int way), some (.str ⟨#[c]⟩), y, none] ∧ H' = H3) ?_ ?_
      · walk_at "wp"
        refine ite_ (fun e => ?_) (fun e => ?_)
        · walk_at "wp"
          refine iteN (fun e1 => ?_) (fun e1 => ?_)
          · walk_at "wp"
            refine ⟨Nat.le_trans l8 (by decide), ?_⟩
            have lp : 1 ≤ last.length := by
              refine Nat.pos_of_ne_zero fun z => e1 ?_
              have : last.cps = #[] := Array.eq_empty_of_size_eq_zero z
              have e0 : (Str.ofString "") = ⟨#[]⟩ := by decide +kernel
              rw [e0]
              exact congrArg V.str (congrArg Str.mk this)
            refine ⟨b, n + 2, _, rfl, hb2, by omega, by omega, by omega, fun m H5 m0 m1 hb5 k5 => ?_⟩
            walk_at "wp"
            obtain ⟨u, rfl⟩ : ∃ u : Nat, m = u := ⟨m.toNat, (Int.toNat_of_nonneg m0).symm⟩
            have c1 := Wu.cut_lo (z := last) (n := u) (by omega)
            have c2 := Wu.cut_hi (z := last) (n := u + 1) (by omega)
            refine ⟨last, rfl, Nat.le_trans l8 (by decide), ?_⟩
            walk_at "wp"
            refine ⟨by rw [c1, len1]; have : 9 ≤ sizeLine := by decide
                       omega, ?_⟩
            have ec : ((u : Int) + 1) = ((u + 1 : Nat) : Int) := rfl
            walk_at "wp"
            refine ⟨last, rfl, Nat.le_trans l8 (by decide), ?_⟩
            rw [ec]
            refine ⟨_, _, rfl, rfl, ?_, ?_⟩
            · rw [Wp.app_len, c1, c2, len1]
              have : 9 ≤ sizeLine := by decide
              omega
            · refine q _ _ ⟨((Wu.Low.cut low).app lc).app (Wu.Low.cut low), ?_⟩ ?_ (hb5.mono (by omega)) (Kp.trans k12 k5)
              · rw [Wp.app_len, Wp.app_len, c1, c2, len1]; omega
              · rw [Wp.app_len, Wp.app_len, c1, c2, len1]; omega
          · walk_at "wp"
            rfl
        · walk_at "wp"
          rfl
      · rintro σ' H4 ⟨y, rfl, rfl⟩
        walk_at "wp"
        refine ⟨b, n + 2, _, rfl, hb2, by omega, by omega, by omega, fun m H5 m0 m1 hb5 k5 => ?_⟩
        walk_at "wp"
        refine ⟨by omega, by omega, fun D hD => ?_⟩
        refine loopCR (fun j H' => Ww.Well H' b (n + 3 + j) ∧ Kp b H5 H' ∧ ∃ ys : List Str, H' D = some (.lst (ys.map V.str)) ∧ ys.length = j ∧ ∀ y ∈ ys, Wu.Low y ∧ y.length = 1) ⟨hb5.keep (same_new hD), Kp.new hD, [], upd_same, rfl, (fun _ h => nomatch h)⟩ ?_ ?_
        · rintro j H6 hj ⟨hb6, k6, ys, hD6, yl, yk⟩
          walk_at "wp"
          refine ⟨b, n + 3 + j, _, rfl, hb6, by omega, by omega, by omega, fun i2 H7 i20 i21 hb7 k7 => ?_⟩
          have hD7 := k7 _ _ (hb5.ne_new hD) hD6
          refine Wu.ixS_low Wu.letters_low (by show Wu.letters.length ≤ _; rw [Wu.letters_len]; decide) i20 (by rw [Wu.letters_len]; exact i21) fun c2 lc2 => ?_
          refine ⟨_, hD7, ?_, (hb7.mono (by omega)).upd (hb5.ne_new hD), (Kp.trans k6 k7).updNew hD, ys ++ [⟨#[c2]⟩], ?_, ?_, ?_⟩
          · rw [List.length_map, yl]
            have : 9 ≤ sizeLine := by decide
            omega
          · rw [upd_same, List.map_append]; rfl
          · rw [List.length_append, yl]; rfl
          · intro z hz
            rcases List.mem_append.mp hz with hz | hz
            · exact yk z hz
            · rw [List.mem_singleton.mp hz]; exact ⟨lc2, rfl⟩
        · rintro H6 ⟨hb6, k6, ys, hD6, yl, yk⟩
          obtain ⟨jl, jn⟩ := Wu.join_low yk
          refine ⟨_, D, ys, rfl, rfl, .inl (SqL.of hD6), ?_, ?_⟩
          · rw [sum_ones ys fun y hy => (yk y hy).2, yl]
            have : (Str.ofString "").length = 0 := by decide +kernel
            rw [this]
            omega
          · exact q _ _ ⟨jl, by omega⟩ (by omega) (hb6.mono (by omega)) (Kp.trans k12 (Kp.trans k5 k6))

end
end K15

namespace K15
open PySem PySem.Spec PyProof.Rows L2 Wp Wq Wr Wpm
local macro_rules | `(tactic| walk_at "ne") => `(tactic| first
  | assumption
  | (refine Ne.symm ?_; assumption)
  | exact ne_of_none (by assumption) (by assumption)
  | exact (ne_of_none (by assumption) (by assumption)).symm
  | exact ne_of (by assumption) (by assumption) (by intro q; cases q))
local macro_rules | `(tactic| walk_at "hp") => `(tactic| first
  | assumption
  | exact upd_same
  | (refine (upd_ne ?_).trans ?_; (walk_at "ne"); (walk_at "hp")))
local macro_rules | `(tactic| walk_at "hq") => `(tactic| first
  | assumption
  | exact upd_same
  | (refine same_new (by assumption) _ _ ?_; (walk_at "hq"))
  | (refine Wp.look (by assumption) ?_; (walk_at "hq")))
local macro_rules | `(tactic| walk_at "sm") => `(tactic| first
  | assumption
  | exact fun _ _ h => h
  | exact same_new (by assumption)
  | (refine Same.trans ?_ (same_new (by assumption)); (walk_at "sm"))
  | (refine Same.trans ?_ (by assumption); (walk_at "sm")))
local macro_rules | `(tactic| walk_at "kp") => `(tactic| first
  | assumption
  | exact Kp.refl _ _
  | (refine Kp.trans ?_ (Kp.new (by assumption)); (walk_at "kp"))
  | (refine Kp.trans ?_ (Same.kp (by assumption)); (walk_at "kp"))
  | (refine Wp.kpT ?_ (by assumption); (walk_at "kp"))
  | exact Same.kp (by walk_at "sm"))
local macro_rules | `(tactic| walk_at "sq") => `(tactic| first
  | assumption
  | exact SqL.of (by walk_at "hp")
  | exact SqT.of (by walk_at "hp"))
local macro_rules | `(tactic| walk_at "kind") => `(tactic| first
  | assumption
  | exact Kind.int _
  | exact Kind.str _
  | exact Kind.bl _
  | exact Kind.non
  | exact Kind.tup (by walk_at "hp")
  | exact Kind.lst (by walk_at "hp")
  | exact Kind.dK (by walk_at "hp"))
local macro_rules | `(tactic| walk_at "w1") => `(tactic| first
  | (with_reducible refine Wp.seq ?_)
  | (with_reducible refine Wp.nx_mk ?_)
  | (with_reducible refine Wp.rt_mk ?_)
  | (with_reducible refine Wp.bk_mk ?_)
  | (with_reducible refine Wp.ct_mk ?_)
  | (with_reducible refine Wp.next ?_)
  | (with_reducible refine Wp.asg ?_)
  | ((with_reducible refine' Wp.gname ?e ?_); (case e => (try dsimp only [List.set, L2.wipe, List.map_cons, List.map_nil]); (try exact rfl)))
  | (with_reducible refine Wp.gsub ?_)
  | (with_reducible refine Wp.ret ?_)
  | (with_reducible refine Wp.retN ?_)
  | (with_reducible refine Wp.drop ?_)
  | (with_reducible refine Wp.dput ?_)
  | (with_reducible refine Wp.ifs ?_)
  | ((with_reducible refine' Wp.var ?h ?_); (case h => exact rfl))
  | (with_reducible refine Wp.con ?_)
  | (with_reducible refine Wp.op ?_)
  | (with_reducible refine Wp.un ?_)
  | (with_reducible refine Wp.cb ?_)
  | (with_reducible refine Wp.anil ?_)
  | (with_reducible refine Wp.acons ?_)
  | (with_reducible refine Wp.call ?_)
  | (with_reducible refine Wp.test ?_)
  | (with_reducible refine Wp.tb_ ?_)
  | (with_reducible refine Wp.and_ ?_)
  | (with_reducible refine Wp.or_ ?_)
  | (with_reducible refine Wp.not_ ?_)
  | (with_reducible refine Wp.andV ?_)
  | (with_reducible refine Wp.orV ?_)
  | (with_reducible refine Wp.notV ?_)
  | (with_reducible refine Wp.rI0_ ?_)
  | (with_reducible refine Wp.rU_ ?_)
  | ((with_reducible refine Wp.rEq_ ?k ?_); (case k => exact rfl))
  | ((with_reducible refine Wp.rNe_ ?k ?_); (case k => exact rfl))
  | (with_reducible refine Wp.gcons ?_)
  | (with_reducible refine Wp.gnil ?_)
  | ((with_reducible refine' Wp.gtup ?h ?e ?_); (case h => walk_at "sq"); (case e => exact rfl))
  | (with_reducible refine Wp.sl ?_)
  | (with_reducible refine Wp.part ?_)
  | (with_reducible refine Wp.nopart ?_)
  | (with_reducible refine Wp.ifE ?_)
  | (with_reducible refine Wp.bm0 ?_)
  | (with_reducible refine Wp.bm ?_)
  | (with_reducible refine Wp.lcR1 ?_)
  | (with_reducible refine Wp.lcR2 ?_)
  | (with_reducible refine Wp.lcL ?_)
  | (with_reducible refine Wp.chain ?_)
  | (with_reducible refine Wp.lc2V ?_)
  | (with_reducible refine Wp.piL ?_)
  | (with_reducible refine Wp.yes ?_)
  | (with_reducible refine Wp.dinI ?_)
  | (with_reducible refine Wp.dninI ?_)
  | (with_reducible refine Wp.dget ?_)
  | ((with_reducible refine' ⟨?k, ?_⟩); (case k => show L2.wipe _ _ = L2.wipe _ _; exact rfl))
  | ((with_reducible refine' ⟨?k, ?_⟩); (case k => show V.non = V.non; exact rfl))
  | (with_reducible refine Wp.forR1 ?_)
  | (with_reducible refine Wp.forR2 ?_)
  | (with_reducible refine Wp.forL ?_)
  | (with_reducible refine Wp.forT ?_)
  | ((with_reducible refine' ⟨?k, ?_⟩); (case k => exact Wp.tyvL (by walk_at "hp")))
  | ((with_reducible refine' Wp.rev_ ?k ?_); (case k => walk_at "hp"))
  | ((with_reducible refine' Wp.isi ?k ?h ?_); (case k => walk_at "kind"); (case h => decide))
  | ((with_reducible refine' Wp.typ ?k ?_); (case k => walk_at "kind"))
  | (with_reducible refine Wp.slS ?k ?_; (case k => assumption))
  | (with_reducible refine iteT ?_)
  | (with_reducible refine iteF ?_)
  | (with_reducible refine Wtc.dcL ?_)
  | (with_reducible refine Wst.step ?_)
  | (with_reducible refine Wtc.dget2 ?_)
  | (with_reducible refine Wtc.lcZ ?_)
  | (with_reducible refine Wrw.loop_setLc ?_)
  | (with_reducible refine Wz.par ?_)
  | (with_reducible refine Wz.forN ?_)
  | (with_reducible refine Wz.dcL ?_)
  | (with_reducible refine Wz.forZ ?_)
  | (with_reducible refine Wz.lcR3 ?_)
  | (with_reducible refine Wc.revL ?_)
  | (with_reducible refine Wd.nm ?_)
  | (with_reducible refine Wd.nget ?_)
  | ((with_reducible refine Wd.tnew ?_); intro p hp)
  | (with_reducible refine Wd.pikn ?_)
  | (with_reducible refine Wt.m1 ?_)
  | (with_reducible refine Wt.m0 ?_)
  | ((with_reducible refine' ⟨?k, ?_⟩); (case k => show ∃ a, _ = V.str a; exact ⟨_, rfl⟩))
  | (with_reducible refine Wt.js_cons ?_)
  | (with_reducible refine Wt.fmt_ ?_)
  | (with_reducible refine Wp.pcons ?_)
  | (with_reducible refine Wp.pnil ?_)
  | ((with_reducible refine' Wp.iteBnT ?h ?_); (case h => show isB _ _ = false; decide))
  | ((with_reducible refine' Wp.iteBnF ?h ?_); (case h => show isB _ _ = true; decide))
  | ((with_reducible refine' Wp.iteBt ?h ?_); (case h => show isB _ _ = true; decide))
  | ((with_reducible refine' Wp.iteBf ?h ?_); (case h => show isB _ _ = false; decide))
  | (with_reducible refine Wp.iteT' ?_)
  | (with_reducible refine Wp.iteF' ?_)
  | (with_reducible refine Wp.rNT_ ?_)
  | ((with_reducible refine Wp.lst ?_))
  | ((with_reducible refine Wp.tup ?_))
  | ((with_reducible refine' Wp.ixL ?h ?e ?_); (case h => walk_at "sq"); (case e => exact rfl))
  | ((with_reducible refine' Wp.ixT ?h ?e ?_); (case h => walk_at "sq"); (case e => exact rfl))
  | ((with_reducible refine' Wp.setL ?h ?e ?_); (case h => walk_at "hp"); (case e => exact rfl))
  | ((with_reducible refine Wp.rI_ ?k ?_); (case k => first | (show (0:Int) < _; omega) | (show CPow _ _; refine' ⟨?_, ?_, ?_⟩ <;> omega) | (show CDiv _ _; refine' ⟨?_, ?_⟩ <;> omega) | (show CMul _ _; refine' Or.inl ⟨?_, ?_⟩ <;> omega) | (show CMul _ _; refine' Or.inr ⟨?_, ?_⟩ <;> first | omega | decide) | (show CDivW _ _; refine' wide_div (b := 240) ?_ ?_ ?_ ?_ <;> first | omega | decide)))
  | ((with_reducible refine ⟨?k, ?_⟩); (case k => first | exact Nat.zero_le _ | (exact Nat.le_of_ble_eq_true rfl)); intro p hp)
  | ((with_reducible refine' ⟨_, _, rfl, .inl ?k, ?_⟩); (case k => walk_at "sq"))
  | ((with_reducible refine' ⟨_, _, rfl, .inr ?k, ?_⟩); (case k => walk_at "sq"))
  | (with_reducible refine ⟨_, rfl, ?_⟩)
  | (with_reducible refine ⟨_, _, rfl, rfl, ?_⟩)
  | (with_reducible refine ⟨_, _, rfl, ?_⟩))
local macro_rules | `(tactic| walk_at "wp") => `(tactic| repeat (walk_at "w1"))

section
variable {P : Program} {w : World} {K : PySem.W.Frag} {mg : Str → Option Value} {base : Heap}
def spNumbered : Sp := fun vs H Q _ => ∃ (a : Addr) (n : Nat) (bs : List Addr), vs = [.ref a] ∧ H a = some (.lst (bs.map V.ref)) ∧ a ∉ bs ∧ Wells H bs n ∧ n < 800000 ∧ bs.length ≤ 1000 ∧
  ∀ r H' vs ws, H r = none → H' r = some (.lst vs) → Pile H' vs ws → ws.length = bs.length → Named ws → Wells H' bs (n + 4 * bs.length) → Ks bs H H' → Q (.ref r) H'
theorem ok_numbered (T : Txt P w K mg) : FnOk P w K mg base CX0 3 T.f_numbered T.fd_numbered ["wells"] spNumbered := by
  have G_draw := ok_draw (base := base) T
  refine T.F_numbered.ok sc_numbered (fun vs H Q E h => ?_) (fun cdv A outer s H vs Q E hr h => ?_)
  · obtain ⟨a, n, bs, rfl, _⟩ := h
    rfl
  · obtain ⟨a, n, bs, rfl, ha, hab, hb, hn, hl, q⟩ := h
    refine ⟨_, (pss_cons (ps_set (i := 1) sc_numbered.nd rfl (.inl rfl) (pe_disp (pps_cons pe_str (pe_un un_neg pe_int) (pps_cons pe_str (pe_un un_neg pe_int) pps_nil)) (by rfl) (by rfl) (fun z => by cases z) (by decide)))
      (pss_cons (ps_set (i := 2) sc_numbered.nd rfl (.inl rfl) (pe_lst pa_nil))
      (pss_cons (ps_for PassesOwn.never rfl (pi_range1 (by rfl) T.n_range (pa_cons (pe_callB call_len_seq (by rfl) T.n_len (by decide +kernel) (pa_cons (pv 0) pa_nil)) pa_nil)) (pg_name (i := 3) sc_numbered.nd rfl (.inl rfl)) (pss_cons (ps_set (i := 4) sc_numbered.nd rfl (.inl rfl) (pe_ix ix_list (pe_lst (pa_cons pe_str (pa_cons pe_str pa_nil))) (pe_call G_draw (hr.mono (by decide)) (by rfl) T.g_draw T.F_draw.kp T.b_draw .nil pass0 (pa_cons (pe_ix ix_list (pv 0) (pv 3) (fun _ _ => rfl)) (pa_cons pe_int pa_nil))) (fun _ _ => rfl)))
      (pss_cons (ps_set (i := 5) sc_numbered.nd rfl (.inl rfl) (pe_call G_draw (hr.mono (by decide)) (by rfl) T.g_draw T.F_draw.kp T.b_draw .nil pass0 (pa_cons (pe_ix ix_list (pv 0) (pv 3) (fun _ _ => rfl)) (pa_cons pe_int pa_nil))))
      (pss_cons (ps_set (i := 6) sc_numbered.nd rfl (.inl rfl) pe_int)
      (C8.pss_cut (ps_if (pt_cmpR op_gt (pv 5) pe_int (nomark _)) (pss_one (ps_set (i := 6) sc_numbered.nd rfl (.inl rfl) (pe_call G_draw (hr.mono (by decide)) (by rfl) T.g_draw T.F_draw.kp T.b_draw .nil pass0 (pa_cons (pe_ix ix_list (pv 0) (pv 3) (fun _ _ => rfl)) (pa_cons (pe_ix ix_list (pe_lst (pa_cons pe_int (pa_cons (pe_op op_pow pe_int pe_int) pa_nil))) (pe_op op_sub (pv 5) pe_int) (fun _ _ => rfl)) pa_nil))))) pss_nil)
      (pss_cons (ps_dput (hu_of hr) (pv 1) (pv 4) (pe_op op_add (pe_op op_add (pe_dget (hu_of hr) (pv 1) (pv 4) (fun _ _ => rfl)) pe_int) (pv 6)) rfl)
      (pss_one (ps_expr (pe_bm PySem.F.plainAttrs_list PySem.F.slot_list_append PySem.F.type_list_append mt_append (pv 2) (pa_cons (pe_tup (pa_cons (pv 4) (pa_cons (pe_dget (hu_of hr) (pv 1) (pv 4) (fun _ _ => rfl)) pa_nil))) pa_nil))))))))))
      (pss_one (ps_ret (pv 2)))))), ?_⟩
    rw [show L2.start ["wells", "last", "found", "k", "word", "wide", "gap"] [.ref a] = [some (.ref a), none, none, none, none, none, none] from rfl]
    try dsimp only [cxOf]
    walk_at "wp"
    intro d hd
    dsimp only [tPairs]
    walk_at "wp"
    refine ⟨upd_same, LastD fun _ => -1, rfl, by decide, ?_⟩
    have em : mergeK [] (LastD fun _ => -1) = LastD fun _ => -1 := by
      have n1 : ¬ (Sum.inr sBox : Key) = Sum.inr sGo := fun e => box_go (Sum.inr.inj e)
      simp [mergeK, putK, LastD, n1]
    rw [em]
    have s1 : Same H (upd (upd H d (.dK [])) d (.dK (LastD fun _ => -1))) := fun x o e => by
      rw [upd_ne (ne_of_none e hd), upd_ne (ne_of_none e hd)]; exact e
    have hd1 : upd (upd H d (.dK [])) d (.dK (LastD fun _ => -1)) d = some (.dK (LastD fun _ => -1)) := upd_same
    generalize upd (upd H d (.dK [])) d (.dK (LastD fun _ => -1)) = H1 at s1 hd1
    have ha1 := s1 _ _ ha
    have hb1 := hb.keep s1
    walk_at "wp"
    rename_i r hr0
    have s2 : Same H1 (upd H1 r (.lst [])) := same_new hr0
    have dr : d ≠ r := ne_of_none hd1 hr0
    have hdH : d ∉ bs := fun q => by
      obtain ⟨x, y, z, h1, _⟩ := hb d q
      rw [h1] at hd; cases hd
    have hrH : r ∉ bs := fun q => by
      obtain ⟨x, y, z, h1, _⟩ := hb1 r q
      rw [h1] at hr0; cases hr0
    have har : a ≠ r := ne_of_none ha1 hr0
    have had : a ≠ d := ne_of_none ha hd
    rw [List.length_map]
    refine ⟨by omega, by omega, ?_⟩
    rw [Int.toNat_natCast]
    refine loopR (fun i σ H' => ∃ (g : Str → Int) (acc : List V) (ws : List W) (y3 y4 y5 y6 : Option V), σ = [some (.ref a), some (.ref d), some (.ref r), y3, y4, y5, y6] ∧ H' d = some (.dK (LastD g)) ∧ H' r = some (.lst acc) ∧ Pile H' acc ws ∧ ws.length = i ∧ Named ws ∧ (∀ u, -1 ≤ g u) ∧ (∀ z ∈ ws, z.2 ≤ g z.1) ∧ Wells H' bs (n + 4 * i) ∧ Ks (d :: r :: bs) (upd H1 r (.lst [])) H')
      ⟨_, [], [], _, _, _, _, rfl, s2 _ _ hd1, upd_same, Pile.nil, rfl, ⟨(fun _ h => nomatch h), .nil⟩, (fun _ => Int.le_refl _), (fun _ h => nomatch h), hb1.keep s2, Ks.refl⟩ ?_ ?_
    · rintro i σ H3 hi ⟨g, acc, ws, y3, y4, y5, y6, rfl, hd3, hr3, p3, wl, wn, g1, gl, hb3, k3⟩
      have ha3 : H3 a = some (.lst (bs.map V.ref)) := k3.keep _ _ (by simp [had, har, hab]) (s2 _ _ ha1)
      have hi' : i < bs.length := hi
      obtain ⟨b, hbi⟩ : ∃ b, bs[i]? = some b := ⟨_, List.getElem?_eq_getElem hi'⟩
      have bm : b ∈ bs := List.mem_of_getElem? hbi
      have hx : ∀ j : Int, j = i → atI (bs.map V.ref) j = some (.ref b) := fun j e => atI_of e (by rw [List.getElem?_map, hbi]; rfl)
      have nb : b ≠ d := fun e => hdH (e ▸ bm)
      have nr : b ≠ r := fun e => hrH (e ▸ bm)
      have na : a ≠ b := fun e => hab (e ▸ bm)
      walk_at "wp"
      rename_i p hp
      have s4 : Same H3 (upd H3 p (.lst [.str (Str.ofString "box"), .str (Str.ofString "go")])) := same_new hp
      have hb3' := (hb3 b bm).keep s4
      have k4 : Ks (d :: r :: bs) (upd H1 r (.lst [])) (upd H3 p (.lst [.str (Str.ofString "box"), .str (Str.ofString "go")])) := k3.trans (Ks.same s4)
      have hd4 := s4 _ _ hd3
      have hr4 := s4 _ _ hr3
      have ha4 := s4 _ _ ha3
      have p4 := p3.keep (Same.tk s4)
      have hbs4 := hb3.keep s4
      have hp4 : upd H3 p (.lst [.str (Str.ofString "box"), .str (Str.ofString "go")]) p = some (.lst [.str (Str.ofString "box"), .str (Str.ofString "go")]) := upd_same
      have bp : b ≠ p := fun e => by
        obtain ⟨x, y, z, h1, _⟩ := hb3 b bm
        rw [e, hp] at h1; cases h1
      generalize upd H3 p (.lst [.str (Str.ofString "box"), .str (Str.ofString "go")]) = H4 at hb3' k4 hd4 hr4 ha4 p4 hp4 hbs4
      refine ixL (SqL.of ha4) (hx _ (by omega)) ?_
      walk_at "wp"
      refine ⟨b, n + 4 * i, _, rfl, hb3', by omega, by omega, by omega, fun wi H5 w0 w1 hb5 k5 => ?_⟩
      obtain ⟨wd, hwd, hw⟩ : ∃ wd : Str, atI [V.str sBox, V.str sGo] wi = some (V.str wd) ∧ (wd = sBox ∨ wd = sGo) := by
        have : wi = 0 ∨ wi = 1 := by omega
        rcases this with rfl | rfl
        · exact ⟨_, rfl, .inl rfl⟩
        · exact ⟨_, rfl, .inr rfl⟩
      refine ixL (SqL.of (k5 _ _ bp.symm hp4)) hwd ?_
      have ha5 := k5 _ _ na ha4
      walk_at "wp"
      refine ixL (SqL.of ha5) (hx _ (by omega)) ?_
      walk_at "wp"
      refine ⟨b, n + 4 * i + 1, _, rfl, hb5, by omega, by omega, by omega, fun wide H6 w20 w21 hb6 k6 => ?_⟩
      have ha6 := k6 _ _ na ha5
      have k46 : Kp b H4 H6 := Kp.trans k5 k6
      walk_at "wp"
      refine Wp.cut (fun σ' H' => ∃ gap : Int, 0 ≤ gap ∧ σ' = [some (.ref a), some (.ref d), some (.ref r), some (.int (0 + i)), some (.str wd), some (.int wide), some (.int gap)] ∧ Ww.Well H' b (n + 4 * (i + 1)) ∧ Kp b H4 H') ?_ ?_
      · walk_at "wp"
        refine ite_ (fun e => ?_) (fun e => ?_)
        · walk_at "wp"
          refine ixL (SqL.of ha6) (hx _ (by omega)) ?_
          walk_at "wp"
          rename_i p2 hp2
          have hw2 : wide = 2 ∨ wide = 3 := by omega
          obtain ⟨m, hm, m0, m1⟩ : ∃ m : Int, atI [V.int 5, V.int (10 ^ Int.toNat 30)] (wide - 2) = some (.int m) ∧ 0 < m ∧ m < 2 ^ 240 := by
            rcases hw2 with rfl | rfl
            · exact ⟨_, rfl, by decide, by decide⟩
            · exact ⟨_, rfl, by decide, by decide⟩
          refine ixL (SqL.of upd_same) hm ?_
          walk_at "wp"
          refine ⟨b, n + 4 * i + 2, _, rfl, hb6.keep (same_new hp2), by omega, m0, m1, fun gap H7 gap0 gap1 hb7 k7 => ?_⟩
          walk_at "wp"
          exact ⟨gap, gap0, rfl, hb7.mono (by omega), Kp.trans k46 (Kp.trans (Kp.new hp2) k7)⟩
        · walk_at "wp"
          exact ⟨_, Int.le_refl _, rfl, hb6.mono (by omega), k46⟩
      · rintro σ' H7 ⟨gap, gap0, rfl, hb7, k7⟩
        have hd7 := k7 _ _ nb.symm hd4
        have hr7 := k7 _ _ nr.symm hr4
        have hg := DGet.k (k := Sum.inr wd) hd7
        rw [LastD.get g hw] at hg
        walk_at "wp"
        refine ⟨d, _, rfl, hg, ?_⟩
        walk_at "wp"
        refine ⟨d, _, rfl, DPut.k (k := Sum.inr wd) hd7 (show 2 < sizeLine by decide), ?_⟩
        rw [LastD.put g hw]
        have hd8 : upd H7 d (.dK (LastD fun u => if u = wd then g wd + 1 + gap else g u)) d = some (.dK (LastD fun u => if u = wd then g wd + 1 + gap else g u)) := upd_same
        have hg8 := DGet.k (k := Sum.inr wd) hd8
        rw [LastD.get _ hw, if_pos rfl] at hg8
        walk_at "wp"
        refine ⟨d, _, rfl, hg8, ?_⟩
        have hr8 : upd H7 d (.dK (LastD fun u => if u = wd then g wd + 1 + gap else g u)) r = some (.lst acc) := by rw [upd_ne dr.symm]; exact hr7
        have wells7 : Wells H7 bs (n + 4 * (i + 1)) := hbs4.step hb7 k7 (by omega)
        have wells8 : Wells (upd H7 d (.dK (LastD fun u => if u = wd then g wd + 1 + gap else g u))) bs (n + 4 * (i + 1)) := fun c hc => (wells7 c hc).upd (fun e => hdH (e ▸ hc))
        have tk8 : Tk H7 (upd H7 d (.dK (LastD fun u => if u = wd then g wd + 1 + gap else g u))) := Tk.dK hd7
        have k8 : Ks (d :: r :: bs) H7 (upd H7 d (.dK (LastD fun u => if u = wd then g wd + 1 + gap else g u))) := ⟨fun x u nx e => by rw [upd_ne (fun q : x = d => nx (by rw [q]; exact List.mem_cons_self))]; exact e, tk8⟩
        have k47 : Ks (d :: r :: bs) H4 H7 := Ks.mono (hb3'.ks k7) (by intro x hx; rw [List.mem_singleton.mp hx]; simp [bm])
        have p8 := (p4.keep k47.tk).keep tk8
        generalize upd H7 d (.dK (LastD fun u => if u = wd then g wd + 1 + gap else g u)) = H8 at hd8 hr8 wells8 p8 k8
        walk_at "wp"
        rename_i t ht
        have st : Same H8 (upd H8 t (.tup [.str wd, .int (g wd + 1 + gap)])) := same_new ht
        refine app_ (st _ _ hr8) ?_ ?_
        · rw [p8.len, wl]
          have : 1000 < sizeLine := by decide
          omega
        · have gw := g1 wd
          refine ⟨fun u => if u = wd then g wd + 1 + gap else g u, acc ++ [.ref t], ws ++ [(wd, g wd + 1 + gap)], _, _, _, _, rfl, ?_, upd_same, ?_, ?_, ?_, ?_, ?_, ?_, ?_⟩
          · rw [upd_ne dr]; exact st _ _ hd8
          · exact ((p8.keep (Same.tk st)).app (Pile.one ⟨t, rfl, upd_same⟩)).keep (Tk.lst (st _ _ hr8))
          · rw [List.length_append, wl]; rfl
          · refine wn.app hw (by show 0 ≤ g wd + 1 + gap; omega) fun x hx e => ?_
            have := gl x hx
            have e' : x.1 = wd := e
            rw [e'] at this
            show x.2 < g wd + 1 + gap
            omega
          · intro u
            show -1 ≤ if u = wd then g wd + 1 + gap else g u
            have := g1 u
            split <;> omega
          · intro z hz
            rcases List.mem_append.mp hz with hz | hz
            · have := gl z hz
              show z.2 ≤ if z.1 = wd then g wd + 1 + gap else g z.1
              split
              · rename_i e; rw [e] at this; omega
              · exact this
            · rw [List.mem_singleton.mp hz]
              show g wd + 1 + gap ≤ if wd = wd then g wd + 1 + gap else g wd
              rw [if_pos rfl]; exact Int.le_refl _
          · exact fun c hc => ((wells8 c hc).keep st).upd (fun e => hrH (e ▸ hc))
          · exact k4.trans (k47.trans (k8.trans ((Ks.same st).trans (Ks.upd (st _ _ hr8) (by simp)))))
    · rintro σ H3 ⟨g, acc, ws, y3, y4, y5, y6, rfl, hd3, hr3, p3, wl, wn, g1, gl, hb3, k3⟩
      walk_at "wp"
      have hrN : H r = none := by
        cases e : H r with
        | none => rfl
        | some o => rw [s1 _ _ e] at hr0; cases hr0
      have s12 : Same H (upd H1 r (.lst [])) := fun x o e => s2 _ _ (s1 _ _ e)
      exact q r H3 acc ws hrN hr3 p3 wl wn hb3 (Wb.Ks.drop (Wb.Ks.drop k3 (Ks.same s12) hd) Ks.refl hrN)

end
end K15

namespace K15
open PySem PySem.Spec PyProof.Rows L2 Wp Wq Wr Wpm
local macro_rules | `(tactic| walk_at "ne") => `(tactic| first
  | assumption
  | (refine Ne.symm ?_; assumption)
  | exact ne_of_none (by assumption) (by assumption)
  | exact (ne_of_none (by assumption) (by assumption)).symm
  | exact ne_of (by assumption) (by assumption) (by intro q; cases q))
local macro_rules | `(tactic| walk_at "hp") => `(tactic| first
  | assumption
  | exact upd_same
  | (refine (upd_ne ?_).trans ?_; (walk_at "ne"); (walk_at "hp")))
local macro_rules | `(tactic| walk_at "hq") => `(tactic| first
  | assumption
  | exact upd_same
  | (refine same_new (by assumption) _ _ ?_; (walk_at "hq"))
  | (refine Wp.look (by assumption) ?_; (walk_at "hq")))
local macro_rules | `(tactic| walk_at "sm") => `(tactic| first
  | assumption
  | exact fun _ _ h => h
  | exact same_new (by assumption)
  | (refine Same.trans ?_ (same_new (by assumption)); (walk_at "sm"))
  | (refine Same.trans ?_ (by assumption); (walk_at "sm")))
local macro_rules | `(tactic| walk_at "kp") => `(tactic| first
  | assumption
  | exact Kp.refl _ _
  | (refine Kp.trans ?_ (Kp.new (by assumption)); (walk_at "kp"))
  | (refine Kp.trans ?_ (Same.kp (by assumption)); (walk_at "kp"))
  | (refine Wp.kpT ?_ (by assumption); (walk_at "kp"))
  | exact Same.kp (by walk_at "sm"))
local macro_rules | `(tactic| walk_at "sq") => `(tactic| first
  | assumption
  | exact SqL.of (by walk_at "hp")
  | exact SqT.of (by walk_at "hp"))
local macro_rules | `(tactic| walk_at "kind") => `(tactic| first
  | assumption
  | exact Kind.int _
  | exact Kind.str _
  | exact Kind.bl _
  | exact Kind.non
  | exact Kind.tup (by walk_at "hp")
  | exact Kind.lst (by walk_at "hp")
  | exact Kind.dK (by walk_at "hp"))
local macro_rules | `(tactic| walk_at "w1") => `(tactic| first
  | (with_reducible refine Wp.seq ?_)
  | (with_reducible refine Wp.nx_mk ?_)
  | (with_reducible refine Wp.rt_mk ?_)
  | (with_reducible refine Wp.bk_mk ?_)
  | (with_reducible refine Wp.ct_mk ?_)
  | (with_reducible refine Wp.next ?_)
  | (with_reducible refine Wp.asg ?_)
  | ((with_reducible refine' Wp.gname ?e ?_); (case e => (try dsimp only [List.set, L2.wipe, List.map_cons, List.map_nil]); (try exact rfl)))
  | (with_reducible refine Wp.gsub ?_)
  | (with_reducible refine Wp.ret ?_)
  | (with_reducible refine Wp.retN ?_)
  | (with_reducible refine Wp.drop ?_)
  | (with_reducible refine Wp.dput ?_)
  | (with_reducible refine Wp.ifs ?_)
  | ((with_reducible refine' Wp.var ?h ?_); (case h => exact rfl))
  | (with_reducible refine Wp.con ?_)
  | (with_reducible refine Wp.op ?_)
  | (with_reducible refine Wp.un ?_)
  | (with_reducible refine Wp.cb ?_)
  | (with_reducible refine Wp.anil ?_)
  | (with_reducible refine Wp.acons ?_)
  | (with_reducible refine Wp.call ?_)
  | (with_reducible refine Wp.test ?_)
  | (with_reducible refine Wp.tb_ ?_)
  | (with_reducible refine Wp.and_ ?_)
  | (with_reducible refine Wp.or_ ?_)
  | (with_reducible refine Wp.not_ ?_)
  | (with_reducible refine Wp.andV ?_)
  | (with_reducible refine Wp.orV ?_)
  | (with_reducible refine Wp.notV ?_)
  | (with_reducible refine Wp.rI0_ ?_)
  | (with_reducible refine Wp.rU_ ?_)
  | ((with_reducible refine Wp.rEq_ ?k ?_); (case k => exact rfl))
  | ((with_reducible refine Wp.rNe_ ?k ?_); (case k => exact rfl))
  | (with_reducible refine Wp.gcons ?_)
  | (with_reducible refine Wp.gnil ?_)
  | ((with_reducible refine' Wp.gtup ?h ?e ?_); (case h => walk_at "sq"); (case e => exact rfl))
  | (with_reducible refine Wp.sl ?_)
  | (with_reducible refine Wp.part ?_)
  | (with_reducible refine Wp.nopart ?_)
  | (with_reducible refine Wp.ifE ?_)
  | (with_reducible refine Wp.bm0 ?_)
  | (with_reducible refine Wp.bm ?_)
  | (with_reducible refine Wp.lcR1 ?_)
  | (with_reducible refine Wp.lcR2 ?_)
  | (with_reducible refine Wp.lcL ?_)
  | (with_reducible refine Wp.chain ?_)
  | (with_reducible refine Wp.lc2V ?_)
  | (with_reducible refine Wp.piL ?_)
  | (with_reducible refine Wp.yes ?_)
  | (with_reducible refine Wp.dinI ?_)
  | (with_reducible refine Wp.dninI ?_)
  | (with_reducible refine Wp.dget ?_)
  | ((with_reducible refine' ⟨?k, ?_⟩); (case k => show L2.wipe _ _ = L2.wipe _ _; exact rfl))
  | ((with_reducible refine' ⟨?k, ?_⟩); (case k => show V.non = V.non; exact rfl))
  | (with_reducible refine Wp.forR1 ?_)
  | (with_reducible refine Wp.forR2 ?_)
  | (with_reducible refine Wp.forL ?_)
  | (with_reducible refine Wp.forT ?_)
  | ((with_reducible refine' ⟨?k, ?_⟩); (case k => exact Wp.tyvL (by walk_at "hp")))
  | ((with_reducible refine' Wp.rev_ ?k ?_); (case k => walk_at "hp"))
  | ((with_reducible refine' Wp.isi ?k ?h ?_); (case k => walk_at "kind"); (case h => decide))
  | ((with_reducible refine' Wp.typ ?k ?_); (case k => walk_at "kind"))
  | (with_reducible refine Wp.slS ?k ?_; (case k => assumption))
  | (with_reducible refine iteT ?_)
  | (with_reducible refine iteF ?_)
  | (with_reducible refine Wtc.dcL ?_)
  | (with_reducible refine Wst.step ?_)
  | (with_reducible refine Wtc.dget2 ?_)
  | (with_reducible refine Wtc.lcZ ?_)
  | (with_reducible refine Wrw.loop_setLc ?_)
  | (with_reducible refine Wz.par ?_)
  | (with_reducible refine Wz.forN ?_)
  | (with_reducible refine Wz.dcL ?_)
  | (with_reducible refine Wz.forZ ?_)
  | (with_reducible refine Wz.lcR3 ?_)
  | (with_reducible refine Wc.revL ?_)
  | (with_reducible refine Wd.nm ?_)
  | (with_reducible refine Wd.nget ?_)
  | ((with_reducible refine Wd.tnew ?_); intro p hp)
  | (with_reducible refine Wd.pikn ?_)
  | (with_reducible refine Wt.m1 ?_)
  | (with_reducible refine Wt.m0 ?_)
  | ((with_reducible refine' ⟨?k, ?_⟩); (case k => show ∃ a, _ = V.str a; exact ⟨_, rfl⟩))
  | (with_reducible refine Wt.js_cons ?_)
  | (with_reducible refine Wt.fmt_ ?_)
  | (with_reducible refine Wp.pcons ?_)
  | (with_reducible refine Wp.pnil ?_)
  | ((with_reducible refine' Wp.iteBnT ?h ?_); (case h => show isB _ _ = false; decide))
  | ((with_reducible refine' Wp.iteBnF ?h ?_); (case h => show isB _ _ = true; decide))
  | ((with_reducible refine' Wp.iteBt ?h ?_); (case h => show isB _ _ = true; decide))
  | ((with_reducible refine' Wp.iteBf ?h ?_); (case h => show isB _ _ = false; decide))
  | (with_reducible refine Wp.iteT' ?_)
  | (with_reducible refine Wp.iteF' ?_)
  | (with_reducible refine Wp.rNT_ ?_)
  | ((with_reducible refine Wp.lst ?_))
  | ((with_reducible refine Wp.tup ?_))
  | ((with_reducible refine' Wp.ixL ?h ?e ?_); (case h => walk_at "sq"); (case e => exact rfl))
  | ((with_reducible refine' Wp.ixT ?h ?e ?_); (case h => walk_at "sq"); (case e => exact rfl))
  | ((with_reducible refine' Wp.setL ?h ?e ?_); (case h => walk_at "hp"); (case e => exact rfl))
  | ((with_reducible refine Wp.rI_ ?k ?_); (case k => first | (show (0:Int) < _; omega) | (show CPow _ _; refine' ⟨?_, ?_, ?_⟩ <;> omega) | (show CDiv _ _; refine' ⟨?_, ?_⟩ <;> omega) | (show CMul _ _; refine' Or.inl ⟨?_, ?_⟩ <;> omega) | (show CMul _ _; refine' Or.inr ⟨?_, ?_⟩ <;> first | omega | decide) | (show CDivW _ _; refine' wide_div (b := 240) ?_ ?_ ?_ ?_ <;> first | omega | decide)))
  | ((with_reducible refine ⟨?k, ?_⟩); (case k => first | exact Nat.zero_le _ | (exact Nat.le_of_ble_eq_true rfl)); intro p hp)
  | ((with_reducible refine' ⟨_, _, rfl, .inl ?k, ?_⟩); (case k => walk_at "sq"))
  | ((with_reducible refine' ⟨_, _, rfl, .inr ?k, ?_⟩); (case k => walk_at "sq"))
  | (with_reducible refine ⟨_, rfl, ?_⟩)
  | (with_reducible refine ⟨_, _, rfl, rfl, ?_⟩)
  | (with_reducible refine ⟨_, _, rfl, ?_⟩))
local macro_rules | `(tactic| walk_at "wp") => `(tactic| repeat (walk_at "w1"))

section
variable {P : Program} {w : World} {K : PySem.W.Frag} {mg : Str → Option Value} {base : Heap}
def spHold : Sp := fun vs H Q _ => ∃ (b pl pg hh : Addr) (n : Nat) (wh : Int) (v : V) (kvs : List (Key × V)) (hs : List Addr) (Ps : List (List W)),
  vs = [.ref b, .int wh, v, .ref pl, .ref pg, .ref hh] ∧ Ww.Well H b n ∧ n < 800000 ∧ H pg = some (.dK kvs) ∧ kvs.length < 1000000 ∧ H hh = some (.lst (hs.map V.ref)) ∧ hh ≠ b ∧ hs.length < 1000000 ∧ Lists [b] H (hs.map V.ref) Ps ∧ Wc.PsOk Ps ∧
  (∀ r ∈ pl :: hs, r ≠ b ∧ ∃ xs, H r = some (.lst xs) ∧ xs.length < 1000000) ∧
  ∀ H', Ww.Well H' b (n + 15) → Held1 H H' b pg kvs (pl :: hs) v → Q .non H'
theorem ok_hold (T : Txt P w K mg) : FnOk P w K mg base CX0 4 T.f_hold T.fd_hold ["well", "where", "thing", "pile", "pegs", "hosts"] spHold := by
  have G_draw := ok_draw (base := base) T
  have G_name := ok_name (base := base) T
  refine T.F_hold.ok sc_hold (fun vs H Q E h => ?_) (fun cdv A outer s H vs Q E hr h => ?_)
  · obtain ⟨b, pl, pg, hh, n, wh, v, kvs, hs, Ps, rfl, _⟩ := h
    rfl
  · obtain ⟨b, pl, pg, hh, n, wh, v, kvs, hs, Ps, rfl, hb, hn, hpg, hkl, hhh, hhb, hl, hds, hok, hrs, q⟩ := h
    refine ⟨_, (pss_cons (ps_set (i := 6) sc_hold.nd rfl (.inl rfl) (pv 3))
      (C8.pss_cut (ps_if (PW.pt (pw_and (pt_cmpR op_gt (pv 1) pe_int (nomark _)) (pw_and1 (pt_cmpR (op_neD hr.units) (pv 5) (pe_lst pa_nil) (nomark _))))) (pss_one (ps_set (i := 6) sc_hold.nd rfl (.inl rfl) (pe_ix ix_list (pv 5) (pe_call G_draw (hr.mono (by decide)) (by rfl) T.g_draw T.F_draw.kp T.b_draw .nil pass0 (pa_cons (pv 0) (pa_cons (pe_callB call_len_seq (by rfl) T.n_len (by decide +kernel) (pa_cons (pv 5) pa_nil)) pa_nil))) (fun _ _ => rfl)))) pss_nil)
      (pss_cons (ps_set (i := 7) sc_hold.nd rfl (.inl rfl) pe_str)
      (C8.pss_cut (ps_if (pt_cmpR op_eq (pv 1) pe_int (nomark _)) (pss_one (ps_set (i := 7) sc_hold.nd rfl (.inl rfl) (pe_call G_name (hr.mono (by decide)) (by rfl) T.g_name T.F_name.kp T.b_name .nil pass0 (pa_cons (pv 0) (pa_cons pe_str pa_nil))))) pss_nil)
      (pss_one (ps_if (PW.pt (pw_and (pt_cmpR op_ne (pv 7) pe_str (nomark _)) (pw_and1 (pt_cmp (pc_dnotin (hu_of hr) (pv 7) (pv 4)))))) (pss_one (ps_dput (hu_of hr) (pv 4) (pv 7) (pv 2) rfl)) (pss_one (ps_expr (pe_bm PySem.F.plainAttrs_list PySem.F.slot_list_insert PySem.F.type_list_insert mt_insert (pv 6) (pa_cons (pe_call G_draw (hr.mono (by decide)) (by rfl) T.g_draw T.F_draw.kp T.b_draw .nil pass0 (pa_cons (pv 0) (pa_cons (pe_op op_add (pe_callB call_len_seq (by rfl) T.n_len (by decide +kernel) (pa_cons (pv 6) pa_nil)) pe_int) pa_nil))) (pa_cons (pv 2) pa_nil))))))))))), ?_⟩
    rw [show L2.start ["well", "where", "thing", "pile", "pegs", "hosts", "row", "name"] [.ref b, .int wh, v, .ref pl, .ref pg, .ref hh] = [some (.ref b), some (.int wh), some v, some (.ref pl), some (.ref pg), some (.ref hh), none, none] from rfl]
    try dsimp only [cxOf]
    have pgb : pg ≠ b := by
      obtain ⟨x, y, z, h1, _⟩ := hb
      exact fun e => by rw [← e, hpg] at h1; cases h1
    walk_at "wp"
    refine Wp.cut (fun σ' H' => ∃ r, r ∈ pl :: hs ∧ σ' = [some (.ref b), some (.int wh), some v, some (.ref pl), some (.ref pg), some (.ref hh), some (.ref r), none] ∧ Ww.Well H' b (n + 1) ∧ Kp b H H') ?_ ?_
    · walk_at "wp"
      refine ite_ (fun c => ?_) (fun c => ?_)
      · walk_at "wp"
        rename_i p hp
        have k2 : Same H (upd H p (.lst [])) := same_new hp
        have hds2 := Wc.Lists.dp (K := K) (hds.keep (Ks.same k2)) (SqL.of (k2 _ _ hhh))
        refine ⟨_, _, hds2, .lst (SqL.of upd_same) .nil, Wc.lDs_shaped hok, by decide, ?_⟩
        rw [eqv_nil]
        have hb2 := hb.keep k2
        walk_at "wp"
        refine iteN (fun e => ?_) (fun e => ?_)
        · walk_at "wp"
          have lm : (hs.map V.ref).length = hs.length := List.length_map ..
          have lp := hds.len
          have lh : 0 < hs.length := by
            have : Ps ≠ [] := fun z => e (by rw [z]; rfl)
            have := List.length_pos_iff.mpr this
            omega
          refine ⟨b, n, _, rfl, hb2, by omega, by omega, by omega, fun i H3 i0 i1 hb3 k3 => ?_⟩
          obtain ⟨r, hri⟩ : ∃ r, hs[i.toNat]? = some r := ⟨_, List.getElem?_eq_getElem (by omega)⟩
          refine ixL (SqL.of (k3 _ _ hhb (k2 _ _ hhh))) (atI_of (Int.toNat_of_nonneg i0).symm (by rw [List.getElem?_map, hri]; rfl)) ?_
          walk_at "wp"
          exact ⟨r, List.mem_cons_of_mem _ (List.mem_of_getElem? hri), rfl, hb3, Kp.trans (Kp.new hp) k3⟩
        · walk_at "wp"
          exact ⟨pl, List.mem_cons_self, rfl, hb2.mono (by omega), Kp.new hp⟩
      · walk_at "wp"
        exact ⟨pl, List.mem_cons_self, rfl, hb.mono (by omega), Kp.refl _ _⟩
    · rintro σ' H1 ⟨r, rm, rfl, hb1, k1⟩
      walk_at "wp"
      obtain ⟨rb, xs, hr0, xl⟩ := hrs r rm
      have hr1 := k1 _ _ rb hr0
      have hp1 := k1 _ _ pgb hpg
      refine Wp.cut (fun σ' H' => ∃ name : Str, (name = Str.ofString "" ∨ (Wu.Nm name ∧ 1 ≤ name.length)) ∧ σ' = [some (.ref b), some (.int wh), some v, some (.ref pl), some (.ref pg), some (.ref hh), some (.ref r), some (.str name)] ∧ Ww.Well H' b (n + 13) ∧ Kp b H H') ?_ ?_
      · walk_at "wp"
        refine ite_ (fun c => ?_) (fun c => ?_)
        · walk_at "wp"
          refine ⟨b, n + 1, _, rfl, hb1, by omega, ⟨Wu.Low.nil, by decide +kernel⟩, fun nm H2 nm1 nm2 hb2 k2 => ?_⟩
          walk_at "wp"
          exact ⟨nm, .inr ⟨nm1, nm2⟩, rfl, hb2, Kp.trans k1 k2⟩
        · walk_at "wp"
          exact ⟨_, .inl rfl, rfl, hb1.mono (by omega), k1⟩
      · rintro σ' H2 ⟨name, hname, rfl, hb2, k2⟩
        have hr2 := k2 _ _ rb hr0
        have hp2 := k2 _ _ pgb hpg
        have hg := DGet.k (k := Sum.inr name) hp2
        walk_at "wp"
        refine iteN (fun e => ?_) (fun e => ?_)
        walk_at "wp"
        refine ⟨_, _, rfl, hg, ?_⟩
        refine ⟨_, rfl, ?_⟩
        refine Wp.iteB (fun e2 => ?_) (fun e2 => ?_)
        · walk_at "wp"
          refine ⟨_, _, rfl, DPut.k (k := Sum.inr name) hp2 (by have : 1000000 < sizeLine := by decide
                                                                omega), ?_⟩
          have vn : valV kvs (Sum.inr name) = none := by
            cases q : valV kvs (Sum.inr name) with
            | none => rfl
            | some o => rw [q] at e2; cases e2
          rw [putK_new _ vn]
          refine q _ ((hb2.mono (by omega)).upd pgb) (.inl ⟨name, ?_, ?_, vn, upd_same, ?_⟩)
          · rcases hname with z | z
            · exact absurd (by rw [z]) e
            · exact z.1
          · rcases hname with z | z
            · exact absurd (by rw [z]) e
            · exact z.2
          · exact (Ks.mono (hb.ks k2) (by simp)).trans ⟨fun x u nx e => by rw [upd_ne (fun q : x = pg => nx (by rw [q]; simp))]; exact e, Tk.dK hp2⟩
        all_goals
          walk_at "wp"
          refine ⟨b, n + 13, _, rfl, hb2, by omega, by omega, by omega, fun k H3 k0 k1 hb3 k3 => ?_⟩
          walk_at "wp"
          have hr3 := k3 _ _ rb hr2
          refine ⟨r, xs, k, v, rfl, rfl, hr3, by have : 1000000 < sizeLine := by decide
                                                 omega, k0, by omega, ?_⟩
          refine q _ ((hb3.mono (by omega)).upd rb) (.inr ⟨r, xs, k.toNat, rm, hr0, by rw [upd_same]; simp, by omega, ?_⟩)
          exact (Ks.mono (hb.ks (Kp.trans k2 k3)) (by simp)).trans (Ks.upd hr3 (by simp))

end
end K15

/-! Rows of a program as data; their texts; global tuples; str of anything. -/
namespace Wrw
open PySem PySem.Spec PyProof.Rows L2 Wp Wq Wr Wt
abbrev Rw := Str × Option Int
def rV : Rw → List V
  | (s, none) => [.str s]
  | (s, some n) => [.str s, .int n]
def rDs : Rw → List PyData
  | (s, none) => [.str s]
  | (s, some n) => [.str s, .int n]
def rD (r : Rw) : PyData := .tuple (rDs r)
def IsR (H : Hp) (v : V) (r : Rw) : Prop := ∃ t, v = .ref t ∧ H t = some (.tup (rV r))
def Rws (H : Hp) (vs : List V) (rs : List Rw) : Prop := Paired (IsR H) vs rs
section
variable {H H1 : Hp} {v x : V} {r : Rw} {vs us : List V} {rs zs : List Rw} {K : PySem.W.Frag} {a : Addr}
theorem IsR.keep (h : IsR H v r) (k : Tk H H1) : IsR H1 v r := by
  obtain ⟨t, e, h⟩ := h
  exact ⟨t, e, k _ _ h⟩
theorem Rws.keep (h : Rws H vs rs) (k : Tk H H1) : Rws H1 vs rs := Paired.mapP h fun _ _ q => q.keep k
theorem Rws.len (h : Rws H vs rs) : vs.length = rs.length := Paired.length h
theorem Rws.nil : Rws H [] [] := Paired.nil
theorem Rws.app (h : Rws H vs rs) (k : Rws H us zs) : Rws H (vs ++ us) (rs ++ zs) := by
  unfold Rws at *
  induction h with
  | nil => exact k
  | cons r t ih => exact .cons r ih
theorem Rws.one (h : IsR H v r) : Rws H [v] [r] := Paired.cons h Paired.nil
theorem Rws.get (h : Rws H vs rs) : ∀ {i : Nat}, vs[i]? = some v → ∃ w, rs[i]? = some w ∧ IsR H v w := by
  unfold Rws at h
  induction h with
  | nil => intro i e; cases i <;> cases e
  | cons r t ih => intro i e; cases i with
    | zero => cases e; exact ⟨_, rfl, r⟩
    | succ n => exact ih e
theorem IsR.dp (h : IsR H v r) : Dp K H v (rD r) := by
  obtain ⟨t, rfl, h⟩ := h
  obtain ⟨s, o⟩ := r
  cases o with
  | none => exact .tup (SqT.of h) (.cons (.str _) .nil)
  | some n => exact .tup (SqT.of h) (.cons (.str _) (.cons (.int _) .nil))
theorem Rws.dpAll (h : Rws H vs rs) : DpAll K H vs (rs.map rD) := by
  unfold Rws at h
  induction h with
  | nil => exact .nil
  | cons r t ih => exact .cons r.dp ih
theorem Rws.dp (h : Rws H vs rs) (e : SqL K H a vs) : Dp K H (.ref a) (.list (rs.map rD)) := .lst e h.dpAll
def Rok (r : Rw) : Prop := PyData.strOk r.1 = true
theorem rD_lay (h : Rok r) : (rD r).canLay0 = true := by
  obtain ⟨s, o⟩ := r
  have h : PyData.strOk s = true := h
  cases o with
  | none =>
    unfold rD rDs
    simp only [PyData.canLay0, PyData.canLayAll0]
    rw [h]; rfl
  | some n =>
    unfold rD rDs
    simp only [PyData.canLay0, PyData.canLayAll0]
    rw [h]; rfl
theorem rD_depth : (rD r).depth = 1 := by
  obtain ⟨s, o⟩ := r
  cases o <;> simp [rD, rDs, PyData.depth, PyData.depthAll]
theorem rDs_lay : ∀ rs : List Rw, (∀ w ∈ rs, Rok w) → PyData.canLayAll0 (rs.map rD) = true
  | [], _ => by simp [PyData.canLayAll0]
  | w :: rs, h => by
    rw [List.map_cons]
    simp only [PyData.canLayAll0]
    rw [rD_lay (h w List.mem_cons_self), rDs_lay rs (fun x hx => h x (List.mem_cons_of_mem _ hx))] <;> rfl
theorem rDs_depth : ∀ rs : List Rw, PyData.depthAll (rs.map rD) ≤ 1
  | [] => by simp [PyData.depthAll]
  | w :: rs => by
    have h := rDs_depth rs
    rw [List.map_cons]
    simp only [PyData.depthAll]
    rw [rD_depth]
    omega
theorem rDs_shaped (h : ∀ w ∈ rs, Rok w) : SeqAt.shaped (.list (rs.map rD)) = true := by
  have h2 := rDs_depth rs
  have h3 : (PyData.list (rs.map rD)).depth ≤ 64 := by
    simp only [PyData.depth]
    omega
  show (PyData.canLay0 (.list (rs.map rD)) && decide ((PyData.list (rs.map rD)).depth ≤ 64)) = true
  rw [decide_eq_true h3, Bool.and_true]
  simp only [PyData.canLay0]
  exact rDs_lay rs h
end
/-! ### which rows there are -/
def bareL : List Str := ["add", "less", "box", "get", "set", "tell", "sweep"]
def deepL : List Str := ["pick", "drop", "lift", "go", "back"]
def leadL : List Str := ["keep", "call", "jump", "if"]
def RowOk (m : Int) : Rw → Prop
  | (s, none) => s ∈ bareL
  | (s, some n) => n.natAbs < 10 ^ 60 ∧ (s = "put" ∨ (s ∈ deepL ∧ 0 ≤ n) ∨ (s ∈ leadL ∧ 0 ≤ n ∧ n ≤ m))
def AnyWord (s : Str) : Prop := s ∈ bareL ∨ s = "put" ∨ s ∈ deepL ∨ s ∈ leadL
theorem RowOk.word {m : Int} {r : Rw} (h : RowOk m r) : AnyWord r.1 := by
  obtain ⟨s, o⟩ := r
  cases o with
  | none => exact .inl h
  | some n =>
    obtain ⟨_, h | ⟨h, _⟩ | ⟨h, _⟩⟩ := h
    · exact .inr (.inl h)
    · exact .inr (.inr (.inl h))
    · exact .inr (.inr (.inr h))
def wordOk (s : Str) : Bool := decide (s.length ≤ 5) && decide (1 ≤ s.length) && PyData.strOk s && s.cps.toList.all fun c => decide (c ≠ 32) && decide (c ≠ 59)
theorem word_ok {s : Str} (h : AnyWord s) : wordOk s = true := by
  have all : (bareL ++ [("put" : Str)] ++ deepL ++ leadL).all wordOk = true := by decide +kernel
  rw [List.all_eq_true] at all
  refine all s ?_
  rw [List.mem_append, List.mem_append, List.mem_append, List.mem_singleton]
  rcases h with h | h | h | h
  · exact .inl (.inl (.inl h))
  · exact .inl (.inl (.inr h))
  · exact .inl (.inr h)
  · exact .inr h
structure WordF (s : Str) : Prop where
  len : s.length ≤ 5
  pos : 1 ≤ s.length
  ok : PyData.strOk s = true
  no32 : 32 ∉ TL.tl s
  no59 : 59 ∉ TL.tl s
theorem word_f {s : Str} (h : AnyWord s) : WordF s := by
  have e := word_ok h
  unfold wordOk at e
  rw [Bool.and_eq_true, Bool.and_eq_true, Bool.and_eq_true] at e
  obtain ⟨⟨⟨e1, e2⟩, e3⟩, e4⟩ := e
  rw [List.all_eq_true] at e4
  refine ⟨of_decide_eq_true e1, of_decide_eq_true e2, e3, fun m => ?_, fun m => ?_⟩
  · have := e4 32 m
    revert this; decide
  · have := e4 59 m
    revert this; decide
/-! ### their texts -/
def rText : Rw → Str
  | (s, none) => s
  | (s, some n) => s ++ " " ++ numT n
def gText (rs : List Rw) : Str := Txt.join "; " (rs.map rText)
theorem sp_cps : TL.tl (" " : Str) = [32] := by decide +kernel
theorem semi_cps : TL.tl ("; " : Str) = [59, 32] := by decide +kernel
theorem numT_free {n : Int} : 32 ∉ TL.tl (numT n) ∧ 59 ∉ TL.tl (numT n) := by
  by_cases c : 0 ≤ n
  · obtain ⟨m, rfl⟩ : ∃ m : Nat, n = (m : Int) := ⟨n.natAbs, by omega⟩
    have e : TL.tl (numT (m : Int)) = TL.numL m := numT_nat m
    rw [e]
    exact ⟨fun h => by have := TL.numL_digits m _ h; omega, fun h => by have := TL.numL_digits m _ h; omega⟩
  · obtain ⟨m, rfl⟩ : ∃ m : Nat, n = -(m : Int) := ⟨n.natAbs, by omega⟩
    have e : TL.tl (numT (-(m : Int))) = 45 :: TL.numL m := numT_neg (by omega)
    rw [e]
    exact ⟨fun h => by
      rcases List.mem_cons.mp h with h | h
      · omega
      · have := TL.numL_digits m _ h; omega, fun h => by
      rcases List.mem_cons.mp h with h | h
      · omega
      · have := TL.numL_digits m _ h; omega⟩
theorem rText_tl {s : Str} {n : Int} : TL.tl (rText (s, some n)) = TL.tl s ++ ([32] ++ TL.tl (numT n)) := by
  show TL.tl (s ++ " " ++ numT n) = _
  rw [TL.tl_append, TL.tl_append, sp_cps, List.append_assoc]
theorem rText_free {m : Int} {r : Rw} (h : RowOk m r) : 59 ∉ TL.tl (rText r) := by
  have w := word_f h.word
  obtain ⟨s, o⟩ := r
  cases o with
  | none => exact w.no59
  | some n =>
    rw [rText_tl]
    intro h
    rcases List.mem_append.mp h with h | h
    · exact w.no59 h
    · rcases List.mem_append.mp h with h | h
      · rw [List.mem_singleton] at h; omega
      · exact numT_free.2 h
theorem rText_len {m : Int} {r : Rw} (h : RowOk m r) : 1 ≤ (rText r).length ∧ (rText r).length ≤ 67 := by
  have w := word_f h.word
  obtain ⟨s, o⟩ := r
  have w1 : 1 ≤ s.length := w.pos
  have w2 : s.length ≤ 5 := w.len
  cases o with
  | none => exact ⟨w1, Nat.le_trans w2 (by decide)⟩
  | some n =>
    have h1 := numT_any h.1
    show 1 ≤ (s ++ " " ++ numT n).length ∧ (s ++ " " ++ numT n).length ≤ 67
    rw [Wp.app_len, Wp.app_len, show (" " : Str).length = 1 by decide +kernel]
    omega
theorem rText_join {s : Str} {n : Int} : Txt.join " " [s, numT n] = rText (s, some n) := by
  rw [TL.join_eq] <;> rfl
theorem rText_join1 {s : Str} : Txt.join " " [s] = rText (s, none) := by
  rw [TL.join_eq] <;> rfl
theorem part_bare {s : Str} (h : WordF s) : Txt.partition s " " = (s, Str.empty, Str.empty) := by
  rw [TL.partition_par _ _ (by rw [sp_cps]; simp), sp_cps, TL.par_none1 h.no32]
theorem part_num {s : Str} {n : Int} (h : WordF s) : Txt.partition (rText (s, some n)) " " = (s, (" " : Str), numT n) := by
  rw [TL.partition_par _ _ (by rw [sp_cps]; simp), sp_cps, rText_tl, TL.par_part1 (S := []) h.no32]
  show ((⟨([] ++ TL.tl s).toArray⟩ : Str), (" " : Str), (⟨(TL.tl (numT n)).toArray⟩ : Str)) = _
  rw [List.nil_append]
theorem joinL_len (S : List Nat) {b : Nat} : ∀ ps : List (List Nat), (∀ l ∈ ps, l.length ≤ b) → (TL.joinL S ps).length ≤ ps.length * (b + S.length)
  | [], _ => Nat.zero_le _
  | [p], h => by
    have := h p List.mem_cons_self
    show p.length ≤ 1 * (b + S.length)
    omega
  | p :: q :: r, h => by
    have h1 := h p List.mem_cons_self
    have h2 := joinL_len S (q :: r) (fun l hl => h l (List.mem_cons_of_mem _ hl))
    show (p ++ (S ++ TL.joinL S (q :: r))).length ≤ (q :: r).length.succ * (b + S.length)
    rw [List.length_append, List.length_append, Nat.succ_mul]
    omega
theorem gText_tl (rs : List Rw) : TL.tl (gText rs) = TL.joinL [59, 32] ((rs.map rText).map TL.tl) := by
  unfold gText
  rw [TL.join_eq, TL.tl_join, semi_cps]
theorem gText_len {m : Int} {rs : List Rw} (h : ∀ r ∈ rs, RowOk m r) (hl : rs.length ≤ 100) : (gText rs).length ≤ 6900 := by
  rw [TL.len_tl, gText_tl]
  have h2 := joinL_len [59, 32] (b := 67) ((rs.map rText).map TL.tl) (fun l hl => by
    rw [List.map_map] at hl
    obtain ⟨z, hz, rfl⟩ := List.mem_map.mp hl
    have := (rText_len (h z hz)).2
    rw [TL.len_tl] at this
    exact this)
  rw [List.length_map, List.length_map] at h2
  have : rs.length * (67 + [59, 32].length) ≤ 100 * 69 := Nat.mul_le_mul hl (by decide)
  omega
theorem gText_ne {m : Int} {rs : List Rw} (h : ∀ r ∈ rs, RowOk m r) (n : rs ≠ []) : gText rs ≠ "" := by
  intro e
  cases rs with
  | nil => exact n rfl
  | cons z rs =>
    have e2 : TL.tl (gText (z :: rs)) = [] := by rw [e]; decide +kernel
    have hz := (rText_len (h z List.mem_cons_self)).1
    rw [gText_tl] at e2
    rw [TL.len_tl] at hz
    cases rs with
    | nil =>
      have e2 : TL.tl (rText z) = [] := e2
      rw [e2] at hz
      exact absurd hz (by decide)
    | cons q rs =>
      have e2 : TL.tl (rText z) ++ ([59, 32] ++ TL.joinL [59, 32] (((q :: rs).map rText).map TL.tl)) = [] := e2
      have := (List.append_eq_nil_iff.mp e2).2
      simp at this
theorem gText_split {m : Int} {rs : List Rw} (h : ∀ r ∈ rs, RowOk m r) (n : rs ≠ []) : Txt.split (gText rs) "; " = rs.map rText := by
  refine TL.split_join (s := 59) (S := [32]) semi_cps (by decide +kernel) (fun e => n (List.map_eq_nil_iff.mp e)) fun p hp => ?_
  obtain ⟨z, hz, rfl⟩ := List.mem_map.mp hp
  exact rText_free (h z hz)
theorem RowOk.rok {m : Int} {r : Rw} (h : RowOk m r) : Rok r := (word_f h.word).ok
theorem cut_head {z : Str} {c : Nat} {r : List Nat} (h : z.cps.toList = c :: r) : cutS z none (some 1) = ⟨#[c]⟩ := by
  refine TL.ext_tl ?_
  show (((z.cps.toList.drop (HT.sIx z.length 0 none)).take (HT.sIx z.length z.length (some ((1 : Nat) : Int)) - HT.sIx z.length 0 none)).toArray).toList = [c]
  rw [show HT.sIx z.length 0 none = 0 from HT.sIx_none .., show HT.sIx z.length z.length (some ((1 : Nat) : Int)) = min 1 z.length from HT.sIx_nat ..]
  have hl : z.length = r.length + 1 := by
    show z.cps.size = _
    rw [← Array.length_toList, h] <;> rfl
  rw [hl, Nat.min_eq_left (by omega), h] <;> rfl
theorem cut_tail {z : Str} {c : Nat} {r : List Nat} (h : z.cps.toList = c :: r) : (cutS z (some 1) none).cps.toList = r := by
  show (((z.cps.toList.drop (HT.sIx z.length 0 (some ((1 : Nat) : Int)))).take (HT.sIx z.length z.length none - HT.sIx z.length 0 (some ((1 : Nat) : Int)))).toArray).toList = r
  rw [show HT.sIx z.length z.length none = z.length from HT.sIx_none .., show HT.sIx z.length 0 (some ((1 : Nat) : Int)) = min 1 z.length from HT.sIx_nat ..]
  have hl : z.length = r.length + 1 := by
    show z.cps.size = _
    rw [← Array.length_toList, h] <;> rfl
  rw [hl, Nat.min_eq_left (by omega), h]
  show (r.take (r.length + 1 - 1)).toArray.toList = r
  rw [Nat.add_sub_cancel, List.take_of_length_le (Nat.le_refl _)]
theorem sgn_inj {c d : Nat} (h : (⟨#[c]⟩ : Str) = ⟨#[d]⟩) : c = d := by
  have e2 : (#[c] : Array Nat) = #[d] := congrArg Str.cps h
  exact (List.cons.inj (congrArg Array.toList e2)).1
/-! ### str of anything -/
def rStrAny : List V → Hp → VK → Prop := fun xs H Q => (∃ a, xs = [.str a] ∧ Q (.str a) H) ∨ (∃ i : Int, xs = [.int i] ∧ i.natAbs.log2 < 1920 ∧ Q (.str (toString i)) H)
theorem call_strAny {X : Cx} : CallR X (.type "str") rStrAny := by
  intro pins s σ H xs us Q I r h
  rcases h with h | h
  · exact SkE.call_str_str pins s σ H xs us Q I r h
  · exact call_str_int pins s σ H xs us Q I r h
def rJoin (K : PySem.W.Frag) : V → List V → Hp → VK → Prop := fun x xs H Q => ∃ a p, ∃ ys : List Str, x = .str a ∧ xs = [.ref p] ∧ (SqL K H p (ys.map V.str) ∨ SqT K H p (ys.map V.str)) ∧ (ys.map (·.length)).sum + ys.length * a.length ≤ 16777216 ∧ Q (.str (Txt.join a ys)) H
theorem pe_joinK {X : Cx} {o e : Expr} {to te : TE} {apos pos : Pos} (ho : PE X o to) (he : PE X e te) (hs : starEach [e] X.env = [(false, eval e X.env)] := by rfl) (hbase : attributeBase o "join" X.env (eval o X.env) = eval o X.env := by rfl) (hline : (apos.endLine == pos.line) = true := by rfl) :
    PE X (.Call (.Attribute o "join" apos) [e] [] pos) (tM1 (rJoin X.K) to te) := pe_join ho he hs hbase hline
theorem Vals1 {v : V} {u : Value} (r : RelV v u) : Vals [v] [u] := .cons r .nil
theorem loop_setLc {ta : TE} {σ : L2.St} {H : Hp} {Q : VK} {te : TE} {g : TG} {tt : TT} {vs : List Nat} {K : PySem.W.Frag} (h : ta σ H fun x H1 => ∃ a, x = .ref a ∧ (∃ xs, SqT K H1 a xs) ∧ ∀ D, H1 D = none → LoopC (Itt K a) g tt te vs σ D (fun H => Q (.ref D) H) (upd H1 D (.lst []))) : tLc (iTup K ta) g tt te vs σ H Q := h
theorem loopCT {K : PySem.W.Frag} {a : Addr} {xs : List V} {g : TG} {tt : TT} {te : TE} {vs : List Nat} {D : Addr} {Qd : Hp → Prop} {σ : L2.St} {H : Hp} (Pv : Nat → Hp → Prop) (h0 : Pv 0 H) (hl : ∀ i H, i ≤ xs.length → Pv i H → SqT K H a xs)
    (hs : ∀ i x H, xs[i]? = some x → Pv i H → g x (wipe σ vs) H fun σ2 H2 => wipe σ2 vs = wipe σ vs ∧ tt σ2 H2 fun b H3 =>
      if b = true then te σ2 H3 fun y H4 => ∃ acc, H4 D = some (.lst acc) ∧ acc.length < sizeLine ∧ Pv (i + 1) (upd H4 D (.lst (acc ++ [y]))) else Pv (i + 1) H3) (hd : ∀ H, Pv xs.length H → Qd H) : LoopC (Itt K a) g tt te vs σ D Qd H := by
  refine ⟨fun i m H => m = xs.length - i ∧ i ≤ xs.length ∧ Pv i H, ⟨xs.length, by simp, Nat.zero_le _, h0⟩, ?_⟩
  rintro i m H ⟨rfl, hi, p⟩
  have q := hl i H hi p
  by_cases hlt : i < xs.length
  · refine .inr ⟨⟨xs, xs[i], q, by simp [hlt]⟩, Pv (i + 1), fun H' p' => ⟨xs.length - (i + 1), by omega, rfl, hlt, p'⟩, fun x H' y => ?_⟩
    obtain ⟨e, y⟩ := y
    subst e
    exact hs i x _ (y xs q) p
  · have e : i = xs.length := by omega
    subst e
    exact .inl ⟨⟨xs, q, Nat.le_refl _⟩, hd H p⟩
theorem inV_str {z : Str} : ∀ l : List Str, inV (.str z) (l.map V.str) = decide (z ∈ l)
  | [] => rfl
  | y :: l => by
    have ih := inV_str (z := z) l
    unfold inV at ih ⊢
    rw [List.map_cons, List.any_cons, ih]
    have e : eqV (.str y) (.str z) = decide (y = z) := by
      show decide _ = _ 
      exact decide_eq_decide.mpr ⟨fun h => by first | exact V.str.inj h | exact h, fun h => by first | exact congrArg V.str h | exact h⟩
    rw [e]
    by_cases c : y = z
    · subst c; simp
    · rw [decide_eq_false c, Bool.false_or]
      exact decide_eq_decide.mpr ⟨fun h => List.mem_cons_of_mem _ h, fun h => (List.mem_cons.mp h).elim (fun q => absurd q.symm c) id⟩
theorem flat_strs : ∀ l : List Str, (l.map V.str).all flatV = true
  | [] => rfl
  | _ :: l => by rw [List.map_cons, List.all_cons, flat_strs l] <;> rfl
theorem inT {K : PySem.W.Frag} {H : Hp} {p : Addr} {z : Str} {l : List Str} {Q : VK} (h : SqT K H p (l.map V.str)) (q : Q (.bl (decide (z ∈ l))) H) : rIn K false (.str z) (.ref p) H Q :=
  ⟨p, _, rfl, .inr h, rfl, flat_strs l, by rw [inV_str]; exact q⟩
/-- the three kinds of words are apart -/
theorem lead_deep {s : Str} (h : s ∈ leadL) : s ∉ deepL := by
  have e : leadL.all (fun s => decide (s ∉ deepL)) = true := by decide +kernel
  rw [List.all_eq_true] at e
  exact of_decide_eq_true (e s h)
theorem put_apart : ("put" : Str) ∉ deepL ∧ ("put" : Str) ∉ leadL := by decide +kernel
end Wrw

/-! The things of a list of worths; dicts whose keys are worths. -/
namespace Wth
open PySem PySem.Spec PyProof.Rows L2 Wp Wq Wr Wpm Wpn
def isT (w : W) : Bool := inV (.str w.1) [.str "box", .str "go"]
theorem isT_eq (w : W) : isT w = (decide (w.1 = "box") || decide (w.1 = "go")) := by
  show (((Str.ofString "box") == w.1) || (((Str.ofString "go") == w.1) || false)) = _
  rw [Bool.or_false, Bool.beq_eq_decide_eq, Bool.beq_eq_decide_eq]
  congr 1
  · exact decide_eq_decide.mpr ⟨fun h => h.symm, fun h => h.symm⟩
  · exact decide_eq_decide.mpr ⟨fun h => h.symm, fun h => h.symm⟩
def stepT (acc : List W) (w : W) : List W := if isT w = true ∧ w ∉ acc then acc ++ [w] else acc
def thingsM (ws : List W) : List W := ws.foldl stepT []
theorem step_mem {acc : List W} {w x : W} (h : x ∈ acc) : x ∈ stepT acc w := by
  unfold stepT
  split
  · exact List.mem_append_left _ h
  · exact h
theorem fold_mem {x : W} : ∀ {ws acc : List W}, x ∈ acc → x ∈ ws.foldl stepT acc
  | [], _, h => h
  | w :: ws, _, h => fold_mem (ws := ws) (step_mem h)
theorem fold_in {x : W} (hx : isT x = true) : ∀ {ws acc : List W}, x ∈ ws → x ∈ ws.foldl stepT acc
  | w :: ws, acc, h => by
    rw [List.foldl_cons]
    rcases List.mem_cons.mp h with e | h
    · subst e
      refine fold_mem ?_
      unfold stepT
      split
      · exact List.mem_append_right _ List.mem_cons_self
      · rename_i c
        exact Classical.not_not.mp fun n => c ⟨hx, n⟩
    · exact fold_in hx h
theorem fold_stay : ∀ {ws acc : List W}, (∀ x ∈ ws, isT x = true → x ∈ acc) → ws.foldl stepT acc = acc
  | [], _, _ => rfl
  | w :: ws, acc, h => by
    rw [List.foldl_cons]
    have e : stepT acc w = acc := by
      unfold stepT
      rw [if_neg]
      rintro ⟨h1, h2⟩
      exact h2 (h w List.mem_cons_self h1)
    rw [e]
    exact fold_stay fun x hx => h x (List.mem_cons_of_mem _ hx)
theorem things_twice (ws : List W) : thingsM (ws ++ ws) = thingsM ws := by
  unfold thingsM
  rw [List.foldl_append]
  exact fold_stay fun x hx ht => fold_in ht hx
theorem step_len {acc : List W} {w : W} : (stepT acc w).length ≤ acc.length + 1 := by
  unfold stepT
  split
  · rw [List.length_append] <;> exact Nat.le_refl _
  · omega
theorem step_ok {acc : List W} {w : W} (h : ∀ x ∈ acc, Wok x) (hw : Wok w) : ∀ x ∈ stepT acc w, Wok x := by
  unfold stepT
  split
  · intro x hx
    rcases List.mem_append.mp hx with hx | hx
    · exact h x hx
    · rw [List.mem_singleton.mp hx]; exact hw
  · exact h
theorem fold_ok : ∀ {ws acc : List W}, (∀ x ∈ acc, Wok x) → (∀ x ∈ ws, Wok x) → ∀ x ∈ ws.foldl stepT acc, Wok x
  | [], _, h, _ => h
  | w :: ws, _, h, hw => fold_ok (ws := ws) (step_ok h (hw w List.mem_cons_self)) fun x hx => hw x (List.mem_cons_of_mem _ hx)
theorem fold_len : ∀ {ws acc : List W}, (ws.foldl stepT acc).length ≤ acc.length + ws.length
  | [], _ => Nat.le_refl _
  | w :: ws, acc => by
    rw [List.foldl_cons, List.length_cons]
    have h1 := fold_len (ws := ws) (acc := stepT acc w)
    have h2 := step_len (acc := acc) (w := w)
    omega
theorem take_fold {ws : List W} {i : Nat} {w : W} {acc : List W} (h : ws[i]? = some w) : (ws.take (i + 1)).foldl stepT acc = stepT ((ws.take i).foldl stepT acc) w := by
  rw [List.take_add_one, h, List.foldl_append]
  rfl
/-! ### the dict -/
def keyT (w : W) : List Key := [.inr w.1, .inl w.2]
def ent (w : W) : List Key × V := (keyT w, .bl true)
theorem keyT_inj {w z : W} (h : keyT w = keyT z) : w = z := by
  obtain ⟨s, n⟩ := w
  obtain ⟨t, m⟩ := z
  unfold keyT at h
  simp at h
  rw [h.1, h.2]
theorem put_step (acc : List W) (w : W) (h : isT w = true) : putK (acc.map ent) (keyT w) (.bl true) = (stepT acc w).map ent := by
  have e : ((acc.map ent).any fun kv => decide (kv.1 = keyT w)) = decide (w ∈ acc) := by
    rw [List.any_map]
    by_cases c : w ∈ acc
    · rw [decide_eq_true c, List.any_eq_true]
      exact ⟨w, c, decide_eq_true rfl⟩
    · rw [decide_eq_false c, List.any_eq_false]
      intro x hx
      show ¬ decide (keyT x = keyT w) = true
      rw [decide_eq_true_eq]
      intro q
      exact c (keyT_inj q ▸ hx)
  unfold putK stepT
  rw [e]
  by_cases c : w ∈ acc
  · rw [if_pos (decide_eq_true c), if_neg (fun q => q.2 c), List.map_map]
    refine List.map_congr_left fun x hx => ?_
    show (if keyT x = keyT w then ((ent x).1, V.bl true) else ent x) = ent x
    split <;> rfl
  · rw [if_neg (by rw [decide_eq_false c]; exact Bool.false_ne_true), if_pos ⟨h, c⟩, List.map_append]
    rfl
theorem keys_pile {H : Hp} : ∀ {ws : List W} {bs : List Addr}, IsKeys H (ws.map ent) bs → Pile H (bs.map V.ref) ws
  | [], _, h => by
    cases h
    exact Pile.nil
  | w :: ws, _, h => by
    cases h with
    | cons r t => exact Paired.cons ⟨_, rfl, r⟩ (keys_pile t)
/-! ### the mirror of roots and holdings -/
def rootsM (P : Pic) : List W := thingsM (P.pile ++ P.pegs.map (·.2))
def tableM (P : Pic) : List (W × List W) := P.boxes.map (fun b => ((sBox, b.1), thingsM [b.2])) ++ P.goings.map (fun g => ((sGo, g.1), thingsM g.2.2))
def holdM (tb : List (W × List W)) (z : W) : List W := ((tb.find? fun e => decide (e.1 = z)).map (·.2)).getD []
theorem isT_iff {z : W} : isT z = true ↔ z.1 = sBox ∨ z.1 = sGo := by
  rw [isT_eq, Bool.or_eq_true, decide_eq_true_eq, decide_eq_true_eq] <;> rfl
theorem stepT_sub {acc : List W} {w x : W} (h : x ∈ stepT acc w) : x ∈ acc ∨ (x = w ∧ isT w = true) := by
  unfold stepT at h
  split at h
  · rename_i c
    rcases List.mem_append.mp h with h | h
    · exact .inl h
    · exact .inr ⟨List.mem_singleton.mp h, c.1⟩
  · exact .inl h
theorem fold_sub {x : W} : ∀ {ws acc : List W}, x ∈ ws.foldl stepT acc → x ∈ acc ∨ (x ∈ ws ∧ isT x = true)
  | [], _, h => .inl h
  | w :: ws, acc, h => by
    rcases fold_sub (ws := ws) h with h | ⟨h, t⟩
    · rcases stepT_sub h with h | ⟨rfl, t⟩
      · exact .inl h
      · exact .inr ⟨List.mem_cons_self, t⟩
    · exact .inr ⟨List.mem_cons_of_mem _ h, t⟩
theorem mem_things {x : W} {ws : List W} : x ∈ thingsM ws ↔ x ∈ ws ∧ isT x = true := by
  constructor
  · intro h
    rcases fold_sub h with h | h
    · cases h
    · exact h
  · intro h
    exact fold_in h.2 h.1
theorem stepT_nodup {acc : List W} {w : W} (h : acc.Nodup) : (stepT acc w).Nodup := by
  unfold stepT
  split
  · rename_i c
    refine List.pairwise_append.mpr ⟨h, List.pairwise_singleton _ _, ?_⟩
    intro x hx y hy
    rw [List.mem_singleton.mp hy]
    rintro rfl
    exact c.2 hx
  · exact h
theorem things_nodup {ws : List W} : (thingsM ws).Nodup := by
  have go : ∀ {ws acc : List W}, acc.Nodup → (ws.foldl stepT acc).Nodup := by
    intro ws
    induction ws with
    | nil => intro _ h; exact h
    | cons w ws ih => intro _ h; exact ih (stepT_nodup h)
  exact go .nil
theorem things_len {ws : List W} : (thingsM ws).length ≤ ws.length := by
  have := fold_len (ws := ws) (acc := [])
  unfold thingsM
  simp at this
  exact this
theorem things_ok {ws : List W} (h : ∀ x ∈ ws, Wok x) : ∀ x ∈ thingsM ws, Wok x := fun x hx => h x (mem_things.mp hx).1
theorem table_keys (P : Pic) : (tableM P).map (·.1) = P.things := by
  unfold tableM Pic.things
  rw [List.map_append, List.map_map, List.map_map] <;> rfl
theorem things_uniq {P : Pic} (ok : P.Ok) : P.things.Nodup := by
  unfold Pic.things
  refine List.pairwise_append.mpr ⟨?_, ?_, ?_⟩
  · exact List.pairwise_map.mpr (ok.boxUp.imp fun h e => by have := (Prod.mk.inj e).2; omega)
  · exact List.pairwise_map.mpr (ok.goUp.imp fun h e => by have := (Prod.mk.inj e).2; omega)
  · intro x hx y hy e
    obtain ⟨_, _, rfl⟩ := List.mem_map.mp hx
    obtain ⟨_, _, rfl⟩ := List.mem_map.mp hy
    exact box_go (Prod.mk.inj e).1
theorem mem_worths_go {P : Pic} {g : Int × Int × List W} (hg : g ∈ P.goings) {z : W} (hz : z ∈ g.2.2) : z ∈ P.worths :=
  List.mem_append_right _ (List.mem_flatMap.mpr ⟨g, hg, hz⟩)
theorem mem_worths_box {P : Pic} {b : Int × W} (hb : b ∈ P.boxes) : b.2 ∈ P.worths :=
  List.mem_append_left _ (List.mem_append_right _ (List.mem_append_right _ (List.mem_map.mpr ⟨b, hb, rfl⟩)))
theorem mem_worths_pile {P : Pic} {z : W} (h : z ∈ P.pile) : z ∈ P.worths := List.mem_append_left _ (List.mem_append_left _ h)
theorem mem_worths_peg {P : Pic} {p : Str × W} (h : p ∈ P.pegs) : p.2 ∈ P.worths :=
  List.mem_append_left _ (List.mem_append_right _ (List.mem_append_left _ (List.mem_map.mpr ⟨p, h, rfl⟩)))
theorem table_sub {P : Pic} {e : W × List W} (h : e ∈ tableM P) {z : W} (hz : z ∈ e.2) : z ∈ P.worths ∧ isT z = true := by
  unfold tableM at h
  rcases List.mem_append.mp h with h | h
  · obtain ⟨b, hb, rfl⟩ := List.mem_map.mp h
    obtain ⟨h1, h2⟩ := mem_things.mp hz
    rw [List.mem_singleton.mp h1] at h2 ⊢
    exact ⟨mem_worths_box hb, h2⟩
  · obtain ⟨g, hg, rfl⟩ := List.mem_map.mp h
    obtain ⟨h1, h2⟩ := mem_things.mp hz
    exact ⟨mem_worths_go hg h1, h2⟩
theorem root_thing {P : Pic} (ok : P.Ok) {z : W} (h : z ∈ rootsM P) : z ∈ P.things := by
  obtain ⟨h1, h2⟩ := mem_things.mp h
  refine ok.closed z ?_ (isT_iff.mp h2)
  rcases List.mem_append.mp h1 with h | h
  · exact mem_worths_pile h
  · obtain ⟨p, hp, rfl⟩ := List.mem_map.mp h
    exact mem_worths_peg hp
theorem find_some {tb : List (W × List W)} {z : W} (h : z ∈ tb.map (·.1)) : ∃ e, (tb.find? fun e => decide (e.1 = z)) = some e ∧ e ∈ tb ∧ e.1 = z := by
  cases c : tb.find? fun e => decide (e.1 = z) with
  | some e =>
    have h1 := List.find?_some c
    exact ⟨e, rfl, List.mem_of_find?_eq_some c, of_decide_eq_true h1⟩
  | none =>
    rw [List.find?_eq_none] at c
    obtain ⟨e, he, rfl⟩ := List.mem_map.mp h
    exact absurd (decide_eq_true rfl) (c e he)
theorem hold_mem {P : Pic} {z y : W} (h : z ∈ holdM (tableM P) y) : z ∈ P.worths ∧ isT z = true := by
  unfold holdM at h
  cases c : (tableM P).find? fun e => decide (e.1 = y) with
  | none => rw [c] at h; cases h
  | some e =>
    rw [c] at h
    exact table_sub (List.mem_of_find?_eq_some c) h
theorem hold_thing {P : Pic} (ok : P.Ok) {z y : W} (h : z ∈ holdM (tableM P) y) : z ∈ P.things := ok.closed z (hold_mem h).1 (isT_iff.mp (hold_mem h).2)
/-! ### the table in the heap -/
def Tab (H : Hp) (kvs : List (List Key × V)) (tb : List (W × List W)) : Prop := Paired (fun kv e => kv.1 = keyT e.1 ∧ IsLs [] H kv.2 e.2) kvs tb
section
variable {H H' : Hp} {kvs : List (List Key × V)} {tb : List (W × List W)} {z : W} {d : Addr}
theorem Tab.keep (h : Tab H kvs tb) (k : Same H H') : Tab H' kvs tb := Paired.mapP h fun _ _ q => ⟨q.1, q.2.keep (Ks.same k)⟩
theorem Tab.keys (h : Tab H kvs tb) : kvs.map (·.1) = tb.map fun e => keyT e.1 := by
  unfold Tab at h
  induction h with
  | nil => rfl
  | cons r t ih => rw [List.map_cons, List.map_cons, ih, r.1]
theorem Tab.find (h : Tab H kvs tb) : (∃ e v, (tb.find? fun e => decide (e.1 = z)) = some e ∧ valV kvs (keyT z) = some v ∧ IsLs [] H v e.2) ∨ ((tb.find? fun e => decide (e.1 = z)) = none ∧ valV kvs (keyT z) = none) := by
  unfold Tab at h
  induction h with
  | nil => exact .inr ⟨rfl, rfl⟩
  | @cons kv e kvs tb r t ih =>
    obtain ⟨k, v⟩ := kv
    obtain ⟨r1, r2⟩ := r
    have r1 : k = keyT e.1 := r1
    by_cases c : e.1 = z
    · refine .inl ⟨e, v, List.find?_cons_of_pos (decide_eq_true c), ?_, r2⟩
      exact valV_pos (by rw [r1, c])
    · have e1 : ((e :: tb).find? fun e => decide (e.1 = z)) = tb.find? fun e => decide (e.1 = z) := List.find?_cons_of_neg (by rw [decide_eq_true_eq]; exact c)
      have e2 : valV ((k, v) :: kvs) (keyT z) = valV kvs (keyT z) := valV_neg (fun q => c (keyT_inj (r1.symm.trans q)))
      rw [e1, e2]
      exact ih
theorem Tab.get (h : Tab H kvs tb) (hz : z ∈ tb.map (·.1)) : ∃ v, valV kvs (keyT z) = some v ∧ IsLs [] H v (holdM tb z) := by
  rcases h.find (z := z) with ⟨e, v, h1, h2, h3⟩ | ⟨h1, _⟩
  · refine ⟨v, h2, ?_⟩
    unfold holdM
    rw [h1]
    exact h3
  · obtain ⟨e, h2, _⟩ := find_some hz
    rw [h1] at h2
    cases h2
theorem Tab.none (h : Tab H kvs tb) (hz : z ∉ tb.map (·.1)) : valV kvs (keyT z) = none ∧ holdM tb z = [] := by
  rcases h.find (z := z) with ⟨e, v, h1, h2, h3⟩ | ⟨h1, h2⟩
  · have q1 := List.find?_some h1
    have q2 := List.mem_of_find?_eq_some h1
    exact absurd (List.mem_map.mpr ⟨e, q2, of_decide_eq_true q1⟩) hz
  · refine ⟨h2, ?_⟩
    unfold holdM
    rw [h1] <;> rfl
theorem put_new {kvs : List (List Key × V)} {k : List Key} {v : V} (h : k ∉ kvs.map (·.1)) : putK kvs k v = kvs ++ [(k, v)] := by
  unfold putK
  rw [if_neg]
  intro c
  obtain ⟨kv, h1, h2⟩ := List.any_eq_true.mp c
  exact h (List.mem_map.mpr ⟨kv, h1, of_decide_eq_true h2⟩)
theorem Tab.put {v : V} {ws : List W} {H1 : Hp} (h : Tab H kvs tb) (k : ∀ l o, H l = some (.lst o) → H1 l = some (.lst o)) (tk : Tk H H1) (hz : z ∉ tb.map (·.1)) (hv : IsLs [] H1 v ws) : putK kvs (keyT z) v = kvs ++ [(keyT z, v)] ∧ Tab H1 (kvs ++ [(keyT z, v)]) (tb ++ [(z, ws)]) := by
  refine ⟨put_new ?_, Wpk.paired_snoc (Paired.mapP h fun _ _ q => ?_) ⟨rfl, hv⟩⟩
  · rw [h.keys]
    intro m
    obtain ⟨e, h1, h2⟩ := List.mem_map.mp m
    exact hz (List.mem_map.mpr ⟨e, h1, keyT_inj h2⟩)
  · obtain ⟨q1, l, vs, e, h1, h2, h3⟩ := q
    exact ⟨q1, l, vs, e, k _ _ h1, h2.keep tk, h3⟩
theorem Tab.len (h : Tab H kvs tb) : kvs.length = tb.length := Paired.length h
end
/-! ### pictures that are like one another -/
def Plain (z : W) : Prop := (z.1 = Str.ofString "at" ∧ 0 ≤ z.2) ∨ z.1 = Str.ofString "num"
theorem Plain.not {z : W} (h : Plain z) : ¬ (z.1 = sBox ∨ z.1 = sGo) := by
  intro k
  rcases h with h | h
  · exact (at_apart k).1 h.1
  · exact (at_apart k).2 h
theorem Ok.like {P P' : Pic} (ok : P.Ok) (e1 : P'.pegs = P.pegs) (e2 : P'.boxes = P.boxes) (e3 : P'.goings.map (fun g => (g.1, g.2.1)) = P.goings.map fun g => (g.1, g.2.1)) (h1 : ∀ z ∈ P'.worths, z ∈ P.worths ∨ Plain z) (h2 : ∀ z ∈ P.worths, z ∈ P'.worths) : P'.Ok := by
  have e4 : P'.goings.map (·.1) = P.goings.map (·.1) := by
    have := congrArg (List.map (·.1)) e3
    rw [List.map_map, List.map_map] at this
    exact this
  have et : P'.things = P.things := by
    unfold Pic.things
    rw [e2]
    have := congrArg (List.map fun g => ((sGo, g) : W)) e4
    rw [List.map_map, List.map_map] at this
    exact congrArg _ this
  refine ⟨fun z h => ?_, by rw [e1]; exact ok.names, by rw [e1]; exact ok.pegUp, ?_, fun g h => ?_, by rw [e2]; exact ok.boxUp, by rw [e2]; exact ok.boxNat, fun z h k => ?_, fun z h => ?_⟩
  · rcases h1 z h with h | h
    · exact ok.words z h
    · exact .inr h
  · have := List.pairwise_map.mpr ok.goUp
    have q : (P.goings.map (·.1)).Pairwise (· < ·) := List.pairwise_map.mpr ok.goUp
    rw [← e4] at q
    exact List.pairwise_map.mp q
  · have : (g.1, g.2.1) ∈ P.goings.map fun g => (g.1, g.2.1) := by rw [← e3]; exact List.mem_map.mpr ⟨g, h, rfl⟩
    obtain ⟨g2, h2, e⟩ := List.mem_map.mp this
    have := ok.goNat g2 h2
    rw [(Prod.mk.inj e).1, (Prod.mk.inj e).2] at this
    exact this
  · rw [et]
    rcases h1 z h with h | h
    · exact ok.closed z h k
    · exact absurd k h.not
  · rw [et] at h
    exact h2 z (ok.held z h)
theorem Ok.wok {P : Pic} (ok : P.Ok) : ∀ z ∈ P.worths, Wok z := by
  intro z h
  show PyData.strOk z.1 = true
  rcases ok.words z h with ⟨h | h, _⟩ | h | h
  · rw [h]; decide +kernel
  · rw [h]; decide +kernel
  · rw [h.1]; decide +kernel
  · rw [h]; decide +kernel
theorem Plain.wok {z : W} (h : Plain z) : Wok z := by
  show PyData.strOk z.1 = true
  rcases h with h | h
  · rw [h.1]; decide +kernel
  · rw [h]; decide +kernel
theorem things_wok {P : Pic} : ∀ z ∈ P.things, Wok z := by
  intro z h
  show PyData.strOk z.1 = true
  unfold Pic.things at h
  rcases List.mem_append.mp h with h | h
  · obtain ⟨b, _, rfl⟩ := List.mem_map.mp h
    show PyData.strOk sBox = true
    decide +kernel
  · obtain ⟨b, _, rfl⟩ := List.mem_map.mp h
    show PyData.strOk sGo = true
    decide +kernel
section
variable {S S' : List Addr} {H : Hp} {v : V} {P : Pic} {b : Addr}
theorem _root_.Wpm.IsPic.less (h : IsPic S H v P) (k : ∀ a ∈ S', a ∈ S) : IsPic S' H v P := by
  obtain ⟨t, a, b, c, d, pa, xb, xc, xd, e, ht, pc⟩ := h
  exact ⟨t, a, b, c, d, pa, xb, xc, xd, e, ht, pc.ha, pc.hb, pc.hc, pc.hd, pc.pile, pc.pegs, Paired.mapP pc.goings fun _ _ q => q.less k, pc.boxes, fun x hx m => pc.free x hx (k x m)⟩
theorem _root_.Wpm.IsPic.more (h : IsPic S H v P) (hb : H b = none) : IsPic (b :: S) H v P := by
  obtain ⟨t, a, b', c, d, pa, xb, xc, xd, e, ht, pc⟩ := h
  have ne : ∀ {x : Addr} {o : HO}, H x = some o → x ≠ b := fun h => ne_of_none h hb
  refine ⟨t, a, b', c, d, pa, xb, xc, xd, e, ht, pc.ha, pc.hb, pc.hc, pc.hd, pc.pile, pc.pegs, Paired.mapP pc.goings fun _ g q => ?_, pc.boxes, fun x hx m => ?_⟩
  · obtain ⟨t, l, vs, e, h1, h2, h3, h4⟩ := q
    exact ⟨t, l, vs, e, h1, h2, h3, fun m => by
      rcases List.mem_cons.mp m with e | m
      · exact ne h2 e
      · exact h4 m⟩
  · rcases List.mem_cons.mp m with e | m
    · simp only [List.mem_cons, List.not_mem_nil, or_false] at hx
      rcases hx with rfl | rfl | rfl | rfl
      · exact ne pc.ha e
      · exact ne pc.hb e
      · exact ne pc.hc e
      · exact ne pc.hd e
    · exact pc.free x hx m
end
/-! ### pictures as data -/
theorem lay_all : ∀ {ds : List PyData}, (∀ d ∈ ds, d.canLay0 = true) → PyData.canLayAll0 ds = true
  | [], _ => by simp [PyData.canLayAll0]
  | d :: ds, h => by
    simp only [PyData.canLayAll0]
    rw [h d List.mem_cons_self, lay_all fun x hx => h x (List.mem_cons_of_mem _ hx)] <;> rfl
theorem depth_all {n : Nat} : ∀ {ds : List PyData}, (∀ d ∈ ds, d.depth ≤ n) → PyData.depthAll ds ≤ n
  | [], _ => by simp [PyData.depthAll]
  | d :: ds, h => by
    have h1 := h d List.mem_cons_self
    have h2 := depth_all (n := n) fun x hx => h x (List.mem_cons_of_mem _ hx)
    simp only [PyData.depthAll]
    omega
theorem shaped_of {d : PyData} {n : Nat} (h : d.canLay0 = true) (k : d.depth ≤ n) (hn : n ≤ 64 := by decide) : SeqAt.shaped d = true := by
  show (d.canLay0 && decide (d.depth ≤ 64)) = true
  rw [h, decide_eq_true (Nat.le_trans k hn)] <;> rfl
def goD (g : Int × Int × List W) : PyData := .tuple [.int g.1, .int g.2.1, .list (g.2.2.map wD)]
def pgD (p : Str × W) : PyData := .tuple [.str p.1, wD p.2]
def bxD (p : Int × W) : PyData := .tuple [.int p.1, wD p.2]
def picD (P : Pic) : PyData := .tuple [.list (P.pile.map wD), .list (P.pegs.map pgD), .list (P.goings.map goD), .list (P.boxes.map bxD)]
theorem wDs_lay0 {ws : List W} (h : ∀ z ∈ ws, Wok z) : (PyData.list (ws.map wD)).canLay0 = true ∧ (PyData.list (ws.map wD)).depth ≤ 2 := by
  have h2 := wDs_depth ws
  simp only [PyData.canLay0, PyData.depth]
  exact ⟨wDs_lay ws h, by omega⟩
theorem goD_lay {g : Int × Int × List W} (h : ∀ z ∈ g.2.2, Wok z) : (goD g).canLay0 = true ∧ (goD g).depth ≤ 3 := by
  obtain ⟨h1, h2⟩ := wDs_lay0 h
  unfold goD
  refine ⟨?_, ?_⟩
  · simp only [PyData.canLay0]
    exact lay_all fun d hd => by
      simp only [List.mem_cons, List.not_mem_nil, or_false] at hd
      rcases hd with rfl | rfl | rfl
      · simp [PyData.canLay0]
      · simp [PyData.canLay0]
      · exact h1
  · have := depth_all (n := 2) (ds := [PyData.int g.1, .int g.2.1, .list (g.2.2.map wD)]) fun d hd => by
      simp only [List.mem_cons, List.not_mem_nil, or_false] at hd
      rcases hd with rfl | rfl | rfl
      · simp [PyData.depth]
      · simp [PyData.depth]
      · exact h2
    simp only [PyData.depth]
    omega
theorem pgD_lay {p : Str × W} (h : PyData.strOk p.1 = true) (hw : Wok p.2) : (pgD p).canLay0 = true ∧ (pgD p).depth ≤ 3 := by
  unfold pgD
  refine ⟨?_, ?_⟩
  · simp only [PyData.canLay0]
    exact lay_all fun d hd => by
      simp only [List.mem_cons, List.not_mem_nil, or_false] at hd
      rcases hd with rfl | rfl
      · simp only [PyData.canLay0]; exact h
      · exact wD_lay hw
  · have := depth_all (n := 2) (ds := [PyData.str p.1, wD p.2]) fun d hd => by
      simp only [List.mem_cons, List.not_mem_nil, or_false] at hd
      rcases hd with rfl | rfl
      · simp [PyData.depth]
      · rw [wD_depth]; omega
    simp only [PyData.depth]
    omega
theorem bxD_lay {p : Int × W} (hw : Wok p.2) : (bxD p).canLay0 = true ∧ (bxD p).depth ≤ 3 := by
  unfold bxD
  refine ⟨?_, ?_⟩
  · simp only [PyData.canLay0]
    exact lay_all fun d hd => by
      simp only [List.mem_cons, List.not_mem_nil, or_false] at hd
      rcases hd with rfl | rfl
      · simp [PyData.canLay0]
      · exact wD_lay hw
  · have := depth_all (n := 2) (ds := [PyData.int p.1, wD p.2]) fun d hd => by
      simp only [List.mem_cons, List.not_mem_nil, or_false] at hd
      rcases hd with rfl | rfl
      · simp [PyData.depth]
      · rw [wD_depth]; omega
    simp only [PyData.depth]
    omega
theorem list_lay {ds : List PyData} {n : Nat} (h : ∀ d ∈ ds, d.canLay0 = true ∧ d.depth ≤ n) : (PyData.list ds).canLay0 = true ∧ (PyData.list ds).depth ≤ n + 1 := by
  have := depth_all fun d hd => (h d hd).2
  simp only [PyData.canLay0, PyData.depth]
  exact ⟨lay_all fun d hd => (h d hd).1, by omega⟩
section
variable {P : Pic} {S : List Addr} {H : Hp} {v : V} {K : PySem.W.Frag} {xs : List V} {a : Addr}
theorem gos_lay (ok : P.Ok) : (PyData.list (P.goings.map goD)).canLay0 = true ∧ (PyData.list (P.goings.map goD)).depth ≤ 4 := list_lay fun d hd => by
  obtain ⟨g, hg, rfl⟩ := List.mem_map.mp hd
  exact goD_lay fun z hz => Ok.wok ok z (mem_worths_go hg hz)
theorem pgs_lay (ok : P.Ok) : (PyData.list (P.pegs.map pgD)).canLay0 = true ∧ (PyData.list (P.pegs.map pgD)).depth ≤ 4 := list_lay fun d hd => by
  obtain ⟨g, hg, rfl⟩ := List.mem_map.mp hd
  exact pgD_lay (Wu.low_ok (ok.names g hg).1.1) (Ok.wok ok _ (mem_worths_peg hg))
theorem bxs_lay (ok : P.Ok) : (PyData.list (P.boxes.map bxD)).canLay0 = true ∧ (PyData.list (P.boxes.map bxD)).depth ≤ 4 := list_lay fun d hd => by
  obtain ⟨g, hg, rfl⟩ := List.mem_map.mp hd
  exact bxD_lay (Ok.wok ok _ (mem_worths_box hg))
theorem picD_shaped (ok : P.Ok) : SeqAt.shaped (picD P) = true := by
  have h1 := wDs_lay0 (ws := P.pile) fun z hz => Ok.wok ok z (mem_worths_pile hz)
  refine shaped_of (n := 5) ?_ ?_
  · unfold picD
    simp only [PyData.canLay0]
    exact lay_all fun d hd => by
      simp only [List.mem_cons, List.not_mem_nil, or_false] at hd
      rcases hd with rfl | rfl | rfl | rfl
      · exact h1.1
      · exact (pgs_lay ok).1
      · exact (gos_lay ok).1
      · exact (bxs_lay ok).1
  · have := depth_all (n := 4) (ds := [PyData.list (P.pile.map wD), .list (P.pegs.map pgD), .list (P.goings.map goD), .list (P.boxes.map bxD)]) fun d hd => by
      simp only [List.mem_cons, List.not_mem_nil, or_false] at hd
      rcases hd with rfl | rfl | rfl | rfl
      · exact Nat.le_trans h1.2 (by decide)
      · exact (pgs_lay ok).2
      · exact (gos_lay ok).2
      · exact (bxs_lay ok).2
    unfold picD
    simp only [PyData.depth]
    omega
theorem gos_dp : ∀ {xs : List V} {gs : List (Int × Int × List W)}, Paired (IsGoT S H) xs gs → DpAll K H xs (gs.map goD)
  | _, _, .nil => .nil
  | _, _, .cons ⟨t, l, vs, e, h1, h2, h3, _⟩ r => by
    subst e
    exact .cons (.tup (SqT.of h1) (.cons (.int _) (.cons (.int _) (.cons (h3.dp (SqL.of h2)) .nil)))) (gos_dp r)
theorem pgs_dp : ∀ {xs : List V} {gs : List (Str × W)}, Paired (IsPegT H) xs gs → DpAll K H xs (gs.map pgD)
  | _, _, .nil => .nil
  | _, _, .cons ⟨t, v, e, h1, h2⟩ r => by
    subst e
    exact .cons (.tup (SqT.of h1) (.cons (.str _) (.cons h2.dp .nil))) (pgs_dp r)
theorem bxs_dp : ∀ {xs : List V} {gs : List (Int × W)}, Paired (IsBoxT H) xs gs → DpAll K H xs (gs.map bxD)
  | _, _, .nil => .nil
  | _, _, .cons ⟨t, v, e, h1, h2⟩ r => by
    subst e
    exact .cons (.tup (SqT.of h1) (.cons (.int _) (.cons h2.dp .nil))) (bxs_dp r)
theorem _root_.Wpm.IsPic.dp (h : IsPic S H v P) : Dp K H v (picD P) := by
  obtain ⟨t, a, b, c, d, pa, xb, xc, xd, rfl, ht, pc⟩ := h
  exact .tup (SqT.of ht) (.cons (pc.pile.dp (SqL.of pc.ha)) (.cons (.lst (SqL.of pc.hb) (pgs_dp pc.pegs)) (.cons (.lst (SqL.of pc.hc) (gos_dp pc.goings)) (.cons (.lst (SqL.of pc.hd) (bxs_dp pc.boxes)) .nil))))
end
theorem eqv_nilL {ds : List PyData} : PyData.eqv (.list ds) (.list []) = decide (ds = []) := by
  cases ds <;> simp [PyData.eqv, PyData.eqvAll]
theorem nil_shaped : SeqAt.shaped (.list []) = true := by
  refine shaped_of (n := 1) (by simp [PyData.canLay0, PyData.canLayAll0]) (by simp [PyData.depth, PyData.depthAll])
theorem pr_take {α β : Type} {F : α → β → Prop} : ∀ {l1 : List α} {l2 : List β}, Paired F l1 l2 → ∀ n, Paired F (l1.take n) (l2.take n)
  | _, _, .nil, n => by cases n <;> exact .nil
  | _, _, .cons r t, 0 => .nil
  | _, _, .cons r t, n + 1 => .cons r (pr_take t n)
theorem pr_drop {α β : Type} {F : α → β → Prop} : ∀ {l1 : List α} {l2 : List β}, Paired F l1 l2 → ∀ n, Paired F (l1.drop n) (l2.drop n)
  | _, _, .nil, n => by cases n <;> exact .nil
  | _, _, .cons r t, 0 => .cons r t
  | _, _, .cons r t, n + 1 => pr_drop t n
theorem pr_app {α β : Type} {F : α → β → Prop} : ∀ {l1 l3 : List α} {l2 l4 : List β}, Paired F l1 l2 → Paired F l3 l4 → Paired F (l1 ++ l3) (l2 ++ l4)
  | _, _, _, _, .nil, k => k
  | _, _, _, _, .cons r t, k => .cons r (pr_app t k)
theorem mem_split {α : Type} {l : List α} {i : Nat} {x y : α} (h : l[i]? = some x) (hy : y ∈ l) : y ∈ l.take i ∨ y = x ∨ y ∈ l.drop (i + 1) := by
  have e : l = l.take i ++ x :: l.drop (i + 1) := by
    have hi := (List.getElem?_eq_some_iff.mp h).1
    have hx := (List.getElem?_eq_some_iff.mp h).2
    rw [← hx, ← List.drop_eq_getElem_cons hi, List.take_append_drop]
  rw [e] at hy
  rcases List.mem_append.mp hy with h | h
  · exact .inl h
  · rcases List.mem_cons.mp h with h | h
    · exact .inr (.inl h)
    · exact .inr (.inr h)
theorem split_at {α : Type} {l : List α} {i : Nat} {x : α} (h : l[i]? = some x) : l = l.take i ++ x :: l.drop (i + 1) := by
  have hi := (List.getElem?_eq_some_iff.mp h).1
  have hx := (List.getElem?_eq_some_iff.mp h).2
  rw [← hx, ← List.drop_eq_getElem_cons hi, List.take_append_drop]
/-- the pile, or a going's, begun by plain worths -/
theorem Ok.longPile {P : Pic} {ms : List W} (ok : P.Ok) (h : ∀ z ∈ ms, Plain z) : Pic.Ok { P with pile := ms ++ P.pile } := by
  refine Ok.like ok rfl rfl rfl (fun z hz => ?_) fun z hz => ?_
  · unfold Pic.worths at hz
    rcases List.mem_append.mp hz with h1 | h1
    · rcases List.mem_append.mp h1 with h1 | h1
      · rcases List.mem_append.mp h1 with h1 | h1
        · exact .inr (h z h1)
        · exact .inl (mem_worths_pile h1)
      · exact .inl (List.mem_append_left _ (List.mem_append_right _ h1))
    · exact .inl (List.mem_append_right _ h1)
  · unfold Pic.worths at hz
    rcases List.mem_append.mp hz with h1 | h1
    · rcases List.mem_append.mp h1 with h1 | h1
      · exact mem_worths_pile (P := { P with pile := ms ++ P.pile }) (List.mem_append_right _ h1)
      · exact List.mem_append_left _ (List.mem_append_right _ h1)
    · exact List.mem_append_right _ h1
theorem Ok.longGo {P : Pic} {ms : List W} {i : Nat} {g : Int × Int × List W} (ok : P.Ok) (h : ∀ z ∈ ms, Plain z) (hg : P.goings[i]? = some g) : Pic.Ok { P with goings := P.goings.take i ++ [(g.1, g.2.1, ms ++ g.2.2)] ++ P.goings.drop (i + 1) } := by
  have es := split_at hg
  refine Ok.like ok rfl rfl ?_ (fun z hz => ?_) fun z hz => ?_
  · show (P.goings.take i ++ [(g.1, g.2.1, ms ++ g.2.2)] ++ P.goings.drop (i + 1)).map _ = _
    conv => rhs; rw [es]
    rw [List.append_assoc, List.map_append, List.map_append, List.map_append] <;> rfl
  · unfold Pic.worths at hz
    rcases List.mem_append.mp hz with h1 | h1
    · exact .inl (List.mem_append_left _ h1)
    · obtain ⟨g2, h2, h3⟩ := List.mem_flatMap.mp h1
      have h2 : g2 ∈ P.goings.take i ++ [(g.1, g.2.1, ms ++ g.2.2)] ++ P.goings.drop (i + 1) := h2
      rcases List.mem_append.mp h2 with h2 | h2
      · rcases List.mem_append.mp h2 with h2 | h2
        · exact .inl (mem_worths_go (List.mem_of_mem_take h2) h3)
        · rw [List.mem_singleton.mp h2] at h3
          rcases List.mem_append.mp h3 with h3 | h3
          · exact .inr (h z h3)
          · exact .inl (mem_worths_go (List.mem_of_getElem? hg) h3)
      · exact .inl (mem_worths_go (List.mem_of_mem_drop h2) h3)
  · unfold Pic.worths at hz
    rcases List.mem_append.mp hz with h1 | h1
    · exact List.mem_append_left _ h1
    · obtain ⟨g2, h2, h3⟩ := List.mem_flatMap.mp h1
      refine List.mem_append_right _ (List.mem_flatMap.mpr ?_)
      rcases mem_split hg h2 with h2 | h2 | h2
      · exact ⟨g2, List.mem_append_left _ (List.mem_append_left _ h2), h3⟩
      · rw [h2] at h3
        exact ⟨(g.1, g.2.1, ms ++ g.2.2), List.mem_append_left _ (List.mem_append_right _ (List.mem_singleton.mpr rfl)), List.mem_append_right _ h3⟩
      · exact ⟨g2, List.mem_append_right _ h2, h3⟩
/-! ### ways -/
def wayM (R : List W) (h : W → List W) (way : List W) : Bool := match way with
  | [] => false
  | w :: ws => decide (w ∈ R) && ((w :: ws).zip ws).all fun p => decide (p.2 ∈ h p.1)
def WayAll (h : W → List W) (way : List W) (n : Nat) : Prop := ∀ j, 0 < j → j < n → ∀ x y, way[j - 1]? = some x → way[j]? = some y → y ∈ h x
theorem way_true {R : List W} {h : W → List W} {way : List W} : wayM R h way = true ↔ (∃ w, way[0]? = some w ∧ w ∈ R) ∧ WayAll h way way.length := by
  cases way with
  | nil =>
    constructor
    · intro e; cases e
    · rintro ⟨⟨w, e, _⟩, _⟩; cases e
  | cons w ws =>
    unfold wayM
    rw [Bool.and_eq_true, decide_eq_true_eq, List.all_eq_true]
    constructor
    · rintro ⟨h1, h2⟩
      refine ⟨⟨w, rfl, h1⟩, fun j j0 jl x y hx hy => ?_⟩
      obtain ⟨k, rfl⟩ : ∃ k, j = k + 1 := ⟨j - 1, by omega⟩
      have hx : (w :: ws)[k]? = some x := hx
      have hy : ws[k]? = some y := hy
      have hm : (x, y) ∈ (w :: ws).zip ws := List.mem_of_getElem? (List.getElem?_zip_eq_some.mpr ⟨hx, hy⟩)
      exact of_decide_eq_true (h2 _ hm)
    · rintro ⟨⟨w', e, h1⟩, h2⟩
      cases e
      refine ⟨h1, fun p hp => ?_⟩
      obtain ⟨k, hk⟩ := List.mem_iff_getElem?.mp hp
      obtain ⟨hx, hy⟩ := List.getElem?_zip_eq_some.mp hk
      have kl := (List.getElem?_eq_some_iff.mp hy).1
      exact decide_eq_true (h2 (k + 1) (Nat.succ_pos k) (by simp only [List.length_cons]; omega) p.1 p.2 hx hy)
theorem way_false {R : List W} {h : W → List W} {way : List W} (n : ¬ ((∃ w, way[0]? = some w ∧ w ∈ R) ∧ WayAll h way way.length)) : wayM R h way = false := by
  cases e : wayM R h way with
  | false => rfl
  | true => exact absurd (way_true.mp e) n
/-- each thing of a way so far is in the picture -/
theorem way_in {P : Pic} (ok : P.Ok) {way : List W} {n : Nat} (h0 : ∃ w, way[0]? = some w ∧ w ∈ rootsM P) (ha : WayAll (holdM (tableM P)) way n) : ∀ j, j < n → ∀ x, way[j]? = some x → x ∈ P.things := by
  intro j
  induction j with
  | zero =>
    intro _ x hx
    obtain ⟨w, hw, hr⟩ := h0
    rw [hx] at hw
    cases hw
    exact root_thing ok hr
  | succ j ih =>
    intro hj x hx
    have jl := (List.getElem?_eq_some_iff.mp hx).1
    obtain ⟨y, hy⟩ : ∃ y, way[j]? = some y := ⟨_, List.getElem?_eq_getElem (by omega)⟩
    exact hold_thing ok (ha (j + 1) (Nat.succ_pos j) hj y x hy hx)
/-! ### beside a well -/
section
variable {H H' : Hp} {b l a : Addr} {n : Nat} {vs : List V} {ws : List W} {kvs : List (List Key × V)} {tb : List (W × List W)}
theorem pile_ne (hl : H l = some (.lst vs)) (p : Pile H vs ws) (hw : Ww.Well H b n) : l ≠ b := by
  rintro rfl
  obtain ⟨x, y, z, h1, _⟩ := hw
  rw [h1] at hl
  cases hl
  cases p with
  | cons r t =>
    obtain ⟨t, e, _⟩ := r
    cases e
theorem Tab.kp (h : Tab H kvs tb) (hw : Ww.Well H b n) (k : Kp b H H') : Tab H' kvs tb := Paired.mapP h fun _ _ q => by
  obtain ⟨q1, l, vs, e, h1, h2, h3⟩ := q
  exact ⟨q1, l, vs, e, k _ _ (pile_ne h1 h2 hw) h1, h2.keep (hw.ks k).tk, h3⟩
theorem pile_cut {lo hi : Option Int} (p : Pile H vs ws) : ∃ zs, Pile H (cutV vs lo hi) zs ∧ zs.length ≤ ws.length ∧ ∀ z ∈ zs, z ∈ ws := by
  unfold cutV
  refine ⟨_, (p.drop _).take _, ?_, fun z hz => List.mem_of_mem_drop (List.mem_of_mem_take hz)⟩
  rw [List.length_take, List.length_drop]
  omega
theorem cut_len {vs : List V} {lo hi : Option Int} : (cutV vs lo hi).length ≤ vs.length := by
  unfold cutV
  rw [List.length_take, List.length_drop]
  omega
end
theorem hold_len {P : Pic} {z : W} {n : Nat} (hn : 1 ≤ n) (h : ∀ g ∈ P.goings, g.2.2.length ≤ n) : (holdM (tableM P) z).length ≤ n := by
  unfold holdM
  cases c : (tableM P).find? fun e => decide (e.1 = z) with
  | none => exact Nat.zero_le _
  | some e =>
    have m := List.mem_of_find?_eq_some c
    show e.2.length ≤ n
    unfold tableM at m
    rcases List.mem_append.mp m with m | m
    · obtain ⟨b, hb, rfl⟩ := List.mem_map.mp m
      have := things_len (ws := [b.2])
      have e1 : [b.2].length = 1 := rfl
      show (thingsM [b.2]).length ≤ n
      omega
    · obtain ⟨g, hg, rfl⟩ := List.mem_map.mp m
      have := things_len (ws := g.2.2)
      have := h g hg
      show (thingsM g.2.2).length ≤ n
      omega
theorem last_at {xs : List V} {u : V} {n : Nat} (h : xs[n]? = some u) (e : n + 1 = xs.length) {j : Int} (hj : j = -1) : atI xs j = some u := by
  have h1 : ixN xs.length j = some n := by
    unfold ixN
    rw [if_neg (by omega)]
    rw [if_pos (by omega)]
    congr 1
    omega
  unfold atI
  rw [h1]
  exact h
/-! ### what is reached -/
inductive Reach (R : List W) (h : W → List W) : W → Prop where
  | root {z : W} : z ∈ R → Reach R h z
  | step {y z : W} : Reach R h y → z ∈ h y → Reach R h z
theorem reach_thing {P : Pic} (ok : P.Ok) {z : W} (r : Reach (rootsM P) (holdM (tableM P)) z) : z ∈ P.things := by
  cases r with
  | root h => exact root_thing ok h
  | step _ h => exact hold_thing ok h
theorem thing_isT {P : Pic} {z : W} (h : z ∈ P.things) : isT z = true := by
  rw [isT_iff]
  unfold Pic.things at h
  rcases List.mem_append.mp h with h | h
  · obtain ⟨b, _, rfl⟩ := List.mem_map.mp h
    exact .inl rfl
  · obtain ⟨b, _, rfl⟩ := List.mem_map.mp h
    exact .inr rfl
theorem sub_len : ∀ {F L : List W}, F.Nodup → (∀ z ∈ F, z ∈ L) → F.length ≤ L.length
  | [], _, _, _ => Nat.zero_le _
  | a :: F, L, nd, h => by
    have nd2 := List.nodup_cons.mp nd
    have ha := h a List.mem_cons_self
    have ih := sub_len (F := F) (L := L.erase a) nd2.2 fun z hz => by
      refine (List.mem_erase_of_ne fun e => ?_).mpr (h z (List.mem_cons_of_mem _ hz))
      exact nd2.1 (e ▸ hz)
    have := List.length_erase_of_mem ha
    have := List.length_pos_of_mem ha
    rw [List.length_cons]
    omega
structure FarI (P : Pic) (F N : List W) : Prop where
  nd : (F ++ N).Nodup
  inT : ∀ z ∈ F ++ N, Reach (rootsM P) (holdM (tableM P)) z
  root : ∀ z ∈ rootsM P, z ∈ F ++ N
  shut : ∀ y ∈ F, ∀ z ∈ holdM (tableM P) y, z ∈ F ++ N
def nextN (P : Pic) (F N : List W) : List W := thingsM (N.flatMap fun y => (holdM (tableM P) y).filter fun z => decide (z ∉ F ++ N))
theorem FarI.start {P : Pic} : FarI P [] (rootsM P) := ⟨things_nodup, fun z h => .root h, fun z h => h, fun _ h => nomatch h⟩
theorem FarI.next {P : Pic} {F N : List W} (i : FarI P F N) : FarI P (F ++ N) (nextN P F N) := by
  have mem : ∀ z, z ∈ nextN P F N ↔ (∃ y ∈ N, z ∈ holdM (tableM P) y) ∧ z ∉ F ++ N := by
    intro z
    unfold nextN
    rw [mem_things, List.mem_flatMap]
    constructor
    · rintro ⟨⟨y, hy, hz⟩, _⟩
      rw [List.mem_filter] at hz
      exact ⟨⟨y, hy, hz.1⟩, of_decide_eq_true hz.2⟩
    · rintro ⟨⟨y, hy, hz⟩, n⟩
      exact ⟨⟨y, hy, List.mem_filter.mpr ⟨hz, decide_eq_true n⟩⟩, (hold_mem hz).2⟩
  refine ⟨?_, fun z h => ?_, fun z h => List.mem_append_left _ (i.root z h), fun y hy z hz => ?_⟩
  · refine List.pairwise_append.mpr ⟨i.nd, things_nodup, ?_⟩
    intro x hx y hy e
    exact ((mem y).mp hy).2 (e ▸ hx)
  · rcases List.mem_append.mp h with h | h
    · exact i.inT z h
    · obtain ⟨⟨y, hy, hz⟩, _⟩ := (mem z).mp h
      exact .step (i.inT y (List.mem_append_right _ hy)) hz
  · rcases List.mem_append.mp hy with hy | hy
    · exact List.mem_append_left _ (i.shut y hy z hz)
    · by_cases c : z ∈ F ++ N
      · exact List.mem_append_left _ c
      · exact List.mem_append_right _ ((mem z).mpr ⟨⟨y, hy, hz⟩, c⟩)
theorem FarI.done {P : Pic} {F : List W} (i : FarI P F []) : ∀ z, z ∈ F ↔ Reach (rootsM P) (holdM (tableM P)) z := by
  have e : F ++ [] = F := List.append_nil F
  intro z
  constructor
  · intro h; exact i.inT z (by rw [e]; exact h)
  · intro r
    induction r with
    | root h => have := i.root _ h; rw [e] at this; exact this
    | step _ h ih => have := i.shut _ ih _ h; rw [e] at this; exact this
theorem FarI.len {P : Pic} {F N : List W} (ok : P.Ok) (i : FarI P F N) : F.length + N.length ≤ P.things.length := by
  rw [← List.length_append]
  exact sub_len i.nd fun z h => reach_thing ok (i.inT z h)
/-- a dict whose keys are these -/
def Keyed (kvs : List (List Key × V)) (F : List W) : Prop := kvs.map (·.1) = F.map keyT
theorem Keyed.len {kvs : List (List Key × V)} {F : List W} (h : Keyed kvs F) : kvs.length = F.length := by
  have := congrArg List.length h
  rw [List.length_map, List.length_map] at this
  exact this
theorem Keyed.some {kvs : List (List Key × V)} {F : List W} (h : Keyed kvs F) {z : W} : (valV kvs (keyT z)).isSome = decide (z ∈ F) := by
  unfold Keyed at h
  induction kvs generalizing F with
  | nil =>
    cases F with
    | nil => rfl
    | cons _ _ => cases h
  | cons kv kvs ih =>
    cases F with
    | nil => cases h
    | cons y F =>
      rw [List.map_cons, List.map_cons] at h
      obtain ⟨h1, h2⟩ := List.cons.inj h
      by_cases c : kv.1 = keyT z
      · have e : z = y := keyT_inj (c.symm.trans h1)
        rw [show kv :: kvs = (kv.1, kv.2) :: kvs from rfl, valV_pos c, e]
        simp
      · rw [show kv :: kvs = (kv.1, kv.2) :: kvs from rfl, valV_neg c, ih h2]
        have n : z ≠ y := fun e => c (by rw [h1, e])
        simp [n]
theorem Keyed.put {kvs : List (List Key × V)} {F : List W} (h : Keyed kvs F) {z : W} (n : z ∉ F) (v : V) : Keyed (putK kvs (keyT z) v) (F ++ [z]) := by
  unfold Keyed at *
  rw [put_new, List.map_append, List.map_append, h]
  · rfl
  · rw [h]
    intro m
    obtain ⟨y, hy, e⟩ := List.mem_map.mp m
    exact n (keyT_inj e ▸ hy)
theorem Keyed.put2 {kvs : List (List Key × V)} {F : List W} (h : Keyed kvs F) {z : W} (m : z ∈ F) (v : V) : Keyed (putK kvs (keyT z) v) F := by
  unfold Keyed at *
  unfold putK
  rw [if_pos]
  · rw [List.map_map]
    rw [← h]
    refine List.map_congr_left fun kv _ => ?_
    show (if kv.1 = keyT z then (kv.1, v) else kv).1 = kv.1
    split <;> rfl
  · have : keyT z ∈ kvs.map (·.1) := by rw [h]; exact List.mem_map.mpr ⟨z, m, rfl⟩
    obtain ⟨kv, h1, h2⟩ := List.mem_map.mp this
    exact List.any_eq_true.mpr ⟨kv, h1, decide_eq_true h2⟩
end Wth

/-! y = {k: v for target in iter}, on one line. -/
namespace Wv
open PySem PySem.Spec PyProof.Rows L2 Wp
section
variable {X : Cx}
theorem sw_dict {kx vx : Expr} {gs : List Comprehension} {sc : Scope} {q py : Pos} {y : Str} {l : Nat} {en : Env} (h1 : en.scope.kind = .function) (h2 : en.scope.names.lookup y = some .local) (h3 : (py.line == q.line) = true)
    (h4 : (sc.names.any fun (n, k) => n == y && (k == .local || k == .cell)) = false) : swapsWith (.DictComp kx vx gs sc q) (some (.Name y py)) l en = pure true := by
  have e1 : en.kindOf y = some .local := h2
  have e2 : en.blockKind = .function := by
    unfold Env.blockKind
    rw [h1] <;> rfl
  unfold swapsWith
  simp only [e2, e1, h4, Expr.pos, h3] <;> rfl
theorem ps_setDc {i : Nat} {y : Str} {py : Pos} {kx vx tg it : Expr} {ifs : List Expr} {sc : Scope} {own : List (Str × Nat)} {q sq : Pos} {wi : TI} {g : TG} {tt : TT} {tk tv : TE} (hc : X.calm = true) (hN : X.N.Nodup) (hy : X.N[i]? = some y) (hl : X.env.scope.names.lookup y = some .local)
    (sw : swapsWith (.DictComp kx vx [⟨tg, it, ifs, 0⟩] sc q) (some (.Name y py)) sq.line X.env = pure true) (hi : PI X tg it wi) (ok : BlkOk X.N X.env.scope sc own)
    (hg : ∀ (s : Shared) (H : Hp) (C : Addr) (cl : List (Str × Addr)) (fp : List Addr), PG (X.blk s H sc (compEnvC sc cl C X.env) fp) tg g)
    (ht : ∀ (s : Shared) (H : Hp) (C : Addr) (cl : List (Str × Addr)) (fp : List Addr), PTs (X.blk s H sc (compEnvC sc cl C X.env) fp) ifs tt)
    (hk : ∀ (s : Shared) (H : Hp) (C : Addr) (cl : List (Str × Addr)) (fp : List Addr), PE (X.blk s H sc (compEnvC sc cl C X.env) fp) kx tk)
    (he : ∀ (s : Shared) (H : Hp) (C : Addr) (cl : List (Str × Addr)) (fp : List Addr), PE (X.blk s H sc (compEnvC sc cl C X.env) fp) vx tv) (hs : ∀ x, foldedSetIterable it X.env x = pure x := by intro _; rfl) :
    PS X (.Assign [.Name y py] (.DictComp kx vx [⟨tg, it, ifs, 0⟩] sc q) sq) (tAsg (tDc wi g tt tk tv (own.map (·.2))) (gName i)) := by
  refine ⟨fun pins s σ H D I w0 => ?_⟩
  have w1 : tDc wi g tt tk tv (own.map (·.2)) σ H (fun x H1 => gName i x σ H1 D.nx) := w0
  rw [exec_Assign_Name_used _ _ _ _ sw]
  refine (wpAny_bind (wpAny_standAt (wpAny_bind (wpAny_bind (thn (dc_core (Qf := fun _ s2 => SP X pins D .next s2) hc hN I hi ok hg ht hk he hs w1 fun L C s2 m H2 I2 q2 hn f => ?_) fun _ s3 z => wpAny_pure (wpAny_pure z))))))
  refine wpAny_assign_Name (store_ok2 (v := V.ref L) I2 hN hy (.inl hl) rfl (fun s3 I3 ⟨a, sb, ha⟩ => ?_) (.inr hl))
  obtain ⟨n0, n1, n2, n3, n4, n5⟩ := f
  have ne : C ≠ a := ha.elim (fun z => by rw [z]; exact n1) (fun z e => n4 y a z e.symm)
  exact ⟨m, hn.sameBut sb ne, fun h4 sb4 => ⟨_, H2, I3.turned (t' := s3.toks) (fun b o hb e => (sb4.2 b hb).trans e) n0 n1 n3 n4 n5, q2⟩⟩
end
end Wv

/-! {k: v for target in iter}, the keys tuples. -/
namespace Wtc
open PySem PySem.Spec PyProof.Rows L2 Wp
/-- a new dict of tuple keys, turn by turn -/
def LoopD (J : It) (g : TG) (tt : TT) (tk tv : TE) (ws : List Nat) (σ : L2.St) (D : Addr) (Qd : Hp → Prop) (H0 : Hp) : Prop := ∃ W : Nat → Nat → Hp → Prop, (∃ m, W 0 m H0) ∧ ∀ i m H, W i m H →
  (J.stop i H ∧ Qd H) ∨ (J.go i H ∧ ∃ Nx : Hp → Prop, (∀ H', Nx H' → ∃ m', m' < m ∧ W (i + 1) m' H') ∧ ∀ x H', J.yld i H x H' → g x (wipe σ ws) H' fun σ2 H2 => wipe σ2 ws = wipe σ ws ∧ tt σ2 H2 fun b H3 =>
    if b = true then tk σ2 H3 fun y H4 => tv σ2 H4 fun z H5 => ∃ kvs, ∃ k : List Key, ∃ c, H5 D = some (.dT kvs) ∧ y = .ref c ∧ H5 c = some (.tup (k.map kV)) ∧ kvs.length < sizeLine ∧ Nx (upd H5 D (.dT (putK kvs k z))) else Nx H3)
def tDcT (wi : TI) (g : TG) (tt : TT) (tk tv : TE) (ws : List Nat) : TE := fun σ H Q => wi σ H fun J H1 => ∀ D, H1 D = none → LoopD J g tt tk tv ws σ D (fun H => Q (.ref D) H) (upd H1 D (.dT []))
section
variable {X : Cx}
/-- one pair more, in the model -/
theorem set_tup {pins : List (Addr × Obj)} {σ : L2.St} {H : Hp} {s : Shared} {Ex : Value → Shared → Prop} {D c : Addr} {kvs : List (List Key × V)} {k : List Key} {z : V} {r : Value} {Q : Unit → Shared → Prop} (hu : X.A.units + 1 < cLine) (I : Inv X pins σ H s)
    (hD : H D = some (.dT kvs)) (hc : H c = some (.tup (k.map kV))) (hl : kvs.length < sizeLine) (rz : RelV z r) (go : ∀ s', Inv X pins σ (upd H D (.dT (putK kvs k z))) s' → Q () s') : wpAny (model X.prog X.w) X.A (dictSet D (.ref c) r) Q Ex s := by
  obtain ⟨w1, w2, ps, rp, dd⟩ := dt_of I.hok hD
  have n1 : ps.length ≤ sizeLine := by rw [← Paired.length rp]; exact w1
  have n2 : (putK kvs k z).length ≤ sizeLine := Nat.le_trans (length_putK kvs k z) (by omega)
  refine wpAny_dictSet_heap (hsz := n1) (show _ < cLine by first | exact hu | omega) (key_of I.hok hc) dd fun h2 d2 sb => go _ ?_
  obtain ⟨o2, e1, e2, e3, e4, e5, e6, e7, e8⟩ := d2
  exact d_write I (by rw [hD]; exact True.intro) sb ⟨o2, e3⟩ ⟨n2, w2, _, (rp.put k hc rz).keeps fun a ys ha => (upd_ne (ne_of ha hD (fun q => nomatch q))).trans ha, o2, e1, e2, e3, e4, e5, e6, e8⟩
/-- the block of a comprehension -/
abbrev Blk (X : Cx) (sc : Scope) (fp : List Addr) (s : Shared) (H : Hp) : Cx := X.blk s H sc (compEnvC sc (cellsFrom (s.heap.objs.size + 1) sc.names (cloFrom X.env.cells sc.names [])) s.heap.objs.size X.env) fp
/-- a turn's heap is as good as the start's -/
def Held (Y : Cx) (tn : Nat → Heap → Prop) (fp : List Addr) (τ : L2.St) (W : Nat → Nat → Hp → Prop) (n : Nat) (s : Shared) : Prop := ∃ i H, Inv Y [] τ H s ∧ tn i s.heap ∧ (∀ b ∈ fp, H b = none) ∧ W i n H
theorem core {pins : List (Addr × Obj)} {s : Shared} {σ : L2.St} {H : Hp} {Q : VK} {kx vx tg it : Expr} {ifs : List Expr} {sc : Scope} {own : List (Str × Nat)} {p1 p2 : Pos} {wi : TI} {g : TG} {tt : TT} {tk tv : TE} {use : Option (Value → Sem Unit)} {Qf : Value → Shared → Prop}
    (hu : X.A.units + 1 < cLine) (hc : X.calm = true) (hN : X.N.Nodup) (I : Inv X pins σ H s) (hi : PI X tg it wi) (ok : BlkOk X.N X.env.scope sc own)
    (blk : ∀ (s : Shared) (H : Hp) (fp : List Addr), PG (Blk X sc fp s H) tg g ∧ PTs (Blk X sc fp s H) ifs tt ∧ PE (Blk X sc fp s H) kx tk ∧ PE (Blk X sc fp s H) vx tv) (hs : ∀ x, foldedSetIterable it X.env x = pure x)
    (h : tDcT wi g tt tk tv (own.map (·.2)) σ H Q)
    (out : ∀ D C s' m H', Inv X pins σ H' s' → Q (.ref D) H' → s'.heap.Ns C m → FpOk X pins H' C → compPost (model X.prog X.w) X.A X.xe use Qf (.ref D) C (.ok .next) s') :
    wpAny (model X.prog X.w) X.A (comprehension (.DictComp kx vx [⟨tg, it, ifs, 0⟩] sc p1) sc X.env p2 newDict false (eval it X.env) use) Qf X.xe s := by
  refine wpAny_comprehension_free (use := use) rfl hs (closure_ok fun y hy e => (ok.free y hy e).elim (fun k => I.ok.has _ (.inl k)) fun k => I.ok.has _ (.inr k)) ok.kind (fun y hy e => by rw [ok.uniq y hy, e]) ?_
  refine thn (hi.run pins s σ H _ I h) fun _ _ hx => thn hx fun _ s2 ⟨a, fp, tn, J, H2, ea, I2, T, t2, f2, rd⟩ => ?_
  subst ea
  refine wpAny_newObj_type (newEnv_comp ?_)
  have new : H2 s2.heap.objs.size = none := I2.hok.fresh (Nat.le_refl _)
  obtain ⟨W, ⟨m0, w0⟩, turn⟩ := rd _ new
  have low : ∀ b ∈ fp, b < s2.heap.objs.size := fun b hb => (T.obj _ _ t2 b hb).elim fun _ e => Heap.lt_size e.1
  let s3 : Shared := { s2 with heap := s2.heap.push { cls := .type "dict", data := .dict #[] } }
  have I3 : Inv X pins σ (upd H2 s2.heap.objs.size (.dT [])) s3 := I2.laid (t' := s2.toks) (fun _ _ q => Heap.get?_push_of_some _ q) (Nat.le_refl _) (dt_empty s2.heap I2.big)
  have f3 : ∀ b ∈ fp, FpOk X pins (upd H2 s2.heap.objs.size (.dT [])) b ∧ b < s3.heap.objs.size := fun b hb =>
    ⟨⟨(upd_ne (Nat.ne_of_lt (low b hb))).trans (f2 b hb).1, (f2 b hb).2⟩, Nat.lt_of_lt_of_eq (Nat.lt_succ_of_lt (low b hb)) (Heap.size_push _ _).symm⟩
  have t3 : tn 0 s3.heap := T.keep _ _ _ t2 fun _ _ _ e => Heap.get?_push_of_some _ e
  have I4 := block_start I3 ok hN f3
  obtain ⟨pg, pt, pk, pe⟩ := blk s3 (upd H2 s2.heap.objs.size (.dT [])) fp
  let ce := compEnvC sc (cellsFrom (s3.heap.objs.size + 1) sc.names (cloFrom X.env.cells sc.names [])) s3.heap.objs.size X.env
  let s4 : Shared := { s3 with heap := pushCells (s3.heap.push { cls := .type "dict", data := .dict #[] }) sc.names }
  let Y := X.blk s3 (upd H2 s2.heap.objs.size (.dT [])) sc ce fp
  have t4 : tn 0 s4.heap := T.keep _ _ _ t3 fun _ _ _ e => pushCells_keeps _ _ _ _ (Heap.get?_push_of_some _ e)
  have own_ : ∀ {τ : L2.St} {H' : Hp} {s' : Shared}, Inv Y [] τ H' s' → (∀ b ∈ fp, H' b = none) → ∀ b ∈ fp, FpOk Y [] H' b := fun {τ H' s'} J n b hb =>
    let q := J.ok.exf b hb
    ⟨n b hb, q.1, J.ok.exfs b hb, .inl hb, fun x c e => q.2 x c e, fun p hp => nomatch (show p ∈ ([] : List (Addr × Obj)) from hp)⟩
  have lp : codeAny (model X.prog X.w) X.A (.compLoop (.DictComp kx vx [⟨tg, it, ifs, 0⟩] sc p1) 0 (.ref a) (.ref s2.heap.objs.size) ce) (compPost (model X.prog X.w) X.A X.xe use Qf (.ref s2.heap.objs.size) s3.heap.objs.size) s4 := by
    refine compLoop_anyD (Held Y tn fp (wipe σ (own.map (·.2))) W) (fun n s5 ⟨i, H5, I5, t5, n5, w5⟩ => ?_) m0 ⟨0, _, I4, t4, fun b hb => (f3 b hb).1.1, w0⟩
    rcases turn i n H5 w5 with ⟨st, fin⟩ | ⟨go, Nx, dn, step⟩
    · refine thnF (T.done Y rfl rfl rfl hc i [] s5 _ H5 (fun _ _ => False) I5 (own_ I5 n5) t5 st) fun r s6 ⟨er, I6⟩ => ?_
      subst er
      obtain ⟨m, hm, _⟩ := I6.loc
      have nC : H5 s3.heap.objs.size = none := I6.free
      have I7 : Inv X pins σ H5 s6 := I3.call' (ch := fp) I6.os I6.base I6.hok I6.bare fun b hb =>
        let q := (f3 b hb).1.2
        ⟨q.2.2.1, q.1, q.2.2.2.1, q.2.2.2.2⟩
      exact out _ _ s6 m H5 I7 fin hm (I3.fpOk (Nat.le_refl _) nC)
    · refine thnF (T.item Y rfl rfl rfl hc i [] s5 _ H5 (fun _ _ => False) I5 (own_ I5 n5) t5 go) fun r s6 ⟨u, er, h6⟩ => ?_
      subst er
      refine thnF h6 fun _ s7 ⟨x, H7, I7, r7, y7, t7, n7⟩ => ?_
      refine thnF (pg.run _ s7 _ H7 x u _ (I7.pinned (own_ I7 n7) (T.obj _ _ t7)) r7 (step x H7 y7)) fun _ s8 ⟨τ, H8, I8, ew, q8⟩ => ?_
      refine thnF (pt.run _ s8 τ H8 _ I8 q8) fun b s9 ⟨H9, I9, q9⟩ => ?_
      have next : ∀ {s' : Shared} {H' : Hp}, Inv Y ([] ++ pinsAt fp s7.heap) τ H' s' → Nx H' → ∃ m, m < n ∧ Held Y tn fp (wipe σ (own.map (·.2))) W m s' := fun {s' H'} J nx => by
        obtain ⟨m, hm, w'⟩ := dn H' nx
        have kept : ∀ b ∈ fp, ∀ o, s7.heap.get? b = some o → s'.heap.get? b = some o ∧ H' b = none := fun b hb o e =>
          let q := J.pin (b, o) (List.mem_append_right _ (List.mem_append_right _ (mem_pinsAt hb e)))
          ⟨q.1, q.2.1⟩
        refine ⟨m, hm, i + 1, H', J.unpinned (pins := []) |>.weak (by rw [← ew, wipe_length]) fun j v e => (wipe_some (ew ▸ e)).1, T.keep _ _ _ t7 fun b hb o e => (kept b hb o e).1, fun b hb => ?_, w'⟩
        obtain ⟨o, e, _⟩ := T.obj _ _ t7 b hb
        exact (kept b hb o e).2
      cases b with
      | false =>
        rw [if_neg Bool.false_ne_true] at q9 ⊢
        exact next I9 q9
      | true =>
        rw [if_pos rfl] at q9 ⊢
        refine thnF (pk.run _ s9 τ H9 _ I9 q9) fun z s10 ⟨yk, H10, I10, r10, q10⟩ => ?_
        refine thnF (pe.run _ s10 τ H10 _ I10 q10) fun z2 s11 ⟨yv, H11, I11, r11, kvs, k, c, hD, ek, hk, hl, nx⟩ => ?_
        subst ek
        obtain rfl : z = Value.ref c := r10
        exact set_tup (X := Y) hu I11 hD hk hl r11 fun s12 I12 => next I12 nx
  exact codeAny_compStart_dict lp (T.self X.A 0 _ _ _ t4 lp)
theorem pe_dcT {kx vx tg it : Expr} {ifs : List Expr} {sc : Scope} {own : List (Str × Nat)} {pos : Pos} {wi : TI} {g : TG} {tt : TT} {tk tv : TE} (hu : X.A.units + 1 < cLine) (hc : X.calm = true) (hN : X.N.Nodup) (hi : PI X tg it wi) (ok : BlkOk X.N X.env.scope sc own)
    (blk : ∀ (s : Shared) (H : Hp) (fp : List Addr), PG (Blk X sc fp s H) tg g ∧ PTs (Blk X sc fp s H) ifs tt ∧ PE (Blk X sc fp s H) kx tk ∧ PE (Blk X sc fp s H) vx tv) (hs : ∀ x, foldedSetIterable it X.env x = pure x := by intro _; rfl) :
    PE X (.DictComp kx vx [⟨tg, it, ifs, 0⟩] sc pos) (tDcT wi g tt tk tv (own.map (·.2))) := by
  refine ⟨fun pins s σ H Q I h => ?_⟩
  rw [arm_eval_DictComp]
  refine core hu hc hN I hi ok blk hs h fun D C s2 m H2 I2 q2 hm ⟨n0, n1, n2, n3, n4, n5⟩ => ⟨m, hm, fun h4 sb => ⟨.ref D, H2, I2.turned (t' := s2.toks) (fun b o hb e => (sb.2 b hb).trans e) n0 n1 n3 n4 n5, rfl, q2⟩⟩
theorem ps_setDcT {i : Nat} {y : Str} {py : Pos} {kx vx tg it : Expr} {ifs : List Expr} {sc : Scope} {own : List (Str × Nat)} {q sq : Pos} {wi : TI} {g : TG} {tt : TT} {tk tv : TE} (hu : X.A.units + 1 < cLine) (hc : X.calm = true) (hN : X.N.Nodup) (hy : X.N[i]? = some y) (hl : X.env.scope.names.lookup y = some .local)
    (sw : swapsWith (.DictComp kx vx [⟨tg, it, ifs, 0⟩] sc q) (some (.Name y py)) sq.line X.env = pure true) (hi : PI X tg it wi) (ok : BlkOk X.N X.env.scope sc own)
    (blk : ∀ (s : Shared) (H : Hp) (fp : List Addr), PG (Blk X sc fp s H) tg g ∧ PTs (Blk X sc fp s H) ifs tt ∧ PE (Blk X sc fp s H) kx tk ∧ PE (Blk X sc fp s H) vx tv) (hs : ∀ x, foldedSetIterable it X.env x = pure x := by intro _; rfl) :
    PS X (.Assign [.Name y py] (.DictComp kx vx [⟨tg, it, ifs, 0⟩] sc q) sq) (tAsg (tDcT wi g tt tk tv (own.map (·.2))) (gName i)) := by
  refine ⟨fun pins s σ H D I w0 => ?_⟩
  have w1 : tDcT wi g tt tk tv (own.map (·.2)) σ H (fun x H1 => gName i x σ H1 D.nx) := w0
  rw [exec_Assign_Name_used _ _ _ _ sw]
  refine (wpAny_bind (wpAny_standAt (wpAny_bind (wpAny_bind (thn (core (Qf := fun _ s2 => SP X pins D .next s2) hu hc hN I hi ok blk hs w1 fun L C s2 m H2 I2 q2 hn f => ?_) fun _ s3 z => wpAny_pure (wpAny_pure z))))))
  refine wpAny_assign_Name (store_ok2 (v := V.ref L) I2 hN hy (.inl hl) rfl (fun s3 I3 ⟨a, sb, ha⟩ => ?_) (.inr hl))
  obtain ⟨n0, n1, n2, n3, n4, n5⟩ := f
  have ne : C ≠ a := ha.elim (fun z => by rw [z]; exact n1) (fun z e => n4 y a z e.symm)
  exact ⟨m, hn.sameBut sb ne, fun h4 sb4 => ⟨_, H2, I3.turned (t' := s3.toks) (fun b o hb e => (sb4.2 b hb).trans e) n0 n1 n3 n4 n5, q2⟩⟩
end
section
variable {σ : L2.St} {H : Hp} {Q : VK} {te tk tv : TE} {g : TG} {tt : TT} {vs : List Nat} {K : PySem.W.Frag}
theorem dcL (h : te σ H fun x H1 => ∃ a, x = .ref a ∧ (∃ xs, SqL K H1 a xs) ∧ ∀ D, H1 D = none → LoopD (Itl K a) g tt tk tv vs σ D (fun H => Q (.ref D) H) (upd H1 D (.dT []))) : tDcT (iList K te) g tt tk tv vs σ H Q := h
theorem loopDL {a : Addr} {xs : List V} {D : Addr} {Qd : Hp → Prop} (Pv : Nat → Hp → Prop) (h0 : Pv 0 H) (hl : ∀ i H, i ≤ xs.length → Pv i H → SqL K H a xs)
    (hs : ∀ i x H, xs[i]? = some x → Pv i H → g x (wipe σ vs) H fun σ2 H2 => wipe σ2 vs = wipe σ vs ∧ tt σ2 H2 fun b H3 =>
      if b = true then tk σ2 H3 fun y H4 => tv σ2 H4 fun z H5 => ∃ kvs, ∃ k : List Key, ∃ c, H5 D = some (.dT kvs) ∧ y = .ref c ∧ H5 c = some (.tup (k.map kV)) ∧ kvs.length < sizeLine ∧ Pv (i + 1) (upd H5 D (.dT (putK kvs k z))) else Pv (i + 1) H3)
    (hd : ∀ H, Pv xs.length H → Qd H) : LoopD (Itl K a) g tt tk tv vs σ D Qd H := by
  refine ⟨fun i m H => m = xs.length - i ∧ i ≤ xs.length ∧ Pv i H, ⟨xs.length, by simp, Nat.zero_le _, h0⟩, ?_⟩
  rintro i m H ⟨rfl, hi, p⟩
  have q := hl i H hi p
  by_cases hlt : i < xs.length
  · refine .inr ⟨⟨xs, xs[i], q, by simp [hlt]⟩, Pv (i + 1), fun H' p' => ⟨xs.length - (i + 1), by omega, rfl, hlt, p'⟩, fun x H' y => ?_⟩
    obtain ⟨e, y⟩ := y
    subst e
    exact hs i x _ (y xs q) p
  · have e : i = xs.length := by omega
    subst e
    exact .inl ⟨⟨xs, q, Nat.le_refl _⟩, hd H p⟩
end
section
variable {σ : L2.St} {H : Hp} {Q : VK} {te : TE} {ta : TA} {g : TG} {tt : TT} {vs : List Nat} {K : PySem.W.Frag}
theorem lcZ (h : ta σ H fun us H1 => ∃ a b xs ys, us = [.ref a, .ref b] ∧ SqL K H1 a xs ∧ SqL K H1 b ys ∧ ∀ D, H1 D = none → LoopC (Itz K a b) g tt te vs σ D (fun H => Q (.ref D) H) (upd H1 D (.lst []))) : tLc (iZip K ta) g tt te vs σ H Q := h
theorem loopCZ {a b : Addr} {xs ys : List V} {D : Addr} {Qd : Hp → Prop} (le : ys.length ≤ xs.length) (Pv : Nat → Hp → Prop) (h0 : Pv 0 H) (hl : ∀ i H, i ≤ ys.length → Pv i H → SqL K H a xs ∧ SqL K H b ys)
    (hs : ∀ i x y T H, xs[i]? = some x → ys[i]? = some y → Pv i H → H T = none → g (.ref T) (wipe σ vs) (upd H T (.tup [x, y])) fun σ2 H2 => wipe σ2 vs = wipe σ vs ∧ tt σ2 H2 fun b H3 =>
      if b = true then te σ2 H3 fun z H4 => ∃ acc, H4 D = some (.lst acc) ∧ acc.length < sizeLine ∧ Pv (i + 1) (upd H4 D (.lst (acc ++ [z]))) else Pv (i + 1) H3)
    (hd : ∀ H, Pv ys.length H → Qd H) : LoopC (Itz K a b) g tt te vs σ D Qd H := by
  refine ⟨fun i m H => m = ys.length - i ∧ i ≤ ys.length ∧ Pv i H, ⟨ys.length, by simp, Nat.zero_le _, h0⟩, ?_⟩
  rintro i m H ⟨rfl, hi, p⟩
  obtain ⟨q1, q2⟩ := hl i H hi p
  by_cases hlt : i < ys.length
  · have hx : i < xs.length := by omega
    refine .inr ⟨⟨xs, ys, xs[i], ys[i], q1, q2, List.getElem?_eq_getElem hx, List.getElem?_eq_getElem hlt⟩, Pv (i + 1), fun H' p' => ⟨ys.length - (i + 1), by omega, rfl, hlt, p'⟩, fun v H' yl => ?_⟩
    obtain ⟨T, x, y, rfl, hT, rfl, e1, e2⟩ := yl
    exact hs i x y T H (e1 xs q1) (e2 ys q2) p hT
  · have e : i = ys.length := by omega
    subst e
    exact .inl ⟨⟨xs, ys, q1, q2, .inr (Nat.le_refl _)⟩, hd H p⟩
end
theorem dget2 {td ty tx : TE} {σ : L2.St} {H : Hp} {Q : VK} (h : td σ H fun x H1 => ∃ a, x = .ref a ∧ IsD H1 a ∧ ty σ H1 fun y H2 => tx σ H2 fun z H3 => ∃ o, DGet H3 a y o ∧ Q (o.getD z) H3) : tDGet2 td ty tx σ H Q := h
/-! ### a dict of tuple keys walked by its keys -/
section
variable {σ : L2.St} {H : Hp} {Q : VK} {D : Ends} {te td : TE} {g : TG} {tt : TT} {tb : TS} {vs : List Nat} {d : Addr} {o : Obj} {kvs : List (List Key × V)}
theorem lockT {t : TE} (h : H d = some (.dT kvs)) (q : ∀ od, t σ (upd H d (.frz od (.dT kvs))) fun v H' => H' d = some (.frz od (.dT kvs)) ∧ Q v (upd H' d (.dT kvs))) : tLockE t σ H Q := ⟨d, _, h, trivial, q⟩
theorem lockS {t : TS} (h : H d = some (.dT kvs)) (q : ∀ od, t ⟨fun σ' H' => H' d = some (.frz od (.dT kvs)) ∧ D.nx σ' (upd H' d (.dT kvs)), fun v H' => H' d = some (.frz od (.dT kvs)) ∧ D.rt v (upd H' d (.dT kvs)), fun σ' H' => H' d = some (.frz od (.dT kvs)) ∧ D.bk σ' (upd H' d (.dT kvs)), fun σ' H' => H' d = some (.frz od (.dT kvs)) ∧ D.ct σ' (upd H' d (.dT kvs))⟩ σ (upd H d (.frz od (.dT kvs)))) : tLock t D σ H := ⟨d, _, h, trivial, q⟩
theorem lcK (h : td σ H fun x H1 => ∃ d o kvs, x = .ref d ∧ H1 d = some (.frz o (.dT kvs)) ∧ ∀ D, H1 D = none → LoopC (Itkt d o kvs) g tt te vs σ D (fun H => Q (.ref D) H) (upd H1 D (.lst []))) (mono : ∀ {R R' : V → Hp → Prop}, (∀ x H, R x H → R' x H) → td σ H R → td σ H R') : tLc (iKeys td) g tt te vs σ H Q :=
  mono (fun x H1 ⟨d, o, kvs, e, h1, h2⟩ => ⟨d, o, e, .inr ⟨kvs, h1, h2⟩⟩) h
theorem lcKV {i : Nat} (hv : σ[i]? = some (some (.ref d))) (hd : H d = some (.frz o (.dT kvs))) (h : ∀ D, H D = none → LoopC (Itkt d o kvs) g tt te vs σ D (fun H => Q (.ref D) H) (upd H D (.lst []))) : tLc (iKeys (tVar i)) g tt te vs σ H Q :=
  ⟨.ref d, hv, d, o, rfl, .inr ⟨kvs, hd, h⟩⟩
theorem forKV {i : Nat} (hv : σ[i]? = some (some (.ref d))) (hd : H d = some (.frz o (.dT kvs))) (h : Loop (Itkt d o kvs) g tb D σ H) : tFor (iKeys (tVar i)) g tb D σ H := ⟨.ref d, hv, d, o, rfl, .inr ⟨kvs, hd, h⟩⟩
theorem loopCKT {D : Addr} {Qd : Hp → Prop} (Pv : Nat → Hp → Prop) (h0 : Pv 0 H) (hl : ∀ i H, i ≤ kvs.length → Pv i H → H d = some (.frz o (.dT kvs)))
    (hs : ∀ i k v q H, kvs[i]? = some (k, v) → Pv i H → H q = some (.tup (k.map kV)) → g (.ref q) (wipe σ vs) H fun σ2 H2 => wipe σ2 vs = wipe σ vs ∧ tt σ2 H2 fun b H3 =>
      if b = true then te σ2 H3 fun y H4 => ∃ acc, H4 D = some (.lst acc) ∧ acc.length < sizeLine ∧ Pv (i + 1) (upd H4 D (.lst (acc ++ [y]))) else Pv (i + 1) H3) (hd : ∀ H, Pv kvs.length H → Qd H) : LoopC (Itkt d o kvs) g tt te vs σ D Qd H := by
  refine ⟨fun i m H => m = kvs.length - i ∧ i ≤ kvs.length ∧ Pv i H, ⟨kvs.length, by simp, Nat.zero_le _, h0⟩, ?_⟩
  rintro i m H ⟨rfl, hi, p⟩
  have q := hl i H hi p
  by_cases hlt : i < kvs.length
  · refine .inr ⟨⟨q, hlt⟩, Pv (i + 1), fun H' p' => ⟨kvs.length - (i + 1), by omega, rfl, hlt, p'⟩, fun x H' y => ?_⟩
    obtain ⟨rfl, k, v, q, ek, rfl, hq⟩ := y
    exact hs i k v q _ ek p hq
  · have e : i = kvs.length := by omega
    subst e
    exact .inl ⟨⟨q, Nat.le_refl _⟩, hd H p⟩
theorem loopKT (Pv : Nat → L2.St → Hp → Prop) (h0 : Pv 0 σ H) (hl : ∀ i σ H, i ≤ kvs.length → Pv i σ H → H d = some (.frz o (.dT kvs)))
    (hs : ∀ i k v q σ H, kvs[i]? = some (k, v) → Pv i σ H → H q = some (.tup (k.map kV)) → g (.ref q) σ H fun σ2 H2 => tb { D with nx := Pv (i + 1), ct := Pv (i + 1), bk := D.nx } σ2 H2) (hd : ∀ σ H, Pv kvs.length σ H → D.nx σ H) : Loop (Itkt d o kvs) g tb D σ H := by
  refine ⟨fun i m σ H => m = kvs.length - i ∧ i ≤ kvs.length ∧ Pv i σ H, ⟨kvs.length, by simp, Nat.zero_le _, h0⟩, ?_⟩
  rintro i m σ H ⟨rfl, hi, p⟩
  have q := hl i σ H hi p
  by_cases hlt : i < kvs.length
  · refine .inr ⟨⟨q, hlt⟩, Pv (i + 1), fun σ' H' p' => ⟨kvs.length - (i + 1), by omega, rfl, hlt, p'⟩, fun x H' y => ?_⟩
    obtain ⟨rfl, k, v, q, ek, rfl, hq⟩ := y
    exact hs i k v q _ _ ek p hq
  · have e : i = kvs.length := by omega
    subst e
    exact .inl ⟨⟨q, Nat.le_refl _⟩, hd σ H p⟩
end
end Wtc

/-! What is reached, beside a growing dict. -/
namespace Wfa
open PySem PySem.Spec PyProof.Rows L2 Wp Wq Wr Wpm Wpn Wth
section
variable {H H' : Hp} {kvs bs : List (List Key × V)} {tb : List (W × List W)} {d b : Addr} {Q : VK}
theorem Tab.kpD (h : Tab H kvs tb) (hd : H d = some (.dT bs)) (k : Kp d H H') : Tab H' kvs tb := Paired.mapP h fun _ _ q => by
  obtain ⟨q1, l, vs, e, h1, h2, h3⟩ := q
  refine ⟨q1, l, vs, e, k _ _ (ne_of h1 hd (by intro q; cases q)) h1, h2.keep fun t xs e => k t _ (ne_of e hd (by intro q; cases q)) e, h3⟩
theorem tkD (hd : H d = some (.dT bs)) (k : Kp d H H') : Tk H H' := fun t xs e => k t _ (ne_of e hd (by intro q; cases q)) e
theorem lstD {l : Addr} {xs : List V} (hd : H d = some (.dT bs)) (k : Kp d H H') (h : H l = some (.lst xs)) : H' l = some (.lst xs) := k _ _ (ne_of h hd (by intro q; cases q)) h
theorem ext_ {l b : Addr} {xs zs : List V} (h1 : H l = some (.lst xs)) (h2 : H b = some (.lst zs)) (hz : xs.length + zs.length ≤ sizeLine) (q : Q .non (upd H l (.lst (xs ++ zs)))) : rExtend (V.ref l) [.ref b] H Q := ⟨l, b, xs, zs, rfl, rfl, h1, h2, hz, q⟩
end
theorem flat_len {α β : Type} {g : α → List β} {c : Nat} : ∀ {l : List α}, (∀ a ∈ l, (g a).length ≤ c) → (l.flatMap g).length ≤ l.length * c
  | [], _ => by simp
  | a :: l, h => by
    rw [List.flatMap_cons, List.length_append, List.length_cons, Nat.succ_mul]
    have h1 := h a List.mem_cons_self
    have h2 := flat_len (l := l) (g := g) (c := c) fun x hx => h x (List.mem_cons_of_mem _ hx)
    omega
theorem hold_at {P : Pic} {z : W} (h : z ∈ P.things) : ∃ e, (tableM P).find? (fun e => decide (e.1 = z)) = some e ∧ holdM (tableM P) z = e.2 := by
  obtain ⟨e, h1, _⟩ := find_some (tb := tableM P) (z := z) (by rw [table_keys]; exact h)
  refine ⟨e, h1, ?_⟩
  unfold holdM
  rw [h1] <;> rfl
/-- one thing's row of things, in the heap -/
theorem Tab.at {P : Pic} {H : Hp} {kvs : List (List Key × V)} (tb : Tab H kvs (tableM P)) {z : W} (h : z ∈ P.things) : ∃ v, valV kvs (keyT z) = some v ∧ IsLs [] H v (holdM (tableM P) z) := by
  obtain ⟨e, h1, h2⟩ := hold_at h
  rcases tb.find (z := z) with ⟨e', v, q1, q2, q3⟩ | ⟨q1, _⟩
  · rw [h1] at q1
    cases q1
    rw [h2]
    exact ⟨v, q2, q3⟩
  · rw [h1] at q1
    cases q1
theorem hold_wok {P : Pic} (ok : P.Ok) {z y : W} (h : z ∈ holdM (tableM P) y) : Wok z := things_wok z (hold_thing ok h)
theorem filt_no {α : Type} {p : α → Bool} {y : α} (h : p y = false) : (some y).toList.filter p = [] := by
  show List.filter p [y] = []
  rw [List.filter_cons_of_neg (by rw [h]; exact Bool.false_ne_true), List.filter_nil]
theorem filt_yes {α : Type} {p : α → Bool} {y : α} (h : p y = true) : (some y).toList.filter p = [y] := by
  show List.filter p [y] = [y]
  rw [List.filter_cons_of_pos h, List.filter_nil]
theorem unlock {H H' : Hp} {d : Addr} {o : HO} (h : H d = some o) (k : Kp d H H') : Same H (upd H' d o) := fun a u e => by
  by_cases c : a = d
  · rw [c, h] at e
    rw [c, ← e]
    exact upd_same
  · rw [upd_ne c]
    exact k a u c e
section
variable {σ : L2.St} {H : Hp} {K : PySem.W.Frag} {te : TE}
theorem loopC2L {a : Addr} {xs : List V} {wi1 : TI} {g g1 : TG} {tt tt1 : TT} {vs vs1 : List Nat} {D : Addr} {Qd : Hp → Prop} (Pv : Nat → Hp → Prop) (h0 : Pv 0 H) (hl : ∀ i H, i ≤ xs.length → Pv i H → SqL K H a xs)
    (hs : ∀ i x H, xs[i]? = some x → Pv i H → g x (wipe σ vs) H fun σ2 H2 => wipe σ2 vs = wipe σ vs ∧ tt σ2 H2 fun b H3 =>
      if b = true then wi1 σ2 H3 (fun J1 H4 => LoopC J1 g1 tt1 te vs1 σ2 D (Pv (i + 1)) H4) else Pv (i + 1) H3) (hd : ∀ H, Pv xs.length H → Qd H) : LoopC2 (Itl K a) g tt wi1 g1 tt1 te vs vs1 σ D Qd H := by
  refine ⟨fun i m H => m = xs.length - i ∧ i ≤ xs.length ∧ Pv i H, ⟨xs.length, by simp, Nat.zero_le _, h0⟩, ?_⟩
  rintro i m H ⟨rfl, hi, p⟩
  have q := hl i H hi p
  by_cases hlt : i < xs.length
  · refine .inr ⟨⟨xs, xs[i], q, by simp [hlt]⟩, Pv (i + 1), fun H' p' => ⟨xs.length - (i + 1), by omega, rfl, hlt, p'⟩, fun x H' y => ?_⟩
    obtain ⟨e, y⟩ := y
    subst e
    exact hs i x _ (y xs q) p
  · have e : i = xs.length := by omega
    subst e
    exact .inl ⟨⟨xs, q, Nat.le_refl _⟩, hd H p⟩
theorem lc2L {Q : VK} {te2 : TE} {wi1 : TI} {g g1 : TG} {tt tt1 : TT} {vs vs1 : List Nat} (h : te2 σ H fun x H1 => ∃ a, x = .ref a ∧ (∃ xs, SqL K H1 a xs) ∧ ∀ D, H1 D = none → LoopC2 (Itl K a) g tt wi1 g1 tt1 te vs vs1 σ D (fun H => Q (.ref D) H) (upd H1 D (.lst []))) :
    tLc2 (iList K te2) g tt wi1 g1 tt1 te vs vs1 σ H Q := h
end
theorem snocB {X Y : List W} {z : W} {f : W → Bool} : ((X ++ Y).map f).map V.bl ++ [V.bl (f z)] = ((X ++ (Y ++ [z])).map f).map V.bl := by
  rw [← List.append_assoc, List.map_append (l₁ := X ++ Y), List.map_append (f := V.bl)] <;> rfl
theorem pile_rep {H : Hp} {xs : List V} {ws : List W} (p : Pile H xs ws) : ∀ k : Nat, Pile H (List.replicate k xs).flatten (List.replicate k ws).flatten
  | 0 => Pile.nil
  | k + 1 => by
    rw [List.replicate_succ, List.replicate_succ, List.flatten_cons, List.flatten_cons]
    exact Pile.app p (pile_rep p k)
theorem rep_len {α : Type} (xs : List α) : ∀ k : Nat, (List.replicate k xs).flatten.length = xs.length * k
  | 0 => by simp
  | k + 1 => by
    rw [List.replicate_succ, List.flatten_cons, List.length_append, rep_len xs k, Nat.mul_succ]
    omega
theorem rep_mem {α : Type} {xs : List α} {y : α} : ∀ {k : Nat}, y ∈ (List.replicate k xs).flatten → y ∈ xs
  | 0, h => by simp at h
  | k + 1, h => by
    rw [List.replicate_succ, List.flatten_cons] at h
    rcases List.mem_append.mp h with h | h
    · exact h
    · exact rep_mem h
end Wfa
namespace Wfa
open PySem PySem.Spec PyProof.Rows L2 Wp Wq Wr Wpm Wpn Wth
theorem keyed_pile {H : Hp} : ∀ {kvs : List (List Key × V)} {F : List W} {bs : List Addr}, Wth.Keyed kvs F → IsKeys H kvs bs → Pile H (bs.map V.ref) F
  | [], F, _, k, h => by
    cases h
    unfold Wth.Keyed at k
    have : F = [] := List.map_eq_nil_iff.mp k.symm
    rw [this]
    exact Pile.nil
  | kv :: kvs, F, _, k, h => by
    cases F with
    | nil => unfold Wth.Keyed at k; cases k
    | cons z F =>
      cases h with
      | cons r t =>
        unfold Wth.Keyed at k
        rw [List.map_cons, List.map_cons] at k
        obtain ⟨k1, k2⟩ := List.cons.inj k
        rw [k1] at r
        exact Paired.cons ⟨_, rfl, r⟩ (keyed_pile k2 t)
theorem hold_nodup {P : Pic} {z : W} : (holdM (tableM P) z).Nodup := by
  unfold holdM
  cases c : (tableM P).find? fun e => decide (e.1 = z) with
  | none => exact .nil
  | some e =>
    have m := List.mem_of_find?_eq_some c
    show e.2.Nodup
    unfold tableM at m
    rcases List.mem_append.mp m with m | m
    · obtain ⟨b, hb, rfl⟩ := List.mem_map.mp m
      exact things_nodup
    · obtain ⟨g, hg, rfl⟩ := List.mem_map.mp m
      exact things_nodup
/-- the program's turn: what is met, the last level among it -/
structure SI (P : Pic) (F N : List W) : Prop where
  nd : F.Nodup
  inT : ∀ z ∈ F, Reach (rootsM P) (holdM (tableM P)) z
  root : ∀ z ∈ rootsM P, z ∈ F
  shut : ∀ y ∈ F, y ∉ N → ∀ z ∈ holdM (tableM P) y, z ∈ F
  sub : ∀ z ∈ N, z ∈ F
theorem SI.start {P : Pic} : SI P (rootsM P) (rootsM P) := ⟨things_nodup, fun z h => .root h, fun z h => h, fun _ h n => (n h).elim, fun _ h => h⟩
theorem SI.next {P : Pic} {F N M : List W} (i : SI P F N) (nd : (F ++ M).Nodup) (inT : ∀ z ∈ F ++ M, Reach (rootsM P) (holdM (tableM P)) z) (al : ∀ y ∈ N, ∀ z ∈ holdM (tableM P) y, z ∈ F ++ M) : SI P (F ++ M) M := by
  refine ⟨nd, inT, fun z h => List.mem_append_left _ (i.root z h), fun y hy n z hz => ?_, fun z h => List.mem_append_right _ h⟩
  have yF : y ∈ F := (List.mem_append.mp hy).resolve_right n
  by_cases c : y ∈ N
  · exact al y c z hz
  · exact List.mem_append_left _ (i.shut y yF c z hz)
theorem SI.done {P : Pic} {F : List W} (i : SI P F []) : ∀ z, z ∈ F ↔ Reach (rootsM P) (holdM (tableM P)) z := by
  intro z
  constructor
  · exact i.inT z
  · intro r
    induction r with
    | root h => exact i.root _ h
    | step _ h ih => exact i.shut _ ih (fun h => nomatch h) _ h
end Wfa

namespace K15
open PySem PySem.Spec PyProof.Rows L2 Wp Wq Wr Wpm Wpn Wth
local macro_rules | `(tactic| walk_at "ne") => `(tactic| first
  | assumption
  | (refine Ne.symm ?_; assumption)
  | exact ne_of_none (by assumption) (by assumption)
  | exact (ne_of_none (by assumption) (by assumption)).symm
  | exact ne_of (by assumption) (by assumption) (by intro q; cases q))
local macro_rules | `(tactic| walk_at "hp") => `(tactic| first
  | assumption
  | exact upd_same
  | (refine (upd_ne ?_).trans ?_; (walk_at "ne"); (walk_at "hp")))
local macro_rules | `(tactic| walk_at "hq") => `(tactic| first
  | assumption
  | exact upd_same
  | (refine same_new (by assumption) _ _ ?_; (walk_at "hq"))
  | (refine Wp.look (by assumption) ?_; (walk_at "hq")))
local macro_rules | `(tactic| walk_at "sm") => `(tactic| first
  | assumption
  | exact fun _ _ h => h
  | exact same_new (by assumption)
  | (refine Same.trans ?_ (same_new (by assumption)); (walk_at "sm"))
  | (refine Same.trans ?_ (by assumption); (walk_at "sm")))
local macro_rules | `(tactic| walk_at "kp") => `(tactic| first
  | assumption
  | exact Kp.refl _ _
  | (refine Kp.trans ?_ (Kp.new (by assumption)); (walk_at "kp"))
  | (refine Kp.trans ?_ (Same.kp (by assumption)); (walk_at "kp"))
  | (refine Wp.kpT ?_ (by assumption); (walk_at "kp"))
  | exact Same.kp (by walk_at "sm"))
local macro_rules | `(tactic| walk_at "sq") => `(tactic| first
  | assumption
  | exact SqL.of (by walk_at "hp")
  | exact SqT.of (by walk_at "hp"))
local macro_rules | `(tactic| walk_at "kind") => `(tactic| first
  | assumption
  | exact Kind.int _
  | exact Kind.str _
  | exact Kind.bl _
  | exact Kind.non
  | exact Kind.tup (by walk_at "hp")
  | exact Kind.lst (by walk_at "hp")
  | exact Kind.dK (by walk_at "hp"))
local macro_rules | `(tactic| walk_at "w1") => `(tactic| first
  | (with_reducible refine Wp.seq ?_)
  | (with_reducible refine Wp.nx_mk ?_)
  | (with_reducible refine Wp.rt_mk ?_)
  | (with_reducible refine Wp.bk_mk ?_)
  | (with_reducible refine Wp.ct_mk ?_)
  | (with_reducible refine Wp.next ?_)
  | (with_reducible refine Wp.asg ?_)
  | ((with_reducible refine' Wp.gname ?e ?_); (case e => (try dsimp only [List.set, L2.wipe, List.map_cons, List.map_nil]); (try exact rfl)))
  | (with_reducible refine Wp.gsub ?_)
  | (with_reducible refine Wp.ret ?_)
  | (with_reducible refine Wp.retN ?_)
  | (with_reducible refine Wp.drop ?_)
  | (with_reducible refine Wp.dput ?_)
  | (with_reducible refine Wp.ifs ?_)
  | ((with_reducible refine' Wp.var ?h ?_); (case h => exact rfl))
  | (with_reducible refine Wp.con ?_)
  | (with_reducible refine Wp.op ?_)
  | (with_reducible refine Wp.un ?_)
  | (with_reducible refine Wp.cb ?_)
  | (with_reducible refine Wp.anil ?_)
  | (with_reducible refine Wp.acons ?_)
  | (with_reducible refine Wp.call ?_)
  | (with_reducible refine Wp.test ?_)
  | (with_reducible refine Wp.tb_ ?_)
  | (with_reducible refine Wp.and_ ?_)
  | (with_reducible refine Wp.or_ ?_)
  | (with_reducible refine Wp.not_ ?_)
  | (with_reducible refine Wp.andV ?_)
  | (with_reducible refine Wp.orV ?_)
  | (with_reducible refine Wp.notV ?_)
  | (with_reducible refine Wp.rI0_ ?_)
  | (with_reducible refine Wp.rU_ ?_)
  | ((with_reducible refine Wp.rEq_ ?k ?_); (case k => exact rfl))
  | ((with_reducible refine Wp.rNe_ ?k ?_); (case k => exact rfl))
  | (with_reducible refine Wp.gcons ?_)
  | (with_reducible refine Wp.gnil ?_)
  | ((with_reducible refine' Wp.gtup ?h ?e ?_); (case h => walk_at "sq"); (case e => exact rfl))
  | (with_reducible refine Wp.sl ?_)
  | (with_reducible refine Wp.part ?_)
  | (with_reducible refine Wp.nopart ?_)
  | (with_reducible refine Wp.ifE ?_)
  | (with_reducible refine Wp.bm0 ?_)
  | (with_reducible refine Wp.bm ?_)
  | (with_reducible refine Wp.lcR1 ?_)
  | (with_reducible refine Wp.lcR2 ?_)
  | (with_reducible refine Wp.lcL ?_)
  | (with_reducible refine Wp.chain ?_)
  | (with_reducible refine Wp.lc2V ?_)
  | (with_reducible refine Wp.piL ?_)
  | (with_reducible refine Wp.yes ?_)
  | (with_reducible refine Wp.dinI ?_)
  | (with_reducible refine Wp.dninI ?_)
  | (with_reducible refine Wp.dget ?_)
  | ((with_reducible refine' ⟨?k, ?_⟩); (case k => show L2.wipe _ _ = L2.wipe _ _; exact rfl))
  | ((with_reducible refine' ⟨?k, ?_⟩); (case k => show V.non = V.non; exact rfl))
  | (with_reducible refine Wp.forR1 ?_)
  | (with_reducible refine Wp.forR2 ?_)
  | (with_reducible refine Wp.forL ?_)
  | (with_reducible refine Wp.forT ?_)
  | ((with_reducible refine' ⟨?k, ?_⟩); (case k => exact Wp.tyvL (by walk_at "hp")))
  | ((with_reducible refine' Wp.rev_ ?k ?_); (case k => walk_at "hp"))
  | ((with_reducible refine' Wp.isi ?k ?h ?_); (case k => walk_at "kind"); (case h => decide))
  | ((with_reducible refine' Wp.typ ?k ?_); (case k => walk_at "kind"))
  | (with_reducible refine Wp.slS ?k ?_; (case k => assumption))
  | (with_reducible refine iteT ?_)
  | (with_reducible refine iteF ?_)
  | (with_reducible refine Wtc.dcL ?_)
  | (with_reducible refine Wst.step ?_)
  | (with_reducible refine Wtc.dget2 ?_)
  | (with_reducible refine Wtc.lcZ ?_)
  | (with_reducible refine Wrw.loop_setLc ?_)
  | (with_reducible refine Wz.par ?_)
  | (with_reducible refine Wz.forN ?_)
  | (with_reducible refine Wz.dcL ?_)
  | (with_reducible refine Wz.forZ ?_)
  | (with_reducible refine Wz.lcR3 ?_)
  | (with_reducible refine Wc.revL ?_)
  | (with_reducible refine Wd.nm ?_)
  | (with_reducible refine Wd.nget ?_)
  | ((with_reducible refine Wd.tnew ?_); intro p hp)
  | (with_reducible refine Wd.pikn ?_)
  | (with_reducible refine Wt.m1 ?_)
  | (with_reducible refine Wt.m0 ?_)
  | ((with_reducible refine' ⟨?k, ?_⟩); (case k => show ∃ a, _ = V.str a; exact ⟨_, rfl⟩))
  | (with_reducible refine Wt.js_cons ?_)
  | (with_reducible refine Wt.fmt_ ?_)
  | (with_reducible refine Wp.pcons ?_)
  | (with_reducible refine Wp.pnil ?_)
  | ((with_reducible refine' Wp.iteBnT ?h ?_); (case h => show isB _ _ = false; decide))
  | ((with_reducible refine' Wp.iteBnF ?h ?_); (case h => show isB _ _ = true; decide))
  | ((with_reducible refine' Wp.iteBt ?h ?_); (case h => show isB _ _ = true; decide))
  | ((with_reducible refine' Wp.iteBf ?h ?_); (case h => show isB _ _ = false; decide))
  | (with_reducible refine Wp.iteT' ?_)
  | (with_reducible refine Wp.iteF' ?_)
  | (with_reducible refine Wp.rNT_ ?_)
  | ((with_reducible refine Wp.lst ?_))
  | ((with_reducible refine Wp.tup ?_))
  | ((with_reducible refine' Wp.ixL ?h ?e ?_); (case h => walk_at "sq"); (case e => exact rfl))
  | ((with_reducible refine' Wp.ixT ?h ?e ?_); (case h => walk_at "sq"); (case e => exact rfl))
  | ((with_reducible refine' Wp.setL ?h ?e ?_); (case h => walk_at "hp"); (case e => exact rfl))
  | ((with_reducible refine Wp.rI_ ?k ?_); (case k => first | (show (0:Int) < _; omega) | (show CPow _ _; refine' ⟨?_, ?_, ?_⟩ <;> omega) | (show CDiv _ _; refine' ⟨?_, ?_⟩ <;> omega) | (show CMul _ _; refine' Or.inl ⟨?_, ?_⟩ <;> omega) | (show CMul _ _; refine' Or.inr ⟨?_, ?_⟩ <;> first | omega | decide) | (show CDivW _ _; refine' wide_div (b := 240) ?_ ?_ ?_ ?_ <;> first | omega | decide)))
  | ((with_reducible refine ⟨?k, ?_⟩); (case k => first | exact Nat.zero_le _ | (exact Nat.le_of_ble_eq_true rfl)); intro p hp)
  | ((with_reducible refine' ⟨_, _, rfl, .inl ?k, ?_⟩); (case k => walk_at "sq"))
  | ((with_reducible refine' ⟨_, _, rfl, .inr ?k, ?_⟩); (case k => walk_at "sq"))
  | (with_reducible refine ⟨_, rfl, ?_⟩)
  | (with_reducible refine ⟨_, _, rfl, rfl, ?_⟩)
  | (with_reducible refine ⟨_, _, rfl, ?_⟩))
local macro_rules | `(tactic| walk_at "wp") => `(tactic| repeat (walk_at "w1"))

section
variable {P : Program} {w : World} {K : PySem.W.Frag} {mg : Str → Option Value} {base : Heap}
/-! ### what is asked of a thing -/
def verd : V → V → Bool
  | .str s, .int n => decide (s = "num") || ((decide (s = "at") || decide (s = "box") || decide (s = "go")) && decide (0 ≤ n))
  | _, _ => false
def Th (H : Hp) (v : V) (r : Bool) : Prop := (∃ T, Kind H v T ∧ T ≠ "tuple" ∧ r = false) ∨ (∃ p xs, v = .ref p ∧ H p = some (.tup xs) ∧
  ((xs.length ≠ 2 ∧ r = false) ∨ ∃ x y T1 T2, xs = [x, y] ∧ Kind H x T1 ∧ Kind H y T2 ∧ r = verd x y))
theorem Kind.isStr {H : Hp} {x : V} {T : String} (k : Kind H x T) (e : T = "str") : ∃ s, x = .str s := by
  cases k <;> first | exact ⟨_, rfl⟩ | (exfalso; revert e; decide)
theorem Kind.isInt {H : Hp} {x : V} {T : String} (k : Kind H x T) (e : T = "int") : ∃ s, x = .int s := by
  cases k <;> first | exact ⟨_, rfl⟩ | (exfalso; revert e; decide)
theorem verd_noStr {H : Hp} {x y : V} {T : String} (k : Kind H x T) (e : T ≠ "str") : verd x y = false := by
  cases k <;> first | rfl | exact absurd rfl e
theorem verd_noInt {H : Hp} {x y : V} {T : String} (k : Kind H y T) (e : T ≠ "int") : verd x y = false := by
  cases k <;> first | (cases x <;> rfl) | exact absurd rfl e
def spIsNumber : Sp := fun vs H Q _ => ∃ (v : V) (T : String), vs = [v] ∧ Kind H v T ∧ Q (.bl (decide (T = "int"))) H
theorem ok_is_number (T : Txt P w K mg) : FnOk P w K mg base CX0 1 T.f_is_number T.fd_is_number ["thing"] spIsNumber := by
  refine T.F_is_number.ok sc_is_number (fun vs H Q E h => ?_) (fun cdv A outer s H vs Q E hr h => ?_)
  · obtain ⟨v, ty, rfl, _⟩ := h
    rfl
  · obtain ⟨v, ty, rfl, hk, q⟩ := h
    refine ⟨_, (pss_one (ps_ret (pe_cmpR op_isTyB (pe_callTy call_type1 (by rfl) T.n_type (by decide +kernel) (pa_cons (pv 0) pa_nil)) (pe_bltn (v := .ty "int") (by rfl) T.n_int (by decide +kernel) rfl) (nomark _)))), ?_⟩
    rw [show L2.start ["thing"] [v] = [some v] from rfl]
    try dsimp only [cxOf]
    walk_at "wp"
    exact q
def spIsWorth : Sp := fun vs H Q _ => ∃ (v : V) (r : Bool), vs = [v] ∧ Th H v r ∧ Q (.bl r) H
theorem ok_is_worth (T : Txt P w K mg) : FnOk P w K mg base CX0 2 T.f_is_worth T.fd_is_worth ["thing"] spIsWorth := by
  have G_is_number := ok_is_number (base := base) T
  refine T.F_is_worth.ok sc_is_worth (fun vs H Q E h => ?_) (fun cdv A outer s H vs Q E hr h => ?_)
  · obtain ⟨v, r, rfl, _⟩ := h
    rfl
  · obtain ⟨v, r, rfl, ht, q⟩ := h
    refine ⟨_, (pss_cons (ps_if (PW.pt (pw_or (pt_cmpR op_notTyB (pe_callTy call_type1 (by rfl) T.n_type (by decide +kernel) (pa_cons (pv 0) pa_nil)) (pe_bltn (v := .ty "tuple") (by rfl) T.n_tuple (by decide +kernel) rfl) (nomark _)) (pw_or1 (pt_cmpR op_ne (pe_callB call_len_seq (by rfl) T.n_len (by decide +kernel) (pa_cons (pv 0) pa_nil)) pe_int (nomark _))))) (pss_one (ps_ret pe_bl)) pss_nil)
      (pss_cons (ps_asg (pv 0) (pg_tup (by rfl) (pgs_cons (pg_name (i := 1) sc_is_worth.nd rfl (.inl rfl)) (pgs_cons (pg_name (i := 2) sc_is_worth.nd rfl (.inl rfl)) pgs_nil))))
      (pss_cons (ps_if (PW.pt (pw_or (pt_cmpR op_notTyB (pe_callTy call_type1 (by rfl) T.n_type (by decide +kernel) (pa_cons (pv 1) pa_nil)) (pe_bltn (v := .ty "str") (by rfl) T.n_str (by decide +kernel) rfl) (nomark _)) (pw_or (pt_cmpR (op_notIn_kd T.k_SIGNS) (pv 1) (pe_glob (v := .ref T.d_SIGNS) (by rfl) T.c_SIGNS rfl) (by rfl)) (pw_or1 (pt_not (pt_val (pe_call G_is_number (hr.mono (by decide)) (by rfl) T.g_is_number T.F_is_number.kp T.b_is_number .nil pass0 (pa_cons (pv 2) pa_nil)))))))) (pss_one (ps_ret pe_bl)) pss_nil)
      (pss_one (ps_ret (pe_or (pe_cmpR op_eq (pv 1) pe_str (nomark _)) (pe_one (pe_cmpR op_ge (pv 2) pe_int (nomark _))))))))), ?_⟩
    rw [show L2.start ["thing", "word", "number"] [v] = [some v, none, none] from rfl]
    try dsimp only [cxOf]
    rcases ht with ⟨ty, hk, hn, rfl⟩ | ⟨p, xs, rfl, hp, ht⟩
    · walk_at "wp"
      refine iteN (fun _ => ?_) (fun e => absurd e hn)
      walk_at "wp"
      exact q
    · have hk : Kind H (.ref p) "tuple" := .tup hp
      walk_at "wp"
      refine iteN (fun e => absurd rfl e) (fun _ => ?_)
      walk_at "wp"
      rcases ht with ⟨hl, rfl⟩ | ⟨x, y, T1, T2, rfl, h1, h2, rfl⟩
      · refine iteN (fun _ => ?_) (fun e => ?_)
        · walk_at "wp"
          exact q
        · exact absurd (by have := V.int.inj e; omega) hl
      · refine iteN (fun e => absurd rfl e) (fun _ => ?_)
        walk_at "wp"
        refine iteN (fun e => ?_) (fun e => ?_)
        · walk_at "wp"
          rw [verd_noStr h1 e] at q
          exact q
        · obtain ⟨z, rfl⟩ := Kind.isStr h1 e
          walk_at "wp"
          obtain ⟨r, hr1, hr2⟩ := T.i_SIGNS z
          refine ⟨z, r, rfl, rfl, hr1, ?_⟩
          walk_at "wp"
          cases hs : r.isSome with
          | false =>
            walk_at "wp"
            have hv : verd (.str z) y = false := by
              rw [hs] at hr2
              cases y <;> try rfl
              show (decide (z = "num") || ((decide (z = "at") || decide (z = "box") || decide (z = "go")) && decide (0 ≤ _))) = false
              cases d1 : decide (z = "num") <;> cases d2 : decide (z = "at") <;> cases d3 : decide (z = "box") <;> cases d4 : decide (z = "go") <;> simp [d1, d2, d3, d4] at hr2 ⊢
            rw [hv] at q
            exact q
          | true =>
            walk_at "wp"
            refine ⟨y, T2, rfl, h2, ?_⟩
            walk_at "wp"
            refine iteN (fun e2 => ?_) (fun e2 => ?_)
            · walk_at "wp"
              rw [verd_noInt h2 e2] at q
              exact q
            · obtain ⟨n, rfl⟩ := Kind.isInt h2 e2
              walk_at "wp"
              have hv : verd (.str z) (.int n) = (decide (z = "num") || decide (0 ≤ n)) := by
                rw [hs] at hr2
                show (decide (z = "num") || ((decide (z = "at") || decide (z = "box") || decide (z = "go")) && decide (0 ≤ n))) = _
                cases d1 : decide (z = "num") <;> cases d2 : decide (z = "at") <;> cases d3 : decide (z = "box") <;> cases d4 : decide (z = "go") <;> simp [d1, d2, d3, d4] at hr2 ⊢
              rw [hv] at q
              refine ite_ (fun e3 => ?_) (fun e3 => ?_)
              · walk_at "wp"
                have e4 : z = "num" := V.str.inj e3
                rw [decide_eq_true e4] at q
                exact q
              · walk_at "wp"
                have e4 : ¬ z = "num" := fun h => e3 (by rw [h])
                rw [decide_eq_false e4] at q
                exact q

end
end K15

/-! Ways and their lengths; all from which one comes to a thing. -/
namespace Wwy
open PySem PySem.Spec PyProof.Rows L2 Wp Wq Wr Wpm Wpn Wth
/-! ### within so many things -/
def Wn (R : List W) (h : W → List W) : Nat → W → Prop
  | 0, _ => False
  | k + 1, z => z ∈ R ∨ ∃ y, Wn R h k y ∧ z ∈ h y
section
variable {R : List W} {h : W → List W} {z y : W} {k n m : Nat}
theorem Wn.up : ∀ {k : Nat} {z : W}, Wn R h k z → Wn R h (k + 1) z
  | 0, _, w => w.elim
  | k + 1, z, w => by
    rcases w with w | ⟨y, w, m⟩
    · exact .inl w
    · exact .inr ⟨y, Wn.up w, m⟩
theorem Wn.mono (w : Wn R h k z) (l : k ≤ n) : Wn R h n z := by
  induction l with
  | refl => exact w
  | step _ ih => exact ih.up
theorem Wn.reach : ∀ {k : Nat} {z : W}, Wn R h k z → Reach R h z
  | 0, _, w => w.elim
  | k + 1, z, w => by
    rcases w with w | ⟨y, w, m⟩
    · exact .root w
    · exact .step (Wn.reach w) m
/-- just so far -/
def Rank (R : List W) (h : W → List W) (k : Nat) (z : W) : Prop := Wn R h (k + 1) z ∧ ¬ Wn R h k z
theorem Rank.uniq (a : Rank R h k z) (b : Rank R h n z) : k = n := by
  rcases Nat.lt_trichotomy k n with l | l | l
  · exact (b.2 (a.1.mono l)).elim
  · exact l
  · exact (a.2 (b.1.mono l)).elim
theorem Rank.root (m : z ∈ R) : Rank R h 0 z := ⟨.inl m, fun w => w⟩
theorem Rank.zero (r : Rank R h 0 z) : z ∈ R := by
  rcases r.1 with w | ⟨y, w, _⟩
  · exact w
  · exact w.elim
theorem Rank.down (r : Rank R h (k + 1) z) : ∃ y, Rank R h k y ∧ z ∈ h y := by
  rcases r.1 with w | ⟨y, w, m⟩
  · exact (r.2 (.inl w)).elim
  · exact ⟨y, ⟨w, fun c => r.2 (.inr ⟨y, c, m⟩)⟩, m⟩
theorem Rank.below : ∀ {k : Nat} {z : W}, Rank R h k z → ∀ j, j ≤ k → ∃ y, Rank R h j y
  | 0, z, r, j, l => ⟨z, by rw [Nat.le_zero.mp l]; exact r⟩
  | k + 1, z, r, j, l => by
    by_cases c : j = k + 1
    · exact ⟨z, c ▸ r⟩
    · obtain ⟨y, q, _⟩ := r.down
      exact q.below j (by omega)
theorem Rank.len {T : List W} (r : Rank R h k z) (inT : ∀ y, Reach R h y → y ∈ T) : k < T.length := by
  have ex : ∀ j, ∃ y, j ≤ k → Rank R h j y := fun j => by
    by_cases c : j ≤ k
    · obtain ⟨y, q⟩ := r.below j c
      exact ⟨y, fun _ => q⟩
    · exact ⟨z, fun q => (c q).elim⟩
  obtain ⟨f, hf⟩ := Classical.axiomOfChoice ex
  have := sub_len (F := (List.range (k + 1)).map f) (L := T) ?_ ?_
  · rw [List.length_map, List.length_range] at this
    omega
  · show List.Pairwise _ _
    rw [List.pairwise_map]
    refine List.Pairwise.imp_of_mem (fun {a b} ha hb (q : a < b) e => ?_) List.pairwise_lt_range
    have := (hf a (by have := List.mem_range.mp ha; omega)).uniq (e ▸ hf b (by have := List.mem_range.mp hb; omega))
    omega
  · intro y hy
    obtain ⟨j, hj, rfl⟩ := List.mem_map.mp hy
    exact inT _ (hf j (by have := List.mem_range.mp hj; omega)).1.reach
/-! ### what is met so far, and the last level -/
structure LI (R : List W) (h : W → List W) (F N : List W) (n : Nat) : Prop where
  all : ∀ z, z ∈ F ↔ Wn R h (n + 1) z
  last : ∀ z, z ∈ N ↔ Rank R h n z
theorem LI.start {F : List W} (e : ∀ z, z ∈ F ↔ z ∈ R) : LI R h F F 0 := by
  refine ⟨fun z => ?_, fun z => ?_⟩
  · rw [e]
    exact ⟨fun m => .inl m, fun w => w.elim id fun ⟨_, w, _⟩ => w.elim⟩
  · rw [e]
    exact ⟨Rank.root, Rank.zero⟩
theorem LI.next {F N M : List W} (i : LI R h F N n) (inM : ∀ z ∈ M, z ∉ F ∧ ∃ y ∈ N, z ∈ h y) (al : ∀ y ∈ N, ∀ z ∈ h y, z ∈ F ++ M) : LI R h (F ++ M) M (n + 1) := by
  have new : ∀ z ∈ M, Rank R h (n + 1) z := fun z m => by
    obtain ⟨nf, y, yN, zy⟩ := inM z m
    exact ⟨.inr ⟨y, ((i.last y).mp yN).1, zy⟩, fun w => nf ((i.all z).mpr w)⟩
  have full : ∀ z, Wn R h (n + 2) z → z ∈ F ++ M := fun z w => by
    rcases w with w | ⟨y, w, zy⟩
    · exact List.mem_append_left _ ((i.all z).mpr (.inl w))
    · by_cases c : Wn R h n y
      · exact List.mem_append_left _ ((i.all z).mpr (.inr ⟨y, c, zy⟩))
      · exact al y ((i.last y).mpr ⟨w, c⟩) z zy
  refine ⟨fun z => ⟨fun m => ?_, full z⟩, fun z => ⟨new z, fun r => ?_⟩⟩
  · rcases List.mem_append.mp m with m | m
    · exact ((i.all z).mp m).up
    · exact (new z m).1
  · rcases List.mem_append.mp (full z r.1) with m | m
    · exact (r.2 ((i.all z).mp m)).elim
    · exact m
theorem LI.done {F : List W} (i : LI R h F [] n) : ∀ z, z ∈ F ↔ Reach R h z := by
  have none : ∀ z, ¬ Rank R h n z := fun z r => nomatch ((i.last z).mpr r)
  have stop : ∀ k z, Wn R h k z → Wn R h n z := by
    intro k
    induction k with
    | zero => exact fun z w => w.elim
    | succ k ih =>
      intro z w
      have w1 : Wn R h (n + 1) z := by
        rcases w with w | ⟨y, w, m⟩
        · exact .inl w
        · exact .inr ⟨y, ih y w, m⟩
      exact Classical.byContradiction fun c => none z ⟨w1, c⟩
  intro z
  rw [i.all]
  refine ⟨Wn.reach, fun r => ?_⟩
  obtain ⟨k, w⟩ : ∃ k, Wn R h k z := by
    induction r with
    | root m => exact ⟨1, .inl m⟩
    | step _ m ih => obtain ⟨k, w⟩ := ih; exact ⟨k + 1, .inr ⟨_, w, m⟩⟩
  exact (stop k z w).up
/-! ### the one ahead -/
def StepV (H : Hp) (R : List W) (h : W → List W) (v : V) (z : W) : Prop := (v = .non ∧ z ∈ R) ∨ ∃ y k, IsW H v y ∧ z ∈ h y ∧ Rank R h k y ∧ Rank R h (k + 1) z
def Steps (H : Hp) (R : List W) (h : W → List W) (kvs : List (List Key × V)) : Prop := ∀ z v, valV kvs (keyT z) = some v → StepV H R h v z
theorem Steps.keep {H H' : Hp} {kvs : List (List Key × V)} (s : Steps H R h kvs) (k : Tk H H') : Steps H' R h kvs := fun z v e => by
  rcases s z v e with q | ⟨y, n, w, r⟩
  · exact .inl q
  · exact .inr ⟨y, n, w.keep k, r⟩
theorem Steps.put {H : Hp} {kvs : List (List Key × V)} {v : V} (s : Steps H R h kvs) (q : StepV H R h v z) : Steps H R h (putK kvs (keyT z) v) := fun x u e => by
  rw [valV_put] at e
  by_cases c : keyT x = keyT z
  · rw [if_pos c] at e
    cases e
    rw [keyT_inj c]
    exact q
  · rw [if_neg c] at e
    exact s x u e
theorem Steps.nil {H : Hp} : Steps H R h [] := fun z v e => nomatch e
/-! ### a way to a thing -/
inductive Path (h : W → List W) : List W → W → Prop where
  | one (z : W) : Path h [z] z
  | cons {x y z : W} {l : List W} (m : x ∈ h y) (p : Path h (x :: l) z) : Path h (y :: x :: l) z
theorem Path.at {l : List W} (p : Path h l z) : ∀ j x y, l[j]? = some x → l[j + 1]? = some y → y ∈ h x := by
  induction p with
  | one z => intro j x y _ e; cases j <;> cases e
  | cons m p ih =>
    intro j x y e1 e2
    cases j with
    | zero => cases e1; cases e2; exact m
    | succ j => exact ih j x y e1 e2
theorem Path.last {l : List W} (p : Path h l z) : l[l.length - 1]? = some z := by
  induction p with
  | one z => rfl
  | cons m p ih => exact ih
theorem Path.all {l : List W} (p : Path h l z) : WayAll h l l.length := fun j j0 jl x y e1 e2 => by
  have := p.at (j - 1) x y e1
  rw [Nat.sub_add_cancel j0] at this
  exact this e2
structure WayTo (R : List W) (h : W → List W) (way : List W) (z : W) : Prop where
  path : Path h way z
  root : ∃ w, way[0]? = some w ∧ w ∈ R
  rank : Rank R h (way.length - 1) z
  pos : 0 < way.length
/-! ### all from which one comes to a thing -/
inductive Comes (h : W → List W) (z : W) : W → Prop where
  | refl : Comes h z z
  | step {x y : W} (m : y ∈ h x) (c : Comes h z y) : Comes h z x
structure Behind (P : Pic) (z : W) (ws : List W) : Prop where
  inT : ∀ x ∈ ws, x ∈ P.things ∧ Comes (holdM (tableM P)) z x
  len : ws.length ≤ P.things.length
  self : z ∈ ws
  shut : ∀ y ∈ P.things, ∀ x ∈ ws, x ∈ holdM (tableM P) y → y ∈ ws
theorem comes_reach {x : W} (c : Comes h z x) (r : Reach R h x) : Reach R h z := by
  induction c with
  | refl => exact r
  | step m _ ih => exact ih (.step r m)
end
theorem seq_kp {K : PySem.W.Frag} {H H' : Hp} {a b : Addr} {xs : List V} (h : SqL K H a xs) (n : H b = none) (k : Kp b H H') : SqL K H' a xs := by
  refine Same.seq (H := H) (fun x o e => k x o (fun q => ?_) e) h
  rw [q, n] at e
  cases e
end Wwy

namespace Wwy
open PySem PySem.Spec PyProof.Rows L2 Wp Wq Wr Wpm Wpn Wth
/-- the values are new to F -/
def FreshT (F : Hp) (kvs : List (List Key × V)) : Prop := ∀ kv ∈ kvs, ∀ l, kv.2 = V.ref l → F l = none
theorem FreshT.snoc {F : Hp} {kvs : List (List Key × V)} {k : List Key} {p : Addr} (h : FreshT F kvs) (n : F p = none) : FreshT F (kvs ++ [(k, .ref p)]) := fun kv m l e => by
  rcases List.mem_append.mp m with m | m
  · exact h kv m l e
  · rw [List.mem_singleton.mp m] at e
    cases e
    exact n
theorem FreshT.get {F : Hp} {kvs : List (List Key × V)} {k : List Key} {l : Addr} (h : FreshT F kvs) (e : valV kvs k = some (.ref l)) : F l = none := by
  induction kvs with
  | nil => cases e
  | cons kv r ih =>
    obtain ⟨k', v⟩ := kv
    by_cases c : k' = k
    · rw [valV_pos c] at e
      exact h (k', v) List.mem_cons_self l (Option.some.inj e)
    · rw [valV_neg c] at e
      exact ih (fun x m => h x (List.mem_cons_of_mem _ m)) e
end Wwy

/-! What is a picture: sorted worths, what stands in order, the rules that its defs want. -/
namespace Wip
open PySem PySem.Spec PyProof.Rows L2 Wp Wq Wr Wpm Wpn Wth
/-! ### worths in order -/
def wLt (a b : W) : Prop := strLt a.1 b.1 ∨ (a.1 = b.1 ∧ a.2 < b.2)
theorem wLt_asymm {a b : W} (h : wLt a b) (k : wLt b a) : False := by
  rcases h with h | ⟨h1, h2⟩
  · rcases k with k | ⟨k1, _⟩
    · exact List.lt_asymm h k
    · unfold strLt at h; rw [k1] at h; exact List.lt_irrefl _ h
  · rcases k with k | ⟨_, k2⟩
    · unfold strLt at k; rw [h1] at k; exact List.lt_irrefl _ k
    · omega
theorem le_w {a b : Ws.VD} {p q : W} (ha : a.2 = wD p) (hb : b.2 = wD q) (h : Ws.leD a b = true) (n : p ≠ q) : wLt p q := by
  have h2 : (!PySem.W.dataLt b.2 a.2) = true := h
  rw [ha, hb] at h2
  unfold wD at h2
  rw [PySem.W.dataLt_pair (by simp [PySem.W.alike]) (by simp [PySem.W.alike])] at h2
  simp only [PyData.eqv, PySem.W.dataLt_str, beq_iff_eq] at h2
  by_cases e : q.1 = p.1
  · rw [if_pos e] at h2
    refine .inr ⟨e.symm, ?_⟩
    have h3 : ¬ q.2 < p.2 := by
      intro c
      rw [if_neg (by omega), PySem.W.dataLt_int, decide_eq_true c] at h2
      cases h2
    have : p.2 ≠ q.2 := fun c => n (Prod.ext e.symm c)
    omega
  · rw [if_neg e] at h2
    refine .inl ?_
    have h3 : ¬ q.1.cps.toList < p.1.cps.toList := by
      intro c
      rw [decide_eq_true c] at h2
      cases h2
    show p.1.cps.toList < q.1.cps.toList
    by_cases c : p.1.cps.toList < q.1.cps.toList
    · exact c
    · exact absurd (Str.ext' (Array.toList_inj.mp (List.le_antisymm (List.not_lt.mp c) (List.not_lt.mp h3)))) e
def RW (H : Hp) (b : Ws.VD) (z : W) : Prop := b.2 = wD z ∧ IsW H b.1 z
section
variable {H : Hp} {K : PySem.W.Frag} {xs : List V} {ws : List W} {bs : List Ws.VD} {a : Addr} {Q : VK}
theorem bs_of : ∀ {xs : List V} {ws : List W}, Paired (IsW H) xs ws → ∃ bs : List Ws.VD, bs.map (·.1) = xs ∧ Paired (RW H) bs ws
  | _, _, .nil => ⟨[], rfl, .nil⟩
  | x :: _, z :: _, .cons r t => by
    obtain ⟨bs, e, p⟩ := bs_of t
    exact ⟨(x, wD z) :: bs, by rw [List.map_cons, e], .cons ⟨rfl, r⟩ p⟩
theorem bs_pile : ∀ {bs : List Ws.VD} {ws : List W}, Paired (RW H) bs ws → Paired (IsW H) (bs.map (·.1)) ws
  | _, _, .nil => .nil
  | _, _, .cons r t => .cons r.2 (bs_pile t)
theorem bs_mem (h : Paired (RW H) bs ws) {b : Ws.VD} (hb : b ∈ bs) : ∃ z, z ∈ ws ∧ RW H b z := by
  obtain ⟨i, hi⟩ := List.getElem?_of_mem hb
  obtain ⟨z, hz, r⟩ := pair_at1 h hi
  exact ⟨z, List.mem_of_getElem? hz, r⟩
theorem up_of (h : Paired (RW H) bs ws) (hs : bs.Pairwise (fun a b => Ws.leD a b = true)) (nd : ws.Nodup) : ws.Pairwise wLt := by
  induction h with
  | nil => exact .nil
  | cons r t ih =>
    obtain ⟨h1, h2⟩ := List.pairwise_cons.mp hs
    obtain ⟨n1, n2⟩ := List.nodup_cons.mp nd
    refine List.pairwise_cons.mpr ⟨fun z hz => ?_, ih h2 n2⟩
    obtain ⟨i, hi⟩ := List.getElem?_of_mem hz
    obtain ⟨b, hb, rb⟩ := pair_at t hi
    exact le_w r.1 rb.1 (h1 b (List.mem_of_getElem? hb)) fun e => n1 (e ▸ hz)
theorem sort_ws {X : List V} (h : Pile H xs ws) (nd : ws.Nodup) (wok : ∀ z ∈ ws, Wok z) (e : X = [.ref a]) (hs : SqL K H a xs) (q : ∀ (p : Addr) (ys : List V) (zs : List W), H p = none → zs.Perm ws → Pile H ys zs → zs.Pairwise wLt → Q (.ref p) (upd H p (.lst ys))) : Ws.rSortD K X H Q := by
  obtain ⟨bs, eb, pb⟩ := bs_of h
  obtain ⟨zs, hp, pz⟩ := Wc.perm_pair (List.mergeSort_perm bs Ws.leD) pb
  refine ⟨a, bs, e, by rw [eb]; exact hs, fun b hb => ?_, ?_, .inl ?_, fun b hb => ?_, fun p hpn => ?_⟩
  · obtain ⟨z, _, r⟩ := bs_mem pb hb
    rw [r.1]; exact r.2.dp
  · intro d hd e he
    obtain ⟨b, hb, rfl⟩ := List.mem_map.mp hd
    obtain ⟨c, hc, rfl⟩ := List.mem_map.mp he
    obtain ⟨z, _, r⟩ := bs_mem pb hb
    obtain ⟨y, _, r'⟩ := bs_mem pb hc
    rw [r.1, r'.1]
    simp [wD, PySem.W.alike, PySem.W.alikeAll]
  · intro d hd
    obtain ⟨b, hb, rfl⟩ := List.mem_map.mp hd
    obtain ⟨z, hz, r⟩ := bs_mem pb hb
    exact ⟨_, _, r.1⟩
  · obtain ⟨z, _, r⟩ := bs_mem pb hb
    rw [r.1, wD_depth]; decide
  · exact q p _ zs hpn hp (bs_pile pz) (up_of pz (PySem.W.sort_pairwise Wc.leD_total bs) (hp.nodup_iff.mpr nd))
end
theorem sBox_lt : strLt sBox sGo := by unfold strLt; decide +kernel
theorem things_up {P : Pic} (h1 : P.goings.Pairwise fun a b => a.1 < b.1) (h2 : P.boxes.Pairwise fun a b => a.1 < b.1) : P.things.Pairwise wLt := by
  unfold Pic.things
  refine List.pairwise_append.mpr ⟨?_, ?_, fun x hx y hy => ?_⟩
  · rw [List.pairwise_map]
    exact h2.imp fun h => .inr ⟨rfl, h⟩
  · rw [List.pairwise_map]
    exact h1.imp fun h => .inr ⟨rfl, h⟩
  · obtain ⟨b, _, rfl⟩ := List.mem_map.mp hx
    obtain ⟨g, _, rfl⟩ := List.mem_map.mp hy
    exact .inl sBox_lt
theorem up_nodup {ws : List W} (h : ws.Pairwise wLt) : ws.Nodup := h.imp fun h e => by
  subst e
  exact wLt_asymm h h
/-- a picture but for which things stand where -/
structure PicW (P : Pic) : Prop where
  words : ∀ z ∈ P.worths, Wk z
  names : ∀ p ∈ P.pegs, Wu.Nm p.1 ∧ 1 ≤ p.1.length
  pegUp : P.pegs.Pairwise fun a b => strLt a.1 b.1
  goUp : P.goings.Pairwise fun a b => a.1 < b.1
  goNat : ∀ g ∈ P.goings, 0 ≤ g.1 ∧ 0 ≤ g.2.1
  boxUp : P.boxes.Pairwise fun a b => a.1 < b.1
  boxNat : ∀ b ∈ P.boxes, 0 ≤ b.1
theorem PicW.of {P : Pic} (ok : P.Ok) : PicW P := ⟨ok.words, ok.names, ok.pegUp, ok.goUp, ok.goNat, ok.boxUp, ok.boxNat⟩
def Closed (P : Pic) : Prop := (∀ z ∈ P.worths, (z.1 = sBox ∨ z.1 = sGo) → z ∈ P.things) ∧ ∀ z ∈ P.things, z ∈ P.worths
theorem PicW.ok {P : Pic} (w : PicW P) (c : Closed P) : P.Ok := ⟨w.words, w.names, w.pegUp, w.goUp, w.goNat, w.boxUp, w.boxNat, c.1, c.2⟩
theorem sorted_iff {P : Pic} (w : PicW P) {zs : List W} (hp : zs.Perm (thingsM P.worths)) (hu : zs.Pairwise wLt) : zs = P.things ↔ Closed P := by
  have tu := things_up w.goUp w.boxUp
  have mm : ∀ z, z ∈ zs ↔ z ∈ P.worths ∧ isT z = true := fun z => hp.mem_iff.trans mem_things
  constructor
  · intro e
    refine ⟨fun z hz ht => ?_, fun z hz => ?_⟩
    · rw [← e]; exact (mm z).mpr ⟨hz, isT_iff.mpr ht⟩
    · rw [← e] at hz; exact ((mm z).mp hz).1
  · intro c
    refine List.Perm.eq_of_pairwise (le := wLt) (fun a b _ _ h k => (wLt_asymm h k).elim) hu tu ((List.perm_ext_iff_of_nodup (up_nodup hu) (up_nodup tu)).mpr fun z => ?_)
    rw [mm]
    exact ⟨fun h => c.1 z h.1 (isT_iff.mp h.2), fun h => ⟨c.2 z h, thing_isT h⟩⟩
/-! ### rules -/
def rLt : R2 := fun x y H Q => (∃ i j, x = .int i ∧ y = .int j ∧ Q (.bl (decide (i < j))) H) ∨ ∃ s t, x = .str s ∧ y = .str t ∧ Q (.bl (decide (s.cps.toList < t.cps.toList))) H
theorem op_ltIS {X : Cx} : OpR X (compareOp .Lt) rLt := by
  intro pins s σ H x y v u Q I rx ry h
  rcases h with h | h
  · exact op_lt pins s σ H x y v u Q I rx ry h
  · exact op_lt_str pins s σ H x y v u Q I rx ry h
section
variable {σ : L2.St} {H : Hp} {Q : VK} {te : TE} {g : TG} {tt : TT} {vs : List Nat}
theorem lcS {tx : TE} (h : tx σ H fun v H1 => ∃ x, v = .str x ∧ ∀ D, H1 D = none → LoopC (Its x) g tt te vs σ D (fun H => Q (.ref D) H) (upd H1 D (.lst []))) : tLc (iStr tx) g tt te vs σ H Q := h
theorem loopCS {x : Str} {D : Addr} {Qd : Hp → Prop} (Pv : Nat → Hp → Prop) (h0 : Pv 0 H)
    (hs : ∀ i c H, x.cps.toList[i]? = some c → Pv i H → g (.str ⟨#[c]⟩) (wipe σ vs) H fun σ2 H2 => wipe σ2 vs = wipe σ vs ∧ tt σ2 H2 fun b H3 =>
      if b = true then te σ2 H3 fun y H4 => ∃ acc, H4 D = some (.lst acc) ∧ acc.length < sizeLine ∧ Pv (i + 1) (upd H4 D (.lst (acc ++ [y]))) else Pv (i + 1) H3) (hd : ∀ H, Pv x.length H → Qd H) : LoopC (Its x) g tt te vs σ D Qd H := by
  refine ⟨fun i m H => m = x.length - i ∧ i ≤ x.length ∧ Pv i H, ⟨x.length, by simp, Nat.zero_le _, h0⟩, ?_⟩
  rintro i m H ⟨rfl, hi, p⟩
  by_cases hlt : i < x.length
  · refine .inr ⟨hlt, Pv (i + 1), fun H' p' => ⟨x.length - (i + 1), by omega, rfl, hlt, p'⟩, fun v H' y => ?_⟩
    obtain ⟨rfl, c, hc, rfl⟩ := y
    exact hs i c _ (by rw [Array.getElem?_toList]; exact hc) p
  · have e : i = x.length := by omega
    subst e
    exact .inl ⟨Nat.le_refl _, hd H p⟩
end
end Wip

namespace K15
open PySem PySem.Spec PyProof.Rows L2 Wp Wq Wr Wpm Wpn Wth
local macro_rules | `(tactic| walk_at "ne") => `(tactic| first
  | assumption
  | (refine Ne.symm ?_; assumption)
  | exact ne_of_none (by assumption) (by assumption)
  | exact (ne_of_none (by assumption) (by assumption)).symm
  | exact ne_of (by assumption) (by assumption) (by intro q; cases q))
local macro_rules | `(tactic| walk_at "hp") => `(tactic| first
  | assumption
  | exact upd_same
  | (refine (upd_ne ?_).trans ?_; (walk_at "ne"); (walk_at "hp")))
local macro_rules | `(tactic| walk_at "hq") => `(tactic| first
  | assumption
  | exact upd_same
  | (refine same_new (by assumption) _ _ ?_; (walk_at "hq"))
  | (refine Wp.look (by assumption) ?_; (walk_at "hq")))
local macro_rules | `(tactic| walk_at "sm") => `(tactic| first
  | assumption
  | exact fun _ _ h => h
  | exact same_new (by assumption)
  | (refine Same.trans ?_ (same_new (by assumption)); (walk_at "sm"))
  | (refine Same.trans ?_ (by assumption); (walk_at "sm")))
local macro_rules | `(tactic| walk_at "kp") => `(tactic| first
  | assumption
  | exact Kp.refl _ _
  | (refine Kp.trans ?_ (Kp.new (by assumption)); (walk_at "kp"))
  | (refine Kp.trans ?_ (Same.kp (by assumption)); (walk_at "kp"))
  | (refine Wp.kpT ?_ (by assumption); (walk_at "kp"))
  | exact Same.kp (by walk_at "sm"))
local macro_rules | `(tactic| walk_at "sq") => `(tactic| first
  | assumption
  | exact SqL.of (by walk_at "hp")
  | exact SqT.of (by walk_at "hp"))
local macro_rules | `(tactic| walk_at "kind") => `(tactic| first
  | assumption
  | exact Kind.int _
  | exact Kind.str _
  | exact Kind.bl _
  | exact Kind.non
  | exact Kind.tup (by walk_at "hp")
  | exact Kind.lst (by walk_at "hp")
  | exact Kind.dK (by walk_at "hp"))
local macro_rules | `(tactic| walk_at "w1") => `(tactic| first
  | (with_reducible refine Wp.seq ?_)
  | (with_reducible refine Wp.nx_mk ?_)
  | (with_reducible refine Wp.rt_mk ?_)
  | (with_reducible refine Wp.bk_mk ?_)
  | (with_reducible refine Wp.ct_mk ?_)
  | (with_reducible refine Wp.next ?_)
  | (with_reducible refine Wp.asg ?_)
  | ((with_reducible refine' Wp.gname ?e ?_); (case e => (try dsimp only [List.set, L2.wipe, List.map_cons, List.map_nil]); (try exact rfl)))
  | (with_reducible refine Wp.gsub ?_)
  | (with_reducible refine Wp.ret ?_)
  | (with_reducible refine Wp.retN ?_)
  | (with_reducible refine Wp.drop ?_)
  | (with_reducible refine Wp.dput ?_)
  | (with_reducible refine Wp.ifs ?_)
  | ((with_reducible refine' Wp.var ?h ?_); (case h => exact rfl))
  | (with_reducible refine Wp.con ?_)
  | (with_reducible refine Wp.op ?_)
  | (with_reducible refine Wp.un ?_)
  | (with_reducible refine Wp.cb ?_)
  | (with_reducible refine Wp.anil ?_)
  | (with_reducible refine Wp.acons ?_)
  | (with_reducible refine Wp.call ?_)
  | (with_reducible refine Wp.test ?_)
  | (with_reducible refine Wp.tb_ ?_)
  | (with_reducible refine Wp.and_ ?_)
  | (with_reducible refine Wp.or_ ?_)
  | (with_reducible refine Wp.not_ ?_)
  | (with_reducible refine Wp.andV ?_)
  | (with_reducible refine Wp.orV ?_)
  | (with_reducible refine Wp.notV ?_)
  | (with_reducible refine Wp.rI0_ ?_)
  | (with_reducible refine Wp.rU_ ?_)
  | ((with_reducible refine Wp.rEq_ ?k ?_); (case k => exact rfl))
  | ((with_reducible refine Wp.rNe_ ?k ?_); (case k => exact rfl))
  | (with_reducible refine Wp.gcons ?_)
  | (with_reducible refine Wp.gnil ?_)
  | ((with_reducible refine' Wp.gtup ?h ?e ?_); (case h => walk_at "sq"); (case e => exact rfl))
  | (with_reducible refine Wp.sl ?_)
  | (with_reducible refine Wp.part ?_)
  | (with_reducible refine Wp.nopart ?_)
  | (with_reducible refine Wp.ifE ?_)
  | (with_reducible refine Wp.bm0 ?_)
  | (with_reducible refine Wp.bm ?_)
  | (with_reducible refine Wp.lcR1 ?_)
  | (with_reducible refine Wp.lcR2 ?_)
  | (with_reducible refine Wp.lcL ?_)
  | (with_reducible refine Wp.chain ?_)
  | (with_reducible refine Wp.lc2V ?_)
  | (with_reducible refine Wp.piL ?_)
  | (with_reducible refine Wp.yes ?_)
  | (with_reducible refine Wp.dinI ?_)
  | (with_reducible refine Wp.dninI ?_)
  | (with_reducible refine Wp.dget ?_)
  | ((with_reducible refine' ⟨?k, ?_⟩); (case k => show L2.wipe _ _ = L2.wipe _ _; exact rfl))
  | ((with_reducible refine' ⟨?k, ?_⟩); (case k => show V.non = V.non; exact rfl))
  | (with_reducible refine Wp.forR1 ?_)
  | (with_reducible refine Wp.forR2 ?_)
  | (with_reducible refine Wp.forL ?_)
  | (with_reducible refine Wp.forT ?_)
  | ((with_reducible refine' ⟨?k, ?_⟩); (case k => exact Wp.tyvL (by walk_at "hp")))
  | ((with_reducible refine' Wp.rev_ ?k ?_); (case k => walk_at "hp"))
  | ((with_reducible refine' Wp.isi ?k ?h ?_); (case k => walk_at "kind"); (case h => decide))
  | ((with_reducible refine' Wp.typ ?k ?_); (case k => walk_at "kind"))
  | (with_reducible refine Wp.slS ?k ?_; (case k => assumption))
  | (with_reducible refine iteT ?_)
  | (with_reducible refine iteF ?_)
  | (with_reducible refine Wtc.dcL ?_)
  | (with_reducible refine Wst.step ?_)
  | (with_reducible refine Wtc.dget2 ?_)
  | (with_reducible refine Wtc.lcZ ?_)
  | (with_reducible refine Wrw.loop_setLc ?_)
  | (with_reducible refine Wz.par ?_)
  | (with_reducible refine Wz.forN ?_)
  | (with_reducible refine Wz.dcL ?_)
  | (with_reducible refine Wz.forZ ?_)
  | (with_reducible refine Wz.lcR3 ?_)
  | (with_reducible refine Wc.revL ?_)
  | (with_reducible refine Wd.nm ?_)
  | (with_reducible refine Wd.nget ?_)
  | ((with_reducible refine Wd.tnew ?_); intro p hp)
  | (with_reducible refine Wd.pikn ?_)
  | (with_reducible refine Wt.m1 ?_)
  | (with_reducible refine Wt.m0 ?_)
  | ((with_reducible refine' ⟨?k, ?_⟩); (case k => show ∃ a, _ = V.str a; exact ⟨_, rfl⟩))
  | (with_reducible refine Wt.js_cons ?_)
  | (with_reducible refine Wt.fmt_ ?_)
  | (with_reducible refine Wp.pcons ?_)
  | (with_reducible refine Wp.pnil ?_)
  | ((with_reducible refine' Wp.iteBnT ?h ?_); (case h => show isB _ _ = false; decide))
  | ((with_reducible refine' Wp.iteBnF ?h ?_); (case h => show isB _ _ = true; decide))
  | ((with_reducible refine' Wp.iteBt ?h ?_); (case h => show isB _ _ = true; decide))
  | ((with_reducible refine' Wp.iteBf ?h ?_); (case h => show isB _ _ = false; decide))
  | (with_reducible refine Wp.iteT' ?_)
  | (with_reducible refine Wp.iteF' ?_)
  | (with_reducible refine Wp.rNT_ ?_)
  | ((with_reducible refine Wp.lst ?_))
  | ((with_reducible refine Wp.tup ?_))
  | ((with_reducible refine' Wp.ixL ?h ?e ?_); (case h => walk_at "sq"); (case e => exact rfl))
  | ((with_reducible refine' Wp.ixT ?h ?e ?_); (case h => walk_at "sq"); (case e => exact rfl))
  | ((with_reducible refine' Wp.setL ?h ?e ?_); (case h => walk_at "hp"); (case e => exact rfl))
  | ((with_reducible refine Wp.rI_ ?k ?_); (case k => first | (show (0:Int) < _; omega) | (show CPow _ _; refine' ⟨?_, ?_, ?_⟩ <;> omega) | (show CDiv _ _; refine' ⟨?_, ?_⟩ <;> omega) | (show CMul _ _; refine' Or.inl ⟨?_, ?_⟩ <;> omega) | (show CMul _ _; refine' Or.inr ⟨?_, ?_⟩ <;> first | omega | decide) | (show CDivW _ _; refine' wide_div (b := 240) ?_ ?_ ?_ ?_ <;> first | omega | decide)))
  | ((with_reducible refine ⟨?k, ?_⟩); (case k => first | exact Nat.zero_le _ | (exact Nat.le_of_ble_eq_true rfl)); intro p hp)
  | ((with_reducible refine' ⟨_, _, rfl, .inl ?k, ?_⟩); (case k => walk_at "sq"))
  | ((with_reducible refine' ⟨_, _, rfl, .inr ?k, ?_⟩); (case k => walk_at "sq"))
  | (with_reducible refine ⟨_, rfl, ?_⟩)
  | (with_reducible refine ⟨_, _, rfl, rfl, ?_⟩)
  | (with_reducible refine ⟨_, _, rfl, ?_⟩))
local macro_rules | `(tactic| walk_at "wp") => `(tactic| repeat (walk_at "w1"))

section
variable {P : Program} {w : World} {K : PySem.W.Frag} {mg : Str → Option Value} {base : Heap}
theorem wk_verd {z : W} (h : Wk z) : verd (.str z.1) (.int z.2) = true := by
  show (decide (z.1 = "num") || ((decide (z.1 = "at") || decide (z.1 = "box") || decide (z.1 = "go")) && decide (0 ≤ z.2))) = true
  rcases h with ⟨h | h, n⟩ | ⟨h, n⟩ | h
  · rw [decide_eq_true n, show decide (z.1 = "box") = true from decide_eq_true h]; simp
  · rw [decide_eq_true n, show decide (z.1 = "go") = true from decide_eq_true h]; simp
  · rw [decide_eq_true n, show decide (z.1 = "at") = true from decide_eq_true h]; simp
  · rw [show decide (z.1 = "num") = true from decide_eq_true h]; simp
theorem all_true {α : Type} (ws : List α) : (ws.map fun _ => true).all id = true := List.all_eq_true.mpr fun b hb => by obtain ⟨_, _, rfl⟩ := List.mem_map.mp hb; rfl
theorem true_snoc {α : Type} {ws : List α} {j : Nat} {z : α} (h : ws[j]? = some z) : ((ws.take j).map fun _ => true).map V.bl ++ [V.bl true] = ((ws.take (j + 1)).map fun _ => true).map V.bl := by
  rw [List.take_add_one, h, List.map_append, List.map_append] <;> rfl
def spIsName : Sp := fun vs H Q _ => ∃ s : Str, vs = [.str s] ∧ Wu.Nm s ∧ 1 ≤ s.length ∧ ∀ H', Same H H' → Q (.bl true) H'
theorem ok_is_name (T : Txt P w K mg) : FnOk P w K mg base CX0 1 T.f_is_name T.fd_is_name ["thing"] spIsName := by
  refine T.F_is_name.ok sc_is_name (fun vs H Q E h => ?_) (fun cdv A outer s H vs Q E hr h => ?_)
  · obtain ⟨s, rfl, _⟩ := h
    rfl
  · obtain ⟨z, rfl, ⟨low, l8⟩, l1, q⟩ := h
    refine ⟨_, (pss_cons (ps_if (PW.pt (pw_or (pt_cmpR op_notTyB (pe_callTy call_type1 (by rfl) T.n_type (by decide +kernel) (pa_cons (pv 0) pa_nil)) (pe_bltn (v := .ty "str") (by rfl) T.n_str (by decide +kernel) rfl) (nomark _)) (pw_or1 (pt_not (pt_chain op_le op_le pe_int (pe_callB call_len_str (by rfl) T.n_len (by decide +kernel) (pa_cons (pv 0) pa_nil)) (pe_glob (v := .int 8) (by rfl) T.c_MOST_LETTERS ⟨_, rfl⟩)))))) (pss_one (ps_ret pe_bl)) pss_nil)
      (pss_one (ps_ret (pe_callB (cr_all rfl) (by rfl) T.n_all (by decide +kernel) (pa_cons (pe_lc (own := [("sign", 1)]) rfl sc_is_name.nd (pi_str (pv 0)) (blkOk_by (N := ["thing", "sign"]) (sc := defScope s_is_name) (by decide +kernel)) (fun _ _ _ _ _ => pg_name (i := 1) sc_is_name.nd rfl (Or.inl rfl)) (fun _ _ _ _ _ => pts_nil) (fun _ _ _ _ _ => (pe_cmpR op_in_sign (pv 1) (pe_glob (v := .str "abcdefghijklmnopqrstuvwxyz") (by rfl) T.c_LETTERS ⟨_, rfl⟩) (by rfl)))) pa_nil))))), ?_⟩
    rw [show L2.start ["thing", "sign"] [.str z] = [some (.str z), none] from rfl]
    try dsimp only [cxOf]
    have zl : z.length ≤ sizeLine := Nat.le_of_lt (Wb.small (by omega))
    walk_at "wp"
    refine iteN (fun e => absurd rfl e) (fun _ => ?_)
    walk_at "wp"
    refine ⟨zl, ?_⟩
    walk_at "wp"
    refine ite_ (fun _ => ?_) (fun c => absurd (show (1 : Int) ≤ (z.length : Nat) by omega) c)
    walk_at "wp"
    refine iteN (fun c => absurd (show ((z.length : Nat) : Int) ≤ 8 by omega) c) (fun _ => ?_)
    walk_at "wp"
    refine Wip.lcS ?_
    walk_at "wp"
    intro D hD
    refine Wip.loopCS (fun j H' => Same H H' ∧ H' D = some (.lst (((z.cps.toList.take j).map fun _ => true).map V.bl))) ⟨same_new hD, upd_same⟩ ?_ ?_
    · rintro j c H4 hc ⟨s4, hD4⟩
      have cm := low c (List.mem_of_getElem? hc)
      have jl := (List.getElem?_eq_some_iff.mp hc).1
      have z8 : z.cps.toList.length ≤ 8 := by rw [Array.length_toList]; exact l8
      walk_at "wp"
      have e : decide (c ∈ ("abcdefghijklmnopqrstuvwxyz" : Str).cps.toList) = true := by
        rw [show ("abcdefghijklmnopqrstuvwxyz" : Str).cps.toList = List.range' 97 26 by decide +kernel]
        exact decide_eq_true (List.mem_range'_1.mpr (by omega))
      rw [e]
      refine ⟨_, hD4, by rw [List.length_map, List.length_map, List.length_take]; exact Wb.small (by omega), fun a o q => ?_, ?_⟩
      · rw [upd_ne (ne_of_none q hD)]; exact s4 _ _ q
      · rw [upd_same, true_snoc hc]
    · rintro H4 ⟨s4, hD4⟩
      walk_at "wp"
      refine ⟨D, _, rfl, SqL.of hD4, ?_⟩
      rw [all_true]
      exact q H4 s4
def spIsCount : Sp := fun vs H Q _ => ∃ n : Int, vs = [.int n] ∧ 0 ≤ n ∧ Q (.bl true) H
theorem ok_is_count (T : Txt P w K mg) : FnOk P w K mg base CX0 2 T.f_is_count T.fd_is_count ["thing"] spIsCount := by
  have G_is_number := ok_is_number (base := base) T
  refine T.F_is_count.ok sc_is_count (fun vs H Q E h => ?_) (fun cdv A outer s H vs Q E hr h => ?_)
  · obtain ⟨n, rfl, _⟩ := h
    rfl
  · obtain ⟨n, rfl, n0, q⟩ := h
    refine ⟨_, (pss_one (ps_ret (pe_and (pe_call G_is_number (hr.mono (by decide)) (by rfl) T.g_is_number T.F_is_number.kp T.b_is_number .nil pass0 (pa_cons (pv 0) pa_nil)) (pe_one (pe_cmpR op_ge (pv 0) pe_int (nomark _)))))), ?_⟩
    rw [show L2.start ["thing"] [.int n] = [some (.int n)] from rfl]
    try dsimp only [cxOf]
    walk_at "wp"
    refine ⟨_, _, rfl, .int n, ?_⟩
    walk_at "wp"
    refine ite_ (fun _ => ?_) (fun c => absurd rfl c)
    walk_at "wp"
    rw [decide_eq_true n0]
    exact q
def spIsPile : Sp := fun vs H Q _ => ∃ (a : Addr) (xs : List V) (ws : List W), vs = [.ref a] ∧ H a = some (.lst xs) ∧ Pile H xs ws ∧ (∀ z ∈ ws, Wk z) ∧ ws.length ≤ 900000 ∧ ∀ H', Same H H' → Q (.bl true) H'
theorem ok_is_pile (T : Txt P w K mg) : FnOk P w K mg base CX0 3 T.f_is_pile T.fd_is_pile ["thing"] spIsPile := by
  have G_is_worth := ok_is_worth (base := base) T
  refine T.F_is_pile.ok sc_is_pile (fun vs H Q E h => ?_) (fun cdv A outer s H vs Q E hr h => ?_)
  · obtain ⟨a, xs, ws, rfl, _⟩ := h
    rfl
  · obtain ⟨a, xs, ws, rfl, ha, px, wk, wl, q⟩ := h
    refine ⟨_, (pss_one (ps_ret (pe_and (pe_cmpR op_isTyB (pe_callTy call_type1 (by rfl) T.n_type (by decide +kernel) (pa_cons (pv 0) pa_nil)) (pe_bltn (v := .ty "list") (by rfl) T.n_list (by decide +kernel) rfl) (nomark _)) (pe_one (pe_callB (cr_all rfl) (by rfl) T.n_all (by decide +kernel) (pa_cons (pe_lc (own := [("worth", 1)]) rfl sc_is_pile.nd (pi_list (pv 0)) (blkOk_by (N := ["thing", "worth"]) (sc := defScope s_is_pile) (by decide +kernel)) (fun _ _ _ _ _ => pg_name (i := 1) sc_is_pile.nd rfl (Or.inl rfl)) (fun _ _ _ _ _ => pts_nil) (fun _ _ _ _ _ => (pe_call G_is_worth (hr.mono (by decide)) (by rfl) T.g_is_worth T.F_is_worth.kp T.b_is_worth .nil pass0 (pa_cons (pv 1) pa_nil)))) pa_nil)))))), ?_⟩
    rw [show L2.start ["thing", "worth"] [.ref a] = [some (.ref a), none] from rfl]
    try dsimp only [cxOf]
    have xl := px.len
    walk_at "wp"
    refine ite_ (fun _ => ?_) (fun c => absurd rfl c)
    walk_at "wp"
    refine ⟨⟨xs, SqL.of ha⟩, fun D hD => ?_⟩
    refine loopCL (xs := xs) (fun j H' => Same H H' ∧ H' D = some (.lst (((ws.take j).map fun _ => true).map V.bl))) ⟨same_new hD, upd_same⟩ (fun j H' _ h => SqL.of (h.1 _ _ ha)) ?_ ?_
    · rintro j x H1 hj ⟨s1, h1⟩
      obtain ⟨z, hz, hw⟩ := px.get hj
      obtain ⟨t, rfl, ht⟩ := hw.keep (Same.tk s1)
      have jl := (List.getElem?_eq_some_iff.mp hz).1
      walk_at "wp"
      refine ⟨.ref t, true, rfl, .inr ⟨t, _, rfl, ht, .inr ⟨.str z.1, .int z.2, _, _, rfl, .str _, .int _, (wk_verd (wk z (List.mem_of_getElem? hz))).symm⟩⟩, ?_⟩
      refine ⟨_, h1, by rw [List.length_map, List.length_map, List.length_take]; exact Wb.small (by omega), fun a o e => ?_, ?_⟩
      · rw [upd_ne (ne_of_none e hD)]; exact s1 _ _ e
      · rw [upd_same, true_snoc hz]
    · rintro H1 ⟨s1, h1⟩
      rw [xl, List.take_length] at h1
      walk_at "wp"
      refine ⟨D, _, rfl, SqL.of h1, ?_⟩
      rw [all_true]
      exact q H1 s1
def spAreRows : Sp := fun vs H Q _ => ∃ (a : Addr) (n : Nat) (xs : List V), vs = [.ref a, .int n] ∧ H a = some (.lst xs) ∧ (∀ x ∈ xs, ∃ t ys, x = .ref t ∧ H t = some (.tup ys) ∧ ys.length = n) ∧ xs.length ≤ 900000 ∧ ∀ H', Same H H' → Q (.bl true) H'
theorem ok_are_rows (T : Txt P w K mg) : FnOk P w K mg base CX0 1 T.f_are_rows T.fd_are_rows ["thing", "width"] spAreRows := by
  refine T.F_are_rows.ok sc_are_rows (fun vs H Q E h => ?_) (fun cdv A outer s H vs Q E hr h => ?_)
  · obtain ⟨a, n, xs, rfl, _⟩ := h
    rfl
  · obtain ⟨a, n, xs, rfl, ha, rx, xl, q⟩ := h
    refine ⟨_, (pss_cons (ps_if (pt_cmpR op_notTyB (pe_callTy call_type1 (by rfl) T.n_type (by decide +kernel) (pa_cons (pv 0) pa_nil)) (pe_bltn (v := .ty "list") (by rfl) T.n_list (by decide +kernel) rfl) (nomark _)) (pss_one (ps_ret pe_bl)) pss_nil)
      (pss_one (ps_ret (pe_callB (cr_all rfl) (by rfl) T.n_all (by decide +kernel) (pa_cons (pe_lc (own := [("row", 2)]) rfl sc_are_rows.nd (pi_list (pv 0)) (blkOk_by (N := ["thing", "width", "row"]) (sc := defScope s_are_rows) (by decide +kernel)) (fun _ _ _ _ _ => pg_name (i := 2) sc_are_rows.nd rfl (Or.inl rfl)) (fun _ _ _ _ _ => pts_nil) (fun _ _ _ _ _ => (pe_and (pe_cmpR op_isTyB (pe_callTy (show CallR _ _ (rTyp K) from call_type1) (by rfl) T.n_type (by decide +kernel) (pa_cons (pv 2) pa_nil)) (pe_bltn (v := .ty "tuple") (by rfl) T.n_tuple (by decide +kernel) rfl) (nomark _)) (pe_one (pe_cmpR op_eq (pe_callB (show CallR _ _ (Wp.rLenS K) from Wp.call_lenS) (by rfl) T.n_len (by decide +kernel) (pa_cons (pv 2) pa_nil)) (pv 1) (nomark _)))))) pa_nil))))), ?_⟩
    rw [show L2.start ["thing", "width", "row"] [.ref a, .int n] = [some (.ref a), some (.int n), none] from rfl]
    try dsimp only [cxOf]
    walk_at "wp"
    refine iteN (fun e => absurd rfl e) (fun _ => ?_)
    walk_at "wp"
    refine ⟨⟨xs, SqL.of ha⟩, fun D hD => ?_⟩
    refine loopCL (xs := xs) (fun j H' => Same H H' ∧ H' D = some (.lst (((xs.take j).map fun _ => true).map V.bl))) ⟨same_new hD, upd_same⟩ (fun j H' _ h => SqL.of (h.1 _ _ ha)) ?_ ?_
    · rintro j x H1 hj ⟨s1, h1⟩
      obtain ⟨t, ys, rfl, ht, yl⟩ := rx x (List.mem_of_getElem? hj)
      have ht1 := s1 _ _ ht
      have jl := (List.getElem?_eq_some_iff.mp hj).1
      walk_at "wp"
      refine ite_ (fun _ => ?_) (fun c => absurd rfl c)
      walk_at "wp"
      refine ⟨t, ys, rfl, .inr (SqT.of ht1), ?_⟩
      walk_at "wp"
      rw [show decide (V.int (ys.length : Int) = V.int (n : Int)) = true from decide_eq_true (by rw [yl])]
      refine ⟨_, h1, by rw [List.length_map, List.length_map, List.length_take]; exact Wb.small (by omega), fun a o e => ?_, ?_⟩
      · rw [upd_ne (ne_of_none e hD)]; exact s1 _ _ e
      · rw [upd_same, true_snoc hj]
    · rintro H1 ⟨s1, h1⟩
      rw [List.take_length] at h1
      walk_at "wp"
      refine ⟨D, _, rfl, SqL.of h1, ?_⟩
      rw [all_true]
      exact q H1 s1
def Up2 : V → V → Prop := fun x y => (∃ i j, x = .int i ∧ y = .int j ∧ i < j) ∨ ∃ s t, x = .str s ∧ y = .str t ∧ strLt s t
def spIsRising : Sp := fun vs H Q _ => ∃ (a : Addr) (xs : List V), vs = [.ref a] ∧ H a = some (.lst xs) ∧ xs.Pairwise Up2 ∧ xs.length ≤ 900000 ∧ ∀ H', Same H H' → Q (.bl true) H'
theorem ok_is_rising (T : Txt P w K mg) : FnOk P w K mg base CX0 1 T.f_is_rising T.fd_is_rising ["keys"] spIsRising := by
  refine T.F_is_rising.ok sc_is_rising (fun vs H Q E h => ?_) (fun cdv A outer s H vs Q E hr h => ?_)
  · obtain ⟨a, xs, rfl, _⟩ := h
    rfl
  · obtain ⟨a, xs, rfl, ha, up, xl, q⟩ := h
    refine ⟨_, (pss_one (ps_ret (pe_callB (cr_all rfl) (by rfl) T.n_all (by decide +kernel) (pa_cons (pe_lc (own := [("low", 1), ("high", 2)]) rfl sc_is_rising.nd (pi_zip (by rfl) T.n_zip (pa_cons (pv 0) (pa_cons (pe_slice sl_list (pv 0) (po_some pe_int) po_none) pa_nil))) (blkOk_by (N := ["keys", "low", "high"]) (sc := defScope s_is_rising) (by decide +kernel)) (fun _ _ _ _ _ => (show PG _ _ (gTup K 2 _) from pg_tup (by rfl) (pgs_cons (pg_name (i := 1) sc_is_rising.nd rfl (Or.inl rfl)) (pgs_cons (pg_name (i := 2) sc_is_rising.nd rfl (Or.inl rfl)) pgs_nil)))) (fun _ _ _ _ _ => pts_nil) (fun _ _ _ _ _ => (pe_cmpR (show OpR _ _ Wip.rLt from Wip.op_ltIS) (pv 1) (pv 2) (nomark _)))) pa_nil)))), ?_⟩
    rw [show L2.start ["keys", "low", "high"] [.ref a] = [some (.ref a), none, none] from rfl]
    try dsimp only [cxOf]
    walk_at "wp"
    refine slL (SqL.of ha) (fun p hp => ?_)
    rw [show cutV xs (some 1) none = xs.drop 1 by rw [show (1 : Int) = ((1 : Nat) : Int) from rfl, Wc.cut_drop]]
    have s1 := same_new (o := .lst (xs.drop 1)) hp
    have hp1 : upd H p (.lst (xs.drop 1)) p = some (.lst (xs.drop 1)) := upd_same
    generalize upd H p (.lst (xs.drop 1)) = H1 at s1 hp1
    have ha1 := s1 _ _ ha
    walk_at "wp"
    refine ⟨a, p, xs, xs.drop 1, rfl, SqL.of ha1, SqL.of hp1, fun D hD => ?_⟩
    refine Wtc.loopCZ (xs := xs) (ys := xs.drop 1) (by rw [List.length_drop]; omega) (fun j H' => Same H1 H' ∧ H' D = some (.lst ((((xs.drop 1).take j).map fun _ => true).map V.bl))) ⟨same_new hD, upd_same⟩ (fun j H' _ h => ⟨SqL.of (h.1 _ _ ha1), SqL.of (h.1 _ _ hp1)⟩) ?_ ?_
    · rintro j x y t H2 hx hy ⟨s2, h2⟩ ht
      have s3 := same_new (o := .tup [x, y]) ht
      have h3 := s3 _ _ h2
      have jl := (List.getElem?_eq_some_iff.mp hy).1
      rw [List.length_drop] at jl
      have hy' := hy
      rw [List.getElem?_drop, Nat.add_comm] at hy'
      have u : Up2 x y := by
        have := List.pairwise_iff_getElem.mp up j (j + 1) (by omega) (by omega) (by omega)
        rw [List.getElem?_eq_getElem (by omega)] at hx hy'
        cases hx; cases hy'
        exact this
      walk_at "wp"
      have fin : ∃ acc, upd H2 t (.tup [x, y]) D = some (.lst acc) ∧ acc.length < sizeLine ∧ Same H1 (upd (upd H2 t (.tup [x, y])) D (.lst (acc ++ [V.bl true]))) ∧ upd (upd H2 t (.tup [x, y])) D (.lst (acc ++ [V.bl true])) D = some (.lst ((((xs.drop 1).take (j + 1)).map fun _ => true).map V.bl)) := by
        refine ⟨_, h3, by rw [List.length_map, List.length_map, List.length_take]; exact Wb.small (by omega), fun a o e => ?_, ?_⟩
        · rw [upd_ne (ne_of_none e hD)]; exact s3 _ _ (s2 _ _ e)
        · rw [upd_same, true_snoc hy]
      rcases u with ⟨i, k, rfl, rfl, l⟩ | ⟨s, k, rfl, rfl, l⟩
      · refine .inl ⟨i, k, rfl, rfl, ?_⟩
        rw [decide_eq_true l]
        exact fin
      · refine .inr ⟨s, k, rfl, rfl, ?_⟩
        rw [decide_eq_true (show s.cps.toList < k.cps.toList from l)]
        exact fin
    · rintro H2 ⟨s2, h2⟩
      rw [List.take_length] at h2
      walk_at "wp"
      refine ⟨D, _, rfl, SqL.of h2, ?_⟩
      rw [all_true]
      exact q H2 (s1.trans s2)
def spArePegs : Sp := fun vs H Q _ => ∃ (a : Addr) (xs : List V) (ps : List (Str × W)), vs = [.ref a] ∧ H a = some (.lst xs) ∧ Paired (IsPegT H) xs ps ∧ (∀ p ∈ ps, (Wu.Nm p.1 ∧ 1 ≤ p.1.length) ∧ Wk p.2) ∧ (ps.Pairwise fun a b => strLt a.1 b.1) ∧ ps.length ≤ 900000 ∧ ∀ H', Same H H' → Q (.bl true) H'
theorem ok_are_pegs (T : Txt P w K mg) : FnOk P w K mg base CX0 3 T.f_are_pegs T.fd_are_pegs ["thing"] spArePegs := by
  have G_are_rows := ok_are_rows (base := base) T
  have G_is_name := ok_is_name (base := base) T
  have G_is_worth := ok_is_worth (base := base) T
  have G_is_rising := ok_is_rising (base := base) T
  refine T.F_are_pegs.ok sc_are_pegs (fun vs H Q E h => ?_) (fun cdv A outer s H vs Q E hr h => ?_)
  · obtain ⟨a, xs, ps, rfl, _⟩ := h
    rfl
  · obtain ⟨a, xs, ps, rfl, ha, pp, wk, up, pl, q⟩ := h
    refine ⟨_, (pss_cons (ps_if (pt_not (pt_val (pe_call G_are_rows (hr.mono (by decide)) (by rfl) T.g_are_rows T.F_are_rows.kp T.b_are_rows .nil pass0 (pa_cons (pv 0) (pa_cons pe_int pa_nil))))) (pss_one (ps_ret pe_bl)) pss_nil)
      (pss_cons (ps_if (pt_not (pt_val (pe_callB (cr_all rfl) (by rfl) T.n_all (by decide +kernel) (pa_cons (pe_lc (own := [("name", 1), ("worth", 3)]) rfl sc_are_pegs.nd (pi_list (pv 0)) (blkOk_by (N := ["thing", "name", "_", "worth"]) (sc := defScope s_are_pegs) (by decide +kernel)) (fun _ _ _ _ _ => (show PG _ _ (gTup K 2 _) from pg_tup (by rfl) (pgs_cons (pg_name (i := 1) sc_are_pegs.nd rfl (Or.inl rfl)) (pgs_cons (pg_name (i := 3) sc_are_pegs.nd rfl (Or.inl rfl)) pgs_nil)))) (fun _ _ _ _ _ => pts_nil) (fun _ _ _ _ _ => (pe_and (pe_call G_is_name (hr.mono (by decide)) (by rfl) T.g_is_name T.F_is_name.kp T.b_is_name .nil pass0 (pa_cons (pv 1) pa_nil)) (pe_one (pe_call G_is_worth (hr.mono (by decide)) (by rfl) T.g_is_worth T.F_is_worth.kp T.b_is_worth .nil pass0 (pa_cons (pv 3) pa_nil)))))) pa_nil)))) (pss_one (ps_ret pe_bl)) pss_nil)
      (pss_one (ps_ret (pe_call G_is_rising (hr.mono (by decide)) (by rfl) T.g_is_rising T.F_is_rising.kp T.b_is_rising .nil pass0 (pa_cons (pe_lc (own := [("name", 1), ("_", 2)]) rfl sc_are_pegs.nd (pi_list (pv 0)) (blkOk_by (N := ["thing", "name", "_", "worth"]) (sc := defScope s_are_pegs) (by decide +kernel)) (fun _ _ _ _ _ => (show PG _ _ (gTup K 2 _) from pg_tup (by rfl) (pgs_cons (pg_name (i := 1) sc_are_pegs.nd rfl (Or.inl rfl)) (pgs_cons (pg_name (i := 2) sc_are_pegs.nd rfl (Or.inl rfl)) pgs_nil)))) (fun _ _ _ _ _ => pts_nil) (fun _ _ _ _ _ => (pv 1))) pa_nil)))))), ?_⟩
    rw [show L2.start ["thing", "name", "_", "worth"] [.ref a] = [some (.ref a), none, none, none] from rfl]
    try dsimp only [cxOf]
    have xl := Paired.length pp
    walk_at "wp"
    refine ⟨a, 2, xs, rfl, ha, fun x hx => ?_, by omega, fun H1 s1 => ?_⟩
    · obtain ⟨i, hi⟩ := List.getElem?_of_mem hx
      obtain ⟨p, _, t, v, e, h1, _⟩ := pair_at1 pp hi
      exact ⟨t, _, e, h1, rfl⟩
    have ha1 := s1 _ _ ha
    walk_at "wp"
    refine ⟨⟨xs, SqL.of ha1⟩, fun D hD => ?_⟩
    refine loopCL (xs := xs) (fun j H' => Same H1 H' ∧ H' D = some (.lst (((ps.take j).map fun _ => true).map V.bl))) ⟨same_new hD, upd_same⟩ (fun j H' _ h => SqL.of (h.1 _ _ ha1)) ?_ ?_
    · rintro j x H2 hj ⟨s2, h2⟩
      obtain ⟨p, hp, t, v, rfl, ht, hv⟩ := pair_at1 pp hj
      obtain ⟨u, rfl, hu⟩ := hv.keep (Same.tk (s1.trans s2))
      have ht2 := s2 _ _ (s1 _ _ ht)
      have jl := (List.getElem?_eq_some_iff.mp hp).1
      obtain ⟨⟨n1, n2⟩, wp⟩ := wk p (List.mem_of_getElem? hp)
      walk_at "wp"
      refine ⟨p.1, rfl, n1, n2, fun H3 s3 => ?_⟩
      walk_at "wp"
      refine ⟨.ref u, true, rfl, .inr ⟨u, _, rfl, s3 _ _ hu, .inr ⟨.str p.2.1, .int p.2.2, _, _, rfl, .str _, .int _, (wk_verd wp).symm⟩⟩, ?_⟩
      have h3 := s3 _ _ h2
      refine ⟨_, h3, by rw [List.length_map, List.length_map, List.length_take]; exact Wb.small (by omega), fun a o e => ?_, ?_⟩
      · rw [upd_ne (ne_of_none e hD)]; exact s3 _ _ (s2 _ _ e)
      · rw [upd_same, true_snoc hp]
    · rintro H2 ⟨s2, h2⟩
      rw [xl, List.take_length] at h2
      have ha2 := s2 _ _ ha1
      walk_at "wp"
      refine ⟨D, _, rfl, SqL.of h2, ?_⟩
      rw [all_true]
      walk_at "wp"
      refine ⟨⟨xs, SqL.of ha2⟩, fun D2 hD2 => ?_⟩
      refine loopCL (xs := xs) (fun j H' => Same H2 H' ∧ H' D2 = some (.lst ((ps.take j).map fun p => V.str p.1))) ⟨same_new hD2, upd_same⟩ (fun j H' _ h => SqL.of (h.1 _ _ ha2)) ?_ ?_
      · rintro j x H3 hj ⟨s3, h3⟩
        obtain ⟨p, hp, t, v, rfl, ht, hv⟩ := pair_at1 pp hj
        have ht3 := s3 _ _ (s2 _ _ (s1 _ _ ht))
        have jl := (List.getElem?_eq_some_iff.mp hp).1
        walk_at "wp"
        refine ⟨_, h3, by rw [List.length_map, List.length_take]; exact Wb.small (by omega), fun a o e => ?_, ?_⟩
        · rw [upd_ne (ne_of_none e hD2)]; exact s3 _ _ e
        · rw [upd_same, List.take_add_one, hp, List.map_append] <;> rfl
      · rintro H3 ⟨s3, h3⟩
        rw [xl, List.take_length] at h3
        refine ⟨D2, _, rfl, h3, ?_, by rw [List.length_map]; exact pl, fun H4 s4 => ?_⟩
        · rw [List.pairwise_map]
          exact up.imp fun h => .inr ⟨_, _, rfl, rfl, h⟩
        · walk_at "wp"
          exact q H4 (s1.trans (s2.trans (s3.trans s4)))
def spAreBoxes : Sp := fun vs H Q _ => ∃ (a : Addr) (xs : List V) (ps : List (Int × W)), vs = [.ref a] ∧ H a = some (.lst xs) ∧ Paired (IsBoxT H) xs ps ∧ (∀ p ∈ ps, 0 ≤ p.1 ∧ Wk p.2) ∧ (ps.Pairwise fun a b => a.1 < b.1) ∧ ps.length ≤ 900000 ∧ ∀ H', Same H H' → Q (.bl true) H'
theorem ok_are_boxes (T : Txt P w K mg) : FnOk P w K mg base CX0 3 T.f_are_boxes T.fd_are_boxes ["thing"] spAreBoxes := by
  have G_are_rows := ok_are_rows (base := base) T
  have G_is_count := ok_is_count (base := base) T
  have G_is_worth := ok_is_worth (base := base) T
  have G_is_rising := ok_is_rising (base := base) T
  refine T.F_are_boxes.ok sc_are_boxes (fun vs H Q E h => ?_) (fun cdv A outer s H vs Q E hr h => ?_)
  · obtain ⟨a, xs, ps, rfl, _⟩ := h
    rfl
  · obtain ⟨a, xs, ps, rfl, ha, pp, wk, up, pl, q⟩ := h
    refine ⟨_, (pss_cons (ps_if (pt_not (pt_val (pe_call G_are_rows (hr.mono (by decide)) (by rfl) T.g_are_rows T.F_are_rows.kp T.b_are_rows .nil pass0 (pa_cons (pv 0) (pa_cons pe_int pa_nil))))) (pss_one (ps_ret pe_bl)) pss_nil)
      (pss_cons (ps_if (pt_not (pt_val (pe_callB (cr_all rfl) (by rfl) T.n_all (by decide +kernel) (pa_cons (pe_lc (own := [("b", 1), ("worth", 3)]) rfl sc_are_boxes.nd (pi_list (pv 0)) (blkOk_by (N := ["thing", "b", "_", "worth"]) (sc := defScope s_are_boxes) (by decide +kernel)) (fun _ _ _ _ _ => (show PG _ _ (gTup K 2 _) from pg_tup (by rfl) (pgs_cons (pg_name (i := 1) sc_are_boxes.nd rfl (Or.inl rfl)) (pgs_cons (pg_name (i := 3) sc_are_boxes.nd rfl (Or.inl rfl)) pgs_nil)))) (fun _ _ _ _ _ => pts_nil) (fun _ _ _ _ _ => (pe_and (pe_call G_is_count (hr.mono (by decide)) (by rfl) T.g_is_count T.F_is_count.kp T.b_is_count .nil pass0 (pa_cons (pv 1) pa_nil)) (pe_one (pe_call G_is_worth (hr.mono (by decide)) (by rfl) T.g_is_worth T.F_is_worth.kp T.b_is_worth .nil pass0 (pa_cons (pv 3) pa_nil)))))) pa_nil)))) (pss_one (ps_ret pe_bl)) pss_nil)
      (pss_one (ps_ret (pe_call G_is_rising (hr.mono (by decide)) (by rfl) T.g_is_rising T.F_is_rising.kp T.b_is_rising .nil pass0 (pa_cons (pe_lc (own := [("b", 1), ("_", 2)]) rfl sc_are_boxes.nd (pi_list (pv 0)) (blkOk_by (N := ["thing", "b", "_", "worth"]) (sc := defScope s_are_boxes) (by decide +kernel)) (fun _ _ _ _ _ => (show PG _ _ (gTup K 2 _) from pg_tup (by rfl) (pgs_cons (pg_name (i := 1) sc_are_boxes.nd rfl (Or.inl rfl)) (pgs_cons (pg_name (i := 2) sc_are_boxes.nd rfl (Or.inl rfl)) pgs_nil)))) (fun _ _ _ _ _ => pts_nil) (fun _ _ _ _ _ => (pv 1))) pa_nil)))))), ?_⟩
    rw [show L2.start ["thing", "b", "_", "worth"] [.ref a] = [some (.ref a), none, none, none] from rfl]
    try dsimp only [cxOf]
    have xl := Paired.length pp
    walk_at "wp"
    refine ⟨a, 2, xs, rfl, ha, fun x hx => ?_, by omega, fun H1 s1 => ?_⟩
    · obtain ⟨i, hi⟩ := List.getElem?_of_mem hx
      obtain ⟨p, _, t, v, e, h1, _⟩ := pair_at1 pp hi
      exact ⟨t, _, e, h1, rfl⟩
    have ha1 := s1 _ _ ha
    walk_at "wp"
    refine ⟨⟨xs, SqL.of ha1⟩, fun D hD => ?_⟩
    refine loopCL (xs := xs) (fun j H' => Same H1 H' ∧ H' D = some (.lst (((ps.take j).map fun _ => true).map V.bl))) ⟨same_new hD, upd_same⟩ (fun j H' _ h => SqL.of (h.1 _ _ ha1)) ?_ ?_
    · rintro j x H2 hj ⟨s2, h2⟩
      obtain ⟨p, hp, t, v, rfl, ht, hv⟩ := pair_at1 pp hj
      obtain ⟨u, rfl, hu⟩ := hv.keep (Same.tk (s1.trans s2))
      have ht2 := s2 _ _ (s1 _ _ ht)
      have jl := (List.getElem?_eq_some_iff.mp hp).1
      obtain ⟨n1, wp⟩ := wk p (List.mem_of_getElem? hp)
      walk_at "wp"
      refine ⟨p.1, rfl, n1, ?_⟩
      walk_at "wp"
      refine ⟨.ref u, true, rfl, .inr ⟨u, _, rfl, hu, .inr ⟨.str p.2.1, .int p.2.2, _, _, rfl, .str _, .int _, (wk_verd wp).symm⟩⟩, ?_⟩
      refine ⟨_, h2, by rw [List.length_map, List.length_map, List.length_take]; exact Wb.small (by omega), fun a o e => ?_, ?_⟩
      · rw [upd_ne (ne_of_none e hD)]; exact s2 _ _ e
      · rw [upd_same, true_snoc hp]
    · rintro H2 ⟨s2, h2⟩
      rw [xl, List.take_length] at h2
      have ha2 := s2 _ _ ha1
      walk_at "wp"
      refine ⟨D, _, rfl, SqL.of h2, ?_⟩
      rw [all_true]
      walk_at "wp"
      refine ⟨⟨xs, SqL.of ha2⟩, fun D2 hD2 => ?_⟩
      refine loopCL (xs := xs) (fun j H' => Same H2 H' ∧ H' D2 = some (.lst ((ps.take j).map fun p => V.int p.1))) ⟨same_new hD2, upd_same⟩ (fun j H' _ h => SqL.of (h.1 _ _ ha2)) ?_ ?_
      · rintro j x H3 hj ⟨s3, h3⟩
        obtain ⟨p, hp, t, v, rfl, ht, hv⟩ := pair_at1 pp hj
        have ht3 := s3 _ _ (s2 _ _ (s1 _ _ ht))
        have jl := (List.getElem?_eq_some_iff.mp hp).1
        walk_at "wp"
        refine ⟨_, h3, by rw [List.length_map, List.length_take]; exact Wb.small (by omega), fun a o e => ?_, ?_⟩
        · rw [upd_ne (ne_of_none e hD2)]; exact s3 _ _ e
        · rw [upd_same, List.take_add_one, hp, List.map_append] <;> rfl
      · rintro H3 ⟨s3, h3⟩
        rw [xl, List.take_length] at h3
        refine ⟨D2, _, rfl, h3, ?_, by rw [List.length_map]; exact pl, fun H4 s4 => ?_⟩
        · rw [List.pairwise_map]
          exact up.imp fun h => .inl ⟨_, _, rfl, rfl, h⟩
        · walk_at "wp"
          exact q H4 (s1.trans (s2.trans (s3.trans s4)))
def spAreGoings : Sp := fun vs H Q _ => ∃ (a : Addr) (xs : List V) (ps : List (Int × Int × List W)), vs = [.ref a] ∧ H a = some (.lst xs) ∧ Paired (IsGoT [] H) xs ps ∧ (∀ p ∈ ps, 0 ≤ p.1 ∧ 0 ≤ p.2.1 ∧ (∀ z ∈ p.2.2, Wk z) ∧ p.2.2.length ≤ 900000) ∧ (ps.Pairwise fun a b => a.1 < b.1) ∧ ps.length ≤ 900000 ∧ ∀ H', Same H H' → Q (.bl true) H'
theorem ok_are_goings (T : Txt P w K mg) : FnOk P w K mg base CX0 4 T.f_are_goings T.fd_are_goings ["thing"] spAreGoings := by
  have G_are_rows := ok_are_rows (base := base) T
  have G_is_count := ok_is_count (base := base) T
  have G_is_pile := ok_is_pile (base := base) T
  have G_is_rising := ok_is_rising (base := base) T
  refine T.F_are_goings.ok sc_are_goings (fun vs H Q E h => ?_) (fun cdv A outer s H vs Q E hr h => ?_)
  · obtain ⟨a, xs, ps, rfl, _⟩ := h
    rfl
  · obtain ⟨a, xs, ps, rfl, ha, pp, wk, up, pl, q⟩ := h
    refine ⟨_, (pss_cons (ps_if (pt_not (pt_val (pe_call G_are_rows (hr.mono (by decide)) (by rfl) T.g_are_rows T.F_are_rows.kp T.b_are_rows .nil pass0 (pa_cons (pv 0) (pa_cons pe_int pa_nil))))) (pss_one (ps_ret pe_bl)) pss_nil)
      (pss_cons (ps_if (pt_not (pt_val (pe_callB (cr_all rfl) (by rfl) T.n_all (by decide +kernel) (pa_cons (pe_lc (own := [("g", 2), ("place", 3), ("pile", 4)]) rfl sc_are_goings.nd (pi_list (pv 0)) (blkOk_by (N := ["thing", "row", "g", "place", "pile"]) (sc := defScope s_are_goings) (by decide +kernel)) (fun _ _ _ _ _ => (show PG _ _ (gTup K 3 _) from pg_tup (by rfl) (pgs_cons (pg_name (i := 2) sc_are_goings.nd rfl (Or.inl rfl)) (pgs_cons (pg_name (i := 3) sc_are_goings.nd rfl (Or.inl rfl)) (pgs_cons (pg_name (i := 4) sc_are_goings.nd rfl (Or.inl rfl)) pgs_nil))))) (fun _ _ _ _ _ => pts_nil) (fun _ _ _ _ _ => (pe_and (pe_call G_is_count (hr.mono (by decide)) (by rfl) T.g_is_count T.F_is_count.kp T.b_is_count .nil pass0 (pa_cons (pv 2) pa_nil)) (pe_and (pe_call G_is_count (hr.mono (by decide)) (by rfl) T.g_is_count T.F_is_count.kp T.b_is_count .nil pass0 (pa_cons (pv 3) pa_nil)) (pe_one (pe_call G_is_pile (hr.mono (by decide)) (by rfl) T.g_is_pile T.F_is_pile.kp T.b_is_pile .nil pass0 (pa_cons (pv 4) pa_nil))))))) pa_nil)))) (pss_one (ps_ret pe_bl)) pss_nil)
      (pss_one (ps_ret (pe_call G_is_rising (hr.mono (by decide)) (by rfl) T.g_is_rising T.F_is_rising.kp T.b_is_rising .nil pass0 (pa_cons (pe_lc (own := [("row", 1)]) rfl sc_are_goings.nd (pi_list (pv 0)) (blkOk_by (N := ["thing", "row", "g", "place", "pile"]) (sc := defScope s_are_goings) (by decide +kernel)) (fun _ _ _ _ _ => pg_name (i := 1) sc_are_goings.nd rfl (Or.inl rfl)) (fun _ _ _ _ _ => pts_nil) (fun _ _ _ _ _ => (pe_ix (show IxR _ (rIxT K) from ix_tup) (pv 1) pe_int (fun _ _ => rfl)))) pa_nil)))))), ?_⟩
    rw [show L2.start ["thing", "row", "g", "place", "pile"] [.ref a] = [some (.ref a), none, none, none, none] from rfl]
    try dsimp only [cxOf]
    have xl := Paired.length pp
    walk_at "wp"
    refine ⟨a, 3, xs, rfl, ha, fun x hx => ?_, by omega, fun H1 s1 => ?_⟩
    · obtain ⟨i, hi⟩ := List.getElem?_of_mem hx
      obtain ⟨p, _, t, l, vs, e, h1, _⟩ := pair_at1 pp hi
      exact ⟨t, _, e, h1, rfl⟩
    have ha1 := s1 _ _ ha
    walk_at "wp"
    refine ⟨⟨xs, SqL.of ha1⟩, fun D hD => ?_⟩
    refine loopCL (xs := xs) (fun j H' => Same H1 H' ∧ H' D = some (.lst (((ps.take j).map fun _ => true).map V.bl))) ⟨same_new hD, upd_same⟩ (fun j H' _ h => SqL.of (h.1 _ _ ha1)) ?_ ?_
    · rintro j x H2 hj ⟨s2, h2⟩
      obtain ⟨p, hp, gg⟩ := pair_at1 pp hj
      obtain ⟨t, l, us, rfl, ht, hl, pu, _⟩ := gg.keep (Ks.same (s1.trans s2))
      have jl := (List.getElem?_eq_some_iff.mp hp).1
      obtain ⟨n1, n2, wp, wl⟩ := wk p (List.mem_of_getElem? hp)
      walk_at "wp"
      refine ⟨p.1, rfl, n1, ?_⟩
      walk_at "wp"
      refine ⟨p.2.1, rfl, n2, ?_⟩
      walk_at "wp"
      refine ⟨l, us, p.2.2, rfl, hl, pu, wp, wl, fun H3 s3 => ?_⟩
      have h3 := s3 _ _ h2
      refine ⟨_, h3, by rw [List.length_map, List.length_map, List.length_take]; exact Wb.small (by omega), fun a o e => ?_, ?_⟩
      · rw [upd_ne (ne_of_none e hD)]; exact s3 _ _ (s2 _ _ e)
      · rw [upd_same, true_snoc hp]
    · rintro H2 ⟨s2, h2⟩
      rw [xl, List.take_length] at h2
      have ha2 := s2 _ _ ha1
      walk_at "wp"
      refine ⟨D, _, rfl, SqL.of h2, ?_⟩
      rw [all_true]
      walk_at "wp"
      refine ⟨⟨xs, SqL.of ha2⟩, fun D2 hD2 => ?_⟩
      refine loopCL (xs := xs) (fun j H' => Same H2 H' ∧ H' D2 = some (.lst ((ps.take j).map fun p => V.int p.1))) ⟨same_new hD2, upd_same⟩ (fun j H' _ h => SqL.of (h.1 _ _ ha2)) ?_ ?_
      · rintro j x H3 hj ⟨s3, h3⟩
        obtain ⟨p, hp, gg⟩ := pair_at1 pp hj
        obtain ⟨t, l, us, rfl, ht, _, _, _⟩ := gg.keep (Ks.same (s1.trans (s2.trans s3)))
        have jl := (List.getElem?_eq_some_iff.mp hp).1
        walk_at "wp"
        refine ⟨_, h3, by rw [List.length_map, List.length_take]; exact Wb.small (by omega), fun a o e => ?_, ?_⟩
        · rw [upd_ne (ne_of_none e hD2)]; exact s3 _ _ e
        · rw [upd_same, List.take_add_one, hp, List.map_append] <;> rfl
      · rintro H3 ⟨s3, h3⟩
        rw [xl, List.take_length] at h3
        refine ⟨D2, _, rfl, h3, ?_, by rw [List.length_map]; exact pl, fun H4 s4 => ?_⟩
        · rw [List.pairwise_map]
          exact up.imp fun h => .inl ⟨_, _, rfl, rfl, h⟩
        · walk_at "wp"
          exact q H4 (s1.trans (s2.trans (s3.trans s4)))

end
end K15

/-! A picture whose lists are all apart: what changes when one of them is written to. -/
namespace Wow
open PySem PySem.Spec PyProof.Rows L2 Wp Wq Wr Wk Wpm Wpn Wth
abbrev Go := (Int × Int × List W) × Addr
def IsGoA (H : Hp) (x : V) (g : Go) : Prop := ∃ t vs, x = .ref t ∧ H t = some (.tup [.int g.1.1, .int g.1.2.1, .ref g.2]) ∧ H g.2 = some (.lst vs) ∧ Pile H vs g.1.2.2
structure OwnAt (H : Hp) (a b c d : Addr) (gs : List Go) (P : Pic) : Prop where
  pile : ∃ pa, H a = some (.lst pa) ∧ Pile H pa P.pile
  pegs : ∃ xb, H b = some (.lst xb) ∧ Paired (IsPegT H) xb P.pegs
  goings : ∃ xc, H c = some (.lst xc) ∧ Paired (IsGoA H) xc gs
  eq : gs.map (·.1) = P.goings
  boxes : ∃ xd, H d = some (.lst xd) ∧ Paired (IsBoxT H) xd P.boxes
  apart : (a :: b :: c :: d :: gs.map (·.2)).Nodup
section
variable {H H' : Hp} {a b c d : Addr} {gs : List Go} {P : Pic} {S : List Addr} {x : V}
theorem IsGoA.keep {g : Go} (h : IsGoA H x g) (k : Ks S H H') (n : g.2 ∉ S) : IsGoA H' x g := by
  obtain ⟨t, vs, e, h1, h2, h3⟩ := h
  exact ⟨t, vs, e, k.tk _ _ h1, k.keep _ _ n h2, h3.keep k.tk⟩
theorem gos_keep : ∀ {xs : List V} {gs : List Go}, Paired (IsGoA H) xs gs → Ks S H H' → (∀ l ∈ gs.map (·.2), l ∉ S) → Paired (IsGoA H') xs gs
  | _, _, .nil, _, _ => .nil
  | _, _, .cons r t, k, n => .cons (r.keep k (n _ (by simp))) (gos_keep t k fun l hl => n l (by simp only [List.map_cons, List.mem_cons]; exact .inr hl))
theorem gos_goT : ∀ {xs : List V} {gs : List Go}, Paired (IsGoA H) xs gs → (∀ l ∈ gs.map (·.2), l ∉ S) → Paired (IsGoT S H) xs (gs.map (·.1))
  | _, _, .nil, _ => .nil
  | _, _, .cons ⟨t, vs, e, h1, h2, h3⟩ r, n => .cons ⟨t, _, vs, e, h1, h2, h3, n _ (by simp)⟩ (gos_goT r fun l hl => n l (by simp only [List.map_cons, List.mem_cons]; exact .inr hl))
theorem OwnAt.keep (h : OwnAt H a b c d gs P) (k : Ks S H H') (n : ∀ l ∈ a :: b :: c :: d :: gs.map (·.2), l ∉ S) : OwnAt H' a b c d gs P := by
  obtain ⟨⟨pa, a1, a2⟩, ⟨xb, b1, b2⟩, ⟨xc, c1, c2⟩, e, ⟨xd, d1, d2⟩, ap⟩ := h
  exact ⟨⟨pa, k.keep _ _ (n _ (by simp)) a1, a2.keep k.tk⟩, ⟨xb, k.keep _ _ (n _ (by simp)) b1, Paired.mapP b2 fun _ _ q => q.keep k.tk⟩, ⟨xc, k.keep _ _ (n _ (by simp)) c1, gos_keep c2 k fun l hl => n l (by simp only [List.mem_cons]; exact .inr (.inr (.inr (.inr hl))))⟩, e, ⟨xd, k.keep _ _ (n _ (by simp)) d1, Paired.mapP d2 fun _ _ q => q.keep k.tk⟩, ap⟩
theorem OwnAt.same (h : OwnAt H a b c d gs P) (s : Same H H') : OwnAt H' a b c d gs P := h.keep (S := []) (Ks.same s) (by simp)
theorem OwnAt.pic {t : Addr} (h : OwnAt H a b c d gs P) (ht : H t = some (.tup [.ref a, .ref b, .ref c, .ref d])) (n : ∀ l ∈ a :: b :: c :: d :: gs.map (·.2), l ∉ S) : IsPic S H (.ref t) P := by
  obtain ⟨⟨pa, a1, a2⟩, ⟨xb, b1, b2⟩, ⟨xc, c1, c2⟩, e, ⟨xd, d1, d2⟩, ap⟩ := h
  refine ⟨t, a, b, c, d, pa, xb, xc, xd, rfl, ht, ⟨a1, b1, c1, d1, a2, b2, ?_, d2, fun x hx => n x ?_⟩⟩
  · rw [← e]; exact gos_goT c2 fun l hl => n l (by simp only [List.mem_cons]; exact .inr (.inr (.inr (.inr hl))))
  · simp only [List.mem_cons, List.not_mem_nil, or_false] at hx ⊢
    rcases hx with rfl | rfl | rfl | rfl <;> simp
theorem gos_some : ∀ {xs : List V} {gs : List Go}, Paired (IsGoA H) xs gs → ∀ l ∈ gs.map (·.2), H l ≠ none
  | _, _, .nil, _, h => nomatch h
  | _, _, .cons ⟨t, vs, e, h1, h2, h3⟩ r, l, h => by
    rw [List.map_cons] at h
    rcases List.mem_cons.mp h with h | h
    · rw [h, h2]; exact fun h => nomatch h
    · exact gos_some r l h
theorem OwnAt.live (h : OwnAt H a b c d gs P) : ∀ l ∈ a :: b :: c :: d :: gs.map (·.2), H l ≠ none := by
  obtain ⟨⟨pa, a1, a2⟩, ⟨xb, b1, b2⟩, ⟨xc, c1, c2⟩, e, ⟨xd, d1, d2⟩, ap⟩ := h
  intro l hl
  simp only [List.mem_cons] at hl
  rcases hl with rfl | rfl | rfl | rfl | hl
  · rw [a1]; exact fun h => nomatch h
  · rw [b1]; exact fun h => nomatch h
  · rw [c1]; exact fun h => nomatch h
  · rw [d1]; exact fun h => nomatch h
  · exact gos_some c2 l hl
/-- the boxes' list is written to -/
theorem OwnAt.set_d {ys : List V} {bs : List (Int × W)} (h : OwnAt H a b c d gs P) (k : Ks [d] H H') (h1 : H' d = some (.lst ys)) (p : Paired (IsBoxT H') ys bs) : OwnAt H' a b c d gs { P with boxes := bs } := by
  obtain ⟨⟨pa, a1, a2⟩, ⟨xb, b1, b2⟩, ⟨xc, c1, c2⟩, e, _, ap⟩ := h
  have ap' := ap
  simp only [List.nodup_cons, List.mem_cons, not_or] at ap'
  obtain ⟨⟨n1, n2, n3, n4⟩, ⟨m1, m2, m3⟩, ⟨l1, l2⟩, k1, nd⟩ := ap'
  exact ⟨⟨pa, k.keep _ _ (by simpa using n3) a1, a2.keep k.tk⟩, ⟨xb, k.keep _ _ (by simpa using m2) b1, Paired.mapP b2 fun _ _ q => q.keep k.tk⟩, ⟨xc, k.keep _ _ (by simpa using l1) c1, gos_keep c2 k fun l hl => by
    rw [List.mem_singleton]; rintro rfl; exact k1 hl⟩, e, ⟨ys, h1, p⟩, ap⟩
/-- the going-ons' list is written to -/
theorem OwnAt.set_c {ys : List V} {gs' : List Go} (h : OwnAt H a b c d gs P) (k : Ks [c] H H') (h1 : H' c = some (.lst ys)) (p : Paired (IsGoA H') ys gs') (ap' : (a :: b :: c :: d :: gs'.map (·.2)).Nodup) : OwnAt H' a b c d gs' { P with goings := gs'.map (·.1) } := by
  obtain ⟨⟨pa, a1, a2⟩, ⟨xb, b1, b2⟩, _, e, ⟨xd, d1, d2⟩, ap⟩ := h
  simp only [List.nodup_cons, List.mem_cons, not_or] at ap
  obtain ⟨⟨n1, n2, n3, n4⟩, ⟨m1, m2, m3⟩, ⟨l1, l2⟩, k1, nd⟩ := ap
  exact ⟨⟨pa, k.keep _ _ (by simpa using n2) a1, a2.keep k.tk⟩, ⟨xb, k.keep _ _ (by simpa using m1) b1, Paired.mapP b2 fun _ _ q => q.keep k.tk⟩, ⟨ys, h1, p⟩, rfl, ⟨xd, k.keep _ _ (by simpa using fun q : d = c => l1 q.symm) d1, Paired.mapP d2 fun _ _ q => q.keep k.tk⟩, ap'⟩
/-- the pile is written to -/
theorem OwnAt.set_a {ys : List V} {ws : List W} (h : OwnAt H a b c d gs P) (k : Ks [a] H H') (h1 : H' a = some (.lst ys)) (p : Pile H' ys ws) : OwnAt H' a b c d gs { P with pile := ws } := by
  obtain ⟨_, ⟨xb, b1, b2⟩, ⟨xc, c1, c2⟩, e, ⟨xd, d1, d2⟩, ap⟩ := h
  have ap' := ap
  simp only [List.nodup_cons, List.mem_cons, not_or] at ap'
  obtain ⟨⟨n1, n2, n3, n4⟩, ⟨m1, m2, m3⟩, ⟨l1, l2⟩, k1, nd⟩ := ap'
  exact ⟨⟨ys, h1, p⟩, ⟨xb, k.keep _ _ (by simpa using fun q : b = a => n1 q.symm) b1, Paired.mapP b2 fun _ _ q => q.keep k.tk⟩, ⟨xc, k.keep _ _ (by simpa using fun q : c = a => n2 q.symm) c1, gos_keep c2 k fun l hl => by
    rw [List.mem_singleton]; rintro rfl; exact n4 hl⟩, e, ⟨xd, k.keep _ _ (by simpa using fun q : d = a => n3 q.symm) d1, Paired.mapP d2 fun _ _ q => q.keep k.tk⟩, ap⟩
/-- the pegs' list is another -/
theorem OwnAt.set_b {b' : Addr} {ys : List V} {ps : List (Str × W)} (h : OwnAt H a b c d gs P) (h1 : H b' = some (.lst ys)) (p : Paired (IsPegT H) ys ps) (n : b' ∉ a :: c :: d :: gs.map (·.2)) : OwnAt H a b' c d gs { P with pegs := ps } := by
  obtain ⟨p1, _, p3, e, p5, ap⟩ := h
  simp only [List.nodup_cons, List.mem_cons, not_or] at ap n
  obtain ⟨⟨n1, n2, n3, n4⟩, ⟨m1, m2, m3⟩, ⟨l1, l2⟩, k1, nd⟩ := ap
  refine ⟨p1, ⟨ys, h1, p⟩, p3, e, p5, ?_⟩
  simp only [List.nodup_cons, List.mem_cons, not_or]
  exact ⟨⟨fun q => n.1 q.symm, n2, n3, n4⟩, ⟨n.2.1, n.2.2.1, n.2.2.2⟩, ⟨l1, l2⟩, k1, nd⟩
/-- one going-on's list is written to -/
theorem gos_set : ∀ {xs : List V} {gs : List Go} {j : Nat} {g : Go} {ys : List V} {ws : List W}, Paired (IsGoA H) xs gs → (gs.map (·.2)).Nodup → gs[j]? = some g → Ks [g.2] H H' → H' g.2 = some (.lst ys) → Pile H' ys ws → Paired (IsGoA H') xs (gs.set j ((g.1.1, g.1.2.1, ws), g.2))
  | _, _, 0, _, ys, _, .cons ⟨t, vs, e, h1, _, _⟩ r, nd, hg, k, h2, p => by
    rw [List.getElem?_cons_zero, Option.some.injEq] at hg
    subst hg
    rw [List.set_cons_zero]
    refine .cons ⟨t, ys, e, k.tk _ _ h1, h2, p⟩ (gos_keep r k fun l hl m => ?_)
    rw [List.mem_singleton] at m
    subst m
    exact (List.nodup_cons.mp nd).1 hl
  | _, _, j + 1, g, _, _, .cons q r, nd, hg, k, h2, p => by
    rw [List.getElem?_cons_succ] at hg
    rw [List.set_cons_succ]
    refine .cons (q.keep k fun m => ?_) (gos_set r (List.nodup_cons.mp nd).2 hg k h2 p)
    rw [List.mem_singleton] at m
    refine (List.nodup_cons.mp nd).1 ?_
    dsimp only
    rw [m]
    exact List.mem_map_of_mem (List.mem_of_getElem? hg)
theorem OwnAt.set_row {j : Nat} {g : Go} {ys : List V} {ws : List W} (h : OwnAt H a b c d gs P) (hg : gs[j]? = some g) (k : Ks [g.2] H H') (h1 : H' g.2 = some (.lst ys)) (p : Pile H' ys ws) : OwnAt H' a b c d (gs.set j ((g.1.1, g.1.2.1, ws), g.2)) { P with goings := P.goings.set j (g.1.1, g.1.2.1, ws) } := by
  obtain ⟨⟨pa, a1, a2⟩, ⟨xb, b1, b2⟩, ⟨xc, c1, c2⟩, e, ⟨xd, d1, d2⟩, ap⟩ := h
  have ap' := ap
  simp only [List.nodup_cons, List.mem_cons, not_or] at ap'
  obtain ⟨⟨n1, n2, n3, n4⟩, ⟨m1, m2, m3⟩, ⟨l1, l2⟩, k1, nd⟩ := ap'
  have gm : g.2 ∈ gs.map (·.2) := List.mem_map_of_mem (List.mem_of_getElem? hg)
  have no : ∀ x, x ∉ gs.map (·.2) → x ∉ [g.2] := fun x nx m => nx (by rw [List.mem_singleton.mp m]; exact gm)
  have eq2 : (gs.set j ((g.1.1, g.1.2.1, ws), g.2)).map (·.2) = gs.map (·.2) := by
    rw [List.map_set]
    have jl := (List.getElem?_eq_some_iff.mp hg).1
    refine List.ext_getElem? fun i => ?_
    rw [List.getElem?_set]
    by_cases e : j = i
    · subst e
      simp [hg]
      exact jl
    · simp [e]
  refine ⟨⟨pa, k.keep _ _ (no _ n4) a1, a2.keep k.tk⟩, ⟨xb, k.keep _ _ (no _ m3) b1, Paired.mapP b2 fun _ _ q => q.keep k.tk⟩, ⟨xc, k.keep _ _ (no _ l2) c1, gos_set c2 nd hg k h1 p⟩, ?_, ⟨xd, k.keep _ _ (no _ k1) d1, Paired.mapP d2 fun _ _ q => q.keep k.tk⟩, by rw [eq2]; exact ap⟩
  rw [List.map_set, e]
/-! ### pegs in order -/
theorem le_pg {a b : Ws.VD} {p q : Str × W} (ha : a.2 = pgD p) (hb : b.2 = pgD q) (h : Ws.leD a b = true) (n : p.1 ≠ q.1) : strLt p.1 q.1 := by
  have h2 : (!PySem.W.dataLt b.2 a.2) = true := h
  rw [ha, hb] at h2
  unfold pgD at h2
  rw [PySem.W.dataLt_pair (by simp [PySem.W.alike]) (alikeW _ _)] at h2
  simp only [PyData.eqv, PySem.W.dataLt_str, beq_iff_eq] at h2
  rw [if_neg (fun e => n e.symm)] at h2
  have h3 : ¬ q.1.cps.toList < p.1.cps.toList := by
    intro c
    rw [decide_eq_true c] at h2
    cases h2
  show p.1.cps.toList < q.1.cps.toList
  by_cases c : p.1.cps.toList < q.1.cps.toList
  · exact c
  · exact absurd (Str.ext' (Array.toList_inj.mp (List.le_antisymm (List.not_lt.mp h3) (List.not_lt.mp c)))) n
def RPg (H : Hp) (b : Ws.VD) (p : Str × W) : Prop := b.2 = pgD p ∧ IsPegT H b.1 p
section
variable {K : PySem.W.Frag} {xs : List V} {ps : List (Str × W)} {bs : List Ws.VD} {s : Addr} {Q : VK}
theorem pg_bs : ∀ {xs : List V} {ps : List (Str × W)}, Paired (IsPegT H) xs ps → ∃ bs : List Ws.VD, bs.map (·.1) = xs ∧ Paired (RPg H) bs ps
  | _, _, .nil => ⟨[], rfl, .nil⟩
  | x :: _, p :: _, .cons r t => by
    obtain ⟨bs, e, q⟩ := pg_bs t
    exact ⟨(x, pgD p) :: bs, by rw [List.map_cons, e], .cons ⟨rfl, r⟩ q⟩
theorem pg_xs : ∀ {bs : List Ws.VD} {ps : List (Str × W)}, Paired (RPg H) bs ps → Paired (IsPegT H) (bs.map (·.1)) ps
  | _, _, .nil => .nil
  | _, _, .cons r t => .cons r.2 (pg_xs t)
theorem pg_mem (h : Paired (RPg H) bs ps) {b : Ws.VD} (hb : b ∈ bs) : ∃ z, z ∈ ps ∧ RPg H b z := by
  obtain ⟨i, hi⟩ := List.getElem?_of_mem hb
  obtain ⟨z, hz, r⟩ := pair_at1 h hi
  exact ⟨z, List.mem_of_getElem? hz, r⟩
theorem pg_up (h : Paired (RPg H) bs ps) (hs : bs.Pairwise (fun a b => Ws.leD a b = true)) (nd : (ps.map (·.1)).Nodup) : ps.Pairwise fun a b => strLt a.1 b.1 := by
  induction h with
  | nil => exact .nil
  | cons r t ih =>
    obtain ⟨h1, h2⟩ := List.pairwise_cons.mp hs
    rw [List.map_cons] at nd
    obtain ⟨n1, n2⟩ := List.nodup_cons.mp nd
    refine List.pairwise_cons.mpr ⟨fun z hz => ?_, ih h2 n2⟩
    obtain ⟨i, hi⟩ := List.getElem?_of_mem hz
    obtain ⟨b, hb, rb⟩ := pair_at t hi
    exact le_pg r.1 rb.1 (h1 b (List.mem_of_getElem? hb)) fun e => n1 (List.mem_map.mpr ⟨z, hz, e.symm⟩)
theorem peg_dp {x : V} {p : Str × W} (h : IsPegT H x p) : Dp K H x (pgD p) := by
  obtain ⟨t, v, rfl, h1, h2⟩ := h
  exact .tup (SqT.of h1) (.cons (.str _) (.cons h2.dp .nil))
theorem sort_pegsT {X : List V} (h : Paired (IsPegT H) xs ps) (nd : (ps.map (·.1)).Nodup) (e : X = [.ref s]) (hs : SqL K H s xs) (q : ∀ (p : Addr) (ys : List V) (zs : List (Str × W)), H p = none → zs.Perm ps → Paired (IsPegT H) ys zs → zs.Pairwise (fun a b => strLt a.1 b.1) → Q (.ref p) (upd H p (.lst ys))) : Ws.rSortD K X H Q := by
  obtain ⟨bs, eb, pb⟩ := pg_bs h
  obtain ⟨zs, hp, pz⟩ := Wc.perm_pair (List.mergeSort_perm bs Ws.leD) pb
  refine ⟨s, bs, e, by rw [eb]; exact hs, fun b hb => ?_, ?_, .inl ?_, fun b hb => ?_, fun p hpn => ?_⟩
  · obtain ⟨z, _, r⟩ := pg_mem pb hb
    rw [r.1]; exact peg_dp r.2
  · intro d hd e he
    obtain ⟨b, hb, rfl⟩ := List.mem_map.mp hd
    obtain ⟨c, hc, rfl⟩ := List.mem_map.mp he
    obtain ⟨z, _, r⟩ := pg_mem pb hb
    obtain ⟨y, _, r'⟩ := pg_mem pb hc
    rw [r.1, r'.1]
    simp [pgD, wD, PySem.W.alike, PySem.W.alikeAll]
  · intro d hd
    obtain ⟨b, hb, rfl⟩ := List.mem_map.mp hd
    obtain ⟨z, hz, r⟩ := pg_mem pb hb
    exact ⟨_, _, r.1⟩
  · obtain ⟨z, _, r⟩ := pg_mem pb hb
    rw [r.1]
    have : (pgD z).depth = 2 := by simp [pgD, wD, PyData.depth, PyData.depthAll]
    rw [this]; decide
  · exact q p _ zs hpn hp (pg_xs pz) (pg_up pz (PySem.W.sort_pairwise Wc.leD_total bs) ((hp.map (·.1)).nodup_iff.mpr nd))
end
end
/-! ### a thing more -/
open Wip (PicW Closed)
def N7 : W := (Str.ofString "num", 7)
theorem n7 : Wk N7 ∧ N7.1 ≠ sBox ∧ N7.1 ≠ sGo := ⟨by unfold Wk N7; exact .inr (.inr rfl), by unfold N7; decide +kernel, by unfold N7; decide +kernel⟩
theorem memW {P : Pic} {y : W} : y ∈ P.worths ↔ y ∈ P.pile ∨ (∃ p ∈ P.pegs, p.2 = y) ∨ (∃ b ∈ P.boxes, b.2 = y) ∨ ∃ g ∈ P.goings, y ∈ g.2.2 := by
  unfold Pic.worths
  simp only [List.mem_append, List.mem_map, List.mem_flatMap, or_assoc]
theorem memT {P : Pic} {y : W} : y ∈ P.things ↔ (∃ b ∈ P.boxes, (sBox, b.1) = y) ∨ ∃ g ∈ P.goings, (sGo, g.1) = y := by
  unfold Pic.things
  simp only [List.mem_append, List.mem_map]
structure Grown (P P1 : Pic) (z : W) (b : Bool) : Prop where
  w : PicW P1
  kind : z.1 = sBox ∨ z.1 = sGo
  wk : Wk z
  new : z ∉ P.things
  things : ∀ y, y ∈ P1.things ↔ y ∈ P.things ∨ y = z
  old : ∀ y ∈ P.worths, y ∈ P1.worths
  only : ∀ y ∈ P1.worths, y ∈ P.worths ∨ (b = true ∧ y = z) ∨ y = N7
  has : b = true → z ∈ P1.worths
theorem Grown.closed {P P1 : Pic} {z : W} {b : Bool} (ok : P.Ok) (g : Grown P P1 z b) : b = true ↔ Closed P1 := by
  constructor
  · intro e
    refine ⟨fun y hy hk => (g.things y).mpr ?_, fun y hy => ?_⟩
    · rcases g.only y hy with h | ⟨_, h⟩ | h
      · exact .inl (ok.closed y h hk)
      · exact .inr h
      · subst h
        exact absurd hk (by rintro (h | h); exact n7.2.1 h; exact n7.2.2 h)
    · rcases (g.things y).mp hy with h | h
      · exact g.old y (ok.held y h)
      · subst h; exact g.has e
  · intro c
    have hz := c.2 z ((g.things z).mpr (.inr rfl))
    rcases g.only z hz with h | ⟨h, _⟩ | h
    · exact absurd (ok.closed z h g.kind) g.new
    · exact h
    · have := g.kind
      rw [h] at this
      exact absurd this (by rintro (h | h); exact n7.2.1 h; exact n7.2.2 h)
theorem grown_box {P : Pic} {n : Int} {v : W} {b : Bool} (ok : P.Ok) (h0 : 0 ≤ n) (up : ∀ x ∈ P.boxes, x.1 < n) (hv : v = if b = true then (sBox, n) else N7) : Grown P { P with boxes := P.boxes ++ [(n, v)] } (sBox, n) b := by
  have wz : Wk (sBox, n) := by unfold Wk; simp [h0]
  have wv : Wk v := by rw [hv]; split; exact wz; exact n7.1
  have pw := PicW.of ok
  refine ⟨⟨fun y hy => ?_, pw.names, pw.pegUp, pw.goUp, pw.goNat, ?_, fun x hx => ?_⟩, .inl rfl, wz, fun h => ?_, fun y => ?_, fun y hy => ?_, fun y hy => ?_, fun e => ?_⟩
  · rcases memW.mp hy with h | h | ⟨x, hx, h⟩ | h
    · exact pw.words y (memW.mpr (.inl h))
    · exact pw.words y (memW.mpr (.inr (.inl h)))
    · rcases List.mem_append.mp hx with hx | hx
      · exact pw.words y (memW.mpr (.inr (.inr (.inl ⟨x, hx, h⟩))))
      · rw [List.mem_singleton.mp hx] at h; rw [← h]; exact wv
    · exact pw.words y (memW.mpr (.inr (.inr (.inr h))))
  · refine List.pairwise_append.mpr ⟨pw.boxUp, List.pairwise_singleton _ _, fun x hx y hy => ?_⟩
    rw [List.mem_singleton.mp hy]; exact up x hx
  · rcases List.mem_append.mp hx with hx | hx
    · exact pw.boxNat x hx
    · rw [List.mem_singleton.mp hx]; exact h0
  · rcases memT.mp h with ⟨x, hx, e⟩ | ⟨x, hx, e⟩
    · have := up x hx
      have e2 : x.1 = n := (Prod.mk.inj e).2
      omega
    · exact box_go (Prod.mk.inj e).1.symm
  · rw [memT, memT]
    simp only [List.mem_append, List.mem_singleton]
    constructor
    · rintro (⟨x, hx | hx, e⟩ | h)
      · exact .inl (.inl ⟨x, hx, e⟩)
      · rw [hx] at e; exact .inr e.symm
      · exact .inl (.inr h)
    · rintro ((⟨x, hx, e⟩ | h) | h)
      · exact .inl ⟨x, .inl hx, e⟩
      · exact .inr h
      · exact .inl ⟨_, .inr rfl, h.symm⟩
  · rcases memW.mp hy with h | h | ⟨x, hx, h⟩ | h
    · exact memW.mpr (.inl h)
    · exact memW.mpr (.inr (.inl h))
    · exact memW.mpr (.inr (.inr (.inl ⟨x, List.mem_append_left _ hx, h⟩)))
    · exact memW.mpr (.inr (.inr (.inr h)))
  · rcases memW.mp hy with h | h | ⟨x, hx, h⟩ | h
    · exact .inl (memW.mpr (.inl h))
    · exact .inl (memW.mpr (.inr (.inl h)))
    · rcases List.mem_append.mp hx with hx | hx
      · exact .inl (memW.mpr (.inr (.inr (.inl ⟨x, hx, h⟩))))
      · rw [List.mem_singleton.mp hx] at h
        refine .inr ?_
        rw [← h, hv]
        cases b
        · exact .inr rfl
        · exact .inl ⟨rfl, rfl⟩
    · exact .inl (memW.mpr (.inr (.inr (.inr h))))
  · refine memW.mpr (.inr (.inr (.inl ⟨(n, v), List.mem_append_right _ (List.mem_singleton.mpr rfl), ?_⟩)))
    rw [hv, if_pos e]
theorem grown_go {P : Pic} {n p : Int} {ws : List W} {b : Bool} (ok : P.Ok) (h0 : 0 ≤ n) (p0 : 0 ≤ p) (up : ∀ x ∈ P.goings, x.1 < n) (hv : ws = if b = true then [(sGo, n)] else []) : Grown P { P with goings := P.goings ++ [(n, p, ws)] } (sGo, n) b := by
  have wz : Wk (sGo, n) := by unfold Wk; simp [h0]
  have pw := PicW.of ok
  have wv : ∀ y ∈ ws, b = true ∧ y = (sGo, n) := by
    intro y hy
    rw [hv] at hy
    cases b
    · simp at hy
    · simpa using hy
  refine ⟨⟨fun y hy => ?_, pw.names, pw.pegUp, ?_, fun x hx => ?_, pw.boxUp, pw.boxNat⟩, .inr rfl, wz, fun h => ?_, fun y => ?_, fun y hy => ?_, fun y hy => ?_, fun e => ?_⟩
  · rcases memW.mp hy with h | h | h | ⟨x, hx, h⟩
    · exact pw.words y (memW.mpr (.inl h))
    · exact pw.words y (memW.mpr (.inr (.inl h)))
    · exact pw.words y (memW.mpr (.inr (.inr (.inl h))))
    · rcases List.mem_append.mp hx with hx | hx
      · exact pw.words y (memW.mpr (.inr (.inr (.inr ⟨x, hx, h⟩))))
      · rw [List.mem_singleton.mp hx] at h; rw [(wv y h).2]; exact wz
  · refine List.pairwise_append.mpr ⟨pw.goUp, List.pairwise_singleton _ _, fun x hx y hy => ?_⟩
    rw [List.mem_singleton.mp hy]; exact up x hx
  · rcases List.mem_append.mp hx with hx | hx
    · exact pw.goNat x hx
    · rw [List.mem_singleton.mp hx]; exact ⟨h0, p0⟩
  · rcases memT.mp h with ⟨x, hx, e⟩ | ⟨x, hx, e⟩
    · exact box_go (Prod.mk.inj e).1
    · have := up x hx
      have e2 : x.1 = n := (Prod.mk.inj e).2
      omega
  · rw [memT, memT]
    simp only [List.mem_append, List.mem_singleton]
    constructor
    · rintro (h | ⟨x, hx | hx, e⟩)
      · exact .inl (.inl h)
      · exact .inl (.inr ⟨x, hx, e⟩)
      · rw [hx] at e; exact .inr e.symm
    · rintro ((h | ⟨x, hx, e⟩) | h)
      · exact .inl h
      · exact .inr ⟨x, .inl hx, e⟩
      · exact .inr ⟨_, .inr rfl, h.symm⟩
  · rcases memW.mp hy with h | h | h | ⟨x, hx, h⟩
    · exact memW.mpr (.inl h)
    · exact memW.mpr (.inr (.inl h))
    · exact memW.mpr (.inr (.inr (.inl h)))
    · exact memW.mpr (.inr (.inr (.inr ⟨x, List.mem_append_left _ hx, h⟩)))
  · rcases memW.mp hy with h | h | h | ⟨x, hx, h⟩
    · exact .inl (memW.mpr (.inl h))
    · exact .inl (memW.mpr (.inr (.inl h)))
    · exact .inl (memW.mpr (.inr (.inr (.inl h))))
    · rcases List.mem_append.mp hx with hx | hx
      · exact .inl (memW.mpr (.inr (.inr (.inr ⟨x, hx, h⟩))))
      · rw [List.mem_singleton.mp hx] at h
        exact .inr (.inl (wv y h))
  · refine memW.mpr (.inr (.inr (.inr ⟨(n, p, ws), List.mem_append_right _ (List.mem_singleton.mpr rfl), ?_⟩)))
    dsimp only
    rw [hv, if_pos e]
    exact List.mem_singleton.mpr rfl
/-- whatever is changed but the things: what stands where -/
theorem Grown.more {P P1 P2 : Pic} {z : W} {b : Bool} (g : Grown P P1 z b) (w : PicW P2) (t : P2.things = P1.things) (m : ∀ y, y ∈ P2.worths ↔ y ∈ P1.worths ∨ y = z) : Grown P P2 z true where
  w := w
  kind := g.kind
  wk := g.wk
  new := g.new
  things := by rw [t]; exact g.things
  old := fun y hy => (m y).mpr (.inl (g.old y hy))
  only := fun y hy => by
    rcases (m y).mp hy with h | h
    · rcases g.only y h with h | ⟨_, h⟩ | h
      · exact .inl h
      · exact .inr (.inl ⟨rfl, h⟩)
      · exact .inr (.inr h)
    · exact .inr (.inl ⟨rfl, h⟩)
  has := fun _ => (m z).mpr (.inr rfl)
theorem peg_more {P P1 : Pic} {z : W} {b : Bool} {nm : Str} {zs : List (Str × W)} (g : Grown P P1 z b) (hn : Wu.Nm nm ∧ 1 ≤ nm.length) (hp : zs.Perm (P1.pegs ++ [(nm, z)])) (up : zs.Pairwise fun a b => strLt a.1 b.1) : Grown P { P1 with pegs := zs } z true := by
  have mp : ∀ p, p ∈ zs ↔ p ∈ P1.pegs ∨ p = (nm, z) := fun p => by rw [hp.mem_iff]; simp
  have m : ∀ y, y ∈ ({ P1 with pegs := zs } : Pic).worths ↔ y ∈ P1.worths ∨ y = z := by
    intro y
    rw [memW, memW]
    constructor
    · rintro (h | ⟨p, hp, h⟩ | h | h)
      · exact .inl (.inl h)
      · rcases (mp p).mp hp with hp | hp
        · exact .inl (.inr (.inl ⟨p, hp, h⟩))
        · rw [hp] at h; exact .inr h.symm
      · exact .inl (.inr (.inr (.inl h)))
      · exact .inl (.inr (.inr (.inr h)))
    · rintro ((h | ⟨p, hp, h⟩ | h | h) | h)
      · exact .inl h
      · exact .inr (.inl ⟨p, (mp p).mpr (.inl hp), h⟩)
      · exact .inr (.inr (.inl h))
      · exact .inr (.inr (.inr h))
      · exact .inr (.inl ⟨_, (mp _).mpr (.inr rfl), h.symm⟩)
  refine g.more ⟨fun y hy => ?_, fun p hp => ?_, up, g.w.goUp, g.w.goNat, g.w.boxUp, g.w.boxNat⟩ rfl m
  · rcases (m y).mp hy with h | h
    · exact g.w.words y h
    · rw [h]; exact g.wk
  · rcases (mp p).mp hp with hp | hp
    · exact g.w.names p hp
    · rw [hp]; exact hn
theorem pile_more {P P1 : Pic} {z : W} {b : Bool} {ws : List W} (g : Grown P P1 z b) (mw : ∀ y, y ∈ ws ↔ y ∈ P1.pile ∨ y = z) : Grown P { P1 with pile := ws } z true := by
  have m : ∀ y, y ∈ ({ P1 with pile := ws } : Pic).worths ↔ y ∈ P1.worths ∨ y = z := by
    intro y
    rw [memW, memW]
    constructor
    · rintro (h | h)
      · rcases (mw y).mp h with h | h
        · exact .inl (.inl h)
        · exact .inr h
      · exact .inl (.inr h)
    · rintro ((h | h) | h)
      · exact .inl ((mw y).mpr (.inl h))
      · exact .inr h
      · exact .inl ((mw y).mpr (.inr h))
  refine g.more ⟨fun y hy => ?_, g.w.names, g.w.pegUp, g.w.goUp, g.w.goNat, g.w.boxUp, g.w.boxNat⟩ rfl m
  rcases (m y).mp hy with h | h
  · exact g.w.words y h
  · rw [h]; exact g.wk
theorem set_same {α β : Type} {f : α → β} {l : List α} {j : Nat} {x y : α} (hx : l[j]? = some x) (e : f y = f x) : (l.set j y).map f = l.map f := by
  rw [List.map_set, e]
  refine List.ext_getElem? fun i => ?_
  rw [List.getElem?_set]
  by_cases h : j = i
  · subst h
    have jl := (List.getElem?_eq_some_iff.mp hx).1
    simp [hx]
    exact jl
  · simp [h]
theorem mem_set2 {α : Type} {l : List α} {j : Nat} {x y a : α} (hx : l[j]? = some x) : (a ∈ l.set j y → a ∈ l ∨ a = y) ∧ (a ∈ l → a ∈ l.set j y ∨ a = x) ∧ y ∈ l.set j y := by
  have jl := (List.getElem?_eq_some_iff.mp hx).1
  refine ⟨fun h => List.mem_or_eq_of_mem_set h, fun h => ?_, ?_⟩
  · obtain ⟨i, hi⟩ := List.getElem?_of_mem h
    by_cases e : j = i
    · subst e
      rw [hx] at hi
      exact .inr (Option.some.inj hi).symm
    · refine .inl (List.mem_of_getElem? (i := i) ?_)
      rw [List.getElem?_set_ne e]; exact hi
  · refine List.mem_of_getElem? (i := j) ?_
    rw [List.getElem?_set_self jl]
theorem row_more {P P1 : Pic} {z : W} {b : Bool} {j : Nat} {r : Int × Int × List W} {ws : List W} (g : Grown P P1 z b) (hr : P1.goings[j]? = some r) (mw : ∀ y, y ∈ ws ↔ y ∈ r.2.2 ∨ y = z) : Grown P { P1 with goings := P1.goings.set j (r.1, r.2.1, ws) } z true := by
  have rm := List.mem_of_getElem? hr
  have m : ∀ y, y ∈ ({ P1 with goings := P1.goings.set j (r.1, r.2.1, ws) } : Pic).worths ↔ y ∈ P1.worths ∨ y = z := by
    intro y
    rw [memW, memW]
    constructor
    · rintro (h | h | h | ⟨x, hx, h⟩)
      · exact .inl (.inl h)
      · exact .inl (.inr (.inl h))
      · exact .inl (.inr (.inr (.inl h)))
      · rcases (mem_set2 hr).1 hx with hx | hx
        · exact .inl (.inr (.inr (.inr ⟨x, hx, h⟩)))
        · rw [hx] at h
          rcases (mw y).mp h with h | h
          · exact .inl (.inr (.inr (.inr ⟨r, rm, h⟩)))
          · exact .inr h
    · rintro ((h | h | h | ⟨x, hx, h⟩) | h)
      · exact .inl h
      · exact .inr (.inl h)
      · exact .inr (.inr (.inl h))
      · rcases (mem_set2 (y := (r.1, r.2.1, ws)) hr).2.1 hx with hx | hx
        · exact .inr (.inr (.inr ⟨x, hx, h⟩))
        · exact .inr (.inr (.inr ⟨_, (mem_set2 (a := r) hr).2.2, (mw y).mpr (.inl (by rw [← hx]; exact h))⟩))
      · exact .inr (.inr (.inr ⟨_, (mem_set2 (a := r) hr).2.2, (mw y).mpr (.inr h)⟩))
  have t : ({ P1 with goings := P1.goings.set j (r.1, r.2.1, ws) } : Pic).things = P1.things := by
    unfold Pic.things
    show (P1.boxes.map fun b => ((sBox, b.1) : W)) ++ ((P1.goings.set j (r.1, r.2.1, ws)).map fun g => ((sGo, g.1) : W)) = _
    rw [set_same (f := fun g : Int × Int × List W => ((sGo, g.1) : W)) (y := (r.1, r.2.1, ws)) hr rfl]
  refine g.more ⟨fun y hy => ?_, g.w.names, g.w.pegUp, ?_, fun x hx => ?_, g.w.boxUp, g.w.boxNat⟩ t m
  · rcases (m y).mp hy with h | h
    · exact g.w.words y h
    · rw [h]; exact g.wk
  · have := g.w.goUp
    have e := set_same (f := fun g : Int × Int × List W => g.1) (y := (r.1, r.2.1, ws)) hr rfl
    have h1 : (P1.goings.map fun g => g.1).Pairwise (· < ·) := List.pairwise_map.mpr this
    rw [← e] at h1
    exact List.pairwise_map.mp h1
  · rcases (mem_set2 hr).1 hx with hx | hx
    · exact g.w.goNat x hx
    · rw [hx]; exact g.w.goNat r rm
def Mid (n : Nat) (P : Pic) : Prop := P.pile.length ≤ n ∧ P.pegs.length ≤ 200 ∧ P.goings.length ≤ 200 ∧ P.boxes.length ≤ 200 ∧ ∀ g ∈ P.goings, g.2.2.length ≤ n
theorem Mid.of {n m : Nat} {P : Pic} (h : P.Small n) (l : n ≤ m) : Mid m P := by
  obtain ⟨m1, m2, m3, m4, m5⟩ := h
  exact ⟨by omega, by omega, by omega, by omega, fun g hg => Nat.le_trans (m5 g hg) l⟩
theorem spot {P P1 : Pic} {z : W} {bb : Bool} {H : Hp} {a b c d : Addr} {gs : List Go} {i : Int} (own : OwnAt H a b c d gs P1) (gr : Grown P P1 z bb) (mid : Mid 60 P1) (i0 : 0 ≤ i) (i1 : i < 1 + gs.length) :
    ∃ l ys ws, atI ([V.ref a] ++ gs.map fun g => V.ref g.2) i = some (.ref l) ∧ H l = some (.lst ys) ∧ Pile H ys ws ∧ ws.length ≤ 60 ∧ l ∈ a :: b :: c :: d :: gs.map (·.2) ∧ ∀ H' ys' ws', Ks [l] H H' → H' l = some (.lst ys') → Pile H' ys' ws' → ws'.length ≤ 61 → (∀ y, y ∈ ws' ↔ y ∈ ws ∨ y = z) → ∃ gs' P2, OwnAt H' a b c d gs' P2 ∧ Grown P P2 z true ∧ Mid 400 P2 := by
  obtain ⟨m1, m2, m3, m4, m5⟩ := mid
  by_cases e : i = 0
  · subst e
    obtain ⟨pa, a1, a2⟩ := own.pile
    refine ⟨a, pa, P1.pile, atI_of (show (0 : Int) = ((0 : Nat) : Int) from rfl) rfl, a1, a2, m1, by simp, fun H' ys' ws' k h p l m => ⟨gs, _, own.set_a k h p, pile_more gr m, Nat.le_trans l (by decide), m2, m3, m4, fun g hg => Nat.le_trans (m5 g hg) (by decide)⟩⟩
  · obtain ⟨j, rfl⟩ : ∃ j : Nat, i = ((j + 1 : Nat) : Int) := ⟨(i - 1).toNat, by omega⟩
    have jl : j < gs.length := by omega
    obtain ⟨g, hg⟩ : ∃ g, gs[j]? = some g := ⟨_, List.getElem?_eq_getElem jl⟩
    obtain ⟨xc, c1, c2⟩ := own.goings
    obtain ⟨x, hx, t, vs, _, h1, h2, h3⟩ := pair_at c2 hg
    have hr : P1.goings[j]? = some g.1 := by rw [← own.eq, List.getElem?_map, hg]; rfl
    refine ⟨g.2, vs, g.1.2.2, atI_of rfl ?_, h2, h3, m5 _ (List.mem_of_getElem? hr), ?_, fun H' ys' ws' k h p l m => ⟨_, _, own.set_row hg k h p, row_more gr hr m, Nat.le_trans m1 (by decide), m2, ?_, m4, fun r hr2 => ?_⟩⟩
    · show ((gs.map fun g => V.ref g.2))[j]? = _
      rw [List.getElem?_map, hg]; rfl
    · simp only [List.mem_cons]
      exact .inr (.inr (.inr (.inr (List.mem_map_of_mem (List.mem_of_getElem? hg)))))
    · show (P1.goings.set j _).length ≤ 200
      rw [List.length_set]; exact m3
    · rcases (mem_set2 hr).1 hr2 with q | q
      · exact Nat.le_trans (m5 r q) (by decide)
      · rw [q]; exact Nat.le_trans l (by decide)
theorem pair_take {α β : Type} {R : α → β → Prop} : ∀ {xs : List α} {ys : List β} (k : Nat), Paired R xs ys → Paired R (xs.take k) (ys.take k)
  | _, _, 0, _ => by rw [List.take_zero, List.take_zero]; exact .nil
  | _, _, k + 1, .nil => .nil
  | _, _, k + 1, .cons r t => .cons r (pair_take k t)
theorem pair_drop {α β : Type} {R : α → β → Prop} : ∀ {xs : List α} {ys : List β} (k : Nat), Paired R xs ys → Paired R (xs.drop k) (ys.drop k)
  | _, _, 0, h => h
  | _, _, k + 1, .nil => .nil
  | _, _, k + 1, .cons r t => pair_drop k t
theorem ins_mem {ws : List W} {z y : W} {k : Nat} : y ∈ ws.take k ++ [z] ++ ws.drop k ↔ y ∈ ws ∨ y = z := by
  have : y ∈ ws ↔ y ∈ ws.take k ∨ y ∈ ws.drop k := by rw [← List.mem_append, List.take_append_drop]
  rw [List.mem_append, List.mem_append, List.mem_singleton, this]
  constructor
  · rintro ((h | h) | h)
    · exact .inl (.inl h)
    · exact .inr h
    · exact .inl (.inr h)
  · rintro ((h | h) | h)
    · exact .inl (.inl h)
    · exact .inr h
    · exact .inl (.inr h)
theorem ins_len {ws : List W} {z : W} {k : Nat} : (ws.take k ++ [z] ++ ws.drop k).length = ws.length + 1 := by
  rw [List.length_append, List.length_append, List.length_take, List.length_drop, List.length_singleton]
  omega
end Wow

namespace K15
open PySem PySem.Spec PyProof.Rows L2 Wp Wq Wr Wpm Wpn Wth
local macro_rules | `(tactic| walk_at "ne") => `(tactic| first
  | assumption
  | (refine Ne.symm ?_; assumption)
  | exact ne_of_none (by assumption) (by assumption)
  | exact (ne_of_none (by assumption) (by assumption)).symm
  | exact ne_of (by assumption) (by assumption) (by intro q; cases q))
local macro_rules | `(tactic| walk_at "hp") => `(tactic| first
  | assumption
  | exact upd_same
  | (refine (upd_ne ?_).trans ?_; (walk_at "ne"); (walk_at "hp")))
local macro_rules | `(tactic| walk_at "hq") => `(tactic| first
  | assumption
  | exact upd_same
  | (refine same_new (by assumption) _ _ ?_; (walk_at "hq"))
  | (refine Wp.look (by assumption) ?_; (walk_at "hq")))
local macro_rules | `(tactic| walk_at "sm") => `(tactic| first
  | assumption
  | exact fun _ _ h => h
  | exact same_new (by assumption)
  | (refine Same.trans ?_ (same_new (by assumption)); (walk_at "sm"))
  | (refine Same.trans ?_ (by assumption); (walk_at "sm")))
local macro_rules | `(tactic| walk_at "kp") => `(tactic| first
  | assumption
  | exact Kp.refl _ _
  | (refine Kp.trans ?_ (Kp.new (by assumption)); (walk_at "kp"))
  | (refine Kp.trans ?_ (Same.kp (by assumption)); (walk_at "kp"))
  | (refine Wp.kpT ?_ (by assumption); (walk_at "kp"))
  | exact Same.kp (by walk_at "sm"))
local macro_rules | `(tactic| walk_at "sq") => `(tactic| first
  | assumption
  | exact SqL.of (by walk_at "hp")
  | exact SqT.of (by walk_at "hp"))
local macro_rules | `(tactic| walk_at "kind") => `(tactic| first
  | assumption
  | exact Kind.int _
  | exact Kind.str _
  | exact Kind.bl _
  | exact Kind.non
  | exact Kind.tup (by walk_at "hp")
  | exact Kind.lst (by walk_at "hp")
  | exact Kind.dK (by walk_at "hp"))
local macro_rules | `(tactic| walk_at "w1") => `(tactic| first
  | (with_reducible refine Wp.seq ?_)
  | (with_reducible refine Wp.nx_mk ?_)
  | (with_reducible refine Wp.rt_mk ?_)
  | (with_reducible refine Wp.bk_mk ?_)
  | (with_reducible refine Wp.ct_mk ?_)
  | (with_reducible refine Wp.next ?_)
  | (with_reducible refine Wp.asg ?_)
  | ((with_reducible refine' Wp.gname ?e ?_); (case e => (try dsimp only [List.set, L2.wipe, List.map_cons, List.map_nil]); (try exact rfl)))
  | (with_reducible refine Wp.gsub ?_)
  | (with_reducible refine Wp.ret ?_)
  | (with_reducible refine Wp.retN ?_)
  | (with_reducible refine Wp.drop ?_)
  | (with_reducible refine Wp.dput ?_)
  | (with_reducible refine Wp.ifs ?_)
  | ((with_reducible refine' Wp.var ?h ?_); (case h => exact rfl))
  | (with_reducible refine Wp.con ?_)
  | (with_reducible refine Wp.op ?_)
  | (with_reducible refine Wp.un ?_)
  | (with_reducible refine Wp.cb ?_)
  | (with_reducible refine Wp.anil ?_)
  | (with_reducible refine Wp.acons ?_)
  | (with_reducible refine Wp.call ?_)
  | (with_reducible refine Wp.test ?_)
  | (with_reducible refine Wp.tb_ ?_)
  | (with_reducible refine Wp.and_ ?_)
  | (with_reducible refine Wp.or_ ?_)
  | (with_reducible refine Wp.not_ ?_)
  | (with_reducible refine Wp.andV ?_)
  | (with_reducible refine Wp.orV ?_)
  | (with_reducible refine Wp.notV ?_)
  | (with_reducible refine Wp.rI0_ ?_)
  | (with_reducible refine Wp.rU_ ?_)
  | ((with_reducible refine Wp.rEq_ ?k ?_); (case k => exact rfl))
  | ((with_reducible refine Wp.rNe_ ?k ?_); (case k => exact rfl))
  | (with_reducible refine Wp.gcons ?_)
  | (with_reducible refine Wp.gnil ?_)
  | ((with_reducible refine' Wp.gtup ?h ?e ?_); (case h => walk_at "sq"); (case e => exact rfl))
  | (with_reducible refine Wp.sl ?_)
  | (with_reducible refine Wp.part ?_)
  | (with_reducible refine Wp.nopart ?_)
  | (with_reducible refine Wp.ifE ?_)
  | (with_reducible refine Wp.bm0 ?_)
  | (with_reducible refine Wp.bm ?_)
  | (with_reducible refine Wp.lcR1 ?_)
  | (with_reducible refine Wp.lcR2 ?_)
  | (with_reducible refine Wp.lcL ?_)
  | (with_reducible refine Wp.chain ?_)
  | (with_reducible refine Wp.lc2V ?_)
  | (with_reducible refine Wp.piL ?_)
  | (with_reducible refine Wp.yes ?_)
  | (with_reducible refine Wp.dinI ?_)
  | (with_reducible refine Wp.dninI ?_)
  | (with_reducible refine Wp.dget ?_)
  | ((with_reducible refine' ⟨?k, ?_⟩); (case k => show L2.wipe _ _ = L2.wipe _ _; exact rfl))
  | ((with_reducible refine' ⟨?k, ?_⟩); (case k => show V.non = V.non; exact rfl))
  | (with_reducible refine Wp.forR1 ?_)
  | (with_reducible refine Wp.forR2 ?_)
  | (with_reducible refine Wp.forL ?_)
  | (with_reducible refine Wp.forT ?_)
  | ((with_reducible refine' ⟨?k, ?_⟩); (case k => exact Wp.tyvL (by walk_at "hp")))
  | ((with_reducible refine' Wp.rev_ ?k ?_); (case k => walk_at "hp"))
  | ((with_reducible refine' Wp.isi ?k ?h ?_); (case k => walk_at "kind"); (case h => decide))
  | ((with_reducible refine' Wp.typ ?k ?_); (case k => walk_at "kind"))
  | (with_reducible refine Wp.slS ?k ?_; (case k => assumption))
  | (with_reducible refine iteT ?_)
  | (with_reducible refine iteF ?_)
  | (with_reducible refine Wtc.dcL ?_)
  | (with_reducible refine Wst.step ?_)
  | (with_reducible refine Wtc.dget2 ?_)
  | (with_reducible refine Wtc.lcZ ?_)
  | (with_reducible refine Wrw.loop_setLc ?_)
  | (with_reducible refine Wz.par ?_)
  | (with_reducible refine Wz.forN ?_)
  | (with_reducible refine Wz.dcL ?_)
  | (with_reducible refine Wz.forZ ?_)
  | (with_reducible refine Wz.lcR3 ?_)
  | (with_reducible refine Wc.revL ?_)
  | (with_reducible refine Wd.nm ?_)
  | (with_reducible refine Wd.nget ?_)
  | ((with_reducible refine Wd.tnew ?_); intro p hp)
  | (with_reducible refine Wd.pikn ?_)
  | (with_reducible refine Wt.m1 ?_)
  | (with_reducible refine Wt.m0 ?_)
  | ((with_reducible refine' ⟨?k, ?_⟩); (case k => show ∃ a, _ = V.str a; exact ⟨_, rfl⟩))
  | (with_reducible refine Wt.js_cons ?_)
  | (with_reducible refine Wt.fmt_ ?_)
  | (with_reducible refine Wp.pcons ?_)
  | (with_reducible refine Wp.pnil ?_)
  | ((with_reducible refine' Wp.iteBnT ?h ?_); (case h => show isB _ _ = false; decide))
  | ((with_reducible refine' Wp.iteBnF ?h ?_); (case h => show isB _ _ = true; decide))
  | ((with_reducible refine' Wp.iteBt ?h ?_); (case h => show isB _ _ = true; decide))
  | ((with_reducible refine' Wp.iteBf ?h ?_); (case h => show isB _ _ = false; decide))
  | (with_reducible refine Wp.iteT' ?_)
  | (with_reducible refine Wp.iteF' ?_)
  | (with_reducible refine Wp.rNT_ ?_)
  | ((with_reducible refine Wp.lst ?_))
  | ((with_reducible refine Wp.tup ?_))
  | ((with_reducible refine' Wp.ixL ?h ?e ?_); (case h => walk_at "sq"); (case e => exact rfl))
  | ((with_reducible refine' Wp.ixT ?h ?e ?_); (case h => walk_at "sq"); (case e => exact rfl))
  | ((with_reducible refine' Wp.setL ?h ?e ?_); (case h => walk_at "hp"); (case e => exact rfl))
  | ((with_reducible refine Wp.rI_ ?k ?_); (case k => first | (show (0:Int) < _; omega) | (show CPow _ _; refine' ⟨?_, ?_, ?_⟩ <;> omega) | (show CDiv _ _; refine' ⟨?_, ?_⟩ <;> omega) | (show CMul _ _; refine' Or.inl ⟨?_, ?_⟩ <;> omega) | (show CMul _ _; refine' Or.inr ⟨?_, ?_⟩ <;> first | omega | decide) | (show CDivW _ _; refine' wide_div (b := 240) ?_ ?_ ?_ ?_ <;> first | omega | decide)))
  | ((with_reducible refine ⟨?k, ?_⟩); (case k => first | exact Nat.zero_le _ | (exact Nat.le_of_ble_eq_true rfl)); intro p hp)
  | ((with_reducible refine' ⟨_, _, rfl, .inl ?k, ?_⟩); (case k => walk_at "sq"))
  | ((with_reducible refine' ⟨_, _, rfl, .inr ?k, ?_⟩); (case k => walk_at "sq"))
  | (with_reducible refine ⟨_, rfl, ?_⟩)
  | (with_reducible refine ⟨_, _, rfl, rfl, ?_⟩)
  | (with_reducible refine ⟨_, _, rfl, ?_⟩))
local macro_rules | `(tactic| walk_at "wp") => `(tactic| repeat (walk_at "w1"))

section
variable {P : Program} {w : World} {K : PySem.W.Frag} {mg : Str → Option Value} {base : Heap}
def spIsThing : Sp := fun vs H Q _ => ∃ (v : V) (z : W), vs = [v] ∧ IsW H v z ∧ ∀ H', Same H H' → Q (.bl (isT z)) H'
theorem ok_is_thing (T : Txt P w K mg) : FnOk P w K mg base CX0 1 T.f_is_thing T.fd_is_thing ["worth"] spIsThing := by
  refine T.F_is_thing.ok sc_is_thing (fun vs H Q E h => ?_) (fun cdv A outer s H vs Q E hr h => ?_)
  · obtain ⟨v, z, rfl, _⟩ := h
    rfl
  · obtain ⟨v, z, rfl, ⟨t, rfl, ht⟩, q⟩ := h
    refine ⟨_, (pss_one (ps_ret (pe_cmpR op_in_seq (pe_ix ix_tup (pv 0) pe_int (fun _ _ => rfl)) (pe_tup (pa_cons pe_str (pa_cons pe_str pa_nil))) (by rfl)))), ?_⟩
    rw [show L2.start ["worth"] [.ref t] = [some (.ref t)] from rfl]
    try dsimp only [cxOf]
    walk_at "wp"
    rename_i p hp
    refine ⟨p, _, rfl, .inr (SqT.of upd_same), rfl, rfl, ?_⟩
    exact q _ (same_new hp)
def spThingsOf (K : PySem.W.Frag) : Sp := fun vs H Q _ => ∃ (a : Addr) (xs : List V) (ws : List W), vs = [.ref a] ∧ SqL K H a xs ∧ Pile H xs ws ∧ ws.length ≤ 900000 ∧
  ∀ p ys H', H p = none → H' p = some (.lst ys) → Pile H' ys (thingsM ws) → Same H H' → Q (.ref p) H'
theorem ok_things_of (T : Txt P w K mg) : FnOk P w K mg base CX0 2 T.f_things_of T.fd_things_of ["worths"] (spThingsOf K) := by
  have G_is_thing := ok_is_thing (base := base) T
  refine T.F_things_of.ok sc_things_of (fun vs H Q E h => ?_) (fun cdv A outer s H vs Q E hr h => ?_)
  · obtain ⟨a, xs, ws, rfl, _⟩ := h
    rfl
  · obtain ⟨a, xs, ws, rfl, hS, hP, hl, q⟩ := h
    refine ⟨_, (pss_cons (ps_set (i := 1) sc_things_of.nd rfl (.inl rfl) pe_dnewT)
      (pss_cons (ps_for PassesOwn.never rfl (pi_list (pv 0)) (pg_name (i := 2) sc_things_of.nd rfl (.inl rfl)) (pss_one (ps_if (pt_val (pe_call G_is_thing (hr.mono (by decide)) (by rfl) T.g_is_thing T.F_is_thing.kp T.b_is_thing .nil pass0 (pa_cons (pv 2) pa_nil))) (pss_one (ps_dput (hu_of hr) (pv 1) (pv 2) pe_bl rfl)) pss_nil)))
      (pss_one (ps_ret (pe_callTy (call_list_dT rfl) (by rfl) T.n_list (by decide +kernel) (pa_cons (pv 1) pa_nil)))))), ?_⟩
    rw [show L2.start ["worths", "found", "worth"] [.ref a] = [some (.ref a), none, none] from rfl]
    try dsimp only [cxOf]
    walk_at "wp"
    intro d hd
    walk_at "wp"
    have s0 := same_new (o := .dT []) hd
    refine ⟨⟨xs, s0.seq hS⟩, loopL (xs := xs) (fun i σ H' => ∃ y2, σ = [some (.ref a), some (.ref d), y2] ∧ Same H H' ∧ H' d = some (.dT (((ws.take i).foldl stepT []).map ent))) ⟨_, rfl, s0, upd_same⟩ (fun i σ H' _ ⟨_, _, s, _⟩ => s.seq hS) ?_ ?_⟩
    · rintro i x σ H1 hi ⟨y2, rfl, s1, h1⟩
      obtain ⟨z, hz, hw⟩ := hP.get hi
      have hw1 := hw.keep (Same.tk s1)
      walk_at "wp"
      refine ⟨x, z, rfl, hw1, fun H2 s2 => ?_⟩
      walk_at "wp"
      refine iteB (fun e => ?_) (fun e => ?_)
      · obtain ⟨t, rfl, ht⟩ := hw1
        walk_at "wp"
        have ht2 := s2 _ _ ht
        have hd2 := s2 _ _ h1
        refine ⟨d, _, rfl, DPut.t (k := keyT z) hd2 ht2 ?_, ?_⟩
        · rw [List.length_map]
          have := fold_len (ws := ws.take i) (acc := [])
          rw [List.length_take] at this
          exact Wb.small (by simp at this; omega)
        · rw [put_step _ _ e, ← take_fold hz]
          walk_at "wp"
          refine ⟨?_, upd_same⟩
          have s3 := s1.trans s2
          intro b o hb
          rw [upd_ne (ne_of_none hb hd)]
          exact s3 _ _ hb
      · walk_at "wp"
        refine ⟨s1.trans s2, ?_⟩
        rw [take_fold hz]
        unfold stepT
        rw [if_neg (fun q => by rw [e] at q; exact Bool.false_ne_true q.1)]
        exact s2 _ _ h1
    · rintro σ H1 ⟨y2, rfl, s1, h1⟩
      walk_at "wp"
      rw [hP.len, List.take_of_length_le (Nat.le_refl _)] at h1
      refine ⟨d, _, rfl, .inl h1, fun p bs hp hk => ?_⟩
      have s2 := same_new (o := .lst (bs.map V.ref)) hp
      walk_at "wp"
      exact q _ _ _ (s1.free hp) upd_same ((keys_pile hk).keep (Same.tk s2)) (s1.trans s2)

def spHoldings : Sp := fun vs H Q _ => ∃ (v : V) (P : Pic), vs = [v] ∧ IsPic [] H v P ∧ P.things.Nodup ∧ P.boxes.length ≤ 400 ∧ P.goings.length ≤ 400 ∧ (∀ g ∈ P.goings, g.2.2.length ≤ 900) ∧ ∀ d kvs H', H d = none → H' d = some (.dT kvs) → Tab H' kvs (tableM P) → Same H H' → Q (.ref d) H'
theorem ok_holdings (T : Txt P w K mg) : FnOk P w K mg base CX0 3 T.f_holdings T.fd_holdings ["picture"] spHoldings := by
  have G_things_of := ok_things_of (base := base) T
  refine T.F_holdings.ok sc_holdings (fun vs H Q E h => ?_) (fun cdv A outer s H vs Q E hr h => ?_)
  · obtain ⟨v, P, rfl, _⟩ := h
    rfl
  · obtain ⟨v, P, rfl, ⟨t, a, b, c, d, pa, xb, xc, xd, rfl, ht, pc⟩, nd, hl1, hl2, hl3, q⟩ := h
    have hc := pc.hc
    have hd := pc.hd
    have kn : ((P.boxes.map fun b => (sBox, b.1)) ++ P.goings.map fun g => (sGo, g.1)).Nodup := nd
    rw [List.nodup_append] at kn
    refine ⟨_, (pss_cons (ps_asg (pe_slice sl_tup (pv 0) (po_some pe_int) po_none) (pg_tup (by rfl) (pgs_cons (pg_name (i := 1) sc_holdings.nd rfl (.inl rfl)) (pgs_cons (pg_name (i := 2) sc_holdings.nd rfl (.inl rfl)) pgs_nil))))
      (pss_cons (Wtc.ps_setDcT (i := 3) (own := [("b", 5), ("worth", 6)]) (hu_of hr) rfl sc_holdings.nd rfl rfl (Wv.sw_dict rfl rfl rfl (by decide +kernel)) (pi_list (pv 2)) (blkOk_by (N := ["picture", "goings", "boxes", "table", "row", "b", "worth"]) (sc := defScope s_holdings) (by decide +kernel)) (fun _ _ _ => ⟨(show PG _ _ (gTup K 2 _) from pg_tup (by rfl) (pgs_cons (pg_name (i := 5) sc_holdings.nd rfl (Or.inl rfl)) (pgs_cons (pg_name (i := 6) sc_holdings.nd rfl (Or.inl rfl)) pgs_nil))), pts_nil, (pe_tup (pa_cons pe_str (pa_cons (pv 5) pa_nil))), (pe_call G_things_of (hr.mono (by decide)) (by rfl) T.g_things_of T.F_things_of.kp T.b_things_of .nil pass0 (pa_cons (pe_lst (pa_cons (pv 6) pa_nil)) pa_nil))⟩))
      (pss_cons (ps_for PassesOwn.never rfl (pi_list (pv 1)) (pg_name (i := 4) sc_holdings.nd rfl (.inl rfl)) (pss_one (ps_dput (hu_of hr) (pv 3) (pe_tup (pa_cons pe_str (pa_cons (pe_ix ix_tup (pv 4) pe_int (fun _ _ => rfl)) pa_nil))) (pe_call G_things_of (hr.mono (by decide)) (by rfl) T.g_things_of T.F_things_of.kp T.b_things_of .nil pass0 (pa_cons (pe_ix ix_tup (pv 4) pe_int (fun _ _ => rfl)) pa_nil)) rfl)))
      (pss_one (ps_ret (pv 3)))))), ?_⟩
    rw [show L2.start ["picture", "goings", "boxes", "table", "row", "b", "worth"] [.ref t] = [some (.ref t), none, none, none, none, none, none] from rfl]
    try dsimp only [cxOf]
    walk_at "wp"
    refine ⟨t, _, rfl, SqT.of ht, fun e => absurd (show HT.sIx 4 0 (some 2) = 0 from e.1) (by decide), fun p hp => ?_⟩
    have sp := same_new (o := .tup [.ref c, .ref d]) hp
    rw [show cutV [V.ref a, V.ref b, V.ref c, V.ref d] (some 2) none = [V.ref c, V.ref d] from rfl]
    have hp1 : upd H p (.tup [.ref c, .ref d]) p = some (.tup [.ref c, .ref d]) := upd_same
    generalize upd H p (.tup [.ref c, .ref d]) = H1 at sp hp1
    walk_at "wp"
    refine ⟨⟨_, SqL.of (sp _ _ hd)⟩, fun D hD => ?_⟩
    have hD0 : H D = none := by
      cases e : H D with
      | none => rfl
      | some o => rw [sp _ _ e] at hD; cases hD
    have sD : Same H (upd H1 D (.dT [])) := sp.trans (same_new hD)
    have bl := Paired.length pc.boxes
    refine Wtc.loopDL (xs := xd) (fun j H' => Same H H' ∧ ∃ kvs, H' D = some (.dT kvs) ∧ Tab H' kvs ((P.boxes.take j).map fun b => ((sBox, b.1), thingsM [b.2]))) ⟨sD, [], upd_same, .nil⟩ (fun j H' hj h => SqL.of (h.1 _ _ hd)) ?_ ?_
    · rintro j x H4 hx ⟨s4, kvs, hD4, tb4⟩
      obtain ⟨bp, hbp, hpt⟩ := pair_at1 pc.boxes hx
      obtain ⟨t1, v1, rfl, ht1, hv1⟩ := hpt.keep (Same.tk s4)
      have jl : j < P.boxes.length := (List.getElem?_eq_some_iff.mp hbp).1
      walk_at "wp"
      rename_i k0 hk0 l0 hl0
      have sk := same_new (o := .tup [.str "box", .int bp.1]) hk0
      have sl := sk.trans (same_new (o := .lst [v1]) hl0)
      refine ⟨l0, _, [bp.2], rfl, SqL.of upd_same, (Pile.one hv1).keep (Same.tk sl), by simp, fun p1 ys H6 hp1' hp6 py s6 => ?_⟩
      have s46 := sl.trans s6
      have hD6 := s46 _ _ hD4
      have nk : ((sBox, bp.1) : W) ∉ ((P.boxes.take j).map fun b => (((sBox, b.1) : W), thingsM [b.2])).map (·.1) := by
        intro m
        rw [List.map_map] at m
        obtain ⟨b2, hb2, e2⟩ := List.mem_map.mp m
        obtain ⟨i2, hi2⟩ := List.mem_iff_getElem?.mp hb2
        have i2j : i2 < j := by
          have := (List.getElem?_eq_some_iff.mp hi2).1
          rw [List.length_take] at this
          omega
        rw [List.getElem?_take_of_lt i2j] at hi2
        have e3 : b2.1 = bp.1 := (Prod.mk.inj e2).2
        have q1 : (P.boxes.map fun b => ((sBox, b.1) : W))[i2]? = some (sBox, bp.1) := by rw [List.getElem?_map, hi2, ← e3] <;> rfl
        have q2 : (P.boxes.map fun b => ((sBox, b.1) : W))[j]? = some (sBox, bp.1) := by rw [List.getElem?_map, hbp] <;> rfl
        have := (List.getElem?_inj (by rw [List.length_map]; omega) kn.1).mp (q1.trans q2.symm)
        omega
      have tb6 := (tb4.keep s46).put (z := (sBox, bp.1)) (v := .ref p1) (ws := thingsM [bp.2]) (H1 := upd H6 D (.dT (kvs ++ [(keyT (sBox, bp.1), .ref p1)]))) (fun l o h => by rw [upd_ne (ne_of h hD6 (by intro q; cases q))]; exact h) (Tk.dT hD6) nk
        ⟨p1, ys, rfl, by rw [upd_ne (ne_of hp6 hD6 (by intro q; cases q))]; exact hp6, py.keep (Tk.dT hD6), by simp⟩
      refine ⟨kvs, keyT (sBox, bp.1), k0, hD6, rfl, s6 _ _ (same_new hl0 _ _ upd_same), ?_, ?_⟩
      · rw [tb4.len, List.length_map, List.length_take]; exact Wb.small (by omega)
      · rw [tb6.1]
        refine ⟨?_, _, upd_same, ?_⟩
        · intro q z hq
          rw [upd_ne (ne_of_none hq hD0)]
          exact s46 _ _ (s4 _ _ hq)
        · rw [List.take_add_one, hbp, List.map_append]
          exact tb6.2
    · rintro H4 ⟨s4, kvs0, hD40, tb40⟩
      rw [bl, List.take_length] at tb40
      walk_at "wp"
      refine ⟨⟨_, SqL.of (s4 _ _ hc)⟩, ?_⟩
      have gl := Paired.length pc.goings
      refine loopL (xs := xc) (fun j σ' H' => ∃ y, σ' = [some (.ref t), some (.ref c), some (.ref d), some (.ref D), y, none, none] ∧ Same H H' ∧ ∃ kvs, H' D = some (.dT kvs) ∧ Tab H' kvs ((P.boxes.map fun b => ((sBox, b.1), thingsM [b.2])) ++ (P.goings.take j).map fun g => ((sGo, g.1), thingsM g.2.2))) ⟨_, rfl, s4, kvs0, hD40, by simpa using tb40⟩ (fun j σ' H' hj h => by obtain ⟨y, _, s, _⟩ := h; exact SqL.of (s _ _ hc)) ?_ ?_
      · rintro j x σ' H5 hx ⟨y, rfl, s5, kvs, hD5, tb5⟩
        obtain ⟨g, hg, hgt⟩ := pair_at1 pc.goings hx
        obtain ⟨t1, l1, vs1, rfl, ht1, hl1', hv1, _⟩ := hgt.keep (Ks.same s5)
        have jl : j < P.goings.length := (List.getElem?_eq_some_iff.mp hg).1
        walk_at "wp"
        refine ⟨l1, vs1, g.2.2, rfl, SqL.of hl1', hv1, by have := hl3 g (List.mem_of_getElem? hg); omega, fun p1 ys H6 hp1' hp6 py s6 => ?_⟩
        have ht6 := s6 _ _ ht1
        walk_at "wp"
        rename_i k0 hk0
        have sk := same_new (o := .tup [.str "go", .int g.1]) hk0
        have s56 := s6.trans sk
        have hD6 := s56 _ _ hD5
        have nk : ((sGo, g.1) : W) ∉ ((P.boxes.map fun b => (((sBox, b.1) : W), thingsM [b.2])) ++ (P.goings.take j).map fun g => (((sGo, g.1) : W), thingsM g.2.2)).map (·.1) := by
          intro m
          rw [List.map_append, List.map_map, List.map_map] at m
          rcases List.mem_append.mp m with m | m
          · obtain ⟨b2, hb2, e2⟩ := List.mem_map.mp m
            exact box_go (Prod.mk.inj e2).1
          · obtain ⟨b2, hb2, e2⟩ := List.mem_map.mp m
            obtain ⟨i2, hi2⟩ := List.mem_iff_getElem?.mp hb2
            have i2j : i2 < j := by
              have := (List.getElem?_eq_some_iff.mp hi2).1
              rw [List.length_take] at this
              omega
            rw [List.getElem?_take_of_lt i2j] at hi2
            have e3 : b2.1 = g.1 := (Prod.mk.inj e2).2
            have q1 : (P.goings.map fun b => ((sGo, b.1) : W))[i2]? = some (sGo, g.1) := by rw [List.getElem?_map, hi2, ← e3] <;> rfl
            have q2 : (P.goings.map fun b => ((sGo, b.1) : W))[j]? = some (sGo, g.1) := by rw [List.getElem?_map, hg] <;> rfl
            have := (List.getElem?_inj (by rw [List.length_map]; omega) kn.2.1).mp (q1.trans q2.symm)
            omega
        have tb6 := (tb5.keep s56).put (z := (sGo, g.1)) (v := .ref p1) (ws := thingsM g.2.2) (H1 := upd (upd H6 k0 (.tup [.str "go", .int g.1])) D (.dT (kvs ++ [(keyT (sGo, g.1), .ref p1)]))) (fun l o h => by rw [upd_ne (ne_of h hD6 (by intro q; cases q))]; exact h) (Tk.dT hD6) nk
          ⟨p1, ys, rfl, by rw [upd_ne (ne_of (sk _ _ hp6) hD6 (by intro q; cases q))]; exact sk _ _ hp6, (py.keep (Same.tk sk)).keep (Tk.dT hD6), by simp⟩
        refine ⟨D, _, rfl, DPut.t (k := keyT (sGo, g.1)) hD6 upd_same ?_, ?_⟩
        · rw [tb5.len, List.length_append, List.length_map, List.length_map, List.length_take]; exact Wb.small (by omega)
        · rw [tb6.1]
          refine ⟨_, rfl, ?_, _, upd_same, ?_⟩
          · intro q z hq
            rw [upd_ne (ne_of_none hq hD0)]
            exact s56 _ _ (s5 _ _ hq)
          · rw [List.take_add_one, hg, List.map_append, ← List.append_assoc]
            exact tb6.2
      · rintro σ' H5 ⟨y, rfl, s5, kvs, hD5, tb5⟩
        rw [gl, List.take_length] at tb5
        walk_at "wp"
        exact q D kvs H5 hD0 hD5 tb5 s5

def spThings : Sp := fun vs H Q _ => ∃ (v : V) (P : Pic), vs = [v] ∧ IsPic [] H v P ∧ P.things.Nodup ∧ P.boxes.length ≤ 400 ∧ P.goings.length ≤ 400 ∧ (∀ g ∈ P.goings, g.2.2.length ≤ 900) ∧ ∀ p ys H', H p = none → H' p = some (.lst ys) → Pile H' ys P.things → Same H H' → Q (.ref p) H'
theorem ok_things (T : Txt P w K mg) : FnOk P w K mg base CX0 4 T.f_things T.fd_things ["picture"] spThings := by
  have G_holdings := ok_holdings (base := base) T
  refine T.F_things.ok sc_things (fun vs H Q E h => ?_) (fun cdv A outer s H vs Q E hr h => ?_)
  · obtain ⟨v, P, rfl, _⟩ := h
    rfl
  · obtain ⟨v, P, rfl, hP, nd, l1, l2, l3, q⟩ := h
    refine ⟨_, (pss_one (ps_ret (pe_callTy (call_list_dT rfl) (by rfl) T.n_list (by decide +kernel) (pa_cons (pe_call G_holdings (hr.mono (by decide)) (by rfl) T.g_holdings T.F_holdings.kp T.b_holdings .nil pass0 (pa_cons (pv 0) pa_nil)) pa_nil)))), ?_⟩
    rw [show L2.start ["picture"] [v] = [some v] from rfl]
    try dsimp only [cxOf]
    walk_at "wp"
    refine ⟨v, P, rfl, hP, nd, l1, l2, l3, fun d kvs H1 hd hd1 tb1 s1 => ?_⟩
    have ky1 : Keyed kvs P.things := by
      show kvs.map (·.1) = _
      rw [tb1.keys, ← table_keys, List.map_map] <;> rfl
    refine ⟨d, _, rfl, .inl hd1, fun p bs hp hk => ?_⟩
    have s2 := same_new (o := .lst (bs.map V.ref)) hp
    walk_at "wp"
    exact q p _ _ (s1.free hp) upd_same ((Wfa.keyed_pile ky1 hk).keep (Same.tk s2)) (s1.trans s2)

def IsRowT (H : Hp) (x : V) (z : W) : Prop := ∃ t k v, x = .ref t ∧ H t = some (.tup [k, v]) ∧ IsW H v z
theorem IsRowT.keep {H H' : Hp} {x : V} {z : W} (h : IsRowT H x z) (k : Tk H H') : IsRowT H' x z := by
  obtain ⟨t, y, v, e, h1, h2⟩ := h
  exact ⟨t, y, v, e, k _ _ h1, h2.keep k⟩
theorem peg_rows {H : Hp} : ∀ {xs : List V} {ps : List (Str × W)}, Paired (IsPegT H) xs ps → Paired (IsRowT H) xs (ps.map (·.2))
  | _, _, .nil => .nil
  | _, _, .cons ⟨t, v, e, h1, h2⟩ r => .cons ⟨t, _, v, e, h1, h2⟩ (peg_rows r)
theorem box_rows {H : Hp} : ∀ {xs : List V} {ps : List (Int × W)}, Paired (IsBoxT H) xs ps → Paired (IsRowT H) xs (ps.map (·.2))
  | _, _, .nil => .nil
  | _, _, .cons ⟨t, v, e, h1, h2⟩ r => .cons ⟨t, _, v, e, h1, h2⟩ (box_rows r)
def spWorthsOf : Sp := fun vs H Q _ => ∃ (v : V) (P : Pic), vs = [v] ∧ IsPic [] H v P ∧ Wow.Mid 400 P ∧ ∀ p ys H', H p = none → H' p = some (.lst ys) → Pile H' ys P.worths → Same H H' → Q (.ref p) H'
theorem ok_worths_of (T : Txt P w K mg) : FnOk P w K mg base CX0 1 T.f_worths_of T.fd_worths_of ["picture"] spWorthsOf := by
  refine T.F_worths_of.ok sc_worths_of (fun vs H Q E h => ?_) (fun cdv A outer s H vs Q E hr h => ?_)
  · obtain ⟨v, P, rfl, _⟩ := h
    rfl
  · obtain ⟨v, P, rfl, ⟨t, a, b, c, d, pa, xb, xc, xd, rfl, ht, pc⟩, ⟨m1, m2, m3, m4, m5⟩, q⟩ := h
    refine ⟨_, (pss_cons (ps_asg (pv 0) (pg_tup (by rfl) (pgs_cons (pg_name (i := 1) sc_worths_of.nd rfl (.inl rfl)) (pgs_cons (pg_name (i := 2) sc_worths_of.nd rfl (.inl rfl)) (pgs_cons (pg_name (i := 3) sc_worths_of.nd rfl (.inl rfl)) (pgs_cons (pg_name (i := 4) sc_worths_of.nd rfl (.inl rfl)) pgs_nil))))))
      (pss_cons (ps_set (i := 6) sc_worths_of.nd rfl (.inl rfl) (pe_op op_cat (pv 1) (pe_lc (own := [("row", 5)]) rfl sc_worths_of.nd (pi_list (pe_op op_cat (pv 2) (pv 4))) (blkOk_by (N := ["picture", "pile", "pegs", "goings", "boxes", "row", "worths"]) (sc := defScope s_worths_of) (by decide +kernel)) (fun _ _ _ _ _ => pg_name (i := 5) sc_worths_of.nd rfl (Or.inl rfl)) (fun _ _ _ _ _ => pts_nil) (fun _ _ _ _ _ => (pe_ix (show IxR _ (rIxT K) from ix_tup) (pv 5) pe_int (fun _ _ => rfl))))))
      (pss_cons (ps_for PassesOwn.never rfl (pi_list (pv 3)) (pg_name (i := 5) sc_worths_of.nd rfl (.inl rfl)) (pss_one (ps_expr (pe_bm PySem.F.plainAttrs_list PySem.F.slot_list_extend PySem.F.type_list_extend mt_extend (pv 6) (pa_cons (pe_ix ix_tup (pv 5) pe_int (fun _ _ => rfl)) pa_nil)))))
      (pss_one (ps_ret (pv 6)))))), ?_⟩
    rw [show L2.start ["picture", "pile", "pegs", "goings", "boxes", "row", "worths"] [.ref t] = [some (.ref t), none, none, none, none, none, none] from rfl]
    try dsimp only [cxOf]
    have ha := pc.ha
    have hb := pc.hb
    have hc := pc.hc
    have hd := pc.hd
    have pl := pc.pile.len
    have bl := Paired.length pc.pegs
    have dl := Paired.length pc.boxes
    have gl := Paired.length pc.goings
    have k1000 : (100000 : Nat) ≤ sizeLine := by decide
    walk_at "wp"
    refine cat_ hb hd (by omega) (fun l1 hl1 => ?_)
    have s1 := same_new (o := .lst (xb ++ xd)) hl1
    have h1 : upd H l1 (.lst (xb ++ xd)) l1 = some (.lst (xb ++ xd)) := upd_same
    generalize upd H l1 (.lst (xb ++ xd)) = H1 at s1 h1
    have rows : Paired (IsRowT H1) (xb ++ xd) (P.pegs.map (·.2) ++ P.boxes.map (·.2)) := Paired.mapP (pair_app (peg_rows pc.pegs) (box_rows pc.boxes)) fun _ _ q => q.keep (Same.tk s1)
    have rl : (xb ++ xd).length = (P.pegs.map (·.2) ++ P.boxes.map (·.2)).length := Paired.length rows
    have rn : (P.pegs.map (·.2) ++ P.boxes.map (·.2)).length ≤ 400 := by rw [List.length_append, List.length_map, List.length_map]; omega
    walk_at "wp"
    refine ⟨⟨_, SqL.of h1⟩, fun D hD => ?_⟩
    refine loopCL (xs := xb ++ xd) (fun j H' => Same H1 H' ∧ ∃ acc, H' D = some (.lst acc) ∧ Pile H' acc ((P.pegs.map (·.2) ++ P.boxes.map (·.2)).take j)) ⟨same_new hD, [], upd_same, Pile.nil⟩ (fun j H' _ h => SqL.of (h.1 _ _ h1)) ?_ ?_
    · rintro j x H2 hj ⟨s2, acc, h2, p2⟩
      obtain ⟨z, hz, hr⟩ := pair_at1 rows hj
      obtain ⟨t1, k, v1, rfl, ht1, hv1⟩ := hr.keep (Same.tk s2)
      have jl := (List.getElem?_eq_some_iff.mp hz).1
      walk_at "wp"
      refine ⟨acc, h2, by rw [p2.len, List.length_take]; exact Wb.small (by omega), fun a o e => ?_, _, upd_same, ?_⟩
      · rw [upd_ne (ne_of_none e hD)]; exact s2 _ _ e
      · rw [List.take_add_one, hz]
        exact (Pile.app p2 (Pile.one hv1)).keep (Tk.lst h2)
    · rintro H2 ⟨s2, acc, h2, p2⟩
      rw [rl, List.take_length] at p2
      have s12 := s1.trans s2
      walk_at "wp"
      refine cat_ (s12 _ _ ha) h2 (by rw [p2.len]; omega) (fun l3 hl3 => ?_)
      have s3 := s12.trans (same_new (o := .lst (pa ++ acc)) hl3)
      have h3 : upd H2 l3 (.lst (pa ++ acc)) l3 = some (.lst (pa ++ acc)) := upd_same
      have p3 : Pile (upd H2 l3 (.lst (pa ++ acc))) (pa ++ acc) (P.pile ++ (P.pegs.map (·.2) ++ P.boxes.map (·.2))) := (Pile.app (pc.pile.keep (Same.tk s12)) p2).keep (Same.tk (same_new hl3))
      have f3 : H l3 = none := s12.free hl3
      generalize upd H2 l3 (.lst (pa ++ acc)) = H3 at s3 h3 p3
      walk_at "wp"
      refine ⟨⟨_, SqL.of (s3 _ _ hc)⟩, loopL (xs := xc) (fun j σ' H' => ∃ y ys, σ' = [some (.ref t), some (.ref a), some (.ref b), some (.ref c), some (.ref d), y, some (.ref l3)] ∧ Same H H' ∧ H' l3 = some (.lst ys) ∧ Pile H' ys (P.pile ++ (P.pegs.map (·.2) ++ P.boxes.map (·.2)) ++ (P.goings.take j).flatMap (·.2.2))) ⟨_, _, rfl, s3, h3, by simpa using p3⟩ (fun j σ' H' _ h => by obtain ⟨_, _, _, s, _⟩ := h; exact SqL.of (s _ _ hc)) ?_ ?_⟩
      · rintro j x σ' H4 hj ⟨y, ys, rfl, s4, h4, p4⟩
        obtain ⟨g, hg, gg⟩ := pair_at1 pc.goings hj
        obtain ⟨tg, lg, vg, rfl, htg, hlg, pg, _⟩ := gg.keep (Ks.same s4)
        have jl := (List.getElem?_eq_some_iff.mp hg).1
        have gm := m5 g (List.mem_of_getElem? hg)
        walk_at "wp"
        have fl := Wfa.flat_len (l := P.goings.take j) (g := fun g : Int × Int × List W => g.2.2) (c := 400) fun a ha => m5 a (List.mem_of_mem_take ha)
        rw [List.length_take] at fl
        refine Wfa.ext_ h4 hlg ?_ ?_
        · rw [p4.len, pg.len, List.length_append, List.length_append]
          have : min j P.goings.length * 400 ≤ 200 * 400 := Nat.mul_le_mul_right _ (by omega)
          omega
        · refine ⟨_, _, rfl, fun a o e => ?_, upd_same, ?_⟩
          · rw [upd_ne (ne_of_none e f3)]; exact s4 _ _ e
          · rw [List.take_add_one, hg, List.flatMap_append, ← List.append_assoc]
            refine (Pile.app p4 ?_).keep (Tk.lst h4)
            show Pile H4 vg ([g].flatMap _)
            rw [List.flatMap_cons, List.flatMap_nil, List.append_nil]
            exact pg
      · rintro σ' H4 ⟨y, ys, rfl, s4, h4, p4⟩
        rw [gl, List.take_length] at p4
        walk_at "wp"
        exact q l3 ys H4 f3 h4 p4 s4
theorem eqvAll_ws : ∀ (xs ys : List W), PyData.eqvAll (xs.map wD) (ys.map wD) = decide (xs = ys)
  | [], [] => by simp [PyData.eqvAll]
  | [], _ :: _ => by simp [PyData.eqvAll]
  | _ :: _, [] => by simp [PyData.eqvAll]
  | x :: xs, y :: ys => by
    rw [List.map_cons, List.map_cons]
    simp only [PyData.eqvAll]
    rw [wD_eqv, eqvAll_ws xs ys]
    by_cases e : x = y
    · subst e; simp
    · simp [e]
theorem eqv_ws (xs ys : List W) : PyData.eqv (.list (xs.map wD)) (.list (ys.map wD)) = decide (xs = ys) := by
  simp only [PyData.eqv]
  exact eqvAll_ws xs ys
def spIsPicture : Sp := fun vs H Q _ => ∃ (v : V) (P : Pic), vs = [v] ∧ IsPic [] H v P ∧ Wip.PicW P ∧ Wow.Mid 400 P ∧ ∀ b H', (b = true ↔ Wip.Closed P) → Same H H' → Q (.bl b) H'
theorem ok_is_picture (T : Txt P w K mg) : FnOk P w K mg base CX0 5 T.f_is_picture T.fd_is_picture ["thing"] spIsPicture := by
  have G_is_pile := ok_is_pile (base := base) T
  have G_are_pegs := ok_are_pegs (base := base) T
  have G_are_goings := ok_are_goings (base := base) T
  have G_are_boxes := ok_are_boxes (base := base) T
  have G_worths_of := ok_worths_of (base := base) T
  have G_things_of := ok_things_of (base := base) T
  have G_things := ok_things (base := base) T
  refine T.F_is_picture.ok sc_is_picture (fun vs H Q E h => ?_) (fun cdv A outer s H vs Q E hr h => ?_)
  · obtain ⟨v, P, rfl, _⟩ := h
    rfl
  · obtain ⟨v, P, rfl, hP, pw, sm, q⟩ := h
    refine ⟨_, (pss_cons (ps_if (PW.pt (pw_or (pt_cmpR op_notTyB (pe_callTy call_type1 (by rfl) T.n_type (by decide +kernel) (pa_cons (pv 0) pa_nil)) (pe_bltn (v := .ty "tuple") (by rfl) T.n_tuple (by decide +kernel) rfl) (nomark _)) (pw_or1 (pt_cmpR op_ne (pe_callB call_len_seq (by rfl) T.n_len (by decide +kernel) (pa_cons (pv 0) pa_nil)) pe_int (nomark _))))) (pss_one (ps_ret pe_bl)) pss_nil)
      (pss_cons (ps_asg (pv 0) (pg_tup (by rfl) (pgs_cons (pg_name (i := 1) sc_is_picture.nd rfl (.inl rfl)) (pgs_cons (pg_name (i := 2) sc_is_picture.nd rfl (.inl rfl)) (pgs_cons (pg_name (i := 3) sc_is_picture.nd rfl (.inl rfl)) (pgs_cons (pg_name (i := 4) sc_is_picture.nd rfl (.inl rfl)) pgs_nil))))))
      (pss_cons (ps_if (pt_not (PW.pt (pw_and (pt_val (pe_call G_is_pile (hr.mono (by decide)) (by rfl) T.g_is_pile T.F_is_pile.kp T.b_is_pile .nil pass0 (pa_cons (pv 1) pa_nil))) (pw_and (pt_val (pe_call G_are_pegs (hr.mono (by decide)) (by rfl) T.g_are_pegs T.F_are_pegs.kp T.b_are_pegs .nil pass0 (pa_cons (pv 2) pa_nil))) (pw_and (pt_val (pe_call G_are_goings (hr.mono (by decide)) (by rfl) T.g_are_goings T.F_are_goings.kp T.b_are_goings .nil pass0 (pa_cons (pv 3) pa_nil))) (pw_and1 (pt_val (pe_call G_are_boxes (hr.mono (by decide)) (by rfl) T.g_are_boxes T.F_are_boxes.kp T.b_are_boxes .nil pass0 (pa_cons (pv 4) pa_nil))))))))) (pss_one (ps_ret pe_bl)) pss_nil)
      (pss_one (ps_ret (pe_cmpR (op_eqD hr.units) (pe_callB (Ws.cr_sortD hr.units) (by rfl) T.n_sorted (by decide +kernel) (pa_cons (pe_call G_things_of (hr.mono (by decide)) (by rfl) T.g_things_of T.F_things_of.kp T.b_things_of .nil pass0 (pa_cons (pe_call G_worths_of (hr.mono (by decide)) (by rfl) T.g_worths_of T.F_worths_of.kp T.b_worths_of .nil pass0 (pa_cons (pv 0) pa_nil)) pa_nil)) pa_nil)) (pe_call G_things (hr.mono (by decide)) (by rfl) T.g_things T.F_things.kp T.b_things .nil pass0 (pa_cons (pv 0) pa_nil)) (nomark _))))))), ?_⟩
    obtain ⟨t, a, b, c, d, pa, xb, xc, xd, rfl, ht, pc⟩ := id hP
    obtain ⟨m1, m2, m3, m4, m5⟩ := id sm
    rw [show L2.start ["thing", "pile", "pegs", "goings", "boxes"] [.ref t] = [some (.ref t), none, none, none, none] from rfl]
    try dsimp only [cxOf]
    have wkz : ∀ {z : W}, Wk z → Wok z := fun {z} h => by
      show PyData.strOk z.1 = true
      rcases h with ⟨h | h, _⟩ | ⟨h, _⟩ | h <;> rw [h] <;> decide +kernel
    walk_at "wp"
    refine iteN (fun e => absurd rfl e) (fun _ => ?_)
    walk_at "wp"
    refine iteN (fun e => absurd rfl e) (fun _ => ?_)
    walk_at "wp"
    refine ⟨a, pa, P.pile, rfl, pc.ha, pc.pile, fun z hz => pw.words z (mem_worths_pile hz), by omega, fun H1 s1 => ?_⟩
    have pc1 := pc.keep (Ks.same s1)
    walk_at "wp"
    refine ⟨b, xb, P.pegs, rfl, pc1.hb, pc1.pegs, fun p hp => ⟨pw.names p hp, pw.words _ (mem_worths_peg hp)⟩, pw.pegUp, by omega, fun H2 s2 => ?_⟩
    have pc2 := pc1.keep (Ks.same s2)
    walk_at "wp"
    refine ⟨c, xc, P.goings, rfl, pc2.hc, pc2.goings, fun g hg => ⟨(pw.goNat g hg).1, (pw.goNat g hg).2, fun z hz => pw.words z (mem_worths_go hg hz), by have := m5 g hg; omega⟩, pw.goUp, by omega, fun H3 s3 => ?_⟩
    have pc3 := pc2.keep (Ks.same s3)
    walk_at "wp"
    refine ⟨d, xd, P.boxes, rfl, pc3.hd, pc3.boxes, fun p hp => ⟨pw.boxNat p hp, pw.words _ (mem_worths_box hp)⟩, pw.boxUp, by omega, fun H4 s4 => ?_⟩
    have s14 := s1.trans (s2.trans (s3.trans s4))
    have hP4 := hP.keep (Ks.same s14)
    clear pc1 pc2 pc3 s1 s2 s3 s4
    walk_at "wp"
    refine ⟨.ref t, P, rfl, hP4, sm, fun p5 ys5 H5 _ h5 py5 s5 => ?_⟩
    have wl : P.worths.length ≤ 900000 := by
      show (P.pile ++ (P.pegs.map (·.2) ++ P.boxes.map (·.2)) ++ P.goings.flatMap (·.2.2)).length ≤ _
      have fl := Wfa.flat_len (l := P.goings) (g := fun g : Int × Int × List W => g.2.2) (c := 400) fun a ha => m5 a ha
      rw [List.length_append, List.length_append, List.length_append, List.length_map, List.length_map]
      have : P.goings.length * 400 ≤ 200 * 400 := Nat.mul_le_mul_right _ m3
      omega
    walk_at "wp"
    refine ⟨p5, ys5, P.worths, rfl, SqL.of h5, py5, wl, fun p6 ys6 H6 _ h6 py6 s6 => ?_⟩
    walk_at "wp"
    have tok : ∀ z ∈ thingsM P.worths, Wok z := fun z hz => wkz (pw.words z (mem_things.mp hz).1)
    refine Wip.sort_ws py6 things_nodup tok rfl (SqL.of h6) (fun p7 ys7 zs hp7 perm py7 up => ?_)
    have s7 := same_new (o := .lst ys7) hp7
    have h7 : upd H6 p7 (.lst ys7) p7 = some (.lst ys7) := upd_same
    have py7 := py7.keep (Same.tk s7)
    generalize upd H6 p7 (.lst ys7) = H7 at s7 h7 py7
    have s47 := s5.trans (s6.trans s7)
    walk_at "wp"
    refine ⟨.ref t, P, rfl, hP4.keep (Ks.same s47), Wip.up_nodup (Wip.things_up pw.goUp pw.boxUp), by omega, by omega, fun g hg => by have := m5 g hg; omega, fun p8 ys8 H8 _ h8 py8 s8 => ?_⟩
    walk_at "wp"
    refine ⟨_, _, (py7.keep (Same.tk s8)).dp (K := K) (SqL.of (s8 _ _ h7)), py8.dp (K := K) (SqL.of h8), wDs_shaped fun z hz => tok z (perm.mem_iff.mp hz), wDs_shaped fun z hz => things_wok z hz, ?_⟩
    rw [eqv_ws]
    exact q _ H8 (by rw [decide_eq_true_eq]; exact Wip.sorted_iff pw perm up) (s14.trans (s47.trans s8))

end
end K15

namespace K15
open PySem PySem.Spec PyProof.Rows L2 Wp Wq Wr Wpm Wpn Wth
local macro_rules | `(tactic| walk_at "ne") => `(tactic| first
  | assumption
  | (refine Ne.symm ?_; assumption)
  | exact ne_of_none (by assumption) (by assumption)
  | exact (ne_of_none (by assumption) (by assumption)).symm
  | exact ne_of (by assumption) (by assumption) (by intro q; cases q))
local macro_rules | `(tactic| walk_at "hp") => `(tactic| first
  | assumption
  | exact upd_same
  | (refine (upd_ne ?_).trans ?_; (walk_at "ne"); (walk_at "hp")))
local macro_rules | `(tactic| walk_at "hq") => `(tactic| first
  | assumption
  | exact upd_same
  | (refine same_new (by assumption) _ _ ?_; (walk_at "hq"))
  | (refine Wp.look (by assumption) ?_; (walk_at "hq")))
local macro_rules | `(tactic| walk_at "sm") => `(tactic| first
  | assumption
  | exact fun _ _ h => h
  | exact same_new (by assumption)
  | (refine Same.trans ?_ (same_new (by assumption)); (walk_at "sm"))
  | (refine Same.trans ?_ (by assumption); (walk_at "sm")))
local macro_rules | `(tactic| walk_at "kp") => `(tactic| first
  | assumption
  | exact Kp.refl _ _
  | (refine Kp.trans ?_ (Kp.new (by assumption)); (walk_at "kp"))
  | (refine Kp.trans ?_ (Same.kp (by assumption)); (walk_at "kp"))
  | (refine Wp.kpT ?_ (by assumption); (walk_at "kp"))
  | exact Same.kp (by walk_at "sm"))
local macro_rules | `(tactic| walk_at "sq") => `(tactic| first
  | assumption
  | exact SqL.of (by walk_at "hp")
  | exact SqT.of (by walk_at "hp"))
local macro_rules | `(tactic| walk_at "kind") => `(tactic| first
  | assumption
  | exact Kind.int _
  | exact Kind.str _
  | exact Kind.bl _
  | exact Kind.non
  | exact Kind.tup (by walk_at "hp")
  | exact Kind.lst (by walk_at "hp")
  | exact Kind.dK (by walk_at "hp"))
local macro_rules | `(tactic| walk_at "w1") => `(tactic| first
  | (with_reducible refine Wp.seq ?_)
  | (with_reducible refine Wp.nx_mk ?_)
  | (with_reducible refine Wp.rt_mk ?_)
  | (with_reducible refine Wp.bk_mk ?_)
  | (with_reducible refine Wp.ct_mk ?_)
  | (with_reducible refine Wp.next ?_)
  | (with_reducible refine Wp.asg ?_)
  | ((with_reducible refine' Wp.gname ?e ?_); (case e => (try dsimp only [List.set, L2.wipe, List.map_cons, List.map_nil]); (try exact rfl)))
  | (with_reducible refine Wp.gsub ?_)
  | (with_reducible refine Wp.ret ?_)
  | (with_reducible refine Wp.retN ?_)
  | (with_reducible refine Wp.drop ?_)
  | (with_reducible refine Wp.dput ?_)
  | (with_reducible refine Wp.ifs ?_)
  | ((with_reducible refine' Wp.var ?h ?_); (case h => exact rfl))
  | (with_reducible refine Wp.con ?_)
  | (with_reducible refine Wp.op ?_)
  | (with_reducible refine Wp.un ?_)
  | (with_reducible refine Wp.cb ?_)
  | (with_reducible refine Wp.anil ?_)
  | (with_reducible refine Wp.acons ?_)
  | (with_reducible refine Wp.call ?_)
  | (with_reducible refine Wp.test ?_)
  | (with_reducible refine Wp.tb_ ?_)
  | (with_reducible refine Wp.and_ ?_)
  | (with_reducible refine Wp.or_ ?_)
  | (with_reducible refine Wp.not_ ?_)
  | (with_reducible refine Wp.andV ?_)
  | (with_reducible refine Wp.orV ?_)
  | (with_reducible refine Wp.notV ?_)
  | (with_reducible refine Wp.rI0_ ?_)
  | (with_reducible refine Wp.rU_ ?_)
  | ((with_reducible refine Wp.rEq_ ?k ?_); (case k => exact rfl))
  | ((with_reducible refine Wp.rNe_ ?k ?_); (case k => exact rfl))
  | (with_reducible refine Wp.gcons ?_)
  | (with_reducible refine Wp.gnil ?_)
  | ((with_reducible refine' Wp.gtup ?h ?e ?_); (case h => walk_at "sq"); (case e => exact rfl))
  | (with_reducible refine Wp.sl ?_)
  | (with_reducible refine Wp.part ?_)
  | (with_reducible refine Wp.nopart ?_)
  | (with_reducible refine Wp.ifE ?_)
  | (with_reducible refine Wp.bm0 ?_)
  | (with_reducible refine Wp.bm ?_)
  | (with_reducible refine Wp.lcR1 ?_)
  | (with_reducible refine Wp.lcR2 ?_)
  | (with_reducible refine Wp.lcL ?_)
  | (with_reducible refine Wp.chain ?_)
  | (with_reducible refine Wp.lc2V ?_)
  | (with_reducible refine Wp.piL ?_)
  | (with_reducible refine Wp.yes ?_)
  | (with_reducible refine Wp.dinI ?_)
  | (with_reducible refine Wp.dninI ?_)
  | (with_reducible refine Wp.dget ?_)
  | ((with_reducible refine' ⟨?k, ?_⟩); (case k => show L2.wipe _ _ = L2.wipe _ _; exact rfl))
  | ((with_reducible refine' ⟨?k, ?_⟩); (case k => show V.non = V.non; exact rfl))
  | (with_reducible refine Wp.forR1 ?_)
  | (with_reducible refine Wp.forR2 ?_)
  | (with_reducible refine Wp.forL ?_)
  | (with_reducible refine Wp.forT ?_)
  | ((with_reducible refine' ⟨?k, ?_⟩); (case k => exact Wp.tyvL (by walk_at "hp")))
  | ((with_reducible refine' Wp.rev_ ?k ?_); (case k => walk_at "hp"))
  | ((with_reducible refine' Wp.isi ?k ?h ?_); (case k => walk_at "kind"); (case h => decide))
  | ((with_reducible refine' Wp.typ ?k ?_); (case k => walk_at "kind"))
  | (with_reducible refine Wp.slS ?k ?_; (case k => assumption))
  | (with_reducible refine iteT ?_)
  | (with_reducible refine iteF ?_)
  | (with_reducible refine Wtc.dcL ?_)
  | (with_reducible refine Wst.step ?_)
  | (with_reducible refine Wtc.dget2 ?_)
  | (with_reducible refine Wtc.lcZ ?_)
  | (with_reducible refine Wrw.loop_setLc ?_)
  | (with_reducible refine Wz.par ?_)
  | (with_reducible refine Wz.forN ?_)
  | (with_reducible refine Wz.dcL ?_)
  | (with_reducible refine Wz.forZ ?_)
  | (with_reducible refine Wz.lcR3 ?_)
  | (with_reducible refine Wc.revL ?_)
  | (with_reducible refine Wd.nm ?_)
  | (with_reducible refine Wd.nget ?_)
  | ((with_reducible refine Wd.tnew ?_); intro p hp)
  | (with_reducible refine Wd.pikn ?_)
  | (with_reducible refine Wt.m1 ?_)
  | (with_reducible refine Wt.m0 ?_)
  | ((with_reducible refine' ⟨?k, ?_⟩); (case k => show ∃ a, _ = V.str a; exact ⟨_, rfl⟩))
  | (with_reducible refine Wt.js_cons ?_)
  | (with_reducible refine Wt.fmt_ ?_)
  | (with_reducible refine Wp.pcons ?_)
  | (with_reducible refine Wp.pnil ?_)
  | ((with_reducible refine' Wp.iteBnT ?h ?_); (case h => show isB _ _ = false; decide))
  | ((with_reducible refine' Wp.iteBnF ?h ?_); (case h => show isB _ _ = true; decide))
  | ((with_reducible refine' Wp.iteBt ?h ?_); (case h => show isB _ _ = true; decide))
  | ((with_reducible refine' Wp.iteBf ?h ?_); (case h => show isB _ _ = false; decide))
  | (with_reducible refine Wp.iteT' ?_)
  | (with_reducible refine Wp.iteF' ?_)
  | (with_reducible refine Wp.rNT_ ?_)
  | ((with_reducible refine Wp.lst ?_))
  | ((with_reducible refine Wp.tup ?_))
  | ((with_reducible refine' Wp.ixL ?h ?e ?_); (case h => walk_at "sq"); (case e => exact rfl))
  | ((with_reducible refine' Wp.ixT ?h ?e ?_); (case h => walk_at "sq"); (case e => exact rfl))
  | ((with_reducible refine' Wp.setL ?h ?e ?_); (case h => walk_at "hp"); (case e => exact rfl))
  | ((with_reducible refine Wp.rI_ ?k ?_); (case k => first | (show (0:Int) < _; omega) | (show CPow _ _; refine' ⟨?_, ?_, ?_⟩ <;> omega) | (show CDiv _ _; refine' ⟨?_, ?_⟩ <;> omega) | (show CMul _ _; refine' Or.inl ⟨?_, ?_⟩ <;> omega) | (show CMul _ _; refine' Or.inr ⟨?_, ?_⟩ <;> first | omega | decide) | (show CDivW _ _; refine' wide_div (b := 240) ?_ ?_ ?_ ?_ <;> first | omega | decide)))
  | ((with_reducible refine ⟨?k, ?_⟩); (case k => first | exact Nat.zero_le _ | (exact Nat.le_of_ble_eq_true rfl)); intro p hp)
  | ((with_reducible refine' ⟨_, _, rfl, .inl ?k, ?_⟩); (case k => walk_at "sq"))
  | ((with_reducible refine' ⟨_, _, rfl, .inr ?k, ?_⟩); (case k => walk_at "sq"))
  | (with_reducible refine ⟨_, rfl, ?_⟩)
  | (with_reducible refine ⟨_, _, rfl, rfl, ?_⟩)
  | (with_reducible refine ⟨_, _, rfl, ?_⟩))
local macro_rules | `(tactic| walk_at "wp") => `(tactic| repeat (walk_at "w1"))

section
variable {P : Program} {w : World} {K : PySem.W.Frag} {mg : Str → Option Value} {base : Heap}
def spLCopy : Sp := fun vs H Q _ => ∃ (v : V) (P : Pic), vs = [v] ∧ IsPic [] H v P ∧ P.goings.length ≤ 400 ∧ ∀ t a b c d gs H', H' t = some (.tup [.ref a, .ref b, .ref c, .ref d]) → Wow.OwnAt H' a b c d gs P → (∀ x ∈ a :: b :: c :: d :: gs.map (·.2), H x = none) → Same H H' → Q (.ref t) H'
theorem ok_lcopy (T : Txt P w K mg) : FnOk P w K mg base CX0 1 T.f_lcopy T.fd_lcopy ["picture"] spLCopy := by
  refine T.F_lcopy.ok sc_lcopy (fun vs H Q E h => ?_) (fun cdv A outer s H vs Q E hr h => ?_)
  · obtain ⟨v, P, rfl, _⟩ := h
    rfl
  · obtain ⟨v, P, rfl, ⟨t, a, b, c, d, pa, xb, xc, xd, rfl, ht, pc⟩, hl, q⟩ := h
    have ha := pc.ha
    have hb := pc.hb
    have hc := pc.hc
    have hd := pc.hd
    refine ⟨_, (pss_cons (ps_asg (pv 0) (pg_tup (by rfl) (pgs_cons (pg_name (i := 1) sc_lcopy.nd rfl (.inl rfl)) (pgs_cons (pg_name (i := 2) sc_lcopy.nd rfl (.inl rfl)) (pgs_cons (pg_name (i := 3) sc_lcopy.nd rfl (.inl rfl)) (pgs_cons (pg_name (i := 4) sc_lcopy.nd rfl (.inl rfl)) pgs_nil))))))
      (pss_one (ps_ret (pe_tup (pa_cons (pe_callTy call_list_of (by rfl) T.n_list (by decide +kernel) (pa_cons (pv 1) pa_nil)) (pa_cons (pe_callTy call_list_of (by rfl) T.n_list (by decide +kernel) (pa_cons (pv 2) pa_nil)) (pa_cons (pe_lc (own := [("g", 5), ("place", 6), ("row", 7)]) rfl sc_lcopy.nd (pi_list (pv 3)) (blkOk_by (N := ["picture", "pile", "pegs", "goings", "boxes", "g", "place", "row"]) (sc := defScope s_lcopy) (by decide +kernel)) (fun _ _ _ _ _ => (show PG _ _ (gTup K 3 _) from pg_tup (by rfl) (pgs_cons (pg_name (i := 5) sc_lcopy.nd rfl (Or.inl rfl)) (pgs_cons (pg_name (i := 6) sc_lcopy.nd rfl (Or.inl rfl)) (pgs_cons (pg_name (i := 7) sc_lcopy.nd rfl (Or.inl rfl)) pgs_nil))))) (fun _ _ _ _ _ => pts_nil) (fun _ _ _ _ _ => (pe_tup (pa_cons (pv 5) (pa_cons (pv 6) (pa_cons (pe_callTy (show CallR _ _ (Wp.rListS K) from Wp.call_listS) (by rfl) T.n_list (by decide +kernel) (pa_cons (pv 7) pa_nil)) pa_nil)))))) (pa_cons (pe_callTy call_list_of (by rfl) T.n_list (by decide +kernel) (pa_cons (pv 4) pa_nil)) pa_nil)))))))), ?_⟩
    rw [show L2.start ["picture", "pile", "pegs", "goings", "boxes", "g", "place", "row"] [.ref t] = [some (.ref t), none, none, none, none, none, none, none] from rfl]
    try dsimp only [cxOf]
    walk_at "wp"
    intro la hla
    have s1 := same_new (o := .lst pa) hla
    have hb1 := s1 _ _ hb
    walk_at "wp"
    intro lb hlb
    have s2 := s1.trans (same_new (o := .lst xb) hlb)
    have hc2 := s2 _ _ hc
    walk_at "wp"
    refine ⟨⟨_, SqL.of hc2⟩, fun D hD => ?_⟩
    have new : ∀ {x : Addr} {Hx : Hp}, Same H Hx → Hx x = none → H x = none := fun {x Hx} s h => by
      cases e : H x with
      | none => rfl
      | some o => rw [s _ _ e] at h; cases h
    have hlA : upd (upd H la (.lst pa)) lb (.lst xb) la = some (.lst pa) := same_new hlb _ _ upd_same
    have hlB : upd (upd H la (.lst pa)) lb (.lst xb) lb = some (.lst xb) := upd_same
    have hlb0 : H lb = none := new s1 hlb
    have hab : ¬ la = lb := fun e => by rw [← e, upd_same] at hlb; cases hlb
    clear hlb hb1
    generalize upd (upd H la (.lst pa)) lb (.lst xb) = H2 at s2 hc2 hD hlA hlB
    have hD0 := new s2 hD
    refine loopCL (fun j H' => Same H2 H' ∧ ∃ xs gs, H' D = some (.lst xs) ∧ xs.length = j ∧ Paired (Wow.IsGoA H') xs gs ∧ gs.map (·.1) = P.goings.take j ∧ (gs.map (·.2)).Nodup ∧ ∀ l ∈ gs.map (·.2), H2 l = none ∧ l ≠ D ∧ H' l ≠ none) ⟨same_new hD, [], [], upd_same, rfl, .nil, rfl, .nil, fun _ h => nomatch h⟩ (fun j H' hj h => SqL.of (h.1 _ _ hc2)) ?_ ?_
    · rintro j x H4 hx ⟨s4, xs, gs, hD4, xl, p4, e4, nd4, f4⟩
      obtain ⟨g, hg, hgt⟩ := pair_at1 pc.goings hx
      obtain ⟨t1, l1, vs1, rfl, ht1, hl1, hv1, _⟩ := hgt.keep (Ks.same (s2.trans s4))
      have jl : j < P.goings.length := (List.getElem?_eq_some_iff.mp hg).1
      walk_at "wp"
      refine Wp.listS_ (SqL.of hl1) (fun l2 hl2 => ?_)
      walk_at "wp"
      rename_i t2 ht2
      have s5 := (same_new (o := .lst vs1) hl2).trans (same_new (o := .tup [.int g.1, .int g.2.1, .ref l2]) ht2)
      have hD5 := s5 _ _ hD4
      have hl5 : upd (upd H4 l2 (.lst vs1)) t2 (.tup [.int g.1, .int g.2.1, .ref l2]) l2 = some (.lst vs1) := same_new ht2 _ _ upd_same
      have ht5 : upd (upd H4 l2 (.lst vs1)) t2 (.tup [.int g.1, .int g.2.1, .ref l2]) t2 = some (.tup [.int g.1, .int g.2.1, .ref l2]) := upd_same
      have l2D : l2 ≠ D := fun e => by rw [e, hD4] at hl2; cases hl2
      have l20 : H2 l2 = none := s4.free hl2
      have kD : Ks [D] (upd (upd H4 l2 (.lst vs1)) t2 (.tup [.int g.1, .int g.2.1, .ref l2])) (upd (upd (upd H4 l2 (.lst vs1)) t2 (.tup [.int g.1, .int g.2.1, .ref l2])) D (.lst (xs ++ [.ref t2]))) := Ks.upd hD5 List.mem_cons_self
      refine ⟨xs, hD5, Wb.small (by omega), ?_, _, gs ++ [(g, l2)], upd_same, by rw [List.length_append, xl] <;> rfl, ?_, ?_, ?_, ?_⟩
      · intro q z hq
        rw [upd_ne (ne_of_none hq hD)]
        exact s5 _ _ (s4 _ _ hq)
      · have one : Wow.IsGoA (upd (upd H4 l2 (.lst vs1)) t2 (.tup [.int g.1, .int g.2.1, .ref l2])) (.ref t2) (g, l2) := ⟨t2, vs1, rfl, ht5, hl5, hv1.keep (Same.tk s5)⟩
        exact Wpk.paired_snoc (Wow.gos_keep (Wow.gos_keep p4 (Ks.same s5 (S := [])) fun _ _ => by simp) kD fun l hl => by
          rw [List.mem_singleton]; exact (f4 l hl).2.1) (one.keep kD (by rw [List.mem_singleton]; exact l2D))
      · rw [List.map_append, e4, List.take_add_one, hg]; rfl
      · rw [List.map_append, List.nodup_append]
        refine ⟨nd4, by simp, fun x hx y hy e => ?_⟩
        rw [List.map_cons, List.map_nil, List.mem_singleton] at hy
        exact (f4 x hx).2.2 (by rw [e, hy]; exact hl2)
      · intro l hl
        rw [List.map_append] at hl
        rcases List.mem_append.mp hl with hl | hl
        · refine ⟨(f4 l hl).1, (f4 l hl).2.1, ?_⟩
          rw [upd_ne (f4 l hl).2.1]
          intro e
          exact (f4 l hl).2.2 (s5.free e)
        · rw [List.map_cons, List.map_nil, List.mem_singleton] at hl
          rw [hl]
          refine ⟨l20, l2D, ?_⟩
          rw [upd_ne l2D]
          show upd (upd H4 l2 _) t2 _ l2 ≠ none
          rw [hl5]; exact fun h => nomatch h
    · rintro H4 ⟨s4, xs, gs, hD4, xl, p4, e4, nd4, f4⟩
      rw [Paired.length pc.goings, List.take_length] at e4
      have hd4 := s4 _ _ (s2 _ _ hd)
      walk_at "wp"
      intro ld hld
      have s5 := s4.trans (same_new (o := .lst xd) hld)
      have sd := same_new (o := .lst xd) hld
      walk_at "wp"
      rename_i tt htt
      have s6 := s5.trans (same_new (o := .tup [.ref la, .ref lb, .ref D, .ref ld]) htt)
      have s46 := sd.trans (same_new (o := .tup [.ref la, .ref lb, .ref D, .ref ld]) htt)
      have hld0 : H ld = none := new (s2.trans s4) hld
      have st := s2.trans s6
      refine q tt la lb D ld gs _ upd_same ⟨⟨pa, s6 _ _ hlA, pc.pile.keep (Same.tk st)⟩, ⟨xb, s6 _ _ hlB, Paired.mapP pc.pegs fun _ _ q => q.keep (Same.tk st)⟩, ⟨xs, s46 _ _ hD4, Wow.gos_keep p4 (Ks.same s46 (S := [])) fun _ _ => by simp⟩, e4, ⟨xd, same_new htt _ _ upd_same, Paired.mapP pc.boxes fun _ _ q => q.keep (Same.tk st)⟩, ?_⟩ ?_ st
      · have nab : la ≠ lb := fun e => hab e
        have nA : ∀ x, H2 x = none → la ≠ x := fun x hx e => by rw [← e, hlA] at hx; cases hx
        have nB : ∀ x, H2 x = none → lb ≠ x := fun x hx e => by rw [← e, hlB] at hx; cases hx
        have hld2 : H2 ld = none := s4.free hld
        simp only [List.nodup_cons, List.mem_cons, not_or]
        refine ⟨⟨nab, nA _ hD, nA _ hld2, fun m => nA _ (f4 _ m).1 rfl⟩, ⟨nB _ hD, nB _ hld2, fun m => nB _ (f4 _ m).1 rfl⟩, ⟨fun e => ?_, fun m => (f4 _ m).2.1 rfl⟩, fun m => (f4 _ m).2.2 hld, nd4⟩
        rw [← e, hD4] at hld; cases hld
      · intro x hx
        simp only [List.mem_cons] at hx
        rcases hx with rfl | rfl | rfl | rfl | hx
        · exact hla
        · exact hlb0
        · exact hD0
        · exact hld0
        · exact s2.free (f4 x hx).1

end
end K15

namespace K15
open PySem PySem.Spec PyProof.Rows L2 Wp Wq Wr Wpm Wpn Wth
local macro_rules | `(tactic| walk_at "ne") => `(tactic| first
  | assumption
  | (refine Ne.symm ?_; assumption)
  | exact ne_of_none (by assumption) (by assumption)
  | exact (ne_of_none (by assumption) (by assumption)).symm
  | exact ne_of (by assumption) (by assumption) (by intro q; cases q))
local macro_rules | `(tactic| walk_at "hp") => `(tactic| first
  | assumption
  | exact upd_same
  | (refine (upd_ne ?_).trans ?_; (walk_at "ne"); (walk_at "hp")))
local macro_rules | `(tactic| walk_at "hq") => `(tactic| first
  | assumption
  | exact upd_same
  | (refine same_new (by assumption) _ _ ?_; (walk_at "hq"))
  | (refine Wp.look (by assumption) ?_; (walk_at "hq")))
local macro_rules | `(tactic| walk_at "sm") => `(tactic| first
  | assumption
  | exact fun _ _ h => h
  | exact same_new (by assumption)
  | (refine Same.trans ?_ (same_new (by assumption)); (walk_at "sm"))
  | (refine Same.trans ?_ (by assumption); (walk_at "sm")))
local macro_rules | `(tactic| walk_at "kp") => `(tactic| first
  | assumption
  | exact Kp.refl _ _
  | (refine Kp.trans ?_ (Kp.new (by assumption)); (walk_at "kp"))
  | (refine Kp.trans ?_ (Same.kp (by assumption)); (walk_at "kp"))
  | (refine Wp.kpT ?_ (by assumption); (walk_at "kp"))
  | exact Same.kp (by walk_at "sm"))
local macro_rules | `(tactic| walk_at "sq") => `(tactic| first
  | assumption
  | exact SqL.of (by walk_at "hp")
  | exact SqT.of (by walk_at "hp"))
local macro_rules | `(tactic| walk_at "kind") => `(tactic| first
  | assumption
  | exact Kind.int _
  | exact Kind.str _
  | exact Kind.bl _
  | exact Kind.non
  | exact Kind.tup (by walk_at "hp")
  | exact Kind.lst (by walk_at "hp")
  | exact Kind.dK (by walk_at "hp"))
local macro_rules | `(tactic| walk_at "w1") => `(tactic| first
  | (with_reducible refine Wp.seq ?_)
  | (with_reducible refine Wp.nx_mk ?_)
  | (with_reducible refine Wp.rt_mk ?_)
  | (with_reducible refine Wp.bk_mk ?_)
  | (with_reducible refine Wp.ct_mk ?_)
  | (with_reducible refine Wp.next ?_)
  | (with_reducible refine Wp.asg ?_)
  | ((with_reducible refine' Wp.gname ?e ?_); (case e => (try dsimp only [List.set, L2.wipe, List.map_cons, List.map_nil]); (try exact rfl)))
  | (with_reducible refine Wp.gsub ?_)
  | (with_reducible refine Wp.ret ?_)
  | (with_reducible refine Wp.retN ?_)
  | (with_reducible refine Wp.drop ?_)
  | (with_reducible refine Wp.dput ?_)
  | (with_reducible refine Wp.ifs ?_)
  | ((with_reducible refine' Wp.var ?h ?_); (case h => exact rfl))
  | (with_reducible refine Wp.con ?_)
  | (with_reducible refine Wp.op ?_)
  | (with_reducible refine Wp.un ?_)
  | (with_reducible refine Wp.cb ?_)
  | (with_reducible refine Wp.anil ?_)
  | (with_reducible refine Wp.acons ?_)
  | (with_reducible refine Wp.call ?_)
  | (with_reducible refine Wp.test ?_)
  | (with_reducible refine Wp.tb_ ?_)
  | (with_reducible refine Wp.and_ ?_)
  | (with_reducible refine Wp.or_ ?_)
  | (with_reducible refine Wp.not_ ?_)
  | (with_reducible refine Wp.andV ?_)
  | (with_reducible refine Wp.orV ?_)
  | (with_reducible refine Wp.notV ?_)
  | (with_reducible refine Wp.rI0_ ?_)
  | (with_reducible refine Wp.rU_ ?_)
  | ((with_reducible refine Wp.rEq_ ?k ?_); (case k => exact rfl))
  | ((with_reducible refine Wp.rNe_ ?k ?_); (case k => exact rfl))
  | (with_reducible refine Wp.gcons ?_)
  | (with_reducible refine Wp.gnil ?_)
  | ((with_reducible refine' Wp.gtup ?h ?e ?_); (case h => walk_at "sq"); (case e => exact rfl))
  | (with_reducible refine Wp.sl ?_)
  | (with_reducible refine Wp.part ?_)
  | (with_reducible refine Wp.nopart ?_)
  | (with_reducible refine Wp.ifE ?_)
  | (with_reducible refine Wp.bm0 ?_)
  | (with_reducible refine Wp.bm ?_)
  | (with_reducible refine Wp.lcR1 ?_)
  | (with_reducible refine Wp.lcR2 ?_)
  | (with_reducible refine Wp.lcL ?_)
  | (with_reducible refine Wp.chain ?_)
  | (with_reducible refine Wp.lc2V ?_)
  | (with_reducible refine Wp.piL ?_)
  | (with_reducible refine Wp.yes ?_)
  | (with_reducible refine Wp.dinI ?_)
  | (with_reducible refine Wp.dninI ?_)
  | (with_reducible refine Wp.dget ?_)
  | ((with_reducible refine' ⟨?k, ?_⟩); (case k => show L2.wipe _ _ = L2.wipe _ _; exact rfl))
  | ((with_reducible refine' ⟨?k, ?_⟩); (case k => show V.non = V.non; exact rfl))
  | (with_reducible refine Wp.forR1 ?_)
  | (with_reducible refine Wp.forR2 ?_)
  | (with_reducible refine Wp.forL ?_)
  | (with_reducible refine Wp.forT ?_)
  | ((with_reducible refine' ⟨?k, ?_⟩); (case k => exact Wp.tyvL (by walk_at "hp")))
  | ((with_reducible refine' Wp.rev_ ?k ?_); (case k => walk_at "hp"))
  | ((with_reducible refine' Wp.isi ?k ?h ?_); (case k => walk_at "kind"); (case h => decide))
  | ((with_reducible refine' Wp.typ ?k ?_); (case k => walk_at "kind"))
  | (with_reducible refine Wp.slS ?k ?_; (case k => assumption))
  | (with_reducible refine iteT ?_)
  | (with_reducible refine iteF ?_)
  | (with_reducible refine Wtc.dcL ?_)
  | (with_reducible refine Wst.step ?_)
  | (with_reducible refine Wtc.dget2 ?_)
  | (with_reducible refine Wtc.lcZ ?_)
  | (with_reducible refine Wrw.loop_setLc ?_)
  | (with_reducible refine Wz.par ?_)
  | (with_reducible refine Wz.forN ?_)
  | (with_reducible refine Wz.dcL ?_)
  | (with_reducible refine Wz.forZ ?_)
  | (with_reducible refine Wz.lcR3 ?_)
  | (with_reducible refine Wc.revL ?_)
  | (with_reducible refine Wd.nm ?_)
  | (with_reducible refine Wd.nget ?_)
  | ((with_reducible refine Wd.tnew ?_); intro p hp)
  | (with_reducible refine Wd.pikn ?_)
  | (with_reducible refine Wt.m1 ?_)
  | (with_reducible refine Wt.m0 ?_)
  | ((with_reducible refine' ⟨?k, ?_⟩); (case k => show ∃ a, _ = V.str a; exact ⟨_, rfl⟩))
  | (with_reducible refine Wt.js_cons ?_)
  | (with_reducible refine Wt.fmt_ ?_)
  | (with_reducible refine Wp.pcons ?_)
  | (with_reducible refine Wp.pnil ?_)
  | ((with_reducible refine' Wp.iteBnT ?h ?_); (case h => show isB _ _ = false; decide))
  | ((with_reducible refine' Wp.iteBnF ?h ?_); (case h => show isB _ _ = true; decide))
  | ((with_reducible refine' Wp.iteBt ?h ?_); (case h => show isB _ _ = true; decide))
  | ((with_reducible refine' Wp.iteBf ?h ?_); (case h => show isB _ _ = false; decide))
  | (with_reducible refine Wp.iteT' ?_)
  | (with_reducible refine Wp.iteF' ?_)
  | (with_reducible refine Wp.rNT_ ?_)
  | ((with_reducible refine Wp.lst ?_))
  | ((with_reducible refine Wp.tup ?_))
  | ((with_reducible refine' Wp.ixL ?h ?e ?_); (case h => walk_at "sq"); (case e => exact rfl))
  | ((with_reducible refine' Wp.ixT ?h ?e ?_); (case h => walk_at "sq"); (case e => exact rfl))
  | ((with_reducible refine' Wp.setL ?h ?e ?_); (case h => walk_at "hp"); (case e => exact rfl))
  | ((with_reducible refine Wp.rI_ ?k ?_); (case k => first | (show (0:Int) < _; omega) | (show CPow _ _; refine' ⟨?_, ?_, ?_⟩ <;> omega) | (show CDiv _ _; refine' ⟨?_, ?_⟩ <;> omega) | (show CMul _ _; refine' Or.inl ⟨?_, ?_⟩ <;> omega) | (show CMul _ _; refine' Or.inr ⟨?_, ?_⟩ <;> first | omega | decide) | (show CDivW _ _; refine' wide_div (b := 240) ?_ ?_ ?_ ?_ <;> first | omega | decide)))
  | ((with_reducible refine ⟨?k, ?_⟩); (case k => first | exact Nat.zero_le _ | (exact Nat.le_of_ble_eq_true rfl)); intro p hp)
  | ((with_reducible refine' ⟨_, _, rfl, .inl ?k, ?_⟩); (case k => walk_at "sq"))
  | ((with_reducible refine' ⟨_, _, rfl, .inr ?k, ?_⟩); (case k => walk_at "sq"))
  | (with_reducible refine ⟨_, rfl, ?_⟩)
  | (with_reducible refine ⟨_, _, rfl, rfl, ?_⟩)
  | (with_reducible refine ⟨_, _, rfl, ?_⟩))
local macro_rules | `(tactic| walk_at "wp") => `(tactic| repeat (walk_at "w1"))

section
variable {P : Program} {w : World} {K : PySem.W.Frag} {mg : Str → Option Value} {base : Heap}
def spMore : Sp := fun vs H Q _ => ∃ (v : V) (w : Addr) (n : Nat) (P : Pic), vs = [v, .ref w] ∧ IsPic [] H v P ∧ P.Ok ∧ P.Small 60 ∧ Ww.Well H w n ∧ n < 800000 ∧ ∀ r m b P' H', H' r = some (.tup [.ref m, .bl b]) → IsPic [] H' (.ref m) P' → Wip.PicW P' → (b = true ↔ Wip.Closed P') → Wow.Mid 400 P' → Q (.ref r) H'
def MMore (v : V) (w a b c d : Addr) (way : Int) (n : Nat) (P : Pic) (σ' : L2.St) (H' : Hp) : Prop := ∃ (gs : List Wow.Go) (P1 : Pic) (z : W) (t : Addr), σ' = [some v, some (.ref w), some (.ref a), some (.ref b), some (.ref c), some (.ref d), some (.int way), some (.int z.2), some (.ref t), none, none, none, none] ∧ H' t = some (.tup [.str z.1, .int z.2]) ∧ Wow.OwnAt H' a b c d gs P1 ∧ (∀ l ∈ a :: b :: c :: d :: gs.map (·.2), l ∉ [w]) ∧ Ww.Well H' w n ∧ Wow.Grown P P1 z (decide (way = 2)) ∧ P1.pile = P.pile ∧ P1.pegs = P.pegs ∧ P1.goings.length ≤ 101 ∧ P1.boxes.length ≤ 101 ∧ ∀ g ∈ P1.goings, g.2.2.length ≤ 60
theorem ok_more (T : Txt P w K mg) : FnOk P w K mg base CX0 4 T.f_more T.fd_more ["picture", "well"] spMore := by
  have G_draw := ok_draw (base := base) T
  have G_name := ok_name (base := base) T
  have G_lcopy := ok_lcopy (base := base) T
  refine T.F_more.ok sc_more (fun vs H Q E h => ?_) (fun cdv A outer s H vs Q E hr h => ?_)
  · obtain ⟨v, w, n, P, rfl, _⟩ := h
    rfl
  · obtain ⟨v, w, n, P, rfl, hP, ok, sm, hw, hn, q⟩ := h
    refine ⟨_, (pss_cons (ps_asg (pe_call G_lcopy (hr.mono (by decide)) (by rfl) T.g_lcopy T.F_lcopy.kp T.b_lcopy .nil pass0 (pa_cons (pv 0) pa_nil)) (pg_tup (by rfl) (pgs_cons (pg_name (i := 2) sc_more.nd rfl (.inl rfl)) (pgs_cons (pg_name (i := 3) sc_more.nd rfl (.inl rfl)) (pgs_cons (pg_name (i := 4) sc_more.nd rfl (.inl rfl)) (pgs_cons (pg_name (i := 5) sc_more.nd rfl (.inl rfl)) pgs_nil))))))
      (pss_cons (ps_set (i := 6) sc_more.nd rfl (.inl rfl) (pe_call G_draw (hr.mono (by decide)) (by rfl) T.g_draw T.F_draw.kp T.b_draw .nil pass0 (pa_cons (pv 1) (pa_cons pe_int pa_nil))))
      (C8.pss_cut (ps_if (pt_cmpR op_eq (pe_call G_draw (hr.mono (by decide)) (by rfl) T.g_draw T.F_draw.kp T.b_draw .nil pass0 (pa_cons (pv 1) (pa_cons pe_int pa_nil))) pe_int (nomark _)) (pss_cons (ps_set (i := 7) sc_more.nd rfl (.inl rfl) (pe_op op_add (pe_op op_add (pe_callB (cr_max rfl) (by rfl) T.n_max (by decide +kernel) (pa_cons (pe_op op_cat (pe_lst (pa_cons (pe_un un_neg pe_int) pa_nil)) (pe_lc (own := [("row", 12)]) rfl sc_more.nd (pi_list (pv 5)) (blkOk_by (N := ["picture", "well", "pile", "pegs", "goings", "boxes", "way", "number", "thing", "name", "rows", "at", "row"]) (sc := defScope s_more) (by decide +kernel)) (fun _ _ _ _ _ => pg_name (i := 12) sc_more.nd rfl (Or.inl rfl)) (fun _ _ _ _ _ => pts_nil) (fun _ _ _ _ _ => (pe_ix (show IxR _ (rIxT K) from ix_tup) (pv 12) pe_int (fun _ _ => rfl))))) pa_nil)) pe_int) (pe_call G_draw (hr.mono (by decide)) (by rfl) T.g_draw T.F_draw.kp T.b_draw .nil pass0 (pa_cons (pv 1) (pa_cons pe_int pa_nil)))))
      (pss_cons (ps_set (i := 8) sc_more.nd rfl (.inl rfl) (pe_tup (pa_cons pe_str (pa_cons (pv 7) pa_nil))))
      (pss_one (ps_expr (pe_bm PySem.F.plainAttrs_list PySem.F.slot_list_append PySem.F.type_list_append mt_append (pv 5) (pa_cons (pe_tup (pa_cons (pv 7) (pa_cons (pe_ix ix_list (pe_lst (pa_cons (pe_tup (pa_cons pe_str (pa_cons pe_int pa_nil))) (pa_cons (pv 8) pa_nil))) (pe_callTy call_int1 (by rfl) T.n_int (by decide +kernel) (pa_cons (pe_cmpR op_eq (pv 6) pe_int (nomark _)) pa_nil)) (fun _ _ => rfl)) pa_nil))) pa_nil)))))) (pss_cons (ps_set (i := 7) sc_more.nd rfl (.inl rfl) (pe_op op_add (pe_op op_add (pe_callB (cr_max rfl) (by rfl) T.n_max (by decide +kernel) (pa_cons (pe_op op_cat (pe_lst (pa_cons (pe_un un_neg pe_int) pa_nil)) (pe_lc (own := [("row", 12)]) rfl sc_more.nd (pi_list (pv 4)) (blkOk_by (N := ["picture", "well", "pile", "pegs", "goings", "boxes", "way", "number", "thing", "name", "rows", "at", "row"]) (sc := defScope s_more) (by decide +kernel)) (fun _ _ _ _ _ => pg_name (i := 12) sc_more.nd rfl (Or.inl rfl)) (fun _ _ _ _ _ => pts_nil) (fun _ _ _ _ _ => (pe_ix (show IxR _ (rIxT K) from ix_tup) (pv 12) pe_int (fun _ _ => rfl))))) pa_nil)) pe_int) (pe_call G_draw (hr.mono (by decide)) (by rfl) T.g_draw T.F_draw.kp T.b_draw .nil pass0 (pa_cons (pv 1) (pa_cons pe_int pa_nil)))))
      (pss_cons (ps_set (i := 8) sc_more.nd rfl (.inl rfl) (pe_tup (pa_cons pe_str (pa_cons (pv 7) pa_nil))))
      (pss_one (ps_expr (pe_bm PySem.F.plainAttrs_list PySem.F.slot_list_append PySem.F.type_list_append mt_append (pv 4) (pa_cons (pe_tup (pa_cons (pv 7) (pa_cons pe_int (pa_cons (pe_op op_rep (pe_lst (pa_cons (pv 8) pa_nil)) (pe_callTy call_int1 (by rfl) T.n_int (by decide +kernel) (pa_cons (pe_cmpR op_eq (pv 6) pe_int (nomark _)) pa_nil))) pa_nil)))) pa_nil)))))))
      (pss_cons (ps_set (i := 9) sc_more.nd rfl (.inl rfl) (pe_call G_name (hr.mono (by decide)) (by rfl) T.g_name T.F_name.kp T.b_name .nil pass0 (pa_cons (pv 1) (pa_cons pe_str pa_nil))))
      (C8.pss_cut (ps_if (PW.pt (pw_and (pt_cmpR op_eq (pv 6) pe_int (nomark _)) (pw_and1 (pt_cmpR op_notIn_seq (pv 9) (pe_lc (own := [("row", 12)]) rfl sc_more.nd (pi_list (pv 3)) (blkOk_by (N := ["picture", "well", "pile", "pegs", "goings", "boxes", "way", "number", "thing", "name", "rows", "at", "row"]) (sc := defScope s_more) (by decide +kernel)) (fun _ _ _ _ _ => pg_name (i := 12) sc_more.nd rfl (Or.inl rfl)) (fun _ _ _ _ _ => pts_nil) (fun _ _ _ _ _ => (pe_ix (show IxR _ (rIxT K) from ix_tup) (pv 12) pe_int (fun _ _ => rfl)))) (by rfl))))) (pss_one (ps_set (i := 3) sc_more.nd rfl (.inl rfl) (pe_callB (Ws.cr_sortD hr.units) (by rfl) T.n_sorted (by decide +kernel) (pa_cons (pe_op op_cat (pv 3) (pe_lst (pa_cons (pe_tup (pa_cons (pv 9) (pa_cons (pv 8) pa_nil))) pa_nil))) pa_nil)))) (pss_one (ps_if (pt_cmpR op_eq (pe_op op_mod (pv 6) pe_int) pe_int (nomark _)) (pss_cons (ps_set (i := 10) sc_more.nd rfl (.inl rfl) (pe_op op_cat (pe_lst (pa_cons (pv 2) pa_nil)) (pe_lc (own := [("row", 12)]) rfl sc_more.nd (pi_list (pv 4)) (blkOk_by (N := ["picture", "well", "pile", "pegs", "goings", "boxes", "way", "number", "thing", "name", "rows", "at", "row"]) (sc := defScope s_more) (by decide +kernel)) (fun _ _ _ _ _ => pg_name (i := 12) sc_more.nd rfl (Or.inl rfl)) (fun _ _ _ _ _ => pts_nil) (fun _ _ _ _ _ => (pe_ix (show IxR _ (rIxT K) from ix_tup) (pv 12) pe_int (fun _ _ => rfl))))))
      (pss_cons (ps_set (i := 11) sc_more.nd rfl (.inl rfl) (pe_call G_draw (hr.mono (by decide)) (by rfl) T.g_draw T.F_draw.kp T.b_draw .nil pass0 (pa_cons (pv 1) (pa_cons (pe_callB call_len_seq (by rfl) T.n_len (by decide +kernel) (pa_cons (pv 10) pa_nil)) pa_nil))))
      (pss_one (ps_expr (pe_bm PySem.F.plainAttrs_list PySem.F.slot_list_insert PySem.F.type_list_insert mt_insert (pe_ix ix_list (pv 10) (pv 11) (fun _ _ => rfl)) (pa_cons (pe_call G_draw (hr.mono (by decide)) (by rfl) T.g_draw T.F_draw.kp T.b_draw .nil pass0 (pa_cons (pv 1) (pa_cons (pe_op op_add (pe_callB call_len_seq (by rfl) T.n_len (by decide +kernel) (pa_cons (pe_ix ix_list (pv 10) (pv 11) (fun _ _ => rfl)) pa_nil)) pe_int) pa_nil))) (pa_cons (pv 8) pa_nil))))))) pss_nil)))
      (pss_one (ps_ret (pe_tup (pa_cons (pe_tup (pa_cons (pv 2) (pa_cons (pv 3) (pa_cons (pv 4) (pa_cons (pv 5) pa_nil))))) (pa_cons (pe_cmpR op_ne (pv 6) pe_int (nomark _)) pa_nil)))))))))), ?_⟩
    obtain ⟨m1, m2, m3, m4, m5⟩ := id sm
    rw [show L2.start ["picture", "well", "pile", "pegs", "goings", "boxes", "way", "number", "thing", "name", "rows", "at", "row"] [v, .ref w] = [some v, some (.ref w), none, none, none, none, none, none, none, none, none, none, none] from rfl]
    try dsimp only [cxOf]
    have k1000 : (100000 : Nat) ≤ sizeLine := by decide
    walk_at "wp"
    refine ⟨v, P, rfl, hP, by omega, fun t a b c d gs H1 ht own new s1 => ?_⟩
    have hw1 := hw.keep s1
    have nw : ∀ l ∈ a :: b :: c :: d :: gs.map (·.2), l ∉ [w] := fun l hl m => by
      rw [List.mem_singleton.mp m] at hl
      obtain ⟨x, y, z, h1, _⟩ := hw
      rw [new w hl] at h1; cases h1
    clear new s1 hw hP
    walk_at "wp"
    refine ⟨w, n, _, rfl, hw1, by omega, by omega, by omega, fun way H2 w0 w1 hw2 k2 => ?_⟩
    have own2 := own.keep (hw1.ks k2) nw
    clear own hw1
    walk_at "wp"
    refine Wp.cut (MMore v w a b c d way (n + 3) P) ?_ ?_
    · walk_at "wp"
      refine ⟨w, n + 1, _, rfl, hw2, by omega, by omega, by omega, fun kind H3 kd0 kd1 hw3 k3 => ?_⟩
      have own3 := own2.keep (hw2.ks k3) nw
      clear own2 k2 hw2
      walk_at "wp"
      refine ite_ (fun e => ?_) (fun e => ?_)
      · obtain ⟨xd, hd, pd⟩ := own3.boxes
        have dl := Paired.length pd
        walk_at "wp"
        rename_i l1 hl1
        have s4 : Same H3 (upd H3 l1 (.lst [.int (-1)])) := same_new hl1
        refine ⟨⟨_, SqL.of (s4 _ _ hd)⟩, fun D hD => ?_⟩
        refine loopCL (xs := xd) (fun j H' => Same (upd H3 l1 (.lst [.int (-1)])) H' ∧ H' D = some (.lst (((P.boxes.take j).map fun p => V.int p.1)))) ⟨same_new hD, upd_same⟩ (fun j H' _ h => SqL.of (h.1 _ _ (s4 _ _ hd))) ?_ ?_
        · rintro j x H4 hj ⟨s5, h5⟩
          obtain ⟨p, hp, hr⟩ := pair_at1 pd hj
          obtain ⟨t1, v1, rfl, ht1, hv1⟩ := hr.keep (Same.tk (s4.trans s5))
          walk_at "wp"
          refine ⟨_, h5, by rw [List.length_map, List.length_take]; exact Wb.small (by omega), fun a o e => ?_, ?_⟩
          · rw [upd_ne (ne_of_none e hD)]; exact s5 _ _ e
          · rw [List.take_add_one, hp, List.map_append]; exact upd_same
        · rintro H4 ⟨s5, h5⟩
          rw [dl, List.take_length] at h5
          walk_at "wp"
          refine cat_ (s5 _ _ upd_same) h5 (by rw [List.length_map]; show 1 + _ ≤ _; omega) (fun l2 hl2 => ?_)
          have s6 := s4.trans (s5.trans (same_new (o := .lst ([V.int (-1)] ++ P.boxes.map fun p => V.int p.1)) hl2))
          walk_at "wp"
          refine ⟨l2, (-1) :: P.boxes.map (·.1), rfl, SqL.of (by rw [List.map_cons, List.map_map]; exact upd_same), by simp, fun m mm mx => ?_⟩
          have own4 := own3.same s6
          have hw4 := hw3.keep s6
          have m0 : -1 ≤ m := mx _ List.mem_cons_self
          have up : ∀ x ∈ P.boxes, x.1 ≤ m := fun x hx => mx _ (List.mem_cons_of_mem _ (List.mem_map_of_mem hx))
          generalize upd H4 l2 (.lst ([V.int (-1)] ++ P.boxes.map fun p => V.int p.1)) = H5 at own4 hw4
          walk_at "wp"
          refine ⟨w, n + 2, _, rfl, hw4, by omega, by omega, by omega, fun dr H6 d0 d1 hw6 k6 => ?_⟩
          have own6 := own4.keep (hw4.ks k6) nw
          walk_at "wp"
          rename_i tt htt
          have s7 : Same H6 (upd H6 tt (.tup [.str (Str.ofString "box"), .int (m + 1 + dr)])) := same_new htt
          have own7 := own6.same s7
          have hw7 := hw6.keep s7
          have htt7 : upd H6 tt (.tup [.str (Str.ofString "box"), .int (m + 1 + dr)]) tt = some (.tup [.str (Str.ofString "box"), .int (m + 1 + dr)]) := upd_same
          clear s7 own6 hw6 k6
          generalize upd H6 tt (.tup [.str (Str.ofString "box"), .int (m + 1 + dr)]) = H7 at own7 hw7 htt7
          obtain ⟨xe, he, pe⟩ := own7.boxes
          walk_at "wp"
          rename_i t3 ht3 l4 hl4
          refine .inr ⟨_, rfl, ?_⟩
          have s8 := (same_new (o := .tup [.str (Str.ofString "num"), .int 7]) ht3).trans (same_new (o := .lst [.ref t3, .ref tt]) hl4)
          have h3 : upd (upd H7 t3 (.tup [.str (Str.ofString "num"), .int 7])) l4 (.lst [.ref t3, .ref tt]) t3 = some (.tup [.str (Str.ofString "num"), .int 7]) := same_new hl4 _ _ upd_same
          have h4 : upd (upd H7 t3 (.tup [.str (Str.ofString "num"), .int 7])) l4 (.lst [.ref t3, .ref tt]) l4 = some (.lst [.ref t3, .ref tt]) := upd_same
          have own8 := own7.same s8
          have hw8 := hw7.keep s8
          have htt8 := s8 _ _ htt7
          have he8 := s8 _ _ he
          have pe8 : Paired (IsBoxT _) xe P.boxes := Paired.mapP pe fun _ _ q => q.keep (Same.tk s8)
          clear own7 hw7 htt7 he pe s8
          generalize upd (upd H7 t3 (.tup [.str (Str.ofString "num"), .int 7])) l4 (.lst [.ref t3, .ref tt]) = H8 at own8 hw8 htt8 he8 pe8 h3 h4
          obtain ⟨vv, zz, hvv, hat, hzz⟩ : ∃ (vv : V) (zz : W), IsW H8 vv zz ∧ atI [V.ref t3, V.ref tt] (if decide (V.int way = V.int 2) = true then 1 else 0) = some vv ∧ zz = if decide (way = 2) = true then (sBox, m + 1 + dr) else Wow.N7 := by
            by_cases e2 : way = 2
            · subst e2
              exact ⟨.ref tt, (sBox, m + 1 + dr), ⟨tt, rfl, htt8⟩, rfl, by simp⟩
            · exact ⟨.ref t3, Wow.N7, ⟨t3, rfl, h3⟩, by rw [show decide (V.int way = V.int 2) = false by simp [e2]]; rfl, by simp [e2]⟩
          refine ixL (SqL.of h4) hat ?_
          walk_at "wp"
          rename_i t5 ht5
          have s9 := same_new (o := .tup [.int (m + 1 + dr), vv]) ht5
          have he9 := s9 _ _ he8
          refine app_ he9 (by have := Paired.length pe8; omega) ?_
          have k9 : Ks [d] (upd H8 t5 (.tup [.int (m + 1 + dr), vv])) (upd (upd H8 t5 (.tup [.int (m + 1 + dr), vv])) d (.lst (xe ++ [.ref t5]))) := Ks.upd he9 List.mem_cons_self
          have nd := nw d (by simp)
          refine ⟨gs, { P with boxes := P.boxes ++ [(m + 1 + dr, zz)] }, (sBox, m + 1 + dr), tt, rfl, k9.tk _ _ (s9 _ _ htt8), (own8.same s9).set_d k9 upd_same (Wpk.paired_snoc (Paired.mapP pe8 fun _ _ q => (q.keep (Same.tk s9)).keep k9.tk) ⟨t5, vv, rfl, k9.tk _ _ upd_same, (hvv.keep (Same.tk s9)).keep k9.tk⟩), nw, (hw8.keep s9).upd (fun e => nd (by rw [e]; simp)), Wow.grown_box ok (by omega) (fun x hx => by have := up x hx; omega) hzz, rfl, rfl, by show P.goings.length ≤ 101; omega, by show (P.boxes ++ _).length ≤ 101; rw [List.length_append]; show P.boxes.length + 1 ≤ 101; omega, m5⟩
      · obtain ⟨xd, hd, pd⟩ := own3.goings
        have pd' := Wow.gos_goT (S := []) pd (fun _ _ => by simp)
        rw [own3.eq] at pd'
        have dl := Paired.length pd'
        walk_at "wp"
        rename_i l1 hl1
        have s4 : Same H3 (upd H3 l1 (.lst [.int (-1)])) := same_new hl1
        refine ⟨⟨_, SqL.of (s4 _ _ hd)⟩, fun D hD => ?_⟩
        refine loopCL (xs := xd) (fun j H' => Same (upd H3 l1 (.lst [.int (-1)])) H' ∧ H' D = some (.lst (((P.goings.take j).map fun p => V.int p.1)))) ⟨same_new hD, upd_same⟩ (fun j H' _ h => SqL.of (h.1 _ _ (s4 _ _ hd))) ?_ ?_
        · rintro j x H4 hj ⟨s5, h5⟩
          obtain ⟨p, hp, hr⟩ := pair_at1 pd' hj
          obtain ⟨t1, lg, vg, rfl, ht1, _⟩ := hr.keep (Ks.same (s4.trans s5))
          walk_at "wp"
          refine ⟨_, h5, by rw [List.length_map, List.length_take]; exact Wb.small (by omega), fun a o e => ?_, ?_⟩
          · rw [upd_ne (ne_of_none e hD)]; exact s5 _ _ e
          · rw [List.take_add_one, hp, List.map_append]; exact upd_same
        · rintro H4 ⟨s5, h5⟩
          rw [dl, List.take_length] at h5
          walk_at "wp"
          refine cat_ (s5 _ _ upd_same) h5 (by rw [List.length_map]; show 1 + _ ≤ _; omega) (fun l2 hl2 => ?_)
          have s6 := s4.trans (s5.trans (same_new (o := .lst ([V.int (-1)] ++ P.goings.map fun p => V.int p.1)) hl2))
          walk_at "wp"
          refine ⟨l2, (-1) :: P.goings.map (·.1), rfl, SqL.of (by rw [List.map_cons, List.map_map]; exact upd_same), by simp, fun m mm mx => ?_⟩
          have own4 := own3.same s6
          have hw4 := hw3.keep s6
          have m0 : -1 ≤ m := mx _ List.mem_cons_self
          have up : ∀ x ∈ P.goings, x.1 ≤ m := fun x hx => mx _ (List.mem_cons_of_mem _ (List.mem_map_of_mem hx))
          generalize upd H4 l2 (.lst ([V.int (-1)] ++ P.goings.map fun p => V.int p.1)) = H5 at own4 hw4
          walk_at "wp"
          refine ⟨w, n + 2, _, rfl, hw4, by omega, by omega, by omega, fun dr H6 d0 d1 hw6 k6 => ?_⟩
          have own6 := own4.keep (hw4.ks k6) nw
          walk_at "wp"
          rename_i tt htt
          have s7 : Same H6 (upd H6 tt (.tup [.str (Str.ofString "go"), .int (m + 1 + dr)])) := same_new htt
          have own7 := own6.same s7
          have hw7 := hw6.keep s7
          have htt7 : upd H6 tt (.tup [.str (Str.ofString "go"), .int (m + 1 + dr)]) tt = some (.tup [.str (Str.ofString "go"), .int (m + 1 + dr)]) := upd_same
          clear s7 own6 hw6 k6
          generalize upd H6 tt (.tup [.str (Str.ofString "go"), .int (m + 1 + dr)]) = H7 at own7 hw7 htt7
          obtain ⟨xe, he, pe⟩ := own7.goings
          walk_at "wp"
          rename_i l4 hl4
          refine .inr ⟨_, rfl, ?_⟩
          have s8 := same_new (o := .lst [.ref tt]) hl4
          have h4 : upd H7 l4 (.lst [.ref tt]) l4 = some (.lst [.ref tt]) := upd_same
          have own8 := own7.same s8
          have hw8 := hw7.keep s8
          have htt8 := s8 _ _ htt7
          have he8 := s8 _ _ he
          have pe8 : Paired (Wow.IsGoA _) xe gs := Wow.gos_keep pe (Ks.same s8 (S := [])) fun _ _ => by simp
          clear own7 hw7 htt7 he pe s8
          generalize upd H7 l4 (.lst [.ref tt]) = H8 at own8 hw8 htt8 he8 pe8 h4
          have hk : (if decide (V.int way = V.int 2) = true then (1 : Int) else 0) = ((if decide (way = 2) = true then 1 else 0 : Nat) : Int) := by
            by_cases e2 : way = 2
            · subst e2; rfl
            · simp [e2]
          rw [hk]
          have hb : ((List.replicate (if decide (way = 2) = true then 1 else 0 : Nat) [((sGo, m + 1 + dr) : W)]).flatten) = if decide (way = 2) = true then [(sGo, m + 1 + dr)] else [] := by
            split <;> rfl
          generalize hkk : (if decide (way = 2) = true then 1 else 0 : Nat) = k at hb
          have k1 : k ≤ 1 := by rw [← hkk]; split <;> decide
          refine ⟨l4, (k : Int), _, rfl, rfl, h4, by omega, by omega, by rw [Int.toNat_natCast]; show 1 * k ≤ _; omega, fun l5 hl5 => ?_⟩
          rw [Int.toNat_natCast]
          have p8 : Pile H8 (List.replicate k [V.ref tt]).flatten (List.replicate k [((sGo, m + 1 + dr) : W)]).flatten := by
            have : k = 0 ∨ k = 1 := by omega
            rcases this with e | e
            · rw [e]; exact Pile.nil
            · rw [e]; exact Pile.one ⟨tt, rfl, htt8⟩
          have wl : ((List.replicate k [((sGo, m + 1 + dr) : W)]).flatten).length ≤ 60 := by rw [Wfa.rep_len]; show 1 * k ≤ 60; omega
          generalize (List.replicate k [V.ref tt]).flatten = vs at p8
          generalize (List.replicate k [((sGo, m + 1 + dr) : W)]).flatten = ws at p8 hb wl
          walk_at "wp"
          rename_i t5 ht5
          have s9 := (same_new (o := .lst vs) hl5).trans (same_new (o := .tup [.int (m + 1 + dr), .int 3, .ref l5]) ht5)
          have h59 : upd (upd H8 l5 (.lst vs)) t5 (.tup [.int (m + 1 + dr), .int 3, .ref l5]) l5 = some (.lst vs) := same_new ht5 _ _ upd_same
          have h5t : upd (upd H8 l5 (.lst vs)) t5 (.tup [.int (m + 1 + dr), .int 3, .ref l5]) t5 = some (.tup [.int (m + 1 + dr), .int 3, .ref l5]) := upd_same
          have n5 : l5 ∉ a :: b :: c :: d :: gs.map (·.2) := fun m => own8.live l5 m hl5
          have n5w : l5 ≠ w := by
            obtain ⟨x, y, z, h1, _⟩ := hw8
            rintro rfl
            rw [h1] at hl5; cases hl5
          have own9 := own8.same s9
          have hw9 := hw8.keep s9
          have he9 := s9 _ _ he8
          have htt9 := s9 _ _ htt8
          have pe9 : Paired (Wow.IsGoA _) xe gs := Wow.gos_keep pe8 (Ks.same s9 (S := [])) fun _ _ => by simp
          have p9 := p8.keep (Same.tk s9)
          clear own8 hw8 he8 htt8 pe8 p8 s9 h4
          generalize upd (upd H8 l5 (.lst vs)) t5 (.tup [.int (m + 1 + dr), .int 3, .ref l5]) = H9 at own9 hw9 he9 htt9 pe9 p9 h59 h5t
          refine app_ he9 (by have := Paired.length pe9; have e7 : gs.length = P.goings.length := by rw [← own9.eq, List.length_map]
                              omega) ?_
          have k9 : Ks [c] H9 (upd H9 c (.lst (xe ++ [.ref t5]))) := Ks.upd he9 List.mem_cons_self
          have nc := nw c (by simp)
          have ap := own9.apart
          have ncl : ∀ l ∈ gs.map (·.2), l ∉ [c] := fun l hl m => by
            rw [List.mem_singleton.mp m] at hl
            simp only [List.nodup_cons, List.mem_cons, not_or] at ap
            exact ap.2.2.1.2 hl
          have n5c : l5 ∉ [c] := fun m => n5 (by rw [List.mem_singleton.mp m]; simp)
          have ap' : (a :: b :: c :: d :: (gs ++ [(((m + 1 + dr, 3, ws) : Int × Int × List W), l5)]).map (·.2)).Nodup := by
            rw [List.map_append, show ∀ x y z u : Addr, ∀ q r : List Addr, x :: y :: z :: u :: (q ++ r) = (x :: y :: z :: u :: q) ++ r from fun _ _ _ _ _ _ => rfl, List.nodup_append]
            refine ⟨ap, by simp, fun x hx y hy e => n5 ?_⟩
            rw [List.map_cons, List.map_nil, List.mem_singleton] at hy
            have : x = l5 := e.trans hy
            rw [← this]; exact hx
          have e9 : (gs ++ [(((m + 1 + dr, 3, ws) : Int × Int × List W), l5)]).map (·.1) = P.goings ++ [(m + 1 + dr, 3, ws)] := by rw [List.map_append, own9.eq]; rfl
          have ownF := own9.set_c k9 upd_same (Wpk.paired_snoc (Wow.gos_keep pe9 k9 ncl) (Wow.IsGoA.keep (g := ((m + 1 + dr, 3, ws), l5)) ⟨t5, vs, rfl, h5t, h59, p9⟩ k9 n5c)) ap'
          rw [e9] at ownF
          refine ⟨_, _, (sGo, m + 1 + dr), tt, rfl, k9.tk _ _ htt9, ownF, fun l hl => ?_, hw9.upd (fun e => nc (by rw [e]; simp)), Wow.grown_go ok (by omega) (by decide) (fun x hx => by have := up x hx; omega) hb, rfl, rfl, by show (P.goings ++ _).length ≤ 101; rw [List.length_append]; show P.goings.length + 1 ≤ 101; omega, by show P.boxes.length ≤ 101; omega, fun g hg => ?_⟩
          · rw [List.map_append, show ∀ x y z u : Addr, ∀ q r : List Addr, x :: y :: z :: u :: (q ++ r) = (x :: y :: z :: u :: q) ++ r from fun _ _ _ _ _ _ => rfl] at hl
            rcases List.mem_append.mp hl with hl | hl
            · exact nw l hl
            · rw [List.map_cons, List.map_nil, List.mem_singleton] at hl
              rw [hl, List.mem_singleton]; exact n5w
          · rcases List.mem_append.mp hg with hg | hg
            · exact m5 g hg
            · rw [List.mem_singleton.mp hg]; exact wl
    · rintro σ' H3 ⟨gs3, P1, z, tt, rfl, htt, own3, nw3, hw3, gr, ePile, ePegs, lg, lb, lr⟩
      clear own2 hw2 k2 nw ht
      walk_at "wp"
      refine ⟨w, n + 3, _, rfl, hw3, by omega, ⟨fun c hc => by revert c; decide +kernel, by decide +kernel⟩, fun nm H4 hnm nl hw4 k4 => ?_⟩
      have own4 := own3.keep (hw3.ks k4) nw3
      have htt4 := (hw3.ks k4).tk _ _ htt
      clear own3 htt hw3 k4
      have mid : Wow.Mid 60 P1 := ⟨by rw [ePile]; exact m1, by rw [ePegs]; omega, by omega, by omega, lr⟩
      walk_at "wp"
      refine Wp.cut (fun σ' H' => ∃ (b' : Addr) (gs' : List Wow.Go) (P2 : Pic) (y9 y10 y11 y12 : Option V), σ' = [some v, some (.ref w), some (.ref a), some (.ref b'), some (.ref c), some (.ref d), some (.int way), some (.int z.2), some (.ref tt), y9, y10, y11, y12] ∧ Wow.OwnAt H' a b' c d gs' P2 ∧ Wow.Grown P P2 z (decide (way ≠ 0)) ∧ Wow.Mid 400 P2) ?_ ?_
      · walk_at "wp"
        refine ite_ (fun e3 => ?_) (fun e3 => ?_)
        · obtain ⟨xb, hb, pb⟩ := own4.pegs
          have bl := Paired.length pb
          walk_at "wp"
          refine ⟨⟨_, SqL.of hb⟩, fun D hD => ?_⟩
          refine loopCL (xs := xb) (fun j H' => Same H4 H' ∧ H' D = some (.lst (((P1.pegs.take j).map fun p => V.str p.1)))) ⟨same_new hD, upd_same⟩ (fun j H' _ h => SqL.of (h.1 _ _ hb)) ?_ ?_
          · rintro j x H5 hj ⟨s5, h5⟩
            obtain ⟨p, hp, hr⟩ := pair_at1 pb hj
            obtain ⟨t1, v1, rfl, ht1, hv1⟩ := hr.keep (Same.tk s5)
            have pl1 : P1.pegs.length ≤ 200 := mid.2.1
            walk_at "wp"
            refine ⟨_, h5, by rw [List.length_map, List.length_take]; exact Wb.small (by omega), fun a o e => ?_, ?_⟩
            · rw [upd_ne (ne_of_none e hD)]; exact s5 _ _ e
            · rw [List.take_add_one, hp, List.map_append]; exact upd_same
          · rintro H5 ⟨s5, h5⟩
            rw [bl, List.take_length, show (P1.pegs.map fun p => V.str p.1) = (P1.pegs.map (·.1)).map V.str by rw [List.map_map]; rfl] at h5
            have own5 := own4.same s5
            have htt5 := s5 _ _ htt4
            have hw5 := hw4.keep s5
            clear own4 htt4 hw4
            walk_at "wp"
            refine ⟨D, _, rfl, .inl (SqL.of h5), rfl, Wrw.flat_strs _, ?_⟩
            rw [Wrw.inV_str]
            refine ⟨_, rfl, ?_⟩
            have w3 : way = 3 := by cases e3; rfl
            by_cases m : nm ∈ P1.pegs.map (·.1)
            · rw [if_neg (by simp [m])]
              walk_at "wp"
              refine ite_ (fun e1 => ?_) (fun e1 => ?_)
              · obtain ⟨xc, hc, pc⟩ := own5.goings
                walk_at "wp"
                rename_i l1 hl1
                have s6 := same_new (o := .lst [.ref a]) hl1
                refine ⟨⟨_, SqL.of (s6 _ _ hc)⟩, fun D hD => ?_⟩
                have gl := Paired.length pc
                have ge : gs3.length = P1.goings.length := by rw [← own5.eq, List.length_map]
                refine loopCL (xs := xc) (fun j H' => Same (upd H5 l1 (.lst [.ref a])) H' ∧ H' D = some (.lst ((gs3.take j).map fun g => V.ref g.2))) ⟨same_new hD, upd_same⟩ (fun j H' _ h => SqL.of (h.1 _ _ (s6 _ _ hc))) ?_ ?_
                · rintro j x H6 hj ⟨s7, h7⟩
                  obtain ⟨p, hp, t1, vs1, rfl, ht1, _⟩ := pair_at1 pc hj
                  have ht6 := s7 _ _ (s6 _ _ ht1)
                  walk_at "wp"
                  refine ⟨_, h7, by rw [List.length_map, List.length_take]; exact Wb.small (by omega), fun a o e => ?_, ?_⟩
                  · rw [upd_ne (ne_of_none e hD)]; exact s7 _ _ e
                  · rw [List.take_add_one, hp, List.map_append]; exact upd_same
                · rintro H6 ⟨s7, h7⟩
                  rw [gl, List.take_length] at h7
                  walk_at "wp"
                  refine cat_ (s7 _ _ upd_same) h7 (by rw [List.length_map]; show 1 + _ ≤ _; omega) (fun l3 hl3 => ?_)
                  have hw6 := hw5.keep (s6.trans s7)
                  have n3w : l3 ≠ w := by
                    obtain ⟨x, y, z, h1, _⟩ := hw6
                    rintro rfl
                    rw [h1] at hl3; cases hl3
                  have s8 := s6.trans (s7.trans (same_new (o := .lst ([V.ref a] ++ gs3.map fun g => V.ref g.2)) hl3))
                  have h8 : upd H6 l3 (.lst ([V.ref a] ++ gs3.map fun g => V.ref g.2)) l3 = some (.lst ([V.ref a] ++ gs3.map fun g => V.ref g.2)) := upd_same
                  have own8 := own5.same s8
                  have hw8 := hw5.keep s8
                  have htt8 := s8 _ _ htt5
                  clear s8 hw6
                  generalize upd H6 l3 (.lst ([V.ref a] ++ gs3.map fun g => V.ref g.2)) = H8 at h8 own8 hw8 htt8
                  have rlen : (([V.ref a] ++ gs3.map fun g => V.ref g.2).length : Int) = 1 + gs3.length := by rw [List.length_append, List.length_map]; show ((1 + gs3.length : Nat) : Int) = _; omega
                  walk_at "wp"
                  rw [rlen]
                  refine ⟨w, n + 15, _, rfl, hw8, by omega, by omega, by omega, fun i H9 i0 i1 hw9 k9 => ?_⟩
                  have own9 := own8.keep (hw8.ks k9) nw3
                  have htt9 := (hw8.ks k9).tk _ _ htt8
                  have h9 := k9 _ _ n3w h8
                  obtain ⟨l, ys, ws, hat, hl, pl, wl, lm, _⟩ := Wow.spot own9 gr mid i0 i1
                  walk_at "wp"
                  refine ixL (SqL.of h9) hat ?_
                  walk_at "wp"
                  refine ixL (SqL.of h9) hat ?_
                  walk_at "wp"
                  have yl : ys.length ≤ 60 := by rw [pl.len]; exact wl
                  refine ⟨w, n + 16, _, rfl, hw9, by omega, by omega, by omega, fun k H10 q0 q1 hw10 k10 => ?_⟩
                  have own10 := own9.keep (hw9.ks k10) nw3
                  have htt10 := (hw9.ks k10).tk _ _ htt9
                  obtain ⟨l', ys', ws', hat', hl', pl', wl', _, fin⟩ := Wow.spot own10 gr mid i0 i1
                  have ll : l' = l := by
                    rw [hat'] at hat
                    cases hat
                    rfl
                  rw [ll] at hl' fin
                  walk_at "wp"
                  have yl' : ys'.length ≤ 60 := by rw [pl'.len]; exact wl'
                  refine ⟨l, ys', k, .ref tt, rfl, rfl, hl', by omega, q0, by omega, ?_⟩
                  have k11 : Ks [l] H10 (upd H10 l (.lst (ys'.take k.toNat ++ [.ref tt] ++ ys'.drop k.toNat))) := Ks.upd hl' List.mem_cons_self
                  obtain ⟨gs', P2, o2, g2, md2⟩ := fin _ _ (ws'.take k.toNat ++ [z] ++ ws'.drop k.toNat) k11 upd_same ((((pl'.take k.toNat).app (Pile.one ⟨tt, rfl, htt10⟩)).app (pl'.drop k.toNat)).keep k11.tk) (by rw [Wow.ins_len]; omega) (fun y => Wow.ins_mem)
                  have wn0 : decide (way ≠ 0) = true := by
                    rw [decide_eq_true_iff]
                    rintro rfl
                    exact absurd e1 (by decide)
                  rw [wn0]
                  exact ⟨b, gs', P2, _, _, _, _, rfl, o2, g2, md2⟩
              · exact absurd (by rw [w3]; rfl) e1
            · rw [if_pos (by simp [m])]
              walk_at "wp"
              rename_i p1 hp1 l1 hl1
              have s6 := (same_new (o := .tup [.str nm, .ref tt]) hp1).trans (same_new (o := .lst [.ref p1]) hl1)
              have h61 : upd (upd H5 p1 (.tup [.str nm, .ref tt])) l1 (.lst [.ref p1]) p1 = some (.tup [.str nm, .ref tt]) := same_new hl1 _ _ upd_same
              have h6l : upd (upd H5 p1 (.tup [.str nm, .ref tt])) l1 (.lst [.ref p1]) l1 = some (.lst [.ref p1]) := upd_same
              have own6 := own5.same s6
              have htt6 := s6 _ _ htt5
              clear own5 htt5 hw5
              generalize upd (upd H5 p1 (.tup [.str nm, .ref tt])) l1 (.lst [.ref p1]) = H6 at s6 h61 h6l own6 htt6
              obtain ⟨xb6, hb6, pb6⟩ := own6.pegs
              have bl6 := Paired.length pb6
              refine cat_ hb6 h6l (by show _ + 1 ≤ _; have := mid.2.1; omega) (fun l2 hl2 => ?_)
              have s7 := same_new (o := .lst (xb6 ++ [.ref p1])) hl2
              have h7 : upd H6 l2 (.lst (xb6 ++ [.ref p1])) l2 = some (.lst (xb6 ++ [.ref p1])) := upd_same
              have own7 := own6.same s7
              have pb7 : Paired (IsPegT (upd H6 l2 (.lst (xb6 ++ [.ref p1])))) (xb6 ++ [.ref p1]) (P1.pegs ++ [(nm, z)]) := Paired.mapP (Wpk.paired_snoc pb6 ⟨p1, .ref tt, rfl, h61, tt, rfl, htt6⟩) fun _ _ q => q.keep (Same.tk s7)
              generalize upd H6 l2 (.lst (xb6 ++ [.ref p1])) = H7 at s7 h7 own7 pb7
              walk_at "wp"
              have nd : ((P1.pegs ++ [(nm, z)]).map (·.1)).Nodup := by
                rw [List.map_append, List.nodup_append]
                refine ⟨?_, by simp, fun x hx y hy e => m ?_⟩
                · exact (List.pairwise_map.mpr (gr.w.pegUp.imp fun h e => by unfold strLt at h; rw [e] at h; exact List.lt_irrefl _ h))
                · rw [List.map_cons, List.map_nil, List.mem_singleton] at hy
                  have q : x = nm := e.trans hy
                  rw [← q]; exact hx
              refine Wow.sort_pegsT pb7 nd rfl (SqL.of h7) (fun p8 ys zs hp8 perm py up => ?_)
              have s8 := same_new (o := .lst ys) hp8
              have n8 : p8 ∉ a :: c :: d :: gs3.map (·.2) := fun mm => by
                refine own7.live p8 ?_ hp8
                simp only [List.mem_cons] at mm ⊢
                rcases mm with h | h | h | h
                · exact .inl h
                · exact .inr (.inr (.inl h))
                · exact .inr (.inr (.inr (.inl h)))
                · exact .inr (.inr (.inr (.inr h)))
              walk_at "wp"
              refine ⟨p8, gs3, { P1 with pegs := zs }, _, _, _, _, rfl, (own7.same s8).set_b upd_same (Paired.mapP py fun _ _ q => q.keep (Same.tk s8)) n8, ?_, ?_⟩
              · rw [show decide (way ≠ 0) = true by simp [w3]]
                exact Wow.peg_more gr ⟨hnm, nl⟩ perm up
              · have := perm.length_eq
                rw [List.length_append] at this
                have l1 : P1.pegs.length ≤ 100 := by rw [ePegs]; exact m2
                exact ⟨Nat.le_trans mid.1 (by decide), by show zs.length ≤ 200; rw [this]; show P1.pegs.length + 1 ≤ 200; omega, mid.2.2.1, mid.2.2.2.1, fun g hg => Nat.le_trans (lr g hg) (by decide)⟩
        · walk_at "wp"
          refine ite_ (fun e1 => ?_) (fun e1 => ?_)
          · obtain ⟨xc, hc, pc⟩ := own4.goings
            walk_at "wp"
            rename_i l1 hl1
            have s6 := same_new (o := .lst [.ref a]) hl1
            refine ⟨⟨_, SqL.of (s6 _ _ hc)⟩, fun D hD => ?_⟩
            have gl := Paired.length pc
            have ge : gs3.length = P1.goings.length := by rw [← own4.eq, List.length_map]
            refine loopCL (xs := xc) (fun j H' => Same (upd H4 l1 (.lst [.ref a])) H' ∧ H' D = some (.lst ((gs3.take j).map fun g => V.ref g.2))) ⟨same_new hD, upd_same⟩ (fun j H' _ h => SqL.of (h.1 _ _ (s6 _ _ hc))) ?_ ?_
            · rintro j x H6 hj ⟨s7, h7⟩
              obtain ⟨p, hp, t1, vs1, rfl, ht1, _⟩ := pair_at1 pc hj
              have ht6 := s7 _ _ (s6 _ _ ht1)
              walk_at "wp"
              refine ⟨_, h7, by rw [List.length_map, List.length_take]; exact Wb.small (by omega), fun a o e => ?_, ?_⟩
              · rw [upd_ne (ne_of_none e hD)]; exact s7 _ _ e
              · rw [List.take_add_one, hp, List.map_append]; exact upd_same
            · rintro H6 ⟨s7, h7⟩
              rw [gl, List.take_length] at h7
              walk_at "wp"
              refine cat_ (s7 _ _ upd_same) h7 (by rw [List.length_map]; show 1 + _ ≤ _; omega) (fun l3 hl3 => ?_)
              have hw6 := hw4.keep (s6.trans s7)
              have n3w : l3 ≠ w := by
                obtain ⟨x, y, z, h1, _⟩ := hw6
                rintro rfl
                rw [h1] at hl3; cases hl3
              have s8 := s6.trans (s7.trans (same_new (o := .lst ([V.ref a] ++ gs3.map fun g => V.ref g.2)) hl3))
              have h8 : upd H6 l3 (.lst ([V.ref a] ++ gs3.map fun g => V.ref g.2)) l3 = some (.lst ([V.ref a] ++ gs3.map fun g => V.ref g.2)) := upd_same
              have own8 := own4.same s8
              have hw8 := hw4.keep s8
              have htt8 := s8 _ _ htt4
              clear s8 hw6
              generalize upd H6 l3 (.lst ([V.ref a] ++ gs3.map fun g => V.ref g.2)) = H8 at h8 own8 hw8 htt8
              have rlen : (([V.ref a] ++ gs3.map fun g => V.ref g.2).length : Int) = 1 + gs3.length := by rw [List.length_append, List.length_map]; show ((1 + gs3.length : Nat) : Int) = _; omega
              walk_at "wp"
              rw [rlen]
              refine ⟨w, n + 15, _, rfl, hw8, by omega, by omega, by omega, fun i H9 i0 i1 hw9 k9 => ?_⟩
              have own9 := own8.keep (hw8.ks k9) nw3
              have htt9 := (hw8.ks k9).tk _ _ htt8
              have h9 := k9 _ _ n3w h8
              obtain ⟨l, ys, ws, hat, hl, pl, wl, lm, _⟩ := Wow.spot own9 gr mid i0 i1
              walk_at "wp"
              refine ixL (SqL.of h9) hat ?_
              walk_at "wp"
              refine ixL (SqL.of h9) hat ?_
              walk_at "wp"
              have yl : ys.length ≤ 60 := by rw [pl.len]; exact wl
              refine ⟨w, n + 16, _, rfl, hw9, by omega, by omega, by omega, fun k H10 q0 q1 hw10 k10 => ?_⟩
              have own10 := own9.keep (hw9.ks k10) nw3
              have htt10 := (hw9.ks k10).tk _ _ htt9
              obtain ⟨l', ys', ws', hat', hl', pl', wl', _, fin⟩ := Wow.spot own10 gr mid i0 i1
              have ll : l' = l := by
                rw [hat'] at hat
                cases hat
                rfl
              rw [ll] at hl' fin
              walk_at "wp"
              have yl' : ys'.length ≤ 60 := by rw [pl'.len]; exact wl'
              refine ⟨l, ys', k, .ref tt, rfl, rfl, hl', by omega, q0, by omega, ?_⟩
              have k11 : Ks [l] H10 (upd H10 l (.lst (ys'.take k.toNat ++ [.ref tt] ++ ys'.drop k.toNat))) := Ks.upd hl' List.mem_cons_self
              obtain ⟨gs', P2, o2, g2, md2⟩ := fin _ _ (ws'.take k.toNat ++ [z] ++ ws'.drop k.toNat) k11 upd_same ((((pl'.take k.toNat).app (Pile.one ⟨tt, rfl, htt10⟩)).app (pl'.drop k.toNat)).keep k11.tk) (by rw [Wow.ins_len]; omega) (fun y => Wow.ins_mem)
              have wn0 : decide (way ≠ 0) = true := by
                rw [decide_eq_true_iff]
                rintro rfl
                exact absurd e1 (by decide)
              rw [wn0]
              exact ⟨b, gs', P2, _, _, _, _, rfl, o2, g2, md2⟩
          · have e0 : decide (way ≠ 0) = decide (way = 2) := by
              have h3 : way ≠ 3 := fun q => e3 (by rw [q])
              have h1 : way % 2 ≠ 1 := fun q => e1 (by rw [q])
              have : way = 0 ∨ way = 2 := by omega
              rcases this with e | e <;> rw [e] <;> rfl
            dsimp only [tNext]
            refine ⟨b, gs3, P1, _, _, _, _, rfl, own4, ?_, Nat.le_trans mid.1 (by decide), mid.2.1, mid.2.2.1, mid.2.2.2.1, fun g hg => Nat.le_trans (lr g hg) (by decide)⟩
            rw [e0]; exact gr
      · rintro σ' H5 ⟨b', gs', P2, y9, y10, y11, y12, rfl, own5, gr2, mid2⟩
        walk_at "wp"
        rename_i p1 hp1 p2 hp2
        have s6 := (same_new (o := .tup [.ref a, .ref b', .ref c, .ref d]) hp1).trans (same_new (o := .tup [.ref p1, .bl (!decide (V.int way = V.int 0))]) hp2)
        have eb : (!decide (V.int way = V.int 0)) = decide (way ≠ 0) := by by_cases e : way = 0 <;> simp [e]
        exact q p2 p1 _ P2 _ upd_same ((own5.same s6).pic (same_new hp2 _ _ upd_same) (by simp)) gr2.w (by rw [eb]; exact gr2.closed ok) mid2

end
end K15

set_option maxHeartbeats 8000000
namespace K15
open PySem PySem.Spec PyProof.Rows L2 Wp Wq Wr Wpm Wpn
local macro_rules | `(tactic| walk_at "ne") => `(tactic| first
  | assumption
  | (refine Ne.symm ?_; assumption)
  | exact ne_of_none (by assumption) (by assumption)
  | exact (ne_of_none (by assumption) (by assumption)).symm
  | exact ne_of (by assumption) (by assumption) (by intro q; cases q))
local macro_rules | `(tactic| walk_at "hp") => `(tactic| first
  | assumption
  | exact upd_same
  | (refine (upd_ne ?_).trans ?_; (walk_at "ne"); (walk_at "hp")))
local macro_rules | `(tactic| walk_at "hq") => `(tactic| first
  | assumption
  | exact upd_same
  | (refine same_new (by assumption) _ _ ?_; (walk_at "hq"))
  | (refine Wp.look (by assumption) ?_; (walk_at "hq")))
local macro_rules | `(tactic| walk_at "sm") => `(tactic| first
  | assumption
  | exact fun _ _ h => h
  | exact same_new (by assumption)
  | (refine Same.trans ?_ (same_new (by assumption)); (walk_at "sm"))
  | (refine Same.trans ?_ (by assumption); (walk_at "sm")))
local macro_rules | `(tactic| walk_at "kp") => `(tactic| first
  | assumption
  | exact Kp.refl _ _
  | (refine Kp.trans ?_ (Kp.new (by assumption)); (walk_at "kp"))
  | (refine Kp.trans ?_ (Same.kp (by assumption)); (walk_at "kp"))
  | (refine Wp.kpT ?_ (by assumption); (walk_at "kp"))
  | exact Same.kp (by walk_at "sm"))
local macro_rules | `(tactic| walk_at "sq") => `(tactic| first
  | assumption
  | exact SqL.of (by walk_at "hp")
  | exact SqT.of (by walk_at "hp"))
local macro_rules | `(tactic| walk_at "kind") => `(tactic| first
  | assumption
  | exact Kind.int _
  | exact Kind.str _
  | exact Kind.bl _
  | exact Kind.non
  | exact Kind.tup (by walk_at "hp")
  | exact Kind.lst (by walk_at "hp")
  | exact Kind.dK (by walk_at "hp"))
local macro_rules | `(tactic| walk_at "w1") => `(tactic| first
  | (with_reducible refine Wp.seq ?_)
  | (with_reducible refine Wp.nx_mk ?_)
  | (with_reducible refine Wp.rt_mk ?_)
  | (with_reducible refine Wp.bk_mk ?_)
  | (with_reducible refine Wp.ct_mk ?_)
  | (with_reducible refine Wp.next ?_)
  | (with_reducible refine Wp.asg ?_)
  | ((with_reducible refine' Wp.gname ?e ?_); (case e => (try dsimp only [List.set, L2.wipe, List.map_cons, List.map_nil]); (try exact rfl)))
  | (with_reducible refine Wp.gsub ?_)
  | (with_reducible refine Wp.ret ?_)
  | (with_reducible refine Wp.retN ?_)
  | (with_reducible refine Wp.drop ?_)
  | (with_reducible refine Wp.dput ?_)
  | (with_reducible refine Wp.ifs ?_)
  | ((with_reducible refine' Wp.var ?h ?_); (case h => exact rfl))
  | (with_reducible refine Wp.con ?_)
  | (with_reducible refine Wp.op ?_)
  | (with_reducible refine Wp.un ?_)
  | (with_reducible refine Wp.cb ?_)
  | (with_reducible refine Wp.anil ?_)
  | (with_reducible refine Wp.acons ?_)
  | (with_reducible refine Wp.call ?_)
  | (with_reducible refine Wp.test ?_)
  | (with_reducible refine Wp.tb_ ?_)
  | (with_reducible refine Wp.and_ ?_)
  | (with_reducible refine Wp.or_ ?_)
  | (with_reducible refine Wp.not_ ?_)
  | (with_reducible refine Wp.andV ?_)
  | (with_reducible refine Wp.orV ?_)
  | (with_reducible refine Wp.notV ?_)
  | (with_reducible refine Wp.rI0_ ?_)
  | (with_reducible refine Wp.rU_ ?_)
  | ((with_reducible refine Wp.rEq_ ?k ?_); (case k => exact rfl))
  | ((with_reducible refine Wp.rNe_ ?k ?_); (case k => exact rfl))
  | (with_reducible refine Wp.gcons ?_)
  | (with_reducible refine Wp.gnil ?_)
  | ((with_reducible refine' Wp.gtup ?h ?e ?_); (case h => walk_at "sq"); (case e => exact rfl))
  | (with_reducible refine Wp.sl ?_)
  | (with_reducible refine Wp.part ?_)
  | (with_reducible refine Wp.nopart ?_)
  | (with_reducible refine Wp.ifE ?_)
  | (with_reducible refine Wp.bm0 ?_)
  | (with_reducible refine Wp.bm ?_)
  | (with_reducible refine Wp.lcR1 ?_)
  | (with_reducible refine Wp.lcR2 ?_)
  | (with_reducible refine Wp.lcL ?_)
  | (with_reducible refine Wp.chain ?_)
  | (with_reducible refine Wp.lc2V ?_)
  | (with_reducible refine Wp.piL ?_)
  | (with_reducible refine Wp.yes ?_)
  | (with_reducible refine Wp.dinI ?_)
  | (with_reducible refine Wp.dninI ?_)
  | (with_reducible refine Wp.dget ?_)
  | ((with_reducible refine' ⟨?k, ?_⟩); (case k => show L2.wipe _ _ = L2.wipe _ _; exact rfl))
  | ((with_reducible refine' ⟨?k, ?_⟩); (case k => show V.non = V.non; exact rfl))
  | (with_reducible refine Wp.forR1 ?_)
  | (with_reducible refine Wp.forR2 ?_)
  | (with_reducible refine Wp.forL ?_)
  | (with_reducible refine Wp.forT ?_)
  | ((with_reducible refine' ⟨?k, ?_⟩); (case k => exact Wp.tyvL (by walk_at "hp")))
  | ((with_reducible refine' Wp.rev_ ?k ?_); (case k => walk_at "hp"))
  | ((with_reducible refine' Wp.isi ?k ?h ?_); (case k => walk_at "kind"); (case h => decide))
  | ((with_reducible refine' Wp.typ ?k ?_); (case k => walk_at "kind"))
  | (with_reducible refine Wp.slS ?k ?_; (case k => assumption))
  | (with_reducible refine iteT ?_)
  | (with_reducible refine iteF ?_)
  | (with_reducible refine Wtc.dcL ?_)
  | (with_reducible refine Wst.step ?_)
  | (with_reducible refine Wtc.dget2 ?_)
  | (with_reducible refine Wtc.lcZ ?_)
  | (with_reducible refine Wrw.loop_setLc ?_)
  | (with_reducible refine Wz.par ?_)
  | (with_reducible refine Wz.forN ?_)
  | (with_reducible refine Wz.dcL ?_)
  | (with_reducible refine Wz.forZ ?_)
  | (with_reducible refine Wz.lcR3 ?_)
  | (with_reducible refine Wc.revL ?_)
  | (with_reducible refine Wd.nm ?_)
  | (with_reducible refine Wd.nget ?_)
  | ((with_reducible refine Wd.tnew ?_); intro p hp)
  | (with_reducible refine Wd.pikn ?_)
  | (with_reducible refine Wt.m1 ?_)
  | (with_reducible refine Wt.m0 ?_)
  | ((with_reducible refine' ⟨?k, ?_⟩); (case k => show ∃ a, _ = V.str a; exact ⟨_, rfl⟩))
  | (with_reducible refine Wt.js_cons ?_)
  | (with_reducible refine Wt.fmt_ ?_)
  | (with_reducible refine Wp.pcons ?_)
  | (with_reducible refine Wp.pnil ?_)
  | ((with_reducible refine' Wp.iteBnT ?h ?_); (case h => show isB _ _ = false; decide))
  | ((with_reducible refine' Wp.iteBnF ?h ?_); (case h => show isB _ _ = true; decide))
  | ((with_reducible refine' Wp.iteBt ?h ?_); (case h => show isB _ _ = true; decide))
  | ((with_reducible refine' Wp.iteBf ?h ?_); (case h => show isB _ _ = false; decide))
  | (with_reducible refine Wp.iteT' ?_)
  | (with_reducible refine Wp.iteF' ?_)
  | (with_reducible refine Wp.rNT_ ?_)
  | ((with_reducible refine Wp.lst ?_))
  | ((with_reducible refine Wp.tup ?_))
  | ((with_reducible refine' Wp.ixL ?h ?e ?_); (case h => walk_at "sq"); (case e => exact rfl))
  | ((with_reducible refine' Wp.ixT ?h ?e ?_); (case h => walk_at "sq"); (case e => exact rfl))
  | ((with_reducible refine' Wp.setL ?h ?e ?_); (case h => walk_at "hp"); (case e => exact rfl))
  | ((with_reducible refine Wp.rI_ ?k ?_); (case k => first | (show (0:Int) < _; omega) | (show CPow _ _; refine' ⟨?_, ?_, ?_⟩ <;> omega) | (show CDiv _ _; refine' ⟨?_, ?_⟩ <;> omega) | (show CMul _ _; refine' Or.inl ⟨?_, ?_⟩ <;> omega) | (show CMul _ _; refine' Or.inr ⟨?_, ?_⟩ <;> first | omega | decide) | (show CDivW _ _; refine' wide_div (b := 240) ?_ ?_ ?_ ?_ <;> first | omega | decide)))
  | ((with_reducible refine ⟨?k, ?_⟩); (case k => first | exact Nat.zero_le _ | (exact Nat.le_of_ble_eq_true rfl)); intro p hp)
  | ((with_reducible refine' ⟨_, _, rfl, .inl ?k, ?_⟩); (case k => walk_at "sq"))
  | ((with_reducible refine' ⟨_, _, rfl, .inr ?k, ?_⟩); (case k => walk_at "sq"))
  | (with_reducible refine ⟨_, rfl, ?_⟩)
  | (with_reducible refine ⟨_, _, rfl, rfl, ?_⟩)
  | (with_reducible refine ⟨_, _, rfl, ?_⟩))
local macro_rules | `(tactic| walk_at "wp") => `(tactic| repeat (walk_at "w1"))

section
variable {P : Program} {w : World} {K : PySem.W.Frag} {mg : Str → Option Value} {base : Heap}
def spCell (K : PySem.W.Frag) : Sp := fun vs H Q _ => ∃ (a : Addr) (ns : List Int) (k : Nat), vs = [.ref a, .int k] ∧ SqL K H a (ns.map V.int) ∧ ∀ v, Q (.int v) H
theorem ok_cell_at (T : Txt P w K mg) : FnOk P w K mg base CX0 1 T.f_cell_at T.fd_cell_at ["script", "k"] (spCell K) := by
  refine T.F_cell_at.ok sc_cell_at (fun vs H Q E h => ?_) (fun cdv A outer s H vs Q E hr h => ?_)
  · obtain ⟨a, ns, k, rfl, _⟩ := h
    rfl
  · obtain ⟨a, ns, k, rfl, hS, q⟩ := h
    refine ⟨_, (pss_cons (ps_if (pt_cmpR op_lt (pv 1) (pe_callB call_len_seq (by rfl) T.n_len (by decide +kernel) (pa_cons (pv 0) pa_nil)) (nomark _)) (pss_one (ps_ret (pe_ix ix_list (pv 0) (pv 1) (fun _ _ => rfl)))) pss_nil)
      (pss_one (ps_ret pe_int))), ?_⟩
    rw [show L2.start ["script", "k"] [.ref a, .int k] = [some (.ref a), some (.int k)] from rfl]
    try dsimp only [cxOf]
    walk_at "wp"
    refine ite_ (fun c => ?_) (fun c => ?_)
    · walk_at "wp"
      have hk : k < ns.length := by
        rw [List.length_map] at c
        omega
      refine ixL hS (atI_nat (v := .int ns[k]) ?_) ?_
      · rw [List.getElem?_map, List.getElem?_eq_getElem hk]
        rfl
      · exact q _
    · walk_at "wp"
      exact q _

def spPicture (K : PySem.W.Frag) : Sp := fun vs H Q _ => ∃ (c : Addr) (cs : List Int) (most : Int), vs = [.ref c, .int most] ∧ SqL K H c (cs.map V.int) ∧ cs.length ≤ 1000000 ∧ 0 ≤ most ∧ most ≤ 30 ∧ ∀ v P H', (∀ S : List Addr, (∀ x ∈ S, H x ≠ none) → IsPic S H' v P) → P.Ok → P.Small 60 → Same H H' → Q v H'
theorem pic_back (T : Txt P w K mg) {cdv : Value} {A : Around} {outer : List Env} {s : Shared} {H : Hp} {Q : VK} {E : XK} (hr : Room 4 (A.deeper (envOfC "_law_picture" (defScope s_picture) s.heap.objs.size T.f_picture cdv))) (c : Addr) (most : Int) (q : ∀ v P H', (∀ S : List Addr, (∀ x ∈ S, H x ≠ none) → IsPic S H' v P) → P.Ok → P.Small 60 → Same H H' → Q v H') : ∃ t, PSs (cxOf CX0 P w K mg base ["cells", "most", "head", "parts", "many", "k", "wells", "sides", "names", "rows", "places", "some", "size", "pile", "pegs", "name", "hosts", "where", "goings", "boxes", "well", "j", "row"] "_law_picture" (defScope s_picture) T.f_picture cdv A outer s H E).nox ((defBody s_picture).drop 14) t ∧ ∀ σ' H', M13 c most H σ' H' → t { nx := fun _ H' => Q .non H', rt := Q } σ' H' := by
  have G_cell_at := ok_cell_at (base := base) T
  have G_well := ok_well (base := base) T
  have G_draw := ok_draw (base := base) T
  have G_worth := ok_worth (base := base) T
  have G_name := ok_name (base := base) T
  have G_numbered := ok_numbered (base := base) T
  have G_hold := ok_hold (base := base) T
  refine ⟨_, (C8.pss_cut (ps_for PassesOwn.never rfl (pi_range1 (by rfl) T.n_range (pa_cons (pv 4) pa_nil)) (pg_name (i := 5) sc_picture.nd rfl (.inr rfl)) (pss_one (ps_if (PW.pt (pw_and (pt_cmpR (op_notInD (un65 hr)) (pe_ix ix_list (pv 8) (pv 5) (fun _ _ => rfl)) (pe_op op_cat (pv 13) (pe_callTy (Wf.cr_listVals rfl) (by rfl) T.n_list (by decide +kernel) (pa_cons (pe_bm0 PySem.F.plainAttrs_dict PySem.F.slot_dict_values PySem.F.type_dict_values Wf.mt_valuesK (pv 14)) pa_nil))) (by rfl)) (pw_and1 (pt_not (pt_val (pe_callB (cr_any rfl) (by rfl) T.n_any (by decide +kernel) (pa_cons (pe_lc (own := [("row", 22)]) rfl sc_picture.nd (pi_list (pv 9)) (blkOk_by (N := ["cells", "most", "head", "parts", "many", "k", "wells", "sides", "names", "rows", "places", "some", "size", "pile", "pegs", "name", "hosts", "where", "goings", "boxes", "well", "j", "row"]) (sc := defScope s_picture) (by decide +kernel)) (fun _ _ _ _ _ => pg_name (i := 22) sc_picture.nd rfl (Or.inl rfl)) (fun _ _ _ _ _ => pts_nil) (fun _ _ _ _ _ => (pe_cmpR (show OpR _ _ (rInD K) from op_inD (un65 hr)) (pe_ix (show IxR _ (rIxL K) from ix_list) (pv 8) (pv 5) (fun _ _ => rfl)) (pv 22) (by rfl)))) pa_nil))))))) (pss_cons (ps_setLc (i := 16) (own := [("j", 21)]) rfl sc_picture.nd rfl rfl (sw_true rfl rfl rfl (by decide +kernel)) (pi_range1 (by rfl) T.n_range (pa_cons (pv 4) pa_nil)) (blkOk_by (N := ["cells", "most", "head", "parts", "many", "k", "wells", "sides", "names", "rows", "places", "some", "size", "pile", "pegs", "name", "hosts", "where", "goings", "boxes", "well", "j", "row"]) (sc := defScope s_picture) (by decide +kernel)) (fun _ _ _ _ _ => pg_name (i := 21) sc_picture.nd rfl (Or.inl rfl)) (fun _ _ _ _ _ => pts_one (PW.pt (pw_and (pt_cmpR op_eq (pe_ix (show IxR _ (rIxT K) from ix_tup) (pe_ix (show IxR _ (rIxL K) from ix_list) (pv 8) (pv 21) (fun _ _ => rfl)) pe_int (fun _ _ => rfl)) pe_str (nomark _)) (pw_and1 (pt_cmpR op_eq (pe_ix (show IxR _ (rIxL K) from ix_list) (pv 7) (pv 21) (fun _ _ => rfl)) (pe_ix (show IxR _ (rIxL K) from ix_list) (pv 7) (pv 5) (fun _ _ => rfl)) (nomark _)))))) (fun _ _ _ _ _ => (pe_ix (show IxR _ (rIxL K) from ix_list) (pv 9) (pv 21) (fun _ _ => rfl))))
      (pss_cons (ps_set (i := 17) sc_picture.nd rfl (.inl rfl) (pe_ix ix_list (pe_lst (pa_cons (pe_call G_draw (hr.mono (by decide)) (by rfl) T.g_draw T.F_draw.kp T.b_draw .nil pass0 (pa_cons (pe_ix ix_list (pv 6) (pv 5) (fun _ _ => rfl)) (pa_cons pe_int pa_nil))) (pa_cons pe_int pa_nil))) (pe_ix ix_list (pv 7) (pv 5) (fun _ _ => rfl)) (fun _ _ => rfl)))
      (pss_one (ps_expr (pe_call G_hold (hr.mono (by decide)) (by rfl) T.g_hold T.F_hold.kp T.b_hold .nil pass0 (pa_cons (pe_ix ix_list (pv 6) (pv 5) (fun _ _ => rfl)) (pa_cons (pv 17) (pa_cons (pe_ix ix_list (pv 8) (pv 5) (fun _ _ => rfl)) (pa_cons (pv 13) (pa_cons (pv 14) (pa_cons (pv 16) pa_nil))))))))))) pss_nil)))
      (pss_cons (ps_setLc (i := 18) (own := [("k", 5)]) rfl sc_picture.nd rfl rfl (sw_true rfl rfl rfl (by decide +kernel)) (pi_range1 (by rfl) T.n_range (pa_cons (pv 4) pa_nil)) (blkOk_by (N := ["cells", "most", "head", "parts", "many", "k", "wells", "sides", "names", "rows", "places", "some", "size", "pile", "pegs", "name", "hosts", "where", "goings", "boxes", "well", "j", "row"]) (sc := defScope s_picture) (by decide +kernel)) (fun _ _ _ _ _ => pg_name (i := 5) sc_picture.nd rfl (Or.inl rfl)) (fun _ _ _ _ _ => pts_one (pt_cmpR op_eq (pe_ix (show IxR _ (rIxT K) from ix_tup) (pe_ix (show IxR _ (rIxL K) from ix_list) (pv 8) (pv 5) (fun _ _ => rfl)) pe_int (fun _ _ => rfl)) pe_str (nomark _))) (fun _ _ _ _ _ => (pe_tup (pa_cons (pe_ix (show IxR _ (rIxT K) from ix_tup) (pe_ix (show IxR _ (rIxL K) from ix_list) (pv 8) (pv 5) (fun _ _ => rfl)) pe_int (fun _ _ => rfl)) (pa_cons (pe_ix (show IxR _ (rIxL K) from ix_list) (pv 10) (pv 5) (fun _ _ => rfl)) (pa_cons (pe_ix (show IxR _ (rIxL K) from ix_list) (pv 9) (pv 5) (fun _ _ => rfl)) pa_nil))))))
      (pss_cons (ps_setLc (i := 19) (own := [("k", 5)]) rfl sc_picture.nd rfl rfl (sw_true rfl rfl rfl (by decide +kernel)) (pi_range1 (by rfl) T.n_range (pa_cons (pv 4) pa_nil)) (blkOk_by (N := ["cells", "most", "head", "parts", "many", "k", "wells", "sides", "names", "rows", "places", "some", "size", "pile", "pegs", "name", "hosts", "where", "goings", "boxes", "well", "j", "row"]) (sc := defScope s_picture) (by decide +kernel)) (fun _ _ _ _ _ => pg_name (i := 5) sc_picture.nd rfl (Or.inl rfl)) (fun _ _ _ _ _ => pts_one (pt_cmpR op_eq (pe_ix (show IxR _ (rIxT K) from ix_tup) (pe_ix (show IxR _ (rIxL K) from ix_list) (pv 8) (pv 5) (fun _ _ => rfl)) pe_int (fun _ _ => rfl)) pe_str (nomark _))) (fun _ _ _ _ _ => (pe_tup (pa_cons (pe_ix (show IxR _ (rIxT K) from ix_tup) (pe_ix (show IxR _ (rIxL K) from ix_list) (pv 8) (pv 5) (fun _ _ => rfl)) pe_int (fun _ _ => rfl)) (pa_cons (pe_ix (show IxR _ (rIxL K) from ix_list) (pe_ix (show IxR _ (rIxL K) from ix_list) (pv 9) (pv 5) (fun _ _ => rfl)) pe_int (fun _ _ => rfl)) pa_nil)))))
      (pss_one (ps_ret (pe_tup (pa_cons (pv 13) (pa_cons (pe_callB (Wf.cr_sortItems rfl hr.units) (by rfl) T.n_sorted (by decide +kernel) (pa_cons (pe_bm0 PySem.F.plainAttrs_dict PySem.F.slot_dict_items PySem.F.type_dict_items Wf.mt_itemsK (pv 14)) pa_nil)) (pa_cons (pv 18) (pa_cons (pv 19) pa_nil)))))))))), ?_⟩
  try dsimp only [cxOf]
  · rintro σ' H' ⟨hd, d1, N, y5, D, E, r, R, Pl, F, y12, G, Pg, nm, bs, ra, sd, pp, vs, ws, n, Ps, pw, kvs, kw, rfl, fx, md, dt, n0⟩
    refine Wp.cut (M14 c most H) ?_ ?_
    · have fl := fx.N30
      have hx : ∀ {α : Type} (f : α → V) (xs : List α) (j : Nat) (x : α) (u : Int), xs[j]? = some x → u = j → atI (xs.map f) u = some (f x) := fun f xs j x u e1 e2 => atI_of e2 (by rw [List.getElem?_map, e1]; rfl)
      walk_at "wp"
      refine ⟨by omega, by omega, ?_⟩
      rw [Int.toNat_natCast]
      refine loopR (fun i σ' H' => ∃ (y5 y16 y17 : Option V) (n : Nat) (Ps : List (List W)) (pw : List W) (kvs : List (Key × V)) (kw : List (Str × W)),
        σ' = [some (.ref c), some (.int most), some (.ref hd), some (.int d1), some (.int N), y5, some (.ref D), some (.ref E), some (.ref r), some (.ref R), some (.ref Pl), some (.ref F), y12, some (.ref G), some (.ref Pg), some (.str nm), y16, y17, none, none, none, none, none] ∧
        Mid ws H D E r R Pl G Pg bs ra sd pp vs n H' Ps pw kvs kw ∧ Dat ws N i Ps pw kw ∧ n ≤ 2000 + 30 * i)
        ⟨_, _, _, n, Ps, pw, kvs, kw, rfl, md, dt, by omega⟩ ?_ ?_
      · clear md dt n0
        rintro i σ' H4 hi ⟨y5', y16, y17, n, Ps, pw, kvs, kw, rfl, md, dt, n0⟩
        obtain ⟨vi, zi, hvi, hzi, wzi⟩ := md.hp.at (i := i) (by rw [fx.wl]; exact hi)
        obtain ⟨pa, hG, pG⟩ := md.pile
        have zok : Wok zi := by
          rcases (fx.wn.1 zi (List.mem_of_getElem? hzi)).1 with e | e
          · show PyData.strOk zi.1 = true
            rw [e]; decide +kernel
          · show PyData.strOk zi.1 = true
            rw [e]; decide +kernel
        walk_at "wp"
        refine ixL (SqL.of md.hr) (atI_of (show (0 + (i : Int)) = (i : Int) by omega) hvi) ?_
        walk_at "wp"
        refine ⟨.inr (.inr (.inl ⟨rfl, .inl ⟨_, md.hPg⟩⟩)), Pg, kvs, rfl, rfl, md.hPg, fun p hp => ?_⟩
        walk_at "wp"
        have sp : Same H4 (upd H4 p (Wf.valuesO p Pg)) := same_new hp
        refine ⟨p, Pg, kvs, rfl, upd_same, sp _ _ md.hPg, fun l hl => ?_⟩
        have sl : Same H4 (upd (upd H4 p (Wf.valuesO p Pg)) l (.lst (kvs.map (·.2)))) := sp.trans (same_new hl)
        refine cat_ (sl _ _ hG) upd_same (by rw [pG.len, List.length_map, Paired.length md.pegs]; exact Nat.le_of_lt (Wb.small (by have := dt.pile.1; have := dt.pegs.1; omega))) (fun q hq => ?_)
        have sq : Same H4 (upd (upd (upd H4 p (Wf.valuesO p Pg)) l (.lst (kvs.map (·.2)))) q (.lst (pa ++ kvs.map (·.2)))) := sl.trans (same_new hq)
        have pq := (Pile.app pG (vals_pile md.pegs)).keep (Same.tk sq)
        have okq : ∀ y ∈ pw ++ kw.map (·.2), Wok y := by
          intro y hy
          rcases List.mem_append.mp hy with hy | hy
          · exact Newly.wok fx.wn (dt.pile.2 y hy)
          · obtain ⟨nz, hn, rfl⟩ := List.mem_map.mp hy
            exact Newly.wok fx.wn (dt.pegs.2.2 nz hn).2.2
        refine ⟨wD zi, _, (wzi.keep (Same.tk sq)).dp, pq.dp (SqL.of upd_same), wD_shaped zok, wDs_shaped okq, ?_⟩
        rw [any_wD]
        generalize upd (upd (upd H4 p (Wf.valuesO p Pg)) l (.lst (kvs.map (·.2)))) q (.lst (pa ++ kvs.map (·.2))) = H5 at sq
        clear pq sl sp hl hp hq

        walk_at "wp"
        refine Wp.iteB (fun e => ?_) (fun e => ?_)
        case _ =>
          have md5 := md.keep sq
          walk_at "wp"
          refine ⟨⟨_, SqL.of md5.hR⟩, fun D2 hD2 => ?_⟩
          refine loopCL (xs := ra.map V.ref) (fun j H' => Same H5 H' ∧ H' D2 = some (.lst ((Ps.take j).map fun p => V.bl (decide (zi ∈ p))))) ⟨same_new hD2, upd_same⟩ (fun j H' hj h => SqL.of (h.1 _ _ md5.hR)) ?_ ?_
          · rintro j x H6 hx6 ⟨s6, hD6⟩
            obtain ⟨pj, hpj, lj⟩ := pair_at1 (md5.rows.keep (Ks.same s6)) hx6
            obtain ⟨lx, xs6, rfl, hl6, pl6, _⟩ := lj
            have jl : j < N := by rw [← dt.psl]; exact (List.getElem?_eq_some_iff.mp hpj).1
            have okj := (Wpn.rows_ok dt fx.wl fx.wn fx.N30 (Nat.le_of_lt hi)) pj (List.mem_of_getElem? hpj)
            walk_at "wp"
            refine ixL (SqL.of (s6 _ _ md5.hr)) (atI_of (show (0 + (i : Int)) = (i : Int) by omega) hvi) ?_
            walk_at "wp"
            refine ⟨wD zi, _, (wzi.keep (Same.tk (sq.trans s6))).dp, pl6.dp (SqL.of hl6), wD_shaped zok, wDs_shaped okj.2, ?_⟩
            rw [any_wD]
            refine ⟨_, hD6, ?_, ?_, ?_⟩
            · rw [List.length_map, List.length_take]; exact Wb.small (by omega)
            · intro q z hq
              rw [upd_ne (ne_of_none hq hD2)]
              exact s6 _ _ hq
            · rw [upd_same, List.take_add_one, hpj, List.map_append] <;> rfl
          · rintro H6 ⟨s6, hD6⟩
            rw [List.length_map, fx.rl, ← dt.psl, List.take_length] at hD6
            walk_at "wp"
            refine ⟨D2, Ps.map fun p => decide (zi ∈ p), rfl, SqL.of (by rw [hD6, List.map_map] <;> rfl), ?_⟩
            have ea : (Ps.map fun p => decide (zi ∈ p)).any id = Ps.any fun p => decide (zi ∈ p) := by rw [List.any_map] <;> rfl
            rw [ea]
            have md6 := md5.keep s6
            walk_at "wp"
            refine Wp.iteB (fun e2 => ?_) (fun e2 => ?_)
            case _ =>
              have iN : i < N := hi
              obtain ⟨si, hsi⟩ : ∃ x, sd[i]? = some x := ⟨_, List.getElem?_eq_getElem (by rw [fx.sl]; exact iN)⟩
              obtain ⟨b, hbi⟩ : ∃ x, bs[i]? = some x := ⟨_, List.getElem?_eq_getElem (by rw [fx.bl]; exact iN)⟩
              have bm := List.mem_of_getElem? hbi
              have bap := fx.wap b bm
              have okr := Wpn.rows_ok dt fx.wl fx.wn fx.N30 (Nat.le_of_lt iN)
              walk_at "wp"
              refine ⟨by omega, by omega, fun D3 hD3 => ?_⟩
              rw [Int.toNat_natCast]
              refine loopCR (fun j H' => Same H6 H' ∧ ∃ (hs : List Addr), H' D3 = some (.lst (hs.map V.ref)) ∧ hs.length ≤ j ∧ (∀ a ∈ hs, ∃ (k : Nat) (z : W), ra[k]? = some a ∧ ws[k]? = some z ∧ z.1 = sGo)) ⟨same_new hD3, [], upd_same, Nat.le_refl _, (fun _ h => nomatch h)⟩ ?_ ?_
              · rintro j H7 hj ⟨s7, hs, hD7, hl7, hh⟩
                have jN : j < N := hj
                obtain ⟨sj, hsj⟩ : ∃ x, sd[j]? = some x := ⟨_, List.getElem?_eq_getElem (by rw [fx.sl]; exact jN)⟩
                have md7 := md6.keep s7
                obtain ⟨vj, zj, hvj, hzj, wzj⟩ := md7.hp.at (i := j) (by rw [fx.wl]; exact jN)
                obtain ⟨tj, rfl, htj⟩ := wzj
                have keep7 : Same H6 H7 ∧ ∃ (hs : List Addr), H7 D3 = some (.lst (hs.map V.ref)) ∧ hs.length ≤ j + 1 ∧ (∀ a ∈ hs, ∃ (k : Nat) (z : W), ra[k]? = some a ∧ ws[k]? = some z ∧ z.1 = sGo) := ⟨s7, hs, hD7, Nat.le_succ_of_le hl7, hh⟩
                walk_at "wp"
                refine ixL (SqL.of md7.hr) (atI_of (show (0 + (j : Int)) = (j : Int) by omega) hvj) ?_
                walk_at "wp"
                refine ite_ (fun e3 => ?_) (fun _ => ?_)
                · walk_at "wp"
                  refine ixL (SqL.of md7.hE) (hx V.int sd j sj _ hsj (by omega)) ?_
                  walk_at "wp"
                  refine ixL (SqL.of md7.hE) (hx V.int sd i si _ hsi (by omega)) ?_
                  walk_at "wp"
                  refine ite_ (fun _ => ?_) (fun _ => ?_)
                  · obtain ⟨aj, haj⟩ : ∃ x, ra[j]? = some x := ⟨_, List.getElem?_eq_getElem (by rw [fx.rl]; exact jN)⟩
                    walk_at "wp"
                    refine ixL (SqL.of md7.hR) (hx V.ref ra j aj _ haj (by omega)) ?_
                    refine ⟨_, hD7, ?_, ?_, hs ++ [aj], ?_, ?_, ?_⟩
                    · rw [List.length_map]; exact Wb.small (by omega)
                    · intro q z hq
                      rw [upd_ne (ne_of_none hq hD3)]
                      exact s7 _ _ hq
                    · rw [upd_same, List.map_append] <;> rfl
                    · rw [List.length_append]
                      show hs.length + 1 ≤ j + 1
                      omega
                    · intro a ha
                      rcases List.mem_append.mp ha with ha | ha
                      · exact hh a ha
                      · rw [List.mem_singleton.mp ha]
                        exact ⟨j, zj, haj, hzj, V.str.inj e3⟩
                  · exact keep7
                · exact keep7
              · rintro H7 ⟨s7, hs, hD7, hl7, hh⟩
                have md7 := md6.keep s7
                walk_at "wp"
                obtain ⟨Qs, L7, q7⟩ := Wpn.lists_pick md7.rows (hs := hs) fun a ha => by
                  obtain ⟨k, _, hk, _⟩ := hh a ha
                  exact ⟨k, hk⟩
                have ok7 : Wc.PsOk Qs := fun q hq => okr q (q7 q hq)
                have hsra : ∀ a ∈ hs, a ∈ ra := fun a ha => by
                  obtain ⟨k, _, hk, _⟩ := hh a ha
                  exact List.mem_of_getElem? hk
                have bra : b ∉ ra := fun m => bap (by simp [m])
                refine ixL (SqL.of md7.hD) (hx V.ref bs i b _ hbi (by omega)) ?_
                walk_at "wp"
                refine ⟨b, n, _, rfl, md7.wells b bm, by omega, by decide, by decide, fun wh H8 w80 w81 hb8 k8 => ?_⟩
                have bx : ∀ x ∈ [D, E, r, R, Pl], x ≠ b := fun x hx q => fx.apart x hx (by rw [q]; simp [bm])
                have D3b : D3 ≠ b := fun q => by
                  obtain ⟨x, y, z, h1, _⟩ := md6.wells b bm
                  rw [← q, hD3] at h1
                  cases h1
                have hE8 := k8 _ _ (bx E (by simp)) md7.hE
                walk_at "wp"
                rename_i p1 hp1
                have sp : Same H8 (upd H8 p1 (.lst [.int wh, .int 3])) := same_new hp1
                refine ixL (SqL.of (sp _ _ hE8)) (hx V.int sd i si _ hsi (by omega)) ?_
                have hwi : ∃ w2 : Int, atI [V.int wh, V.int 3] si = some (.int w2) := by
                  have h2 := fx.sb si (List.mem_of_getElem? hsi)
                  have : si = 0 ∨ si = 1 := by omega
                  rcases this with rfl | rfl
                  · exact ⟨_, rfl⟩
                  · exact ⟨_, rfl⟩
                obtain ⟨w2, hw2⟩ := hwi
                refine ixL (SqL.of upd_same) hw2 ?_
                walk_at "wp"
                have kk : ∀ x o, x ≠ b → H7 x = some o → upd H8 p1 (.lst [.int wh, .int 3]) x = some o := fun x o nb h => sp _ _ (k8 _ _ nb h)
                generalize upd H8 p1 (.lst [.int wh, .int 3]) = H9 at sp kk
                have bo : ∃ o, H7 b = some (.lst o) := by
                  obtain ⟨x, y, z, h1, _⟩ := md7.wells b bm
                  exact ⟨_, h1⟩
                obtain ⟨bo, hbo⟩ := bo
                have ks9 : Ks [b] H7 H9 := ⟨fun x o nx h => kk x o (by simpa using nx) h, fun t xs e => kk t _ (ne_of e hbo (by intro q; cases q)) e⟩
                have hb9 := hb8.keep sp
                refine ixL (SqL.of (kk _ _ (bx D (by simp)) md7.hD)) (hx V.ref bs i b _ hbi (by omega)) ?_
                walk_at "wp"
                refine ixL (SqL.of (kk _ _ (bx r (by simp)) md7.hr)) (atI_of (show (0 + (i : Int)) = (i : Int) by omega) hvi) ?_
                walk_at "wp"
                have bG : G ≠ b := fun q => bap (by simp [q])
                have bPg : Pg ≠ b := fun q => bap (by simp [q])
                obtain ⟨pa7, hG7, pG7⟩ := md7.pile
                refine ⟨b, G, Pg, D3, n + 1, w2, vi, kvs, hs, Qs, rfl, hb9, by omega, kk _ _ bPg md7.hPg, ?_, kk _ _ D3b hD7, D3b, by omega, (Wpm.Lists.more L7 (S := [b]) (fun a ha q => bra (List.mem_singleton.mp q ▸ hsra a ha))).keep ks9, ok7, ?_, ?_⟩
                · rw [Paired.length md7.pegs]; have := dt.pegs.1; omega
                · intro x hx
                  rcases List.mem_cons.mp hx with e | hx
                  · rw [e]
                    exact ⟨bG, pa7, kk _ _ bG hG7, by rw [pG7.len]; have := dt.pile.1; omega⟩
                  · have xb : x ≠ b := fun q => bra (q ▸ hsra x hx)
                    obtain ⟨jx, hjx⟩ := List.mem_iff_getElem?.mp hx
                    obtain ⟨px, hpx, l, us, e, h2, p2, _⟩ := pair_at1 L7 (i := jx) (x := V.ref x) (by rw [List.getElem?_map, hjx]; rfl)
                    injection e with e
                    subst e
                    exact ⟨xb, us, kk _ _ xb h2, by rw [p2.len]; have := (ok7 px (List.mem_of_getElem? hpx)).1; omega⟩
                · intro H10 hb10 held
                  have md9 : Mid ws H D E r R Pl G Pg bs ra sd pp vs (n + 1) H9 Ps pw kvs kw := by
                    refine ⟨kk _ _ (bx D (by simp)) md7.hD, kk _ _ (bx E (by simp)) md7.hE, kk _ _ (bx r (by simp)) md7.hr, md7.hp.keep ks9.tk, kk _ _ (bx R (by simp)) md7.hR, kk _ _ (bx Pl (by simp)) md7.hPl, ?_, ⟨pa7, kk _ _ bG hG7, pG7.keep ks9.tk⟩, kk _ _ bPg md7.hPg, Paired.mapP md7.pegs fun _ _ q => q.keep ks9.tk, ?_, ?_⟩
                    · exact Lists.less ((Wpm.Lists.more md7.rows (S := [b]) (fun a ha q => bra (List.mem_singleton.mp q ▸ ha))).keep ks9) (fun _ h => nomatch h)
                    · intro x hx
                      by_cases e : x = b
                      · rw [e]; exact hb9
                      · exact ((md7.wells x hx).at fun o ho => kk x o e ho).mono (by omega)
                    · exact ks9.toSame md7.same fun a ha => by rw [List.mem_singleton.mp ha]; exact fx.fresh b (by simp [bm])
                  obtain ⟨Ps', pw', kvs', kw', md10, dt10⟩ := Mid.hold fx md9 dt hzi (wzi.keep (Same.tk (sq.trans (s6.trans s7)) |>.trans ks9.tk)) bm hb10 (by omega) held hh
                  walk_at "wp"
                  exact ⟨_, _, _, n + 1 + 15, Ps', pw', kvs', kw', rfl, md10, dt10, by omega⟩
            case _ =>
              have e3 : (Ps.any fun p => decide (zi ∈ p)) = true := by
                cases c : Ps.any fun p => decide (zi ∈ p) with
                | true => rfl
                | false => rw [c] at e2; cases e2
              walk_at "wp"
              exact ⟨_, _, _, n, Ps, pw, kvs, kw, rfl, md6, dt.skip (fun z hz => by rw [hzi] at hz; cases hz; exact Wpn.mem_stands.mpr (.inr e3)), by omega⟩
        case _ =>
          have e3 : zi ∈ pw ++ kw.map (·.2) := by
            by_cases c : zi ∈ pw ++ kw.map (·.2)
            · exact c
            · rw [decide_eq_false c] at e; cases e
          walk_at "wp"
          exact ⟨_, _, _, n, Ps, pw, kvs, kw, rfl, md.keep sq, dt.skip (fun z hz => by rw [hzi] at hz; cases hz; exact Wpn.mem_stands.mpr (.inl e3)), by omega⟩
      · rintro σ' H4 ⟨y5', y16, y17, n, Ps, pw, kvs, kw, rfl, md, dt, n0⟩
        exact ⟨hd, d1, N, y5', D, E, r, R, Pl, F, y12, G, Pg, nm, y16, y17, bs, ra, sd, pp, vs, ws, n, Ps, pw, kvs, kw, rfl, fx, md, dt⟩
    · clear md dt n0
      rintro σ' H' ⟨hd, d1, N, y5, D, E, r, R, Pl, F, y12, G, Pg, nm, y16, y17, bs, ra, sd, pp, vs, ws, n, Ps, pw, kvs, kw, rfl, fx, md, dt⟩
      have fl := fx.N30
      have hx : ∀ {α : Type} (f : α → V) (xs : List α) (j : Nat) (x : α) (u : Int), xs[j]? = some x → u = j → atI (xs.map f) u = some (f x) := fun f xs j x u e1 e2 => atI_of e2 (by rw [List.getElem?_map, e1]; rfl)
      walk_at "wp"
      refine ⟨by omega, by omega, fun D4 hD4 => ?_⟩
      rw [Int.toNat_natCast]
      refine loopCR (fun j Hx => Same H' Hx ∧ ∃ xs, Hx D4 = some (.lst xs) ∧ xs.length ≤ j ∧ Paired (IsT3 Hx) xs (goOf (ws.take j) (pp.take j) (ra.take j))) ⟨same_new hD4, [], upd_same, Nat.le_refl _, .nil⟩ ?_ ?_
      · rintro j H7 hj ⟨s7, xs, hD7, xl, hP7⟩
        have jN : j < N := hj
        have md7 := md.keep s7
        obtain ⟨vj, zj, hvj, hzj, wzj⟩ := md7.hp.at (i := j) (by rw [fx.wl]; exact jN)
        obtain ⟨tj, rfl, htj⟩ := wzj
        obtain ⟨qj, hqj⟩ : ∃ x, pp[j]? = some x := ⟨_, List.getElem?_eq_getElem (by rw [fx.pl]; exact jN)⟩
        obtain ⟨aj, haj⟩ : ∃ x, ra[j]? = some x := ⟨_, List.getElem?_eq_getElem (by rw [fx.rl]; exact jN)⟩
        have step := goOf_step hzj hqj haj
        walk_at "wp"
        refine ixL (SqL.of md7.hr) (atI_of (show (0 + (j : Int)) = (j : Int) by omega) hvj) ?_
        walk_at "wp"
        refine ite_ (fun e3 => ?_) (fun e3 => ?_)
        · walk_at "wp"
          refine ixL (SqL.of md7.hr) (atI_of (show (0 + (j : Int)) = (j : Int) by omega) hvj) ?_
          walk_at "wp"
          refine ixL (SqL.of md7.hPl) (hx V.int pp j qj _ hqj (by omega)) ?_
          walk_at "wp"
          refine ixL (SqL.of md7.hR) (hx V.ref ra j aj _ haj (by omega)) ?_
          walk_at "wp"
          rename_i t ht
          have st : Same H7 (upd H7 t (.tup [.int zj.2, .int qj, .ref aj])) := same_new ht
          refine ⟨_, st _ _ hD7, Wb.small (by omega), ?_, _, upd_same, ?_, ?_⟩
          · intro q z hq
            rw [upd_ne (ne_of_none hq hD4)]
            exact st _ _ (s7 _ _ hq)
          · rw [List.length_append]
            show xs.length + 1 ≤ j + 1
            omega
          · rw [step, if_pos (show zj.1 = sGo from V.str.inj e3)]
            exact Wpk.paired_snoc (Paired.mapP hP7 fun _ _ q => q.keep ((Same.tk st).trans (Tk.lst (st _ _ hD7)))) ⟨t, rfl, Tk.lst (st _ _ hD7) _ _ upd_same⟩
        · refine ⟨s7, xs, hD7, by omega, ?_⟩
          rw [step, if_neg (fun q => e3 (by rw [q]; rfl)), List.append_nil]
          exact hP7
      · rintro H7 ⟨s7, xs, hD7, xl, hP7⟩
        have md7 := md.keep s7
        rw [List.take_of_length_le (Nat.le_of_eq fx.wl), List.take_of_length_le (Nat.le_of_eq fx.pl), List.take_of_length_le (Nat.le_of_eq fx.rl)] at hP7
        walk_at "wp"
        refine ⟨by omega, by omega, fun D5 hD5 => ?_⟩
        rw [Int.toNat_natCast]
        refine loopCR (fun j Hx => Same H7 Hx ∧ ∃ xs, Hx D5 = some (.lst xs) ∧ xs.length ≤ j ∧ Paired (IsBoxT Hx) xs (boxOf (ws.take j) (Ps.take j))) ⟨same_new hD5, [], upd_same, Nat.le_refl _, .nil⟩ ?_ ?_
        · rintro j H8 hj ⟨s8, ys, hD8, yl, hP8⟩
          have jN : j < N := hj
          have md8 := md7.keep s8
          obtain ⟨vj, zj, hvj, hzj, wzj⟩ := md8.hp.at (i := j) (by rw [fx.wl]; exact jN)
          obtain ⟨tj, rfl, htj⟩ := wzj
          obtain ⟨aj, haj⟩ : ∃ x, ra[j]? = some x := ⟨_, List.getElem?_eq_getElem (by rw [fx.rl]; exact jN)⟩
          obtain ⟨pj, hpj, lj⟩ := pair_at1 md8.rows (i := j) (x := V.ref aj) (by rw [List.getElem?_map, haj]; rfl)
          obtain ⟨lx, us, e, hl8, pl8, _⟩ := lj
          injection e with e
          subst e
          walk_at "wp"
          refine ixL (SqL.of md8.hr) (atI_of (show (0 + (j : Int)) = (j : Int) by omega) hvj) ?_
          walk_at "wp"
          refine ite_ (fun e3 => ?_) (fun e3 => ?_)
          · have l1 := (dt.rows j zj pj hzj hpj).1 (V.str.inj e3)
            obtain ⟨y, rfl⟩ : ∃ y, pj = [y] := by
              match pj, l1 with
              | [y], _ => exact ⟨y, rfl⟩
            have step := boxOf_step hzj hpj
            cases pl8 with
            | @cons v0 _ us0 _ wy t0 =>
              walk_at "wp"
              refine ixL (SqL.of md8.hr) (atI_of (show (0 + (j : Int)) = (j : Int) by omega) hvj) ?_
              walk_at "wp"
              refine ixL (SqL.of md8.hR) (hx V.ref ra j aj _ haj (by omega)) ?_
              walk_at "wp"
              refine ixL (SqL.of hl8) (atI_of (j := 0) (n := 0) rfl rfl) ?_
              walk_at "wp"
              rename_i t ht
              have st : Same H8 (upd H8 t (.tup [.int zj.2, v0])) := same_new ht
              have tk := (Same.tk st).trans (Tk.lst (o := .lst (ys ++ [V.ref t])) (st _ _ hD8))
              refine ⟨_, st _ _ hD8, Wb.small (by omega), ?_, _, upd_same, ?_, ?_⟩
              · intro q z hq
                rw [upd_ne (ne_of_none hq hD5)]
                exact st _ _ (s8 _ _ hq)
              · rw [List.length_append]
                show ys.length + 1 ≤ j + 1
                omega
              · rw [step, if_pos (show zj.1 = sBox from V.str.inj e3)]
                exact Wpk.paired_snoc (Paired.mapP hP8 fun _ _ q => q.keep tk) ⟨t, v0, rfl, Tk.lst (st _ _ hD8) _ _ upd_same, wy.keep tk⟩
          · refine ⟨s8, ys, hD8, by omega, ?_⟩
            rw [boxOf_step0 hzj hpj (fun q => e3 (by rw [q]; rfl))]
            exact hP8
        · rintro H8 ⟨s8, ys, hD8, yl, hP8⟩
          have md8 := md7.keep s8
          rw [List.take_of_length_le (Nat.le_of_eq fx.wl), List.take_of_length_le (Nat.le_of_eq dt.psl)] at hP8
          have hP7' := Paired.mapP hP7 fun _ _ q => q.keep (Same.tk s8)
          obtain ⟨pa8, hG8, pG8⟩ := md8.pile
          walk_at "wp"
          refine ⟨.inr (.inr (.inl ⟨rfl, .inl ⟨_, md8.hPg⟩⟩)), Pg, kvs, rfl, rfl, md8.hPg, fun p hp => ?_⟩
          walk_at "wp"
          have sp : Same H8 (upd H8 p (L2.DX.itemsO p Pg)) := same_new hp
          have md9 := md8.keep sp
          refine sort_pegs md9.pegs dt.pegs.2.1 upd_same md9.hPg (fun H10 l xb kw' s10 hl hl10 pm up pt => ?_)
          have s810 := sp.trans s10
          walk_at "wp"
          rename_i t ht
          have s11 := s810.trans (same_new (o := .tup [.ref G, .ref l, .ref D4, .ref D5]) ht)
          have st := same_new (o := .tup [.ref G, .ref l, .ref D4, .ref D5]) ht
          have md11 := md8.keep s11
          refine q _ ⟨pw, kw', goOf ws pp Ps, boxOf ws Ps⟩ _ ?_ (made dt fx.wl fx.N30 fx.pl fx.wn fx.pp0 pm up).1 (made dt fx.wl fx.N30 fx.pl fx.wn fx.pp0 pm up).2 md11.same
          intro S hS
          have fr : ∀ x, H x = none → x ∉ S := fun x h m => hS x m h
          have new : ∀ {x : Addr} {Hx : Hp}, Same H Hx → Hx x = none → H x = none := fun {x Hx} s h => by
            cases e : H x with
            | none => rfl
            | some o => rw [s _ _ e] at h; cases h
          refine ⟨t, G, l, D4, D5, pa8, xb, xs, ys, rfl, upd_same, ⟨s11 _ _ hG8, st _ _ hl10, s11 _ _ (s8 _ _ hD7), s11 _ _ hD8, pG8.keep (Same.tk s11), Paired.mapP pt fun _ _ q => q.keep (Same.tk st), ?_, Paired.mapP hP8 fun _ _ q => q.keep (Same.tk s11), ?_⟩⟩
          · exact t3_go md11.rows (fun a ha => fr a (fx.fresh a (by simp [ha]))) (Paired.mapP hP7' fun _ _ q => q.keep (Same.tk s11))
          · intro x hx
            refine fr x ?_
            simp only [List.mem_cons, List.not_mem_nil, or_false] at hx
            rcases hx with rfl | rfl | rfl | rfl
            · exact fx.fresh _ (by simp)
            · exact new (md8.same.trans sp) hl
            · exact new md.same hD4
            · exact new md7.same hD5
theorem pic_mid (T : Txt P w K mg) {cdv : Value} {A : Around} {outer : List Env} {s : Shared} {H : Hp} {Q : VK} {E : XK} (hr : Room 4 (A.deeper (envOfC "_law_picture" (defScope s_picture) s.heap.objs.size T.f_picture cdv))) (c : Addr) (most : Int) {tB : TS} (pB : PSs (cxOf CX0 P w K mg base ["cells", "most", "head", "parts", "many", "k", "wells", "sides", "names", "rows", "places", "some", "size", "pile", "pegs", "name", "hosts", "where", "goings", "boxes", "well", "j", "row"] "_law_picture" (defScope s_picture) T.f_picture cdv A outer s H E).nox ((defBody s_picture).drop 14) tB) (bk : ∀ σ' H', M13 c most H σ' H' → tB { nx := fun _ H' => Q .non H', rt := Q } σ' H') : ∃ t, PSs (cxOf CX0 P w K mg base ["cells", "most", "head", "parts", "many", "k", "wells", "sides", "names", "rows", "places", "some", "size", "pile", "pegs", "name", "hosts", "where", "goings", "boxes", "well", "j", "row"] "_law_picture" (defScope s_picture) T.f_picture cdv A outer s H E).nox ((defBody s_picture).drop 9) t ∧ ∀ σ' H', M8 c most H σ' H' → t { nx := fun _ H' => Q .non H', rt := Q } σ' H' := by
  have G_cell_at := ok_cell_at (base := base) T
  have G_well := ok_well (base := base) T
  have G_draw := ok_draw (base := base) T
  have G_worth := ok_worth (base := base) T
  have G_name := ok_name (base := base) T
  have G_numbered := ok_numbered (base := base) T
  have G_hold := ok_hold (base := base) T
  refine ⟨_, (pss_cons (ps_set (i := 11) sc_picture.nd rfl (.inr rfl) (pe_lc (own := [("j", 21)]) rfl sc_picture.nd (pi_range1 (by rfl) T.n_range (pa_cons (pv 4) pa_nil)) (blkOk_by (N := ["cells", "most", "head", "parts", "many", "k", "wells", "sides", "names", "rows", "places", "some", "size", "pile", "pegs", "name", "hosts", "where", "goings", "boxes", "well", "j", "row"]) (sc := defScope s_picture) (by decide +kernel)) (fun _ _ _ _ _ => pg_name (i := 21) sc_picture.nd rfl (Or.inl rfl)) (fun _ _ _ _ _ => pts_one (pt_cmpR op_eq (pe_ix (show IxR _ (rIxL K) from ix_list) (pv 7) (pv 21) (fun _ _ => rfl)) pe_int (nomark _))) (fun _ _ _ _ _ => (pe_ix (show IxR _ (rIxL K) from ix_list) (pv 8) (pv 21) (fun _ _ => rfl)))))
      (pss_cons (ps_setLc (i := 13) (own := [("j", 21)]) rfl sc_picture.nd rfl rfl (sw_true rfl rfl rfl (by decide +kernel)) (pi_range1 (by rfl) T.n_range (pa_cons (pe_call G_draw (hr.mono (by decide)) (by rfl) T.g_draw T.F_draw.kp T.b_draw .nil pass0 (pa_cons (pv 2) (pa_cons pe_int pa_nil))) pa_nil)) (blkOk_by (N := ["cells", "most", "head", "parts", "many", "k", "wells", "sides", "names", "rows", "places", "some", "size", "pile", "pegs", "name", "hosts", "where", "goings", "boxes", "well", "j", "row"]) (sc := defScope s_picture) (by decide +kernel)) (fun _ _ _ _ _ => pg_name (i := 21) sc_picture.nd rfl (Or.inl rfl)) (fun _ _ _ _ _ => pts_nil) (fun _ _ _ _ _ => (pe_call G_worth (hr.mono (by decide)) (by rfl) T.g_worth T.F_worth.kp T.b_worth .nil pass0 (pa_cons (pv 2) (pa_cons (pv 11) pa_nil)))))
      (pss_cons (ps_set (i := 14) sc_picture.nd rfl (.inl rfl) pe_dnewK)
      (pss_cons (ps_set (i := 15) sc_picture.nd rfl (.inl rfl) pe_str)
      (C8.pss_cut (ps_for PassesOwn.never rfl (pi_range1 (by rfl) T.n_range (pa_cons (pe_call G_draw (hr.mono (by decide)) (by rfl) T.g_draw T.F_draw.kp T.b_draw .nil pass0 (pa_cons (pv 2) (pa_cons pe_int pa_nil))) pa_nil)) (pg_name (i := 5) sc_picture.nd rfl (.inr rfl)) (pss_cons (ps_set (i := 15) sc_picture.nd rfl (.inl rfl) (pe_call G_name (hr.mono (by decide)) (by rfl) T.g_name T.F_name.kp T.b_name .nil pass0 (pa_cons (pv 2) (pa_cons (pv 15) pa_nil))))
      (pss_one (ps_dput (hu_of hr) (pv 14) (pv 15) (pe_call G_worth (hr.mono (by decide)) (by rfl) T.g_worth T.F_worth.kp T.b_worth .nil pass0 (pa_cons (pv 2) (pa_cons (pv 11) pa_nil))) rfl))))
      pB))))), ?_⟩
  try dsimp only [cxOf]
  · rintro σ' H8 ⟨hd, d1, N, y5, D, E, r, R, Pl, y11, y12, bs, ra, sd, pp, vs, ws, nn, Ps, rfl, fx, md, LP, hw8, nb⟩
    have bl := fx.bl
    have sl := fx.sl
    have wsl := fx.wl
    have N30 := fx.N30
    have hE8 := md.hE
    have hD8 := md.hD
    have hr8 := md.hr
    have p8 := md.hp
    have hx : ∀ {α : Type} (f : α → V) (xs : List α) (j : Nat) (x : α) (u : Int), xs[j]? = some x → u = j → atI (xs.map f) u = some (f x) := fun f xs j x u e1 e2 => atI_of e2 (by rw [List.getElem?_map, e1]; rfl)
    walk_at "wp"
    refine ⟨by omega, by omega, fun F hF => ?_⟩
    rw [Int.toNat_natCast]
    refine Wpk.lc_pick (ws := ws) (by omega) hF ?_ ?_
    · intro j H9 hj s9 R1 R0 hR1 hR0
      obtain ⟨sj, hsj⟩ : ∃ x, sd[j]? = some x := ⟨_, List.getElem?_eq_getElem (by omega)⟩
      obtain ⟨vj, zj, hvj, hzj, wzj⟩ := p8.at (i := j) (by omega)
      walk_at "wp"
      refine ixL (SqL.of (s9 _ _ hE8)) (hx V.int sd j sj _ hsj (by omega)) ?_
      walk_at "wp"
      refine Wp.iteB (fun e => ?_) (fun e => ?_)
      · walk_at "wp"
        refine ixL (SqL.of (s9 _ _ hr8)) (atI_of (show (0 + (j : Int)) = (j : Int) by omega) hvj) ?_
        exact hR1 _ _ (wzj.keep (Same.tk s9)) (List.mem_of_getElem? hzj)
      · exact hR0
    · intro H9 acc zs s9 hF9 pF zl zk
      have hw9 := hw8.keep s9
      have hF_hd : F ≠ hd := fun e => by
        obtain ⟨x, y, z, h1, _⟩ := hw8
        rw [← e, hF] at h1; cases h1
      have zok : ∀ z ∈ zs, Wok z := by
        intro z hz
        rcases (fx.wn.1 z (zk z hz)).1 with e | e
        · show PyData.strOk z.1 = true
          rw [e]; decide +kernel
        · show PyData.strOk z.1 = true
          rw [e]; decide +kernel
      walk_at "wp"
      refine ⟨hd, 2, _, rfl, hw9, by decide, by decide, by decide, fun np H10 np0 np1 hw10 k10 => ?_⟩
      have hF10 := k10 _ _ hF_hd hF9
      have pF10 := pF.keep (hw9.ks k10).tk
      walk_at "wp"
      refine ⟨by omega, by omega, fun G hG => ?_⟩
      have FG : F ≠ G := ne_of_none hF10 hG
      refine Ww.lc_wells (n := 3) (inc := 4) (ok := Newly ws) (by omega) hw10 hG ?_ ?_
      · intro j H15 hj R1 hb15 k15 hR1
        have hF15 : H15 F = _ := k15.keep F _ (by simp [FG, hF_hd]) (by rw [upd_ne FG]; exact hF10)
        have pF15 := (pF10.keep (Tk.new hG)).keep k15.tk
        walk_at "wp"
        refine ⟨hd, F, _, acc, zs, rfl, hb15, by omega, hF15, pF15, zok, by omega, hF_hd, fun v z H16 wz nz hb16 k16 => ?_⟩
        refine hR1 v z H16 wz ?_ hb16 k16
        rcases nz with h | h
        · exact .inl (zk z h)
        · exact .inr h
      · intro H11 pa pw hw11 k11 hG11 pG11 pwl pwk
        have hF11 : H11 F = some (.lst acc) := k11.keep F _ (by simp [hF_hd]) hF10
        have pF11 := pF10.keep k11.tk
        walk_at "wp"
        intro Pg hPg
        have sg : Same H11 (upd H11 Pg (.dK [])) := same_new hPg
        have hw12 := hw11.keep sg
        have Phd : Pg ≠ hd := fun e => by
          obtain ⟨x, y, z, h1, _⟩ := hw11
          rw [← e, hPg] at h1; cases h1
        have FPg : F ≠ Pg := ne_of_none hF11 hPg
        walk_at "wp"
        refine Wp.cut (M13 c most H) ?_ bk
        · walk_at "wp"
          refine ⟨hd, _, _, rfl, hw12, by omega, by decide, by decide, fun ng H13 ng0 ng1 hw13 k13 => ?_⟩
          have hPg13 : H13 Pg = some (.dK []) := k13 _ _ Phd upd_same
          have hF13 := k13 _ _ hF_hd (sg _ _ hF11)
          have pF13 := (pF11.keep (Same.tk sg)).keep (hw12.ks k13).tk
          walk_at "wp"
          refine ⟨by omega, by omega, ?_⟩
          refine loopR (fun i σ H' => ∃ (kvs : List (Key × V)) (nm : Str) (y5' : Option V), σ = [some (.ref c), some (.int most), some (.ref hd), some (.int d1), some (.int N), y5', some (.ref D), some (.ref E), some (.ref r), some (.ref R), some (.ref Pl), some (.ref F), y12, some (.ref G), some (.ref Pg), some (.str nm), none, none, none, none, none, none, none] ∧
            Wu.Nm nm ∧ H' Pg = some (.dK kvs) ∧ PegOk ws H' kvs i ∧ Ww.Well H' hd (3 + 4 * np.toNat + 1 + 16 * i) ∧ Ks [Pg, hd] H13 H')
            ⟨[], Str.ofString "", _, rfl, ⟨Wu.Low.nil, by decide +kernel⟩, hPg13, ⟨(fun _ h => nomatch h), .nil, Nat.le_refl _⟩, hw13, Ks.refl⟩ ?_ ?_
          · rintro i σ H4 hi ⟨kvs, nm, y5', rfl, nmk, hPg4, pk4, hw4', k4'⟩
            have hi' : i < ng.toNat := hi
            have hF4 : H4 F = some (.lst acc) := k4'.keep F _ (by simp [FPg, hF_hd]) hF13
            have pF4 := pF13.keep k4'.tk
            walk_at "wp"
            refine ⟨hd, _, nm, rfl, hw4', by omega, nmk, fun nm2 H14 nk nl hw14 k14 => ?_⟩
            have hF14 := k14 _ _ hF_hd hF4
            have pF14 := pF4.keep (hw4'.ks k14).tk
            have hPg14 := k14 _ _ Phd hPg4
            walk_at "wp"
            refine ⟨hd, F, _, acc, zs, rfl, hw14, by omega, hF14, pF14, zok, by omega, hF_hd, fun v z H15 wz nz hw15 k15 => ?_⟩
            have hPg15 := k15 _ _ Phd hPg14
            have nz' : Newly ws z := by
              rcases nz with h | h
              · exact .inl (zk z h)
              · exact .inr h
            have k45 : Ks [Pg, hd] H4 H15 := Ks.mono ((hw4'.ks k14).trans (hw14.ks k15)) (by simp)
            walk_at "wp"
            refine ⟨Pg, _, rfl, DPut.k (k := Sum.inr nm2) hPg15 (by have := pk4.2.2; have : 1000 < sizeLine := by decide
                                                                    omega), ?_⟩
            have kD : Ks [Pg, hd] H15 (upd H15 Pg (.dK (putK kvs (.inr nm2) v))) := ⟨fun x u nx e => by rw [upd_ne (fun q : x = Pg => nx (by rw [q]; simp))]; exact e, Tk.dK hPg15⟩
            exact ⟨putK kvs (.inr nm2) v, nm2, _, rfl, nk, upd_same, (PegOk.put (pk4.keep k45.tk) wz nk nl nz').keep kD.tk, (hw15.mono (by omega)).upd Phd, (k4'.trans k45).trans kD⟩
          · rintro σ H4 ⟨kvs, nm, y5', rfl, nmk, hPg4, pk4, hw4', k4'⟩
            have SH9 := md.same.trans s9
            have hdn : H hd = none := fx.fresh hd List.mem_cons_self
            have hdn' : ∀ a ∈ [hd], H a = none := fun a ha => by rw [List.mem_singleton.mp ha]; exact hdn
            have new : ∀ {x : Addr} {Hx : Hp}, Same H Hx → Hx x = none → H x = none := fun {x Hx} s h => by
              cases e : H x with
              | none => rfl
              | some o => rw [s _ _ e] at h; cases h
            have ks10 := hw9.ks k10
            have SH10 := ks10.toSame SH9 hdn'
            have SH11 := k11.toSame SH10 hdn'
            have Gn := new SH10 hG
            have Pgn := new SH11 hPg
            have ks13 := hw12.ks k13
            have SH13 := ks13.toSame (SH11.trans sg) hdn'
            have SHe := k4'.toSame SH13 (fun a ha => by
              rcases List.mem_cons.mp ha with e | ha
              · rw [e]; exact Pgn
              · exact hdn' a ha)
            have k9e : Ks [hd] H8 H11 := (Ks.same s9).trans (ks10.trans k11)
            have kall : Ks [Pg, hd] H8 _ := (Ks.mono k9e (by simp)).trans ((Ks.same sg).trans ((Ks.mono ks13 (by simp)).trans k4'))
            have up : ∀ x o, H8 x = some o → x ≠ hd → x ≠ Pg ∧ x ≠ G := fun x o h n => by
              have h9 := s9 _ _ h
              have h10 := k10 _ _ n h9
              have h11 := k11.keep x o (by simpa using n) h10
              exact ⟨ne_of_none h11 hPg, ne_of_none h10 hG⟩
            have Ghd : G ≠ hd := fun e => by
              obtain ⟨x, y, z, h1, _⟩ := hw10
              rw [← e, hG] at h1
              cases h1
            have PgG : Pg ≠ G := fun e => by rw [e, hG11] at hPg; cases hPg
            have hG4 := k4'.keep G _ (fun m => by
              rcases List.mem_cons.mp m with e | m
              · exact PgG e.symm
              · exact Ghd (List.mem_singleton.mp m)) (k13 _ _ Ghd (sg _ _ hG11))
            have pG4 := ((pG11.keep (Same.tk sg)).keep ks13.tk).keep k4'.tk
            obtain ⟨kw, f13, g13, h13⟩ := m13_of fx md LP kall up Gn Pgn Ghd PgG Phd hG4 pG4 (by rw [pwl]; omega) pwk hPg4 ⟨pk4.1, pk4.2.1, by have := pk4.2.2; omega⟩ SHe
            exact ⟨hd, d1, N, _, D, E, r, R, Pl, F, _, G, Pg, nm, bs, ra, sd, pp, vs, ws, _, Ps, pw, kvs, kw, rfl, f13, g13, h13, nb⟩
theorem ok_picture (T : Txt P w K mg) : FnOk P w K mg base CX0 5 T.f_picture T.fd_picture ["cells", "most"] (spPicture K) := by
  have G_cell_at := ok_cell_at (base := base) T
  have G_well := ok_well (base := base) T
  have G_draw := ok_draw (base := base) T
  have G_worth := ok_worth (base := base) T
  have G_name := ok_name (base := base) T
  have G_numbered := ok_numbered (base := base) T
  have G_hold := ok_hold (base := base) T
  refine T.F_picture.ok sc_picture (fun vs H Q E h => ?_) (fun cdv A outer s H vs Q E hr h => ?_)
  · obtain ⟨c, cs, most, rfl, _⟩ := h
    rfl
  · obtain ⟨c, cs, most, rfl, hcs, cl, m0, m1, q⟩ := h
    obtain ⟨tB, pB, back⟩ := pic_back (base := base) (outer := outer) (E := E) T hr c most q
    obtain ⟨tM, pM, mid⟩ := pic_mid (base := base) (outer := outer) (E := E) T hr c most pB back
    clear back pB q
    refine ⟨_, (pss_cons (ps_set (i := 2) sc_picture.nd rfl (.inr rfl) (pe_call G_well (hr.mono (by decide)) (by rfl) T.g_well T.F_well.kp T.b_well .nil pass0 (pa_cons (pe_call G_cell_at (hr.mono (by decide)) (by rfl) T.g_cell_at T.F_cell_at.kp T.b_cell_at .nil pass0 (pa_cons (pv 0) (pa_cons pe_int pa_nil))) (pa_cons pe_int pa_nil))))
      (pss_cons (ps_set (i := 3) sc_picture.nd rfl (.inr rfl) (pe_op op_add pe_int (pe_call G_draw (hr.mono (by decide)) (by rfl) T.g_draw T.F_draw.kp T.b_draw .nil pass0 (pa_cons (pv 2) (pa_cons pe_int pa_nil)))))
      (pss_cons (ps_set (i := 4) sc_picture.nd rfl (.inl rfl) (pe_callB (call_min2 rfl) (by rfl) T.n_min (by decide +kernel) (pa_cons (pv 1) (pa_cons (pe_op op_add (pe_call G_draw (hr.mono (by decide)) (by rfl) T.g_draw T.F_draw.kp T.b_draw .nil pass0 (pa_cons (pv 2) (pa_cons pe_int pa_nil))) (pe_callB (call_max2 rfl) (by rfl) T.n_max (by decide +kernel) (pa_cons pe_int (pa_cons (pe_op op_sub (pe_callB call_len_seq (by rfl) T.n_len (by decide +kernel) (pa_cons (pv 0) pa_nil)) pe_int) pa_nil)))) pa_nil))))
      (pss_cons (ps_set (i := 6) sc_picture.nd rfl (.inr rfl) (pe_lc (own := [("k", 5)]) rfl sc_picture.nd (pi_range1 (by rfl) T.n_range (pa_cons (pv 4) pa_nil)) (blkOk_by (N := ["cells", "most", "head", "parts", "many", "k", "wells", "sides", "names", "rows", "places", "some", "size", "pile", "pegs", "name", "hosts", "where", "goings", "boxes", "well", "j", "row"]) (sc := defScope s_picture) (by decide +kernel)) (fun _ _ _ _ _ => pg_name (i := 5) sc_picture.nd rfl (Or.inl rfl)) (fun _ _ _ _ _ => pts_nil) (fun _ _ _ _ _ => (pe_call G_well (hr.mono (by decide)) (by rfl) T.g_well T.F_well.kp T.b_well .nil pass0 (pa_cons (pe_call G_cell_at (hr.mono (by decide)) (by rfl) T.g_cell_at T.F_cell_at.kp T.b_cell_at .nil pass0 (pa_cons (pv 0) (pa_cons (pe_op op_add pe_int (pv 5)) pa_nil))) (pa_cons (pv 5) pa_nil))))))
      (pss_cons (ps_set (i := 7) sc_picture.nd rfl (.inr rfl) (pe_lc (own := [("well", 20)]) rfl sc_picture.nd (pi_list (pv 6)) (blkOk_by (N := ["cells", "most", "head", "parts", "many", "k", "wells", "sides", "names", "rows", "places", "some", "size", "pile", "pegs", "name", "hosts", "where", "goings", "boxes", "well", "j", "row"]) (sc := defScope s_picture) (by decide +kernel)) (fun _ _ _ _ _ => pg_name (i := 20) sc_picture.nd rfl (Or.inl rfl)) (fun _ _ _ _ _ => pts_nil) (fun _ _ _ _ _ => (pe_call G_draw (hr.mono (by decide)) (by rfl) T.g_draw T.F_draw.kp T.b_draw .nil pass0 (pa_cons (pv 20) (pa_cons (pv 3) pa_nil))))))
      (pss_cons (ps_set (i := 8) sc_picture.nd rfl (.inr rfl) (pe_call G_numbered (hr.mono (by decide)) (by rfl) T.g_numbered T.F_numbered.kp T.b_numbered .nil pass0 (pa_cons (pv 6) pa_nil)))
      (pss_cons (ps_set (i := 9) sc_picture.nd rfl (.inr rfl) (pe_lst pa_nil))
      (pss_cons (ps_set (i := 10) sc_picture.nd rfl (.inr rfl) (pe_lst pa_nil))
      (C8.pss_cut (ps_for PassesOwn.never rfl (pi_range1 (by rfl) T.n_range (pa_cons (pv 4) pa_nil)) (pg_name (i := 5) sc_picture.nd rfl (.inr rfl)) (pss_cons (ps_set (i := 11) sc_picture.nd rfl (.inr rfl) (pe_lc (own := [("j", 21)]) rfl sc_picture.nd (pi_range1 (by rfl) T.n_range (pa_cons (pv 4) pa_nil)) (blkOk_by (N := ["cells", "most", "head", "parts", "many", "k", "wells", "sides", "names", "rows", "places", "some", "size", "pile", "pegs", "name", "hosts", "where", "goings", "boxes", "well", "j", "row"]) (sc := defScope s_picture) (by decide +kernel)) (fun _ _ _ _ _ => pg_name (i := 21) sc_picture.nd rfl (Or.inl rfl)) (fun _ _ _ _ _ => pts_one (pt_cmpR op_le (pe_ix (show IxR _ (rIxL K) from ix_list) (pv 7) (pv 21) (fun _ _ => rfl)) (pe_ix (show IxR _ (rIxL K) from ix_list) (pv 7) (pv 5) (fun _ _ => rfl)) (nomark _))) (fun _ _ _ _ _ => (pe_ix (show IxR _ (rIxL K) from ix_list) (pv 8) (pv 21) (fun _ _ => rfl)))))
      (pss_cons (ps_expr (pe_bm PySem.F.plainAttrs_list PySem.F.slot_list_append PySem.F.type_list_append mt_append (pv 10) (pa_cons (pe_call G_draw (hr.mono (by decide)) (by rfl) T.g_draw T.F_draw.kp T.b_draw .nil pass0 (pa_cons (pe_ix ix_list (pv 6) (pv 5) (fun _ _ => rfl)) (pa_cons (pe_ix ix_list (pe_lst (pa_cons pe_int (pa_cons (pe_op op_pow pe_int pe_int) pa_nil))) (pe_call G_draw (hr.mono (by decide)) (by rfl) T.g_draw T.F_draw.kp T.b_draw .nil pass0 (pa_cons (pe_ix ix_list (pv 6) (pv 5) (fun _ _ => rfl)) (pa_cons pe_int pa_nil))) (fun _ _ => rfl)) pa_nil))) pa_nil)))
      (pss_cons (ps_set (i := 12) sc_picture.nd rfl (.inl rfl) pe_int)
      (C8.pss_cut (ps_if (pt_cmpR op_eq (pe_ix ix_tup (pe_ix ix_list (pv 8) (pv 5) (fun _ _ => rfl)) pe_int (fun _ _ => rfl)) pe_str (nomark _)) (pss_one (ps_set (i := 12) sc_picture.nd rfl (.inl rfl) (pe_call G_draw (hr.mono (by decide)) (by rfl) T.g_draw T.F_draw.kp T.b_draw .nil pass0 (pa_cons (pe_ix ix_list (pv 6) (pv 5) (fun _ _ => rfl)) (pa_cons pe_int pa_nil))))) pss_nil)
      (pss_one (ps_expr (pe_bm PySem.F.plainAttrs_list PySem.F.slot_list_append PySem.F.type_list_append mt_append (pv 9) (pa_cons (pe_lc (own := [("j", 21)]) rfl sc_picture.nd (pi_range1 (by rfl) T.n_range (pa_cons (pv 12) pa_nil)) (blkOk_by (N := ["cells", "most", "head", "parts", "many", "k", "wells", "sides", "names", "rows", "places", "some", "size", "pile", "pegs", "name", "hosts", "where", "goings", "boxes", "well", "j", "row"]) (sc := defScope s_picture) (by decide +kernel)) (fun _ _ _ _ _ => pg_name (i := 21) sc_picture.nd rfl (Or.inl rfl)) (fun _ _ _ _ _ => pts_nil) (fun _ _ _ _ _ => (pe_call G_worth (hr.mono (by decide)) (by rfl) T.g_worth T.F_worth.kp T.b_worth .nil pass0 (pa_cons (pe_ix (show IxR _ (rIxL K) from ix_list) (pv 6) (pv 5) (fun _ _ => rfl)) (pa_cons (pv 11) pa_nil))))) pa_nil)))))))))
      pM))))))))), ?_⟩
    rw [show L2.start ["cells", "most", "head", "parts", "many", "k", "wells", "sides", "names", "rows", "places", "some", "size", "pile", "pegs", "name", "hosts", "where", "goings", "boxes", "well", "j", "row"] [.ref c, .int most] = [some (.ref c), some (.int most), none, none, none, none, none, none, none, none, none, none, none, none, none, none, none, none, none, none, none, none, none] from rfl]
    try dsimp only [cxOf]
    · walk_at "wp"
      refine ⟨c, cs, 0, rfl, hcs, fun v0 => ?_⟩
      walk_at "wp"
      refine ⟨v0, 63, rfl, by decide, fun hd H1 hdn hw1 s1 => ?_⟩
      walk_at "wp"
      refine ⟨hd, 0, _, rfl, hw1, by decide, by decide, by decide, fun d1 H2 d10 d11 hw2 k2 => ?_⟩
      walk_at "wp"
      refine ⟨hd, 1, _, rfl, hw2, by decide, by decide, by decide, fun d2 H3 d20 d21 hw3 k3 => ?_⟩
      have S3 : Same H H3 := Kp.same hdn (Kp.trans (fun a o _ e => s1 a o e) (Kp.trans k2 k3))
      have hcs3 : SqL K H3 c (cs.map V.int) := S3.seq hcs
      walk_at "wp"
      generalize hmn : (if (d2 + if ((List.map V.int cs).length : Int) - 1 > 0 then ((List.map V.int cs).length : Int) - 1 else 0) < most then d2 + if ((List.map V.int cs).length : Int) - 1 > 0 then ((List.map V.int cs).length : Int) - 1 else 0 else most) = mn
      have mn0 : 0 ≤ mn := by rw [← hmn]; split <;> (try split) <;> omega
      have mn1 : mn ≤ 30 := by rw [← hmn]; split <;> (try split) <;> omega
      clear hmn
      obtain ⟨N, rfl⟩ : ∃ N : Nat, mn = N := ⟨mn.toNat, (Int.toNat_of_nonneg mn0).symm⟩
      have N30 : N ≤ 30 := by omega
      refine ⟨by omega, by omega, fun D hD => ?_⟩
      rw [Int.toNat_natCast]
      have hDd : hd ≠ D := (hw3.ne_new hD).symm
      refine loopCR (fun j H' => ∃ bs : List Addr, H' D = some (.lst (bs.map V.ref)) ∧ bs.length = j ∧ Wells H' bs 0 ∧ (∀ b ∈ bs, H3 b = none ∧ b ≠ D) ∧ Ks [D] (upd H3 D (.lst [])) H') ⟨[], upd_same, rfl, (fun _ h => nomatch h), (fun _ h => nomatch h), Ks.refl⟩ ?_ ?_
      · rintro j H4 hj ⟨bs, hD4, bl, wb, nb, k4⟩
        have hc4 : SqL K H4 c (cs.map V.int) := (S3.trans (k4.toSame (same_new hD) (by simp [hD]))).seq hcs
        walk_at "wp"
        refine ⟨c, cs, 1 + j, by rw [show (1 + (0 + (j : Int))) = ((1 + j : Nat) : Int) from by omega]; rfl, hc4, fun v1 => ?_⟩
        walk_at "wp"
        refine ⟨v1, j, by rw [show (0 + (j : Int)) = (j : Int) from by omega]; rfl, by omega, fun b H5 hbn hwb s5 => ?_⟩
        have hD5 := s5 _ _ hD4
        have bD : b ≠ D := fun e => by rw [e, hD4] at hbn; cases hbn
        have b3 : H3 b = none := by
          cases e : H3 b with
          | none => rfl
          | some o =>
            have := k4.keep b o (by simp [bD]) (by rw [upd_ne bD]; exact e)
            rw [hbn] at this; cases this
        refine ⟨_, hD5, ?_, bs ++ [b], ?_, ?_, ?_, ?_, ?_⟩
        · rw [List.length_map, bl]
          have : 1000 < sizeLine := by decide
          omega
        · rw [upd_same, List.map_append]; rfl
        · rw [List.length_append, bl]; rfl
        · intro x hx
          rcases List.mem_append.mp hx with hx | hx
          · exact ((wb x hx).keep s5).upd (nb x hx).2.symm
          · rw [List.mem_singleton.mp hx]; exact hwb.upd bD.symm
        · intro x hx
          rcases List.mem_append.mp hx with hx | hx
          · exact nb x hx
          · rw [List.mem_singleton.mp hx]; exact ⟨b3, bD⟩
        · exact k4.trans ((Ks.same s5).trans (Ks.upd hD5 List.mem_cons_self))
      · rintro H4 ⟨bs, hD4, bl, wb, nb, k4⟩
        have S4 : Same H3 H4 := (k4.toSame (same_new hD) (by simp [hD]))
        have hw4 := hw3.keep S4
        walk_at "wp"
        have Dbs : D ∉ bs := fun m => (nb D m).2 rfl
        have hdbs : hd ∉ bs := fun m => by
          obtain ⟨x, y, z, h1, _⟩ := hw3
          have := (nb hd m).1
          rw [h1] at this; cases this
        refine ⟨⟨_, SqL.of hD4⟩, fun E hE => ?_⟩
        have ED : E ≠ D := (ne_of_none hD4 hE).symm
        have Ebs : E ∉ bs := fun m => by
          obtain ⟨x, y, z, h1, _⟩ := wb E m
          rw [h1] at hE; cases hE
        refine loopCL (xs := bs.map V.ref) (fun j H' => ∃ sd : List Int, H' E = some (.lst (sd.map V.int)) ∧ sd.length = j ∧ (∀ x ∈ sd, 0 ≤ x ∧ x < 1 + d1) ∧ Wells H' bs j ∧ Ks (E :: bs) (upd H4 E (.lst [])) H') ⟨[], upd_same, rfl, (fun _ h => nomatch h), wb.keep (same_new hE), Ks.refl⟩ ?_ ?_ ?_
        · rintro j H5 hj ⟨sd, hE5, sl, sb, w5, k5⟩
          exact SqL.of (k5.keep D _ (by simp [ED.symm, Dbs]) (by rw [upd_ne ED.symm]; exact hD4))
        · rintro j x H5 hx ⟨sd, hE5, sl, sb, w5, k5⟩
          rw [List.getElem?_map] at hx
          obtain ⟨b, hb, rfl⟩ : ∃ b, bs[j]? = some b ∧ V.ref b = x := by
            cases e : bs[j]? with
            | none => rw [e] at hx; cases hx
            | some b => rw [e] at hx; exact ⟨b, rfl, Option.some.inj hx⟩
          have bm := List.mem_of_getElem? hb
          have bE : b ≠ E := fun e => Ebs (e ▸ bm)
          have jl : j < bs.length := (List.getElem?_eq_some_iff.mp hb).1
          walk_at "wp"
          refine ⟨b, j, _, rfl, w5 b bm, by omega, by omega, by omega, fun sv H6 sv0 sv1 hb6 k6 => ?_⟩
          have hE6 := k6 _ _ bE.symm hE5
          refine ⟨_, hE6, ?_, sd ++ [sv], ?_, ?_, ?_, ?_, ?_⟩
          · rw [List.length_map, sl]
            have : 1000 < sizeLine := by decide
            omega
          · rw [upd_same, List.map_append]; rfl
          · rw [List.length_append, sl]; rfl
          · intro y hy
            rcases List.mem_append.mp hy with hy | hy
            · exact sb y hy
            · rw [List.mem_singleton.mp hy]; exact ⟨sv0, sv1⟩
          · exact fun z hz => ((w5.step hb6 k6 (by omega)) z hz).upd (fun e => Ebs (e ▸ hz))
          · exact k5.trans ((Ks.mono ((w5 b bm).ks k6) (by intro y hy; rw [List.mem_singleton.mp hy]; simp [bm])).trans (Ks.upd hE6 List.mem_cons_self))
        · rintro H5 ⟨sd, hE5, sl, sb, w5, k5⟩
          rw [List.length_map, bl] at sl w5
          have hD5 : H5 D = some (.lst (bs.map V.ref)) := k5.keep D _ (by simp [ED.symm, Dbs]) (by rw [upd_ne ED.symm]; exact hD4)
          walk_at "wp"
          refine ⟨D, N, bs, rfl, hD5, Dbs, w5, by omega, by omega, fun r H6 vs ws hrn hr6 p6 wl wn w6 k6 => ?_⟩
          walk_at "wp"
          rename_i R hR Pl hPl
          have hw5 : Ww.Well H5 hd 2 := (hw4.keep (same_new hE)).at fun o e => k5.keep hd o (by
            have : hd ≠ E := fun z => by
              obtain ⟨x, y, t, h1, _⟩ := hw4
              rw [z, hE] at h1; cases h1
            simp [this, hdbs]) e
          have hw6 : Ww.Well H6 hd 2 := hw5.at fun o e => k6.keep hd o hdbs e
          have hE6 : H6 E = some (.lst (sd.map V.int)) := k6.keep E _ Ebs hE5
          have hD6 : H6 D = some (.lst (bs.map V.ref)) := k6.keep D _ Dbs hD5
          have hRbs : R ∉ bs := fun m => by
            obtain ⟨x, y, z, h1, _⟩ := w6 R m
            rw [h1] at hR; cases hR
          have sR : Same H6 (upd H6 R (.lst [])) := same_new hR
          have sP : Same (upd H6 R (.lst [])) (upd (upd H6 R (.lst [])) Pl (.lst [])) := same_new hPl
          have s67 : Same H6 (upd (upd H6 R (.lst [])) Pl (.lst [])) := fun x o e => sP _ _ (sR _ _ e)
          have hPbs : Pl ∉ bs := fun m => by
            obtain ⟨x, y, z, h1, _⟩ := (w6.keep sR) Pl m
            rw [h1] at hPl; cases hPl
          have RP : R ≠ Pl := ne_of_none (show upd H6 R (.lst []) R = some (.lst []) from upd_same) hPl
          have hR7 : upd (upd H6 R (.lst [])) Pl (.lst []) R = some (.lst []) := sP _ _ upd_same
          have hP7 : upd (upd H6 R (.lst [])) Pl (.lst []) Pl = some (.lst []) := upd_same
          have hE7 := s67 _ _ hE6
          have hD7 := s67 _ _ hD6
          have hr7 := s67 _ _ hr6
          have w7 := w6.keep s67
          have hw7 := hw6.keep s67
          have p7 := p6.keep (Same.tk s67)
          have nRP : ∀ x o, H6 x = some o → x ≠ R ∧ x ≠ Pl := fun x o e => ⟨ne_of_none e hR, ne_of_none (sR _ _ e) hPl⟩
          have nr : r ∉ hd :: bs := by
            intro m
            rcases List.mem_cons.mp m with e | m
            · obtain ⟨x, y, z, h1, _⟩ := hw5
              rw [← e, hrn] at h1; cases h1
            · obtain ⟨x, y, z, h1, _⟩ := w5 r m
              rw [h1] at hrn; cases hrn
          have nE : E ∉ hd :: bs := by
            intro m
            rcases List.mem_cons.mp m with e | m
            · obtain ⟨x, y, z, h1, _⟩ := hw4
              rw [← e, hE] at h1; cases h1
            · exact Ebs m
          have nD : D ∉ hd :: bs := by
            intro m
            rcases List.mem_cons.mp m with e | m
            · exact hDd e.symm
            · exact Dbs m
          have hSN : ∀ x o, H6 x = some o → x ∉ hd :: bs → x ∉ R :: Pl :: bs := fun x o e n m => by
            rcases List.mem_cons.mp m with h | m
            · exact (nRP x o e).1 h
            · rcases List.mem_cons.mp m with h | m
              · exact (nRP x o e).2 h
              · exact n (List.mem_cons_of_mem _ m)
          generalize upd (upd H6 R (.lst [])) Pl (.lst []) = H7 at hR7 hP7 hE7 hD7 hr7 w7 hw7 p7 s67
          have wsl : ws.length = N := by rw [wl, bl]
          refine Wp.cut (fun σ H' => ∃ (pp : List Int) (ra : List Addr) (Ps : List (List W)) (y5 y11 y12 : Option V),
            σ = [some (.ref c), some (.int most), some (.ref hd), some (.int (1 + d1)), some (.int N), y5, some (.ref D), some (.ref E), some (.ref r), some (.ref R), some (.ref Pl), y11, y12, none, none, none, none, none, none, none, none, none, none] ∧
            H' Pl = some (.lst (pp.map V.int)) ∧ pp.length = N ∧ (∀ x ∈ pp, 0 ≤ x) ∧ H' R = some (.lst (ra.map V.ref)) ∧ ra.length = N ∧ ra.Nodup ∧ (∀ x ∈ ra, H7 x = none) ∧
            Lists (R :: Pl :: bs) H' (ra.map V.ref) Ps ∧ (∀ (j : Nat) (z : W) (p : List W), ws[j]? = some z → Ps[j]? = some p → (z.1 = sBox → p.length = 1) ∧ p.length ≤ 4 ∧ ∀ y ∈ p, Newly ws y) ∧
            Wells H' bs (N + 4 * N + 40 * N) ∧ Ks (R :: Pl :: bs) H7 H') ?_ ?_
          · walk_at "wp"
            refine ⟨by omega, by omega, ?_⟩
            rw [Int.toNat_natCast]
            refine loopR (fun i σ H' => ∃ (pp : List Int) (ra : List Addr) (Ps : List (List W)) (y5 y11 y12 : Option V),
              σ = [some (.ref c), some (.int most), some (.ref hd), some (.int (1 + d1)), some (.int N), y5, some (.ref D), some (.ref E), some (.ref r), some (.ref R), some (.ref Pl), y11, y12, none, none, none, none, none, none, none, none, none, none] ∧
              H' Pl = some (.lst (pp.map V.int)) ∧ pp.length = i ∧ (∀ x ∈ pp, 0 ≤ x) ∧ H' R = some (.lst (ra.map V.ref)) ∧ ra.length = i ∧ ra.Nodup ∧ (∀ x ∈ ra, H7 x = none) ∧
              Lists (R :: Pl :: bs) H' (ra.map V.ref) Ps ∧ (∀ (j : Nat) (z : W) (p : List W), ws[j]? = some z → Ps[j]? = some p → (z.1 = sBox → p.length = 1) ∧ p.length ≤ 4 ∧ ∀ y ∈ p, Newly ws y) ∧
              Wells H' bs (N + 4 * N + 40 * i) ∧ Ks (R :: Pl :: bs) H7 H')
              ⟨[], [], [], _, _, _, rfl, hP7, rfl, (fun _ h => nomatch h), hR7, rfl, .nil, (fun _ h => nomatch h), Paired.nil, (fun j z p _ h => nomatch h), w7.mono (by rw [bl]; omega), Ks.refl⟩ ?_ ?_
            · rintro i σ H8 hi ⟨pp, ra, Ps, y5, y11, y12, rfl, hP8, ppl, pp0, hR8, ral, ran, ranew, L8, LP, w8, k8⟩
              have hE8 : H8 E = some (.lst (sd.map V.int)) := k8.keep E _ (hSN E _ hE6 nE) hE7
              have hD8 : H8 D = some (.lst (bs.map V.ref)) := k8.keep D _ (hSN D _ hD6 nD) hD7
              have hr8 : H8 r = some (.lst vs) := k8.keep r _ (hSN r _ hr6 nr) hr7
              have p8 := p7.keep k8.tk
              have hx : ∀ {α : Type} (f : α → V) (xs : List α) (j : Nat) (x : α) (u : Int), xs[j]? = some x → u = j → atI (xs.map f) u = some (f x) := fun f xs j x u e1 e2 => atI_of e2 (by rw [List.getElem?_map, e1]; rfl)
              have iN : i < N := hi
              obtain ⟨si, hsi⟩ : ∃ x, sd[i]? = some x := ⟨_, List.getElem?_eq_getElem (by omega)⟩
              obtain ⟨b, hbi⟩ : ∃ x, bs[i]? = some x := ⟨_, List.getElem?_eq_getElem (by omega)⟩
              have bm := List.mem_of_getElem? hbi
              obtain ⟨vi, zi, hvi, hzi, wzi⟩ := p8.at (i := i) (by omega)
              walk_at "wp"
              refine ⟨by omega, by omega, fun F hF => ?_⟩
              rw [Int.toNat_natCast]
              refine Wpk.lc_pick (ws := ws) (by omega) hF ?_ ?_
              · intro j H9 hj s9 R1 R0 hR1 hR0
                obtain ⟨sj, hsj⟩ : ∃ x, sd[j]? = some x := ⟨_, List.getElem?_eq_getElem (by omega)⟩
                obtain ⟨vj, zj, hvj, hzj, wzj⟩ := p8.at (i := j) (by omega)
                walk_at "wp"
                refine ixL (SqL.of (s9 _ _ hE8)) (hx V.int sd j sj _ hsj (by omega)) ?_
                walk_at "wp"
                refine ixL (SqL.of (s9 _ _ hE8)) (hx V.int sd i si _ hsi (by omega)) ?_
                walk_at "wp"
                refine Wp.iteB (fun e => ?_) (fun e => ?_)
                · walk_at "wp"
                  refine ixL (SqL.of (s9 _ _ hr8)) (atI_of (show (0 + (j : Int)) = (j : Int) by omega) hvj) ?_
                  exact hR1 _ _ (wzj.keep (Same.tk s9)) (List.mem_of_getElem? hzj)
                · exact hR0
              · intro H9 acc zs s9 hF9 pF zl zk
                have hE9 := s9 _ _ hE8
                have hD9 := s9 _ _ hD8
                have hr9 := s9 _ _ hr8
                have hP9 := s9 _ _ hP8
                have hR9 := s9 _ _ hR8
                have w9 := w8.keep s9
                walk_at "wp"
                refine ixL (SqL.of hD9) (hx V.ref bs i b _ hbi (by omega)) ?_
                walk_at "wp"
                rename_i p hp
                have s10 : Same H9 (upd H9 p (.lst [.int 9, .int (10 ^ Int.toNat 30)])) := same_new hp
                have hp10 : upd H9 p (.lst [.int 9, .int (10 ^ Int.toNat 30)]) p = some (.lst [.int 9, .int (10 ^ Int.toNat 30)]) := upd_same
                have bp : p ≠ b := fun e => by
                  obtain ⟨x, y, z, h1, _⟩ := w9 b bm
                  rw [← e, hp] at h1; cases h1
                have w10 := w9.keep s10
                have s8 : Same H8 (upd H9 p (.lst [.int 9, .int (10 ^ Int.toNat 30)])) := fun x o e => s10 _ _ (s9 _ _ e)
                have hF10 := s10 _ _ hF9
                have pF10 := pF.keep (Same.tk s10)
                have hD10 := s10 _ _ hD9
                generalize upd H9 p (.lst [.int 9, .int (10 ^ Int.toNat 30)]) = H10 at hp10 w10 s8 hF10 pF10 hD10
                have Fb : F ≠ b := fun e => by
                  obtain ⟨x, y, z, h1, _⟩ := w8 b bm
                  rw [← e, hF] at h1; cases h1
                have nb_ : ∀ x o, H8 x = some o → x ∉ hd :: bs → x ≠ b := fun x o _ n e => n (by rw [e]; exact List.mem_cons_of_mem _ bm)
                have Db : D ≠ b := nb_ D _ hD8 nD
                refine ixL (SqL.of hD10) (hx V.ref bs i b _ hbi (by omega)) ?_
                walk_at "wp"
                refine ⟨b, N + 4 * N + 40 * i, _, rfl, w10 b bm, by omega, by omega, by omega, fun u1 H11 u10 u11 hb11 k11 => ?_⟩
                obtain ⟨m, hm, m0', m1'⟩ : ∃ m : Int, atI [V.int 9, V.int (10 ^ Int.toNat 30)] u1 = some (.int m) ∧ 0 < m ∧ m < 2 ^ 240 := by
                  have : u1 = 0 ∨ u1 = 1 := by omega
                  rcases this with rfl | rfl
                  · exact ⟨_, rfl, by decide, by decide⟩
                  · exact ⟨_, rfl, by decide, by decide⟩
                refine ixL (SqL.of (k11 _ _ bp hp10)) hm ?_
                walk_at "wp"
                refine ⟨b, N + 4 * N + 40 * i + 1, _, rfl, hb11, by omega, m0', m1', fun pv H12 pv0 pv1 hb12 k12 => ?_⟩
                have k10 : Kp b H10 H12 := Kp.trans k11 k12
                have w12 : Wells H12 bs (N + 4 * N + 40 * i + 2) := w10.step hb12 k10 (by omega)
                have Plb : Pl ≠ b := fun e => hPbs (e ▸ bm)
                have Rb : R ≠ b := fun e => hRbs (e ▸ bm)
                have hP12 : H12 Pl = some (.lst (pp.map V.int)) := k10 _ _ Plb (s8 _ _ hP8)
                walk_at "wp"
                refine app_ hP12 (by rw [List.length_map, ppl]; have : 1000 < sizeLine := by decide
                                     omega) ?_
                have kS : Ks (R :: Pl :: bs) H8 H12 := (Ks.same s8).trans (Ks.mono ((w10 b bm).ks k10) (by intro y hy; rw [List.mem_singleton.mp hy]; simp [bm]))
                have kP : Ks (R :: Pl :: bs) H12 (upd H12 Pl (.lst (pp.map V.int ++ [.int pv]))) := Ks.upd hP12 (by simp)
                have FP : F ≠ Pl := (ne_of_none hP8 hF).symm
                have FR : F ≠ R := (ne_of_none hR8 hF).symm
                have hP13 : upd H12 Pl (.lst (pp.map V.int ++ [.int pv])) Pl = some (.lst (pp.map V.int ++ [.int pv])) := upd_same
                have hF13 : upd H12 Pl (.lst (pp.map V.int ++ [.int pv])) F = some (.lst acc) := by rw [upd_ne FP]; exact k10 _ _ Fb hF10
                have hR13 : upd H12 Pl (.lst (pp.map V.int ++ [.int pv])) R = some (.lst (ra.map V.ref)) := by rw [upd_ne RP]; exact k10 _ _ Rb (s8 _ _ hR8)
                have pF13 := (pF10.keep ((w10 b bm).ks k10).tk).keep kP.tk
                have w13 : Wells (upd H12 Pl (.lst (pp.map V.int ++ [.int pv]))) bs (N + 4 * N + 40 * i + 2) := fun x hx => (w12 x hx).upd (fun e => hPbs (e ▸ hx))
                have k13 : Ks (R :: Pl :: bs) H8 (upd H12 Pl (.lst (pp.map V.int ++ [.int pv]))) := kS.trans kP
                have hr13 : upd H12 Pl (.lst (pp.map V.int ++ [.int pv])) r = some (.lst vs) := k13.keep r _ (hSN r _ hr6 nr) hr8
                have hD13 : upd H12 Pl (.lst (pp.map V.int ++ [.int pv])) D = some (.lst (bs.map V.ref)) := k13.keep D _ (hSN D _ hD6 nD) hD8
                have wz13 := wzi.keep k13.tk
                generalize upd H12 Pl (.lst (pp.map V.int ++ [.int pv])) = H13 at hP13 hF13 hR13 pF13 w13 k13 hr13 hD13 wz13
                obtain ⟨tz, rfl, htz⟩ := wz13
                walk_at "wp"
                refine Wp.cut (fun σ' H' => ∃ size : Nat, σ' = [some (.ref c), some (.int most), some (.ref hd), some (.int (1 + d1)), some (.int N), some (.int (0 + i)), some (.ref D), some (.ref E), some (.ref r), some (.ref R), some (.ref Pl), some (.ref F), some (.int size), none, none, none, none, none, none, none, none, none, none] ∧ (zi.1 = sBox → size = 1) ∧ size ≤ 4 ∧ Wells H' bs (N + 4 * N + 40 * i + 3) ∧ Kp b H13 H') ?_ ?_
                · walk_at "wp"
                  refine ixL (SqL.of hr13) (atI_of (show (0 + (i : Int)) = (i : Int) by omega) hvi) ?_
                  walk_at "wp"
                  refine ite_ (fun e => ?_) (fun e => ?_)
                  · walk_at "wp"
                    refine ixL (SqL.of hD13) (hx V.ref bs i b _ hbi (by omega)) ?_
                    walk_at "wp"
                    refine ⟨b, N + 4 * N + 40 * i + 2, _, rfl, w13 b bm, by omega, by omega, by omega, fun sz H14 sz0 sz1 hb14 k14 => ?_⟩
                    walk_at "wp"
                    exact ⟨sz.toNat, by rw [Int.toNat_of_nonneg sz0], fun e' => absurd (e'.symm.trans (V.str.inj e)) box_go, by omega, w13.step hb14 k14 (by omega), k14⟩
                  · walk_at "wp"
                    exact ⟨fun _ => rfl, by decide, w13.mono (by omega), Kp.refl _ _⟩
                · rintro σ' H14 ⟨size, rfl, szb, sz4, w14, k14⟩
                  have ks14 : Ks (R :: Pl :: bs) H13 H14 := Ks.mono ((w13 b bm).ks k14) (by intro y hy; rw [List.mem_singleton.mp hy]; simp [bm])
                  have k8' : Ks (R :: Pl :: bs) H8 H14 := k13.trans ks14
                  have hR14 := k14 _ _ Rb hR13
                  have hP14 := k14 _ _ Plb hP13
                  have hD14 := k14 _ _ Db hD13
                  have hF14 := k14 _ _ Fb hF13
                  have pF14 := pF13.keep ks14.tk
                  walk_at "wp"
                  refine ⟨by omega, by omega, fun G hG => ?_⟩
                  rw [Int.toNat_natCast]
                  have DG : D ≠ G := ne_of_none hD14 hG
                  have FG : F ≠ G := ne_of_none hF14 hG
                  refine Ww.lc_wells (n := N + 4 * N + 40 * i + 3) (inc := 4) (ok := Newly ws) (by omega) (w14 b bm) hG ?_ ?_
                  · intro j H15 hj R1 hb15 k15 hR1
                    have hD15 : H15 D = _ := k15.keep D _ (by simp [DG, Db]) (by rw [upd_ne DG]; exact hD14)
                    have hF15 : H15 F = _ := k15.keep F _ (by simp [FG, Fb]) (by rw [upd_ne FG]; exact hF14)
                    have pF15 := (pF14.keep (Tk.new hG)).keep k15.tk
                    walk_at "wp"
                    refine ixL (SqL.of hD15) (hx V.ref bs i b _ hbi (by omega)) ?_
                    walk_at "wp"
                    refine ⟨b, F, _, acc, zs, rfl, hb15, by omega, hF15, pF15, ?_, by omega, Fb, fun v z H16 wz nz hb16 k16 => ?_⟩
                    · intro z hz
                      rcases (wn.1 z (zk z hz)).1 with e | e
                      · show PyData.strOk z.1 = true
                        rw [e]; decide +kernel
                      · show PyData.strOk z.1 = true
                        rw [e]; decide +kernel
                    · refine hR1 v z H16 wz ?_ hb16 k16
                      rcases nz with h | h
                      · exact .inl (zk z h)
                      · exact .inr h
                  · intro H15 acc2 ws2 hb15 k15 hG15 p15 wl2 wk2
                    have ks15 : Ks (R :: Pl :: bs) H14 H15 := Ks.mono k15 (by intro y hy; rw [List.mem_singleton.mp hy]; simp [bm])
                    have hR15 : H15 R = some (.lst (ra.map V.ref)) := k15.keep R _ (by simp [Rb]) hR14
                    have hP15 : H15 Pl = some (.lst (pp.map V.int ++ [.int pv])) := k15.keep Pl _ (by simp [Plb]) hP14
                    have GR : G ≠ R := fun e => by rw [e, hR14] at hG; cases hG
                    walk_at "wp"
                    refine app_ hR15 (by rw [List.length_map, ral]; have : 1000 < sizeLine := by decide
                                         omega) ?_
                    have kR : Ks (R :: Pl :: bs) H15 (upd H15 R (.lst (ra.map V.ref ++ [.ref G]))) := Ks.upd hR15 (by simp)
                    have k816 := (k8'.trans ks15).trans kR
                    have L16 := L8.keep k816
                    have L14 := L8.keep k8'
                    have w15 : Wells H15 bs (N + 4 * N + 40 * i + 3 + 4 * size) := w14.step hb15 (Wb.Ks.kpOf k15) (by omega)
                    have GS : G ∉ R :: Pl :: bs := by
                      intro m
                      rcases List.mem_cons.mp m with e | m
                      · exact GR e
                      · rcases List.mem_cons.mp m with e | m
                        · rw [e, hP14] at hG; cases hG
                        · obtain ⟨x, y, z, h1, _⟩ := w14 G m
                          rw [h1] at hG; cases hG
                    have G7 : H7 G = none := by
                      cases e : H7 G with
                      | none => rfl
                      | some o => rw [(k8.trans k8').keep G o GS e] at hG; cases hG
                    have psl : Ps.length = i := by rw [← L8.len, List.length_map, ral]
                    refine ⟨pp ++ [pv], ra ++ [G], Ps ++ [ws2], _, _, _, rfl, ?_, ?_, ?_, ?_, ?_, ?_, ?_, ?_, ?_, ?_, ?_⟩
                    · rw [upd_ne RP.symm, hP15, List.map_append]; rfl
                    · rw [List.length_append, ppl]; rfl
                    · intro x hx
                      rcases List.mem_append.mp hx with hx | hx
                      · exact pp0 x hx
                      · rw [List.mem_singleton.mp hx]; exact pv0
                    · rw [upd_same, List.map_append]; rfl
                    · rw [List.length_append, ral]; rfl
                    · refine List.pairwise_append.mpr ⟨ran, List.pairwise_singleton _ _, ?_⟩
                      intro x hx y hy
                      rw [List.mem_singleton.mp hy]
                      rintro rfl
                      obtain ⟨j, hj⟩ := List.mem_iff_getElem?.mp hx
                      obtain ⟨q, _, l, us, e, h2, _⟩ := pair_at1 L14 (i := j) (x := V.ref x) (by rw [List.getElem?_map, hj]; rfl)
                      injection e with e
                      rw [← e, hG] at h2; cases h2
                    · intro x hx
                      rcases List.mem_append.mp hx with hx | hx
                      · exact ranew x hx
                      · rw [List.mem_singleton.mp hx]; exact G7
                    · rw [List.map_append]
                      exact Wpk.paired_snoc L16 ⟨G, acc2, rfl, by rw [upd_ne GR]; exact hG15, p15.keep kR.tk, GS⟩
                    · intro j z p hz hp
                      rcases Nat.lt_or_ge j Ps.length with h | h
                      · rw [List.getElem?_append_left h] at hp
                        exact LP j z p hz hp
                      · rw [List.getElem?_append_right h] at hp
                        cases hk : j - Ps.length with
                        | succ n => rw [hk] at hp; cases hp
                        | zero =>
                          rw [hk] at hp
                          have ep : ws2 = p := Option.some.inj hp
                          have ej : j = i := by omega
                          rw [ej, hzi] at hz
                          have ez : zi = z := Option.some.inj hz
                          rw [← ep, ← ez]
                          exact ⟨fun e => by rw [wl2]; exact szb e, by omega, wk2⟩
                    · exact fun x hx => ((w15 x hx).mono (by omega)).upd (fun e => hRbs (e ▸ hx))
                    · exact k8.trans k816
            · exact fun σ H8 h => h
          · rintro σ H8 ⟨pp, ra, Ps, y5, y11, y12, rfl, hP8, ppl, pp0, hR8, ral, ran, ranew, L8, LP, w8, k8⟩
            have new : ∀ {x : Addr} {Hx : Hp}, Same H Hx → Hx x = none → H x = none := fun {x Hx} s h => by
              cases e : H x with
              | none => rfl
              | some o => rw [s _ _ e] at h; cases h
            have SH4 := S3.trans S4
            have bsn : ∀ b ∈ bs, H b = none := fun b hb => new S3 (nb b hb).1
            have SH5 := k5.toSame (SH4.trans (same_new hE)) (fun a ha => by
              rcases List.mem_cons.mp ha with e | ha
              · rw [e]; exact new SH4 hE
              · exact bsn a ha)
            have SH6 := k6.toSame SH5 bsn
            have SH7 := SH6.trans s67
            have Rn : H R = none := new SH6 hR
            have Pln : H Pl = none := new (SH6.trans sR) hPl
            have SH8 := k8.toSame SH7 (fun a ha => by
              rcases List.mem_cons.mp ha with e | ha
              · rw [e]; exact Rn
              · rcases List.mem_cons.mp ha with e | ha
                · rw [e]; exact Pln
                · exact bsn a ha)
            have hE8 : H8 E = some (.lst (sd.map V.int)) := k8.keep E _ (hSN E _ hE6 nE) hE7
            have hD8 : H8 D = some (.lst (bs.map V.ref)) := k8.keep D _ (hSN D _ hD6 nD) hD7
            have hr8 : H8 r = some (.lst vs) := k8.keep r _ (hSN r _ hr6 nr) hr7
            have p8 := p7.keep k8.tk
            have hdS : hd ∉ R :: Pl :: bs := by
              obtain ⟨x, y, z, h1, _⟩ := hw6
              exact fun m => by
                rcases List.mem_cons.mp m with e | m
                · exact (nRP hd _ h1).1 e
                · rcases List.mem_cons.mp m with e | m
                  · exact (nRP hd _ h1).2 e
                  · exact hdbs m
            have hw8 : Ww.Well H8 hd 2 := hw7.at fun o e => k8.keep hd o hdS e
            have raN : ∀ x ∈ ra, ∀ o, H7 x ≠ some o := fun x hx o e => by rw [ranew x hx] at e; cases e
            have nm : ∀ x o, H7 x = some o → x ≠ hd → x ∉ bs → x ∉ hd :: (ra ++ bs) := fun x o h n b m => by
              rcases List.mem_cons.mp m with e | m
              · exact n e
              · rcases List.mem_append.mp m with m | m
                · exact raN x m o h
                · exact b m
            refine mid _ _ ⟨hd, 1 + d1, N, y5, D, E, r, R, Pl, y11, y12, bs, ra, sd, pp, vs, ws, N + 4 * N + 40 * N, Ps, rfl, ⟨bl, sl, wsl, ral, ppl, N30, fun x hx => by have := sb x hx; omega, wn, pp0, ran, fun x hx => ?_, fun b hb m => ?_, fun m => ?_, fun x hx => ?_⟩, ⟨hD8, hE8, hr8, p8, hR8, hP8, Lists.less L8 (fun _ h => nomatch h), w8, SH8⟩, LP, hw8, by omega⟩
            · rcases List.mem_cons.mp hx with rfl | hx
              · exact nm _ _ hD7 (fun e => nD (by rw [e]; simp)) Dbs
              · rcases List.mem_cons.mp hx with rfl | hx
                · exact nm _ _ hE7 (fun e => nE (by rw [e]; simp)) Ebs
                · rcases List.mem_cons.mp hx with rfl | hx
                  · exact nm _ _ hr7 (fun e => nr (by rw [e]; simp)) (fun m => nr (List.mem_cons_of_mem _ m))
                  · rcases List.mem_cons.mp hx with rfl | hx
                    · exact nm _ _ hR7 (fun e => hdS (by rw [← e]; exact List.mem_cons_self)) hRbs
                    · rw [List.mem_singleton.mp hx]
                      exact nm _ _ hP7 (fun e => hdS (by rw [← e]; exact List.mem_cons_of_mem _ List.mem_cons_self)) hPbs
            · obtain ⟨x, y, z, h7, _⟩ := w7 b hb
              exact raN b m _ h7
            · rcases List.mem_append.mp m with m | m
              · obtain ⟨x, y, z, h7, _⟩ := hw7
                exact raN hd m _ h7
              · exact hdbs m
            · rcases List.mem_cons.mp hx with e | hx
              · rw [e]; exact hdn
              · rcases List.mem_append.mp hx with hx | hx
                · exact new SH7 (ranew x hx)
                · exact bsn x hx

end
end K15

namespace K15
open PySem PySem.Spec PyProof.Rows L2 Wp Wq Wr Wpm Wpn Wth
local macro_rules | `(tactic| walk_at "ne") => `(tactic| first
  | assumption
  | (refine Ne.symm ?_; assumption)
  | exact ne_of_none (by assumption) (by assumption)
  | exact (ne_of_none (by assumption) (by assumption)).symm
  | exact ne_of (by assumption) (by assumption) (by intro q; cases q))
local macro_rules | `(tactic| walk_at "hp") => `(tactic| first
  | assumption
  | exact upd_same
  | (refine (upd_ne ?_).trans ?_; (walk_at "ne"); (walk_at "hp")))
local macro_rules | `(tactic| walk_at "hq") => `(tactic| first
  | assumption
  | exact upd_same
  | (refine same_new (by assumption) _ _ ?_; (walk_at "hq"))
  | (refine Wp.look (by assumption) ?_; (walk_at "hq")))
local macro_rules | `(tactic| walk_at "sm") => `(tactic| first
  | assumption
  | exact fun _ _ h => h
  | exact same_new (by assumption)
  | (refine Same.trans ?_ (same_new (by assumption)); (walk_at "sm"))
  | (refine Same.trans ?_ (by assumption); (walk_at "sm")))
local macro_rules | `(tactic| walk_at "kp") => `(tactic| first
  | assumption
  | exact Kp.refl _ _
  | (refine Kp.trans ?_ (Kp.new (by assumption)); (walk_at "kp"))
  | (refine Kp.trans ?_ (Same.kp (by assumption)); (walk_at "kp"))
  | (refine Wp.kpT ?_ (by assumption); (walk_at "kp"))
  | exact Same.kp (by walk_at "sm"))
local macro_rules | `(tactic| walk_at "sq") => `(tactic| first
  | assumption
  | exact SqL.of (by walk_at "hp")
  | exact SqT.of (by walk_at "hp"))
local macro_rules | `(tactic| walk_at "kind") => `(tactic| first
  | assumption
  | exact Kind.int _
  | exact Kind.str _
  | exact Kind.bl _
  | exact Kind.non
  | exact Kind.tup (by walk_at "hp")
  | exact Kind.lst (by walk_at "hp")
  | exact Kind.dK (by walk_at "hp"))
local macro_rules | `(tactic| walk_at "w1") => `(tactic| first
  | (with_reducible refine Wp.seq ?_)
  | (with_reducible refine Wp.nx_mk ?_)
  | (with_reducible refine Wp.rt_mk ?_)
  | (with_reducible refine Wp.bk_mk ?_)
  | (with_reducible refine Wp.ct_mk ?_)
  | (with_reducible refine Wp.next ?_)
  | (with_reducible refine Wp.asg ?_)
  | ((with_reducible refine' Wp.gname ?e ?_); (case e => (try dsimp only [List.set, L2.wipe, List.map_cons, List.map_nil]); (try exact rfl)))
  | (with_reducible refine Wp.gsub ?_)
  | (with_reducible refine Wp.ret ?_)
  | (with_reducible refine Wp.retN ?_)
  | (with_reducible refine Wp.drop ?_)
  | (with_reducible refine Wp.dput ?_)
  | (with_reducible refine Wp.ifs ?_)
  | ((with_reducible refine' Wp.var ?h ?_); (case h => exact rfl))
  | (with_reducible refine Wp.con ?_)
  | (with_reducible refine Wp.op ?_)
  | (with_reducible refine Wp.un ?_)
  | (with_reducible refine Wp.cb ?_)
  | (with_reducible refine Wp.anil ?_)
  | (with_reducible refine Wp.acons ?_)
  | (with_reducible refine Wp.call ?_)
  | (with_reducible refine Wp.test ?_)
  | (with_reducible refine Wp.tb_ ?_)
  | (with_reducible refine Wp.and_ ?_)
  | (with_reducible refine Wp.or_ ?_)
  | (with_reducible refine Wp.not_ ?_)
  | (with_reducible refine Wp.andV ?_)
  | (with_reducible refine Wp.orV ?_)
  | (with_reducible refine Wp.notV ?_)
  | (with_reducible refine Wp.rI0_ ?_)
  | (with_reducible refine Wp.rU_ ?_)
  | ((with_reducible refine Wp.rEq_ ?k ?_); (case k => exact rfl))
  | ((with_reducible refine Wp.rNe_ ?k ?_); (case k => exact rfl))
  | (with_reducible refine Wp.gcons ?_)
  | (with_reducible refine Wp.gnil ?_)
  | ((with_reducible refine' Wp.gtup ?h ?e ?_); (case h => walk_at "sq"); (case e => exact rfl))
  | (with_reducible refine Wp.sl ?_)
  | (with_reducible refine Wp.part ?_)
  | (with_reducible refine Wp.nopart ?_)
  | (with_reducible refine Wp.ifE ?_)
  | (with_reducible refine Wp.bm0 ?_)
  | (with_reducible refine Wp.bm ?_)
  | (with_reducible refine Wp.lcR1 ?_)
  | (with_reducible refine Wp.lcR2 ?_)
  | (with_reducible refine Wp.lcL ?_)
  | (with_reducible refine Wp.chain ?_)
  | (with_reducible refine Wp.lc2V ?_)
  | (with_reducible refine Wp.piL ?_)
  | (with_reducible refine Wp.yes ?_)
  | (with_reducible refine Wp.dinI ?_)
  | (with_reducible refine Wp.dninI ?_)
  | (with_reducible refine Wp.dget ?_)
  | ((with_reducible refine' ⟨?k, ?_⟩); (case k => show L2.wipe _ _ = L2.wipe _ _; exact rfl))
  | ((with_reducible refine' ⟨?k, ?_⟩); (case k => show V.non = V.non; exact rfl))
  | (with_reducible refine Wp.forR1 ?_)
  | (with_reducible refine Wp.forR2 ?_)
  | (with_reducible refine Wp.forL ?_)
  | (with_reducible refine Wp.forT ?_)
  | ((with_reducible refine' ⟨?k, ?_⟩); (case k => exact Wp.tyvL (by walk_at "hp")))
  | ((with_reducible refine' Wp.rev_ ?k ?_); (case k => walk_at "hp"))
  | ((with_reducible refine' Wp.isi ?k ?h ?_); (case k => walk_at "kind"); (case h => decide))
  | ((with_reducible refine' Wp.typ ?k ?_); (case k => walk_at "kind"))
  | (with_reducible refine Wp.slS ?k ?_; (case k => assumption))
  | (with_reducible refine iteT ?_)
  | (with_reducible refine iteF ?_)
  | (with_reducible refine Wtc.dcL ?_)
  | (with_reducible refine Wst.step ?_)
  | (with_reducible refine Wtc.dget2 ?_)
  | (with_reducible refine Wtc.lcZ ?_)
  | (with_reducible refine Wrw.loop_setLc ?_)
  | (with_reducible refine Wz.par ?_)
  | (with_reducible refine Wz.forN ?_)
  | (with_reducible refine Wz.dcL ?_)
  | (with_reducible refine Wz.forZ ?_)
  | (with_reducible refine Wz.lcR3 ?_)
  | (with_reducible refine Wc.revL ?_)
  | (with_reducible refine Wd.nm ?_)
  | (with_reducible refine Wd.nget ?_)
  | ((with_reducible refine Wd.tnew ?_); intro p hp)
  | (with_reducible refine Wd.pikn ?_)
  | (with_reducible refine Wt.m1 ?_)
  | (with_reducible refine Wt.m0 ?_)
  | ((with_reducible refine' ⟨?k, ?_⟩); (case k => show ∃ a, _ = V.str a; exact ⟨_, rfl⟩))
  | (with_reducible refine Wt.js_cons ?_)
  | (with_reducible refine Wt.fmt_ ?_)
  | (with_reducible refine Wp.pcons ?_)
  | (with_reducible refine Wp.pnil ?_)
  | ((with_reducible refine' Wp.iteBnT ?h ?_); (case h => show isB _ _ = false; decide))
  | ((with_reducible refine' Wp.iteBnF ?h ?_); (case h => show isB _ _ = true; decide))
  | ((with_reducible refine' Wp.iteBt ?h ?_); (case h => show isB _ _ = true; decide))
  | ((with_reducible refine' Wp.iteBf ?h ?_); (case h => show isB _ _ = false; decide))
  | (with_reducible refine Wp.iteT' ?_)
  | (with_reducible refine Wp.iteF' ?_)
  | (with_reducible refine Wp.rNT_ ?_)
  | ((with_reducible refine Wp.lst ?_))
  | ((with_reducible refine Wp.tup ?_))
  | ((with_reducible refine' Wp.ixL ?h ?e ?_); (case h => walk_at "sq"); (case e => exact rfl))
  | ((with_reducible refine' Wp.ixT ?h ?e ?_); (case h => walk_at "sq"); (case e => exact rfl))
  | ((with_reducible refine' Wp.setL ?h ?e ?_); (case h => walk_at "hp"); (case e => exact rfl))
  | ((with_reducible refine Wp.rI_ ?k ?_); (case k => first | (show (0:Int) < _; omega) | (show CPow _ _; refine' ⟨?_, ?_, ?_⟩ <;> omega) | (show CDiv _ _; refine' ⟨?_, ?_⟩ <;> omega) | (show CMul _ _; refine' Or.inl ⟨?_, ?_⟩ <;> omega) | (show CMul _ _; refine' Or.inr ⟨?_, ?_⟩ <;> first | omega | decide) | (show CDivW _ _; refine' wide_div (b := 240) ?_ ?_ ?_ ?_ <;> first | omega | decide)))
  | ((with_reducible refine ⟨?k, ?_⟩); (case k => first | exact Nat.zero_le _ | (exact Nat.le_of_ble_eq_true rfl)); intro p hp)
  | ((with_reducible refine' ⟨_, _, rfl, .inl ?k, ?_⟩); (case k => walk_at "sq"))
  | ((with_reducible refine' ⟨_, _, rfl, .inr ?k, ?_⟩); (case k => walk_at "sq"))
  | (with_reducible refine ⟨_, rfl, ?_⟩)
  | (with_reducible refine ⟨_, _, rfl, rfl, ?_⟩)
  | (with_reducible refine ⟨_, _, rfl, ?_⟩))
local macro_rules | `(tactic| walk_at "wp") => `(tactic| repeat (walk_at "w1"))

section
variable {P : Program} {w : World} {K : PySem.W.Frag} {mg : Str → Option Value} {base : Heap}
theorem wpic_shaped {P : Pic} (pw : Wip.PicW P) : SeqAt.shaped (picD P) = true := by
  have wkz : ∀ {z : W}, Wk z → Wok z := fun {z} h => by
    show PyData.strOk z.1 = true
    rcases h with ⟨h | h, _⟩ | ⟨h, _⟩ | h <;> rw [h] <;> decide +kernel
  have wok : ∀ z ∈ P.worths, Wok z := fun z hz => wkz (pw.words z hz)
  have h1 := wDs_lay0 (ws := P.pile) fun z hz => wok z (mem_worths_pile hz)
  have h2 : (PyData.list (P.pegs.map pgD)).canLay0 = true ∧ (PyData.list (P.pegs.map pgD)).depth ≤ 4 := list_lay fun d hd => by
    obtain ⟨g, hg, rfl⟩ := List.mem_map.mp hd
    exact pgD_lay (Wu.low_ok (pw.names g hg).1.1) (wok _ (mem_worths_peg hg))
  have h3 : (PyData.list (P.goings.map goD)).canLay0 = true ∧ (PyData.list (P.goings.map goD)).depth ≤ 4 := list_lay fun d hd => by
    obtain ⟨g, hg, rfl⟩ := List.mem_map.mp hd
    exact goD_lay fun z hz => wok z (mem_worths_go hg hz)
  have h4 : (PyData.list (P.boxes.map bxD)).canLay0 = true ∧ (PyData.list (P.boxes.map bxD)).depth ≤ 4 := list_lay fun d hd => by
    obtain ⟨g, hg, rfl⟩ := List.mem_map.mp hd
    exact bxD_lay (wok _ (mem_worths_box hg))
  refine shaped_of (n := 5) ?_ ?_
  · unfold picD
    simp only [PyData.canLay0]
    exact lay_all fun d hd => by
      simp only [List.mem_cons, List.not_mem_nil, or_false] at hd
      rcases hd with rfl | rfl | rfl | rfl
      · exact h1.1
      · exact h2.1
      · exact h3.1
      · exact h4.1
  · have := depth_all (n := 4) (ds := [PyData.list (P.pile.map wD), .list (P.pegs.map pgD), .list (P.goings.map goD), .list (P.boxes.map bxD)]) fun d hd => by
      simp only [List.mem_cons, List.not_mem_nil, or_false] at hd
      rcases hd with rfl | rfl | rfl | rfl
      · exact Nat.le_trans h1.2 (by decide)
      · exact h2.2
      · exact h3.2
      · exact h4.2
    unfold picD
    simp only [PyData.depth]
    omega
def spLaw (K : PySem.W.Frag) : Sp := fun vs H Q _ => ∃ (a : Addr) (ns : List Int), vs = [.ref a] ∧ SqL K H a (ns.map V.int) ∧ ns.length ≤ 63 ∧ ∀ H', Q (.bl true) H'
theorem ok_law (T : Txt P w K mg) : FnOk P w K mg base CX0 6 T.f_law T.fd_law ["script"] (spLaw K) := by
  have G_cell_at := ok_cell_at (base := base) T
  have G_well := ok_well (base := base) T
  have G_picture := ok_picture (base := base) T
  have G_is_picture := ok_is_picture (base := base) T
  have G_lcopy := ok_lcopy (base := base) T
  have G_more := ok_more (base := base) T
  refine T.F_law.ok sc_law (fun vs H Q E h => ?_) (fun cdv A outer s H vs Q E hr h => ?_)
  · obtain ⟨a, ns, rfl, _⟩ := h
    rfl
  · obtain ⟨a, ns, rfl, hS, hl, q⟩ := h
    refine ⟨_, (pss_cons (ps_set (i := 1) sc_law.nd rfl (.inl rfl) (pe_call G_picture (hr.mono (by decide)) (by rfl) T.g_picture T.F_picture.kp T.b_picture .nil pass0 (pa_cons (pe_slice sl_list (pv 0) (po_some pe_int) po_none) (pa_cons pe_int pa_nil))))
      (pss_cons (ps_set (i := 2) sc_law.nd rfl (.inl rfl) (pe_call G_lcopy (hr.mono (by decide)) (by rfl) T.g_lcopy T.F_lcopy.kp T.b_lcopy .nil pass0 (pa_cons (pv 1) pa_nil)))
      (pss_cons (ps_if (PW.pt (pw_or (pt_cmpR op_notBl (pe_call G_is_picture (hr.mono (by decide)) (by rfl) T.g_is_picture T.F_is_picture.kp T.b_is_picture .nil pass0 (pa_cons (pv 2) pa_nil)) pe_bl (nomark _)) (pw_or1 (pt_cmpR (op_neD hr.units) (pv 2) (pv 1) (nomark _))))) (pss_one (ps_ret pe_bl)) pss_nil)
      (pss_cons (ps_asg (pe_call G_more (hr.mono (by decide)) (by rfl) T.g_more T.F_more.kp T.b_more .nil pass0 (pa_cons (pv 1) (pa_cons (pe_call G_well (hr.mono (by decide)) (by rfl) T.g_well T.F_well.kp T.b_well .nil pass0 (pa_cons (pe_call G_cell_at (hr.mono (by decide)) (by rfl) T.g_cell_at T.F_cell_at.kp T.b_cell_at .nil pass0 (pa_cons (pv 0) (pa_cons pe_int pa_nil))) (pa_cons pe_int pa_nil))) pa_nil))) (pg_tup (by rfl) (pgs_cons (pg_name (i := 3) sc_law.nd rfl (.inl rfl)) (pgs_cons (pg_name (i := 4) sc_law.nd rfl (.inl rfl)) pgs_nil))))
      (pss_cons (ps_set (i := 2) sc_law.nd rfl (.inl rfl) (pe_call G_lcopy (hr.mono (by decide)) (by rfl) T.g_lcopy T.F_lcopy.kp T.b_lcopy .nil pass0 (pa_cons (pv 3) pa_nil)))
      (pss_cons (ps_set (i := 5) sc_law.nd rfl (.inl rfl) (pe_call G_is_picture (hr.mono (by decide)) (by rfl) T.g_is_picture T.F_is_picture.kp T.b_is_picture .nil pass0 (pa_cons (pv 2) pa_nil)))
      (pss_one (ps_ret (pe_and (pe_callB call_isi (by rfl) T.n_isinstance (by decide +kernel) (pa_cons (pv 5) (pa_cons (pe_bltn (v := .ty "bool") (by rfl) T.n_bool (by decide +kernel) rfl) pa_nil))) (pe_and (pe_cmpR (op_eqD hr.units) (pv 5) (pv 4) (nomark _)) (pe_one (pe_cmpR (op_eqD hr.units) (pv 2) (pv 3) (nomark _))))))))))))), ?_⟩
    rw [show L2.start ["script", "picture", "handed", "more", "due", "found"] [.ref a] = [some (.ref a), none, none, none, none, none] from rfl]
    try dsimp only [cxOf]
    walk_at "wp"
    refine slL hS (fun pc hpc => ?_)
    have s2 := same_new (o := .lst (cutV (ns.map V.int) (some 1) none)) hpc
    rw [show cutV (ns.map V.int) (some 1) none = ((ns.drop 1).map V.int) by rw [show (1 : Int) = ((1 : Nat) : Int) from rfl, Wc.cut_drop, List.map_drop]] at s2 ⊢
    have cl : (ns.drop 1).length ≤ 1000000 := by rw [List.length_drop]; omega
    walk_at "wp"
    refine ⟨pc, ns.drop 1, 30, rfl, SqL.of upd_same, cl, by decide, by decide, fun v P H3 hPb ok sm s3 => ?_⟩
    have hP : IsPic [] H3 v P := hPb [] (fun _ h => nomatch h)
    have hS3 := (s2.trans s3).seq hS
    have g1 := sm.2.2.1
    clear hPb s2 s3 hpc hS
    walk_at "wp"
    refine ⟨v, P, rfl, hP, by omega, fun t a1 b1 c1 d1 gs H4 ht own _ s4 => ?_⟩
    have hh : IsPic [] H4 (.ref t) P := own.pic ht (by simp)
    have hP4 := hP.keep (Ks.same s4)
    have hS4 := s4.seq hS3
    clear own ht hP
    walk_at "wp"
    refine ⟨.ref t, P, rfl, hh, Wip.PicW.of ok, Wow.Mid.of sm (by decide), fun b H5 hb s5 => ?_⟩
    have bt : b = true := hb.mpr ⟨ok.closed, ok.held⟩
    subst bt
    have hh5 := hh.keep (Ks.same s5)
    have hP5 := hP4.keep (Ks.same s5)
    have hS5 := s5.seq hS4
    clear hh hP4 hS3 hS4 s4 s5
    walk_at "wp"
    refine ⟨true, true, rfl, rfl, _, rfl, ?_⟩
    rw [if_neg (by decide)]
    walk_at "wp"
    refine neD hh5.dp hP5.dp (picD_shaped ok) (eq_self (picD_shaped ok)) ?_
    refine ⟨_, rfl, ?_⟩
    walk_at "wp"
    refine ⟨a, ns, 0, rfl, hS5, fun c => ?_⟩
    walk_at "wp"
    refine ⟨c, 62, rfl, by omega, fun wb H6 nb hw6 s6 => ?_⟩
    have hP6 := hP5.keep (Ks.same s6)
    clear hh5 hP5 hS5 s6 nb
    walk_at "wp"
    refine ⟨v, wb, 0, P, rfl, hP6, ok, sm, hw6, by decide, fun r m due P' H7 hr7 hm7 pw dc md => ?_⟩
    have g2 := md.2.2.1
    clear hP6 hw6
    walk_at "wp"
    refine ⟨.ref m, P', rfl, hm7, by omega, fun t8 a8 b8 c8 d8 gs8 H8 ht8 own8 _ s8 => ?_⟩
    have hh8 : IsPic [] H8 (.ref t8) P' := own8.pic ht8 (by simp)
    have hm8 := hm7.keep (Ks.same s8)
    clear own8 ht8 hm7 hr7
    walk_at "wp"
    refine ⟨.ref t8, P', rfl, hh8, pw, md, fun found H9 hf s9 => ?_⟩
    have hh9 := hh8.keep (Ks.same s9)
    have hm9 := hm8.keep (Ks.same s9)
    have fd : found = due := by
      rw [Bool.eq_iff_iff]; exact hf.trans dc.symm
    subst fd
    clear hh8 hm8
    walk_at "wp"
    have sb : SeqAt.shaped (.bool found) = true := by cases found <;> decide +kernel
    refine eqD (.bl _) (.bl _) sb (eq_self sb) ?_
    refine ⟨true, rfl, ?_⟩
    rw [if_pos rfl]
    walk_at "wp"
    refine eqD hh9.dp hm9.dp (wpic_shaped pw) (eq_self (wpic_shaped pw)) ?_
    exact q _

end
end K15

namespace K15
open PySem PySem.Spec PyProof.Rows L2 Wp Wq Wr Wpm Wpn Wth
theorem signs_in {K : PySem.W.Frag} {d : Addr} {es : Array DictEntry} {n : Nat} (hl : K.lookup d = some ⟨.type "dict", none, .dict es n, #[]⟩) (hk : keysAre es.toList [("num", .str ""), ("at", .str "@"), ("box", .str "b"), ("go", .str "g")]) (z : Str) :
    ∃ r, PySem.W.nsIn K d z = some r ∧ r.isSome = (decide (z = "num") || decide (z = "at") || decide (z = "box") || decide (z = "go")) := by
  have hs : (seek z [("num", .str ""), ("at", .str "@"), ("box", .str "b"), ("go", .str "g")]).isSome = (decide (z = "num") || decide (z = "at") || decide (z = "box") || decide (z = "go")) := by
    unfold seek seek seek seek seek
    by_cases c1 : (Str.ofString "num") = z
    · rw [if_pos c1, decide_eq_true c1.symm] <;> rfl
    rw [if_neg c1, decide_eq_false (fun h => c1 h.symm), Bool.false_or]
    by_cases c2 : (Str.ofString "at") = z
    · rw [if_pos c2, decide_eq_true c2.symm] <;> rfl
    rw [if_neg c2, decide_eq_false (fun h => c2 h.symm), Bool.false_or]
    by_cases c3 : (Str.ofString "box") = z
    · rw [if_pos c3, decide_eq_true c3.symm] <;> rfl
    rw [if_neg c3, decide_eq_false (fun h => c3 h.symm), Bool.false_or]
    by_cases c4 : (Str.ofString "go") = z
    · rw [if_pos c4, decide_eq_true c4.symm] <;> rfl
    rw [if_neg c4, decide_eq_false (fun h => c4 h.symm)] <;> rfl
  rcases ns_seek hl hk z with ⟨v, u, e1, e2, _⟩ | ⟨e1, e2⟩
  · rw [e1] at hs
    exact ⟨_, e2, hs⟩
  · rw [e1] at hs
    exact ⟨_, e2, hs⟩

/-! ### what the top has written; the law's own head -/
theorem all_mk {l : PySem.W.OpenLaw} {w : World} {K : PySem.W.Frag} {h : Heap} {mg : Str → Option Value} {fa : Addr} (X : K.In h) (G : h.Ns mainGlobals mg) (hfa : mg "law" = some (.ref fa))
    {f0 : Addr} {od0 an0 : Option Addr} {sl0 : Array (Option Value)} {oc0 kV0 dc0 pm0 cd0 ct0 : Value}
    (a0 : PySem.W.nsIn K mainGlobals "is_number" = some (some (.ref f0))) (l0 : K.lookup f0 = some ⟨oc0, od0, .func (PySem.W.fnOf "is_number" "is_number" (defArgs s_is_number) (defBody s_is_number) (defScope s_is_number) .none kV0 dc0 pm0 an0 cd0 ct0), sl0⟩) (c0 : PySem.W.codeIn K cd0 "is_number" = true) (k0 : PySem.W.keepIn K (.ref f0) = true)
    {f1 : Addr} {od1 an1 : Option Addr} {sl1 : Array (Option Value)} {oc1 kV1 dc1 pm1 cd1 ct1 : Value}
    (a1 : PySem.W.nsIn K mainGlobals "is_worth" = some (some (.ref f1))) (l1 : K.lookup f1 = some ⟨oc1, od1, .func (PySem.W.fnOf "is_worth" "is_worth" (defArgs s_is_worth) (defBody s_is_worth) (defScope s_is_worth) .none kV1 dc1 pm1 an1 cd1 ct1), sl1⟩) (c1 : PySem.W.codeIn K cd1 "is_worth" = true) (k1 : PySem.W.keepIn K (.ref f1) = true)
    {f2 : Addr} {od2 an2 : Option Addr} {sl2 : Array (Option Value)} {oc2 kV2 dc2 pm2 cd2 ct2 : Value}
    (a2 : PySem.W.nsIn K mainGlobals "is_thing" = some (some (.ref f2))) (l2 : K.lookup f2 = some ⟨oc2, od2, .func (PySem.W.fnOf "is_thing" "is_thing" (defArgs s_is_thing) (defBody s_is_thing) (defScope s_is_thing) .none kV2 dc2 pm2 an2 cd2 ct2), sl2⟩) (c2 : PySem.W.codeIn K cd2 "is_thing" = true) (k2 : PySem.W.keepIn K (.ref f2) = true)
    {f3 : Addr} {od3 an3 : Option Addr} {sl3 : Array (Option Value)} {oc3 kV3 dc3 pm3 cd3 ct3 : Value}
    (a3 : PySem.W.nsIn K mainGlobals "things_of" = some (some (.ref f3))) (l3 : K.lookup f3 = some ⟨oc3, od3, .func (PySem.W.fnOf "things_of" "things_of" (defArgs s_things_of) (defBody s_things_of) (defScope s_things_of) .none kV3 dc3 pm3 an3 cd3 ct3), sl3⟩) (c3 : PySem.W.codeIn K cd3 "things_of" = true) (k3 : PySem.W.keepIn K (.ref f3) = true)
    {f4 : Addr} {od4 an4 : Option Addr} {sl4 : Array (Option Value)} {oc4 kV4 dc4 pm4 cd4 ct4 : Value}
    (a4 : PySem.W.nsIn K mainGlobals "is_name" = some (some (.ref f4))) (l4 : K.lookup f4 = some ⟨oc4, od4, .func (PySem.W.fnOf "is_name" "is_name" (defArgs s_is_name) (defBody s_is_name) (defScope s_is_name) .none kV4 dc4 pm4 an4 cd4 ct4), sl4⟩) (c4 : PySem.W.codeIn K cd4 "is_name" = true) (k4 : PySem.W.keepIn K (.ref f4) = true)
    {f5 : Addr} {od5 an5 : Option Addr} {sl5 : Array (Option Value)} {oc5 kV5 dc5 pm5 cd5 ct5 : Value}
    (a5 : PySem.W.nsIn K mainGlobals "is_count" = some (some (.ref f5))) (l5 : K.lookup f5 = some ⟨oc5, od5, .func (PySem.W.fnOf "is_count" "is_count" (defArgs s_is_count) (defBody s_is_count) (defScope s_is_count) .none kV5 dc5 pm5 an5 cd5 ct5), sl5⟩) (c5 : PySem.W.codeIn K cd5 "is_count" = true) (k5 : PySem.W.keepIn K (.ref f5) = true)
    {f6 : Addr} {od6 an6 : Option Addr} {sl6 : Array (Option Value)} {oc6 kV6 dc6 pm6 cd6 ct6 : Value}
    (a6 : PySem.W.nsIn K mainGlobals "is_pile" = some (some (.ref f6))) (l6 : K.lookup f6 = some ⟨oc6, od6, .func (PySem.W.fnOf "is_pile" "is_pile" (defArgs s_is_pile) (defBody s_is_pile) (defScope s_is_pile) .none kV6 dc6 pm6 an6 cd6 ct6), sl6⟩) (c6 : PySem.W.codeIn K cd6 "is_pile" = true) (k6 : PySem.W.keepIn K (.ref f6) = true)
    {f7 : Addr} {od7 an7 : Option Addr} {sl7 : Array (Option Value)} {oc7 kV7 dc7 pm7 cd7 ct7 : Value}
    (a7 : PySem.W.nsIn K mainGlobals "are_rows" = some (some (.ref f7))) (l7 : K.lookup f7 = some ⟨oc7, od7, .func (PySem.W.fnOf "are_rows" "are_rows" (defArgs s_are_rows) (defBody s_are_rows) (defScope s_are_rows) .none kV7 dc7 pm7 an7 cd7 ct7), sl7⟩) (c7 : PySem.W.codeIn K cd7 "are_rows" = true) (k7 : PySem.W.keepIn K (.ref f7) = true)
    {f8 : Addr} {od8 an8 : Option Addr} {sl8 : Array (Option Value)} {oc8 kV8 dc8 pm8 cd8 ct8 : Value}
    (a8 : PySem.W.nsIn K mainGlobals "is_rising" = some (some (.ref f8))) (l8 : K.lookup f8 = some ⟨oc8, od8, .func (PySem.W.fnOf "is_rising" "is_rising" (defArgs s_is_rising) (defBody s_is_rising) (defScope s_is_rising) .none kV8 dc8 pm8 an8 cd8 ct8), sl8⟩) (c8 : PySem.W.codeIn K cd8 "is_rising" = true) (k8 : PySem.W.keepIn K (.ref f8) = true)
    {f9 : Addr} {od9 an9 : Option Addr} {sl9 : Array (Option Value)} {oc9 kV9 dc9 pm9 cd9 ct9 : Value}
    (a9 : PySem.W.nsIn K mainGlobals "are_pegs" = some (some (.ref f9))) (l9 : K.lookup f9 = some ⟨oc9, od9, .func (PySem.W.fnOf "are_pegs" "are_pegs" (defArgs s_are_pegs) (defBody s_are_pegs) (defScope s_are_pegs) .none kV9 dc9 pm9 an9 cd9 ct9), sl9⟩) (c9 : PySem.W.codeIn K cd9 "are_pegs" = true) (k9 : PySem.W.keepIn K (.ref f9) = true)
    {f10 : Addr} {od10 an10 : Option Addr} {sl10 : Array (Option Value)} {oc10 kV10 dc10 pm10 cd10 ct10 : Value}
    (a10 : PySem.W.nsIn K mainGlobals "are_goings" = some (some (.ref f10))) (l10 : K.lookup f10 = some ⟨oc10, od10, .func (PySem.W.fnOf "are_goings" "are_goings" (defArgs s_are_goings) (defBody s_are_goings) (defScope s_are_goings) .none kV10 dc10 pm10 an10 cd10 ct10), sl10⟩) (c10 : PySem.W.codeIn K cd10 "are_goings" = true) (k10 : PySem.W.keepIn K (.ref f10) = true)
    {f11 : Addr} {od11 an11 : Option Addr} {sl11 : Array (Option Value)} {oc11 kV11 dc11 pm11 cd11 ct11 : Value}
    (a11 : PySem.W.nsIn K mainGlobals "are_boxes" = some (some (.ref f11))) (l11 : K.lookup f11 = some ⟨oc11, od11, .func (PySem.W.fnOf "are_boxes" "are_boxes" (defArgs s_are_boxes) (defBody s_are_boxes) (defScope s_are_boxes) .none kV11 dc11 pm11 an11 cd11 ct11), sl11⟩) (c11 : PySem.W.codeIn K cd11 "are_boxes" = true) (k11 : PySem.W.keepIn K (.ref f11) = true)
    {f12 : Addr} {od12 an12 : Option Addr} {sl12 : Array (Option Value)} {oc12 kV12 dc12 pm12 cd12 ct12 : Value}
    (a12 : PySem.W.nsIn K mainGlobals "worths_of" = some (some (.ref f12))) (l12 : K.lookup f12 = some ⟨oc12, od12, .func (PySem.W.fnOf "worths_of" "worths_of" (defArgs s_worths_of) (defBody s_worths_of) (defScope s_worths_of) .none kV12 dc12 pm12 an12 cd12 ct12), sl12⟩) (c12 : PySem.W.codeIn K cd12 "worths_of" = true) (k12 : PySem.W.keepIn K (.ref f12) = true)
    {f13 : Addr} {od13 an13 : Option Addr} {sl13 : Array (Option Value)} {oc13 kV13 dc13 pm13 cd13 ct13 : Value}
    (a13 : PySem.W.nsIn K mainGlobals "is_picture" = some (some (.ref f13))) (l13 : K.lookup f13 = some ⟨oc13, od13, .func (PySem.W.fnOf "is_picture" "is_picture" (defArgs s_is_picture) (defBody s_is_picture) (defScope s_is_picture) .none kV13 dc13 pm13 an13 cd13 ct13), sl13⟩) (c13 : PySem.W.codeIn K cd13 "is_picture" = true) (k13 : PySem.W.keepIn K (.ref f13) = true)
    {f14 : Addr} {od14 an14 : Option Addr} {sl14 : Array (Option Value)} {oc14 kV14 dc14 pm14 cd14 ct14 : Value}
    (a14 : PySem.W.nsIn K mainGlobals "things" = some (some (.ref f14))) (l14 : K.lookup f14 = some ⟨oc14, od14, .func (PySem.W.fnOf "things" "things" (defArgs s_things) (defBody s_things) (defScope s_things) .none kV14 dc14 pm14 an14 cd14 ct14), sl14⟩) (c14 : PySem.W.codeIn K cd14 "things" = true) (k14 : PySem.W.keepIn K (.ref f14) = true)
    {f15 : Addr} {od15 an15 : Option Addr} {sl15 : Array (Option Value)} {oc15 kV15 dc15 pm15 cd15 ct15 : Value}
    (a15 : PySem.W.nsIn K mainGlobals "holdings" = some (some (.ref f15))) (l15 : K.lookup f15 = some ⟨oc15, od15, .func (PySem.W.fnOf "holdings" "holdings" (defArgs s_holdings) (defBody s_holdings) (defScope s_holdings) .none kV15 dc15 pm15 an15 cd15 ct15), sl15⟩) (c15 : PySem.W.codeIn K cd15 "holdings" = true) (k15 : PySem.W.keepIn K (.ref f15) = true)
    {f16 : Addr} {od16 an16 : Option Addr} {sl16 : Array (Option Value)} {oc16 kV16 dc16 pm16 cd16 ct16 : Value}
    (a16 : PySem.W.nsIn K mainGlobals "_law_cell_at" = some (some (.ref f16))) (l16 : K.lookup f16 = some ⟨oc16, od16, .func (PySem.W.fnOf "_law_cell_at" "_law_cell_at" (defArgs s_cell_at) (defBody s_cell_at) (defScope s_cell_at) .none kV16 dc16 pm16 an16 cd16 ct16), sl16⟩) (c16 : PySem.W.codeIn K cd16 "_law_cell_at" = true) (k16 : PySem.W.keepIn K (.ref f16) = true)
    {f17 : Addr} {od17 an17 : Option Addr} {sl17 : Array (Option Value)} {oc17 kV17 dc17 pm17 cd17 ct17 : Value}
    (a17 : PySem.W.nsIn K mainGlobals "_law_stir" = some (some (.ref f17))) (l17 : K.lookup f17 = some ⟨oc17, od17, .func (PySem.W.fnOf "_law_stir" "_law_stir" (defArgs s_stir) (defBody s_stir) (defScope s_stir) .none kV17 dc17 pm17 an17 cd17 ct17), sl17⟩) (c17 : PySem.W.codeIn K cd17 "_law_stir" = true) (k17 : PySem.W.keepIn K (.ref f17) = true)
    {f18 : Addr} {od18 an18 : Option Addr} {sl18 : Array (Option Value)} {oc18 kV18 dc18 pm18 cd18 ct18 : Value}
    (a18 : PySem.W.nsIn K mainGlobals "_law_well" = some (some (.ref f18))) (l18 : K.lookup f18 = some ⟨oc18, od18, .func (PySem.W.fnOf "_law_well" "_law_well" (defArgs s_well) (defBody s_well) (defScope s_well) .none kV18 dc18 pm18 an18 cd18 ct18), sl18⟩) (c18 : PySem.W.codeIn K cd18 "_law_well" = true) (k18 : PySem.W.keepIn K (.ref f18) = true)
    {f19 : Addr} {od19 an19 : Option Addr} {sl19 : Array (Option Value)} {oc19 kV19 dc19 pm19 cd19 ct19 : Value}
    (a19 : PySem.W.nsIn K mainGlobals "_law_draw" = some (some (.ref f19))) (l19 : K.lookup f19 = some ⟨oc19, od19, .func (PySem.W.fnOf "_law_draw" "_law_draw" (defArgs s_draw) (defBody s_draw) (defScope s_draw) .none kV19 dc19 pm19 an19 cd19 ct19), sl19⟩) (c19 : PySem.W.codeIn K cd19 "_law_draw" = true) (k19 : PySem.W.keepIn K (.ref f19) = true)
    {f20 : Addr} {od20 an20 : Option Addr} {sl20 : Array (Option Value)} {oc20 kV20 dc20 pm20 cd20 ct20 : Value}
    (a20 : PySem.W.nsIn K mainGlobals "_law_worth" = some (some (.ref f20))) (l20 : K.lookup f20 = some ⟨oc20, od20, .func (PySem.W.fnOf "_law_worth" "_law_worth" (defArgs s_worth) (defBody s_worth) (defScope s_worth) .none kV20 dc20 pm20 an20 cd20 ct20), sl20⟩) (c20 : PySem.W.codeIn K cd20 "_law_worth" = true) (k20 : PySem.W.keepIn K (.ref f20) = true)
    {f21 : Addr} {od21 an21 : Option Addr} {sl21 : Array (Option Value)} {oc21 kV21 dc21 pm21 cd21 ct21 : Value}
    (a21 : PySem.W.nsIn K mainGlobals "_law_name" = some (some (.ref f21))) (l21 : K.lookup f21 = some ⟨oc21, od21, .func (PySem.W.fnOf "_law_name" "_law_name" (defArgs s_name) (defBody s_name) (defScope s_name) .none kV21 dc21 pm21 an21 cd21 ct21), sl21⟩) (c21 : PySem.W.codeIn K cd21 "_law_name" = true) (k21 : PySem.W.keepIn K (.ref f21) = true)
    {f22 : Addr} {od22 an22 : Option Addr} {sl22 : Array (Option Value)} {oc22 kV22 dc22 pm22 cd22 ct22 : Value}
    (a22 : PySem.W.nsIn K mainGlobals "_law_numbered" = some (some (.ref f22))) (l22 : K.lookup f22 = some ⟨oc22, od22, .func (PySem.W.fnOf "_law_numbered" "_law_numbered" (defArgs s_numbered) (defBody s_numbered) (defScope s_numbered) .none kV22 dc22 pm22 an22 cd22 ct22), sl22⟩) (c22 : PySem.W.codeIn K cd22 "_law_numbered" = true) (k22 : PySem.W.keepIn K (.ref f22) = true)
    {f23 : Addr} {od23 an23 : Option Addr} {sl23 : Array (Option Value)} {oc23 kV23 dc23 pm23 cd23 ct23 : Value}
    (a23 : PySem.W.nsIn K mainGlobals "_law_hold" = some (some (.ref f23))) (l23 : K.lookup f23 = some ⟨oc23, od23, .func (PySem.W.fnOf "_law_hold" "_law_hold" (defArgs s_hold) (defBody s_hold) (defScope s_hold) .none kV23 dc23 pm23 an23 cd23 ct23), sl23⟩) (c23 : PySem.W.codeIn K cd23 "_law_hold" = true) (k23 : PySem.W.keepIn K (.ref f23) = true)
    {f24 : Addr} {od24 an24 : Option Addr} {sl24 : Array (Option Value)} {oc24 kV24 dc24 pm24 cd24 ct24 : Value}
    (a24 : PySem.W.nsIn K mainGlobals "_law_picture" = some (some (.ref f24))) (l24 : K.lookup f24 = some ⟨oc24, od24, .func (PySem.W.fnOf "_law_picture" "_law_picture" (defArgs s_picture) (defBody s_picture) (defScope s_picture) .none kV24 dc24 pm24 an24 cd24 ct24), sl24⟩) (c24 : PySem.W.codeIn K cd24 "_law_picture" = true) (k24 : PySem.W.keepIn K (.ref f24) = true)
    {f25 : Addr} {od25 an25 : Option Addr} {sl25 : Array (Option Value)} {oc25 kV25 dc25 pm25 cd25 ct25 : Value}
    (a25 : PySem.W.nsIn K mainGlobals "_law_copy" = some (some (.ref f25))) (l25 : K.lookup f25 = some ⟨oc25, od25, .func (PySem.W.fnOf "_law_copy" "_law_copy" (defArgs s_lcopy) (defBody s_lcopy) (defScope s_lcopy) .none kV25 dc25 pm25 an25 cd25 ct25), sl25⟩) (c25 : PySem.W.codeIn K cd25 "_law_copy" = true) (k25 : PySem.W.keepIn K (.ref f25) = true)
    {f26 : Addr} {od26 an26 : Option Addr} {sl26 : Array (Option Value)} {oc26 kV26 dc26 pm26 cd26 ct26 : Value}
    (a26 : PySem.W.nsIn K mainGlobals "_law_more" = some (some (.ref f26))) (l26 : K.lookup f26 = some ⟨oc26, od26, .func (PySem.W.fnOf "_law_more" "_law_more" (defArgs s_more) (defBody s_more) (defScope s_more) .none kV26 dc26 pm26 an26 cd26 ct26), sl26⟩) (c26 : PySem.W.codeIn K cd26 "_law_more" = true) (k26 : PySem.W.keepIn K (.ref f26) = true)
    {f27 : Addr} {od27 an27 : Option Addr} {sl27 : Array (Option Value)} {oc27 kV27 dc27 pm27 cd27 ct27 : Value}
    (a27 : PySem.W.nsIn K mainGlobals "law" = some (some (.ref f27))) (l27 : K.lookup f27 = some ⟨oc27, od27, .func (PySem.W.fnOf "law" "law" (defArgs s_law) (defBody s_law) (defScope s_law) .none kV27 dc27 pm27 an27 cd27 ct27), sl27⟩) (c27 : PySem.W.codeIn K cd27 "law" = true) (k27 : PySem.W.keepIn K (.ref f27) = true)
    (z_all : PySem.W.nsIn K mainGlobals "all" = some none)
    (z_any : PySem.W.nsIn K mainGlobals "any" = some none)
    (z_bool : PySem.W.nsIn K mainGlobals "bool" = some none)
    (z_int : PySem.W.nsIn K mainGlobals "int" = some none)
    (z_isinstance : PySem.W.nsIn K mainGlobals "isinstance" = some none)
    (z_len : PySem.W.nsIn K mainGlobals "len" = some none)
    (z_list : PySem.W.nsIn K mainGlobals "list" = some none)
    (z_max : PySem.W.nsIn K mainGlobals "max" = some none)
    (z_min : PySem.W.nsIn K mainGlobals "min" = some none)
    (z_range : PySem.W.nsIn K mainGlobals "range" = some none)
    (z_sorted : PySem.W.nsIn K mainGlobals "sorted" = some none)
    (z_str : PySem.W.nsIn K mainGlobals "str" = some none)
    (z_tuple : PySem.W.nsIn K mainGlobals "tuple" = some none)
    (z_type : PySem.W.nsIn K mainGlobals "type" = some none)
    (z_zip : PySem.W.nsIn K mainGlobals "zip" = some none)
    {d : Addr} {es : Array DictEntry} {no : Nat} (sm : PySem.W.nsIn K mainGlobals "SIGNS" = some (some (.ref d))) (sl : K.lookup d = some ⟨.type "dict", none, .dict es no, #[]⟩) (st : PySem.W.KeysLit w.params es.toList) (sy : (d == sysModules) = false) (sk : keysAre es.toList [("num", .str ""), ("at", .str "@"), ("box", .str "b"), ("go", .str "g")])
    {tLETTERS : Tok} (sLETTERS : PySem.W.nsIn K mainGlobals "LETTERS" = some (some (.str "abcdefghijklmnopqrstuvwxyz" tLETTERS)))
    {tMOST_LETTERS : Tok} (sMOST_LETTERS : PySem.W.nsIn K mainGlobals "MOST_LETTERS" = some (some (.int 8 tMOST_LETTERS)))
    : ∃ fd : FuncData, (∀ (s : Shared) (v : Value), BindsTo s fd ⟨[v], []⟩ [("script", v)]) ∧ ∀ base : Heap, K.In base → base.Ns mainGlobals mg → FnOk l.prog w K mg base CX0 6 fa fd ["script"] (spLaw K) := by
  have e := hfa.symm.trans (PySem.W.mg_of X G a27)
  cases e
  have F0 := fun_mk (st := s_is_number) l0 c0 k0
  have F1 := fun_mk (st := s_is_worth) l1 c1 k1
  have F2 := fun_mk (st := s_is_thing) l2 c2 k2
  have F3 := fun_mk (st := s_things_of) l3 c3 k3
  have F4 := fun_mk (st := s_is_name) l4 c4 k4
  have F5 := fun_mk (st := s_is_count) l5 c5 k5
  have F6 := fun_mk (st := s_is_pile) l6 c6 k6
  have F7 := fun_mk (st := s_are_rows) l7 c7 k7
  have F8 := fun_mk (st := s_is_rising) l8 c8 k8
  have F9 := fun_mk (st := s_are_pegs) l9 c9 k9
  have F10 := fun_mk (st := s_are_goings) l10 c10 k10
  have F11 := fun_mk (st := s_are_boxes) l11 c11 k11
  have F12 := fun_mk (st := s_worths_of) l12 c12 k12
  have F13 := fun_mk (st := s_is_picture) l13 c13 k13
  have F14 := fun_mk (st := s_things) l14 c14 k14
  have F15 := fun_mk (st := s_holdings) l15 c15 k15
  have F16 := fun_mk (st := s_cell_at) l16 c16 k16
  have F17 := fun_mk (st := s_stir) l17 c17 k17
  have F18 := fun_mk (st := s_well) l18 c18 k18
  have F19 := fun_mk (st := s_draw) l19 c19 k19
  have F20 := fun_mk (st := s_worth) l20 c20 k20
  have F21 := fun_mk (st := s_name) l21 c21 k21
  have F22 := fun_mk (st := s_numbered) l22 c22 k22
  have F23 := fun_mk (st := s_hold) l23 c23 k23
  have F24 := fun_mk (st := s_picture) l24 c24 k24
  have F25 := fun_mk (st := s_lcopy) l25 c25 k25
  have F26 := fun_mk (st := s_more) l26 c26 k26
  have F27 := fun_mk (st := s_law) l27 c27 k27
  let T : Txt l.prog w K mg := {
    f_is_number := f0,
    fd_is_number := _,
    F_is_number := F0,
    b_is_number := F0.binds (ps := ["thing"]) fun _ _ _ _ _ _ us hl => match us, hl with | [_], _ => rfl,
    g_is_number := PySem.W.mg_of X G a0,
    f_is_worth := f1,
    fd_is_worth := _,
    F_is_worth := F1,
    b_is_worth := F1.binds (ps := ["thing"]) fun _ _ _ _ _ _ us hl => match us, hl with | [_], _ => rfl,
    g_is_worth := PySem.W.mg_of X G a1,
    f_is_thing := f2,
    fd_is_thing := _,
    F_is_thing := F2,
    b_is_thing := F2.binds (ps := ["worth"]) fun _ _ _ _ _ _ us hl => match us, hl with | [_], _ => rfl,
    g_is_thing := PySem.W.mg_of X G a2,
    f_things_of := f3,
    fd_things_of := _,
    F_things_of := F3,
    b_things_of := F3.binds (ps := ["worths"]) fun _ _ _ _ _ _ us hl => match us, hl with | [_], _ => rfl,
    g_things_of := PySem.W.mg_of X G a3,
    f_is_name := f4,
    fd_is_name := _,
    F_is_name := F4,
    b_is_name := F4.binds (ps := ["thing"]) fun _ _ _ _ _ _ us hl => match us, hl with | [_], _ => rfl,
    g_is_name := PySem.W.mg_of X G a4,
    f_is_count := f5,
    fd_is_count := _,
    F_is_count := F5,
    b_is_count := F5.binds (ps := ["thing"]) fun _ _ _ _ _ _ us hl => match us, hl with | [_], _ => rfl,
    g_is_count := PySem.W.mg_of X G a5,
    f_is_pile := f6,
    fd_is_pile := _,
    F_is_pile := F6,
    b_is_pile := F6.binds (ps := ["thing"]) fun _ _ _ _ _ _ us hl => match us, hl with | [_], _ => rfl,
    g_is_pile := PySem.W.mg_of X G a6,
    f_are_rows := f7,
    fd_are_rows := _,
    F_are_rows := F7,
    b_are_rows := F7.binds (ps := ["thing", "width"]) fun _ _ _ _ _ _ us hl => match us, hl with | [_, _], _ => rfl,
    g_are_rows := PySem.W.mg_of X G a7,
    f_is_rising := f8,
    fd_is_rising := _,
    F_is_rising := F8,
    b_is_rising := F8.binds (ps := ["keys"]) fun _ _ _ _ _ _ us hl => match us, hl with | [_], _ => rfl,
    g_is_rising := PySem.W.mg_of X G a8,
    f_are_pegs := f9,
    fd_are_pegs := _,
    F_are_pegs := F9,
    b_are_pegs := F9.binds (ps := ["thing"]) fun _ _ _ _ _ _ us hl => match us, hl with | [_], _ => rfl,
    g_are_pegs := PySem.W.mg_of X G a9,
    f_are_goings := f10,
    fd_are_goings := _,
    F_are_goings := F10,
    b_are_goings := F10.binds (ps := ["thing"]) fun _ _ _ _ _ _ us hl => match us, hl with | [_], _ => rfl,
    g_are_goings := PySem.W.mg_of X G a10,
    f_are_boxes := f11,
    fd_are_boxes := _,
    F_are_boxes := F11,
    b_are_boxes := F11.binds (ps := ["thing"]) fun _ _ _ _ _ _ us hl => match us, hl with | [_], _ => rfl,
    g_are_boxes := PySem.W.mg_of X G a11,
    f_worths_of := f12,
    fd_worths_of := _,
    F_worths_of := F12,
    b_worths_of := F12.binds (ps := ["picture"]) fun _ _ _ _ _ _ us hl => match us, hl with | [_], _ => rfl,
    g_worths_of := PySem.W.mg_of X G a12,
    f_is_picture := f13,
    fd_is_picture := _,
    F_is_picture := F13,
    b_is_picture := F13.binds (ps := ["thing"]) fun _ _ _ _ _ _ us hl => match us, hl with | [_], _ => rfl,
    g_is_picture := PySem.W.mg_of X G a13,
    f_things := f14,
    fd_things := _,
    F_things := F14,
    b_things := F14.binds (ps := ["picture"]) fun _ _ _ _ _ _ us hl => match us, hl with | [_], _ => rfl,
    g_things := PySem.W.mg_of X G a14,
    f_holdings := f15,
    fd_holdings := _,
    F_holdings := F15,
    b_holdings := F15.binds (ps := ["picture"]) fun _ _ _ _ _ _ us hl => match us, hl with | [_], _ => rfl,
    g_holdings := PySem.W.mg_of X G a15,
    f_cell_at := f16,
    fd_cell_at := _,
    F_cell_at := F16,
    b_cell_at := F16.binds (ps := ["script", "k"]) fun _ _ _ _ _ _ us hl => match us, hl with | [_, _], _ => rfl,
    g_cell_at := PySem.W.mg_of X G a16,
    f_stir := f17,
    fd_stir := _,
    F_stir := F17,
    b_stir := F17.binds (ps := ["seed", "turn"]) fun _ _ _ _ _ _ us hl => match us, hl with | [_, _], _ => rfl,
    g_stir := PySem.W.mg_of X G a17,
    f_well := f18,
    fd_well := _,
    F_well := F18,
    b_well := F18.binds (ps := ["cell", "k"]) fun _ _ _ _ _ _ us hl => match us, hl with | [_, _], _ => rfl,
    g_well := PySem.W.mg_of X G a18,
    f_draw := f19,
    fd_draw := _,
    F_draw := F19,
    b_draw := F19.binds (ps := ["well", "many"]) fun _ _ _ _ _ _ us hl => match us, hl with | [_, _], _ => rfl,
    g_draw := PySem.W.mg_of X G a19,
    f_worth := f20,
    fd_worth := _,
    F_worth := F20,
    b_worth := F20.binds (ps := ["well", "some"]) fun _ _ _ _ _ _ us hl => match us, hl with | [_, _], _ => rfl,
    g_worth := PySem.W.mg_of X G a20,
    f_name := f21,
    fd_name := _,
    F_name := F21,
    b_name := F21.binds (ps := ["well", "last"]) fun _ _ _ _ _ _ us hl => match us, hl with | [_, _], _ => rfl,
    g_name := PySem.W.mg_of X G a21,
    f_numbered := f22,
    fd_numbered := _,
    F_numbered := F22,
    b_numbered := F22.binds (ps := ["wells"]) fun _ _ _ _ _ _ us hl => match us, hl with | [_], _ => rfl,
    g_numbered := PySem.W.mg_of X G a22,
    f_hold := f23,
    fd_hold := _,
    F_hold := F23,
    b_hold := F23.binds (ps := ["well", "where", "thing", "pile", "pegs", "hosts"]) fun _ _ _ _ _ _ us hl => match us, hl with | [_, _, _, _, _, _], _ => rfl,
    g_hold := PySem.W.mg_of X G a23,
    f_picture := f24,
    fd_picture := _,
    F_picture := F24,
    b_picture := F24.binds (ps := ["cells", "most"]) fun _ _ _ _ _ _ us hl => match us, hl with | [_, _], _ => rfl,
    g_picture := PySem.W.mg_of X G a24,
    f_lcopy := f25,
    fd_lcopy := _,
    F_lcopy := F25,
    b_lcopy := F25.binds (ps := ["picture"]) fun _ _ _ _ _ _ us hl => match us, hl with | [_], _ => rfl,
    g_lcopy := PySem.W.mg_of X G a25,
    f_more := f26,
    fd_more := _,
    F_more := F26,
    b_more := F26.binds (ps := ["picture", "well"]) fun _ _ _ _ _ _ us hl => match us, hl with | [_, _], _ => rfl,
    g_more := PySem.W.mg_of X G a26,
    f_law := fa,
    fd_law := _,
    F_law := F27,
    b_law := F27.binds (ps := ["script"]) fun _ _ _ _ _ _ us hl => match us, hl with | [_], _ => rfl,
    g_law := PySem.W.mg_of X G a27,
    n_all := PySem.W.mg_none_of X G z_all,
    n_any := PySem.W.mg_none_of X G z_any,
    n_bool := PySem.W.mg_none_of X G z_bool,
    n_int := PySem.W.mg_none_of X G z_int,
    n_isinstance := PySem.W.mg_none_of X G z_isinstance,
    n_len := PySem.W.mg_none_of X G z_len,
    n_list := PySem.W.mg_none_of X G z_list,
    n_max := PySem.W.mg_none_of X G z_max,
    n_min := PySem.W.mg_none_of X G z_min,
    n_range := PySem.W.mg_none_of X G z_range,
    n_sorted := PySem.W.mg_none_of X G z_sorted,
    n_str := PySem.W.mg_none_of X G z_str,
    n_tuple := PySem.W.mg_none_of X G z_tuple,
    n_type := PySem.W.mg_none_of X G z_type,
    n_zip := PySem.W.mg_none_of X G z_zip,
    d_SIGNS := d,
    es_SIGNS := es,
    no_SIGNS := no,
    c_SIGNS := PySem.W.mg_of X G sm,
    k_SIGNS := ⟨sl, st, sy⟩,
    i_SIGNS := signs_in sl sk,
    t_LETTERS := tLETTERS,
    c_LETTERS := PySem.W.mg_of X G sLETTERS,
    t_MOST_LETTERS := tMOST_LETTERS,
    c_MOST_LETTERS := PySem.W.mg_of X G sMOST_LETTERS }
  exact ⟨PySem.W.fnOf "law" "law" (defArgs s_law) (defBody s_law) (defScope s_law) .none kV27 dc27 pm27 an27 cd27 ct27, fun s v => .of_eq rfl, fun base _ _ => ok_law T⟩
end K15
open PySem PySem.W PyProof.Rows
set_option maxHeartbeats 0 in
theorem PySem.Challenge.cw_manygoings_k15_what_is_a_picture_holds : PySem.Challenge.rw_manygoings_k15_what_is_a_picture.Holds := by
  w_on; o_law; k_head; (case hw => w_witness2)
  k_fill
  refine L2.walk_of (l := PySem.Challenge.rw_manygoings_k15_what_is_a_picture) (n := 63) (k := 6) (x := "script") (CX := fun _ => L2.CX0) (sp := fun w => K15.spLaw _) rfl (by decide) rfl ⟨rfl, by decide, by decide⟩ (fun w h Y => PySem.W.kIn_of Y) ?F (fun _ _ a ns hl _ hS => ⟨a, ns, rfl, hS, hl, fun _ => rfl⟩) (fun _ _ _ _ _ h => h)
  case F =>
    intro w mg fa h KX G hmg
    refine' K15.all_mk KX G hmg ?a0 ?l0 ?c0 ?k0 ?a1 ?l1 ?c1 ?k1 ?a2 ?l2 ?c2 ?k2 ?a3 ?l3 ?c3 ?k3 ?a4 ?l4 ?c4 ?k4 ?a5 ?l5 ?c5 ?k5 ?a6 ?l6 ?c6 ?k6 ?a7 ?l7 ?c7 ?k7 ?a8 ?l8 ?c8 ?k8 ?a9 ?l9 ?c9 ?k9 ?a10 ?l10 ?c10 ?k10 ?a11 ?l11 ?c11 ?k11 ?a12 ?l12 ?c12 ?k12 ?a13 ?l13 ?c13 ?k13 ?a14 ?l14 ?c14 ?k14 ?a15 ?l15 ?c15 ?k15 ?a16 ?l16 ?c16 ?k16 ?a17 ?l17 ?c17 ?k17 ?a18 ?l18 ?c18 ?k18 ?a19 ?l19 ?c19 ?k19 ?a20 ?l20 ?c20 ?k20 ?a21 ?l21 ?c21 ?k21 ?a22 ?l22 ?c22 ?k22 ?a23 ?l23 ?c23 ?k23 ?a24 ?l24 ?c24 ?k24 ?a25 ?l25 ?c25 ?k25 ?a26 ?l26 ?c26 ?k26 ?a27 ?l27 ?c27 ?k27 ?z_all ?z_any ?z_bool ?z_int ?z_isinstance ?z_len ?z_list ?z_max ?z_min ?z_range ?z_sorted ?z_str ?z_tuple ?z_type ?z_zip ?sm ?sl ?st ?sy ?sk ?sLETTERS ?sMOST_LETTERS
    (case a0 => k_is); (case l0 => k_is); (case c0 => k_is); (case k0 => k_is); (case a1 => k_is); (case l1 => k_is); (case c1 => k_is); (case k1 => k_is); (case a2 => k_is); (case l2 => k_is); (case c2 => k_is); (case k2 => k_is); (case a3 => k_is); (case l3 => k_is); (case c3 => k_is); (case k3 => k_is); (case a4 => k_is); (case l4 => k_is); (case c4 => k_is); (case k4 => k_is); (case a5 => k_is); (case l5 => k_is); (case c5 => k_is); (case k5 => k_is); (case a6 => k_is); (case l6 => k_is); (case c6 => k_is); (case k6 => k_is); (case a7 => k_is); (case l7 => k_is); (case c7 => k_is); (case k7 => k_is); (case a8 => k_is); (case l8 => k_is); (case c8 => k_is); (case k8 => k_is); (case a9 => k_is); (case l9 => k_is); (case c9 => k_is); (case k9 => k_is); (case a10 => k_is); (case l10 => k_is); (case c10 => k_is); (case k10 => k_is); (case a11 => k_is); (case l11 => k_is); (case c11 => k_is); (case k11 => k_is); (case a12 => k_is); (case l12 => k_is); (case c12 => k_is); (case k12 => k_is); (case a13 => k_is); (case l13 => k_is); (case c13 => k_is); (case k13 => k_is); (case a14 => k_is); (case l14 => k_is); (case c14 => k_is); (case k14 => k_is); (case a15 => k_is); (case l15 => k_is); (case c15 => k_is); (case k15 => k_is); (case a16 => k_is); (case l16 => k_is); (case c16 => k_is); (case k16 => k_is); (case a17 => k_is); (case l17 => k_is); (case c17 => k_is); (case k17 => k_is); (case a18 => k_is); (case l18 => k_is); (case c18 => k_is); (case k18 => k_is); (case a19 => k_is); (case l19 => k_is); (case c19 => k_is); (case k19 => k_is); (case a20 => k_is); (case l20 => k_is); (case c20 => k_is); (case k20 => k_is); (case a21 => k_is); (case l21 => k_is); (case c21 => k_is); (case k21 => k_is); (case a22 => k_is); (case l22 => k_is); (case c22 => k_is); (case k22 => k_is); (case a23 => k_is); (case l23 => k_is); (case c23 => k_is); (case k23 => k_is); (case a24 => k_is); (case l24 => k_is); (case c24 => k_is); (case k24 => k_is); (case a25 => k_is); (case l25 => k_is); (case c25 => k_is); (case k25 => k_is); (case a26 => k_is); (case l26 => k_is); (case c26 => k_is); (case k26 => k_is); (case a27 => k_is); (case l27 => k_is); (case c27 => k_is); (case k27 => k_is); (case z_all => k_is); (case z_any => k_is); (case z_bool => k_is); (case z_int => k_is); (case z_isinstance => k_is); (case z_len => k_is); (case z_list => k_is); (case z_max => k_is); (case z_min => k_is); (case z_range => k_is); (case z_sorted => k_is); (case z_str => k_is); (case z_tuple => k_is); (case z_type => k_is); (case z_zip => k_is)
    (case sm => k_is)
    (case sl => k_is)
    (case st => k_keys)
    (case sy => rfl)
    (case sk => exact ⟨⟨_, rfl⟩, ⟨_, rfl⟩, ⟨_, rfl⟩, ⟨_, rfl⟩, ⟨_, rfl⟩, ⟨_, rfl⟩, ⟨_, rfl⟩, ⟨_, rfl⟩, True.intro⟩)
    (case sLETTERS => k_is)
    (case sMOST_LETTERS => k_is)

