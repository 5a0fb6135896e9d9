import PyProof.Rows.All
import Wide.All
import OpenK.AllK
import Wide.FinOn
import HandS.ForMost
import HandS.IsInst
import HandS.Wide
import HandS.More
import HandS.Codes
import HandS.Deep
import HandS.Conv
import KE.KDictKeyed
import KE.KeyNested
import HandS.Iter
import KE.SortData
import HandS.SortKw
import KE.DatumOrd
import HandS.Style
import HandS.DictComp
import KE.KxText
import HandS.FStr
import HandS.Text
import KE.KDictList
import KE.KItemsList
import KE.KDictWalk
import HandS.DictTup
import HandS.ListItems
import HandS.RaiseMore
import HandS.Defaults
import PySem.Challenge.RW_manygoings_k28_pegs
set_option Elab.async false
set_option linter.all false
set_option maxRecDepth 100000
set_option maxHeartbeats 4000000
/-! Steps over the readings of the hand layer: one lemma a form, and a walk by them. -/
namespace Wp
open PySem PySem.Spec PyProof.Rows L2
section
variable {σ : L2.St} {H : Hp} {Q : VK} {D : Ends} {te ta tb tc : TE} {t u v : TS} {c c2 : TT} {x y z : V} {i : Nat} {K : PySem.W.Frag}
theorem seq (h : t { D with nx := u D } σ H) : tSeq t u D σ H := h
theorem nx_mk {n : L2.St → Hp → Prop} {r : VK} {b k : L2.St → Hp → Prop} (h : n σ H) : (Ends.mk n r b k).nx σ H := h
theorem rt_mk {n : L2.St → Hp → Prop} {r : VK} {b k : L2.St → Hp → Prop} (h : r x H) : (Ends.mk n r b k).rt x H := h
theorem bk_mk {n : L2.St → Hp → Prop} {r : VK} {b k : L2.St → Hp → Prop} (h : b σ H) : (Ends.mk n r b k).bk σ H := h
theorem ct_mk {n : L2.St → Hp → Prop} {r : VK} {b k : L2.St → Hp → Prop} (h : k σ H) : (Ends.mk n r b k).ct σ H := h
theorem next (h : D.nx σ H) : tNext D σ H := h
theorem asg {g : TG} (h : te σ H fun x H1 => g x σ H1 D.nx) : tAsg te g D σ H := h
theorem gname {R : L2.St → Hp → Prop} {σ' : L2.St} (e : σ.set i (some x) = σ') (h : R σ' H) : gName i x σ H R := by subst e; exact h
theorem gsub {s : TSet} {R : L2.St → Hp → Prop} (h : ta σ H fun o H1 => tb σ H1 fun i H2 => s o i x H2 fun H3 => R σ H3) : gSub ta tb s x σ H R := h
theorem ret (h : te σ H D.rt) : tRet te D σ H := h
theorem retN (h : D.rt .non H) : tRetN D σ H := h
theorem drop (h : te σ H fun _ H1 => D.nx σ H1) : tDrop te D σ H := h
theorem ifs (h : c σ H fun b H1 => if b = true then t D σ H1 else u D σ H1) : tIfS c t u D σ H := h
theorem var (h : σ[i]? = some (some x)) (q : Q x H) : tVar i σ H Q := ⟨x, h, q⟩
theorem con (q : Q x H) : tC x σ H Q := q
theorem op {r : R2} (h : ta σ H fun x H1 => tb σ H1 fun y H2 => r x y H2 Q) : tOp r ta tb σ H Q := h
theorem un {r : V → Hp → VK → Prop} (h : ta σ H fun x H1 => r x H1 Q) : tUn r ta σ H Q := h
theorem cb {r : List V → Hp → VK → Prop} {t : TA} (h : t σ H fun vs H1 => r vs H1 Q) : tCB r t σ H Q := h
theorem anil {R : List V → Hp → Prop} (h : R [] H) : tNil σ H R := h
theorem acons {tr : TA} {R : List V → Hp → Prop} (h : te σ H fun x H1 => tr σ H1 fun xs H2 => R (x :: xs) H2) : tCons te tr σ H R := h
theorem call {sp : Sp} {dvs : List V} {E : XK} {t : TA} (h : t σ H fun vs H1 => sp (vs ++ dvs) H1 Q E) : tCall sp dvs E t σ H Q := h
theorem lst {t : TA} (h : t σ H fun xs H1 => xs.length ≤ sizeLine ∧ ∀ p, H1 p = none → Q (.ref p) (upd H1 p (.lst xs))) : tLst t σ H Q := h
theorem tup {t : TA} (h : t σ H fun xs H1 => xs.length ≤ sizeLine ∧ ∀ p, H1 p = none → Q (.ref p) (upd H1 p (.tup xs))) : tTup t σ H Q := h
theorem test {R : Bool → Hp → Prop} (h : te σ H fun x H1 => ∃ k, x = .bl k ∧ R k H1) : tTest te σ H R := h
theorem tb_ {R : Bool → Hp → Prop} (h : te σ H fun x H1 => ∃ k, x = .bl k ∧ R k H1) : tB te σ H R := h
theorem and_ {R : Bool → Hp → Prop} (h : c σ H fun b H1 => if b = true then c2 σ H1 R else R false H1) : tAnd c c2 σ H R := h
theorem or_ {R : Bool → Hp → Prop} (h : c σ H fun b H1 => if b = true then R true H1 else c2 σ H1 R) : tOr c c2 σ H R := h
theorem not_ {R : Bool → Hp → Prop} (h : c σ H fun b H1 => R (!b) H1) : tNot c σ H R := h
theorem andV (h : ta σ H fun x H1 => ∃ c, x = .bl c ∧ if c = true then tb σ H1 Q else Q (.bl false) H1) : tAndV ta tb σ H Q := h
theorem orV (h : ta σ H fun x H1 => ∃ c, x = .bl c ∧ if c = true then Q (.bl true) H1 else tb σ H1 Q) : tOrV ta tb σ H Q := h
theorem notV (h : ta σ H fun x H1 => ∃ c, x = .bl c ∧ Q (.bl (!c)) H1) : tNotV ta σ H Q := h
theorem rI0_ {g : Int → Int → V} {a b : Int} (q : Q (g a b) H) : rI0 g (.int a) (.int b) H Q := ⟨a, b, rfl, rfl, q⟩
theorem rI_ {C : Int → Int → Prop} {g : Int → Int → V} {a b : Int} (k : C a b) (q : Q (g a b) H) : rI C g (.int a) (.int b) H Q := ⟨a, b, rfl, rfl, k, q⟩
theorem rU_ {g : Int → V} {a : Int} (q : Q (g a) H) : rU g (.int a) H Q := ⟨a, rfl, q⟩
theorem rEq_ {x y : V} (k : scal x y = true) (q : Q (.bl (decide (x = y))) H) : rEq x y H Q := ⟨k, q⟩
theorem rNe_ {x y : V} (k : scal x y = true) (q : Q (.bl (!decide (x = y))) H) : rNe x y H Q := ⟨k, q⟩
theorem ixL {p : Addr} {xs : List V} {j : Int} (h : SqL K H p xs) (e : atI xs j = some x) (q : Q x H) : rIxL K (.ref p) (.int j) H Q := ⟨p, xs, j, x, rfl, rfl, h, e, q⟩
theorem ixT {p : Addr} {xs : List V} {j : Int} (h : SqT K H p xs) (e : atI xs j = some x) (q : Q x H) : rIxT K (.ref p) (.int j) H Q := ⟨p, xs, j, x, rfl, rfl, h, e, q⟩
theorem setL {p : Addr} {xs : List V} {j : Int} {n : Nat} {R : Hp → Prop} (h : H p = some (.lst xs)) (e : ixN xs.length j = some n) (q : R (upd H p (.lst (xs.set n x)))) : rSetL (.ref p) (.int j) x H R := ⟨p, xs, j, n, rfl, rfl, h, e, q⟩
/-- a test's two ways -/
theorem ite_ {p A B : Prop} [Decidable p] (h1 : p → A) (h2 : ¬ p → B) : if decide p = true then A else B := by
  by_cases h : p
  · rw [if_pos (decide_eq_true h)]; exact h1 h
  · rw [if_neg (by rw [decide_eq_false h]; exact Bool.false_ne_true)]; exact h2 h
theorem iteN {p A B : Prop} [Decidable p] (h1 : ¬ p → A) (h2 : p → B) : if (!decide p) = true then A else B := by
  by_cases h : p
  · rw [decide_eq_true h]; exact iteF (h2 h)
  · rw [decide_eq_false h]; exact iteT (h1 h)
theorem iteB {b : Bool} {A B : Prop} (h1 : b = true → A) (h2 : b = false → B) : if b = true then A else B := by
  cases b with
  | true => exact iteT (h1 rfl)
  | false => exact iteF (h2 rfl)
end
/-! ### the walk -/
/-- all but the object at b is kept -/
def Kp (b : Addr) (H H' : Hp) : Prop := ∀ a o, a ≠ b → H a = some o → H' a = some o
theorem Kp.refl (b : Addr) (H : Hp) : Kp b H H := fun _ _ _ h => h
theorem Kp.trans {b : Addr} {H H1 H2 : Hp} (x : Kp b H H1) (y : Kp b H1 H2) : Kp b H H2 := fun a o n h => y a o n (x a o n h)
theorem Kp.new {b p : Addr} {H : Hp} {o : HO} (h : H p = none) : Kp b H (upd H p o) := fun a u _ e => by rw [upd_ne (ne_of_none e h)]; exact e
theorem Kp.at {b : Addr} {H : Hp} {o : HO} : Kp b H (upd H b o) := fun a u n e => by rw [upd_ne n]; exact e
section
variable {σ : L2.St} {H H1 H2 : Hp} {Q : VK} {D : Ends} {te ta tb tc : TE} {t u v : TS} {c c2 : TT} {x y z : V} {i : Nat} {K : PySem.W.Frag} {a b p : Addr} {xs ys : List V}
theorem gtup {tt : TGs} {R : L2.St → Hp → Prop} {n : Nat} (h : SqT K H a xs) (e : xs.length = n) (q : tt xs σ H R) : gTup K n tt (.ref a) σ H R := ⟨a, xs, rfl, h, e, q⟩
theorem gcons {g : TG} {tt : TGs} {R : L2.St → Hp → Prop} {r : List V} (q : g x σ H fun σ' H' => tt r σ' H' R) : gCons g tt (x :: r) σ H R := ⟨x, r, rfl, q⟩
theorem gnil {R : L2.St → Hp → Prop} (q : R σ H) : gNil [] σ H R := ⟨rfl, q⟩
theorem sl {r : V → Option Int → Option Int → Hp → VK → Prop} {tl th : TO} (h : te σ H fun x H1 => tl σ H1 fun l H2 => th σ H2 fun u H3 => r x l u H3 Q) : tSl r te tl th σ H Q := h
theorem part {R : Option Int → Hp → Prop} (h : te σ H fun x H1 => ∃ i, x = .int i ∧ R (some i) H1) : tPart te σ H R := h
theorem nopart {R : Option Int → Hp → Prop} (h : R none H) : tNoPart σ H R := h
theorem slS {zs : Str} {lo hi : Option Int} (h : zs.length ≤ sizeLine) (q : Q (.str (cutS zs lo hi)) H) : rSlS (.str zs) lo hi H Q := ⟨zs, rfl, h, q⟩
theorem ifE (h : c σ H fun b H1 => if b = true then ta σ H1 Q else tb σ H1 Q) : tIf c ta tb σ H Q := h
theorem bm0 {T : String} {r : V → List V → Hp → VK → Prop} (h : te σ H fun x H1 => tyV K T x H1 ∧ r x [] H1 Q) : tBM0 K T r te σ H Q := h
theorem bm {T : String} {r : V → List V → Hp → VK → Prop} {tt : TA} (h : te σ H fun x H1 => tyV K T x H1 ∧ tt σ H1 fun xs H2 => r x xs H2 Q) : tBM K T r te tt σ H Q := h
theorem lcat {t u : List V} {R : Addr → Hp → Prop} (h : ∀ p, H p = none → R p (upd H p (.lst (t ++ u)))) : ∀ p, H p = none → R p (upd H p (.lst (t ++ u))) := h
theorem iteT' {A B : Prop} (h : A) : if (!false) = true then A else B := iteT h
theorem iteF' {A B : Prop} (h : B) : if (!true) = true then A else B := iteF h
theorem iteBt {b : Bool} {A B : Prop} (h : b = true) (q : A) : if b = true then A else B := by rw [h]; exact iteT q
theorem iteBf {b : Bool} {A B : Prop} (h : b = false) (q : B) : if b = true then A else B := by rw [h]; exact iteF q
theorem cutS_len (z : Str) (lo hi : Option Int) : (cutS z lo hi).length ≤ z.length := by
  show ((z.cps.toList.drop (HT.sIx z.length 0 lo)).take (HT.sIx z.length z.length hi - HT.sIx z.length 0 lo)).toArray.size ≤ z.cps.size
  rw [List.size_toArray, List.length_take, List.length_drop, Array.length_toList]
  omega
theorem app_len (x y : Str) : (x ++ y).length = x.length + y.length := by
  show (x.cps ++ y.cps).size = x.cps.size + y.cps.size
  exact Array.size_append
theorem str1_len (c : Nat) : (⟨#[c]⟩ : Str).length = 1 := rfl
theorem iteBnT {b : Bool} {A B : Prop} (h : b = false) (q : A) : if (!b) = true then A else B := by rw [h]; exact iteT q
theorem iteBnF {b : Bool} {A B : Prop} (h : b = true) (q : B) : if (!b) = true then A else B := by rw [h]; exact iteF q
theorem pcons {tk tv : TE} {r : List (TE × TE)} {R : List (V × V) → Hp → Prop} (h : tk σ H fun x H1 => tv σ H1 fun y H2 => tPairs r σ H2 fun ps H3 => R ((x, y) :: ps) H3) : tPairs ((tk, tv) :: r) σ H R := h
theorem pnil {R : List (V × V) → Hp → Prop} (h : R [] H) : tPairs [] σ H R := h
/-! ### a written dict with text keys -/
def keysAre : List DictEntry → List (Str × V) → Prop
  | [], [] => True
  | e :: r, (k, v) :: s => (∃ t, e.key = .str k t) ∧ RelV v e.val ∧ keysAre r s
  | _, _ => False
def seek (z : Str) : List (Str × V) → Option V
  | [] => none
  | (k, v) :: s => if k = z then some v else seek z s
theorem keys_find {z : Str} : ∀ {l : List DictEntry} {ks : List (Str × V)}, keysAre l ks →
    (l.any (·.refKey) = false) ∧ ((∃ v e, seek z ks = some v ∧ l.find? (·.key.isStr z) = some e ∧ RelV v e.val) ∨ (seek z ks = none ∧ l.find? (·.key.isStr z) = none))
  | [], [], _ => ⟨rfl, .inr ⟨rfl, rfl⟩⟩
  | [], _ :: _, h => h.elim
  | _ :: _, [], h => h.elim
  | e :: r, (k, v) :: s, ⟨⟨t, hk⟩, hv, h⟩ => by
    obtain ⟨h1, h2⟩ := keys_find (z := z) h
    refine ⟨?_, ?_⟩
    · rw [List.any_cons, h1, Bool.or_false]
      show DictEntry.refKey e = false
      unfold DictEntry.refKey
      rw [hk] <;> rfl
    · rw [List.find?_cons]
      have e1 : (e.key.isStr z) = decide (k = z) := by
        rw [hk, PySem.W.isStr_of]
        show (k == z) = decide (k = z)
        exact Bool.beq_eq_decide_eq k z
      show (∃ v' e', (if k = z then some v else seek z s) = some v' ∧ _) ∨ ((if k = z then some v else seek z s) = none ∧ _)
      by_cases c : k = z
      · rw [if_pos c, e1, decide_eq_true c]
        exact .inl ⟨v, e, rfl, rfl, hv⟩
      · rw [if_neg c, e1, decide_eq_false c]
        exact h2
theorem ns_seek {d : Addr} {es : Array DictEntry} {n : Nat} {ks : List (Str × V)} (hl : K.lookup d = some ⟨.type "dict", none, .dict es n, #[]⟩) (hk : keysAre es.toList ks) (z : Str) :
    (∃ v u, seek z ks = some v ∧ PySem.W.nsIn K d z = some (some u) ∧ RelV v u) ∨ (seek z ks = none ∧ PySem.W.nsIn K d z = some none) := by
  obtain ⟨h1, h2⟩ := keys_find (z := z) hk
  unfold PySem.W.nsIn
  rw [hl]
  dsimp only
  rcases h2 with ⟨v, e, e1, e2, r⟩ | ⟨e1, e2⟩
  · rw [e2]
    exact .inl ⟨v, e.val, e1, rfl, r⟩
  · rw [e2]
    dsimp only
    rw [h1]
    exact .inr ⟨e1, rfl⟩
theorem ixS_any {zs : Str} {j : Int} (hz : zs.length ≤ sizeLine) (h0 : 0 ≤ j) (h1 : j < zs.length) (q : ∀ c, Q (.str ⟨#[c]⟩) H) : rIxS (.str zs) (.int j) H Q := by
  have h2 : j.toNat < zs.cps.toList.length := by
    rw [Array.length_toList]
    show j.toNat < zs.length
    omega
  obtain ⟨c, hc⟩ : ∃ c, zs.cps.toList[j.toNat]? = some c := ⟨_, List.getElem?_eq_getElem h2⟩
  have e : ((j.toNat : Nat) : Int) = j := by omega
  have hc2 := atI_nat hc
  rw [e] at hc2
  exact ⟨zs, j, c, rfl, rfl, hz, hc2, q c⟩
theorem tyvL {p : Addr} {xs : List V} (h : H p = some (.lst xs)) : tyV K "list" (.ref p) H := .inl ⟨rfl, _, SqL.of h⟩
theorem app_ {p : Addr} {xs : List V} {y : V} (h : H p = some (.lst xs)) (hl : xs.length < sizeLine) (q : Q .non (upd H p (.lst (xs ++ [y])))) : rAppend (.ref p) [y] H Q := ⟨p, xs, y, rfl, rfl, h, hl, q⟩
theorem rev_ {p : Addr} {xs : List V} (h : H p = some (.lst xs)) (q : Q .non (upd H p (.lst xs.reverse))) : rReverse (.ref p) [] H Q := ⟨p, xs, rfl, rfl, h, q⟩
theorem slL {p : Addr} {xs : List V} {lo hi : Option Int} (h : SqL K H p xs) (q : ∀ p, H p = none → Q (.ref p) (upd H p (.lst (cutV xs lo hi)))) : rSlL K (.ref p) lo hi H Q := ⟨p, xs, rfl, h, q⟩
theorem cat_ {l b : Addr} {xs zs : List V} (h : H l = some (.lst xs)) (h2 : H b = some (.lst zs)) (hl : xs.length + zs.length ≤ sizeLine) (q : ∀ p, H p = none → Q (.ref p) (upd H p (.lst (xs ++ zs)))) : rCat (.ref l) (.ref b) H Q :=
  ⟨l, b, xs, zs, rfl, rfl, h, h2, hl, q⟩
theorem un65 {k : Nat} {A : Around} (r : Room k A) : A.units + 65 < cLine := by have := r.un; omega
theorem eqD {x y : V} {d : PyData} (h1 : Dp K H x d) (h2 : Dp K H y d) (s : SeqAt.shaped d = true) (e : PyData.eqv d d = true) (q : Q (.bl true) H) : rEqD K x y H Q := ⟨d, d, h1, h2, s, s, by rw [e]; exact q⟩
theorem neD {x y : V} {d : PyData} (h1 : Dp K H x d) (h2 : Dp K H y d) (s : SeqAt.shaped d = true) (e : PyData.eqv d d = true) (q : Q (.bl false) H) : rNeD K x y H Q := ⟨d, d, h1, h2, s, s, by rw [e]; exact q⟩
theorem cut_take {xs : List V} {n : Nat} : cutV xs none (some (n : Int)) = xs.take n := by
  unfold cutV
  rw [show HT.sIx xs.length 0 none = 0 from HT.sIx_none .., show HT.sIx xs.length xs.length (some (n : Int)) = min n xs.length from HT.sIx_nat ..]
  show (xs.drop 0).take (min n xs.length - 0) = xs.take n
  rw [List.drop_zero, Nat.sub_zero]
  by_cases h : n ≤ xs.length
  · rw [Nat.min_eq_left h]
  · rw [Nat.min_eq_right (by omega), List.take_of_length_le (Nat.le_refl _), List.take_of_length_le (by omega)]
theorem dput {td tk tv : TE} (h : tv σ H fun v H1 => td σ H1 fun x H2 => tk σ H2 fun y H3 => ∃ a H', x = .ref a ∧ DPut H3 a y v H' ∧ D.nx σ H') : sDPut td tk tv D σ H := h
theorem cut (Mid : L2.St → Hp → Prop) (h1 : t { D with nx := Mid } σ H) (h2 : ∀ σ' H', Mid σ' H' → u D σ' H') : C8.tCut t u D σ H := ⟨Mid, h1, h2⟩
theorem len_take {xs : List V} {n m : Nat} (h : n ≤ m) : (xs.take n).length ≤ m := Nat.le_trans (List.length_take_le _ _) h
/-! ### loops -/
/-- the loop over J -/
def Loop (J : It) (g : TG) (tb : TS) (D : Ends) (σ : L2.St) (H : Hp) : Prop := ∃ W : Nat → Nat → L2.St → Hp → Prop, (∃ m, W 0 m σ H) ∧ ∀ i m σ H, W i m σ H →
  (J.stop i H ∧ D.nx σ H) ∨ (J.go i H ∧ ∃ N : L2.St → Hp → Prop, (∀ σ' H', N σ' H' → ∃ m', m' < m ∧ W (i + 1) m' σ' H') ∧ ∀ x H', J.yld i H x H' → g x σ H' fun σ2 H2 => tb { D with nx := N, ct := N, bk := D.nx } σ2 H2)
theorem forR1 {ta : TA} {g : TG} {tb : TS} (h : ta σ H fun vs H1 => ∃ j : Int, vs = [.int j] ∧ -(2 ^ 62) ≤ j ∧ j < 2 ^ 62 ∧ Loop (Itr 0 j.toNat) g tb D σ H1) : tFor (iRng1 ta) g tb D σ H := h
theorem forR2 {ta : TA} {g : TG} {tb : TS} (h : ta σ H fun vs H1 => ∃ i j : Int, vs = [.int i, .int j] ∧ (-(2 ^ 62) ≤ i ∧ i < 2 ^ 62 ∧ -(2 ^ 62) ≤ j ∧ j < 2 ^ 62) ∧ Loop (Itr i (j - i).toNat) g tb D σ H1) : tFor (iRng2 ta) g tb D σ H := h
theorem forL {g : TG} {tb : TS} (h : te σ H fun x H1 => ∃ a, x = .ref a ∧ (∃ xs, SqL K H1 a xs) ∧ Loop (Itl K a) g tb D σ H1) : tFor (iList K te) g tb D σ H := h
theorem forT {g : TG} {tb : TS} (h : te σ H fun x H1 => ∃ a, x = .ref a ∧ (∃ xs, SqT K H1 a xs) ∧ Loop (Itt K a) g tb D σ H1) : tFor (iTup K te) g tb D σ H := h
theorem loopR {lo : Int} {n : Nat} {g : TG} {tb : TS} (Pv : Nat → L2.St → Hp → Prop) (h0 : Pv 0 σ H)
    (hs : ∀ i σ H, i < n → Pv i σ H → g (.int (lo + i)) σ H fun σ2 H2 => tb { D with nx := Pv (i + 1), ct := Pv (i + 1), bk := D.nx } σ2 H2) (hd : ∀ σ H, Pv n σ H → D.nx σ H) : Loop (Itr lo n) g tb D σ H := for_range Pv h0 hs hd
theorem loopL {g : TG} {tb : TS} {xs : List V} (Pv : Nat → L2.St → Hp → Prop) (h0 : Pv 0 σ H) (hl : ∀ i σ H, i ≤ xs.length → Pv i σ H → SqL K H a xs)
    (hs : ∀ i x σ H, xs[i]? = some x → Pv i σ H → g x σ H fun σ2 H2 => tb { D with nx := Pv (i + 1), ct := Pv (i + 1), bk := D.nx } σ2 H2) (hd : ∀ σ H, Pv xs.length σ H → D.nx σ H) : Loop (Itl K a) g tb D σ H := for_list Pv h0 hl hs hd
/-! ### comprehensions, whiles -/
def LoopC (J : It) (g : TG) (tt : TT) (te : TE) (vs : List Nat) (σ : L2.St) (D : Addr) (Qd : Hp → Prop) (H0 : Hp) : Prop := ∃ W : Nat → Nat → Hp → Prop, (∃ m, W 0 m H0) ∧ ∀ i m H, W i m H →
  (J.stop i H ∧ Qd H) ∨ (J.go i H ∧ ∃ Nx : Hp → Prop, (∀ H', Nx H' → ∃ m', m' < m ∧ W (i + 1) m' H') ∧ ∀ x H', J.yld i H x H' → g x (wipe σ vs) H' fun σ2 H2 => wipe σ2 vs = wipe σ vs ∧ tt σ2 H2 fun b H3 =>
    if b = true then te σ2 H3 fun y H4 => ∃ acc, H4 D = some (.lst acc) ∧ acc.length < sizeLine ∧ Nx (upd H4 D (.lst (acc ++ [y]))) else Nx H3)
theorem lcR1 {ta : TA} {g : TG} {tt : TT} {vs : List Nat} (h : ta σ H fun us H1 => ∃ j : Int, us = [.int j] ∧ -(2 ^ 62) ≤ j ∧ j < 2 ^ 62 ∧ ∀ D, H1 D = none → LoopC (Itr 0 j.toNat) g tt te vs σ D (fun H => Q (.ref D) H) (upd H1 D (.lst []))) : tLc (iRng1 ta) g tt te vs σ H Q := h
theorem lcR2 {ta : TA} {g : TG} {tt : TT} {vs : List Nat} (h : ta σ H fun us H1 => ∃ i j : Int, us = [.int i, .int j] ∧ (-(2 ^ 62) ≤ i ∧ i < 2 ^ 62 ∧ -(2 ^ 62) ≤ j ∧ j < 2 ^ 62) ∧ ∀ D, H1 D = none → LoopC (Itr i (j - i).toNat) g tt te vs σ D (fun H => Q (.ref D) H) (upd H1 D (.lst []))) : tLc (iRng2 ta) g tt te vs σ H Q := h
theorem lcL {g : TG} {tt : TT} {vs : List Nat} (h : ta σ H fun x H1 => ∃ a, x = .ref a ∧ (∃ xs, SqL K H1 a xs) ∧ ∀ D, H1 D = none → LoopC (Itl K a) g tt te vs σ D (fun H => Q (.ref D) H) (upd H1 D (.lst []))) : tLc (iList K ta) g tt te vs σ H Q := h
theorem loopCR {lo : Int} {n : Nat} {g : TG} {tt : TT} {vs : List Nat} {D : Addr} {Qd : Hp → Prop} (Pv : Nat → Hp → Prop) (h0 : Pv 0 H)
    (hs : ∀ i H, i < n → Pv i H → g (.int (lo + i)) (wipe σ vs) H fun σ2 H2 => wipe σ2 vs = wipe σ vs ∧ tt σ2 H2 fun b H3 =>
      if b = true then te σ2 H3 fun y H4 => ∃ acc, H4 D = some (.lst acc) ∧ acc.length < sizeLine ∧ Pv (i + 1) (upd H4 D (.lst (acc ++ [y]))) else Pv (i + 1) H3) (hd : ∀ H, Pv n H → Qd H) : LoopC (Itr lo n) g tt te vs σ D Qd H := by
  refine ⟨fun i m H => m = n - i ∧ i ≤ n ∧ Pv i H, ⟨n, by simp, Nat.zero_le _, h0⟩, ?_⟩
  rintro i m H ⟨rfl, hi, p⟩
  by_cases hlt : i < n
  · refine .inr ⟨hlt, Pv (i + 1), fun H' p' => ⟨n - (i + 1), by omega, rfl, hlt, p'⟩, fun x H' y => ?_⟩
    obtain ⟨e, y⟩ := y
    subst e y
    exact hs i _ hlt p
  · have e : i = n := by omega
    subst e
    exact .inl ⟨Nat.le_refl _, hd H p⟩
theorem loopCL {a : Addr} {xs : List V} {g : TG} {tt : TT} {vs : List Nat} {D : Addr} {Qd : Hp → Prop} (Pv : Nat → Hp → Prop) (h0 : Pv 0 H) (hl : ∀ i H, i ≤ xs.length → Pv i H → SqL K H a xs)
    (hs : ∀ i x H, xs[i]? = some x → Pv i H → g x (wipe σ vs) H fun σ2 H2 => wipe σ2 vs = wipe σ vs ∧ tt σ2 H2 fun b H3 =>
      if b = true then te σ2 H3 fun y H4 => ∃ acc, H4 D = some (.lst acc) ∧ acc.length < sizeLine ∧ Pv (i + 1) (upd H4 D (.lst (acc ++ [y]))) else Pv (i + 1) H3) (hd : ∀ H, Pv xs.length H → Qd H) : LoopC (Itl K a) g tt te vs σ D Qd H := by
  refine ⟨fun i m H => m = xs.length - i ∧ i ≤ xs.length ∧ Pv i H, ⟨xs.length, by simp, Nat.zero_le _, h0⟩, ?_⟩
  rintro i m H ⟨rfl, hi, p⟩
  have q := hl i H hi p
  by_cases hlt : i < xs.length
  · refine .inr ⟨⟨xs, xs[i], q, by simp [hlt]⟩, Pv (i + 1), fun H' p' => ⟨xs.length - (i + 1), by omega, rfl, hlt, p'⟩, fun x H' y => ?_⟩
    obtain ⟨e, y⟩ := y
    subst e
    exact hs i x _ (y xs q) p
  · have e : i = xs.length := by omega
    subst e
    exact .inl ⟨⟨xs, q, Nat.le_refl _⟩, hd H p⟩
theorem yes {R : Bool → Hp → Prop} (h : R true H) : tYes σ H R := h
theorem whileW (M : Nat → L2.St → Hp → Prop) (m0 : Nat) (h0 : M m0 σ H)
    (hs : ∀ m σ H, M m σ H → c σ H fun b H1 => if b = true then (∃ N : L2.St → Hp → Prop, (∀ σ' H', N σ' H' → ∃ m', m' < m ∧ M m' σ' H') ∧ t { D with nx := N, ct := N, bk := D.nx } σ H1) else D.nx σ H1) : tWhile c t D σ H := by
  refine ⟨M, ⟨m0, h0⟩, fun m σ H h => ?_⟩
  have h2 := hs m σ H h
  exact h2
theorem dinI {ty td : TE} (h : ty σ H fun y H1 => td σ H1 fun x H2 => ∃ a o, x = .ref a ∧ DGet H2 a y o ∧ Q (.bl o.isSome) H2) : tDIn ty td σ H Q := h
theorem dninI {ty td : TE} (h : ty σ H fun y H1 => td σ H1 fun x H2 => ∃ a o, x = .ref a ∧ DGet H2 a y o ∧ Q (.bl (!o.isSome)) H2) : tDNotIn ty td σ H Q := h
theorem dget {ty td : TE} (h : td σ H fun x H1 => ty σ H1 fun y H2 => ∃ a v, x = .ref a ∧ DGet H2 a y (some v) ∧ Q v H2) : tDGet td ty σ H Q := h
/-- len and list of a sequence, by names -/
def rLenS (K : PySem.W.Frag) : List V → Hp → VK → Prop := fun xs H Q => ∃ p ys, xs = [.ref p] ∧ (SqL K H p ys ∨ SqT K H p ys) ∧ Q (.int ys.length) H
theorem call_lenS {X : Cx} : CallR X (.builtin "len") (rLenS X.K) := call_len_seq
def rListS (K : PySem.W.Frag) : List V → Hp → VK → Prop := fun xs H Q => ∃ p ys, xs = [.ref p] ∧ (SqL K H p ys ∨ SqT K H p ys) ∧ ∀ l, H l = none → Q (.ref l) (upd H l (.lst ys))
theorem call_listS {X : Cx} : CallR X (.type "list") (rListS X.K) := call_list_of
theorem lenS_ {p : Addr} {ys : List V} (h : SqL K H p ys) (q : Q (.int ys.length) H) : rLenS K [.ref p] H Q := ⟨p, ys, rfl, .inl h, q⟩
theorem listS_ {p : Addr} {ys : List V} (h : SqL K H p ys) (q : ∀ l, H l = none → Q (.ref l) (upd H l (.lst ys))) : rListS K [.ref p] H Q := ⟨p, ys, rfl, .inl h, q⟩
theorem chain {r r' : R2} (h : ta σ H fun x H1 => tb σ H1 fun y H2 => r x y H2 fun z H3 => ∃ k, z = .bl k ∧ (if k = true then tc σ H3 fun w' H4 => r' y w' H4 Q else Q (.bl false) H3)) : tChain r r' ta tb tc σ H Q := h
/-- a comprehension of two clauses, the first one's loop -/
def LoopC2 (J : It) (g : TG) (tt : TT) (wi1 : TI) (g1 : TG) (tt1 : TT) (te : TE) (vs vs1 : List Nat) (σ : L2.St) (D : Addr) (Qd : Hp → Prop) (H0 : Hp) : Prop := ∃ W : Nat → Nat → Hp → Prop, (∃ m, W 0 m H0) ∧ ∀ i m H, W i m H →
  (J.stop i H ∧ Qd H) ∨ (J.go i H ∧ ∃ Nx : Hp → Prop, (∀ H', Nx H' → ∃ m', m' < m ∧ W (i + 1) m' H') ∧ ∀ x H', J.yld i H x H' → g x (wipe σ vs) H' fun σ2 H2 => wipe σ2 vs = wipe σ vs ∧ tt σ2 H2 fun b H3 =>
    if b = true then wi1 σ2 H3 (fun J1 H4 => LoopC J1 g1 tt1 te vs1 σ2 D Nx H4) else Nx H3)
theorem lc2V {K : PySem.W.Frag} {ts : TA} {wi1 : TI} {g g1 : TG} {tt tt1 : TT} {vs vs1 : List Nat} (h : ts σ H fun us H1 => ∃ (a : Addr) (xs : List V), us = [.ref a] ∧ SqL K H1 a xs ∧ ∀ D, H1 D = none → LoopC2 (Itv K a xs.length) g tt wi1 g1 tt1 te vs vs1 σ D (fun H => Q (.ref D) H) (upd H1 D (.lst []))) :
    tLc2 (iRev K ts) g tt wi1 g1 tt1 te vs vs1 σ H Q := h
theorem loopC2V {a : Addr} {xs : List V} {wi1 : TI} {g g1 : TG} {tt tt1 : TT} {vs vs1 : List Nat} {D : Addr} {Qd : Hp → Prop} (Pv : Nat → Hp → Prop) (h0 : Pv 0 H) (hl : ∀ i H, Pv i H → SqL K H a xs)
    (hs : ∀ i x H, i < xs.length → xs[xs.length - 1 - i]? = some x → Pv i H → g x (wipe σ vs) H fun σ2 H2 => wipe σ2 vs = wipe σ vs ∧ tt σ2 H2 fun b H3 =>
      if b = true then wi1 σ2 H3 (fun J1 H4 => LoopC J1 g1 tt1 te vs1 σ2 D (Pv (i + 1)) H4) else Pv (i + 1) H3) (hd : ∀ H, Pv xs.length H → Qd H) : LoopC2 (Itv K a xs.length) g tt wi1 g1 tt1 te vs vs1 σ D Qd H := by
  refine ⟨fun i m H => m = xs.length - i ∧ i ≤ xs.length ∧ Pv i H, ⟨xs.length, by simp, Nat.zero_le _, h0⟩, ?_⟩
  rintro i m H ⟨rfl, hi, p⟩
  by_cases hlt : i < xs.length
  · have hx : xs.length - 1 - i < xs.length := by omega
    refine .inr ⟨⟨hlt, xs, xs[xs.length - 1 - i], hl i H p, List.getElem?_eq_getElem hx⟩, Pv (i + 1), fun H' p' => ⟨xs.length - (i + 1), by omega, rfl, hlt, p'⟩, fun x H' y => ?_⟩
    obtain ⟨e, y⟩ := y
    subst e
    exact hs i x _ hlt (y xs (hl i _ p)) p
  · have e : i = xs.length := by omega
    subst e
    exact .inl ⟨Nat.le_refl _, hd H p⟩
theorem piL {R : It → Hp → Prop} (h : ta σ H fun x H1 => ∃ a, x = .ref a ∧ (∃ xs, SqL K H1 a xs) ∧ R (Itl K a) H1) : iList K ta σ H R := h
/-! ### kinds -/
/-- a value's built-in type, of what is known of it -/
inductive Kind (H : Hp) : V → String → Prop where
  | non : Kind H .non "NoneType"
  | bl (b : Bool) : Kind H (.bl b) "bool"
  | int (i : Int) : Kind H (.int i) "int"
  | str (x : Str) : Kind H (.str x) "str"
  | lst {a : Addr} {xs : List V} (h : H a = some (.lst xs)) : Kind H (.ref a) "list"
  | tup {a : Addr} {xs : List V} (h : H a = some (.tup xs)) : Kind H (.ref a) "tuple"
  | dK {a : Addr} {kvs : List (Key × V)} (h : H a = some (.dK kvs)) : Kind H (.ref a) "dict"
theorem Kind.tyB {T : String} (k : Kind H x T) : TyB K H x T := by
  cases k with
  | non => exact .non
  | bl b => exact .bl b
  | int i => exact .int i
  | str s => exact .str s
  | lst h => exact .lst (SqL.of h)
  | tup h => exact .tup (SqT.of h)
  | dK h => exact .dK h
theorem Kind.tyX {T : String} (k : Kind H x T) : TyX K H x (.type T) := by
  cases k with
  | non => exact .base .non
  | bl b => exact .base (.bl b)
  | int i => exact .base (.int i)
  | str s => exact .base (.str s)
  | lst h => exact .base (.lst h)
  | tup h => exact .base (.tup h)
  | dK h => exact .base (.dK h)
def isB (T C : String) : Bool := decide (T = C) || (decide (T = "bool") && decide (C = "int"))
theorem isB_eq {T C : String} (h : C ≠ "int") : isB T C = decide (T = C) := by
  unfold isB
  rw [decide_eq_false h, Bool.and_false, Bool.or_false]
theorem Kind.kit {T : String} (k : Kind H x T) {C : String} (hC : C = "int" ∨ C = "bool" ∨ C = "str" ∨ C = "tuple" ∨ C = "list") : PySem.W.kitOne K (.type T) (.type C) = some (isB T C) := by
  rcases hC with rfl | rfl | rfl | rfl | rfl <;> cases k <;> exact kit_ty (by decide +kernel)
theorem isi {T C : String} (k : Kind H x T) (hC : C = "int" ∨ C = "bool" ∨ C = "str" ∨ C = "tuple" ∨ C = "list") (q : Q (.bl (isB T C)) H) : rIsi K [x, .ty C] H Q :=
  ⟨x, .ty C, _, _, _, rfl, .ty C, k.tyX, k.kit hC, q⟩
theorem typ {T : String} (k : Kind H x T) (q : Q (.ty T) H) : rTyp K [x] H Q := ⟨x, T, rfl, k.tyB, q⟩
theorem rNT_ {s1 s2 : String} (q : Q (.bl (!decide (s1 = s2))) H) : rNT (.ty s1) (.ty s2) H Q := ⟨s1, s2, rfl, rfl, q⟩
/-! ### heaps -/
theorem Kp.same (h : H b = none) (k : Kp b H H1) : Same H H1 := fun a o e => k a o (ne_of_none e h) e
theorem Kp.updNew {o : HO} (k : Kp b H H1) (h : H p = none) : Kp b H (upd H1 p o) := fun a u n e => by rw [upd_ne (ne_of_none e h)]; exact k a u n e
theorem Same.kp (k : Same H H1) : Kp b H H1 := fun a o _ e => k a o e
theorem look {o : HO} (s : Same H H1) (h : H p = some o) : H1 p = some o := s _ _ h
theorem kpT (x : Kp b H H1) (y : Kp b H1 H2) : Kp b H H2 := Kp.trans x y
theorem same_new {o : HO} (h : H p = none) : Same H (upd H p o) := fun a u e => by rw [upd_ne (ne_of_none e h)]; exact e
theorem Kp.kind {T : String} {bs : List V} (k : Kp b H H1) (hb : H b = some (.lst bs)) (q : Kind H x T) (n : x ≠ .ref b) : Kind H1 x T := by
  cases q with
  | non => exact .non
  | bl b => exact .bl b
  | int i => exact .int i
  | str s => exact .str s
  | lst h => exact .lst (k _ _ (fun e => n (by rw [e])) h)
  | tup h => exact .tup (k _ _ (fun e => n (by rw [e])) h)
  | dK h => exact .dK (k _ _ (fun e => n (by rw [e])) h)
theorem Same.kind {T : String} (k : Same H H1) (q : Kind H x T) : Kind H1 x T := by
  cases q with
  | non => exact .non
  | bl b => exact .bl b
  | int i => exact .int i
  | str s => exact .str s
  | lst h => exact .lst (k _ _ h)
  | tup h => exact .tup (k _ _ h)
  | dK h => exact .dK (k _ _ h)
theorem atI_of {α : Type} {xs : List α} {x : α} {j : Int} {n : Nat} (e : j = n) (h : xs[n]? = some x) : atI xs j = some x := by rw [e]; exact atI_nat h
end
end Wp

/-! Worths and piles as data: (text, int), lists of such; what is kept of them. -/
namespace Wq
open PySem PySem.Spec PyProof.Rows L2 Wp
abbrev W := Str × Int
def wD (w : W) : PyData := .tuple [.str w.1, .int w.2]
def IsW (H : Hp) (v : V) (w : W) : Prop := ∃ t, v = .ref t ∧ H t = some (.tup [.str w.1, .int w.2])
def Pile (H : Hp) (vs : List V) (ws : List W) : Prop := Paired (IsW H) vs ws
/-- the tuples stay -/
def Tk (H H' : Hp) : Prop := ∀ t xs, H t = some (.tup xs) → H' t = some (.tup xs)
section
variable {H H1 H2 : Hp} {a b p : Addr} {v x y : V} {w : W} {vs us : List V} {ws zs : List W} {K : PySem.W.Frag}
theorem Tk.refl : Tk H H := fun _ _ h => h
theorem Tk.trans (h : Tk H H1) (k : Tk H1 H2) : Tk H H2 := fun t xs e => k t xs (h t xs e)
theorem Same.tk (s : Same H H1) : Tk H H1 := fun t xs e => s t _ e
theorem Kp.tk {bs : List V} (k : Kp b H H1) (h : H b = some (.lst bs)) : Tk H H1 := fun t xs e => k t _ (ne_of e h (by intro q; cases q)) e
theorem Tk.lst {o : HO} {bs : List V} (h : H b = some (.lst bs)) : Tk H (upd H b o) := fun t xs e => by rw [upd_ne (ne_of e h (by intro q; cases q))]; exact e
theorem Tk.dT {o : HO} {bs : List (List Key × V)} (h : H b = some (.dT bs)) : Tk H (upd H b o) := fun t xs e => by rw [upd_ne (ne_of e h (by intro q; cases q))]; exact e
theorem Tk.dK {o : HO} {bs : List (Key × V)} (h : H b = some (.dK bs)) : Tk H (upd H b o) := fun t xs e => by rw [upd_ne (ne_of e h (by intro q; cases q))]; exact e
theorem Tk.new {o : HO} (h : H p = none) : Tk H (upd H p o) := fun t xs e => by rw [upd_ne (ne_of_none e h)]; exact e
theorem IsW.keep (h : IsW H v w) (k : Tk H H1) : IsW H1 v w := by
  obtain ⟨t, e, h⟩ := h
  exact ⟨t, e, k _ _ h⟩
theorem Pile.keep (h : Pile H vs ws) (k : Tk H H1) : Pile H1 vs ws := Paired.mapP h fun _ _ q => q.keep k
theorem Pile.len (h : Pile H vs ws) : vs.length = ws.length := Paired.length h
theorem Pile.nil : Pile H [] [] := Paired.nil
theorem Pile.app (h : Pile H vs ws) (k : Pile H us zs) : Pile H (vs ++ us) (ws ++ zs) := by
  unfold Pile at *
  induction h with
  | nil => exact k
  | cons r t ih => exact .cons r ih
theorem Pile.one (h : IsW H v w) : Pile H [v] [w] := Paired.cons h Paired.nil
theorem Pile.take (h : Pile H vs ws) : ∀ n, Pile H (vs.take n) (ws.take n) := by
  unfold Pile at *
  induction h with
  | nil => intro n; cases n <;> exact .nil
  | cons r t ih => intro n; cases n with
    | zero => exact .nil
    | succ n => exact .cons r (ih n)
theorem Pile.drop (h : Pile H vs ws) : ∀ n, Pile H (vs.drop n) (ws.drop n) := by
  unfold Pile at *
  induction h with
  | nil => intro n; cases n <;> exact .nil
  | cons r t ih => intro n; cases n with
    | zero => exact .cons r t
    | succ n => exact ih n
theorem Pile.rev (h : Pile H vs ws) : Pile H vs.reverse ws.reverse := by
  unfold Pile at *
  induction h with
  | nil => exact .nil
  | cons r t ih =>
    rw [List.reverse_cons, List.reverse_cons]
    exact Pile.app ih (Pile.one r)
theorem Pile.get (h : Pile H vs ws) : ∀ {i : Nat}, vs[i]? = some v → ∃ w, ws[i]? = some w ∧ IsW H v w := by
  unfold Pile at h
  induction h with
  | nil => intro i e; cases i <;> cases e
  | cons r t ih => intro i e; cases i with
    | zero => cases e; exact ⟨_, rfl, r⟩
    | succ n => exact ih e
theorem Pile.at (h : Pile H vs ws) {i : Nat} (hi : i < ws.length) : ∃ v w, vs[i]? = some v ∧ ws[i]? = some w ∧ IsW H v w := by
  have h2 : i < vs.length := by rw [h.len]; exact hi
  obtain ⟨w, hw, q⟩ := h.get (List.getElem?_eq_getElem h2)
  exact ⟨_, w, List.getElem?_eq_getElem h2, hw, q⟩
/-! ### as data -/
theorem IsW.dp (h : IsW H v w) : Dp K H v (wD w) := by
  obtain ⟨t, rfl, h⟩ := h
  exact .tup (SqT.of h) (.cons (.str _) (.cons (.int _) .nil))
theorem Pile.dpAll (h : Pile H vs ws) : DpAll K H vs (ws.map wD) := by
  unfold Pile at h
  induction h with
  | nil => exact .nil
  | cons r t ih => exact .cons r.dp ih
theorem Pile.dp (h : Pile H vs ws) (e : SqL K H a vs) : Dp K H (.ref a) (.list (ws.map wD)) := .lst e h.dpAll
/-- texts as worths have them -/
def Wok (w : W) : Prop := PyData.strOk w.1 = true
theorem wD_lay (h : Wok w) : (wD w).canLay0 = true := by
  unfold wD
  simp only [PyData.canLay0, PyData.canLayAll0]
  rw [show PyData.strOk w.1 = true from h]
  rfl
theorem wD_depth : (wD w).depth = 1 := by simp [wD, PyData.depth, PyData.depthAll]
theorem wDs_lay : ∀ ws : List W, (∀ w ∈ ws, Wok w) → PyData.canLayAll0 (ws.map wD) = true
  | [], _ => by simp [PyData.canLayAll0]
  | w :: ws, h => by
    rw [List.map_cons]
    simp only [PyData.canLayAll0]
    rw [wD_lay (h w List.mem_cons_self), wDs_lay ws (fun x hx => h x (List.mem_cons_of_mem _ hx))] <;> rfl
theorem wDs_depth : ∀ ws : List W, PyData.depthAll (ws.map wD) ≤ 1
  | [] => by simp [PyData.depthAll]
  | w :: ws => by
    have h := wDs_depth ws
    rw [List.map_cons]
    simp only [PyData.depthAll]
    rw [wD_depth]
    omega
theorem wD_shaped (h : Wok w) : SeqAt.shaped (wD w) = true := by
  unfold SeqAt.shaped
  rw [wD_lay h, wD_depth] <;> rfl
theorem wDs_shaped (h : ∀ w ∈ ws, Wok w) : SeqAt.shaped (.list (ws.map wD)) = true := by
  have h2 := wDs_depth ws
  have h3 : (PyData.list (ws.map wD)).depth ≤ 64 := by
    simp only [PyData.depth]
    omega
  show (PyData.canLay0 (.list (ws.map wD)) && decide ((PyData.list (ws.map wD)).depth ≤ 64)) = true
  rw [decide_eq_true h3, Bool.and_true]
  simp only [PyData.canLay0]
  exact wDs_lay ws h
theorem wD_eqv (w z : W) : PyData.eqv (wD w) (wD z) = decide (w = z) := by
  unfold wD
  simp only [PyData.eqv, PyData.eqvAll, Bool.and_true]
  obtain ⟨s, n⟩ := w
  obtain ⟨t, m⟩ := z
  rw [Bool.beq_eq_decide_eq, Bool.beq_eq_decide_eq]
  by_cases e1 : s = t
  · by_cases e2 : n = m
    · subst e1 e2; simp
    · simp [e1, e2]
  · simp [e1]
theorem any_wD (w : W) : ∀ ws : List W, ((ws.map wD).any fun z => PyData.eqv z (wD w)) = decide (w ∈ ws)
  | [] => rfl
  | z :: ws => by
    rw [List.map_cons, List.any_cons, any_wD w ws, wD_eqv]
    by_cases e : z = w
    · subst e; simp
    · rw [decide_eq_false e, Bool.false_or]
      exact decide_eq_decide.mpr ⟨fun h => List.mem_cons_of_mem _ h, fun h => (List.mem_cons.mp h).elim (fun q => absurd q.symm e) id⟩
theorem eq_self {d : PyData} (h : SeqAt.shaped d = true) : PyData.eqv d d = true := by
  refine PySem.SeqAt.eqv_refl d ?_
  have h2 : (d.canLay0 && decide (d.depth ≤ 64)) = true := h
  rw [Bool.and_eq_true] at h2
  exact h2.1
end
end Wq

/-! Papers as data; what is kept of lists; xs[i] op= e. -/
namespace Wr
open PySem PySem.Spec PyProof.Rows L2 Wp Wq
section
variable {X : Cx}
/-- xs[i], read by values, 0 ≤ i -/
def gIx (K : PySem.W.Frag) : V → V → Hp → VK → Prop := fun x y H Q => ∃ p xs, ∃ i : Nat, ∃ v, x = .ref p ∧ y = .int i ∧ SqL K H p xs ∧ xs[i]? = some v ∧ Q v H
theorem get_list : PGet X (gIx X.K) := by
  intro pins s σ H x y v u Q I rx ry h
  obtain ⟨p, xs, i, z, rfl, rfl, hq, he, q⟩ := h
  cases rx
  obtain ⟨t, rfl⟩ := ry
  obtain ⟨its, r, pl, hz⟩ := I.list hq
  obtain ⟨w, ew, rw'⟩ := r.get he
  have hl := r.length
  have hn := line63
  have hi : i < xs.length := (List.getElem?_eq_some_iff.mp he).1
  exact wpAny_getItem_list pl.isList (by omega) (by omega) (by simpa using ew) ⟨z, H, I, rw', q⟩
end
section
variable {σ : L2.St} {H : Hp} {D : Ends} {to ti te : TE} {K : PySem.W.Frag}
theorem augS {tget : V → V → Hp → VK → Prop} {tip : TIp} {tset : TSet} (h : to σ H fun o H1 => ti σ H1 fun i H2 => tget o i H2 fun x H3 => te σ H3 fun y H4 => tip x y H4 fun z H5 => tset o i z H5 fun H6 => D.nx σ H6) : tAugS to ti te tget tip tset D σ H := h
theorem gix {p : Addr} {xs : List V} {i : Nat} {v : V} {Q : VK} (h : SqL K H p xs) (e : xs[i]? = some v) (q : Q v H) : gIx K (.ref p) (.int i) H Q := ⟨p, xs, i, v, rfl, rfl, h, e, q⟩
theorem ipi {f : Int → Int → Int} {a b : Int} {Q : VK} (q : Q (.int (f a b)) H) : ipI f (.int a) (.int b) H Q := ⟨a, b, rfl, rfl, q⟩
end
/-! ### what is kept -/
/-- all but the objects of S is kept, the tuples too -/
structure Ks (S : List Addr) (H H' : Hp) : Prop where
  keep : ∀ a o, a ∉ S → H a = some o → H' a = some o
  tk : Tk H H'
section
variable {S S' : List Addr} {H H1 H2 : Hp} {a b p : Addr} {v : V} {vs : List V} {ws : List W} {K : PySem.W.Frag}
theorem Ks.refl : Ks S H H := ⟨fun _ _ _ h => h, fun _ _ h => h⟩
theorem Ks.trans (x : Ks S H H1) (y : Ks S H1 H2) : Ks S H H2 := ⟨fun a o n h => y.keep a o n (x.keep a o n h), x.tk.trans y.tk⟩
theorem Ks.same (x : Same H H1) : Ks S H H1 := ⟨fun a o _ h => x a o h, Same.tk x⟩
theorem Ks.mono (x : Ks S H H1) (h : ∀ a ∈ S, a ∈ S') : Ks S' H H1 := ⟨fun a o n e => x.keep a o (fun q => n (h a q)) e, x.tk⟩
theorem Ks.kp {bs : List V} (k : Kp b H H1) (h : H b = some (.lst bs)) (m : b ∈ S) : Ks S H H1 := ⟨fun a o n e => k a o (fun q => n (q ▸ m)) e, Kp.tk k h⟩
theorem Ks.upd {bs : List V} {o : HO} (h : H b = some (.lst bs)) (m : b ∈ S) : Ks S H (upd H b o) := ⟨fun a u n e => by rw [upd_ne (fun q : a = b => n (by rw [q]; exact m))]; exact e, Tk.lst h⟩
theorem Ks.new {o : HO} (h : H p = none) : Ks S H (L2.upd H p o) := Ks.same (same_new h)
/-- what is new to H is not looked at -/
theorem Ks.toSame (x : Ks S H1 H2) (s : Same H H1) (n : ∀ a ∈ S, H a = none) : Same H H2 := fun a o e => x.keep a o (fun q => by rw [n a q] at e; cases e) (s a o e)
/-! ### a list of pieces -/
abbrev Pc := Int × List W
def IsPc (S : List Addr) (H : Hp) (v : V) (p : Pc) : Prop := ∃ t l vs, v = .ref t ∧ H t = some (.tup [.int p.1, .ref l]) ∧ H l = some (.lst vs) ∧ Pile H vs p.2 ∧ l ∉ S
def Pieces (S : List Addr) (H : Hp) (xs : List V) (R : List Pc) : Prop := Paired (IsPc S H) xs R
theorem IsPc.keep {p : Pc} (h : IsPc S H v p) (k : Ks S H H1) : IsPc S H1 v p := by
  obtain ⟨t, l, vs, e, h1, h2, h3, h4⟩ := h
  exact ⟨t, l, vs, e, k.tk _ _ h1, k.keep _ _ h4 h2, h3.keep k.tk, h4⟩
theorem IsPc.less {p : Pc} (h : IsPc S H v p) (k : ∀ a ∈ S', a ∈ S) : IsPc S' H v p := by
  obtain ⟨t, l, vs, e, h1, h2, h3, h4⟩ := h
  exact ⟨t, l, vs, e, h1, h2, h3, fun q => h4 (k _ q)⟩
theorem Pieces.keep {xs : List V} {R : List Pc} (h : Pieces S H xs R) (k : Ks S H H1) : Pieces S H1 xs R := Paired.mapP h fun _ _ q => q.keep k
theorem Pieces.less {xs : List V} {R : List Pc} (h : Pieces S H xs R) (k : ∀ a ∈ S', a ∈ S) : Pieces S' H xs R := Paired.mapP h fun _ _ q => q.less k
theorem Pieces.len {xs : List V} {R : List Pc} (h : Pieces S H xs R) : xs.length = R.length := Paired.length h
theorem Pieces.nil : Pieces S H [] [] := Paired.nil
theorem pair_app {α β : Type} {F : α → β → Prop} : ∀ {l₁ m₁ : List α} {l₂ m₂ : List β}, Paired F l₁ l₂ → Paired F m₁ m₂ → Paired F (l₁ ++ m₁) (l₂ ++ m₂)
  | _, _, _, _, .nil, k => k
  | _, _, _, _, .cons r t, k => .cons r (pair_app t k)
theorem pair_at {α β : Type} {F : α → β → Prop} : ∀ {l₁ : List α} {l₂ : List β}, Paired F l₁ l₂ → ∀ {i : Nat} {y : β}, l₂[i]? = some y → ∃ x, l₁[i]? = some x ∧ F x y
  | _, _, .nil, i, y, e => by cases i <;> cases e
  | _, _, .cons r t, 0, y, e => by cases e; exact ⟨_, rfl, r⟩
  | _, _, .cons r t, i + 1, y, e => pair_at t (i := i) e
theorem pair_at1 {α β : Type} {F : α → β → Prop} : ∀ {l₁ : List α} {l₂ : List β}, Paired F l₁ l₂ → ∀ {i : Nat} {x : α}, l₁[i]? = some x → ∃ y, l₂[i]? = some y ∧ F x y
  | _, _, .nil, i, y, e => by cases i <;> cases e
  | _, _, .cons r t, 0, y, e => by cases e; exact ⟨_, rfl, r⟩
  | _, _, .cons r t, i + 1, y, e => pair_at1 t (i := i) e
/-! ### lists of piles -/
def IsLs (S : List Addr) (H : Hp) (v : V) (ws : List W) : Prop := ∃ l vs, v = .ref l ∧ H l = some (.lst vs) ∧ Pile H vs ws ∧ l ∉ S
def Lists (S : List Addr) (H : Hp) (ys : List V) (Ps : List (List W)) : Prop := Paired (IsLs S H) ys Ps
theorem IsLs.keep {ws : List W} (h : IsLs S H v ws) (k : Ks S H H1) : IsLs S H1 v ws := by
  obtain ⟨l, vs, e, h2, h3, h4⟩ := h
  exact ⟨l, vs, e, k.keep _ _ h4 h2, h3.keep k.tk, h4⟩
theorem IsLs.less {ws : List W} (h : IsLs S H v ws) (k : ∀ a ∈ S', a ∈ S) : IsLs S' H v ws := by
  obtain ⟨l, vs, e, h2, h3, h4⟩ := h
  exact ⟨l, vs, e, h2, h3, fun q => h4 (k _ q)⟩
theorem Lists.keep {ys : List V} {Ps : List (List W)} (h : Lists S H ys Ps) (k : Ks S H H1) : Lists S H1 ys Ps := Paired.mapP h fun _ _ q => q.keep k
theorem Lists.less {ys : List V} {Ps : List (List W)} (h : Lists S H ys Ps) (k : ∀ a ∈ S', a ∈ S) : Lists S' H ys Ps := Paired.mapP h fun _ _ q => q.less k
theorem Lists.len {ys : List V} {Ps : List (List W)} (h : Lists S H ys Ps) : ys.length = Ps.length := Paired.length h
/-! ### what a raw paper is, and its piles -/
def RawOk (size : Int) (R : List Pc) : Prop := ∀ (k : Nat) (p : Pc), R[k]? = some p → -1 ≤ p.1 ∧ p.1 < k ∧ 1 ≤ p.2.length ∧ (p.2.length : Int) ≤ size ∧ ∀ z ∈ p.2, Wok z
def belowM (Ps : List (List W)) (u : Int) : List W := if 0 ≤ u then Ps.getD u.toNat [] else []
def PilesOk (R : List Pc) (Ps : List (List W)) : Prop := Ps.length = R.length ∧ ∀ (k : Nat) (p : Pc), R[k]? = some p → Ps[k]? = some (belowM Ps p.1 ++ p.2)
theorem RawOk.nil {size : Int} : RawOk size [] := fun k p e => by cases k <;> cases e
theorem PilesOk.nil : PilesOk [] [] := ⟨rfl, fun k p e => by cases k <;> cases e⟩
theorem get_app1 {α : Type} {l : List α} {x y : α} {k : Nat} (h : (l ++ [x])[k]? = some y) : l[k]? = some y ∨ (k = l.length ∧ y = x) := by
  by_cases c : k < l.length
  · rw [List.getElem?_append_left c] at h; exact .inl h
  · rw [List.getElem?_append_right (by omega)] at h
    have e : k - l.length = 0 := by
      by_cases q : k - l.length = 0
      · exact q
      · obtain ⟨m, hm⟩ : ∃ m, k - l.length = m + 1 := ⟨k - l.length - 1, by omega⟩
        rw [hm] at h; simp at h
    rw [e] at h
    exact .inr ⟨by omega, (Option.some.inj h).symm⟩
theorem RawOk.app {size : Int} {R : List Pc} {p : Pc} (h : RawOk size R) (h1 : -1 ≤ p.1) (h2 : p.1 < R.length) (h3 : 1 ≤ p.2.length) (h4 : (p.2.length : Int) ≤ size) (h5 : ∀ z ∈ p.2, Wok z) : RawOk size (R ++ [p]) := fun k q e => by
  rcases get_app1 e with e | ⟨rfl, rfl⟩
  · exact h k q e
  · exact ⟨h1, h2, h3, h4, h5⟩
theorem below_app {Ps : List (List W)} {x : List W} {u : Int} (h : u < Ps.length) : belowM (Ps ++ [x]) u = belowM Ps u := by
  unfold belowM
  split
  · rw [List.getD_eq_getElem?_getD, List.getD_eq_getElem?_getD, List.getElem?_append_left (by omega)]
  · rfl
theorem PilesOk.app {size : Int} {R : List Pc} {Ps : List (List W)} {p : Pc} (h : PilesOk R Ps) (ok : RawOk size R) (h2 : p.1 < R.length) : PilesOk (R ++ [p]) (Ps ++ [belowM Ps p.1 ++ p.2]) := by
  refine ⟨by rw [List.length_append, List.length_append, h.1] <;> rfl, fun k q e => ?_⟩
  have hl := h.1
  rcases get_app1 e with e | ⟨rfl, rfl⟩
  · have hk : k < R.length := (List.getElem?_eq_some_iff.mp e).1
    have := (ok k q e).2.1
    rw [below_app (by omega), List.getElem?_append_left (by omega)]
    exact h.2 k q e
  · rw [below_app (by omega), ← hl, List.getElem?_append_right (Nat.le_refl _), Nat.sub_self] <;> rfl
/-! ### a paper -/
abbrev Pap := List Pc × List Int
def IsPap (S : List Addr) (H : Hp) (v : V) (P : Pap) : Prop := ∃ t p q xs, v = .ref t ∧ H t = some (.tup [.ref p, .ref q]) ∧ H p = some (.lst xs) ∧ Pieces S H xs P.1 ∧ H q = some (.lst (P.2.map V.int)) ∧ p ∉ S ∧ q ∉ S
theorem IsPap.keep {P : Pap} (h : IsPap S H v P) (k : Ks S H H1) : IsPap S H1 v P := by
  obtain ⟨t, p, q, xs, e, h1, h2, h3, h4, h5, h6⟩ := h
  exact ⟨t, p, q, xs, e, k.tk _ _ h1, k.keep _ _ h5 h2, h3.keep k, k.keep _ _ h6 h4, h5, h6⟩
def pD (p : Pc) : PyData := .tuple [.int p.1, .list (p.2.map wD)]
def papD (P : Pap) : PyData := .tuple [.list (P.1.map pD), .list (P.2.map PyData.int)]
theorem IsPc.dp {p : Pc} (h : IsPc S H v p) : Dp K H v (pD p) := by
  obtain ⟨t, l, vs, rfl, h1, h2, h3, h4⟩ := h
  exact .tup (SqT.of h1) (.cons (.int _) (.cons (h3.dp (SqL.of h2)) .nil))
theorem Pieces.dpAll {xs : List V} {R : List Pc} (h : Pieces S H xs R) : DpAll K H xs (R.map pD) := by
  unfold Pieces at h
  induction h with
  | nil => exact .nil
  | cons r t ih => exact .cons r.dp ih
theorem ints_dp : ∀ ns : List Int, DpAll K H (ns.map V.int) (ns.map PyData.int)
  | [] => .nil
  | _ :: ns => .cons (.int _) (ints_dp ns)
theorem IsPap.dp {P : Pap} (h : IsPap S H v P) : Dp K H v (papD P) := by
  obtain ⟨t, p, q, xs, rfl, h1, h2, h3, h4, h5, h6⟩ := h
  exact .tup (SqT.of h1) (.cons (.lst (SqL.of h2) h3.dpAll) (.cons (.lst (SqL.of h4) (ints_dp _)) .nil))
theorem pD_lay {p : Pc} (h : ∀ w ∈ p.2, Wok w) : (pD p).canLay0 = true := by
  unfold pD
  simp only [PyData.canLay0, PyData.canLayAll0]
  rw [wDs_lay p.2 h] <;> rfl
theorem pDs_lay : ∀ R : List Pc, (∀ p ∈ R, ∀ w ∈ p.2, Wok w) → PyData.canLayAll0 (R.map pD) = true
  | [], _ => by simp [PyData.canLayAll0]
  | p :: R, h => by
    rw [List.map_cons]
    simp only [PyData.canLayAll0]
    rw [pD_lay (h p List.mem_cons_self), pDs_lay R (fun x hx => h x (List.mem_cons_of_mem _ hx))] <;> rfl
theorem ints_lay : ∀ ns : List Int, PyData.canLayAll0 (ns.map PyData.int) = true
  | [] => by simp [PyData.canLayAll0]
  | n :: ns => by
    rw [List.map_cons]
    simp only [PyData.canLayAll0, PyData.canLay0]
    rw [ints_lay ns] <;> rfl
theorem ints_depth : ∀ ns : List Int, PyData.depthAll (ns.map PyData.int) = 0
  | [] => by simp [PyData.depthAll]
  | n :: ns => by
    rw [List.map_cons]
    simp only [PyData.depthAll, PyData.depth]
    rw [ints_depth ns] <;> rfl
theorem pDs_depth : ∀ R : List Pc, PyData.depthAll (R.map pD) ≤ 3
  | [] => by simp [PyData.depthAll]
  | p :: R => by
    have h := pDs_depth R
    have h2 := wDs_depth p.2
    rw [List.map_cons]
    unfold pD at h ⊢
    simp only [PyData.depthAll, PyData.depth]
    omega
theorem papD_shaped {P : Pap} (h : ∀ p ∈ P.1, ∀ w ∈ p.2, Wok w) : SeqAt.shaped (papD P) = true := by
  have h1 := pDs_depth P.1
  have h2 := ints_depth P.2
  have h3 : (papD P).depth ≤ 64 := by
    unfold papD
    simp only [PyData.depth, PyData.depthAll]
    omega
  show (PyData.canLay0 (papD P) && decide ((papD P).depth ≤ 64)) = true
  rw [decide_eq_true h3, Bool.and_true]
  unfold papD
  simp only [PyData.canLay0, PyData.canLayAll0]
  rw [pDs_lay P.1 h, ints_lay] <;> rfl
theorem ints_shaped (ns : List Int) : SeqAt.shaped (.list (ns.map PyData.int)) = true := by
  have h2 := ints_depth ns
  have h3 : (PyData.list (ns.map PyData.int)).depth ≤ 64 := by
    simp only [PyData.depth]
    omega
  show (PyData.canLay0 (.list (ns.map PyData.int)) && decide ((PyData.list (ns.map PyData.int)).depth ≤ 64)) = true
  rw [decide_eq_true h3, Bool.and_true]
  simp only [PyData.canLay0]
  exact ints_lay ns
end
end Wr

/-! Dicts whose keys are pairs of a whole number and a worth. -/
namespace Wd
open PySem PySem.Spec PyProof.Rows L2 Wp Wq
abbrev KW := Int × W
abbrev NE := KW × Addr × V
def kN (k : KW) : NestedKey := .tup [.num k.1, .tup [.text k.2.1, .num k.2.2]]
theorem kN_inj {a b : KW} (h : kN a = kN b) : a = b := by
  obtain ⟨i, s, n⟩ := a
  obtain ⟨j, t, m⟩ := b
  unfold kN at h
  simp at h
  obtain ⟨h1, h2, h3⟩ := h
  rw [h1, h2, h3]
abbrev NX := NestedKey × Addr × Value
def NR (es : List NE) (xs : List NX) : Prop := Paired (fun (p : NE) (q : NX) => kN p.1 = q.1 ∧ p.2.1 = q.2.1 ∧ RelV p.2.2 q.2.2) es xs
def NRaw (P : Program) (w : World) (a : Addr) (xs : List NX) (h : Heap) : Prop :=
  ∃ o ess ep, h.get? a = some o ∧ o.ExactDict ∧ o.data = .dict ess ep ∧ ess.toList = xs.map (entryOfKey (nestedKind P w)) ∧ (xs.map (·.1)).Nodup
def NO (P : Program) (w : World) (a : Addr) (es : List NE) : HO :=
  .ext fun h => es.length ≤ sizeLine ∧ (a == sysModules) = false ∧ ∃ xs, NR es xs ∧ NRaw P w a xs h
/-- the pair at b is the key k -/
def IsKN (H : Hp) (b : Addr) (k : KW) : Prop := ∃ t, H b = some (.tup [.int k.1, .ref t]) ∧ H t = some (.tup [.str k.2.1, .int k.2.2])
theorem IsKN.keep {H H' : Hp} {b : Addr} {k : KW} (h : IsKN H b k) (s : Tk H H') : IsKN H' b k := by
  obtain ⟨t, h1, h2⟩ := h
  exact ⟨t, s _ _ h1, s _ _ h2⟩
/-- at d stands a dict of these keys and values, in their order -/
def NDict (P : Program) (w : World) (H : Hp) (d : Addr) (kvs : List (KW × V)) : Prop :=
  ∃ es : List NE, H d = some (NO P w d es) ∧ (∀ e ∈ es, IsKN H e.2.1 e.1) ∧ es.map (fun e => (e.1, e.2.2)) = kvs
theorem NDict.keep {P : Program} {w : World} {H H' : Hp} {d : Addr} {kvs : List (KW × V)} (h : NDict P w H d kvs) (k : H' d = H d) (s : Tk H H') : NDict P w H' d kvs := by
  obtain ⟨es, h1, h2, h3⟩ := h
  exact ⟨es, k.trans h1, fun e he => (h2 e he).keep s, h3⟩
theorem NDict.same {P : Program} {w : World} {H H' : Hp} {d : Addr} {kvs : List (KW × V)} (h : NDict P w H d kvs) (s : Same H H') : NDict P w H' d kvs := by
  have ⟨es, h1, h2, h3⟩ := h
  exact h.keep ((s _ _ h1).trans h1.symm) (Same.tk s)
theorem NDict.kp {P : Program} {w : World} {H H' : Hp} {d b : Addr} {bs : List V} {kvs : List (KW × V)} (h : NDict P w H d kvs) (hb : H b = some (.lst bs)) (s : Kp b H H') : NDict P w H' d kvs := by
  have ⟨es, h1, h2, h3⟩ := h
  exact h.keep ((s _ _ (ne_of h1 hb (by intro q; cases q)) h1).trans h1.symm) (Kp.tk s hb)
theorem NDict.isSome {P : Program} {w : World} {H : Hp} {d : Addr} {kvs : List (KW × V)} (h : NDict P w H d kvs) : ∃ o, H d = some o := by
  obtain ⟨es, h1, _⟩ := h
  exact ⟨_, h1⟩
theorem NDict.ne_lst {P : Program} {w : World} {H : Hp} {d a : Addr} {bs : List V} {kvs : List (KW × V)} (h : NDict P w H d kvs) (ha : H a = some (.lst bs)) : d ≠ a := by
  obtain ⟨es, h1, _⟩ := h
  exact ne_of h1 ha (by intro q; cases q)
section
variable {X : Cx} {pins : List (Addr × Obj)} {σ : L2.St} {H : Hp} {s : Shared} {d b : Addr} {k : KW} {es : List NE} {xs : List NX}
theorem key_is (I : Inv X pins σ H s) (h : IsKN H b k) : (nestedKind X.prog X.w).is s.heap (kN k) b := by
  obtain ⟨t, hb, ht⟩ := h
  obtain ⟨_, its, rv, o1, g1, c1, n1, d1⟩ := (show ObjOk X.prog X.w H s.heap b (.tup [.int k.1, .ref t]) from I.hok b _ hb)
  obtain ⟨_, jts, rw', o2, g2, c2, n2, d2⟩ := (show ObjOk X.prog X.w H s.heap t (.tup [.str k.2.1, .int k.2.2]) from I.hok t _ ht)
  cases rv with
  | cons r1 r2 =>
    cases r2 with
    | cons r3 r4 =>
      cases r4
      cases rw' with
      | cons q1 q2 =>
        cases q2 with
        | cons q3 q4 =>
          cases q4
          obtain ⟨t1, rfl⟩ := r1
          cases r3
          obtain ⟨t2, rfl⟩ := q1
          obtain ⟨t3, rfl⟩ := q3
          exact ⟨.tup g1 c1 d1 (.cons (.int _ _) (.cons (.tup g2 c2 d2 (.cons (.text _ _) (.cons (.int _ _) .nil))) .nil)), by simp [kN, NestedKey.depth, NestedKey.depthAll]⟩
theorem no_get (I : Inv X pins σ H s) (h : H d = some (NO X.prog X.w d es)) : es.length ≤ sizeLine ∧ (d == sysModules) = false ∧ ∃ xs, NR es xs ∧ NRaw X.prog X.w d xs s.heap := (I.hok d _ h).1
theorem no_new {P : Program} {w : World} {h : Heap} (z : es.length ≤ sizeLine) (hd : (d == sysModules) = false) (r : NR es xs) (q : NRaw P w d xs h) : ObjOk P w H h d (NO P w d es) := by
  have ⟨o, ess, ep, ho, rest⟩ := q
  refine ⟨⟨z, hd, xs, r, q⟩, ⟨o, ho⟩, fun h1 h2 p k => ?_⟩
  obtain ⟨z, hd, xs, r, o, ess, ep, ho, rest⟩ := p
  exact ⟨z, hd, xs, r, o, ess, ep, k o ho, rest⟩
theorem pgetR {α β : Type} {R : α → β → Prop} : ∀ {l1 : List α} {l2 : List β}, Paired R l1 l2 → ∀ {i : Nat} {y : β}, l2[i]? = some y → ∃ x, l1[i]? = some x ∧ R x y
  | _, _, .nil, i, y, h => by cases i <;> cases h
  | _, _, .cons r t, 0, y, h => by cases h; exact ⟨_, rfl, r⟩
  | _, _, .cons r t, i + 1, y, h => pgetR t h
theorem pgetL {α β : Type} {R : α → β → Prop} : ∀ {l1 : List α} {l2 : List β}, Paired R l1 l2 → ∀ {i : Nat} {x : α}, l1[i]? = some x → ∃ y, l2[i]? = some y ∧ R x y
  | _, _, .nil, i, y, h => by cases i <;> cases h
  | _, _, .cons r t, 0, y, h => by cases h; exact ⟨_, rfl, r⟩
  | _, _, .cons r t, i + 1, y, h => pgetL t h
theorem papp {α β : Type} {R : α → β → Prop} : ∀ {l1 m1 : List α} {l2 m2 : List β}, Paired R l1 l2 → Paired R m1 m2 → Paired R (l1 ++ m1) (l2 ++ m2)
  | _, _, _, _, .nil, k => k
  | _, _, _, _, .cons r t, k => .cons r (papp t k)
theorem no_dict (I : Inv X pins σ H s) (h : H d = some (NO X.prog X.w d es)) (hk : ∀ e ∈ es, IsKN H e.2.1 e.1) : ∃ xs, NR es xs ∧ s.heap.DictOfH (nestedKind X.prog X.w) d xs := by
  obtain ⟨z, hd, xs, r, o, ess, ep, ho, hx, hdat, he, hn⟩ := no_get I h
  refine ⟨xs, r, o, ess, ep, ho, hx, hdat, he, fun x hx => ?_, hn⟩
  obtain ⟨i, hi⟩ := List.mem_iff_getElem?.mp hx
  obtain ⟨e, he, r1, r2, r3⟩ := pgetR r hi
  rw [← r1, ← r2]
  exact key_is I (hk e (List.mem_of_getElem? he))
theorem NR.val (r : NR es xs) (k : KW) : RelO (valV (es.map fun e => (e.1, e.2.2)) k) ((atKey xs (kN k)).map (·.2)) := by
  unfold NR at r
  induction r with
  | nil => trivial
  | @cons p q l1 l2 h t ih =>
    obtain ⟨h1, h2, h3⟩ := h
    rw [List.map_cons]
    by_cases e : p.1 = k
    · have e2 : q.1 = kN k := by rw [← h1, e]
      rw [valV_pos e]
      unfold atKey
      rw [List.find?_cons, decide_eq_true e2]
      exact h3
    · have e2 : ¬ q.1 = kN k := fun c => e (kN_inj (h1.trans c))
      rw [valV_neg e]
      unfold atKey at ih ⊢
      rw [List.find?_cons, decide_eq_false e2]
      exact ih
theorem NR.len (r : NR es xs) : es.length = xs.length := Paired.length r
end
/-! ### a new one -/
section
variable {X : Cx} {P : Program} {w : World} {σ : L2.St} {H : Hp} {Q : VK} {te ta tb to : TE}
theorem no_empty {H : Hp} (h : Heap) (hb : sysModules < h.objs.size) : ObjOk P w H (h.push { cls := .type "dict", data := .dict #[] }) h.objs.size (NO P w h.objs.size []) := by
  obtain ⟨o, es, ep, ho, hx, hdat, he, _, hn⟩ := Heap.DictOfH.new (knd := nestedKind P w) h
  exact no_new (xs := []) (Nat.zero_le _) (by rw [beq_eq_false_iff_ne]; exact Nat.ne_of_gt hb) .nil ⟨o, es, ep, ho, hx, hdat, he, hn⟩
def tNew (P : Program) (w : World) : TE := fun _ H Q => ∀ p, H p = none → Q (.ref p) (upd H p (NO P w p []))
theorem pe_new {pos : Pos} : PE X (.Dict [] [] pos) (tNew X.prog X.w) := ⟨fun pins s σ H Q I h =>
  wpAny_Dict_empty ⟨.ref s.heap.objs.size, _, I.laid (a := s.heap.objs.size) (o := NO X.prog X.w s.heap.objs.size []) (t' := s.toks) (fun _ _ q => Heap.get?_push_of_some _ q) (Nat.le_refl _) (no_empty s.heap I.big), rfl, h _ (I.hok.fresh (Nat.le_refl _))⟩⟩
theorem ndict_new {H : Hp} {p : Addr} : NDict P w (upd H p (NO P w p [])) p [] := ⟨[], upd_same, (fun _ h => nomatch h), rfl⟩
/-! ### d.setdefault((i, worth), v) -/
def rSetD (P : Program) (w : World) : V → List V → Hp → VK → Prop := fun x xs H Q => ∃ (d b : Addr) (k : KW) (v : V) (kvs : List (KW × V)), x = .ref d ∧ xs = [.ref b, v] ∧ NDict P w H d kvs ∧ IsKN H b k ∧ kvs.length < sizeLine ∧
  (∀ u, valV kvs k = some u → Q u H) ∧ (valV kvs k = none → ∀ H', NDict P w H' d (kvs ++ [(k, v)]) → Kp d H H' → Q v H')
theorem mt_setD (hu : X.A.units + 64 < cLine) : MtR X "dict.setdefault" (rSetD X.prog X.w) := by
  intro pins s σ H x xs v us Q I rx rxs h
  obtain ⟨d, b, k, v0, kvs, rfl, rfl, ⟨es, hd, hk, rfl⟩, hb, room, q1, q2⟩ := h
  cases rx
  cases rxs with
  | cons r1 r2 =>
    cases r2 with
    | cons r3 r4 =>
      cases r4
      cases r1
      rename_i v1
      obtain ⟨z, hsys, _⟩ := no_get I hd
      obtain ⟨xs, r, hm⟩ := no_dict I hd hk
      have hv := NR.val r k
      refine call_setdefault_heap (knd := nestedKind X.prog X.w) (k := kN k) (hu := by show X.A.units + 1 + 8 < cLine; omega) (hkey := key_is I hb) (hd := hsys) (hm := hm) (hsz := by rw [← NR.len r]; exact z) (fun p hp => ?_) (fun hn h' hm' hs => ?_)
      · rw [hp] at hv
        cases e : valV (es.map fun e => (e.1, e.2.2)) k with
        | none => rw [e] at hv; exact hv.elim
        | some u =>
          rw [e] at hv
          exact ⟨u, H, I.tok _, hv, q1 u e⟩
      · rw [hn] at hv
        cases e : valV (es.map fun e => (e.1, e.2.2)) k with
        | some u => rw [e] at hv; exact hv.elim
        | none =>
          rw [storedH_new hn] at hm'
          obtain ⟨o, ess, ep, ho, hx, hdat, he, _, hnd⟩ := hm'
          rw [List.length_map] at room
          have rn : NR (es ++ [(k, b, v0)]) (xs ++ [(kN k, b, v1)]) := papp r (.cons ⟨rfl, rfl, r3⟩ .nil)
          have new : ∀ HH, ObjOk X.prog X.w HH h' d (NO X.prog X.w d (es ++ [(k, b, v0)])) := fun HH => no_new (by rw [List.length_append]; exact room) hsys rn ⟨o, ess, ep, ho, hx, hdat, he, hnd⟩
          refine ⟨v0, upd H d (NO X.prog X.w d (es ++ [(k, b, v0)])), d_write I (by rw [hd]; trivial) hs ⟨o, ho⟩ (new _), r3, q2 e _ ⟨_, upd_same, ?_, ?_⟩ Kp.at⟩
          · intro e he
            have tk : Tk H (upd H d (NO X.prog X.w d (es ++ [(k, b, v0)]))) := fun t xs e => by rw [upd_ne (ne_of e hd (by intro q; cases q))]; exact e
            rcases List.mem_append.mp he with he | he
            · exact (hk e he).keep tk
            · rw [List.mem_singleton.mp he]; exact hb.keep tk
          · rw [List.map_append] <;> rfl
def tNM (P : Program) (w : World) (r : V → List V → Hp → VK → Prop) (to : TE) (t : TA) : TE := fun σ H Q => to σ H fun x H1 => (∃ a kvs, x = V.ref a ∧ NDict P w H1 a kvs) ∧ t σ H1 fun xs H2 => r x xs H2 Q
variable {o e : Expr} {es : List Expr} {t : TA} {apos cpos : Pos}
theorem nd_typeIs {pins : List (Addr × Obj)} {H : Hp} {s : Shared} {d : Addr} {kvs : List (KW × V)} (I : Inv X pins σ H s) (g : NDict X.prog X.w H d kvs) : s.TypeIs (.ref d) "dict" := by
  obtain ⟨es, hd, hk, _⟩ := g
  obtain ⟨xs, r, hm⟩ := no_dict I hd hk
  exact hm.typeIs
theorem nd_noDict {pins : List (Addr × Obj)} {H : Hp} {s : Shared} {d : Addr} {kvs : List (KW × V)} (I : Inv X pins σ H s) (g : NDict X.prog X.w H d kvs) :
    ∀ b, Value.ref d = .ref b → ∃ ob, s.heap.get? b = some ob ∧ ob.dict = none := fun b q => by
  cases q
  obtain ⟨es, hd, hk, _⟩ := g
  obtain ⟨xs, r, ob, _, _, h1, h2, _⟩ := no_dict I hd hk
  exact ⟨ob, h1, h2.2.1⟩
theorem pe_setD (hu : X.A.units + 64 < cLine) (ho : PE X o to) (ha : PA X (e :: es) t)
    (hbase : attributeBase o "setdefault" X.env (eval o X.env) = eval o X.env := by rfl)
    (hfew : ((backTo cpos (starEach (e :: es) X.env)).all (fun x => !x.1) && (backToKw cpos (keywordEach [] X.env)).all (fun x => x.1.isSome)
      && decide ((e :: es).length + ([] : List Keyword).length + (if ([] : List Keyword).isEmpty then 0 else 1) < 30)) = true := by rfl)
    (hline : (apos.endLine == cpos.line) = true := by rfl) (hs : starEach (e :: es) X.env = (false, eval e X.env) :: starEach es X.env := by rfl) (hplain : (backTo cpos (starEach es X.env)).any (·.1) = false := by rfl) :
    PE X (.Call (.Attribute o "setdefault" apos) (e :: es) [] cpos) (tNM X.prog X.w (rSetD X.prog X.w) to t) := by
  refine ⟨fun pins s σ H Q I h => ?_⟩
  refine wpAny_Call_method_late hbase hfew hline rfl (thn (ho.run pins s σ H _ I h) fun v s1 ⟨x, H1, I1, r1, ty, q1⟩ => ?_)
  obtain ⟨a, kvs, rfl, hka⟩ := ty
  cases r1
  refine ⟨"dict", "dict.setdefault", F.plainAttrs_dict, F.slot_dict_setdefault, F.type_dict_setdefault, nd_typeIs I1 hka, nd_noDict I1 hka, ?_⟩
  have hA := ha.run cpos pins s1 σ H1 _ I1 q1
  rw [hs] at hA ⊢
  refine Calls.callWith_builtin (by show (false || (backTo cpos (starEach es X.env)).any (·.1)) = false; rw [hplain] <;> rfl) (Calls.evalArgs_plain ?_)
  exact thn hA fun us s2 ⟨vs, H2, I2, r2, q2⟩ => mt_setD hu pins s2 σ H2 (.ref a) vs (.ref a) us Q I2 rfl r2 q2
/-! ### d[(i, worth)], len(d), k in d -/
def rIxN (P : Program) (w : World) : R2 := fun x y H Q => ∃ (d b : Addr) (k : KW) (kvs : List (KW × V)) (u : V), x = .ref d ∧ y = .ref b ∧ NDict P w H d kvs ∧ IsKN H b k ∧ valV kvs k = some u ∧ Q u H
def tNGet (P : Program) (w : World) (td ty : TE) : TE := fun σ H Q => td σ H fun x H1 => ty σ H1 fun y H2 => rIxN P w x y H2 Q
theorem call_lenN : CallR X (.builtin "len") (fun xs H Q => ∃ a kvs, xs = [V.ref a] ∧ NDict X.prog X.w H a kvs ∧ Q (.int kvs.length) H) := by
  intro pins s σ H xs us Q I r h
  obtain ⟨a, kvs, rfl, ha, q⟩ := h
  obtain ⟨u, rfl, ru⟩ := vals1 r
  cases ru
  have hT := nd_typeIs I ha
  obtain ⟨es, hd, hk, rfl⟩ := ha
  obtain ⟨z, hsys, _⟩ := no_get I hd
  obtain ⟨xs, r, hm⟩ := no_dict I hd hk
  have el := NR.len r
  refine call_len_slot (n := xs.length) hT F.slot_dict_len (fun Q' hq => len_keyed (kvs := pairsH xs) hsys ⟨xs, hm, rfl⟩ (by rw [pairsH_length]; exact hq)) (by omega) (by rw [sizeLine_eq] at z; omega) ?_
  rw [← el, List.length_map] at *
  exact ⟨.int es.length, H, (I.tok _).tok _, ⟨_, rfl⟩, q⟩
variable {i : Expr} {td ty : TE} {pos : Pos}
theorem pe_nget (hu : X.A.units + 64 < cLine) (ho : PE X o td) (hi : PE X i ty) (hs : NoSl i) : PE X (.Subscript o i pos) (tNGet X.prog X.w td ty) := by
  refine ⟨fun pins s σ H Q I h => ?_⟩
  refine subD_of PySem.F.slot_dict_getitem.lookup hs (thn (ho.run pins s σ H _ I h) fun u s1 ⟨x, H1, I1, rx, q1⟩ => thn (hi.run pins s1 σ H1 _ I1 q1) fun iv s2 ⟨y, H2, I2, ry, d, b, k, kvs, v, ex, ey, g, hb, hv, q2⟩ => ?_)
  subst ex ey
  obtain rfl : u = Value.ref d := rx
  obtain rfl : iv = Value.ref b := ry
  refine ⟨nd_typeIs I2 g, ?_⟩
  obtain ⟨es, hd, hk, rfl⟩ := g
  obtain ⟨xs, r, hm⟩ := no_dict I2 hd hk
  have hr := NR.val r k
  rw [hv] at hr
  cases e : atKey xs (kN k) with
  | none => rw [e] at hr; exact hr.elim
  | some p =>
    rw [e] at hr
    refine wpAny_getItem_heap (knd := nestedKind X.prog X.w) (hu := by show X.A.units + 1 + 8 < cLine; omega) (hkey := key_is I2 hb) (hm := hm) (hp := e) ?_
    exact ⟨v, H2, I2.tok _, hr, q2⟩
/-! ### for pair in d: the dict is locked -/
def NDictF (P : Program) (w : World) (H : Hp) (d : Addr) (o : Obj) (es : List NE) : Prop := H d = some (.frz o (NO P w d es))
def Itn (P : Program) (w : World) (d : Addr) (o : Obj) (es : List NE) : It :=
  ⟨fun i H => NDictF P w H d o es ∧ i < es.length, fun i H x H' => H' = H ∧ ∃ e, es[i]? = some e ∧ x = .ref e.2.1, fun i H => NDictF P w H d o es ∧ es.length ≤ i⟩
theorem frzN {pins : List (Addr × Obj)} {H : Hp} {s : Shared} {d : Addr} {o : Obj} {es : List NE} (I : Inv X pins σ H s) (h : NDictF X.prog X.w H d o es) :
    (d == sysModules) = false ∧ s.heap.get? d = some o ∧ o.ExactDict ∧ ∃ (ess : Array DictEntry) (ep : Nat), o.data = .dict ess ep ∧ ess.size = es.length ∧
      ∀ (i : Nat) (e : NE), es[i]? = some e → ∃ (en : DictEntry), ess[i]? = some en ∧ en.key = .ref e.2.1 := by
  obtain ⟨hg, z⟩ := I.hok d _ h
  obtain ⟨z, hsys, xs, r, o', ess, ep, ho, hx, hdt, he, hn⟩ := (show ObjOk X.prog X.w H s.heap d (NO X.prog X.w d es) from z).1
  rw [hg] at ho
  cases ho
  refine ⟨hsys, hg, hx, ess, ep, hdt, ?_, fun i e hi => ?_⟩
  · have l1 : ess.size = xs.length := size_of_entries he
    have l2 := NR.len r
    omega
  · obtain ⟨x, hx, r1, r2, r3⟩ := pgetL r hi
    have q := entry_at he i
    rw [hx] at q
    exact ⟨_, q, by rw [r2] <;> rfl⟩
theorem turn_keysN {P : Program} {w : World} {K : PySem.W.Frag} {tg : Expr} {d : Addr} {o : Obj} {ess : Array DictEntry} {ep : Nat} {es : List NE} (it : Addr) (hod : o.data = .dict ess ep) : Turn P w K tg (Itn P w d o es) [it] it (fun i h => h.IsKeyIter it d i es.length ep) where
  mem := by simp
  obj := fun i h st b hb => by
    have e : b = it := by simpa using hb
    subst e
    obtain ⟨oi, e, c, dd⟩ := st
    exact ⟨oi, e, fun v z => by rw [dd] at z; cases z⟩
  keep := fun i h h' st k => st.at fun oi e => k it (by simp) oi e
  item := by
    intro X hP hw hK hc i pins s σ H E I hf st hg
    subst hP hw hK
    obtain ⟨hd, hi⟩ := hg
    obtain ⟨f0, f1, f2, f3, f4, f5⟩ := hf it (by simp)
    obtain ⟨hs, hgd, hx, es', ep', hdt, hsz, ent⟩ := frzN I hd
    obtain ⟨rfl, rfl⟩ := dict_ep hod hdt
    obtain ⟨e0, he0⟩ : ∃ p, es[i]? = some p := ⟨es[i], List.getElem?_eq_getElem hi⟩
    obtain ⟨en, hen, hkey⟩ := ent i e0 he0
    refine next_key_item st hgd hdt hsz hen fun h' st' sb => ?_
    have I1 : Inv X pins σ H { s with heap := h' } := I.turned (t' := s.toks) (fun b ob hb e => (sb.2 b hb).trans e) f0 f1 f3 f4 f5
    obtain ⟨oi, e, c, dd⟩ := id st'
    exact ⟨en.key, rfl, go_of (s := { s with heap := h' }) e c dd (by decide) ⟨.ref e0.2.1, H, I1, hkey, ⟨rfl, e0, he0, rfl⟩, st', fun b hb => (hf b hb).1⟩⟩
  done := by
    intro X hP hw hK hc i pins s σ H E I hf st hg
    subst hP hw hK
    obtain ⟨hd, hi⟩ := hg
    obtain ⟨f0, f1, f2, f3, f4, f5⟩ := hf it (by simp)
    obtain ⟨hs, hgd, hx, es', ep', hdt, hsz, ent⟩ := frzN I hd
    obtain ⟨rfl, rfl⟩ := dict_ep hod hdt
    exact next_key_end (I.ok.hd hc) st hgd hdt hsz hi fun h' eb => ⟨rfl, I.turned (t' := s.toks) (fun b ob hb e => eb b ob hb e) f0 f1 f3 f4 f5⟩
  self := fun A i s Q E st h => by
    refine wpAny_pyIter_slot st.typeIs F.slot_dict_keyiterator_iter (wpAny_call_entry F.slot_dict_keyiterator_iter st.typeIs F.entry_dict_keyiterator_iter ?_ (F.args_dict_keyiterator_iter_1 _))
    show wpAny _ _ (ret (.ref it)) _ _ s
    exact wpAny_pure ⟨_, rfl, "dict_keyiterator", _, st.typeIs, F.slot_dict_keyiterator_next.lookup, h⟩
def iKeysN (P : Program) (w : World) (td : TE) : TI := fun σ H R => td σ H fun x H1 => ∃ d o es, x = .ref d ∧ NDictF P w H1 d o es ∧ R (Itn P w d o es) H1
theorem pi_keysN {tg e : Expr} {td : TE} (he : PE X e td) : PI X tg e (iKeysN X.prog X.w td) := by
  refine ⟨fun pins s σ H R I h => ?_⟩
  refine thn (he.run pins s σ H _ I h) fun u s1 ⟨x, H1, I1, rx, d, o, es, ex, hd, q⟩ => ?_
  subst ex
  obtain rfl : u = Value.ref d := rx
  obtain ⟨hs, hgd, hx, ess, ep, hdt, hsz, ent⟩ := frzN I1 hd
  refine iter_keys hs hgd hx hdt (pi_one (tk := s1.toks) I1 _ (turn_keysN _ hdt) ⟨_, Heap.get?_push_size _ rfl, rfl, ?_⟩ q)
  rw [hsz] <;> rfl
end
section
variable {P : Program} {w : World} {r : V → List V → Hp → VK → Prop} {to td ty : TE} {t : TA} {σ : L2.St} {H : Hp} {Q : VK} {R : It → Hp → Prop}
theorem nm (h : to σ H fun x H1 => (∃ a kvs, x = V.ref a ∧ NDict P w H1 a kvs) ∧ t σ H1 fun xs H2 => r x xs H2 Q) : tNM P w r to t σ H Q := h
theorem nget (h : td σ H fun x H1 => ty σ H1 fun y H2 => rIxN P w x y H2 Q) : tNGet P w td ty σ H Q := h
theorem tnew (h : ∀ p, H p = none → Q (.ref p) (upd H p (NO P w p []))) : tNew P w σ H Q := h
theorem pikn (h : td σ H fun x H1 => ∃ d o es, x = .ref d ∧ NDictF P w H1 d o es ∧ R (Itn P w d o es) H1) : iKeysN P w td σ H R := h
end
end Wd

/-! sorted of anything that reads as data. -/
namespace Ws
open PySem PySem.Spec PyProof.Rows L2 Wp Wq
abbrev VD := V × PyData
def leD (a b : VD) : Bool := PySem.W.dataLe false (fun x : VD => x.2) a b
def rSortD (K : PySem.W.Frag) : List V → Hp → VK → Prop := fun vs H Q => ∃ (a : Addr) (bs : List VD), vs = [.ref a] ∧ SqL K H a (bs.map (·.1)) ∧ (∀ b ∈ bs, Dp K H b.1 b.2) ∧ PySem.W.AllAlike (bs.map (·.2)) ∧ PySem.W.Sortable (bs.map (·.2)) ∧ (∀ b ∈ bs, b.2.depth ≤ 60) ∧
  ∀ p, H p = none → Q (.ref p) (upd H p (.lst ((bs.mergeSort leD).map (·.1))))
section
variable {X : Cx}
theorem each_rel : ∀ {bs : List VD} {its : List Value}, Vals (bs.map (·.1)) its → PySem.W.EachIs (fun (v : Value) (b : VD) => RelV b.1 v) its bs
  | [], _, h => by cases h; exact .nil
  | b :: bs, _, h => by
    cases h with
    | cons r t => exact .cons r (each_rel t)
theorem rel_each : ∀ {bs : List VD} {its : List Value}, PySem.W.EachIs (fun (v : Value) (b : VD) => RelV b.1 v) its bs → Vals (bs.map (·.1)) its
  | [], _, h => by cases h; exact .nil
  | b :: bs, _, h => by
    cases h with
    | cons r t => exact .cons r (rel_each t)
theorem each_reads {pins : List (Addr × Obj)} {σ : L2.St} {H : Hp} {s : Shared} (I : Inv X pins σ H s) : ∀ {bs : List VD} {its : List Value}, Vals (bs.map (·.1)) its → (∀ b ∈ bs, Dp X.K H b.1 b.2) → PySem.W.EachIs (fun (v : Value) (b : VD) => ∃ as, Reads s.heap v b.2 as) its bs
  | [], _, h, _ => by cases h; exact .nil
  | b :: bs, _, h, d => by
    cases h with
    | cons r t => exact .cons (Dp.reads I _ _ _ (d b List.mem_cons_self) r) (each_reads I t fun x hx => d x (List.mem_cons_of_mem _ hx))
theorem cr_sortD (hu : X.A.units + 64 < cLine) : CallR X (.builtin "sorted") (rSortD X.K) := by
  intro pins s σ H vs us Q I r h
  obtain ⟨a, bs, rfl, hs, hd, hal, hk, hdep, q⟩ := h
  obtain ⟨its, rv, hl, hz⟩ := I.list hs
  rw [Vals.ref1 r]
  rw [List.length_map] at hz
  refine PySem.W.sorted_data (enc := fun x : VD => x.2) (vs := its) hl.isList (each_rel rv) (each_reads I rv hd) hal hk hz (fun b hb => by have := hdep b hb; show X.A.units + 2 + b.2.depth < cLine; omega) fun out h1 h2 => ?_
  obtain ⟨ep, he'⟩ := PyProof.Rows.sortedAll_at s.heap its out.toArray
  have hlen : ((bs.mergeSort leD).map (·.1)).length ≤ sizeLine := by
    rw [List.length_map, List.length_mergeSort]
    exact hz
  exact ⟨.ref _, upd H (s.heap.objs.size + 1) (.lst ((bs.mergeSort leD).map (·.1))), I.laid (t' := s.toks) (fun _ _ => PyProof.Rows.sortedAll_old) (Nat.le_succ _) ⟨hlen, out, ep, rel_each h2, he'⟩, rfl, q _ (I.hok.fresh (Nat.le_succ _))⟩
end
end Ws

/-! Beginnings of piles: the dict's mirror, and how sorted piles count them. -/
namespace Wk
open PySem PySem.Spec PyProof.Rows L2 Wp Wq Wr Wd
def ins (T : List (List W)) (q : List W) : List (List W) := if q ∈ T then T else T ++ [q]
def begs (p : List W) (j : Nat) : List (List W) := (List.range j).map fun n => p.take (n + 1)
def insPile (T : List (List W)) (p : List W) : List (List W) := (begs p p.length).foldl ins T
def trie (ps : List (List W)) : List (List W) := ps.foldl insPile []
theorem begs_succ (p : List W) (j : Nat) : begs p (j + 1) = begs p j ++ [p.take (j + 1)] := by
  unfold begs
  rw [List.range_succ, List.map_append] <;> rfl
theorem mem_ins {T : List (List W)} {q x : List W} : x ∈ ins T q ↔ x ∈ T ∨ x = q := by
  unfold ins
  split
  · rename_i h
    exact ⟨.inl, fun k => k.elim id fun e => e ▸ h⟩
  · rw [List.mem_append, List.mem_singleton]
theorem mem_foldl {x : List W} : ∀ {qs T : List (List W)}, x ∈ qs.foldl ins T ↔ x ∈ T ∨ x ∈ qs
  | [], T => by simp
  | q :: qs, T => by
    rw [List.foldl_cons, mem_foldl (qs := qs), mem_ins, List.mem_cons]
    exact ⟨fun h => by rcases h with (h | h) | h <;> simp [h], fun h => by rcases h with h | h | h <;> simp [h]⟩
theorem mem_begs {p x : List W} {j : Nat} : x ∈ begs p j ↔ ∃ n, n < j ∧ x = p.take (n + 1) := by
  unfold begs
  rw [List.mem_map]
  exact ⟨fun ⟨n, h, e⟩ => ⟨n, List.mem_range.mp h, e.symm⟩, fun ⟨n, h, e⟩ => ⟨n, List.mem_range.mpr h, e.symm⟩⟩
theorem mem_insPile {T : List (List W)} {p x : List W} : x ∈ insPile T p ↔ x ∈ T ∨ ∃ n, n < p.length ∧ x = p.take (n + 1) := by
  unfold insPile
  rw [mem_foldl, mem_begs]
theorem mem_trie' {x : List W} : ∀ {ps T : List (List W)}, x ∈ ps.foldl insPile T ↔ x ∈ T ∨ ∃ p ∈ ps, ∃ n, n < p.length ∧ x = p.take (n + 1)
  | [], T => by simp
  | p :: ps, T => by
    rw [List.foldl_cons, mem_trie' (ps := ps), mem_insPile]
    constructor
    · rintro ((h | ⟨n, h1, h2⟩) | ⟨p', hp, n, h1, h2⟩)
      · exact .inl h
      · exact .inr ⟨p, List.mem_cons_self, n, h1, h2⟩
      · exact .inr ⟨p', List.mem_cons_of_mem _ hp, n, h1, h2⟩
    · rintro (h | ⟨p', hp, n, h1, h2⟩)
      · exact .inl (.inl h)
      · rcases List.mem_cons.mp hp with rfl | hp
        · exact .inl (.inr ⟨n, h1, h2⟩)
        · exact .inr ⟨p', hp, n, h1, h2⟩
theorem mem_trie {x : List W} {ps : List (List W)} : x ∈ trie ps ↔ ∃ p ∈ ps, ∃ n, n < p.length ∧ x = p.take (n + 1) := by
  unfold trie
  rw [mem_trie']
  simp
theorem ins_old {T : List (List W)} {q : List W} (h : q ∈ T) : ins T q = T := if_pos h
theorem ins_new {T : List (List W)} {q : List W} (h : q ∉ T) : ins T q = T ++ [q] := if_neg h
theorem ins_nodup {T : List (List W)} {q : List W} (h : T.Nodup) : (ins T q).Nodup := by
  unfold ins
  split
  · exact h
  · rename_i c
    rw [List.nodup_append]
    refine ⟨h, List.nodup_cons.mpr ⟨List.not_mem_nil, List.nodup_nil⟩, fun a ha b hb e => c ?_⟩
    rw [List.mem_singleton] at hb
    rw [← hb, ← e]
    exact ha
theorem foldl_nodup : ∀ {qs T : List (List W)}, T.Nodup → (qs.foldl ins T).Nodup
  | [], _, h => h
  | q :: qs, _, h => foldl_nodup (qs := qs) (ins_nodup h)
theorem trie_nodup' : ∀ {ps T : List (List W)}, T.Nodup → (ps.foldl insPile T).Nodup
  | [], _, h => h
  | p :: ps, _, h => trie_nodup' (ps := ps) (foldl_nodup h)
theorem trie_nodup (ps : List (List W)) : (trie ps).Nodup := trie_nodup' List.nodup_nil
/-- only which piles there are counts -/
theorem trie_len_perm {ps qs : List (List W)} (h : ∀ p, p ∈ ps ↔ p ∈ qs) : (trie ps).length = (trie qs).length := by
  refine ((List.perm_ext_iff_of_nodup (trie_nodup ps) (trie_nodup qs)).mpr fun x => ?_).length_eq
  rw [mem_trie, mem_trie]
  exact ⟨fun ⟨p, hp, r⟩ => ⟨p, (h p).mp hp, r⟩, fun ⟨p, hp, r⟩ => ⟨p, (h p).mpr hp, r⟩⟩
/-! ### sorted piles -/
def lcp : List W → List W → Nat
  | x :: xs, y :: ys => if x = y then lcp xs ys + 1 else 0
  | _, _ => 0
theorem lcp_cons (x y : W) (xs ys : List W) : lcp (x :: xs) (y :: ys) = if x = y then lcp xs ys + 1 else 0 := rfl
theorem lcp_le : ∀ (a b : List W), lcp a b ≤ b.length ∧ lcp a b ≤ a.length
  | [], b => by unfold lcp; exact ⟨Nat.zero_le _, Nat.zero_le _⟩
  | x :: xs, [] => by unfold lcp; exact ⟨Nat.zero_le _, Nat.zero_le _⟩
  | x :: xs, y :: ys => by
    have h := lcp_le xs ys
    rw [lcp_cons]
    split
    · rw [List.length_cons, List.length_cons]; omega
    · exact ⟨Nat.zero_le _, Nat.zero_le _⟩
theorem take_pre : ∀ (a b : List W) (n : Nat), n ≤ b.length → (b.take n <+: a ↔ n ≤ lcp a b)
  | a, b, 0, _ => by simp
  | [], y :: ys, n + 1, h => by
    rw [List.take_succ_cons]
    unfold lcp
    simp
  | x :: xs, y :: ys, n + 1, h => by
    rw [List.take_succ_cons, List.cons_prefix_cons, take_pre xs ys n (by rw [List.length_cons] at h; omega), lcp_cons]
    by_cases e : x = y
    · subst e
      rw [if_pos rfl]
      simp
    · rw [if_neg e]
      constructor
      · rintro ⟨e2, _⟩
        exact absurd e2.symm e
      · intro q
        omega
  | a, [], n + 1, h => by simp at h
theorem lcp_nil (b : List W) : lcp [] b = 0 := by unfold lcp; rfl
/-- how many are new -/
theorem insPile_len {T : List (List W)} {p : List W} {m : Nat} (hm : m ≤ p.length) (h : ∀ n, n < p.length → (p.take (n + 1) ∈ T ↔ n + 1 ≤ m)) : (insPile T p).length = T.length + (p.length - m) := by
  unfold insPile
  have go : ∀ j, j ≤ p.length → ((begs p j).foldl ins T).length = T.length + (j - m) := by
    intro j
    induction j with
    | zero => intro _; unfold begs; simp
    | succ j ih =>
      intro hj
      have ih := ih (by omega)
      rw [begs_succ, List.foldl_append]
      show (ins ((begs p j).foldl ins T) (p.take (j + 1))).length = _
      have mem : p.take (j + 1) ∈ (begs p j).foldl ins T ↔ j + 1 ≤ m := by
        rw [mem_foldl, mem_begs, h j (by omega)]
        constructor
        · rintro (q | ⟨n, hn, e⟩)
          · exact q
          · have := congrArg List.length e
            rw [List.length_take, List.length_take] at this
            omega
        · exact .inl
      by_cases c : p.take (j + 1) ∈ (begs p j).foldl ins T
      · have := mem.mp c
        rw [ins_old c]
        omega
      · have : ¬ j + 1 ≤ m := fun q => c (mem.mpr q)
        rw [ins_new c, List.length_append]
        show _ + 1 = _
        omega
  exact go _ (Nat.le_refl _)
def ltW (x y : W) : Bool := PySem.W.dataLt (wD x) (wD y)
def ltR (x y : List W) : Bool := PySem.W.rowLt (x.map wD) (y.map wD)
theorem alikeW (x y : W) : PySem.W.alike (wD x) (wD y) = true := by
  unfold wD
  simp [PySem.W.alike, PySem.W.alikeAll]
theorem ltR_nil (y : W) (ys : List W) : ltR [] (y :: ys) = true := by
  unfold ltR PySem.W.rowLt
  rw [List.map_nil, List.map_cons, PySem.W.toks_all_cons]
  simp only [PySem.W.keyToksAll]
  rw [lex_diff (O := itemOrd) (by simp)]
  rfl
theorem ltR_cons (x y : W) (xs ys : List W) : ltR (x :: xs) (y :: ys) = if x = y then ltR xs ys else ltW x y := by
  unfold ltR PySem.W.rowLt
  rw [List.map_cons, List.map_cons, PySem.W.dataLt_cons (alikeW x y), wD_eqv]
  by_cases e : x = y
  · rw [if_pos (decide_eq_true e), if_pos e]
  · rw [if_neg (by rw [decide_eq_false e]; exact Bool.false_ne_true), if_neg e]
    rfl
theorem ltW_tri {x y : W} (h : x ≠ y) (h1 : ltW x y = false) : ltW y x = true := by
  obtain ⟨s, n⟩ := x
  obtain ⟨t, m⟩ := y
  unfold ltW wD at *
  rw [PySem.W.dataLt_pair (by simp [PySem.W.alike]) (by simp [PySem.W.alike])] at *
  simp only [PyData.eqv, PySem.W.dataLt_str, PySem.W.dataLt_int, beq_iff_eq] at *
  by_cases e : s = t
  · subst e
    rw [if_pos rfl] at *
    by_cases e2 : n = m
    · subst e2
      exact absurd rfl h
    · rw [if_neg e2] at h1
      rw [if_neg (fun q => e2 q.symm)]
      rw [decide_eq_false_iff_not] at h1
      rw [decide_eq_true_eq]
      omega
  · rw [if_neg e] at h1
    rw [if_neg (fun q => e q.symm)]
    rw [decide_eq_false_iff_not] at h1
    rw [decide_eq_true_eq]
    by_cases q : t.cps.toList < s.cps.toList
    · exact q
    · exact absurd (Str.ext' (Array.toList_inj.mp (List.le_antisymm (List.not_lt.mp q) (List.not_lt.mp h1)))) e
/-- a beginning of the one ahead and of the one behind is one of those between -/
theorem mid_pre : ∀ {q a b c : List W}, ltR b a = false → ltR c b = false → q <+: a → q <+: c → q <+: b
  | [], _, _, _, _, _, _, _ => List.nil_prefix
  | z :: q, a, b, c, h1, h2, pa, pc => by
    cases a with
    | nil => simp at pa
    | cons x xs =>
      cases c with
      | nil => simp at pc
      | cons y ys =>
        rw [List.cons_prefix_cons] at pa pc
        obtain ⟨rfl, pa⟩ := pa
        obtain ⟨rfl, pc⟩ := pc
        cases b with
        | nil => rw [ltR_nil] at h1; cases h1
        | cons w ws =>
          rw [ltR_cons] at h1 h2
          by_cases e : w = z
          · subst e
            rw [if_pos rfl] at h1 h2
            rw [List.cons_prefix_cons]
            exact ⟨rfl, mid_pre h1 h2 pa pc⟩
          · rw [if_neg e] at h1
            rw [if_neg (fun q => e q.symm)] at h2
            rw [ltW_tri e h1] at h2
            cases h2
theorem ltR_irrefl (a : List W) : ltR a a = false := lex_irrefl _
/-- as the law counts -/
def sumL : List W → List (List W) → Nat
  | _, [] => 0
  | prev, p :: ps => (p.length - lcp prev p) + sumL p ps
theorem trie_snoc (l : List (List W)) (p : List W) : trie (l ++ [p]) = insPile (trie l) p := by
  unfold trie
  rw [List.foldl_append] <;> rfl
theorem trie_step {l : List (List W)} {prev p : List W} (hl : (l = [] ∧ prev = []) ∨ (prev ∈ l ∧ ∀ a ∈ l, ltR prev a = false)) (hp : ltR p prev = false) :
    (trie (l ++ [p])).length = (trie l).length + (p.length - lcp prev p) := by
  rw [trie_snoc]
  refine insPile_len (lcp_le prev p).1 fun n hn => ?_
  rw [mem_trie, ← take_pre prev p (n + 1) hn]
  constructor
  · rintro ⟨a, ha, k, hk, e⟩
    have e2 : p.take (n + 1) <+: a := by rw [e]; exact List.take_prefix _ _
    rcases hl with ⟨rfl, _⟩ | ⟨_, hl⟩
    · cases ha
    · exact mid_pre (hl a ha) hp e2 (List.take_prefix _ _)
  · intro h
    rcases hl with ⟨_, rfl⟩ | ⟨hm, _⟩
    · have := List.prefix_nil.mp h
      have := congrArg List.length this
      rw [List.length_take, List.length_nil] at this
      omega
    · refine ⟨prev, hm, n, ?_, ?_⟩
      · have := h.length_le
        rw [List.length_take] at this
        omega
      · have e := List.prefix_iff_eq_take.mp h
        rw [List.length_take, Nat.min_eq_left (by omega)] at e
        exact e
theorem sum_trie : ∀ {r l : List (List W)} {prev : List W}, ((l = [] ∧ prev = []) ∨ (prev ∈ l ∧ ∀ a ∈ l, ltR prev a = false)) → (l ++ r).Pairwise (fun a b => ltR b a = false) → (∀ p ∈ r, ltR p prev = false) →
    (trie (l ++ r)).length = (trie l).length + sumL prev r
  | [], l, prev, _, _, _ => by rw [List.append_nil]; rfl
  | p :: r, l, prev, hl, hs, hr => by
    have hp := hr p List.mem_cons_self
    have h1 := trie_step hl hp
    have es : l ++ p :: r = (l ++ [p]) ++ r := by rw [List.append_assoc] <;> rfl
    rw [es] at hs ⊢
    have hs' := List.pairwise_append.mp hs
    have hs2 := List.pairwise_append.mp hs'.1
    rw [sum_trie (l := l ++ [p]) (prev := p) (.inr ⟨List.mem_append_right _ List.mem_cons_self, fun a ha => ?_⟩) hs fun q hq => hs'.2.2 p (List.mem_append_right _ List.mem_cons_self) q hq, h1]
    · show _ + _ + _ = _ + ((p.length - lcp prev p) + sumL p r)
      omega
    · rcases List.mem_append.mp ha with ha | ha
      · exact hs2.2.2 a ha p List.mem_cons_self
      · rw [List.mem_singleton.mp ha]
        exact ltR_irrefl p
theorem ltR_nil_r (p : List W) : ltR p [] = false := by
  cases p with
  | nil => exact ltR_irrefl _
  | cons x xs =>
    unfold ltR PySem.W.rowLt
    rw [List.map_nil, List.map_cons, PySem.W.toks_all_cons]
    simp only [PySem.W.keyToksAll]
    rw [lex_diff (O := itemOrd) (by simp)]
    rfl
theorem sorted_sum {ps qs : List (List W)} (hp : qs.Perm ps) (hs : qs.Pairwise (fun a b => ltR b a = false)) : sumL [] qs = (trie ps).length := by
  have h := sum_trie (r := qs) (l := []) (prev := []) (.inl ⟨rfl, rfl⟩) hs (fun p _ => ltR_nil_r p)
  rw [trie_len_perm (ps := ps) (qs := qs) (fun p => hp.symm.mem_iff)]
  rw [List.nil_append] at h
  rw [h]
  show _ = 0 + _
  omega
end Wk

/-! The program's dict of beginnings, as a mirror of the trie. -/
namespace Wk
open PySem PySem.Spec PyProof.Rows L2 Wp Wq Wr Wd
def numOf (T : List (List W)) (q : List W) : Nat := if q = [] then 0 else T.idxOf q + 1
def lastW (q : List W) : W := q.getLast?.getD (Str.empty, 0)
def entT (T : List (List W)) (q : List W) : KW × V := ((((numOf T q.dropLast : Nat) : Int), lastW q), V.int ((numOf T q : Nat) : Int))
def kvsT (T : List (List W)) : List (KW × V) := T.map (entT T)
structure TOk (T : List (List W)) : Prop where
  nd : T.Nodup
  ne : ∀ q ∈ T, q ≠ []
  cl : ∀ q ∈ T, q.dropLast = [] ∨ q.dropLast ∈ T
theorem TOk.nil : TOk [] := ⟨List.nodup_nil, (fun _ h => nomatch h), (fun _ h => nomatch h)⟩
theorem numOf_nil (T : List (List W)) : numOf T [] = 0 := if_pos rfl
theorem numOf_mem {T : List (List W)} {q : List W} (h : q ≠ []) : numOf T q = T.idxOf q + 1 := if_neg h
theorem numOf_inj {T : List (List W)} {a b : List W} (ha : a = [] ∨ a ∈ T) (hb : b = [] ∨ b ∈ T) (e : numOf T a = numOf T b) : a = b := by
  by_cases ca : a = []
  · by_cases cb : b = []
    · rw [ca, cb]
    · rw [ca, numOf_nil, numOf_mem cb] at e
      omega
  · by_cases cb : b = []
    · rw [cb, numOf_nil, numOf_mem ca] at e
      omega
    · rw [numOf_mem ca, numOf_mem cb] at e
      have ha := ha.resolve_left ca
      have hb := hb.resolve_left cb
      have h1 := List.getElem_idxOf (List.idxOf_lt_length_of_mem ha)
      have h2 := List.getElem_idxOf (List.idxOf_lt_length_of_mem hb)
      have e' : T.idxOf a = T.idxOf b := by omega
      rw [← h1, ← h2]
      simp only [e']
theorem numOf_app {T : List (List W)} {q x : List W} (h : q = [] ∨ q ∈ T) : numOf (T ++ [x]) q = numOf T q := by
  by_cases c : q = []
  · rw [c, numOf_nil, numOf_nil]
  · have h := h.resolve_left c
    rw [numOf_mem c, numOf_mem c, List.idxOf_append, if_pos h]
theorem numOf_new {T : List (List W)} {x : List W} (h : x ∉ T) (c : x ≠ []) : numOf (T ++ [x]) x = T.length + 1 := by
  rw [numOf_mem c, List.idxOf_append, if_neg h]
  simp
theorem lastW_app (p : List W) (z : W) : lastW (p ++ [z]) = z := by
  unfold lastW
  simp
theorem drop_last {q : List W} (h : q ≠ []) : q.dropLast ++ [lastW q] = q := by
  have e := List.dropLast_concat_getLast h
  unfold lastW
  rw [List.getLast?_eq_some_getLast h]
  exact e
theorem valV_none {T : List (List W)} {f : List W → KW × V} {k : KW} (h : ∀ q ∈ T, (f q).1 ≠ k) : valV (T.map f) k = none := by
  induction T with
  | nil => rfl
  | cons q T ih =>
    rw [List.map_cons, valV_neg (h q List.mem_cons_self)]
    exact ih fun x hx => h x (List.mem_cons_of_mem _ hx)
theorem valV_some {T : List (List W)} {f : List W → KW × V} {k : KW} {q : List W} (hq : q ∈ T) (h : ∀ x ∈ T, (f x).1 = k ↔ x = q) : valV (T.map f) k = some (f q).2 := by
  induction T with
  | nil => cases hq
  | cons x T ih =>
    rw [List.map_cons]
    by_cases c : (f x).1 = k
    · have e := (h x List.mem_cons_self).mp c
      subst e
      exact valV_pos c
    · rw [valV_neg c]
      have hx : q ∈ T := by
        rcases List.mem_cons.mp hq with e | e
        · subst e
          exact absurd ((h q List.mem_cons_self).mpr rfl) c
        · exact e
      exact ih hx fun y hy => h y (List.mem_cons_of_mem _ hy)
theorem key_iff {T : List (List W)} (h : TOk T) {p q : List W} {z : W} (hp : p = [] ∨ p ∈ T) (hq : q ∈ T) : (entT T q).1 = (((numOf T p : Nat) : Int), z) ↔ q = p ++ [z] := by
  constructor
  · intro e
    have e1 : ((numOf T q.dropLast : Nat) : Int) = ((numOf T p : Nat) : Int) := congrArg Prod.fst e
    have e2 : lastW q = z := congrArg Prod.snd e
    have e3 := numOf_inj (h.cl q hq) hp (by omega)
    rw [← drop_last (h.ne q hq), e3, e2]
  · rintro rfl
    unfold entT
    rw [List.dropLast_concat, lastW_app]
theorem step_old {T : List (List W)} (h : TOk T) {p : List W} {z : W} (hp : p = [] ∨ p ∈ T) (hq : p ++ [z] ∈ T) : valV (kvsT T) (((numOf T p : Nat) : Int), z) = some (.int ((numOf T (p ++ [z]) : Nat) : Int)) :=
  valV_some hq fun x hx => key_iff h hp hx
theorem step_none {T : List (List W)} (h : TOk T) {p : List W} {z : W} (hp : p = [] ∨ p ∈ T) (hq : p ++ [z] ∉ T) : valV (kvsT T) (((numOf T p : Nat) : Int), z) = none :=
  valV_none fun x hx e => hq (by rw [← (key_iff h hp hx).mp e]; exact hx)
theorem step_new {T : List (List W)} (h : TOk T) {p : List W} {z : W} (hp : p = [] ∨ p ∈ T) (hq : p ++ [z] ∉ T) : kvsT (T ++ [p ++ [z]]) = kvsT T ++ [((((numOf T p : Nat) : Int), z), .int ((T.length + 1 : Nat) : Int))] := by
  unfold kvsT
  rw [List.map_append]
  congr 1
  · refine List.map_congr_left fun q hm => ?_
    unfold entT
    rw [numOf_app (h.cl q hm), numOf_app (.inr hm)]
  · rw [List.map_cons, List.map_nil]
    unfold entT
    rw [List.dropLast_concat, lastW_app, numOf_app hp, numOf_new hq (by simp)]
theorem TOk.app {T : List (List W)} (h : TOk T) {p : List W} {z : W} (hp : p = [] ∨ p ∈ T) (hq : p ++ [z] ∉ T) : TOk (T ++ [p ++ [z]]) := by
  refine ⟨?_, fun q hm => ?_, fun q hm => ?_⟩
  · have := ins_nodup (q := p ++ [z]) h.nd
    rw [ins_new hq] at this
    exact this
  · rcases List.mem_append.mp hm with hm | hm
    · exact h.ne q hm
    · rw [List.mem_singleton.mp hm]; simp
  · rcases List.mem_append.mp hm with hm | hm
    · rcases h.cl q hm with e | e
      · exact .inl e
      · exact .inr (List.mem_append_left _ e)
    · rw [List.mem_singleton.mp hm, List.dropLast_concat]
      rcases hp with e | e
      · exact .inl e
      · exact .inr (List.mem_append_left _ e)
/-- the trie behind j worths of a pile -/
def at_ (T : List (List W)) (p : List W) (j : Nat) : List (List W) := (begs p j).foldl ins T
theorem at_zero (T : List (List W)) (p : List W) : at_ T p 0 = T := rfl
theorem at_succ {T : List (List W)} {p : List W} {j : Nat} {z : W} (h : p[j]? = some z) : at_ T p (j + 1) = ins (at_ T p j) (p.take j ++ [z]) := by
  unfold at_
  rw [begs_succ, List.foldl_append, List.take_add_one, h]
  rfl
theorem at_len (T : List (List W)) (p : List W) : at_ T p p.length = insPile T p := rfl
theorem at_here {T : List (List W)} {p : List W} {j : Nat} (hj : j ≤ p.length) : p.take j = [] ∨ p.take j ∈ at_ T p j := by
  cases j with
  | zero => exact .inl (List.take_zero)
  | succ j =>
    refine .inr ?_
    unfold at_
    rw [mem_foldl, mem_begs]
    exact .inr ⟨j, Nat.lt_succ_self _, rfl⟩
theorem at_ok {T : List (List W)} {p : List W} (h : TOk T) : ∀ j, j ≤ p.length → TOk (at_ T p j)
  | 0, _ => h
  | j + 1, hj => by
    have ih := at_ok (p := p) h j (by omega)
    obtain ⟨z, hz⟩ : ∃ z, p[j]? = some z := ⟨p[j]'(by omega), List.getElem?_eq_getElem (by omega)⟩
    rw [at_succ hz]
    by_cases c : p.take j ++ [z] ∈ at_ T p j
    · rw [ins_old c]; exact ih
    · rw [ins_new c]; exact ih.app (at_here (T := T) (p := p) (j := j) (by omega)) c
theorem trie_ok' : ∀ {ps T : List (List W)}, TOk T → TOk (ps.foldl insPile T)
  | [], _, h => h
  | p :: ps, _, h => trie_ok' (ps := ps) (at_ok h p.length (Nat.le_refl _))
theorem trie_ok (ps : List (List W)) : TOk (trie ps) := trie_ok' TOk.nil
theorem at_size {T : List (List W)} {p : List W} : ∀ j, (at_ T p j).length ≤ T.length + j
  | 0 => Nat.le_refl _
  | j + 1 => by
    have ih := at_size (T := T) (p := p) j
    unfold at_ at *
    rw [begs_succ, List.foldl_append]
    show (ins ((begs p j).foldl ins T) (p.take (j + 1))).length ≤ _
    by_cases c : p.take (j + 1) ∈ (begs p j).foldl ins T
    · rw [ins_old c]; omega
    · rw [ins_new c, List.length_append]
      show _ + 1 ≤ _
      omega
theorem trie_size : ∀ {ps T : List (List W)} {m : Nat}, (∀ p ∈ ps, p.length ≤ m) → (ps.foldl insPile T).length ≤ T.length + ps.length * m
  | [], T, m, _ => by simp
  | p :: ps, T, m, h => by
    have h1 := at_size (T := T) (p := p) p.length
    have h2 := trie_size (ps := ps) (T := insPile T p) (m := m) (fun q hq => h q (List.mem_cons_of_mem _ hq))
    have h3 := h p List.mem_cons_self
    rw [at_len] at h1
    rw [List.foldl_cons, List.length_cons, Nat.succ_mul]
    omega
end Wk

/-! A raw paper numbered as its pieces are come to. -/
namespace Wn
open PySem PySem.Spec PyProof.Rows L2 Wp Wq Wr
def pcAt (R : List Pc) (a : Int) : Pc := R.getD a.toNat (-1, [])
def walkM (R : List Pc) : Nat → List Int → Int → List Int
  | 0, o, _ => o
  | f + 1, o, a => if a = -1 ∨ a ∈ o then o else walkM R f (o ++ [a]) (pcAt R a).1
def orderM (R : List Pc) (tops : List Int) : List Int := tops.foldl (fun o t => walkM R (t + 1).toNat o t) []
def placeM (o : List Int) (a : Int) : Int := if a = -1 then -1 else (o.idxOf a : Int)
def numberedM (R : List Pc) (tops : List Int) : Pap := ((orderM R tops).map fun a => (placeM (orderM R tops) (pcAt R a).1, (pcAt R a).2), tops.map (placeM (orderM R tops)))
theorem pcAt_some {R : List Pc} {a : Int} (h0 : 0 ≤ a) (h1 : a < R.length) : R[a.toNat]? = some (pcAt R a) := by
  have h : a.toNat < R.length := by omega
  unfold pcAt
  rw [List.getD_eq_getElem?_getD, List.getElem?_eq_getElem h] <;> rfl
theorem pcAt_ok {size : Int} {R : List Pc} (ok : RawOk size R) {a : Int} (h0 : 0 ≤ a) (h1 : a < R.length) : -1 ≤ (pcAt R a).1 ∧ (pcAt R a).1 < a ∧ 1 ≤ (pcAt R a).2.length ∧ ((pcAt R a).2.length : Int) ≤ size ∧ ∀ z ∈ (pcAt R a).2, Wok z := by
  have := ok a.toNat _ (pcAt_some h0 h1)
  obtain ⟨x1, x2, x3, x4, x5⟩ := this
  exact ⟨x1, by omega, x3, x4, x5⟩
section
variable {size : Int} {R : List Pc}
theorem walk_two (ok : RawOk size R) : ∀ (f g : Nat) (o : List Int) (a : Int), -1 ≤ a → a < R.length → (a + 1).toNat ≤ f → (a + 1).toNat ≤ g → walkM R f o a = walkM R g o a := by
  intro f
  induction f with
  | zero =>
    intro g o a h0 h1 hf hg
    have c : a = -1 := by omega
    cases g with
    | zero => rfl
    | succ g =>
      show o = (if a = -1 ∨ a ∈ o then o else _)
      rw [if_pos (.inl c)]
  | succ f ih =>
    intro g o a h0 h1 hf hg
    show (if a = -1 ∨ a ∈ o then o else walkM R f (o ++ [a]) (pcAt R a).1) = walkM R g o a
    by_cases c2 : a = -1 ∨ a ∈ o
    · rw [if_pos c2]
      cases g with
      | zero => rfl
      | succ g =>
        show o = (if a = -1 ∨ a ∈ o then o else _)
        rw [if_pos c2]
    · rw [if_neg c2]
      have c : a ≠ -1 := fun e => c2 (.inl e)
      obtain ⟨m, rfl⟩ : ∃ m, g = m + 1 := ⟨g - 1, by omega⟩
      show _ = (if a = -1 ∨ a ∈ o then o else walkM R m (o ++ [a]) (pcAt R a).1)
      rw [if_neg c2]
      obtain ⟨u0, u1, _⟩ := pcAt_ok ok (a := a) (by omega) h1
      exact ih m _ _ u0 (by omega) (by omega) (by omega)
/-- one turn -/
theorem walk_step (ok : RawOk size R) {o : List Int} {a : Int} (h0 : -1 ≤ a) (h1 : a < R.length) (c : a ≠ -1) (n : a ∉ o) :
    walkM R (a + 1).toNat o a = walkM R ((pcAt R a).1 + 1).toNat (o ++ [a]) (pcAt R a).1 := by
  obtain ⟨m, hm⟩ : ∃ m, (a + 1).toNat = m + 1 := ⟨a.toNat, by omega⟩
  rw [hm]
  show (if a = -1 ∨ a ∈ o then o else walkM R m (o ++ [a]) (pcAt R a).1) = _
  rw [if_neg (fun h => h.elim c n)]
  obtain ⟨u0, u1, _⟩ := pcAt_ok ok (a := a) (by omega) h1
  exact walk_two ok _ _ _ _ u0 (by omega) (by omega) (Nat.le_refl _)
theorem walk_end {f : Nat} {o : List Int} {a : Int} (c : a = -1 ∨ a ∈ o) : walkM R f o a = o := by
  cases f with
  | zero => rfl
  | succ f =>
    show (if a = -1 ∨ a ∈ o then o else _) = o
    rw [if_pos c]
/-- what a walk keeps and reaches -/
structure OrdOk (R : List Pc) (o : List Int) : Prop where
  rng : ∀ a ∈ o, 0 ≤ a ∧ a < R.length
  nd : o.Nodup
theorem OrdOk.app {o : List Int} {a : Int} (h : OrdOk R o) (h0 : 0 ≤ a) (h1 : a < R.length) (n : a ∉ o) : OrdOk R (o ++ [a]) := by
  refine ⟨fun x hx => ?_, ?_⟩
  · rcases List.mem_append.mp hx with hx | hx
    · exact h.rng x hx
    · rw [List.mem_singleton.mp hx]; exact ⟨h0, h1⟩
  · rw [List.nodup_append]
    refine ⟨h.nd, List.nodup_cons.mpr ⟨List.not_mem_nil, List.nodup_nil⟩, fun x hx y hy e => ?_⟩
    rw [List.mem_singleton.mp hy] at e
    exact n (e ▸ hx)
theorem OrdOk.nil : OrdOk R [] := ⟨(fun _ h => nomatch h), List.nodup_nil⟩
theorem nodup_bound : ∀ {n : Nat} {o : List Int}, o.Nodup → (∀ a ∈ o, 0 ≤ a ∧ a < n) → o.length ≤ n
  | 0, o, _, h => by
    cases o with
    | nil => exact Nat.le_refl _
    | cons a r => have := h a List.mem_cons_self; omega
  | n + 1, o, nd, h => by
    by_cases c : (n : Int) ∈ o
    · have e := List.length_erase_of_mem c
      have q := nodup_bound (n := n) (nd.erase (n : Int)) fun a ha => by
        have h2 := (List.Nodup.mem_erase_iff nd).mp ha
        have h3 := h a h2.2
        have h4 := h2.1
        omega
      omega
    · have q := nodup_bound (n := n) nd fun a ha => by
        have h3 := h a ha
        have h4 : a ≠ n := fun e => c (e ▸ ha)
        omega
      omega
def Near (R : List Pc) (o : List Int) (x : Int) : Prop := ∀ a ∈ o, (pcAt R a).1 = -1 ∨ (pcAt R a).1 ∈ o ∨ (pcAt R a).1 = x
theorem walk_all (ok : RawOk size R) : ∀ (f : Nat) (o : List Int) (a : Int), -1 ≤ a → a < R.length → (a + 1).toNat ≤ f → OrdOk R o → Near R o a →
    OrdOk R (walkM R f o a) ∧ Near R (walkM R f o a) (-1) ∧ (∃ m, walkM R f o a = o ++ m) ∧ (a = -1 ∨ a ∈ walkM R f o a) := by
  intro f
  induction f with
  | zero =>
    intro o a h0 h1 hf ho hn
    have c : a = -1 := by omega
    subst c
    exact ⟨ho, hn, ⟨[], (List.append_nil _).symm⟩, .inl rfl⟩
  | succ f ih =>
    intro o a h0 h1 hf ho hn
    by_cases c2 : a = -1 ∨ a ∈ o
    · rw [walk_end c2]
      refine ⟨ho, fun x hx => ?_, ⟨[], (List.append_nil _).symm⟩, c2⟩
      rcases hn x hx with q | q | q
      · exact .inl q
      · exact .inr (.inl q)
      · rcases c2 with c | c
        · exact .inl (q.trans c)
        · exact .inr (.inl (q ▸ c))
    · have c : a ≠ -1 := fun e => c2 (.inl e)
      have n : a ∉ o := fun e => c2 (.inr e)
      obtain ⟨u0, u1, _⟩ := pcAt_ok ok (a := a) (by omega) h1
      have hn2 : Near R (o ++ [a]) (pcAt R a).1 := by
        intro x hx
        rcases List.mem_append.mp hx with hx | hx
        · rcases hn x hx with q | q | q
          · exact .inl q
          · exact .inr (.inl (List.mem_append_left _ q))
          · exact .inr (.inl (List.mem_append_right _ (q ▸ List.mem_cons_self)))
        · rw [List.mem_singleton.mp hx]
          exact .inr (.inr rfl)
      have h := ih (o ++ [a]) (pcAt R a).1 u0 (by omega) (by omega) (ho.app (by omega) h1 n) hn2
      have e : walkM R (f + 1) o a = walkM R f (o ++ [a]) (pcAt R a).1 := by
        show (if a = -1 ∨ a ∈ o then o else _) = _
        rw [if_neg c2]
      rw [e]
      obtain ⟨q1, q2, ⟨m, q3⟩, q4⟩ := h
      refine ⟨q1, q2, ⟨a :: m, by rw [q3, List.append_assoc] <;> rfl⟩, .inr ?_⟩
      rw [q3]
      exact List.mem_append_left _ (List.mem_append_right _ List.mem_cons_self)
theorem fold_all (ok : RawOk size R) : ∀ (tops : List Int) (o : List Int), (∀ t ∈ tops, -1 ≤ t ∧ t < R.length) → OrdOk R o → Near R o (-1) →
    OrdOk R (tops.foldl (fun o t => walkM R (t + 1).toNat o t) o) ∧ Near R (tops.foldl (fun o t => walkM R (t + 1).toNat o t) o) (-1) ∧ (∃ m, tops.foldl (fun o t => walkM R (t + 1).toNat o t) o = o ++ m) ∧ ∀ t ∈ tops, t = -1 ∨ t ∈ tops.foldl (fun o t => walkM R (t + 1).toNat o t) o
  | [], o, _, ho, hn => ⟨ho, hn, ⟨[], (List.append_nil _).symm⟩, fun _ h => nomatch h⟩
  | t :: tops, o, ht, ho, hn => by
    have h0 := ht t List.mem_cons_self
    obtain ⟨q1, q2, ⟨m, q3⟩, q4⟩ := walk_all ok (t + 1).toNat o t h0.1 h0.2 (Nat.le_refl _) ho (fun x hx => (hn x hx).elim .inl fun q => q.elim (fun q => .inr (.inl q)) .inl)
    obtain ⟨p1, p2, ⟨m2, p3⟩, p4⟩ := fold_all ok tops (walkM R (t + 1).toNat o t) (fun x hx => ht x (List.mem_cons_of_mem _ hx)) q1 q2
    rw [List.foldl_cons]
    refine ⟨p1, p2, ⟨m ++ m2, by rw [p3, q3, List.append_assoc]⟩, fun x hx => ?_⟩
    rcases List.mem_cons.mp hx with e | hx
    · subst e
      rcases q4 with q | q
      · exact .inl q
      · rw [p3]
        exact .inr (List.mem_append_left _ q)
    · exact p4 x hx
theorem order_all (ok : RawOk size R) {tops : List Int} (ht : ∀ t ∈ tops, -1 ≤ t ∧ t < R.length) : OrdOk R (orderM R tops) ∧ (∀ a ∈ orderM R tops, (pcAt R a).1 = -1 ∨ (pcAt R a).1 ∈ orderM R tops) ∧ ∀ t ∈ tops, t = -1 ∨ t ∈ orderM R tops := by
  obtain ⟨h1, h2, _, h4⟩ := fold_all ok tops [] ht OrdOk.nil (fun _ h => nomatch h)
  exact ⟨h1, fun a ha => (h2 a ha).elim .inl fun q => q.elim .inr .inl, h4⟩
/-! ### the dict of places -/
def ents : Nat → List Int → List (Key × V)
  | _, [] => []
  | i, a :: r => (.inl a, .int i) :: ents (i + 1) r
def placesK (o : List Int) : List (Key × V) := (.inl (-1), .int (-1)) :: ents 0 o
theorem ents_len : ∀ (i : Nat) (o : List Int), (ents i o).length = o.length
  | _, [] => rfl
  | i, _ :: r => by show (ents (i + 1) r).length + 1 = r.length + 1; rw [ents_len]
theorem ents_val {a : Int} : ∀ (i : Nat) (o : List Int), valV (ents i o) (.inl a) = if a ∈ o then some (.int ((i + o.idxOf a : Nat) : Int)) else none
  | _, [] => by rw [if_neg List.not_mem_nil]; rfl
  | i, b :: r => by
    show valV ((Sum.inl b, V.int i) :: ents (i + 1) r) (Sum.inl a) = _
    by_cases e : b = a
    · subst e
      rw [valV_pos rfl, if_pos List.mem_cons_self, List.idxOf_cons_self] <;> rfl
    · rw [valV_neg (fun q => e (Sum.inl.inj q)), ents_val (i + 1) r]
      by_cases c : a ∈ r
      · have h2 : (b :: r).idxOf a = r.idxOf a + 1 := by
          rw [List.idxOf_cons]
          have e2 : (b == a) = false := by simpa using e
          rw [e2] <;> rfl
        rw [if_pos c, if_pos (List.mem_cons_of_mem _ c), h2, show i + 1 + r.idxOf a = i + (r.idxOf a + 1) by omega]
      · rw [if_neg c, if_neg (fun h => (List.mem_cons.mp h).elim (fun q => e q.symm) c)]
theorem places_val {o : List Int} {a : Int} : valV (placesK o) (.inl a) = if a = -1 ∨ a ∈ o then some (.int (placeM o a)) else none := by
  unfold placesK placeM
  by_cases e : a = -1
  · subst e
    rw [valV_pos rfl, if_pos (.inl rfl), if_pos rfl]
  · rw [valV_neg (fun q => e (Sum.inl.inj q).symm), ents_val]
    by_cases c : a ∈ o
    · rw [if_pos c, if_pos (.inr c), if_neg e, Nat.zero_add]
    · rw [if_neg c, if_neg (fun h => h.elim e c)]
theorem ents_app (a : Int) : ∀ (i : Nat) (o : List Int), ents i o ++ [(.inl a, .int ((i + o.length : Nat) : Int))] = ents i (o ++ [a])
  | _, [] => rfl
  | i, b :: r => by
    have := ents_app a (i + 1) r
    show (Sum.inl b, V.int i) :: (ents (i + 1) r ++ [(Sum.inl a, V.int ((i + (r.length + 1) : Nat) : Int))]) = (Sum.inl b, V.int i) :: ents (i + 1) (r ++ [a])
    rw [← this, show i + (r.length + 1) = i + 1 + r.length by omega]
theorem places_put {o : List Int} {a : Int} (c : a ≠ -1) (n : a ∉ o) : putK (placesK o) (.inl a) (.int o.length) = placesK (o ++ [a]) := by
  have h : ((placesK o).any fun kv => decide (kv.1 = (Sum.inl a : Key))) = false := by
    rw [List.any_eq_false]
    intro kv hkv
    rw [decide_eq_true_eq]
    intro e
    have hv : valV (placesK o) (.inl a) = none := by rw [places_val, if_neg (fun h => h.elim c n)]
    unfold valV at hv
    have hf : (placesK o).find? (fun kv => decide (kv.1 = (Sum.inl a : Key))) = none := by
      cases q : (placesK o).find? (fun kv => decide (kv.1 = (Sum.inl a : Key))) with
      | none => rfl
      | some x => rw [q] at hv; cases hv
    have := List.find?_eq_none.mp hf kv hkv
    exact this (decide_eq_true e)
  unfold putK
  rw [h, if_neg Bool.false_ne_true]
  have := ents_app a 0 o
  rw [Nat.zero_add] at this
  unfold placesK
  rw [← this] <;> rfl
end
end Wn

/-! A top's pile, piece by piece. -/
namespace Wo
open PySem PySem.Spec PyProof.Rows L2 Wp Wq Wr Wn
inductive OpensN (L : List Pc) : Nat → Int → List W → Prop where
  | nil : OpensN L 0 (-1) []
  | cons {n : Nat} {i : Int} {u : Int} {ws q : List W} (h : L[i.toNat]? = some (u, ws)) (h0 : 0 ≤ i) (t : OpensN L n u q) : OpensN L (n + 1) i (q ++ ws)
theorem OpensN.none {L : List Pc} {n : Nat} {q : List W} (h : OpensN L n (-1) q) : q = [] := by
  generalize e : (-1 : Int) = i at h
  cases h with
  | nil => rfl
  | cons _ h0 _ => omega
theorem OpensN.some {L : List Pc} {n : Nat} {i : Int} {q : List W} (h : OpensN L n i q) (c : i ≠ -1) : ∃ m u ws p, n = m + 1 ∧ L[i.toNat]? = some (u, ws) ∧ 0 ≤ i ∧ OpensN L m u p ∧ q = p ++ ws := by
  cases h with
  | nil => exact absurd rfl c
  | cons h h0 t => exact ⟨_, _, _, _, rfl, h, h0, t, rfl⟩
theorem idx_get : ∀ {o : List Int} {a : Int}, a ∈ o → o[o.idxOf a]? = some a
  | b :: r, a, h => by
    rw [List.idxOf_cons]
    by_cases e : b = a
    · subst e
      rw [beq_self_eq_true] <;> rfl
    · have e2 : (b == a) = false := by simpa using e
      rw [e2]
      show (b :: r)[r.idxOf a + 1]? = _
      rw [List.getElem?_cons_succ]
      exact idx_get ((List.mem_cons.mp h).resolve_left fun q => e q.symm)
/-- of a numbered paper -/
theorem numbered_opens {size : Int} {R : List Pc} {Ps : List (List W)} {tops : List Int} (ok : RawOk size R) (pok : PilesOk R Ps) (ht : ∀ t ∈ tops, -1 ≤ t ∧ t < R.length) :
    ∀ (k : Nat) (a : Int), (a + 1).toNat ≤ k → a = -1 ∨ a ∈ orderM R tops → ∃ n, n ≤ k ∧ OpensN (numberedM R tops).1 n (placeM (orderM R tops) a) (belowM Ps a) := by
  obtain ⟨h1, h2, h3⟩ := order_all ok ht
  have hnil : ∀ k : Nat, ∃ n, n ≤ k ∧ OpensN (numberedM R tops).1 n (placeM (orderM R tops) (-1)) (belowM Ps (-1)) := fun k => ⟨0, Nat.zero_le _, .nil⟩
  intro k
  induction k with
  | zero =>
    intro a ha h
    rcases h with rfl | h
    · exact hnil 0
    · have := (h1.rng a h).1
      omega
  | succ k ih =>
    intro a ha h
    rcases h with rfl | h
    · exact hnil _
    · obtain ⟨a0, a1⟩ := h1.rng a h
      obtain ⟨u0, u1, _⟩ := pcAt_ok ok a0 a1
      obtain ⟨n, hn, hop⟩ := ih (pcAt R a).1 (by omega) (h2 a h)
      refine ⟨n + 1, by omega, ?_⟩
      have e1 : belowM Ps a = belowM Ps (pcAt R a).1 ++ (pcAt R a).2 := by
        have := pok.2 a.toNat _ (pcAt_some a0 a1)
        show (if 0 ≤ a then Ps.getD a.toNat [] else []) = _
        rw [if_pos a0, List.getD_eq_getElem?_getD, this] <;> rfl
      have e2 : placeM (orderM R tops) a = ((orderM R tops).idxOf a : Int) := by
        unfold placeM
        rw [if_neg (by omega)]
      rw [e1, e2]
      refine .cons (u := placeM (orderM R tops) (pcAt R a).1) ?_ (by omega) hop
      show ((orderM R tops).map fun a => (placeM (orderM R tops) (pcAt R a).1, (pcAt R a).2))[((orderM R tops).idxOf a : Int).toNat]? = _
      rw [Int.toNat_natCast, List.getElem?_map, idx_get h] <;> rfl
end Wo

/-! max(xs, default=d) of a list of ints. -/
namespace Wm
open PySem PySem.Spec PyProof.Rows L2 Wp
theorem hold_ints {h : Heap} : ∀ {vs : List Value} {ns : List Int}, IntsAre vs ns → PySem.W.HoldAll h vs ns
  | _, _, .nil => PySem.W.HoldAll.nil
  | _, _, .cons n t r => PySem.W.HoldAll.cons ⟨_, Reads.int n t⟩ (hold_ints r)
theorem maxOf_is : ∀ (xs : List Int) (x : Int), PySem.W.maxOf x xs ∈ x :: xs ∧ ∀ y ∈ x :: xs, y ≤ PySem.W.maxOf x xs := by
  intro xs
  induction xs with
  | nil =>
    intro x
    exact ⟨List.mem_cons_self, fun y hy => by rw [List.mem_singleton.mp hy]; exact Int.le_refl _⟩
  | cons z zs ih =>
    intro x
    have e : PySem.W.maxOf x (z :: zs) = PySem.W.maxOf (if PySem.W.DatumOrd.lt x z = true then z else x) zs := rfl
    have d : PySem.W.DatumOrd.lt x z = decide (x < z) := rfl
    rw [e, d]
    obtain ⟨h1, h2⟩ := ih (if decide (x < z) = true then z else x)
    generalize PySem.W.maxOf (if decide (x < z) = true then z else x) zs = m at h1 h2
    by_cases c : x < z
    · rw [if_pos (decide_eq_true c)] at h1 h2
      refine ⟨List.mem_cons_of_mem _ h1, fun y hy => ?_⟩
      rcases List.mem_cons.mp hy with rfl | hy
      · have := h2 z List.mem_cons_self
        omega
      · exact h2 y hy
    · have c2 : ¬ (decide (x < z) = true) := by simpa using c
      rw [if_neg c2] at h1 h2
      refine ⟨?_, fun y hy => ?_⟩
      · rcases List.mem_cons.mp h1 with h | h
        · rw [h]; exact List.mem_cons_self
        · exact List.mem_cons_of_mem _ (List.mem_cons_of_mem _ h)
      · rcases List.mem_cons.mp hy with rfl | hy
        · exact h2 _ List.mem_cons_self
        · rcases List.mem_cons.mp hy with rfl | hy
          · have := h2 x List.mem_cons_self
            omega
          · exact h2 y (List.mem_cons_of_mem _ hy)
section
variable {X : Cx}
def rMaxD (K : PySem.W.Frag) : List V → List V → Hp → VK → Prop := fun vs zs H Q => ∃ (a : Addr) (ns : List Int) (d : Int), vs = [V.ref a] ∧ zs = [.int d] ∧ SqL K H a (ns.map V.int) ∧ ∀ m, (ns = [] ∧ m = d ∨ m ∈ ns ∧ ∀ y ∈ ns, y ≤ m) → Q (.int m) H
theorem cr_maxD (hc : X.calm = true) (hu : X.A.units + 64 < cLine) : CallRK X (.builtin "max") [Str.ofString "default"] (rMaxD X.K) := by
  intro pins s σ H vs zs us ws Q I r rz h
  obtain ⟨a, ns, d, rfl, rfl, hs, q⟩ := h
  obtain ⟨its, rv, hl, _⟩ := I.list hs
  rw [Vals.ref1 r]
  obtain ⟨w1, rfl, t, rfl⟩ := vals1 rz
  have hi := rv.ints
  refine PySem.W.max_list_datum_default (α := Int) (I.ok.hd hc) hl.isList (xs := ns) ?_ ?_ (fun e h' tk k => ⟨.int d, H, I.kept k, ⟨_, rfl⟩, q d (.inl ⟨e, rfl⟩)⟩) fun y ys i v h' tk e hv hh k => ?_
  · exact hold_ints hi
  · have : PySem.W.Datum.depth Int = 0 := rfl
    omega
  · obtain ⟨as, rd⟩ := hh
    obtain ⟨m1, m2⟩ := maxOf_is ys y
    have rd' : Reads h' v (.int (PySem.W.maxOf y ys)) as := rd
    cases rd'
    exact ⟨.int _, H, I.kept k, ⟨_, rfl⟩, q _ (.inr ⟨e ▸ m1, e ▸ m2⟩)⟩
end
section
variable {K : PySem.W.Frag} {σ : L2.St} {H : Hp} {Q : VK}
theorem augN {i : Nat} {te : TE} {ti : TIp} {D : Ends} {x : V} (h : σ[i]? = some (some x)) (q : te σ H fun y H1 => ti x y H1 fun z H2 => D.nx (σ.set i (some z)) H2) : tAug i te ti D σ H := ⟨x, h, q⟩
theorem idx_mem {a : Int} : ∀ {l : List Int} (m : List Int), a ∈ l → (l ++ m).idxOf a = l.idxOf a
  | b :: l, m, h => by
    rw [List.cons_append, List.idxOf_cons, List.idxOf_cons]
    cases e : b == a with
    | true => rfl
    | false =>
      have h2 : a ∈ l := (List.mem_cons.mp h).resolve_left fun q => by rw [q] at e; simp at e
      show (l ++ m).idxOf a + 1 = l.idxOf a + 1
      rw [idx_mem m h2]
theorem idx_not {a : Int} : ∀ {l : List Int} (m : List Int), a ∉ l → (l ++ m).idxOf a = l.length + m.idxOf a
  | [], m, _ => (Nat.zero_add _).symm
  | b :: l, m, h => by
    rw [List.cons_append, List.idxOf_cons]
    have e : (b == a) = false := by
      have : b ≠ a := fun q => h (q ▸ List.mem_cons_self)
      simpa using this
    rw [e]
    show (l ++ m).idxOf a + 1 = l.length + 1 + m.idxOf a
    rw [idx_not m (fun q => h (List.mem_cons_of_mem _ q))]
    omega
theorem cbK {r : List V → List V → Hp → VK → Prop} {t tk : TA} (h : t σ H fun vs H1 => tk σ H1 fun zs H2 => r vs zs H2 Q) : tCKw r t tk σ H Q := h
theorem maxD_ {a : Addr} {ns : List Int} {d : Int} (h : SqL K H a (ns.map V.int)) (q : ∀ m, (ns = [] ∧ m = d ∨ m ∈ ns ∧ ∀ y ∈ ns, y ≤ m) → Q (.int m) H) : rMaxD K [.ref a] [.int d] H Q := ⟨a, ns, d, rfl, rfl, h, q⟩
end
end Wm

/-! The program's check of the numbers, and the document's clauses walked pile by pile: one answer. -/
namespace Wx
/-! ### as the program goes -/
def uAt (u : List Int) (a : Int) : Int := u.getD a.toNat 0
def runM (u : List Int) : Nat → Nat → Int → Nat × Int
  | 0, m, a => (m, a)
  | f + 1, m, a => if a = m ∧ m < u.length then runM u f (m + 1) (uAt u m) else (m, a)
def numGo (u : List Int) : Nat → List Int → Option Nat
  | m, [] => some m
  | m, t :: ts => if (runM u (u.length - m) m t).2 ≠ -1 ∧ ¬ (0 ≤ (runM u (u.length - m) m t).2 ∧ (runM u (u.length - m) m t).2 < m) then none else numGo u (runM u (u.length - m) m t).1 ts
def numdM (u : List Int) (tops : List Int) : Bool := match numGo u 0 tops with
  | some m => decide (m = u.length)
  | none => false
/-! ### by the clauses -/
def rowM (u : List Int) : Nat → Int → List Int
  | 0, a => [a]
  | f + 1, a => if a = -1 then [a] else a :: rowM u f (uAt u a)
def addM (o : List Int) (l : List Int) : List Int := l.foldl (fun o a => if a ∈ o then o else o ++ [a]) o
def rightGo (u : List Int) : List Int → List Int → Option (List Int)
  | o, [] => some o
  | o, t :: ts => if t < -1 ∨ t ≥ u.length then none else if (rowM u u.length t).getLast? ≠ some (-1) then none else rightGo u (addM o (rowM u u.length t).dropLast) ts
def inR (u : List Int) : Prop := ∀ a ∈ u, -1 ≤ a ∧ a < u.length
def rng (m : Nat) : List Int := (List.range m).map fun i : Nat => (i : Int)
theorem rng_succ {m : Nat} : rng (m + 1) = rng m ++ [(m : Int)] := by
  unfold rng
  rw [List.range_succ, List.map_append] <;> rfl
theorem rng_len {m : Nat} : (rng m).length = m := by unfold rng; rw [List.length_map, List.length_range]
theorem rng_mem {m : Nat} {a : Int} : a ∈ rng m ↔ 0 ≤ a ∧ a < m := by
  unfold rng
  rw [List.mem_map]
  constructor
  · rintro ⟨i, hi, rfl⟩
    have := List.mem_range.mp hi
    omega
  · rintro ⟨h0, h1⟩
    exact ⟨a.toNat, List.mem_range.mpr (by omega), by omega⟩
theorem rng_at {m i : Nat} (h : i < m) : (rng m)[i]? = some (i : Int) := by
  unfold rng
  rw [List.getElem?_map, List.getElem?_range h] <;> rfl
/-- the chain from a ends on nothing in k steps, all below m -/
inductive Ends (u : List Int) (m : Nat) : Nat → Int → Prop where
  | nil : Ends u m 0 (-1)
  | cons {k : Nat} {a : Int} (h0 : 0 ≤ a) (h1 : a < m) (t : Ends u m k (uAt u a)) : Ends u m (k + 1) a
section
variable {u : List Int} {m m' b k : Nat} {a : Int}
theorem Ends.mono (h : Ends u m k a) (hm : m ≤ m') : Ends u m' k a := by
  induction h with
  | nil => exact .nil
  | cons h0 h1 t ih => exact .cons h0 (by omega) ih
theorem Ends.one {k2 m2 : Nat} (h : Ends u m k a) (h2 : Ends u m2 k2 a) : k = k2 := by
  induction h generalizing k2 with
  | nil =>
    cases h2 with
    | nil => rfl
    | cons h0 _ _ => omega
  | cons h0 h1 t ih =>
    cases h2 with
    | nil => omega
    | cons g0 g1 t2 => rw [ih t2]
theorem row_nil {F : Nat} : rowM u F (-1) = [-1] := by
  cases F with
  | zero => rfl
  | succ F => show (if (-1 : Int) = -1 then _ else _) = _; rw [if_pos rfl]
theorem row_ne : ∀ (F : Nat) (a : Int), rowM u F a ≠ []
  | 0, a => List.cons_ne_nil _ _
  | F + 1, a => by
    show (if a = -1 then [a] else a :: rowM u F (uAt u a)) ≠ []
    split <;> exact List.cons_ne_nil _ _
theorem row_cons {F : Nat} (h : a ≠ -1) : rowM u (F + 1) a = a :: rowM u F (uAt u a) := by
  show (if a = -1 then _ else _) = _
  rw [if_neg h]
theorem row_drop {F : Nat} (h : a ≠ -1) : (rowM u (F + 1) a).dropLast = a :: (rowM u F (uAt u a)).dropLast := by
  rw [row_cons h]
  cases e : rowM u F (uAt u a) with
  | nil => exact absurd e (row_ne _ _)
  | cons x r => rfl
theorem row_of {F : Nat} (h : Ends u m k a) (hk : k ≤ F) : (rowM u F a).getLast? = some (-1) ∧ ∀ x ∈ (rowM u F a).dropLast, 0 ≤ x ∧ x < m := by
  induction h generalizing F with
  | nil => rw [row_nil]; exact ⟨rfl, (fun _ h => nomatch h)⟩
  | cons h0 h1 t ih =>
    obtain ⟨G, rfl⟩ : ∃ G, F = G + 1 := ⟨F - 1, by omega⟩
    obtain ⟨i1, i2⟩ := ih (F := G) (by omega)
    rename_i a'
    have hne : a' ≠ -1 := by omega
    refine ⟨?_, ?_⟩
    · rw [row_cons hne, List.getLast?_cons, i1] <;> rfl
    · rw [row_drop hne]
      intro x hx
      rcases List.mem_cons.mp hx with rfl | hx
      · exact ⟨h0, h1⟩
      · exact i2 x hx
theorem ends_of (hr : inR u) : ∀ (F : Nat) (a : Int), -1 ≤ a → a < u.length → (rowM u F a).getLast? = some (-1) → ∃ k, k ≤ F ∧ Ends u u.length k a
  | 0, a, _, _, h => by
    have e : a = -1 := Option.some.inj h
    subst e
    exact ⟨0, Nat.le_refl _, .nil⟩
  | F + 1, a, h0, h1, h => by
    by_cases e : a = -1
    · subst e
      exact ⟨0, Nat.zero_le _, .nil⟩
    · rw [row_cons e, List.getLast?_cons] at h
      have hu : a.toNat < u.length := by omega
      have hm : uAt u a ∈ u := by
        unfold uAt
        rw [List.getD_eq_getElem?_getD, List.getElem?_eq_getElem hu]
        exact List.getElem_mem hu
      have h2 := hr _ hm
      cases e2 : (rowM u F (uAt u a)).getLast? with
      | none => exact absurd (List.getLast?_eq_none_iff.mp e2) (row_ne _ _)
      | some z =>
        rw [e2] at h
        have ez : z = -1 := Option.some.inj h
        rw [ez] at e2
        obtain ⟨k, hk, he⟩ := ends_of hr F (uAt u a) h2.1 h2.2 e2
        exact ⟨k + 1, by omega, .cons (by omega) h1 he⟩
theorem add_in : ∀ (l o : List Int), (∀ x ∈ l, x ∈ o) → addM o l = o
  | [], _, _ => rfl
  | x :: l, o, h => by
    show addM (if x ∈ o then o else o ++ [x]) l = o
    rw [if_pos (h x List.mem_cons_self)]
    exact add_in l o fun y hy => h y (List.mem_cons_of_mem _ hy)
theorem add_pre : ∀ (l o : List Int), ∃ r, addM o l = o ++ r
  | [], o => ⟨[], (List.append_nil _).symm⟩
  | x :: l, o => by
    show ∃ r, addM (if x ∈ o then o else o ++ [x]) l = o ++ r
    by_cases c : x ∈ o
    · rw [if_pos c]; exact add_pre l o
    · rw [if_neg c]
      obtain ⟨r, e⟩ := add_pre l (o ++ [x])
      exact ⟨x :: r, by rw [e, List.append_assoc] <;> rfl⟩
theorem add_cons {o l : List Int} {x : Int} (h : x ∉ o) : addM o (x :: l) = addM (o ++ [x]) l := by
  show addM (if x ∈ o then o else o ++ [x]) l = _
  rw [if_neg h]
theorem rng_pre {n : Nat} {l r : List Int} (h : rng n = l ++ r) : l = rng l.length ∧ l.length ≤ n := by
  have hl : l.length ≤ n := by
    have := congrArg List.length h
    rw [rng_len, List.length_append] at this
    omega
  refine ⟨?_, hl⟩
  apply List.ext_getElem?
  intro i
  by_cases c : i < l.length
  · have h1 : (l ++ r)[i]? = l[i]? := List.getElem?_append_left c
    rw [← h1, ← h, rng_at (by omega), rng_at c]
  · rw [List.getElem?_eq_none (by omega), List.getElem?_eq_none (by rw [rng_len]; omega)]
/-! ### the program's yes is the clauses' -/
theorem run_spec (hb : b ≤ u.length) (cl : ∀ p : Nat, p < b → ∃ k, k ≤ b ∧ Ends u b k p) : ∀ (f m : Nat) (a : Int) (m' : Nat) (a' : Int), runM u f m a = (m', a') → u.length - m ≤ f → m ≤ u.length → b ≤ m → (a' = -1 ∨ 0 ≤ a' ∧ a' < b) →
    m ≤ m' ∧ m' ≤ u.length ∧ ∃ k, k ≤ (m' - m) + b ∧ Ends u m' k a ∧ (∀ p : Nat, m ≤ p → p < m' → ∃ k, k ≤ m' ∧ Ends u m' k p) ∧ ∀ F, k ≤ F → addM (rng m) (rowM u F a).dropLast = rng m' := by
  have stop : ∀ (m : Nat) (a : Int), m ≤ u.length → b ≤ m → (a = -1 ∨ 0 ≤ a ∧ a < b) → m ≤ m ∧ m ≤ u.length ∧ ∃ k, k ≤ (m - m) + b ∧ Ends u m k a ∧ (∀ p : Nat, m ≤ p → p < m → ∃ k, k ≤ m ∧ Ends u m k p) ∧ ∀ F, k ≤ F → addM (rng m) (rowM u F a).dropLast = rng m := by
    intro m a hm hbm ha
    rcases ha with rfl | ⟨a0, a1⟩
    · exact ⟨Nat.le_refl _, hm, 0, Nat.zero_le _, .nil, (fun p h1 h2 => by omega), fun F _ => by rw [row_nil] <;> rfl⟩
    · obtain ⟨k, hk, he⟩ := cl a.toNat (by omega)
      have ea : ((a.toNat : Nat) : Int) = a := by omega
      rw [ea] at he
      refine ⟨Nat.le_refl _, hm, k, by omega, he.mono hbm, (fun p h1 h2 => by omega), fun F hF => add_in _ _ fun x hx => ?_⟩
      have := (row_of he hF).2 x hx
      exact rng_mem.mpr ⟨this.1, by omega⟩
  intro f
  induction f with
  | zero =>
    intro m a m' a' h hf hm hbm ha
    have e : (m, a) = (m', a') := h
    cases e
    exact stop m a hm hbm ha
  | succ f ih =>
    intro m a m' a' h hf hm hbm ha
    have e : (if a = m ∧ m < u.length then runM u f (m + 1) (uAt u m) else (m, a)) = (m', a') := h
    by_cases c : a = m ∧ m < u.length
    · rw [if_pos c] at e
      obtain ⟨i1, i2, k, i3, i4, i5, i6⟩ := ih (m + 1) _ m' a' e (by omega) (by omega) (by omega) ha
      obtain ⟨rfl, c2⟩ := c
      have e4 : Ends u m' (k + 1) (m : Int) := .cons (by omega) (by omega) i4
      refine ⟨by omega, i2, k + 1, by omega, e4, fun p h1 h2 => ?_, fun F hF => ?_⟩
      · by_cases q : p = m
        · subst q; exact ⟨k + 1, by omega, e4⟩
        · exact i5 p (by omega) h2
      · obtain ⟨G, rfl⟩ : ∃ G, F = G + 1 := ⟨F - 1, by omega⟩
        rw [row_drop (by omega), add_cons (fun h => by have := rng_mem.mp h; omega), ← rng_succ]
        exact i6 G (by omega)
    · rw [if_neg c] at e
      cases e
      exact stop m a hm hbm ha
def Cl (u : List Int) (b : Nat) : Prop := ∀ p : Nat, p < b → ∃ k, k ≤ b ∧ Ends u b k p
theorem go_yes : ∀ (ts : List Int) (m n : Nat), numGo u m ts = some n → m ≤ u.length → Cl u m → n ≤ u.length ∧ Cl u n ∧ rightGo u (rng m) ts = some (rng n)
  | [], m, n, h, hm, cl => by
    have e : m = n := Option.some.inj h
    subst e
    exact ⟨hm, cl, rfl⟩
  | t :: ts, m, n, h, hm, cl => by
    have h' : (if (runM u (u.length - m) m t).2 ≠ -1 ∧ ¬ (0 ≤ (runM u (u.length - m) m t).2 ∧ (runM u (u.length - m) m t).2 < m) then none else numGo u (runM u (u.length - m) m t).1 ts) = some n := h
    cases er : runM u (u.length - m) m t with
    | mk m' a' =>
      rw [er] at h'
      by_cases c : a' ≠ -1 ∧ ¬ (0 ≤ a' ∧ a' < m)
      · rw [if_pos c] at h'; cases h'
      · rw [if_neg c] at h'
        have ha : a' = -1 ∨ 0 ≤ a' ∧ a' < m := by omega
        obtain ⟨i1, i2, k, i3, i4, i5, i6⟩ := run_spec hm cl _ _ _ _ _ er (Nat.le_refl _) hm (Nat.le_refl _) ha
        have cl2 : Cl u m' := fun p hp => by
          by_cases q : p < m
          · obtain ⟨k, hk, he⟩ := cl p q
            exact ⟨k, by omega, he.mono i1⟩
          · exact i5 p (by omega) hp
        obtain ⟨j1, j2, j3⟩ := go_yes ts m' n h' i2 cl2
        refine ⟨j1, j2, ?_⟩
        have kn : k ≤ u.length := by omega
        have hrow := (row_of i4 kn).1
        have ht : ¬ (t < -1 ∨ t ≥ u.length) := by
          cases i4 with
          | nil => omega
          | cons h0 h1 _ => omega
        show (if t < -1 ∨ t ≥ u.length then none else if (rowM u u.length t).getLast? ≠ some (-1) then none else rightGo u (addM (rng m) (rowM u u.length t).dropLast) ts) = _
        rw [if_neg ht, if_neg (fun q => q hrow), i6 u.length kn]
        exact j3
theorem yes_right {tops : List Int} (h : numdM u tops = true) : inR u ∧ rightGo u [] tops = some (rng u.length) := by
  unfold numdM at h
  cases e : numGo u 0 tops with
  | none => rw [e] at h; cases h
  | some m =>
    rw [e] at h
    have em : m = u.length := of_decide_eq_true h
    subst em
    obtain ⟨_, cl, hg⟩ := go_yes tops 0 _ e (Nat.zero_le _) (fun p h => absurd h (Nat.not_lt_zero _))
    refine ⟨fun a ha => ?_, hg⟩
    obtain ⟨i, hi, rfl⟩ := List.getElem_of_mem ha
    obtain ⟨k, hk, he⟩ := cl i hi
    have eu : uAt u (i : Int) = u[i] := by
      unfold uAt
      rw [show ((i : Int)).toNat = i from Int.toNat_natCast i, List.getD_eq_getElem?_getD, List.getElem?_eq_getElem hi] <;> rfl
    cases he with
    | cons h0 h1 t =>
      rw [eu] at t
      generalize u[i] = z at t
      cases t with
      | nil => omega
      | cons g0 g1 _ => omega
/-! ### the clauses' yes is the program's -/
theorem run_back (hr : inR u) (clb : ∀ p : Nat, p < b → uAt u p = -1 ∨ 0 ≤ uAt u p ∧ uAt u p < b) {n' : Nat} : ∀ (k : Nat) (a : Int) (M f F : Nat), Ends u u.length k a → b ≤ M → M ≤ u.length → u.length - M ≤ f → k ≤ F →
    (∀ p : Nat, b ≤ p → p < M → ∃ j, k < j ∧ Ends u u.length j p) → (∀ p : Nat, p < M → uAt u p = -1 ∨ 0 ≤ uAt u p ∧ uAt u p < M ∨ uAt u p = a) → (∃ r, rng u.length = addM (rng M) (rowM u F a).dropLast ++ r) →
    ∃ m' a', runM u f M a = (m', a') ∧ (a' = -1 ∨ 0 ≤ a' ∧ a' < b) ∧ M ≤ m' ∧ m' ≤ u.length ∧ addM (rng M) (rowM u F a).dropLast = rng m' ∧ ∀ p : Nat, p < m' → uAt u p = -1 ∨ 0 ≤ uAt u p ∧ uAt u p < m' := by
  have halt : ∀ (f M : Nat) (a : Int), ¬ (a = M ∧ M < u.length) → runM u f M a = (M, a) := by
    intro f M a h
    cases f with
    | zero => rfl
    | succ f =>
      show (if a = M ∧ M < u.length then _ else _) = _
      rw [if_neg h]
  have low : ∀ (k : Nat) (a : Int), Ends u u.length k a → (a = -1 ∨ 0 ≤ a ∧ a < b) → Ends u b k a := by
    intro k a h
    induction h with
    | nil => intro _; exact .nil
    | cons h0 h1 t ih =>
      rename_i k2 a2
      intro hb
      have hb2 : 0 ≤ a2 ∧ a2 < b := by omega
      have e2 : ((a2.toNat : Nat) : Int) = a2 := by omega
      have := clb a2.toNat (by omega)
      rw [e2] at this
      exact .cons h0 hb2.2 (ih this)
  intro k
  induction k with
  | zero =>
    intro a M f F he hbM hM hf hF hj hc hp
    cases he
    refine ⟨M, -1, halt _ _ _ (by omega), .inl rfl, Nat.le_refl _, hM, by rw [row_nil] <;> rfl, fun p hp => ?_⟩
    have := hc p hp
    omega
  | succ k ih =>
    intro a M f F he hbM hM hf hF hj hc hp
    have he0 := he
    cases he with
    | cons h0 h1 t =>
      by_cases c : a < b
      · refine ⟨M, a, halt _ _ _ (by omega), .inr ⟨h0, c⟩, Nat.le_refl _, hM, ?_, fun p hp => ?_⟩
        · refine add_in _ _ fun x hx => ?_
          have := (row_of (low _ _ he0 (.inr ⟨h0, c⟩)) hF).2 x hx
          exact rng_mem.mpr ⟨this.1, by omega⟩
        · have := hc p hp
          omega
      · obtain ⟨G, rfl⟩ : ∃ G, F = G + 1 := ⟨F - 1, by omega⟩
        have hne : a ≠ -1 := by omega
        have nin : a ∉ rng M := by
          intro q
          have q2 := rng_mem.mp q
          obtain ⟨j, hj1, hj2⟩ := hj a.toNat (by omega) (by omega)
          rw [show ((a.toNat : Nat) : Int) = a by omega] at hj2
          have := he0.one hj2
          omega
        rw [row_drop hne, add_cons nin] at hp ⊢
        obtain ⟨r, er⟩ := hp
        obtain ⟨r2, er2⟩ := add_pre (rowM u G (uAt u a)).dropLast (rng M ++ [a])
        have er3 := er
        rw [er2, List.append_assoc] at er3
        obtain ⟨g1, g2⟩ := rng_pre er3
        rw [List.length_append, rng_len] at g1 g2
        have g2' : M + 1 ≤ u.length := g2
        have ea : a = M := by
          have g1' : rng M ++ [a] = rng (M + 1) := g1
          rw [rng_succ] at g1'
          exact (List.cons.inj (List.append_cancel_left g1')).1
        subst ea
        rw [← rng_succ] at er ⊢
        obtain ⟨f2, rfl⟩ : ∃ f2, f = f2 + 1 := ⟨f - 1, by omega⟩
        have step : runM u (f2 + 1) M (M : Int) = runM u f2 (M + 1) (uAt u M) := by
          show (if (M : Int) = M ∧ M < u.length then _ else _) = _
          rw [if_pos ⟨rfl, by omega⟩]
        rw [step]
        have hj' : ∀ p : Nat, b ≤ p → p < M + 1 → ∃ j, k < j ∧ Ends u u.length j p := fun p hp1 hp2 => by
          by_cases q : p = M
          · rw [q]; exact ⟨k + 1, by omega, he0⟩
          · obtain ⟨j, hj1, hj2⟩ := hj p hp1 (by omega)
            exact ⟨j, by omega, hj2⟩
        have hc' : ∀ p : Nat, p < M + 1 → uAt u p = -1 ∨ 0 ≤ uAt u p ∧ uAt u p < ((M + 1 : Nat) : Int) ∨ uAt u p = uAt u M := fun p hp => by
          by_cases q : p = M
          · rw [q]; exact .inr (.inr rfl)
          · have := hc p (by omega)
            omega
        obtain ⟨m', a', q1, q2, q3, q4, q5, q6⟩ := ih (uAt u M) (M + 1) f2 G t (by omega) g2' (by omega) (by omega) hj' hc' ⟨r, er⟩
        exact ⟨m', a', q1, q2, by omega, q4, q5, q6⟩
theorem go_back (hr : inR u) : ∀ (ts : List Int) (m : Nat), rightGo u (rng m) ts = some (rng u.length) → m ≤ u.length → (∀ p : Nat, p < m → uAt u p = -1 ∨ 0 ≤ uAt u p ∧ uAt u p < m) → numGo u m ts = some u.length
  | [], m, h, hm, cl => by
    have e : rng m = rng u.length := Option.some.inj h
    have e2 := congrArg List.length e
    rw [rng_len, rng_len] at e2
    show some m = some u.length
    rw [e2]
  | t :: ts, m, h, hm, cl => by
    have h' : (if t < -1 ∨ t ≥ u.length then none else if (rowM u u.length t).getLast? ≠ some (-1) then none else rightGo u (addM (rng m) (rowM u u.length t).dropLast) ts) = some (rng u.length) := h
    by_cases c1 : t < -1 ∨ t ≥ u.length
    · rw [if_pos c1] at h'; cases h'
    rw [if_neg c1] at h'
    by_cases c2 : (rowM u u.length t).getLast? ≠ some (-1)
    · rw [if_pos c2] at h'; cases h'
    rw [if_neg c2] at h'
    have c2' : (rowM u u.length t).getLast? = some (-1) := Classical.not_not.mp c2
    obtain ⟨k, hk, he⟩ := ends_of hr u.length t (by omega) (by omega) c2'
    have hp : ∃ r, rng u.length = addM (rng m) (rowM u u.length t).dropLast ++ r := go_pre ts _ _ h'
    obtain ⟨m', a', q1, q2, q3, q4, q5, q6⟩ := run_back hr cl (n' := 0) k t m (u.length - m) u.length he (Nat.le_refl _) hm (Nat.le_refl _) hk (fun p h1 h2 => by omega) (fun p hp => (cl p hp).elim .inl fun q => .inr (.inl q)) hp
    rw [q5] at h'
    have ih := go_back hr ts m' h' q4 q6
    show (if (runM u (u.length - m) m t).2 ≠ -1 ∧ ¬ (0 ≤ (runM u (u.length - m) m t).2 ∧ (runM u (u.length - m) m t).2 < m) then none else numGo u (runM u (u.length - m) m t).1 ts) = _
    rw [q1, if_neg (by show ¬ (a' ≠ -1 ∧ ¬ (0 ≤ a' ∧ a' < m)); omega)]
    exact ih
where
  go_pre : ∀ (ts : List Int) (o e : List Int), rightGo u o ts = some e → ∃ r, e = o ++ r
    | [], o, e, h => ⟨[], by rw [List.append_nil]; exact (Option.some.inj h).symm⟩
    | t :: ts, o, e, h => by
      have h' : (if t < -1 ∨ t ≥ u.length then none else if (rowM u u.length t).getLast? ≠ some (-1) then none else rightGo u (addM o (rowM u u.length t).dropLast) ts) = some e := h
      by_cases c1 : t < -1 ∨ t ≥ u.length
      · rw [if_pos c1] at h'; cases h'
      rw [if_neg c1] at h'
      by_cases c2 : (rowM u u.length t).getLast? ≠ some (-1)
      · rw [if_pos c2] at h'; cases h'
      rw [if_neg c2] at h'
      obtain ⟨r, e1⟩ := go_pre ts _ _ h'
      obtain ⟨r2, e2⟩ := add_pre (rowM u u.length t).dropLast o
      exact ⟨r2 ++ r, by rw [e1, e2, List.append_assoc]⟩
theorem right_yes {tops : List Int} (hr : inR u) (h : rightGo u [] tops = some (rng u.length)) : numdM u tops = true := by
  unfold numdM
  have h0 : rightGo u (rng 0) tops = some (rng u.length) := h
  rw [go_back hr tops 0 h0 (Nat.zero_le _) (fun p h => absurd h (Nat.not_lt_zero _))]
  exact decide_eq_true rfl
end

/-! ### a dict walked by its keys, locked -/
section
open PySem PySem.Spec PyProof.Rows L2 Wp
variable {σ : L2.St} {H : Hp} {Q : VK} {te ta : TE} {K : PySem.W.Frag}
theorem lock_ {t : TE} {d : Addr} {kvs : List (Key × V)} (h : H d = some (.dK kvs)) (q : ∀ od, t σ (upd H d (.frz od (.dK kvs))) fun v H' => H' d = some (.frz od (.dK kvs)) ∧ Q v (upd H' d (.dK kvs))) : tLockE t σ H Q := ⟨d, _, h, trivial, q⟩
theorem lcK {g : TG} {tt : TT} {vs : List Nat} (h : ta σ H fun x H1 => ∃ d o, x = .ref d ∧ ((∃ kvs, H1 d = some (.frz o (.dK kvs)) ∧ ∀ D, H1 D = none → LoopC (Itk d o kvs) g tt te vs σ D (fun H => Q (.ref D) H) (upd H1 D (.lst []))) ∨
    ∃ kvs, H1 d = some (.frz o (.dT kvs)) ∧ ∀ D, H1 D = none → LoopC (Itkt d o kvs) g tt te vs σ D (fun H => Q (.ref D) H) (upd H1 D (.lst [])))) : tLc (iKeys ta) g tt te vs σ H Q := h
theorem loopCK {d : Addr} {o : Obj} {kvs : List (Key × V)} {g : TG} {tt : TT} {vs : List Nat} {D : Addr} {Qd : Hp → Prop} (Pv : Nat → Hp → Prop) (h0 : Pv 0 H) (hl : ∀ i H, i ≤ kvs.length → Pv i H → H d = some (.frz o (.dK kvs)))
    (hs : ∀ i k v H, kvs[i]? = some (k, v) → Pv i H → g (kV k) (wipe σ vs) H fun σ2 H2 => wipe σ2 vs = wipe σ vs ∧ tt σ2 H2 fun b H3 =>
      if b = true then te σ2 H3 fun y H4 => ∃ acc, H4 D = some (.lst acc) ∧ acc.length < sizeLine ∧ Pv (i + 1) (upd H4 D (.lst (acc ++ [y]))) else Pv (i + 1) H3) (hd : ∀ H, Pv kvs.length H → Qd H) : LoopC (Itk d o kvs) g tt te vs σ D Qd H := by
  refine ⟨fun i m H => m = kvs.length - i ∧ i ≤ kvs.length ∧ Pv i H, ⟨kvs.length, by simp, Nat.zero_le _, h0⟩, ?_⟩
  rintro i m H ⟨rfl, hi, p⟩
  have q := hl i H hi p
  by_cases hlt : i < kvs.length
  · refine .inr ⟨⟨q, hlt⟩, Pv (i + 1), fun H' p' => ⟨kvs.length - (i + 1), by omega, rfl, hlt, p'⟩, fun x H' y => ?_⟩
    obtain ⟨e, k, v, ek, ex⟩ := y
    subst e
    subst ex
    exact hs i k v _ ek p
  · have e : i = kvs.length := by omega
    subst e
    exact .inl ⟨⟨q, Nat.le_refl _⟩, hd H p⟩
end
end Wx

/-! The tight paper: a mirror over beginnings. -/
namespace Wg
open PySem PySem.Spec PyProof.Rows L2 Wp Wq Wr Wk
/-! ### where piles are cut -/
section
variable {st : List W → Bool} {s : Nat} {p q : List W}
def E (st : List W → Bool) (s : Nat) (p : List W) : Nat → List Nat
  | 0 => [0]
  | h + 1 => if st (p.take (h + 1)) = true ∨ h + 1 - (E st s p h).getLastD 0 = s then E st s p h ++ [h + 1] else E st s p h
theorem E_take : ∀ (h m : Nat), h ≤ m → E st s (p.take m) h = E st s p h
  | 0, _, _ => rfl
  | h + 1, m, hm => by
    unfold E
    rw [E_take h m (by omega), List.take_take, Nat.min_eq_left hm]
theorem E_succ (h : Nat) : E st s p (h + 1) = E st s p h ++ [h + 1] ∨ E st s p (h + 1) = E st s p h := by
  show (if _ then _ else _) = _ ∨ (if _ then _ else _) = _
  split
  · exact .inl rfl
  · exact .inr rfl
theorem E_pre : ∀ {h m : Nat}, h ≤ m → E st s p h <+: E st s p m
  | h, 0, hm => by
    obtain rfl : h = 0 := by omega
    exact List.prefix_refl _
  | h, m + 1, hm => by
    by_cases e : h = m + 1
    · subst e; exact List.prefix_refl _
    · have ih := E_pre (h := h) (m := m) (by omega)
      rcases E_succ (st := st) (s := s) (p := p) m with e | e
      · rw [e]; exact ih.trans (List.prefix_append _ _)
      · rw [e]; exact ih
theorem E_ne (h : Nat) : E st s p h ≠ [] := by
  have := (E_pre (st := st) (s := s) (p := p) (Nat.zero_le h)).length_le
  intro e
  rw [e] at this
  simp [E] at this
/-- rising, ending at most at h -/
theorem E_rise : ∀ (h : Nat), (E st s p h).Pairwise (· < ·) ∧ ∀ x ∈ E st s p h, x ≤ h
  | 0 => by
    refine ⟨?_, fun x hx => ?_⟩
    · show List.Pairwise _ [0]
      simp
    · have : x = 0 := by simpa [E] using hx
      omega
  | h + 1 => by
    have ih := E_rise h
    rcases E_succ (st := st) (s := s) (p := p) h with e | e
    · rw [e]
      refine ⟨List.pairwise_append.mpr ⟨ih.1, by simp, fun a ha b hb => ?_⟩, fun x hx => ?_⟩
      · have := ih.2 a ha
        rw [List.mem_singleton.mp hb]
        omega
      · rcases List.mem_append.mp hx with hx | hx
        · have := ih.2 x hx; omega
        · rw [List.mem_singleton.mp hx]; exact Nat.le_refl _
    · rw [e]
      exact ⟨ih.1, fun x hx => by have := ih.2 x hx; omega⟩
theorem getD_app1 {l r : List Nat} {k d : Nat} (h : k < l.length) : (l ++ r).getD k d = l.getD k d := by
  rw [List.getD_eq_getElem?_getD, List.getD_eq_getElem?_getD, List.getElem?_append_left h]
theorem getD_app2 {l r : List Nat} {k d : Nat} (h : l.length ≤ k) : (l ++ r).getD k d = r.getD (k - l.length) d := by
  rw [List.getD_eq_getElem?_getD, List.getD_eq_getElem?_getD, List.getElem?_append_right h]
theorem last_mem {l : List Nat} (h : l ≠ []) : l.getLastD 0 ∈ l := by
  rw [List.getLastD_eq_getLast?, List.getLast?_eq_some_getLast h]
  exact List.getLast_mem h
/-- steps of at most s -/
theorem E_step (hs : 1 ≤ s) : ∀ (h : Nat), h - (E st s p h).getLastD 0 < s ∧ ∀ k, k + 1 < (E st s p h).length → (E st s p h).getD (k + 1) 0 - (E st s p h).getD k 0 ≤ s
  | 0 => by
    refine ⟨?_, fun k hk => ?_⟩
    · show 0 - 0 < s
      omega
    · simp [E] at hk
  | h + 1 => by
    have ih := E_step hs h
    have rise := E_rise (st := st) (s := s) (p := p) h
    have ne := E_ne (st := st) (s := s) (p := p) h
    have lm := rise.2 _ (last_mem ne)
    by_cases c : st (p.take (h + 1)) = true ∨ h + 1 - (E st s p h).getLastD 0 = s
    · have e : E st s p (h + 1) = E st s p h ++ [h + 1] := if_pos c
      rw [e]
      refine ⟨by simp; omega, fun k hk => ?_⟩
      rw [List.length_append, List.length_singleton] at hk
      by_cases ck : k + 1 < (E st s p h).length
      · rw [getD_app1 ck, getD_app1 (by omega)]
        exact ih.2 k ck
      · have e1 : k + 1 = (E st s p h).length := by omega
        rw [getD_app1 (show k < (E st s p h).length by omega), getD_app2 (by omega), e1, Nat.sub_self]
        have e2 : (E st s p h).getD k 0 = (E st s p h).getLastD 0 := by
          rw [List.getLastD_eq_getLast?, List.getLast?_eq_getElem?, List.getD_eq_getElem?_getD, ← e1]
          rfl
        rw [e2]
        show h + 1 - _ ≤ s
        omega
    · have e : E st s p (h + 1) = E st s p h := if_neg c
      rw [e]
      refine ⟨?_, ih.2⟩
      have : h + 1 - (E st s p h).getLastD 0 ≠ s := fun q => c (.inr q)
      omega
/-! ### cuts -/
def es (st : List W → Bool) (s : Nat) (p : List W) : List Nat := E st s p p.length
def hi (st : List W → Bool) (s : Nat) (p : List W) (k : Nat) : Nat := (es st s p).getD k 0
def cut (st : List W → Bool) (s : Nat) (p : List W) (k : Nat) : List W := p.take (hi st s p k)
def top (st : List W → Bool) (s : Nat) (p : List W) : Nat := (es st s p).length - 1
theorem es_ne : es st s p ≠ [] := E_ne _
theorem es_len : (es st s p).length = top st s p + 1 := by
  have := List.length_pos_iff.mpr (es_ne (st := st) (s := s) (p := p))
  unfold top
  omega
theorem hi_zero : hi st s p 0 = 0 := by
  have h := E_pre (st := st) (s := s) (p := p) (Nat.zero_le p.length)
  obtain ⟨r, hr⟩ := h
  unfold hi es
  rw [← hr]
  rfl
theorem hi_mem {k : Nat} (hk : k ≤ top st s p) : hi st s p k ∈ es st s p := by
  have h : k < (es st s p).length := by rw [es_len]; omega
  unfold hi
  rw [List.getD_eq_getElem?_getD, List.getElem?_eq_getElem h]
  exact List.getElem_mem h
theorem hi_le {k : Nat} (hk : k ≤ top st s p) : hi st s p k ≤ p.length := (E_rise p.length).2 _ (hi_mem hk)
theorem hi_lt {j k : Nat} (hj : j < k) (hk : k ≤ top st s p) : hi st s p j < hi st s p k := by
  have h : k < (es st s p).length := by rw [es_len]; omega
  have h2 : j < (es st s p).length := by omega
  have r := List.pairwise_iff_getElem.mp (show (es st s p).Pairwise (· < ·) from (E_rise (st := st) (s := s) (p := p) p.length).1) j k h2 h hj
  unfold hi
  rw [List.getD_eq_getElem?_getD, List.getD_eq_getElem?_getD, List.getElem?_eq_getElem h, List.getElem?_eq_getElem (show j < (es st s p).length by omega)]
  exact r
theorem cut_zero : cut st s p 0 = [] := by
  unfold cut
  rw [hi_zero, List.take_zero]
theorem cut_len {k : Nat} (hk : k ≤ top st s p) : (cut st s p k).length = hi st s p k := by
  unfold cut
  rw [List.length_take, Nat.min_eq_left (hi_le hk)]
theorem cut_ne {k : Nat} (h1 : 1 ≤ k) (hk : k ≤ top st s p) : cut st s p k ≠ [] := by
  intro e
  have l := cut_len hk
  rw [e] at l
  have := hi_lt (show 0 < k by omega) hk
  rw [hi_zero] at this
  simp at l
  omega
theorem cut_inj {j k : Nat} (hj : j ≤ top st s p) (hk : k ≤ top st s p) (e : cut st s p j = cut st s p k) : j = k := by
  have l := congrArg List.length e
  rw [cut_len hj, cut_len hk] at l
  by_cases c : j < k
  · have := hi_lt c hk; omega
  · by_cases c2 : k < j
    · have := hi_lt c2 hj; omega
    · omega
/-- a cut's own edges -/
theorem E_at : ∀ {h : Nat} {k : Nat}, k < (E st s p h).length → E st s p ((E st s p h).getD k 0) = (E st s p h).take (k + 1)
  | 0, k, hk => by
    have : k = 0 := by simp [E] at hk; omega
    subst this
    rfl
  | h + 1, k, hk => by
    rcases E_succ (st := st) (s := s) (p := p) h with e | e
    · rw [e] at hk ⊢
      rw [List.length_append, List.length_singleton] at hk
      by_cases c : k < (E st s p h).length
      · rw [getD_app1 c, E_at c, List.take_append_of_le_length (by omega)]
      · have e1 : k = (E st s p h).length := by omega
        rw [getD_app2 (by omega), e1, Nat.sub_self]
        show E st s p (h + 1) = _
        rw [e, List.take_of_length_le (by rw [List.length_append, List.length_singleton]; omega)]
    · rw [e] at hk ⊢
      exact E_at hk
theorem es_cut {k : Nat} (hk : k ≤ top st s p) : es st s (cut st s p k) = (es st s p).take (k + 1) := by
  unfold es
  rw [cut_len hk]
  unfold cut
  rw [E_take _ _ (Nat.le_refl _)]
  exact E_at (by have := es_len (st := st) (s := s) (p := p); unfold es at this; omega)
theorem top_cut {k : Nat} (hk : k ≤ top st s p) : top st s (cut st s p k) = k := by
  unfold top
  rw [es_cut hk, List.length_take, es_len]
  omega
theorem cut_cut {j k : Nat} (hj : j ≤ k) (hk : k ≤ top st s p) : cut st s (cut st s p k) j = cut st s p j := by
  have e : hi st s (cut st s p k) j = hi st s p j := by
    unfold hi
    rw [es_cut hk, List.getD_eq_getElem?_getD, List.getD_eq_getElem?_getD, List.getElem?_take_of_lt (by omega)]
  have l : hi st s p j ≤ hi st s p k := by
    by_cases c : j = k
    · subst c; exact Nat.le_refl _
    · exact Nat.le_of_lt (hi_lt (by omega) hk)
  show (cut st s p k).take (hi st s (cut st s p k) j) = _
  rw [e]
  unfold cut
  rw [List.take_take, Nat.min_eq_left l]
/-! ### laying -/
def place (L : List (List W)) (q : List W) : Int := if q = [] then -1 else (L.idxOf q : Int)
def lowOf (st : List W → Bool) (s : Nat) (q : List W) : List W := cut st s q (top st s q - 1)
def pieceOf (st : List W → Bool) (s : Nat) (L : List (List W)) (q : List W) : Pc := (place L (lowOf st s q), q.drop (lowOf st s q).length)
/-- q ends at a cut -/
def IsCut (st : List W → Bool) (s : Nat) (q : List W) : Prop := q ≠ [] ∧ cut st s q (top st s q) = q ∧ 1 ≤ top st s q
theorem low_cut {k : Nat} (hk : k ≤ top st s p) : lowOf st s (cut st s p k) = cut st s p (k - 1) := by
  unfold lowOf
  rw [top_cut hk, cut_cut (by omega) hk]
theorem cut_isCut {k : Nat} (h1 : 1 ≤ k) (hk : k ≤ top st s p) : IsCut st s (cut st s p k) := by
  refine ⟨cut_ne h1 hk, ?_, by rw [top_cut hk]; exact h1⟩
  rw [top_cut hk, cut_cut (Nat.le_refl _) hk]
structure LOk (st : List W → Bool) (s : Nat) (L : List (List W)) : Prop where
  nd : L.Nodup
  ic : ∀ q ∈ L, IsCut st s q
  cl : ∀ q ∈ L, lowOf st s q = [] ∨ lowOf st s q ∈ L
theorem LOk.nil : LOk st s [] := ⟨List.nodup_nil, (fun _ h => nomatch h), (fun _ h => nomatch h)⟩
theorem LOk.down {L : List (List W)} (h : LOk st s L) {k : Nat} (h1 : 2 ≤ k) (hk : k ≤ top st s p) (m : cut st s p k ∈ L) : cut st s p (k - 1) ∈ L := by
  rcases h.cl _ m with e | e
  · rw [low_cut hk] at e
    exact absurd e (cut_ne (by omega) (by omega))
  · rw [low_cut hk] at e
    exact e
/-- how many cuts are there already -/
theorem known {L : List (List W)} (h : LOk st s L) : ∀ n, n ≤ top st s p → ∃ k0, k0 ≤ n ∧ ∀ k, 1 ≤ k → k ≤ n → (cut st s p k ∈ L ↔ k ≤ k0)
  | 0, _ => ⟨0, Nat.le_refl _, fun k h1 h2 => by omega⟩
  | n + 1, hn => by
    by_cases c : cut st s p (n + 1) ∈ L
    · refine ⟨n + 1, Nat.le_refl _, fun k h1 h2 => ⟨fun _ => h2, fun _ => ?_⟩⟩
      have go : ∀ d, d ≤ n → cut st s p (n + 1 - d) ∈ L := by
        intro d
        induction d with
        | zero => intro _; exact c
        | succ d ih =>
          intro hd
          have := h.down (show 2 ≤ n + 1 - d by omega) (by omega) (ih (by omega))
          rw [show n + 1 - d - 1 = n + 1 - (d + 1) by omega] at this
          exact this
      have := go (n + 1 - k) (by omega)
      rw [show n + 1 - (n + 1 - k) = k by omega] at this
      exact this
    · obtain ⟨k0, h0, hk⟩ := known h n (by omega)
      refine ⟨k0, by omega, fun k h1 h2 => ?_⟩
      by_cases e : k = n + 1
      · subst e
        exact ⟨fun m => absurd m c, fun q => by omega⟩
      · exact hk k h1 (by omega)
def freshK (st : List W → Bool) (s : Nat) (L : List (List W)) (p : List W) : List Nat :=
  ((List.range (top st s p)).map fun i => top st s p - i).filter fun k => decide (cut st s p k ∉ L)
theorem fresh_eq {L : List (List W)} {k0 : Nat} (h0 : k0 ≤ top st s p) (hk : ∀ k, 1 ≤ k → k ≤ top st s p → (cut st s p k ∈ L ↔ k ≤ k0)) :
    freshK st s L p = (List.range (top st s p - k0)).map fun i => top st s p - i := by
  unfold freshK
  have e : List.range (top st s p) = List.range (top st s p - k0) ++ (List.range k0).map (top st s p - k0 + ·) := by
    rw [← List.range_add, Nat.sub_add_cancel h0]
  rw [e, List.map_append, List.filter_append]
  have a1 : ((List.range (top st s p - k0)).map fun i => top st s p - i).filter (fun k => decide (cut st s p k ∉ L)) = (List.range (top st s p - k0)).map fun i => top st s p - i := by
    rw [List.filter_eq_self]
    intro k hm
    obtain ⟨i, hi, rfl⟩ := List.mem_map.mp hm
    have hi := List.mem_range.mp hi
    rw [decide_eq_true_eq, hk _ (by omega) (by omega)]
    omega
  have a2 : (((List.range k0).map (top st s p - k0 + ·)).map fun i => top st s p - i).filter (fun k => decide (cut st s p k ∉ L)) = [] := by
    rw [List.filter_eq_nil_iff]
    intro k hm
    obtain ⟨j, hj, rfl⟩ := List.mem_map.mp hm
    obtain ⟨i, hi, rfl⟩ := List.mem_map.mp hj
    have hi := List.mem_range.mp hi
    rw [decide_eq_true_eq, hk _ (by omega) (by omega)]
    omega
  rw [a1, a2, List.append_nil]
def layL (st : List W → Bool) (s : Nat) (L : List (List W)) (p : List W) : List (List W) := L ++ (freshK st s L p).map (cut st s p)
end
end Wg

/-! The tight paper: right, and open to its piles. -/
namespace Wg
open PySem PySem.Spec PyProof.Rows L2 Wp Wq Wr Wk Wo
section
variable {st : List W → Bool} {s : Nat} {p q : List W} {L M : List (List W)}
theorem lay_eq {k0 : Nat} (h0 : k0 ≤ top st s p) (hk : ∀ k, 1 ≤ k → k ≤ top st s p → (cut st s p k ∈ L ↔ k ≤ k0)) :
    layL st s L p = L ++ (List.range (top st s p - k0)).map fun i => cut st s p (top st s p - i) := by
  unfold layL
  rw [fresh_eq h0 hk, List.map_map]
  rfl
theorem mem_lay (h : LOk st s L) : q ∈ layL st s L p ↔ q ∈ L ∨ ∃ k, 1 ≤ k ∧ k ≤ top st s p ∧ q = cut st s p k := by
  obtain ⟨k0, h0, hk⟩ := known (p := p) h _ (Nat.le_refl _)
  rw [lay_eq h0 hk, List.mem_append, List.mem_map]
  constructor
  · rintro (m | ⟨i, hi, rfl⟩)
    · exact .inl m
    · have := List.mem_range.mp hi
      exact .inr ⟨_, by omega, by omega, rfl⟩
  · rintro (m | ⟨k, h1, h2, rfl⟩)
    · exact .inl m
    · by_cases c : k ≤ k0
      · exact .inl ((hk k h1 h2).mpr c)
      · exact .inr ⟨top st s p - k, List.mem_range.mpr (by omega), by rw [show top st s p - (top st s p - k) = k by omega]⟩
theorem lay_ok (h : LOk st s L) (p : List W) : LOk st s (layL st s L p) := by
  obtain ⟨k0, h0, hk⟩ := known (p := p) h _ (Nat.le_refl _)
  refine ⟨?_, fun q hq => ?_, fun q hq => ?_⟩
  · rw [lay_eq h0 hk, List.nodup_append]
    refine ⟨h.nd, ?_, fun a ha b hb e => ?_⟩
    · rw [List.nodup_iff_pairwise_ne, List.pairwise_map]
      refine List.Pairwise.imp_of_mem (fun {i j} hi hj hij e => ?_) (List.pairwise_lt_range)
      have hi := List.mem_range.mp hi
      have hj := List.mem_range.mp hj
      have := cut_inj (by omega) (by omega) e
      omega
    · obtain ⟨i, hi, rfl⟩ := List.mem_map.mp hb
      have hi := List.mem_range.mp hi
      rw [e] at ha
      have := (hk _ (by omega) (by omega)).mp ha
      omega
  · rcases (mem_lay h).mp hq with m | ⟨k, h1, h2, rfl⟩
    · exact h.ic q m
    · exact cut_isCut h1 h2
  · rcases (mem_lay h).mp hq with m | ⟨k, h1, h2, rfl⟩
    · exact (h.cl q m).imp id fun m => (mem_lay h).mpr (.inl m)
    · rw [low_cut h2]
      by_cases c : k = 1
      · left
        rw [c]
        exact cut_zero
      · right
        exact (mem_lay h).mpr (.inr ⟨k - 1, by omega, by omega, rfl⟩)
def tightL (st : List W → Bool) (s : Nat) (Ps : List (List W)) (L : List (List W)) : List (List W) := Ps.foldl (layL st s) L
theorem tight_ok : ∀ {Ps L : List (List W)}, LOk st s L → LOk st s (tightL st s Ps L)
  | [], _, h => h
  | p :: Ps, _, h => tight_ok (Ps := Ps) (lay_ok h p)
theorem lay_pre : L <+: layL st s L p := List.prefix_append _ _
theorem tight_pre : ∀ {Ps L : List (List W)}, L <+: tightL st s Ps L
  | [], _ => List.prefix_refl _
  | p :: Ps, L => (lay_pre (p := p)).trans (tight_pre (Ps := Ps))
/-! ### places -/
theorem place_nil : place L [] = -1 := if_pos rfl
theorem place_mem (h : q ≠ []) : place L q = (L.idxOf q : Int) := if_neg h
theorem place_pre (hp : L <+: M) (h : q = [] ∨ q ∈ L) : place M q = place L q := by
  obtain ⟨r, rfl⟩ := hp
  by_cases c : q = []
  · rw [c, place_nil, place_nil]
  · rw [place_mem c, place_mem c, List.idxOf_append, if_pos (h.resolve_left c)]
theorem place_lt (h : q = [] ∨ q ∈ L) : -1 ≤ place L q ∧ place L q < L.length := by
  by_cases c : q = []
  · rw [c, place_nil]; omega
  · rw [place_mem c]
    have := List.idxOf_lt_length_of_mem (h.resolve_left c)
    omega
theorem place_ge (c : q ≠ []) : 0 ≤ place L q := by rw [place_mem c]; omega
theorem place_get (c : q ≠ []) (h : q ∈ L) : L[(place L q).toNat]? = some q := by
  rw [place_mem c, Int.toNat_natCast, List.getElem?_eq_getElem (List.idxOf_lt_length_of_mem h), List.getElem_idxOf]
theorem place_at {i : Nat} (nd : L.Nodup) (h : L[i]? = some q) (c : q ≠ []) : place L q = (i : Int) := by
  rw [place_mem c]
  obtain ⟨hi, e⟩ := List.getElem?_eq_some_iff.mp h
  have := nd.idxOf_getElem i hi
  rw [e] at this
  rw [this]
/-! ### the pieces -/
def piecesOf (st : List W → Bool) (s : Nat) (L : List (List W)) : List Pc := L.map (pieceOf st s L)
theorem piece_pre (h : LOk st s L) (hp : L <+: M) (m : q ∈ L) : pieceOf st s M q = pieceOf st s L q := by
  unfold pieceOf
  rw [place_pre hp (h.cl q m)]
def newPc (st : List W → Bool) (s : Nat) (L : List (List W)) (p : List W) (k : Nat) : Pc := (place L (cut st s p (k - 1)), (p.drop (hi st s p (k - 1))).take (hi st s p k - hi st s p (k - 1)))
theorem piece_cut {k : Nat} (h1 : 1 ≤ k) (hk : k ≤ top st s p) : pieceOf st s M (cut st s p k) = newPc st s M p k := by
  unfold pieceOf newPc
  rw [low_cut hk, cut_len (by omega)]
  congr 1
  unfold cut
  rw [List.drop_take]
theorem pieces_lay (h : LOk st s L) : piecesOf st s (layL st s L p) = piecesOf st s L ++ (freshK st s L p).map (newPc st s (layL st s L p) p) := by
  obtain ⟨k0, h0, hk⟩ := known (p := p) h _ (Nat.le_refl _)
  unfold piecesOf
  have e : layL st s L p = L ++ (freshK st s L p).map (cut st s p) := rfl
  generalize hM : layL st s L p = M at *
  conv => lhs; arg 2; rw [e]
  rw [List.map_append]
  congr 1
  · exact List.map_congr_left fun q hq => piece_pre h (by rw [e]; exact List.prefix_append _ _) hq
  · rw [List.map_map, fresh_eq h0 hk, List.map_map, List.map_map]
    refine List.map_congr_left fun i hi => ?_
    have := List.mem_range.mp hi
    exact piece_cut (k := top st s p - i) (by omega) (by omega)
theorem low_pre (h : IsCut st s q) : ∃ r, lowOf st s q ++ r = q ∧ q.drop (lowOf st s q).length = r ∧ 1 ≤ r.length ∧ (1 ≤ s → r.length ≤ s) := by
  obtain ⟨hn, hc, h1⟩ := h
  have hl : (lowOf st s q).length = hi st s q (top st s q - 1) := cut_len (by omega)
  have e : lowOf st s q = q.take (hi st s q (top st s q - 1)) := rfl
  have ht : hi st s q (top st s q) = q.length := by
    rw [← cut_len (Nat.le_refl _), hc]
  have hlt := hi_lt (show top st s q - 1 < top st s q by omega) (Nat.le_refl (top st s q))
  refine ⟨q.drop (hi st s q (top st s q - 1)), by rw [e, List.take_append_drop], by rw [hl], ?_, fun hs => ?_⟩
  · rw [List.length_drop]; omega
  · rw [List.length_drop]
    have stp := (E_step (st := st) (s := s) (p := q) hs q.length).2 (top st s q - 1) (by have := es_len (st := st) (s := s) (p := q); unfold es at this; omega)
    rw [show top st s q - 1 + 1 = top st s q by omega] at stp
    have s2 : hi st s q (top st s q) - hi st s q (top st s q - 1) ≤ s := stp
    omega
theorem down_all (h : LOk st s L) (m : q ∈ L) : ∀ k, 1 ≤ k → k ≤ top st s q → cut st s q k ∈ L := by
  have hc := (h.ic q m).2.1
  have go : ∀ d, d < top st s q → cut st s q (top st s q - d) ∈ L := by
    intro d
    induction d with
    | zero => intro _; rw [Nat.sub_zero, hc]; exact m
    | succ d ih =>
      intro hd
      have := h.down (show 2 ≤ top st s q - d by omega) (by omega) (ih (by omega))
      rw [show top st s q - d - 1 = top st s q - (d + 1) by omega] at this
      exact this
  intro k h1 h2
  have := go (top st s q - k) (by omega)
  rw [show top st s q - (top st s q - k) = k by omega] at this
  exact this
theorem opens_cut (h : LOk st s L) (m : q ∈ L) : ∀ k, k ≤ top st s q → OpensN (piecesOf st s L) k (place L (cut st s q k)) (cut st s q k)
  | 0, _ => by
    rw [cut_zero, place_nil]
    exact .nil
  | k + 1, hk => by
    have ih := opens_cut h m k (by omega)
    have mc := down_all h m (k + 1) (by omega) hk
    have ic := h.ic _ mc
    obtain ⟨r, e1, e2, _⟩ := low_pre ic
    have el : lowOf st s (cut st s q (k + 1)) = cut st s q k := low_cut hk
    have hg : (piecesOf st s L)[(place L (cut st s q (k + 1))).toNat]? = some (pieceOf st s L (cut st s q (k + 1))) := by
      unfold piecesOf
      rw [List.getElem?_map, place_get ic.1 mc]
      rfl
    unfold pieceOf at hg
    rw [e2, el] at hg
    rw [el] at e1
    have := OpensN.cons hg (place_ge ic.1) ih
    rw [e1] at this
    exact this
theorem opens (h : LOk st s L) (m : q = [] ∨ q ∈ L) : ∃ n, n ≤ q.length ∧ OpensN (piecesOf st s L) n (place L q) q := by
  by_cases c : q = []
  · subst c
    refine ⟨0, Nat.le_refl _, ?_⟩
    rw [place_nil]
    exact .nil
  · have m := m.resolve_left c
    have ho := opens_cut h m (top st s q) (Nat.le_refl _)
    rw [(h.ic q m).2.1] at ho
    refine ⟨_, ?_, ho⟩
    have := (E_rise (st := st) (s := s) (p := q) q.length).1
    have h2 : ∀ k, k ≤ top st s q → k ≤ hi st s q k := by
      intro k
      induction k with
      | zero => intro _; omega
      | succ k ih =>
        intro hk
        have := ih (by omega)
        have := hi_lt (show k < k + 1 by omega) hk
        omega
    exact Nat.le_trans (h2 _ (Nat.le_refl _)) (hi_le (Nat.le_refl _))
/-! ### numbered as they are come to -/
def undersOf (st : List W → Bool) (s : Nat) (L : List (List W)) : List Int := (piecesOf st s L).map (·.1)
theorem unders_len : (undersOf st s L).length = L.length := by unfold undersOf piecesOf; rw [List.length_map, List.length_map]
theorem unders_at {i : Nat} (hp : L <+: M) (h : LOk st s L) (e : L[i]? = some q) : Wx.uAt (undersOf st s M) (i : Int) = place L (lowOf st s q) := by
  obtain ⟨r, rfl⟩ := hp
  unfold Wx.uAt undersOf piecesOf
  have hi := (List.getElem?_eq_some_iff.mp e).1
  rw [Int.toNat_natCast, List.getD_eq_getElem?_getD, List.getElem?_map, List.getElem?_map, List.getElem?_append_left hi, e]
  show place _ _ = _
  exact place_pre (List.prefix_append _ _) (h.cl q (List.mem_of_getElem? e))
theorem full (h : st p = true) (hn : p ≠ []) : cut st s p (top st s p) = p ∧ 1 ≤ top st s p := by
  have hl : 1 ≤ p.length := List.length_pos_iff.mpr hn
  have e : es st s p = E st s p (p.length - 1) ++ [p.length] := by
    unfold es
    obtain ⟨n, hn⟩ : ∃ n, p.length = n + 1 := ⟨p.length - 1, by omega⟩
    rw [hn]
    show E st s p (n + 1) = E st s p (n + 1 - 1) ++ [n + 1]
    have : E st s p (n + 1) = E st s p n ++ [n + 1] := if_pos (.inl (by rw [← hn, List.take_length]; exact h))
    rw [this, Nat.add_sub_cancel]
  have hne := List.length_pos_iff.mpr (E_ne (st := st) (s := s) (p := p) (p.length - 1))
  have ht : top st s p = (E st s p (p.length - 1)).length := by
    unfold top
    rw [e, List.length_append, List.length_singleton, Nat.add_sub_cancel]
  refine ⟨?_, by omega⟩
  have : hi st s p (top st s p) = p.length := by
    unfold hi
    rw [e, ht, getD_app2 (Nat.le_refl _), Nat.sub_self]
    rfl
  unfold cut
  rw [this, List.take_length]
theorem run_stop {u : List Int} {f m : Nat} {a : Int} (h : a ≠ m) : Wx.runM u f m a = (m, a) := by
  cases f with
  | zero => rfl
  | succ f =>
    show (if a = m ∧ m < u.length then _ else _) = _
    rw [if_neg fun q => h q.1]
theorem run_go {u : List Int} {f m : Nat} (h : m < u.length) : Wx.runM u (f + 1) m m = Wx.runM u f (m + 1) (Wx.uAt u m) := by
  show (if (m : Int) = m ∧ m < u.length then _ else _) = _
  rw [if_pos ⟨rfl, h⟩]
theorem numbered : ∀ (Ps L : List (List W)), LOk st s L → (∀ p ∈ Ps, p ≠ [] → st p = true) → Wx.numGo (undersOf st s (tightL st s Ps L)) L.length (Ps.map (place (tightL st s Ps L))) = some (tightL st s Ps L).length
  | [], L, _, _ => rfl
  | p :: Ps, L, h, hst => by
    have h1 := lay_ok h p
    have hp1 : layL st s L p <+: tightL st s Ps (layL st s L p) := tight_pre
    have ih := numbered Ps (layL st s L p) h1 fun q hq => hst q (List.mem_cons_of_mem _ hq)
    have eF : tightL st s (p :: Ps) L = tightL st s Ps (layL st s L p) := rfl
    rw [eF]
    generalize tightL st s Ps (layL st s L p) = F at *
    rw [List.map_cons]
    obtain ⟨k0, h0, hk⟩ := known (p := p) h _ (Nat.le_refl _)
    have el := lay_eq h0 hk
    have ll : (layL st s L p).length = L.length + (top st s p - k0) := by rw [el, List.length_append, List.length_map, List.length_range]
    have lF := hp1.length_le
    have hu : (undersOf st s F).length = F.length := unders_len
    -- the way down
    have lowk : cut st s p k0 = [] ∨ cut st s p k0 ∈ L := by
      by_cases c : k0 = 0
      · left; rw [c]; exact cut_zero
      · right; exact (hk k0 (by omega) h0).mpr (Nat.le_refl _)
    have pl := place_lt lowk
    have at_ : ∀ i, i < top st s p - k0 → (layL st s L p)[L.length + i]? = some (cut st s p (top st s p - i)) := by
      intro i hi
      rw [el, List.getElem?_append_right (by omega), Nat.add_sub_cancel_left, List.getElem?_map, List.getElem?_range hi]
      rfl
    have down : ∀ (j i fuel : Nat), i + j = top st s p - k0 → j ≤ fuel → Wx.runM (undersOf st s F) fuel (L.length + i) (if i < top st s p - k0 then ((L.length + i : Nat) : Int) else place L (cut st s p k0)) = (L.length + (top st s p - k0), place L (cut st s p k0)) := by
      intro j
      induction j with
      | zero =>
        intro i fuel hi _
        rw [if_neg (by omega), run_stop (by omega), show L.length + i = L.length + (top st s p - k0) by omega]
      | succ j ihj =>
        intro i fuel hi hf
        rw [if_pos (by omega)]
        obtain ⟨f', rfl⟩ : ∃ f', fuel = f' + 1 := ⟨fuel - 1, by omega⟩
        rw [run_go (by rw [hu]; omega), unders_at hp1 h1 (at_ i (by omega)), low_cut (by omega)]
        have e2 : place (layL st s L p) (cut st s p (top st s p - i - 1)) = if i + 1 < top st s p - k0 then ((L.length + (i + 1) : Nat) : Int) else place L (cut st s p k0) := by
          by_cases c : i + 1 < top st s p - k0
          · rw [if_pos c]
            have a2 := at_ (i + 1) c
            rw [show top st s p - i - 1 = top st s p - (i + 1) by omega]
            exact place_at h1.nd a2 (cut_ne (by omega) (by omega))
          · rw [if_neg c, show top st s p - i - 1 = k0 by omega]
            exact place_pre lay_pre lowk
        rw [e2]
        exact ihj (i + 1) f' (by omega) (by omega)
    have first : place F p = if 0 < top st s p - k0 then ((L.length + 0 : Nat) : Int) else place L (cut st s p k0) := by
      by_cases c : p = []
      · subst c
        have t0 : top st s ([] : List W) = 0 := rfl
        rw [t0] at h0 ⊢
        rw [if_neg (by omega), place_nil, show k0 = 0 by omega, cut_zero, place_nil]
      · obtain ⟨fc, f1⟩ := full (s := s) (hst p List.mem_cons_self c) c
        have pm : p ∈ layL st s L p := (mem_lay h).mpr (.inr ⟨top st s p, f1, Nat.le_refl _, fc.symm⟩)
        rw [place_pre hp1 (.inr pm)]
        by_cases c2 : 0 < top st s p - k0
        · rw [if_pos c2]
          have a2 := at_ 0 c2
          rw [Nat.sub_zero, fc] at a2
          exact place_at h1.nd a2 c
        · rw [if_neg c2, show k0 = top st s p by omega, fc]
          rw [show k0 = top st s p by omega, fc] at lowk
          exact place_pre lay_pre lowk
    have run := down (top st s p - k0) 0 ((undersOf st s F).length - L.length) (by omega) (by rw [hu]; omega)
    rw [← first, Nat.add_zero] at run
    show (if (Wx.runM (undersOf st s F) ((undersOf st s F).length - L.length) L.length (place F p)).2 ≠ -1 ∧ ¬ (0 ≤ (Wx.runM (undersOf st s F) ((undersOf st s F).length - L.length) L.length (place F p)).2 ∧ (Wx.runM (undersOf st s F) ((undersOf st s F).length - L.length) L.length (place F p)).2 < L.length) then none else Wx.numGo (undersOf st s F) (Wx.runM (undersOf st s F) ((undersOf st s F).length - L.length) L.length (place F p)).1 (Ps.map (place F))) = some F.length
    rw [run]
    dsimp only
    rw [if_neg (by omega), ← ll]
    exact ih
end
end Wg

/-! Bags; lists of drawn worths. -/
namespace Wb
open PySem PySem.Spec PyProof.Rows L2 Wp Wq Wr
def Bag (H : Hp) (b : Addr) (n : Nat) : Prop := ∃ x y z : Int, H b = some (.lst [.int x, .int y, .int z]) ∧ 0 ≤ y ∧ y < 4611686018427387904 ∧ 0 ≤ z ∧ z ≤ n
theorem Bag.mono {H : Hp} {b : Addr} {n m : Nat} (h : Bag H b n) (k : n ≤ m) : Bag H b m := by
  obtain ⟨x, y, z, h1, h2, h3, h4, h5⟩ := h
  exact ⟨x, y, z, h1, h2, h3, h4, by omega⟩
theorem Bag.ne_new {H : Hp} {b p : Addr} {n : Nat} (h : Bag H b n) (k : H p = none) : p ≠ b := by
  obtain ⟨x, y, z, h1, h⟩ := h
  exact (ne_of_none h1 k).symm
theorem Bag.keep {H H' : Hp} {b : Addr} {n : Nat} (h : Bag H b n) (k : Same H H') : Bag H' b n := by
  obtain ⟨x, y, z, h1, h⟩ := h
  exact ⟨x, y, z, k _ _ h1, h⟩
theorem Bag.upd {H : Hp} {b r : Addr} {n : Nat} {o : HO} (h : Bag H b n) (k : r ≠ b) : Bag (L2.upd H r o) b n := by
  obtain ⟨x, y, z, h1, h⟩ := h
  exact ⟨x, y, z, by rw [upd_ne k.symm]; exact h1, h⟩
theorem Bag.ks {H H' : Hp} {b : Addr} {n : Nat} (h : Bag H b n) (k : Kp b H H') : Ks [b] H H' := by
  obtain ⟨x, y, z, h1, h⟩ := h
  exact Ks.kp k h1 List.mem_cons_self
theorem Bag.at {H H' : Hp} {b : Addr} {n : Nat} (h : Bag H b n) (k : ∀ o, H b = some o → H' b = some o) : Bag H' b n := by
  obtain ⟨x, y, z, h1, h⟩ := h
  exact ⟨x, y, z, k _ h1, h⟩
theorem small {n : Nat} (h : n < 1000000) : n < sizeLine := Nat.lt_of_lt_of_le h (by decide)
section
variable {S : List Addr} {H H1 H2 : Hp} {a b D : Addr} {σ : L2.St} {g : TG} {te : TE} {vs : List Nat} {Qd : Hp → Prop}
/-- a new list is not looked at by what stood -/
theorem Ks.drop (x : Ks (D :: S) H1 H2) (s : Ks S H H1) (n : H D = none) : Ks S H H2 :=
  ⟨fun a o na e => x.keep a o (fun q => (List.mem_cons.mp q).elim (fun q => by rw [q, n] at e; cases e) na) (s.keep a o na e), s.tk.trans x.tk⟩
theorem Ks.kpOf (x : Ks [b] H H1) : Kp b H H1 := fun a o n e => x.keep a o (fun q => n (List.mem_singleton.mp q)) e
theorem Ks.kpNew (x : Ks (D :: [b]) H1 H2) (s : Same H H1) (n : H D = none) : Kp b H H2 := Ks.kpOf (Ks.drop x (Ks.same s) n)
theorem Ks.updD {o : HO} {bs : List V} (h : H D = some (.lst bs)) : Ks [D] H (upd H D o) := Ks.upd h List.mem_cons_self
/-- [.. for j in range(m)], a bag and a new list of worths -/
theorem lc_worths {m n inc : Nat} {ok : W → Prop} (hm : m < 1000) (hb : Bag H b n) (hD : H D = none)
    (body : ∀ (j : Nat) (H1 : Hp), j < m → ∀ R : V → Hp → Prop, Bag H1 b (n + inc * j) → Ks [D, b] (upd H D (.lst [])) H1 → (∀ v z H2, IsW H2 v z → ok z → Bag H2 b (n + inc * j + inc) → Kp b H1 H2 → R v H2) →
      g (.int (0 + (j : Int))) (wipe σ vs) H1 fun σ2 H2 => wipe σ2 vs = wipe σ vs ∧ te σ2 H2 R)
    (done : ∀ (H1 : Hp) (acc : List V) (ws : List W), Bag H1 b (n + inc * m) → Ks [b] H H1 → H1 D = some (.lst acc) → Pile H1 acc ws → ws.length = m → (∀ z ∈ ws, ok z) → Qd H1) :
    LoopC (Itr 0 m) g tYes te vs σ D Qd (upd H D (.lst [])) := by
  have hDb : D ≠ b := hb.ne_new hD
  refine loopCR (fun j H' => Bag H' b (n + inc * j) ∧ Ks [D, b] (upd H D (.lst [])) H' ∧ ∃ acc ws, H' D = some (.lst acc) ∧ Pile H' acc ws ∧ ws.length = j ∧ ∀ z ∈ ws, ok z) ⟨hb.keep (same_new hD), Ks.refl, [], [], upd_same, Pile.nil, rfl, (fun _ h => nomatch h)⟩ ?_ ?_
  · rintro j H3 hj ⟨hb3, k3, acc, ws, hD3, p3, wl, wok⟩
    refine body j H3 hj (fun y H4 => ∃ acc, H4 D = some (.lst acc) ∧ acc.length < sizeLine ∧ _) hb3 k3 fun v z H4 wz oz hb4 k4 => ?_
    have tk4 : Tk H3 H4 := (hb3.ks k4).tk
    have hD4 := k4 _ _ hDb hD3
    refine ⟨acc, hD4, ?_, ?_, ?_, _, _, upd_same, (Pile.app (p3.keep tk4) (Pile.one wz)).keep (Tk.lst hD4), ?_, ?_⟩
    · rw [p3.len]; exact small (by omega)
    · rw [Nat.mul_succ, ← Nat.add_assoc]
      exact hb4.upd hDb
    · exact k3.trans ((Ks.mono (hb3.ks k4) (by simp)).trans (Ks.upd hD4 List.mem_cons_self))
    · rw [List.length_append, wl] <;> rfl
    · intro x hx
      rcases List.mem_append.mp hx with hx | hx
      · exact wok x hx
      · rw [List.mem_singleton.mp hx]; exact oz
  · rintro H3 ⟨hb3, k3, acc, ws, hD3, p3, wl, wok⟩
    exact done H3 acc ws hb3 (Ks.drop k3 (Ks.same (same_new hD)) hD) hD3 p3 wl wok
end
end Wb

/-! Lists of piles as data; sorted. -/
namespace Wc
open PySem PySem.Spec PyProof.Rows L2 Wp Wq Wr Wk Wb
def lD (p : List W) : PyData := .list (p.map wD)
def PsOk (Ps : List (List W)) : Prop := ∀ q ∈ Ps, q.length ≤ 400 ∧ ∀ z ∈ q, Wok z
section
variable {S : List Addr} {H H1 H2 : Hp} {a b D : Addr} {K : PySem.W.Frag} {ys : List V} {Ps : List (List W)} {v : V} {p : List W}
theorem IsLs.dp (h : IsLs S H v p) : Dp K H v (lD p) := by
  obtain ⟨l, vs, rfl, hl, hp, _⟩ := h
  exact hp.dp (SqL.of hl)
theorem Lists.dpAll (h : Lists S H ys Ps) : DpAll K H ys (Ps.map lD) := by
  unfold Lists at h
  induction h with
  | nil => exact .nil
  | cons r t ih => exact .cons (IsLs.dp r) ih
theorem Lists.dp (h : Lists S H ys Ps) (e : SqL K H a ys) : Dp K H (.ref a) (.list (Ps.map lD)) := .lst e (Lists.dpAll h)
theorem lD_lay (h : ∀ z ∈ p, Wok z) : (lD p).canLay0 = true := by
  unfold lD
  simp only [PyData.canLay0]
  exact wDs_lay p h
theorem lDs_lay : ∀ Ps : List (List W), PsOk Ps → PyData.canLayAll0 (Ps.map lD) = true
  | [], _ => by simp [PyData.canLayAll0]
  | p :: Ps, h => by
    rw [List.map_cons]
    simp only [PyData.canLayAll0]
    rw [lD_lay (h p List.mem_cons_self).2, lDs_lay Ps (fun x hx => h x (List.mem_cons_of_mem _ hx))] <;> rfl
theorem lD_depth (p : List W) : (lD p).depth ≤ 2 := by
  have := wDs_depth p
  unfold lD
  simp only [PyData.depth]
  omega
theorem lDs_depth : ∀ Ps : List (List W), PyData.depthAll (Ps.map lD) ≤ 2
  | [] => by simp [PyData.depthAll]
  | p :: Ps => by
    have h := lDs_depth Ps
    have h2 := lD_depth p
    rw [List.map_cons]
    simp only [PyData.depthAll]
    omega
theorem lDs_shaped (h : PsOk Ps) : SeqAt.shaped (.list (Ps.map lD)) = true := by
  have h2 := lDs_depth Ps
  have h3 : (PyData.list (Ps.map lD)).depth ≤ 64 := by
    simp only [PyData.depth]
    omega
  show (PyData.canLay0 (.list (Ps.map lD)) && decide ((PyData.list (Ps.map lD)).depth ≤ 64)) = true
  rw [decide_eq_true h3, Bool.and_true]
  simp only [PyData.canLay0]
  exact lDs_lay Ps h
/-! ### sorted -/
def RB (S : List Addr) (H : Hp) (b : Ws.VD) (p : List W) : Prop := b.2 = lD p ∧ IsLs S H b.1 p
theorem lists_bs (h : Lists S H ys Ps) : ∃ bs : List Ws.VD, bs.map (·.1) = ys ∧ Paired (RB S H) bs Ps := by
  unfold Lists at h
  induction h with
  | nil => exact ⟨[], rfl, .nil⟩
  | @cons x p l1 l2 r t ih =>
    obtain ⟨bs, e, q⟩ := ih
    exact ⟨(x, lD p) :: bs, by rw [List.map_cons, e], .cons ⟨rfl, r⟩ q⟩
theorem bs_lists {bs : List Ws.VD} (h : Paired (RB S H) bs Ps) : Lists S H (bs.map (·.1)) Ps := by
  induction h with
  | nil => exact .nil
  | cons r t ih => exact .cons r.2 ih
theorem perm_pair {α β : Type} {R : α → β → Prop} {l1 l1' : List α} (h : l1'.Perm l1) : ∀ {l2 : List β}, Paired R l1 l2 → ∃ l2', l2'.Perm l2 ∧ Paired R l1' l2' := by
  induction h with
  | nil => intro l2 q; cases q; exact ⟨[], .nil, .nil⟩
  | cons x _ ih =>
    intro l2 q
    cases q with
    | @cons _ y _ t r q =>
      obtain ⟨t', ht, qt⟩ := ih q
      exact ⟨y :: t', .cons _ ht, .cons r qt⟩
  | swap x y l =>
    intro l2 q
    cases q with
    | cons r q => cases q with
      | cons r2 q => exact ⟨_, .swap _ _ _, .cons r2 (.cons r q)⟩
  | trans _ _ ih1 ih2 =>
    intro l2 q
    obtain ⟨m, hm, qm⟩ := ih2 q
    obtain ⟨l', hl, ql⟩ := ih1 qm
    exact ⟨l', hl.trans hm, ql⟩
theorem le_lt {a b : Ws.VD} {p q : List W} (ha : a.2 = lD p) (hb : b.2 = lD q) (h : Ws.leD a b = true) : ltR q p = false := by
  have h2 : (!PySem.W.dataLt b.2 a.2) = true := h
  rw [ha, hb] at h2
  have e : PySem.W.dataLt (lD q) (lD p) = ltR q p := PySem.W.dataLt_list _ _
  rw [e] at h2
  cases c : ltR q p with
  | false => rfl
  | true => rw [c] at h2; cases h2
theorem pair_wise {bs : List Ws.VD} (h : Paired (RB S H) bs Ps) (hs : bs.Pairwise (fun a b => Ws.leD a b = true)) : Ps.Pairwise (fun a b => ltR b a = false) := by
  induction h with
  | nil => exact .nil
  | @cons x p l1 l2 r t ih =>
    rw [List.pairwise_cons] at hs ⊢
    refine ⟨fun q hq => ?_, ih hs.2⟩
    obtain ⟨i, hi⟩ := List.mem_iff_getElem?.mp hq
    obtain ⟨b, hb, rb⟩ := pair_at t hi
    exact le_lt r.1 rb.1 (hs.1 b (List.mem_of_getElem? hb))
theorem leD_total : PySem.W.TotalLe Ws.leD := PySem.W.sortLe_total _ false _
theorem sorted_bs {bs : List Ws.VD} (h : Paired (RB S H) bs Ps) : ∃ Ps', Ps'.Perm Ps ∧ Lists S H ((bs.mergeSort Ws.leD).map (·.1)) Ps' ∧ Ps'.Pairwise (fun a b => ltR b a = false) := by
  obtain ⟨Ps', hp, q⟩ := perm_pair (List.mergeSort_perm bs Ws.leD) h
  exact ⟨Ps', hp, bs_lists q, pair_wise q (PySem.W.sort_pairwise leD_total bs)⟩
theorem bs_dp {bs : List Ws.VD} (h : Paired (RB S H) bs Ps) : ∀ b ∈ bs, Dp K H b.1 b.2 := fun b hb => by
  obtain ⟨i, hi⟩ := List.mem_iff_getElem?.mp hb
  obtain ⟨p, _, e, r⟩ := pair_at1 h hi
  rw [e]
  exact IsLs.dp r
theorem alikeL : ∀ (p q : List W), PySem.W.alikeAll (p.map wD) (q.map wD) = true
  | [], _ => by simp [PySem.W.alikeAll]
  | _ :: _, [] => by simp [PySem.W.alikeAll]
  | x :: p, y :: q => by
    rw [List.map_cons, List.map_cons]
    simp only [PySem.W.alikeAll]
    rw [alikeW, alikeL p q] <;> rfl
theorem bs_alike {bs : List Ws.VD} (h : Paired (RB S H) bs Ps) : PySem.W.AllAlike (bs.map (·.2)) := by
  intro d hd d' hd'
  obtain ⟨b, hb, rfl⟩ := List.mem_map.mp hd
  obtain ⟨b', hb', rfl⟩ := List.mem_map.mp hd'
  obtain ⟨i, hi⟩ := List.mem_iff_getElem?.mp hb
  obtain ⟨j, hj⟩ := List.mem_iff_getElem?.mp hb'
  obtain ⟨p, _, e, _⟩ := pair_at1 h hi
  obtain ⟨q, _, e', _⟩ := pair_at1 h hj
  rw [e, e']
  unfold lD
  simp only [PySem.W.alike]
  exact alikeL p q
theorem bs_sortable {bs : List Ws.VD} (h : Paired (RB S H) bs Ps) : PySem.W.Sortable (bs.map (·.2)) := .inr fun d hd => by
  obtain ⟨b, hb, rfl⟩ := List.mem_map.mp hd
  obtain ⟨i, hi⟩ := List.mem_iff_getElem?.mp hb
  obtain ⟨p, _, e, _⟩ := pair_at1 h hi
  rw [e]
  exact ⟨(fun q => nomatch q), fun xs q => nomatch q⟩
theorem bs_depth {bs : List Ws.VD} (h : Paired (RB S H) bs Ps) : ∀ b ∈ bs, b.2.depth ≤ 60 := fun b hb => by
  obtain ⟨i, hi⟩ := List.mem_iff_getElem?.mp hb
  obtain ⟨p, _, e, _⟩ := pair_at1 h hi
  rw [e]
  exact Nat.le_trans (lD_depth p) (by decide)
/-- the sorted list of piles -/
theorem sort_lists {Q : VK} {X : List V} (h : Lists S H ys Ps) (e : X = [.ref a]) (hs : SqL K H a ys) (q : ∀ (q : Addr) (ys' : List V) (Ps' : List (List W)), H q = none → Ps'.Perm Ps → Lists S H ys' Ps' → Ps'.Pairwise (fun a b => ltR b a = false) → Q (.ref q) (upd H q (.lst ys'))) : Ws.rSortD K X H Q := by
  obtain ⟨bs, eb, hb⟩ := lists_bs h
  obtain ⟨Ps', hp, L, hw⟩ := sorted_bs hb
  exact ⟨a, bs, e, by rw [eb]; exact hs, bs_dp hb, bs_alike hb, bs_sortable hb, bs_depth hb, fun p hp0 => q p _ Ps' hp0 hp L hw⟩
end
/-! ### sums -/
theorem sumL_snoc : ∀ (l : List (List W)) (prev p : List W), sumL prev (l ++ [p]) = sumL prev l + (p.length - lcp (l.getLastD prev) p)
  | [], prev, p => by
    show (p.length - lcp prev p) + 0 = 0 + _
    rw [Nat.add_zero, Nat.zero_add]
    rfl
  | q :: l, prev, p => by
    show (q.length - lcp prev q) + sumL q (l ++ [p]) = (q.length - lcp prev q) + sumL q l + _
    rw [sumL_snoc l q p, Nat.add_assoc]
    congr 3
    cases l <;> simp [List.getLastD]
theorem lcp_step : ∀ {a b : List W} {m : Nat}, m ≤ lcp a b → (m < lcp a b ↔ ∃ z, a[m]? = some z ∧ b[m]? = some z)
  | [], b, m, h => by
    have e : lcp [] b = 0 := lcp_nil b
    rw [e] at h ⊢
    simp
  | x :: xs, [], m, h => by
    have e : lcp (x :: xs) [] = 0 := rfl
    rw [e] at h ⊢
    simp
  | x :: xs, y :: ys, m, h => by
    rw [lcp_cons] at h ⊢
    by_cases c : x = y
    · rw [if_pos c] at h ⊢
      subst c
      cases m with
      | zero => simp
      | succ m =>
        have ih := lcp_step (a := xs) (b := ys) (m := m) (by omega)
        rw [List.getElem?_cons_succ, List.getElem?_cons_succ, ← ih]
        omega
    · rw [if_neg c] at h ⊢
      have e : m = 0 := by omega
      subst e
      simp only [List.getElem?_cons_zero]
      constructor
      · intro q; omega
      · rintro ⟨z, h1, h2⟩
        cases h1
        cases h2
        exact absurd rfl c
theorem cut_drop {xs : List V} {n : Nat} : cutV xs (some (n : Int)) none = xs.drop n := by
  unfold cutV
  rw [show HT.sIx xs.length 0 (some (n : Int)) = min n xs.length from HT.sIx_nat .., show HT.sIx xs.length xs.length none = xs.length from HT.sIx_none ..]
  by_cases h : n ≤ xs.length
  · rw [Nat.min_eq_left h, List.take_of_length_le (by rw [List.length_drop]; omega)]
  · rw [Nat.min_eq_right (by omega), List.drop_of_length_le (Nat.le_refl _), List.drop_of_length_le (by omega), List.take_nil]
theorem Lists.take {S : List Addr} {H : Hp} {ys : List V} {Ps : List (List W)} (h : Lists S H ys Ps) : ∀ n, Lists S H (ys.take n) (Ps.take n) := by
  unfold Lists at *
  induction h with
  | nil => intro n; cases n <;> exact .nil
  | cons r t ih => intro n; cases n with
    | zero => exact .nil
    | succ n => exact .cons r (ih n)
theorem Lists.drop {S : List Addr} {H : Hp} {ys : List V} {Ps : List (List W)} (h : Lists S H ys Ps) : ∀ n, Lists S H (ys.drop n) (Ps.drop n) := by
  unfold Lists at *
  induction h with
  | nil => intro n; cases n <;> exact .nil
  | cons r t ih => intro n; cases n with
    | zero => exact .cons r t
    | succ n => exact ih n
theorem Lists.rev {S : List Addr} {H : Hp} {ys : List V} {Ps : List (List W)} (h : Lists S H ys Ps) : Lists S H ys.reverse Ps.reverse := by
  unfold Lists at *
  induction h with
  | nil => exact .nil
  | cons r t ih =>
    rw [List.reverse_cons, List.reverse_cons]
    exact pair_app ih (.cons r .nil)
theorem revL {σ : L2.St} {H : Hp} {Q : VK} {te : TE} {K : PySem.W.Frag} (h : te σ H fun x H1 => ∃ a xs, x = .ref a ∧ SqL K H1 a xs ∧ ∀ p, H1 p = none → Q (.ref p) (upd H1 p (.lst xs.reverse))) : tRevL K te σ H Q := h
end Wc

/-! More steps: pairs stored, dict comprehensions over a list, zip. -/
namespace Wz
open PySem PySem.Spec PyProof.Rows L2 Wp Wq Wr
section
variable {σ : L2.St} {H : Hp} {Q : VK} {D : Ends} {ta : TA} {te : TE} {g : TG} {tb : TS} {tt : TT} {tk tv : TE} {vs : List Nat} {K : PySem.W.Frag} {a b : Addr} {xs ys : List V} {i j : Nat}
theorem par (h : ta σ H fun us H1 => ∃ v w, us = [v, w] ∧ D.nx ((σ.set i (some v)).set j (some w)) H1) : tPar i j ta D σ H := h
def LoopD (J : It) (g : TG) (tt : TT) (tk tv : TE) (vs : List Nat) (σ : L2.St) (D : Addr) (Qd : Hp → Prop) (H0 : Hp) : Prop := ∃ W : Nat → Nat → Hp → Prop, (∃ m, W 0 m H0) ∧ ∀ i m H, W i m H →
  (J.stop i H ∧ Qd H) ∨ (J.go i H ∧ ∃ Nx : Hp → Prop, (∀ H', Nx H' → ∃ m', m' < m ∧ W (i + 1) m' H') ∧ ∀ x H', J.yld i H x H' → g x (wipe σ vs) H' fun σ2 H2 => wipe σ2 vs = wipe σ vs ∧ tt σ2 H2 fun b H3 =>
    if b = true then tk σ2 H3 fun y H4 => tv σ2 H4 fun z H5 => ∃ kvs k, y = kV k ∧ H5 D = some (.dK kvs) ∧ kvs.length < sizeLine ∧ Nx (upd H5 D (.dK (putK kvs k z))) else Nx H3)
theorem dcL (h : te σ H fun x H1 => ∃ a, x = .ref a ∧ (∃ xs, SqL K H1 a xs) ∧ ∀ D, H1 D = none → LoopD (Itl K a) g tt tk tv vs σ D (fun H => Q (.ref D) H) (upd H1 D (.dK []))) : tDc (iList K te) g tt tk tv vs σ H Q := h
theorem loopDL {D : Addr} {Qd : Hp → Prop} (Pv : Nat → Hp → Prop) (h0 : Pv 0 H) (hl : ∀ i H, i ≤ xs.length → Pv i H → SqL K H a xs)
    (hs : ∀ i x H, xs[i]? = some x → Pv i H → g x (wipe σ vs) H fun σ2 H2 => wipe σ2 vs = wipe σ vs ∧ tt σ2 H2 fun b H3 =>
      if b = true then tk σ2 H3 fun y H4 => tv σ2 H4 fun z H5 => ∃ kvs k, y = kV k ∧ H5 D = some (.dK kvs) ∧ kvs.length < sizeLine ∧ Pv (i + 1) (upd H5 D (.dK (putK kvs k z))) else Pv (i + 1) H3) (hd : ∀ H, Pv xs.length H → Qd H) : LoopD (Itl K a) g tt tk tv vs σ D Qd H := by
  refine ⟨fun i m H => m = xs.length - i ∧ i ≤ xs.length ∧ Pv i H, ⟨xs.length, by simp, Nat.zero_le _, h0⟩, ?_⟩
  rintro i m H ⟨rfl, hi, p⟩
  have q := hl i H hi p
  by_cases hlt : i < xs.length
  · refine .inr ⟨⟨xs, xs[i], q, by simp [hlt]⟩, Pv (i + 1), fun H' p' => ⟨xs.length - (i + 1), by omega, rfl, hlt, p'⟩, fun x H' y => ?_⟩
    obtain ⟨e, y⟩ := y
    subst e
    exact hs i x _ (y xs q) p
  · have e : i = xs.length := by omega
    subst e
    exact .inl ⟨⟨xs, q, Nat.le_refl _⟩, hd H p⟩
theorem forZ (h : ta σ H fun us H1 => ∃ a b xs ys, us = [.ref a, .ref b] ∧ SqL K H1 a xs ∧ SqL K H1 b ys ∧ Loop (Itz K a b) g tb D σ H1) : tFor (iZip K ta) g tb D σ H := h
theorem loopZ (Pv : Nat → L2.St → Hp → Prop) (el : xs.length = ys.length) (h0 : Pv 0 σ H) (hl : ∀ i σ H, i ≤ xs.length → Pv i σ H → SqL K H a xs ∧ SqL K H b ys)
    (hs : ∀ i x y T σ H, xs[i]? = some x → ys[i]? = some y → Pv i σ H → H T = none → g (.ref T) σ (upd H T (.tup [x, y])) fun σ2 H2 => tb { D with nx := Pv (i + 1), ct := Pv (i + 1), bk := D.nx } σ2 H2) (hd : ∀ σ H, Pv xs.length σ H → D.nx σ H) : Loop (Itz K a b) g tb D σ H := by
  refine ⟨fun i m σ H => m = xs.length - i ∧ i ≤ xs.length ∧ Pv i σ H, ⟨xs.length, by simp, Nat.zero_le _, h0⟩, ?_⟩
  rintro i m σ H ⟨rfl, hi, p⟩
  obtain ⟨q1, q2⟩ := hl i σ H hi p
  by_cases hlt : i < xs.length
  · have hlt2 : i < ys.length := by omega
    refine .inr ⟨⟨xs, ys, xs[i], ys[i], q1, q2, List.getElem?_eq_getElem hlt, List.getElem?_eq_getElem hlt2⟩, Pv (i + 1), fun σ' H' p' => ⟨xs.length - (i + 1), by omega, rfl, hlt, p'⟩, fun x H' y => ?_⟩
    obtain ⟨T, x1, y1, rfl, hT, rfl, e1, e2⟩ := y
    exact hs i x1 y1 T σ H (e1 xs q1) (e2 ys q2) p hT
  · have e : i = xs.length := by omega
    subst e
    exact .inl ⟨⟨xs, ys, q1, q2, .inl (Nat.le_refl _)⟩, hd σ H p⟩
theorem lcR3 {tt : TT} {vs : List Nat} (h : ta σ H fun us H1 => ∃ (i j c : Int) (n : Nat), us = [.int i, .int j, .int c] ∧ RgC i j c n ∧ ∀ D, H1 D = none → LoopC (Itc i c n) g tt te vs σ D (fun H => Q (.ref D) H) (upd H1 D (.lst []))) : tLc (iRng3 ta) g tt te vs σ H Q := h
theorem loopCc {lo c : Int} {n : Nat} {D : Addr} {Qd : Hp → Prop} (Pv : Nat → Hp → Prop) (h0 : Pv 0 H)
    (hs : ∀ i H, i < n → Pv i H → g (.int (lo + i * c)) (wipe σ vs) H fun σ2 H2 => wipe σ2 vs = wipe σ vs ∧ tt σ2 H2 fun b H3 =>
      if b = true then te σ2 H3 fun y H4 => ∃ acc, H4 D = some (.lst acc) ∧ acc.length < sizeLine ∧ Pv (i + 1) (upd H4 D (.lst (acc ++ [y]))) else Pv (i + 1) H3) (hd : ∀ H, Pv n H → Qd H) : LoopC (Itc lo c n) g tt te vs σ D Qd H := by
  refine ⟨fun i m H => m = n - i ∧ i ≤ n ∧ Pv i H, ⟨n, by simp, Nat.zero_le _, h0⟩, ?_⟩
  rintro i m H ⟨rfl, hi, p⟩
  by_cases hlt : i < n
  · refine .inr ⟨hlt, Pv (i + 1), fun H' p' => ⟨n - (i + 1), by omega, rfl, hlt, p'⟩, fun x H' y => ?_⟩
    obtain ⟨e, y⟩ := y
    subst e y
    exact hs i _ hlt p
  · have e : i = n := by omega
    subst e
    exact .inl ⟨Nat.le_refl _, hd H p⟩
theorem forN {P : Program} {w : World} (h : te σ H fun x H1 => ∃ d o es, x = .ref d ∧ Wd.NDictF P w H1 d o es ∧ Loop (Wd.Itn P w d o es) g tb D σ H1) : tFor (Wd.iKeysN P w te) g tb D σ H := h
theorem loopN {P : Program} {w : World} {d : Addr} {o : Obj} {es : List Wd.NE} (Pv : Nat → L2.St → Hp → Prop) (h0 : Pv 0 σ H) (hl : ∀ i σ H, i ≤ es.length → Pv i σ H → Wd.NDictF P w H d o es)
    (hs : ∀ i e σ H, es[i]? = some e → Pv i σ H → g (.ref e.2.1) σ H fun σ2 H2 => tb { D with nx := Pv (i + 1), ct := Pv (i + 1), bk := D.nx } σ2 H2) (hd : ∀ σ H, Pv es.length σ H → D.nx σ H) : Loop (Wd.Itn P w d o es) g tb D σ H := by
  refine ⟨fun i m σ H => m = es.length - i ∧ i ≤ es.length ∧ Pv i σ H, ⟨es.length, by simp, Nat.zero_le _, h0⟩, ?_⟩
  rintro i m σ H ⟨rfl, hi, p⟩
  have q1 := hl i σ H hi p
  by_cases hlt : i < es.length
  · refine .inr ⟨⟨q1, hlt⟩, Pv (i + 1), fun σ' H' p' => ⟨es.length - (i + 1), by omega, rfl, hlt, p'⟩, fun x H' y => ?_⟩
    obtain ⟨rfl, e, he, rfl⟩ := y
    exact hs i e σ H' he p
  · have e : i = es.length := by omega
    subst e
    exact .inl ⟨⟨q1, Nat.le_refl _⟩, hd σ H p⟩
theorem lockN {t : TS} {d : Addr} {u : HO} (h : H d = some u) (m : Mut (some u)) (q : ∀ od, t ⟨fun σ' H' => H' d = some (.frz od u) ∧ D.nx σ' (upd H' d u), fun v H' => H' d = some (.frz od u) ∧ D.rt v (upd H' d u), fun σ' H' => H' d = some (.frz od u) ∧ D.bk σ' (upd H' d u), fun σ' H' => H' d = some (.frz od u) ∧ D.ct σ' (upd H' d u)⟩ σ (upd H d (.frz od u))) : tLock t D σ H := ⟨d, u, h, m, q⟩
end
end Wz

/-! The tight paper over the heap: what its defs hand to one another. -/
namespace Wy
open PySem PySem.Spec PyProof.Rows L2 Wp Wq Wr Wk Wg
theorem at_end {xs : List V} {y : V} : atI (xs ++ [y]) (-1) = some y := by
  unfold atI ixN
  have hl : (xs ++ [y]).length = xs.length + 1 := by rw [List.length_append] <;> rfl
  rw [if_neg (by decide), if_pos (by rw [hl]; omega), hl]
  show (xs ++ [y])[(-1 + ((xs.length + 1 : Nat) : Int)).toNat]? = _
  rw [show (-1 + ((xs.length + 1 : Nat) : Int)).toNat = xs.length by omega, List.getElem?_append_right (Nat.le_refl _), Nat.sub_self] <;> rfl
/-- the numbers of a pile's beginnings, none to j worths -/
def pathU (T : List (List W)) (p : List W) (j : Nat) : List V := (List.range (j + 1)).map fun h => V.int ((numOf T (p.take h) : Nat) : Int)
def pathV (T : List (List W)) (p : List W) : List V := pathU T p p.length
theorem pathU_succ {T : List (List W)} {p : List W} {j : Nat} : pathU T p (j + 1) = pathU T p j ++ [V.int ((numOf T (p.take (j + 1)) : Nat) : Int)] := by
  unfold pathU
  rw [List.range_succ, List.map_append] <;> rfl
theorem pathU_last {T : List (List W)} {p : List W} {j : Nat} : atI (pathU T p j) (-1) = some (V.int ((numOf T (p.take j) : Nat) : Int)) := by
  cases j with
  | zero => exact at_end (xs := [])
  | succ j => rw [pathU_succ]; exact at_end
theorem pathV_last {T : List (List W)} {p : List W} : atI (pathV T p) (-1) = some (V.int ((numOf T p : Nat) : Int)) := by
  have := pathU_last (T := T) (p := p) (j := p.length)
  rw [List.take_length] at this
  exact this
theorem pathV_len {T : List (List W)} {p : List W} : (pathV T p).length = p.length + 1 := by unfold pathV pathU; rw [List.length_map, List.length_range]
theorem pathV_at {T : List (List W)} {p : List W} {h : Nat} (hh : h ≤ p.length) : (pathV T p)[h]? = some (V.int ((numOf T (p.take h) : Nat) : Int)) := by
  unfold pathV pathU
  rw [List.getElem?_map, List.getElem?_range (by omega)] <;> rfl
/-- a stop: a pile, or two go on from it -/
def stB (T : List (List W)) (Ps : List (List W)) (q : List W) : Bool := decide (q ∈ Ps) || decide (2 ≤ (T.filter fun x => decide (x.dropLast = q)).length)
def IsPath (T : List (List W)) (H : Hp) (v : V) (p : List W) : Prop := ∃ r, v = .ref r ∧ H r = some (.lst (pathV T p))
def Within (T : List (List W)) (p : List W) : Prop := ∀ h, p.take h = [] ∨ p.take h ∈ T
theorem within_trie {Ps : List (List W)} {p : List W} (hp : p ∈ Ps) : Within (trie Ps) p := by
  intro h
  by_cases c : p.take h = []
  · exact .inl c
  · right
    rw [mem_trie]
    have hl : 1 ≤ (p.take h).length := List.length_pos_iff.mpr c
    rw [List.length_take] at hl
    refine ⟨p, hp, min h p.length - 1, by omega, ?_⟩
    rw [show min h p.length - 1 + 1 = min h p.length by omega]
    by_cases e : h ≤ p.length
    · rw [Nat.min_eq_left e]
    · rw [Nat.min_eq_right (by omega), List.take_length, List.take_of_length_le (by omega)]
/-- the places: none at -1, what is laid at its number -/
def Places (T L : List (List W)) (kvs : List (Key × V)) : Prop := kvs.length = L.length + 1 ∧ ∀ q, (q = [] ∨ q ∈ T) → valV kvs (.inl ((numOf T q : Nat) : Int)) = if q = [] ∨ q ∈ L then some (.int (place L q)) else none
theorem Places.new {T : List (List W)} (h : TOk T) : Places T [] [(.inl 0, .int (-1))] := by
  refine ⟨rfl, fun q hq => ?_⟩
  by_cases c : q = []
  · subst c
    rw [numOf_nil, if_pos (.inl rfl), place_nil]
    exact valV_pos rfl
  · rw [if_neg (by rintro (e | e); exact c e; cases e), numOf_mem c]
    rw [valV_neg (by
      intro e
      have := Sum.inl.inj e
      omega)]
    rfl
theorem Places.put {T L : List (List W)} {kvs : List (Key × V)} (h : Places T L kvs) {q : List W} (hq : q ∈ T) (hT : TOk T) (hL : ∀ x ∈ L, x ∈ T) (n : q ∉ L) : Places T (L ++ [q]) (putK kvs (.inl ((numOf T q : Nat) : Int)) (.int ((kvs.length : Nat) - 1 : Int))) := by
  have qn := hT.ne q hq
  have old := h.2 q (.inr hq)
  rw [if_neg (by rintro (e | e); exact qn e; exact n e)] at old
  refine ⟨?_, fun x hx => ?_⟩
  · rw [putK_new _ old, List.length_append, List.length_append, h.1] <;> rfl
  · rw [valV_put]
    by_cases c : x = q
    · subst c
      rw [if_pos rfl, if_pos (.inr (List.mem_append_right _ List.mem_cons_self)), place_mem qn, List.idxOf_append, if_neg n, h.1]
      congr 2
      simp
    · have ne : ¬ (Sum.inl ((numOf T x : Nat) : Int) : Key) = .inl ((numOf T q : Nat) : Int) := fun e => by
        have e1 := Sum.inl.inj e
        exact c (numOf_inj hx (.inr hq) (by omega))
      rw [if_neg ne, h.2 x hx]
      by_cases m : x = [] ∨ x ∈ L
      · rw [if_pos m, if_pos (m.imp id fun m => List.mem_append_left _ m), place_pre (List.prefix_append _ _) m]
      · rw [if_neg m, if_neg]
        rintro (e | e)
        · exact m (.inl e)
        · rcases List.mem_append.mp e with e | e
          · exact m (.inr e)
          · exact c (List.mem_singleton.mp e)
/-- no two pieces have one list, and each list is new to H0 -/
def Dist (H0 H : Hp) (xs : List V) : Prop := (∀ (i j : Nat) (ti tj li lj : Addr) (u v : V), i ≠ j → xs[i]? = some (.ref ti) → xs[j]? = some (.ref tj) → H ti = some (.tup [u, .ref li]) → H tj = some (.tup [v, .ref lj]) → li ≠ lj) ∧
  ∀ (i : Nat) (ti li : Addr) (u : V), xs[i]? = some (.ref ti) → H ti = some (.tup [u, .ref li]) → H0 li = none
theorem Dist.nil {H0 H : Hp} : Dist H0 H [] := ⟨(fun i _ _ _ _ _ _ _ _ h => by cases i <;> cases h), (fun i _ _ _ h => by cases i <;> cases h)⟩
/-- what every def keeps of a list of pieces -/
theorem Dist.keep {S : List Addr} {H0 H H' : Hp} {xs : List V} {R : List Pc} (h : Dist H0 H xs) (p : Pieces S H xs R) (k : Tk H H') : Dist H0 H' xs := by
  have back : ∀ {i : Nat} {t l : Addr} {u : V}, xs[i]? = some (.ref t) → H' t = some (.tup [u, .ref l]) → H t = some (.tup [u, .ref l]) := by
    intro i t l u hi ht
    obtain ⟨y, _, t', l', vs, e, h1, _⟩ := pair_at1 p hi
    cases e
    have := k _ _ h1
    rw [ht] at this
    cases this
    exact h1
  exact ⟨fun i j ti tj li lj u v n hi hj h1 h2 => h.1 i j ti tj li lj u v n hi hj (back hi h1) (back hj h2), fun i ti li u hi h1 => h.2 i ti li u hi (back hi h1)⟩
theorem Dist.app {S : List Addr} {H0 H : Hp} {xs : List V} {R : List Pc} {t l : Addr} {u : V} (h : Dist H0 H xs) (p : Pieces S H xs R) (ht : H t = some (.tup [u, .ref l])) (new : H0 l = none)
    (fresh : ∀ (i : Nat) (ti li : Addr) (v : V), xs[i]? = some (.ref ti) → H ti = some (.tup [v, .ref li]) → li ≠ l) : Dist H0 H (xs ++ [.ref t]) := by
  have cases_ : ∀ {i : Nat} {y : V}, (xs ++ [.ref t])[i]? = some y → xs[i]? = some y ∨ (i = xs.length ∧ y = .ref t) := fun h => get_app1 h
  refine ⟨fun i j ti tj li lj v w n hi hj h1 h2 => ?_, fun i ti li v hi h1 => ?_⟩
  · rcases cases_ hi with hi | ⟨ei, e1⟩ <;> rcases cases_ hj with hj | ⟨ej, e2⟩
    · exact h.1 i j ti tj li lj v w n hi hj h1 h2
    · cases e2
      rw [ht] at h2
      cases h2
      exact fresh i ti li v hi h1
    · cases e1
      rw [ht] at h1
      cases h1
      exact (fresh j tj lj w hj h2).symm
    · exact absurd (ei.trans ej.symm) n
  · rcases cases_ hi with hi | ⟨ei, e1⟩
    · exact h.2 i ti li v hi h1
    · cases e1
      rw [ht] at h1
      cases h1
      exact new
theorem E_len {st : List W → Bool} {s : Nat} {p : List W} : ∀ h, (E st s p h).length ≤ h + 1
  | 0 => Nat.le_refl _
  | h + 1 => by
    have ih := E_len (st := st) (s := s) (p := p) h
    rcases E_succ (st := st) (s := s) (p := p) h with e | e
    · rw [e, List.length_append, List.length_singleton]; omega
    · rw [e]; omega
theorem stB_pile {T Ps : List (List W)} {p : List W} (h : p ∈ Ps) : stB T Ps p = true := by
  unfold stB
  rw [decide_eq_true h, Bool.true_or]
theorem tight_mem {st : List W → Bool} {s : Nat} : ∀ {Ps L : List (List W)} {p : List W}, LOk st s L → p ∈ Ps → p ≠ [] → st p = true → p ∈ tightL st s Ps L
  | q :: Ps, L, p, h, hp, hn, hs => by
    show p ∈ tightL st s Ps (layL st s L q)
    rcases List.mem_cons.mp hp with e | e
    · subst e
      obtain ⟨fc, f1⟩ := full (s := s) hs hn
      exact (tight_pre (Ps := Ps)).subset ((mem_lay h).mpr (.inr ⟨_, f1, Nat.le_refl _, fc.symm⟩))
    · exact tight_mem (lay_ok h q) e hn hs
theorem tight_in {st : List W → Bool} {s : Nat} {T : List (List W)} : ∀ {Ps L : List (List W)}, LOk st s L → (∀ q ∈ L, q ∈ T) → (∀ p ∈ Ps, Within T p) → ∀ q ∈ tightL st s Ps L, q ∈ T
  | [], L, _, h, _ => h
  | p :: Ps, L, hl, h, hw => by
    show ∀ q ∈ tightL st s Ps (layL st s L p), q ∈ T
    refine tight_in (lay_ok hl p) (fun q hq => ?_) (fun x hx => hw x (List.mem_cons_of_mem _ hx))
    rcases (mem_lay hl).mp hq with m | ⟨k, k1, k2, rfl⟩
    · exact h q m
    · exact (hw p List.mem_cons_self _).resolve_left (cut_ne k1 k2)
theorem tight_snoc {st : List W → Bool} {s : Nat} {Ps : List (List W)} {p : List W} : tightL st s (Ps ++ [p]) [] = layL st s (tightL st s Ps []) p := by
  unfold tightL
  rw [List.foldl_append] <;> rfl
/-- the tight paper of a list of piles -/
def stT (Ps : List (List W)) : List W → Bool := stB (trie Ps) Ps
def tL (s : Nat) (Ps : List (List W)) : List (List W) := tightL (stT Ps) s Ps []
def tPap (s : Nat) (Ps : List (List W)) : Pap := (piecesOf (stT Ps) s (tL s Ps), Ps.map (place (tL s Ps)))
end Wy

/-! Wells; powers of wide numbers. -/
namespace Ww
open PySem PySem.Spec PyProof.Rows L2 Wp Wq Wr Wb
def Well (H : Hp) (b : Addr) (n : Nat) : Prop := ∃ x y z : Int, H b = some (.lst [.int x, .int y, .int z]) ∧ 0 ≤ x ∧ 0 ≤ y ∧ y < 10 ^ 43 ∧ 0 ≤ z ∧ z ≤ n
theorem Well.mono {H : Hp} {b : Addr} {n m : Nat} (h : Well H b n) (k : n ≤ m) : Well H b m := by
  obtain ⟨x, y, z, h1, h2, h3, h4, h5, h6⟩ := h
  exact ⟨x, y, z, h1, h2, h3, h4, h5, by omega⟩
theorem Well.ne_new {H : Hp} {b p : Addr} {n : Nat} (h : Well H b n) (k : H p = none) : p ≠ b := by
  obtain ⟨x, y, z, h1, h⟩ := h
  exact (ne_of_none h1 k).symm
theorem Well.keep {H H' : Hp} {b : Addr} {n : Nat} (h : Well H b n) (k : Same H H') : Well H' b n := by
  obtain ⟨x, y, z, h1, h⟩ := h
  exact ⟨x, y, z, k _ _ h1, h⟩
theorem Well.upd {H : Hp} {b r : Addr} {n : Nat} {o : HO} (h : Well H b n) (k : r ≠ b) : Well (L2.upd H r o) b n := by
  obtain ⟨x, y, z, h1, h⟩ := h
  exact ⟨x, y, z, by rw [upd_ne k.symm]; exact h1, h⟩
theorem Well.ks {H H' : Hp} {b : Addr} {n : Nat} (h : Well H b n) (k : Kp b H H') : Ks [b] H H' := by
  obtain ⟨x, y, z, h1, h⟩ := h
  exact Ks.kp k h1 List.mem_cons_self
theorem Well.at {H H' : Hp} {b : Addr} {n : Nat} (h : Well H b n) (k : ∀ o, H b = some o → H' b = some o) : Well H' b n := by
  obtain ⟨x, y, z, h1, h⟩ := h
  exact ⟨x, y, z, k _ h1, h⟩
section
variable {X : Cx}
def CPowW (i j : Int) : Prop := 0 ≤ j ∧ (Builtin.Int.intBits i : Int) * j ≤ 2 ^ 27
theorem op_powW : OpR X (binaryOp .Pow) (rI CPowW fun i j => .int (i ^ j.toNat)) := opI fun _ _ _ _ _ _ _ hc q => pow_int hc.1 hc.2 q
theorem bits_of {x : Int} {b : Nat} (h : x.natAbs < 2 ^ b) (hb : 0 < b) : Builtin.Int.intBits x ≤ b := by
  have e : Builtin.Int.intBits x ≤ x.natAbs.log2 + 1 := by
    unfold Builtin.Int.intBits
    split <;> omega
  by_cases c : x.natAbs = 0
  · rw [c] at e
    have : (0 : Nat).log2 = 0 := by decide
    omega
  · have := (Nat.log2_lt c).mpr h
    omega
theorem mulW {x y : Int} {a b : Nat} (h : x.natAbs < 2 ^ a) (k : y.natAbs < 2 ^ b) (ha : 0 < a := by decide) (hb : 0 < b := by decide) (hs : a + b < 1000000 := by decide) : CMulW x y := by
  have e1 := PySem.Flt.log2_lt_of ha h
  have e2 := PySem.Flt.log2_lt_of hb k
  show _ + _ < 1000000
  omega
theorem pow5 {x : Int} (h : x.natAbs < 2 ^ 300) : CPowW x 5 := ⟨by decide, by
  have := bits_of h (by decide)
  omega⟩
end
section
variable {S : List Addr} {H H1 H2 : Hp} {a b D : Addr} {σ : L2.St} {g : TG} {te : TE} {vs : List Nat} {Qd : Hp → Prop}
/-- [.. for j in range(m)], a bag and a new list of worths -/
theorem lc_wells {m n inc : Nat} {ok : W → Prop} (hm : m < 1000) (hb : Well H b n) (hD : H D = none)
    (body : ∀ (j : Nat) (H1 : Hp), j < m → ∀ R : V → Hp → Prop, Well H1 b (n + inc * j) → Ks [D, b] (upd H D (.lst [])) H1 → (∀ v z H2, IsW H2 v z → ok z → Well H2 b (n + inc * j + inc) → Kp b H1 H2 → R v H2) →
      g (.int (0 + (j : Int))) (wipe σ vs) H1 fun σ2 H2 => wipe σ2 vs = wipe σ vs ∧ te σ2 H2 R)
    (done : ∀ (H1 : Hp) (acc : List V) (ws : List W), Well H1 b (n + inc * m) → Ks [b] H H1 → H1 D = some (.lst acc) → Pile H1 acc ws → ws.length = m → (∀ z ∈ ws, ok z) → Qd H1) :
    LoopC (Itr 0 m) g tYes te vs σ D Qd (upd H D (.lst [])) := by
  have hDb : D ≠ b := hb.ne_new hD
  refine loopCR (fun j H' => Well H' b (n + inc * j) ∧ Ks [D, b] (upd H D (.lst [])) H' ∧ ∃ acc ws, H' D = some (.lst acc) ∧ Pile H' acc ws ∧ ws.length = j ∧ ∀ z ∈ ws, ok z) ⟨hb.keep (same_new hD), Ks.refl, [], [], upd_same, Pile.nil, rfl, (fun _ h => nomatch h)⟩ ?_ ?_
  · rintro j H3 hj ⟨hb3, k3, acc, ws, hD3, p3, wl, wok⟩
    refine body j H3 hj (fun y H4 => ∃ acc, H4 D = some (.lst acc) ∧ acc.length < sizeLine ∧ _) hb3 k3 fun v z H4 wz oz hb4 k4 => ?_
    have tk4 : Tk H3 H4 := (hb3.ks k4).tk
    have hD4 := k4 _ _ hDb hD3
    refine ⟨acc, hD4, ?_, ?_, ?_, _, _, upd_same, (Pile.app (p3.keep tk4) (Pile.one wz)).keep (Tk.lst hD4), ?_, ?_⟩
    · rw [p3.len]; exact small (by omega)
    · rw [Nat.mul_succ, ← Nat.add_assoc]
      exact hb4.upd hDb
    · exact k3.trans ((Ks.mono (hb3.ks k4) (by simp)).trans (Ks.upd hD4 List.mem_cons_self))
    · rw [List.length_append, wl] <;> rfl
    · intro x hx
      rcases List.mem_append.mp hx with hx | hx
      · exact wok x hx
      · rw [List.mem_singleton.mp hx]; exact oz
  · rintro H3 ⟨hb3, k3, acc, ws, hD3, p3, wl, wok⟩
    exact done H3 acc ws hb3 (Ks.drop k3 (Ks.same (same_new hD)) hD) hD3 p3 wl wok
end
end Ww

/-! Names of small letters; joined ones. -/
namespace Wu
open PySem PySem.Spec PyProof.Rows L2 Wp Wq Wr Wb
def Low (s : Str) : Prop := ∀ c ∈ s.cps.toList, 97 ≤ c ∧ c ≤ 122
theorem Low.app {x y : Str} (h : Low x) (k : Low y) : Low (x ++ y) := by
  intro c hc
  have h2 : c ∈ (x.cps ++ y.cps).toList := hc
  rw [Array.toList_append] at h2
  rcases List.mem_append.mp h2 with q | q
  · exact h c q
  · exact k c q
theorem Low.cut {z : Str} {lo hi : Option Int} (h : Low z) : Low (cutS z lo hi) := fun c hc => h c (List.mem_of_mem_drop (List.mem_of_mem_take hc))
theorem Low.nil : Low (Str.ofString "") := by
  intro c hc
  have : (Str.ofString "").cps.toList = [] := by decide +kernel
  rw [this] at hc
  exact nomatch hc
theorem Low.join : ∀ ys : List Str, (∀ y ∈ ys, Low y) → Low (Str.join (Str.ofString "") ys)
  | [], _ => by
    intro c hc
    exact (nomatch hc)
  | [x], h => h x (by simp)
  | x :: y :: r, h => Low.app (Low.app (h x (by simp)) Low.nil) (Low.join (y :: r) fun z hz => h z (List.mem_cons_of_mem _ hz))
theorem cut_lo {z : Str} {n : Nat} (h : n ≤ z.length) : (cutS z none (some (n : Int))).length = n := by
  show ((z.cps.toList.drop (HT.sIx z.length 0 none)).take (HT.sIx z.length z.length (some (n : Int)) - HT.sIx z.length 0 none)).toArray.size = n
  rw [show HT.sIx z.length 0 none = 0 from HT.sIx_none .., HT.sIx_nat, List.size_toArray, List.length_take, List.length_drop, Array.length_toList]
  have : z.cps.size = z.length := rfl
  omega
theorem cut_hi {z : Str} {n : Nat} (h : n ≤ z.length) : (cutS z (some (n : Int)) none).length = z.length - n := by
  show ((z.cps.toList.drop (HT.sIx z.length 0 (some (n : Int)))).take (HT.sIx z.length z.length none - HT.sIx z.length 0 (some (n : Int)))).toArray.size = _
  rw [show HT.sIx z.length z.length none = z.length from HT.sIx_none .., HT.sIx_nat, List.size_toArray, List.length_take, List.length_drop, Array.length_toList]
  have : z.cps.size = z.length := rfl
  omega
theorem low_ok {s : Str} (h : Low s) : PyData.strOk s = true := by
  show s.cps.all (fun c => decide (c < 0x110000)) = true
  rw [← Array.all_toList, List.all_eq_true]
  intro c hc
  have := h c hc
  exact decide_eq_true (by omega)
/-- a name: small letters, eight at most -/
def Nm (s : Str) : Prop := Low s ∧ s.length ≤ 8
variable {H : Hp} {Q : V → Hp → Prop}
theorem ixS_low {zs : Str} {j : Int} (hl : Low zs) (hz : zs.length ≤ sizeLine) (h0 : 0 ≤ j) (h1 : j < zs.length) (q : ∀ c, Low ⟨#[c]⟩ → Q (.str ⟨#[c]⟩) H) : rIxS (.str zs) (.int j) H Q := by
  have h2 : j.toNat < zs.cps.toList.length := by
    rw [Array.length_toList]
    show j.toNat < zs.length
    omega
  obtain ⟨c, hc⟩ : ∃ c, zs.cps.toList[j.toNat]? = some c := ⟨_, List.getElem?_eq_getElem h2⟩
  have e : ((j.toNat : Nat) : Int) = j := by omega
  have hc2 := atI_nat hc
  rw [e] at hc2
  refine ⟨zs, j, c, rfl, rfl, hz, hc2, q c ?_⟩
  intro d hd
  have : d = c := List.mem_singleton.mp hd
  rw [this]
  exact hl c (List.mem_of_getElem? hc)
theorem join_low {ys : List Str} (h : ∀ y ∈ ys, Low y ∧ y.length = 1) : Low (Txt.join (Str.ofString "") ys) ∧ (Txt.join (Str.ofString "") ys).length = ys.length := by
  refine ⟨?_, _root_.PySem.W.KT.join_ones ys fun a ha => (h a ha).2⟩
  show Low (Builtin.Str.glued (Str.ofString "") ys)
  rw [StrLaws.glued_eq_join]
  exact Low.join ys fun y hy => (h y hy).1
def letters : Str := Str.ofString "abcdefghijklmnopqrstuvwxyz"
theorem letters_low : Low letters := by
  have h : (letters.cps.toList.all fun c => decide (97 ≤ c ∧ c ≤ 122)) = true := by decide +kernel
  intro c hc
  exact of_decide_eq_true (List.all_eq_true.mp h c hc)
theorem letters_len : letters.length = 26 := by decide +kernel
theorem Kp.updN {b D : Addr} {o : HO} {H1 : Hp} (k : Kp b H H1) (h : H D = none) : Kp b H (upd H1 D o) := by
  intro a u na ha
  rw [upd_ne (ne_of_none ha h)]
  exact k a u na ha
theorem Well.updN {b D : Addr} {n : Nat} {o : HO} (h : Ww.Well H b n) {H1 : Hp} (h1 : Ww.Well H1 b n) (hD : H D = none) : Ww.Well (upd H1 D o) b n := h1.upd (h.ne_new hD)
end Wu

/-! The views of a dict of texts and ints: list(d.values()), sorted(d.items()). -/
namespace Wf
open PySem PySem.Spec PyProof.Rows PySem.W PySem.Calls PyProof.V L2 L2.DX Wp Wq
/-- the view d.values() at p -/
def valuesO (p d : Addr) : HO := .ext fun h => h.IsValuesView p d
theorem valuesO_ok {P : Program} {w : World} {H : Hp} {h : Heap} {p d : Addr} (e : h.get? p = some { cls := .type "dict_values", data := .fields #[.ref d] }) : ObjOk P w H h p (valuesO p d) :=
  ⟨⟨_, e, rfl, rfl⟩, ⟨_, e⟩, fun h1 h2 x k => let ⟨o, ho, r⟩ := x; ⟨o, k o ho, r⟩⟩
theorem vals_of : ∀ {kvs : List (Key × V)} {vs : List (Key × Value)}, KV kvs vs → Vals (kvs.map (·.2)) (vs.map (·.2))
  | _, _, .nil => .nil
  | _, _, .cons h t => .cons h.2 (vals_of t)
section
variable {X : Cx}
def rValuesK : V → List V → Hp → VK → Prop := fun x xs H Q => ∃ (a : Addr) (kvs : List (Key × V)), x = .ref a ∧ xs = [] ∧ H a = some (.dK kvs) ∧ ∀ p, H p = none → Q (.ref p) (upd H p (valuesO p a))
theorem mt_valuesK : MtR X "dict.values" rValuesK := by
  intro pins s σ H x xs v us Q I rx rxs h
  obtain ⟨a, kvs, rfl, rfl, ha, q⟩ := h
  cases rx
  cases rxs
  obtain ⟨z, hd, vs, rel, dd⟩ := dk_of I.hok ha
  have hf : H s.heap.objs.size = none := I.hok.fresh (Nat.le_refl _)
  refine call_meetsIn F.slot_dict_values dd.typeIs F.entry_dict_values (F.args_dict_values_1 _) (meets_dict_values (mixKind X.prog X.w) a hd) ⟨⟨vs, dd⟩, ?_⟩
  exact ⟨.ref s.heap.objs.size, upd H s.heap.objs.size (valuesO s.heap.objs.size a), I.laid (t' := s.toks) (fun b u e => Heap.get?_push_of_some _ e) (Nat.le_refl _) (valuesO_ok (Heap.get?_push_size _ rfl)), rfl, q _ hf⟩
def rItemsK : V → List V → Hp → VK → Prop := fun x xs H Q => ∃ (a : Addr) (kvs : List (Key × V)), x = .ref a ∧ xs = [] ∧ H a = some (.dK kvs) ∧ ∀ p, H p = none → Q (.ref p) (upd H p (itemsO p a))
theorem mt_itemsK : MtR X "dict.items" rItemsK := by
  intro pins s σ H x xs v us Q I rx rxs h
  obtain ⟨a, kvs, rfl, rfl, ha, q⟩ := h
  cases rx
  cases rxs
  obtain ⟨z, hd, vs, rel, dd⟩ := dk_of I.hok ha
  have hf : H s.heap.objs.size = none := I.hok.fresh (Nat.le_refl _)
  refine call_meetsIn F.slot_dict_items dd.typeIs F.entry_dict_items (F.args_dict_items_1 _) (meets_dict_items (mixKind X.prog X.w) a hd) ⟨⟨vs, dd⟩, ?_⟩
  exact ⟨.ref s.heap.objs.size, upd H s.heap.objs.size (itemsO s.heap.objs.size a), I.laid (t' := s.toks) (fun b u e => Heap.get?_push_of_some _ e) (Nat.le_refl _) (itemsO_ok (Heap.get?_push_size _ rfl)), rfl, q _ hf⟩
/-- list(d.values()) -/
def rListVals : List V → Hp → VK → Prop := fun xs H Q => ∃ (p a : Addr) (kvs : List (Key × V)), xs = [.ref p] ∧ H p = some (valuesO p a) ∧ H a = some (.dK kvs) ∧ ∀ l, H l = none → Q (.ref l) (upd H l (.lst (kvs.map (·.2))))
theorem cr_listVals (hc : X.calm = true) : CallR X (.type "list") rListVals := by
  intro pins s σ H xs us Q I r h
  obtain ⟨p, a, kvs, rfl, hp, ha, q⟩ := h
  obtain rfl := Vals.ref1 r
  have view : s.heap.IsValuesView p a := (show ObjOk X.prog X.w H s.heap p (valuesO p a) from I.hok p _ hp).1
  obtain ⟨z, hd, vs, rel, dd⟩ := dk_of I.hok ha
  obtain ⟨ep, hat⟩ := dd.dictAt
  have hl : kvs.length = vs.length := Paired.length rel
  have hf : H s.heap.objs.size = none := I.hok.fresh (Nat.le_refl _)
  refine PySem.W.kdl_call (PySem.W.kdl_values (knd := mixKind X.prog X.w) (kvs := vs) (ep := ep)) (I.ok.hd hc) ⟨view, hat⟩ (by omega) fun h' tk acc c hk hS hacc => ?_
  have ev : acc.toList = vs.map (·.2) := PySem.W.kdl_vals_eq acc.toList (by rw [Array.length_toList]; exact hacc.1) fun j v e => hacc.2 j v (by rw [← Array.getElem?_toList]; exact e)
  refine ⟨.ref s.heap.objs.size, upd H s.heap.objs.size (.lst (kvs.map (·.2))), I.laid (t' := tk) hk (Nat.le_refl _) ⟨by rw [List.length_map]; exact z, acc.toList, c, by rw [ev]; exact vals_of rel, by rw [Array.toArray_toList]; exact hS⟩, rfl, q _ hf⟩
end
mutual
theorem reads_lt {h : Heap} : ∀ {v : Value} {d : PyData} {as : List Addr}, Reads h v d as → ∀ x ∈ as, x < h.objs.size
  | _, _, _, .none, _, q => nomatch q
  | _, _, _, .bool b, _, q => nomatch q
  | _, _, _, .int i t, _, q => nomatch q
  | _, _, _, .str x t, _, q => nomatch q
  | _, _, _, .list h1 h2 h3 h4, x, q => by
    rcases List.mem_cons.mp q with e | q
    · rw [e]; exact Heap.lt_size h1
    · exact readsAll_lt h4 x q
  | _, _, _, .tuple h1 h2 h3 h4, x, q => readsAll_lt h4 x q
  | _, _, _, .dict h1 h2 h3 h4 h5, x, q => by
    rcases List.mem_append.mp q with q | q
    · rcases List.mem_cons.mp q with e | q
      · rw [e]; exact Heap.lt_size h1
      · exact readsAll_lt h4 x q
    · exact readsAll_lt h5 x q
theorem readsAll_lt {h : Heap} : ∀ {vs : List Value} {ds : List PyData} {as : List Addr}, ReadsAll h vs ds as → ∀ x ∈ as, x < h.objs.size
  | _, _, _, .nil, _, q => nomatch q
  | _, _, _, .cons h1 h2, x, q => by
    rcases List.mem_append.mp q with q | q
    · exact reads_lt h1 x q
    · exact readsAll_lt h2 x q
end
theorem each_get {α β : Type} {R : α → β → Prop} : ∀ {vs : List α} {bs : List β}, vs.length = bs.length → (∀ (j : Nat) (v : α) (b : β), vs[j]? = some v → bs[j]? = some b → R v b) → PySem.W.EachIs R vs bs
  | [], [], _, _ => .nil
  | v :: vs, b :: bs, hl, h => .cons (h 0 v b rfl rfl) (each_get (Nat.succ.inj hl) fun j x y e1 e2 => h (j + 1) x y e1 e2)
theorem each_mem1 {α β : Type} {R : α → β → Prop} : ∀ {vs : List α} {bs : List β}, PySem.W.EachIs R vs bs → ∀ v ∈ vs, ∃ b, b ∈ bs ∧ R v b
  | _, _, .nil, v, h => nomatch h
  | _, _, .cons r t, v, h => by
    rcases List.mem_cons.mp h with e | h
    · rw [e]; exact ⟨_, List.mem_cons_self, r⟩
    · obtain ⟨b, hb, q⟩ := each_mem1 t v h
      exact ⟨b, List.mem_cons_of_mem _ hb, q⟩
/-- a key, a value, what the value reads as -/
abbrev BD := Key × V × PyData
def kD : Key → PyData
  | .inl i => .int i
  | .inr x => .str x
def pD (b : BD) : PyData := .tuple [kD b.1, b.2.2]
def leP (a b : BD) : Bool := PySem.W.dataLe false pD a b
theorem key_reads {h : Heap} {k : Key} {v : Value} (r : RelV (kV k) v) : Reads h v (kD k) [] := by
  cases k with
  | inl i => obtain ⟨t, rfl⟩ := r; exact .int i t
  | inr x => obtain ⟨t, rfl⟩ := r; exact .str x t
/-- sorted(d.items()), the values whatever reads as data -/
def rSortItems (K : PySem.W.Frag) : List V → Hp → VK → Prop := fun vs H Q => ∃ (p a : Addr) (bs : List BD), vs = [.ref p] ∧ H p = some (itemsO p a) ∧ H a = some (.dK (bs.map fun b => (b.1, b.2.1))) ∧ (∀ b ∈ bs, Dp K H b.2.1 b.2.2) ∧
  PySem.W.AllAlike (bs.map pD) ∧ PySem.W.Sortable (bs.map pD) ∧ (∀ b ∈ bs, (pD b).depth ≤ 60) ∧
  ∀ (H' : Hp) (l : Addr) (ts : List Addr), (∀ b o, H b = some o → H' b = some o) → H l = none → (∀ t ∈ ts, H t = none) → H' l = some (.lst (ts.map V.ref)) → Paired (fun (t : Addr) (b : BD) => H' t = some (.tup [kV b.1, b.2.1])) ts (bs.mergeSort leP) → Q (.ref l) H'
section
variable {X : Cx}
/-- what a made pair is -/
def PairV (h : Heap) (as : List Addr) (v : Value) (b : BD) : Prop := ∃ t key x, v = .ref t ∧ t ∈ as ∧ h.get? t = some { cls := .type "tuple", data := .seq #[key, x] } ∧ RelV (kV b.1) key ∧ RelV b.2.1 x
theorem pairs_ts {h : Heap} {as : List Addr} : ∀ {out : List Value} {cs : List BD}, PySem.W.EachIs (PairV h as) out cs → ∃ ts : List Addr, out = ts.map Value.ref ∧ Paired (fun (t : Addr) (b : BD) => t ∈ as ∧ ∃ key x, h.get? t = some { cls := .type "tuple", data := .seq #[key, x] } ∧ RelV (kV b.1) key ∧ RelV b.2.1 x) ts cs
  | _, _, .nil => ⟨[], rfl, .nil⟩
  | _, _, .cons ⟨t, key, x, e, m, g, r1, r2⟩ r => by
    obtain ⟨ts, e', pr⟩ := pairs_ts r
    exact ⟨t :: ts, by rw [e, e']; rfl, .cons ⟨m, key, x, g, r1, r2⟩ pr⟩
theorem cr_sortItems (hc : X.calm = true) (hu : X.A.units + 64 < cLine) : CallR X (.builtin "sorted") (rSortItems X.K) := by
  intro pins s σ H xs us Q I r h
  obtain ⟨p, a, bs, rfl, hp, ha, hd, hal, hk, hdep, q⟩ := h
  obtain rfl := Vals.ref1 r
  have view : s.heap.IsItemsView p a := (show ObjOk X.prog X.w H s.heap p (itemsO p a) from I.hok p _ hp).1
  obtain ⟨z, hd0, vs, rel, dd⟩ := dk_of I.hok ha
  obtain ⟨es, ep, hraw, hes, hent⟩ := _root_.PySem.Heap.DictOf.raw dd
  have hl : bs.length = vs.length := by have := Paired.length rel; rw [List.length_map] at this; exact this
  rw [List.length_map] at z
  have hh : X.A.handled = none := I.ok.hd hc
  refine DT.sortedI (es := es) (ep := ep) hh view hraw (by omega) fun h' tk as hk' hlt hla hG => ?_
  have hB : ∀ x, x < h'.objs.size → x ≠ h'.objs.size := fun x hx => Nat.ne_of_lt hx
  have hsz : s.heap.objs.size ≤ h'.objs.size := Nat.le_of_lt hlt
  have hob : (h'.push { cls := .type "list", data := .seq (as.map Value.ref).toArray }).get? h'.objs.size = some (seqObj "list" (as.map Value.ref).toArray 0) := Heap.get?_push_size _ rfl
  have ka : ∀ b o, h'.get? b = some o → (h'.push { cls := .type "list", data := .seq (as.map Value.ref).toArray }).get? b = some o := fun b o e => Heap.get?_push_of_some _ e
  have nd : as.Nodup := List.Pairwise.imp (fun {a b} (h : a < b) => Nat.ne_of_lt h) hG.rise
  have hpair : ∀ (j : Nat) (v : Value) (b : BD), (as.map Value.ref)[j]? = some v → bs[j]? = some b → PairV h' as v b ∧ ∃ rs, Reads h' v (pD b) rs ∧ ∀ x ∈ rs, x < h'.objs.size := by
    intro j v b hv hb
    rw [List.getElem?_map] at hv
    cases hj : as[j]? with
    | none => rw [hj] at hv; cases hv
    | some t =>
      rw [hj] at hv
      have ev : Value.ref t = v := Option.some.inj hv
      obtain ⟨en, hen, h3⟩ := hG.pairs j t hj
      obtain ⟨hi, hee⟩ := Array.getElem?_eq_some_iff.mp hen
      have hj2 : j < vs.length := by omega
      obtain ⟨h2, h4⟩ := hent j hi vs[j].1 vs[j].2 (List.getElem?_eq_getElem hj2)
      have h1 : vs[j]? = some (vs[j].1, vs[j].2) := List.getElem?_eq_getElem hj2
      rw [hee] at h2 h4
      rw [h4] at h3
      generalize vs[j].1 = k at h1 h2
      generalize vs[j].2 = x at h1 h3
      generalize en.key = key at h2 h3
      obtain ⟨e0, he0, r1, r2⟩ := pget rel h1
      rw [List.getElem?_map, hb] at he0
      have ee : (b.1, b.2.1) = e0 := Option.some.inj he0
      rw [← ee] at r1 r2
      have rk : RelV (kV b.1) key := by
        rw [show b.1 = k from r1]
        exact relV_key (show keyIs k key = true from h2)
      have rx : RelV b.2.1 x := r2
      obtain ⟨rs, rd⟩ := Dp.reads I _ _ _ (hd b (List.mem_of_getElem? hb)) rx
      have rd' := Reads.keeps hk' rd
      refine ⟨⟨t, key, x, ev.symm, List.mem_of_getElem? hj, h3, rk, rx⟩, [] ++ (rs ++ []), ?_, ?_⟩
      · rw [← ev]
        exact .tuple h3 rfl rfl (.cons (key_reads rk) (.cons rd' .nil))
      · intro y hy
        rw [List.nil_append, List.append_nil] at hy
        exact reads_lt rd' y hy
  have lab : (as.map Value.ref).length = bs.length := by rw [List.length_map, hla, hes, hl]
  have e1 : PySem.W.EachIs (PairV h' as) (as.map Value.ref) bs := each_get lab fun j v b h1 h2 => (hpair j v b h1 h2).1
  have e2 : PySem.W.EachIs (fun v b => ∃ rs, Reads (h'.push { cls := .type "list", data := .seq (as.map Value.ref).toArray }) v (pD b) rs ∧ h'.objs.size ∉ rs) (as.map Value.ref) bs := each_get lab fun j v b h1 h2 => by
    obtain ⟨_, rs, rd, lt⟩ := hpair j v b h1 h2
    exact ⟨rs, Reads.keeps ka rd, fun m => absurd (lt _ m) (Nat.lt_irrefl _)⟩
  · refine PySem.W.list_sort_data (enc := pD) (s := { s with heap := h'.push { cls := .type "list", data := .seq (as.map Value.ref).toArray }, toks := tk }) hob e1 e2 hal hk z (fun b hb => by have := hdep b hb; simp only [Around.in1_units]; omega) fun out ho eo => ?_
    obtain ⟨ts, rfl, pr⟩ := pairs_ts eo
    obtain ⟨c, hc2⟩ := sortedHeap_at (vs := as.map Value.ref) (out := (ts.map Value.ref).toArray) hob
    have old : ∀ b o, h'.get? b = some o → (sortedHeap (h'.push { cls := .type "list", data := .seq (as.map Value.ref).toArray }) h'.objs.size (as.map Value.ref) (ts.map Value.ref).toArray).get? b = some o := fun b o e =>
      (sortedHeap_old (hB b (Heap.lt_size e)) (Heap.lt_size (ka b o e))).trans (ka b o e)
    generalize sortedHeap (h'.push { cls := .type "list", data := .seq (as.map Value.ref).toArray }) h'.objs.size (as.map Value.ref) (ts.map Value.ref).toArray = hF at hc2 old
    have I1 : Inv X pins σ H { s with heap := hF, toks := tk } := I.kept (t' := tk) fun b o e => old b o (hk' b o e)
    have fresh : ∀ t ∈ as, s.heap.objs.size ≤ t ∧ H t = none := fun t ht => by
      have := hG.above t ht
      exact ⟨Nat.le_of_lt this, I.hok.fresh (Nat.le_of_lt this)⟩
    have bn : H h'.objs.size = none := I.hok.fresh hsz
    have I2 : Inv X pins σ (upd H h'.objs.size (.lst (ts.map V.ref))) { s with heap := hF, toks := tk } := I1.take (h' := hF) (t' := tk) (fun b ob _ e => e) (I.fpOk hsz bn) ⟨by rw [List.length_map]; rw [List.length_map] at ho; omega, ts.map Value.ref, c, LiI.vals_refs ts, hc2⟩
    obtain ⟨H2, I3, k2, hT⟩ := takeT (P := fun t us => ∃ key x, h'.get? t = some { cls := .type "tuple", data := .seq #[key, x] } ∧ Vals us [key, x]) I as _ I2 nd fun t ht => by
      obtain ⟨j, hj⟩ := List.mem_iff_getElem?.mp ht
      have jl : j < bs.length := by
        have := (List.getElem?_eq_some_iff.mp hj).1
        omega
      obtain ⟨t', key, x, ev, _, g, r1, r2⟩ := (hpair j (.ref t) bs[j] (by rw [List.getElem?_map, hj]; rfl) (List.getElem?_eq_getElem jl)).1
      have et : t = t' := by injection ev
      rw [← et] at g
      refine ⟨(fresh t ht).1, ?_, ?_⟩
      · rw [upd_ne (hB t (Heap.lt_size g))]; exact (fresh t ht).2
      · exact ⟨[kV bs[j].1, bs[j].2.1], ⟨key, x, g, .cons r1 (.cons r2 .nil)⟩, fun H2 => ⟨by show 2 ≤ sizeLine; decide, [key, x], .cons r1 (.cons r2 .nil), ⟨_, old _ _ g, rfl, _, rfl⟩⟩⟩
    refine ⟨.ref h'.objs.size, _, I3, rfl, q _ _ ts (fun b o e => k2 b o (by rw [upd_ne (ne_of_none e bn)]; exact e)) bn ?_ (k2 _ _ upd_same) ?_⟩
    · intro t ht
      obtain ⟨_, _, _, _, m, _⟩ := LiI.paired_ix pr ht
      exact (fresh t m).2
    · refine Paired.mapP pr fun t b hb => ?_
      obtain ⟨m, key, x, g, r1, r2⟩ := hb
      obtain ⟨us, ⟨key', x', g', rv⟩, e⟩ := hT t m
      rw [g] at g'
      have e3 : [key, x] = [key', x'] := congrArg Array.toList (show #[key, x] = #[key', x'] by injection g' with g'; injection g' with _ _ g'; injection g')
      rw [← e3] at rv
      cases rv with
      | cons q1 q2 =>
        cases q2 with
        | cons q2 q3 =>
          cases q3
          rw [RelV.inj q1 r1, RelV.inj q2 r2] at e
          exact e
end
end Wf

/-! Comprehensions that pick from a list of worths, or make worths. -/
namespace Wpk
open PySem PySem.Spec PyProof.Rows L2 Wp Wq Wr Wb
section
variable {H H1 H2 : Hp} {a b D : Addr} {σ : L2.St} {g : TG} {tt : TT} {te : TE} {vs : List Nat} {Qd : Hp → Prop}
theorem paired_snoc {α β : Type} {F : α → β → Prop} : ∀ {l1 : List α} {l2 : List β}, Paired F l1 l2 → ∀ {x : α} {y : β}, F x y → Paired F (l1 ++ [x]) (l2 ++ [y])
  | _, _, .nil, _, _, h => .cons h .nil
  | _, _, .cons r t, _, _, h => .cons r (paired_snoc t h)
theorem lc_pick {m : Nat} {ws : List W} (hm : m < 1000) (hD : H D = none)
    (body : ∀ (j : Nat) (H1 : Hp), j < m → Same H H1 → ∀ (R : V → Hp → Prop) (R0 : Hp → Prop), (∀ v z, IsW H1 v z → z ∈ ws → R v H1) → R0 H1 →
      g (.int (0 + (j : Int))) (wipe σ vs) H1 fun σ2 H2 => wipe σ2 vs = wipe σ vs ∧ tt σ2 H2 fun b H3 => if b = true then te σ2 H3 R else R0 H3)
    (done : ∀ (H1 : Hp) (acc : List V) (zs : List W), Same H H1 → H1 D = some (.lst acc) → Pile H1 acc zs → zs.length ≤ m → (∀ z ∈ zs, z ∈ ws) → Qd H1) :
    LoopC (Itr 0 m) g tt te vs σ D Qd (upd H D (.lst [])) := by
  refine loopCR (fun j H' => Same H H' ∧ ∃ acc zs, H' D = some (.lst acc) ∧ Pile H' acc zs ∧ zs.length ≤ j ∧ ∀ z ∈ zs, z ∈ ws) ⟨same_new hD, [], [], upd_same, Pile.nil, Nat.le_refl _, (fun _ h => nomatch h)⟩ ?_ ?_
  · rintro j H3 hj ⟨s3, acc, zs, hD3, p3, zl, zk⟩
    refine body j H3 hj s3 (fun y H4 => ∃ acc, H4 D = some (.lst acc) ∧ acc.length < sizeLine ∧ _) _ ?_ ?_
    · intro v z wz zm
      refine ⟨acc, hD3, ?_, ?_, _, zs ++ [z], upd_same, (Pile.app p3 (Pile.one wz)).keep (Tk.lst hD3), ?_, ?_⟩
      · rw [p3.len]
        have : 1000 < sizeLine := by decide
        omega
      · intro x o e
        rw [upd_ne (ne_of_none e hD)]
        exact s3 x o e
      · rw [List.length_append]
        show zs.length + 1 ≤ j + 1
        omega
      · intro x hx
        rcases List.mem_append.mp hx with hx | hx
        · exact zk x hx
        · rw [List.mem_singleton.mp hx]; exact zm
    · exact ⟨s3, acc, zs, hD3, p3, by omega, zk⟩
  · rintro H3 ⟨s3, acc, zs, hD3, p3, zl, zk⟩
    exact done H3 acc zs s3 hD3 p3 zl zk
theorem lc_filt {K : PySem.W.Frag} {xs : List V} {ws : List W} {f : W → Bool} (hD : H D = none) (hb : H b = some (.lst xs)) (p : Pile H xs ws) (hl : ws.length < 1000000)
    (body : ∀ (x : V) (z : W) (H1 : Hp) (R : V → Hp → Prop) (R0 : Hp → Prop), z ∈ ws → IsW H1 x z → Same H H1 → (f z = true → ∀ H3, Same H1 H3 → R x H3) → (f z = false → ∀ H3, Same H1 H3 → R0 H3) →
      g x (wipe σ vs) H1 fun σ2 H2 => wipe σ2 vs = wipe σ vs ∧ tt σ2 H2 fun b H3 => if b = true then te σ2 H3 R else R0 H3)
    (done : ∀ (H1 : Hp) (acc : List V), Same H H1 → H1 D = some (.lst acc) → Pile H1 acc (ws.filter f) → Qd H1) :
    LoopC (Itl K b) g tt te vs σ D Qd (upd H D (.lst [])) := by
  refine loopCL (xs := xs) (fun j H' => Same H H' ∧ ∃ acc, H' D = some (.lst acc) ∧ Pile H' acc ((ws.take j).filter f)) ⟨same_new hD, [], upd_same, Pile.nil⟩ (fun j H' _ h => SqL.of (h.1 _ _ hb)) ?_ ?_
  · rintro j x H3 hj ⟨s3, acc, hD3, p3⟩
    obtain ⟨z, hz, hw⟩ := p.get hj
    have wz := hw.keep (Same.tk s3)
    have al : acc.length < sizeLine := by
      rw [p3.len]
      have := List.length_filter_le f (ws.take j)
      rw [List.length_take] at this
      have : 1000000 < sizeLine := by decide
      omega
    refine body x z H3 (fun y H4 => ∃ acc, H4 D = some (.lst acc) ∧ acc.length < sizeLine ∧ _) _ (List.mem_of_getElem? hz) wz s3 (fun c H4 s4 => ?_) (fun c H4 s4 => ?_)
    · have h4 := s4 _ _ hD3
      refine ⟨acc, h4, al, fun a o e => ?_, _, upd_same, ?_⟩
      · rw [upd_ne (ne_of_none e hD)]
        exact s4 _ _ (s3 _ _ e)
      · rw [List.take_add_one, hz, List.filter_append, show List.filter f (some z).toList = [z] by show List.filter f [z] = [z]; rw [List.filter_cons_of_pos c, List.filter_nil]]
        exact (Pile.app (p3.keep (Same.tk s4)) (Pile.one (wz.keep (Same.tk s4)))).keep (Tk.lst h4)
    · refine ⟨s3.trans s4, acc, s4 _ _ hD3, ?_⟩
      rw [List.take_add_one, hz, List.filter_append, show List.filter f (some z).toList = [] by show List.filter f [z] = []; rw [List.filter_cons_of_neg (by rw [c]; exact Bool.false_ne_true), List.filter_nil], List.append_nil]
      exact p3.keep (Same.tk s4)
  · rintro H3 ⟨s3, acc, hD3, p3⟩
    rw [p.len, List.take_length] at p3
    exact done H3 acc s3 hD3 p3
end
end Wpk

/-! Pictures as data; how one is made. -/
namespace Wpm
open PySem PySem.Spec PyProof.Rows L2 Wp Wq Wr
def Newly (ws : List W) (z : W) : Prop := z ∈ ws ∨ (z.1 = Str.ofString "at" ∧ 0 ≤ z.2) ∨ z.1 = Str.ofString "num"
theorem eqv_nil {ds : List PyData} : PyData.eqv (.list ds) (.list []) = decide (ds = []) := by
  cases ds <;> simp [PyData.eqv, PyData.eqvAll]
/-- many wells -/
def Wells (H : Hp) (bs : List Addr) (n : Nat) : Prop := ∀ b ∈ bs, Ww.Well H b n
theorem Wells.step {H H' : Hp} {bs : List Addr} {b : Addr} {n m : Nat} (h : Wells H bs n) (hb : Ww.Well H' b m) (k : Kp b H H') (hm : n ≤ m) : Wells H' bs m := by
  intro c hc
  by_cases e : c = b
  · rw [e]; exact hb
  · exact ((h c hc).at fun o ho => k c o e ho).mono hm
theorem Wells.keep {H H' : Hp} {bs : List Addr} {n : Nat} (h : Wells H bs n) (k : Same H H') : Wells H' bs n := fun c hc => (h c hc).keep k
theorem Wells.mono {H : Hp} {bs : List Addr} {n m : Nat} (h : Wells H bs n) (k : n ≤ m) : Wells H bs m := fun c hc => (h c hc).mono k
/-- a list of numbered names -/
def sBox : Str := Str.ofString "box"
def sGo : Str := Str.ofString "go"
def Named (ws : List W) : Prop := (∀ z ∈ ws, (z.1 = sBox ∨ z.1 = sGo) ∧ 0 ≤ z.2) ∧ ws.Pairwise fun x y => x.1 = y.1 → x.2 < y.2
/-- the last number of each word -/
def LastD (g : Str → Int) : List (Key × V) := [(.inr sBox, .int (g sBox)), (.inr sGo, .int (g sGo))]
theorem box_go : sBox ≠ sGo := by decide +kernel
theorem LastD.get (g : Str → Int) {wd : Str} (h : wd = sBox ∨ wd = sGo) : valV (LastD g) (.inr wd) = some (.int (g wd)) := by
  rcases h with rfl | rfl
  · exact valV_pos rfl
  · rw [show LastD g = (.inr sBox, .int (g sBox)) :: [(.inr sGo, .int (g sGo))] from rfl, valV_neg (fun e => box_go (Sum.inr.inj e))]
    exact valV_pos rfl
theorem LastD.put (g : Str → Int) {wd : Str} (h : wd = sBox ∨ wd = sGo) (v : Int) : putK (LastD g) (.inr wd) (.int v) = LastD fun u => if u = wd then v else g u := by
  have n1 : ¬ (Sum.inr sBox : Key) = Sum.inr sGo := fun e => box_go (Sum.inr.inj e)
  have n2 : ¬ (Sum.inr sGo : Key) = Sum.inr sBox := fun e => box_go (Sum.inr.inj e).symm
  rcases h with rfl | rfl
  · simp [putK, LastD, n1, n2, box_go, box_go.symm]
  · simp [putK, LastD, n1, n2, box_go, box_go.symm]
theorem Named.app {ws : List W} {z : W} (h : Named ws) (k : z.1 = sBox ∨ z.1 = sGo) (z0 : 0 ≤ z.2) (lt : ∀ x ∈ ws, x.1 = z.1 → x.2 < z.2) : Named (ws ++ [z]) := by
  refine ⟨?_, ?_⟩
  · intro x hx
    rcases List.mem_append.mp hx with hx | hx
    · exact h.1 x hx
    · rw [List.mem_singleton.mp hx]; exact ⟨k, z0⟩
  · rw [List.pairwise_append]
    refine ⟨h.2, List.pairwise_singleton _ _, ?_⟩
    intro x hx y hy
    rw [List.mem_singleton.mp hy]
    exact lt x hx
/-- what a hold does: a peg more, or a worth more in a row -/
def Held1 (H H' : Hp) (b pg : Addr) (kvs : List (Key × V)) (rs : List Addr) (v : V) : Prop :=
  (∃ name : Str, Wu.Nm name ∧ 1 ≤ name.length ∧ valV kvs (.inr name) = none ∧ H' pg = some (.dK (kvs ++ [(.inr name, v)])) ∧ Ks [b, pg] H H') ∨
  (∃ r xs k, r ∈ rs ∧ H r = some (.lst xs) ∧ H' r = some (.lst (xs.take k ++ v :: xs.drop k)) ∧ k ≤ xs.length ∧ Ks [b, r] H H')
/-- the pegs' dict -/
def PegOk (ws : List W) (H : Hp) (kvs : List (Key × V)) (n : Nat) : Prop := (∀ kv ∈ kvs, ∃ (nm : Str) (z : W), kv.1 = .inr nm ∧ IsW H kv.2 z ∧ Wu.Nm nm ∧ 1 ≤ nm.length ∧ Newly ws z) ∧ (kvs.map (·.1)).Nodup ∧ kvs.length ≤ n
theorem PegOk.keep {ws : List W} {H H' : Hp} {kvs : List (Key × V)} {n : Nat} (h : PegOk ws H kvs n) (k : Tk H H') : PegOk ws H' kvs n := ⟨fun kv m => by
  obtain ⟨nm, z, e, w, r⟩ := h.1 kv m
  exact ⟨nm, z, e, w.keep k, r⟩, h.2⟩
theorem PegOk.put {ws : List W} {H : Hp} {kvs : List (Key × V)} {n : Nat} {nm : Str} {v : V} {z : W} (h : PegOk ws H kvs n) (w : IsW H v z) (n1 : Wu.Nm nm) (n2 : 1 ≤ nm.length) (nz : Newly ws z) : PegOk ws H (putK kvs (.inr nm) v) (n + 1) := by
  obtain ⟨h1, h2, h3⟩ := h
  unfold putK
  by_cases c : (kvs.any fun kv => decide (kv.1 = (Sum.inr nm : Key))) = true
  · rw [if_pos c]
    refine ⟨?_, ?_, by rw [List.length_map]; omega⟩
    · intro kv m
      obtain ⟨kv0, m0, rfl⟩ := List.mem_map.mp m
      by_cases e : kv0.1 = (Sum.inr nm : Key)
      · rw [if_pos e]; exact ⟨nm, z, e, w, n1, n2, nz⟩
      · rw [if_neg e]; exact h1 kv0 m0
    · have : (kvs.map fun kv => if kv.1 = (Sum.inr nm : Key) then (kv.1, v) else kv).map (·.1) = kvs.map (·.1) := by
        rw [List.map_map]
        refine List.map_congr_left fun kv _ => ?_
        show (if kv.1 = (Sum.inr nm : Key) then (kv.1, v) else kv).1 = kv.1
        split <;> rfl
      rw [this]; exact h2
  · rw [if_neg c]
    refine ⟨?_, ?_, by rw [List.length_append]; show kvs.length + 1 ≤ n + 1; omega⟩
    · intro kv m
      rcases List.mem_append.mp m with m | m
      · exact h1 kv m
      · rw [List.mem_singleton.mp m]; exact ⟨nm, z, rfl, w, n1, n2, nz⟩
    · rw [List.map_append]
      refine List.pairwise_append.mpr ⟨h2, List.pairwise_singleton _ _, ?_⟩
      intro x hx y hy
      rw [List.mem_singleton.mp hy]
      obtain ⟨kv, m, rfl⟩ := List.mem_map.mp hx
      exact fun e => c (List.any_eq_true.mpr ⟨kv, m, decide_eq_true e⟩)
/-! ### a picture as data -/
def strLt (a b : Str) : Prop := a.cps.toList < b.cps.toList
structure Pic where
  pile : List W
  pegs : List (Str × W)
  goings : List (Int × Int × List W)
  boxes : List (Int × W)
namespace Pic
def things (P : Pic) : List W := P.boxes.map (fun b => (sBox, b.1)) ++ P.goings.map (fun g => (sGo, g.1))
def worths (P : Pic) : List W := P.pile ++ (P.pegs.map (·.2) ++ P.boxes.map (·.2)) ++ P.goings.flatMap (·.2.2)
end Pic
/-- a worth -/
def Wk (z : W) : Prop := ((z.1 = sBox ∨ z.1 = sGo) ∧ 0 ≤ z.2) ∨ (z.1 = Str.ofString "at" ∧ 0 ≤ z.2) ∨ z.1 = Str.ofString "num"
structure Pic.Ok (P : Pic) : Prop where
  words : ∀ z ∈ P.worths, Wk z
  names : ∀ p ∈ P.pegs, Wu.Nm p.1 ∧ 1 ≤ p.1.length
  pegUp : P.pegs.Pairwise fun a b => strLt a.1 b.1
  goUp : P.goings.Pairwise fun a b => a.1 < b.1
  goNat : ∀ g ∈ P.goings, 0 ≤ g.1 ∧ 0 ≤ g.2.1
  boxUp : P.boxes.Pairwise fun a b => a.1 < b.1
  boxNat : ∀ b ∈ P.boxes, 0 ≤ b.1
  closed : ∀ z ∈ P.worths, (z.1 = sBox ∨ z.1 = sGo) → z ∈ P.things
  held : ∀ z ∈ P.things, z ∈ P.worths
def Pic.Small (n : Nat) (P : Pic) : Prop := P.pile.length ≤ n ∧ P.pegs.length ≤ 100 ∧ P.goings.length ≤ 100 ∧ P.boxes.length ≤ 100 ∧ ∀ g ∈ P.goings, g.2.2.length ≤ n
def IsPegT (H : Hp) (x : V) (p : Str × W) : Prop := ∃ t v, x = .ref t ∧ H t = some (.tup [.str p.1, v]) ∧ IsW H v p.2
def IsBoxT (H : Hp) (x : V) (p : Int × W) : Prop := ∃ t v, x = .ref t ∧ H t = some (.tup [.int p.1, v]) ∧ IsW H v p.2
def IsGoT (S : List Addr) (H : Hp) (x : V) (g : Int × Int × List W) : Prop := ∃ t l vs, x = .ref t ∧ H t = some (.tup [.int g.1, .int g.2.1, .ref l]) ∧ H l = some (.lst vs) ∧ Pile H vs g.2.2 ∧ l ∉ S
structure PicAt (S : List Addr) (H : Hp) (a b c d : Addr) (pa xb xc xd : List V) (P : Pic) : Prop where
  ha : H a = some (.lst pa)
  hb : H b = some (.lst xb)
  hc : H c = some (.lst xc)
  hd : H d = some (.lst xd)
  pile : Pile H pa P.pile
  pegs : Paired (IsPegT H) xb P.pegs
  goings : Paired (IsGoT S H) xc P.goings
  boxes : Paired (IsBoxT H) xd P.boxes
  free : ∀ x ∈ [a, b, c, d], x ∉ S
def IsPic (S : List Addr) (H : Hp) (v : V) (P : Pic) : Prop := ∃ t a b c d pa xb xc xd, v = .ref t ∧ H t = some (.tup [.ref a, .ref b, .ref c, .ref d]) ∧ PicAt S H a b c d pa xb xc xd P
section
variable {S S' : List Addr} {H H' : Hp} {x v : V}
theorem IsPegT.keep {p : Str × W} (h : IsPegT H x p) (k : Tk H H') : IsPegT H' x p := by
  obtain ⟨t, v, e, h1, h2⟩ := h
  exact ⟨t, v, e, k _ _ h1, h2.keep k⟩
theorem IsBoxT.keep {p : Int × W} (h : IsBoxT H x p) (k : Tk H H') : IsBoxT H' x p := by
  obtain ⟨t, v, e, h1, h2⟩ := h
  exact ⟨t, v, e, k _ _ h1, h2.keep k⟩
theorem IsGoT.keep {g : Int × Int × List W} (h : IsGoT S H x g) (k : Ks S H H') : IsGoT S H' x g := by
  obtain ⟨t, l, vs, e, h1, h2, h3, h4⟩ := h
  exact ⟨t, l, vs, e, k.tk _ _ h1, k.keep _ _ h4 h2, h3.keep k.tk, h4⟩
theorem IsGoT.less {g : Int × Int × List W} (h : IsGoT S H x g) (k : ∀ a ∈ S', a ∈ S) : IsGoT S' H x g := by
  obtain ⟨t, l, vs, e, h1, h2, h3, h4⟩ := h
  exact ⟨t, l, vs, e, h1, h2, h3, fun q => h4 (k _ q)⟩
theorem PicAt.keep {a b c d : Addr} {pa xb xc xd : List V} {P : Pic} (h : PicAt S H a b c d pa xb xc xd P) (k : Ks S H H') : PicAt S H' a b c d pa xb xc xd P where
  ha := k.keep _ _ (h.free a (by simp)) h.ha
  hb := k.keep _ _ (h.free b (by simp)) h.hb
  hc := k.keep _ _ (h.free c (by simp)) h.hc
  hd := k.keep _ _ (h.free d (by simp)) h.hd
  pile := h.pile.keep k.tk
  pegs := Paired.mapP h.pegs fun _ _ q => q.keep k.tk
  goings := Paired.mapP h.goings fun _ _ q => q.keep k
  boxes := Paired.mapP h.boxes fun _ _ q => q.keep k.tk
  free := h.free
theorem IsPic.keep {P : Pic} (h : IsPic S H v P) (k : Ks S H H') : IsPic S H' v P := by
  obtain ⟨t, a, b, c, d, pa, xb, xc, xd, e, h1, h2⟩ := h
  exact ⟨t, a, b, c, d, pa, xb, xc, xd, e, k.tk _ _ h1, h2.keep k⟩
end
/-! ### the making -/
def IsPeg (H : Hp) (kv : Key × V) (nz : Str × W) : Prop := kv.1 = .inr nz.1 ∧ IsW H kv.2 nz.2
theorem IsPeg.keep {H H' : Hp} {kv : Key × V} {nz : Str × W} (h : IsPeg H kv nz) (k : Tk H H') : IsPeg H' kv nz := ⟨h.1, h.2.keep k⟩
theorem pegs_of {ws : List W} {H : Hp} : ∀ {kvs : List (Key × V)}, (∀ kv ∈ kvs, ∃ (nm : Str) (z : W), kv.1 = .inr nm ∧ IsW H kv.2 z ∧ Wu.Nm nm ∧ 1 ≤ nm.length ∧ Newly ws z) →
    ∃ kw : List (Str × W), Paired (IsPeg H) kvs kw ∧ ∀ nz ∈ kw, Wu.Nm nz.1 ∧ 1 ≤ nz.1.length ∧ Newly ws nz.2
  | [], _ => ⟨[], .nil, fun _ h => nomatch h⟩
  | kv :: kvs, h => by
    obtain ⟨nm, z, e, w, n1, n2, nz⟩ := h kv List.mem_cons_self
    obtain ⟨kw, p, q⟩ := pegs_of fun x hx => h x (List.mem_cons_of_mem _ hx)
    refine ⟨(nm, z) :: kw, .cons ⟨e, w⟩ p, fun y hy => ?_⟩
    rcases List.mem_cons.mp hy with rfl | hy
    · exact ⟨n1, n2, nz⟩
    · exact q y hy
theorem pegs_keys {H : Hp} : ∀ {kvs : List (Key × V)} {kw : List (Str × W)}, Paired (IsPeg H) kvs kw → kvs.map (·.1) = kw.map fun nz => (Sum.inr nz.1 : Key)
  | _, _, .nil => rfl
  | _, _, .cons r t => by rw [List.map_cons, List.map_cons, pegs_keys t, r.1]
theorem pegs_nodup {H : Hp} {kvs : List (Key × V)} {kw : List (Str × W)} (h : Paired (IsPeg H) kvs kw) (n : (kvs.map (·.1)).Nodup) : (kw.map (·.1)).Nodup := by
  rw [pegs_keys h, show (fun nz : Str × W => (Sum.inr nz.1 : Key)) = (fun s => (Sum.inr s : Key)) ∘ (·.1) from rfl, ← List.map_map] at n
  exact (List.Pairwise.of_map _ (fun a b q e => q (congrArg _ e)) n)
theorem valV_none {k : Key} : ∀ {kvs : List (Key × V)}, valV kvs k = none → k ∉ kvs.map (·.1)
  | [], _ => fun m => nomatch m
  | kv :: kvs, h => by
    by_cases e : kv.1 = k
    · rw [show kv :: kvs = (kv.1, kv.2) :: kvs from rfl, valV_pos e] at h
      cases h
    · rw [show kv :: kvs = (kv.1, kv.2) :: kvs from rfl, valV_neg e] at h
      have ih := valV_none h
      intro m
      rcases List.mem_cons.mp m with q | m
      · exact e q.symm
      · exact ih m
def Stands (Ps : List (List W)) (pw : List W) (kw : List (Str × W)) (z : W) : Prop := z ∈ pw ∨ (∃ p ∈ Ps, z ∈ p) ∨ ∃ nz ∈ kw, nz.2 = z
structure Dat (ws : List W) (N i : Nat) (Ps : List (List W)) (pw : List W) (kw : List (Str × W)) : Prop where
  psl : Ps.length = N
  rows : ∀ (j : Nat) (z : W) (p : List W), ws[j]? = some z → Ps[j]? = some p → (z.1 = sBox → p.length = 1) ∧ p.length ≤ 4 + i ∧ ∀ y ∈ p, Newly ws y
  pile : pw.length ≤ 7 + i ∧ ∀ y ∈ pw, Newly ws y
  pegs : kw.length ≤ 4 + i ∧ (kw.map (·.1)).Nodup ∧ ∀ nz ∈ kw, Wu.Nm nz.1 ∧ 1 ≤ nz.1.length ∧ Newly ws nz.2
  held : ∀ j, j < i → ∀ z, ws[j]? = some z → Stands Ps pw kw z
structure Fix (ws : List W) (N : Nat) (H0 : Hp) (D E r R Pl G Pg : Addr) (bs ra : List Addr) (sd pp : List Int) : Prop where
  bl : bs.length = N
  sl : sd.length = N
  wl : ws.length = N
  rl : ra.length = N
  pl : pp.length = N
  N30 : N ≤ 30
  sb : ∀ x ∈ sd, 0 ≤ x ∧ x < 2
  wn : Named ws
  pp0 : ∀ x ∈ pp, 0 ≤ x
  nd : ra.Nodup
  Gra : G ∉ ra
  Pgx : Pg ≠ G ∧ Pg ∉ ra
  apart : ∀ x ∈ [D, E, r, R, Pl], x ∉ Pg :: G :: (ra ++ bs)
  wap : ∀ b ∈ bs, b ∉ Pg :: G :: ra
  fresh : ∀ x ∈ Pg :: G :: (ra ++ bs), H0 x = none
structure Mid (ws : List W) (H0 : Hp) (D E r R Pl G Pg : Addr) (bs ra : List Addr) (sd pp : List Int) (vs : List V) (n : Nat) (H : Hp) (Ps : List (List W)) (pw : List W) (kvs : List (Key × V)) (kw : List (Str × W)) : Prop where
  hD : H D = some (.lst (bs.map V.ref))
  hE : H E = some (.lst (sd.map V.int))
  hr : H r = some (.lst vs)
  hp : Pile H vs ws
  hR : H R = some (.lst (ra.map V.ref))
  hPl : H Pl = some (.lst (pp.map V.int))
  rows : Lists [] H (ra.map V.ref) Ps
  pile : ∃ pa, H G = some (.lst pa) ∧ Pile H pa pw
  hPg : H Pg = some (.dK kvs)
  pegs : Paired (IsPeg H) kvs kw
  wells : Wells H bs n
  same : Same H0 H
theorem Lists.more {S : List Addr} {H : Hp} : ∀ {ra : List Addr} {Ps : List (List W)}, Lists [] H (ra.map V.ref) Ps → (∀ a ∈ ra, a ∉ S) → Lists S H (ra.map V.ref) Ps
  | [], _, .nil, _ => .nil
  | a :: ra, _, .cons ⟨l, vs, e, h1, h2, _⟩ t, k => by
    refine .cons ⟨l, vs, e, h1, h2, ?_⟩ (Lists.more t fun x hx => k x (List.mem_cons_of_mem _ hx))
    injection e with e
    rw [← e]
    exact k a List.mem_cons_self
theorem Lists.ins {H H' : Hp} {b r : Addr} {v : V} {z : W} {k : Nat} {xs : List V} (hx : H r = some (.lst xs)) (h' : H' r = some (.lst (xs.take k ++ v :: xs.drop k))) (hk : Ks [b, r] H H') (wz : IsW H v z) :
    ∀ {ra : List Addr} {Ps : List (List W)} {j : Nat} {p : List W}, Lists [] H (ra.map V.ref) Ps → ra.Nodup → b ∉ ra → ra[j]? = some r → Ps[j]? = some p → Lists [] H' (ra.map V.ref) (Ps.set j (p.take k ++ z :: p.drop k))
  | a :: ra, _ :: Ps, 0, p, .cons ⟨l, vs, e, h1, h2, _⟩ t, nd, nb, hj, hp => by
    cases hj
    cases hp
    injection e with e
    subst e
    rw [hx] at h1
    cases h1
    have nd2 := List.nodup_cons.mp nd
    refine .cons ⟨r, _, rfl, h', ?_, by simp⟩ ?_
    · exact (Pile.app (h2.take k) (Paired.cons wz (h2.drop k))).keep hk.tk
    · refine Lists.less (S := [b, r]) ((Lists.more t fun x hx => ?_).keep hk) (fun _ h => nomatch h)
      intro m
      rcases List.mem_cons.mp m with q | m
      · exact nb (by rw [← q]; exact List.mem_cons_of_mem _ hx)
      · rw [List.mem_singleton.mp m] at hx; exact nd2.1 hx
  | a :: ra, q :: Ps, j + 1, p, .cons ⟨l, vs, e, h1, h2, h3⟩ t, nd, nb, hj, hp => by
    have nd2 := List.nodup_cons.mp nd
    injection e with e
    subst e
    have hm : r ∈ ra := List.mem_of_getElem? (show ra[j]? = some r from hj)
    have na : a ∉ [b, r] := by
      intro m
      rcases List.mem_cons.mp m with q | m
      · exact nb (by rw [← q]; exact List.mem_cons_self)
      · rw [← List.mem_singleton.mp m] at hm; exact nd2.1 hm
    exact .cons ⟨a, vs, rfl, hk.keep _ _ na h1, h2.keep hk.tk, h3⟩ (Lists.ins hx h' hk wz t nd2.2 (fun m => nb (List.mem_cons_of_mem _ m)) hj hp)
section
variable {ws : List W} {N i n n' : Nat} {H0 H H' : Hp} {D E r R Pl G Pg b : Addr} {bs ra hs : List Addr} {sd pp : List Int} {vs : List V} {Ps : List (List W)} {pw : List W} {kvs : List (Key × V)} {kw : List (Str × W)} {z : W} {v : V}
theorem Dat.skip (d : Dat ws N i Ps pw kw) (h : ∀ z, ws[i]? = some z → Stands Ps pw kw z) : Dat ws N (i + 1) Ps pw kw where
  psl := d.psl
  rows := fun j z p hz hp => ⟨(d.rows j z p hz hp).1, by have := (d.rows j z p hz hp).2.1; omega, (d.rows j z p hz hp).2.2⟩
  pile := ⟨by have := d.pile.1; omega, d.pile.2⟩
  pegs := ⟨by have := d.pegs.1; omega, d.pegs.2⟩
  held := fun j hj z hz => by
    by_cases e : j = i
    · rw [e] at hz; exact h z hz
    · exact d.held j (by omega) z hz
/-- the fixed part behind a change at one place -/
theorem Mid.fixed (F : Fix ws N H0 D E r R Pl G Pg bs ra sd pp) (m : Mid ws H0 D E r R Pl G Pg bs ra sd pp vs n H Ps pw kvs kw) (hb : b ∈ bs) {x : Addr} (hx : x ∈ Pg :: G :: ra) (k : Ks [b, x] H H') :
    H' D = some (.lst (bs.map V.ref)) ∧ H' E = some (.lst (sd.map V.int)) ∧ H' r = some (.lst vs) ∧ Pile H' vs ws ∧ H' R = some (.lst (ra.map V.ref)) ∧ H' Pl = some (.lst (pp.map V.int)) ∧ Same H0 H' := by
  have xin : x ∈ Pg :: G :: (ra ++ bs) := by
    rcases List.mem_cons.mp hx with h | h
    · rw [h]; exact List.mem_cons_self
    · rcases List.mem_cons.mp h with h | h
      · rw [h]; simp
      · simp [h]
  have bin : b ∈ Pg :: G :: (ra ++ bs) := by simp [hb]
  have ap : ∀ y ∈ [D, E, r, R, Pl], y ∉ [b, x] := fun y hy m => by
    rcases List.mem_cons.mp m with h | h
    · exact F.apart y hy (h ▸ bin)
    · exact F.apart y hy (List.mem_singleton.mp h ▸ xin)
  refine ⟨k.keep _ _ (ap _ (by simp)) m.hD, k.keep _ _ (ap _ (by simp)) m.hE, k.keep _ _ (ap _ (by simp)) m.hr, m.hp.keep k.tk, k.keep _ _ (ap _ (by simp)) m.hR, k.keep _ _ (ap _ (by simp)) m.hPl, ?_⟩
  refine k.toSame m.same fun a ha => ?_
  rcases List.mem_cons.mp ha with h | h
  · rw [h]; exact F.fresh b bin
  · rw [List.mem_singleton.mp h]; exact F.fresh x xin
theorem Wells.put {x : Addr} (h : Wells H bs n) (hb : b ∈ bs) (hw : Ww.Well H' b n') (hn : n ≤ n') (hx : x ∉ bs) (k : Ks [b, x] H H') : Wells H' bs n' := by
  intro c hc
  by_cases e : c = b
  · rw [e]; exact hw
  · refine ((h c hc).at fun o ho => k.keep c o (fun m => ?_) ho).mono hn
    rcases List.mem_cons.mp m with q | q
    · exact e q
    · rw [List.mem_singleton.mp q] at hc; exact hx hc
theorem Mid.hold (F : Fix ws N H0 D E r R Pl G Pg bs ra sd pp) (m : Mid ws H0 D E r R Pl G Pg bs ra sd pp vs n H Ps pw kvs kw) (d : Dat ws N i Ps pw kw) (hz : ws[i]? = some z) (hv : IsW H v z) (hb : b ∈ bs) (hw : Ww.Well H' b n') (hn : n ≤ n')
    (h : Held1 H H' b Pg kvs (G :: hs) v) (hhs : ∀ a ∈ hs, ∃ (j : Nat) (zj : W), ra[j]? = some a ∧ ws[j]? = some zj ∧ zj.1 = sGo) :
    ∃ Ps' pw' kvs' kw', Mid ws H0 D E r R Pl G Pg bs ra sd pp vs n' H' Ps' pw' kvs' kw' ∧ Dat ws N (i + 1) Ps' pw' kw' := by
  have zn : Newly ws z := .inl (List.mem_of_getElem? hz)
  have bap := F.wap b hb
  have bPg : b ≠ Pg := fun e => bap (e ▸ List.mem_cons_self)
  have bG : b ≠ G := fun e => bap (e ▸ List.mem_cons_of_mem _ List.mem_cons_self)
  have bra : b ∉ ra := fun e => bap (List.mem_cons_of_mem _ (List.mem_cons_of_mem _ e))
  have nbs : ∀ x ∈ Pg :: G :: ra, x ∉ bs := fun x hx q => F.wap x q hx
  obtain ⟨pa, hG, pG⟩ := m.pile
  rcases h with ⟨name, n1, n2, nn, hPg', k⟩ | ⟨q, xs, c, hq, hq1, hq2, hc, k⟩
  · obtain ⟨f1, f2, f3, f4, f5, f6, f7⟩ := Mid.fixed F m hb (x := Pg) List.mem_cons_self k
    have nk : name ∉ kw.map (·.1) := by
      have := valV_none nn
      rw [pegs_keys m.pegs] at this
      intro q
      obtain ⟨nz, m1, e⟩ := List.mem_map.mp q
      exact this (List.mem_map.mpr ⟨nz, m1, by rw [e]⟩)
    refine ⟨Ps, pw, _, kw ++ [(name, z)], ⟨f1, f2, f3, f4, f5, f6, ?_, ⟨pa, ?_, pG.keep k.tk⟩, hPg', ?_, ?_, f7⟩, ?_⟩
    · refine Lists.less (S := [b, Pg]) ((Lists.more m.rows fun x hx => ?_).keep k) (fun _ h => nomatch h)
      intro q
      rcases List.mem_cons.mp q with q | q
      · exact bra (q ▸ hx)
      · exact F.Pgx.2 (List.mem_singleton.mp q ▸ hx)
    · refine k.keep _ _ (fun q => ?_) hG
      rcases List.mem_cons.mp q with q | q
      · exact bG q.symm
      · exact F.Pgx.1 (List.mem_singleton.mp q).symm
    · exact Wpk.paired_snoc (Paired.mapP m.pegs fun _ _ q => q.keep k.tk) ⟨rfl, hv.keep k.tk⟩
    · exact Wells.put m.wells hb hw hn (nbs _ List.mem_cons_self) k
    · refine ⟨d.psl, fun j y p hy hp => ⟨(d.rows j y p hy hp).1, by have := (d.rows j y p hy hp).2.1; omega, (d.rows j y p hy hp).2.2⟩, ⟨by have := d.pile.1; omega, d.pile.2⟩, ⟨?_, ?_, ?_⟩, ?_⟩
      · rw [List.length_append]
        have := d.pegs.1
        show kw.length + 1 ≤ _
        omega
      · rw [List.map_append]
        refine List.pairwise_append.mpr ⟨d.pegs.2.1, List.pairwise_singleton _ _, ?_⟩
        intro x hx y hy
        rw [List.mem_singleton.mp hy]
        rintro rfl
        exact nk hx
      · intro nz hnz
        rcases List.mem_append.mp hnz with h | h
        · exact d.pegs.2.2 nz h
        · rw [List.mem_singleton.mp h]; exact ⟨n1, n2, zn⟩
      · intro j hj y hy
        by_cases e : j = i
        · rw [e, hz] at hy
          cases hy
          exact .inr (.inr ⟨(name, z), by simp, rfl⟩)
        · rcases d.held j (by omega) y hy with h | h | ⟨nz, h, e2⟩
          · exact .inl h
          · exact .inr (.inl h)
          · exact .inr (.inr ⟨nz, List.mem_append_left _ h, e2⟩)
  · rcases List.mem_cons.mp hq with e | hq
    · subst e
      rw [hG] at hq1
      cases hq1
      obtain ⟨f1, f2, f3, f4, f5, f6, f7⟩ := Mid.fixed F m hb (x := q) (by simp) k
      have pl2 : Pile H' (pa.take c ++ v :: pa.drop c) (pw.take c ++ z :: pw.drop c) := (Pile.app (pG.take c) (Paired.cons hv (pG.drop c))).keep k.tk
      have inw : ∀ y, y ∈ pw.take c ++ z :: pw.drop c ↔ y ∈ pw ∨ y = z := by
        intro y
        constructor
        · intro h
          rcases List.mem_append.mp h with h | h
          · exact .inl (List.mem_of_mem_take h)
          · rcases List.mem_cons.mp h with h | h
            · exact .inr h
            · exact .inl (List.mem_of_mem_drop h)
        · intro h
          rcases h with h | h
          · rw [← List.take_append_drop c pw] at h
            rcases List.mem_append.mp h with h | h
            · exact List.mem_append_left _ h
            · exact List.mem_append_right _ (List.mem_cons_of_mem _ h)
          · rw [h]; exact List.mem_append_right _ List.mem_cons_self
      have lw : (pw.take c ++ z :: pw.drop c).length = pw.length + 1 := by
        rw [List.length_append, List.length_cons, List.length_take, List.length_drop]
        omega
      refine ⟨Ps, _, kvs, kw, ⟨f1, f2, f3, f4, f5, f6, ?_, ⟨_, hq2, pl2⟩, ?_, Paired.mapP m.pegs fun _ _ q => q.keep k.tk, ?_, f7⟩, ?_⟩
      · refine Lists.less (S := [b, q]) ((Lists.more m.rows fun x hx => ?_).keep k) (fun _ h => nomatch h)
        intro w
        rcases List.mem_cons.mp w with w | w
        · exact bra (w ▸ hx)
        · exact F.Gra (List.mem_singleton.mp w ▸ hx)
      · refine k.keep _ _ (fun w => ?_) m.hPg
        rcases List.mem_cons.mp w with w | w
        · exact bPg w.symm
        · exact F.Pgx.1 (List.mem_singleton.mp w)
      · exact Wells.put m.wells hb hw hn (nbs _ (by simp)) k
      · refine ⟨d.psl, fun j y p hy hp => ⟨(d.rows j y p hy hp).1, by have := (d.rows j y p hy hp).2.1; omega, (d.rows j y p hy hp).2.2⟩, ⟨by rw [lw]; have := d.pile.1; omega, fun y hy => ?_⟩, ⟨by have := d.pegs.1; omega, d.pegs.2⟩, ?_⟩
        · rcases (inw y).mp hy with h | h
          · exact d.pile.2 y h
          · rw [h]; exact zn
        · intro j hj y hy
          by_cases e : j = i
          · rw [e, hz] at hy
            cases hy
            exact .inl ((inw _).mpr (.inr rfl))
          · rcases d.held j (by omega) y hy with h | h | h
            · exact .inl ((inw _).mpr (.inl h))
            · exact .inr (.inl h)
            · exact .inr (.inr h)
    · obtain ⟨j0, zj, hj0, hzj, hgo⟩ := hhs q hq
      have qra : q ∈ ra := List.mem_of_getElem? hj0
      obtain ⟨f1, f2, f3, f4, f5, f6, f7⟩ := Mid.fixed F m hb (x := q) (by simp [qra]) k
      have hlt : j0 < Ps.length := by
        rw [d.psl, ← F.rl]
        exact (List.getElem?_eq_some_iff.mp hj0).1
      obtain ⟨p0, hp0⟩ : ∃ p, Ps[j0]? = some p := ⟨_, List.getElem?_eq_getElem hlt⟩
      have L' := Lists.ins hq1 hq2 k hv m.rows F.nd bra hj0 hp0
      have inw : ∀ y, y ∈ p0.take c ++ z :: p0.drop c ↔ y ∈ p0 ∨ y = z := by
        intro y
        constructor
        · intro h
          rcases List.mem_append.mp h with h | h
          · exact .inl (List.mem_of_mem_take h)
          · rcases List.mem_cons.mp h with h | h
            · exact .inr h
            · exact .inl (List.mem_of_mem_drop h)
        · intro h
          rcases h with h | h
          · rw [← List.take_append_drop c p0] at h
            rcases List.mem_append.mp h with h | h
            · exact List.mem_append_left _ h
            · exact List.mem_append_right _ (List.mem_cons_of_mem _ h)
          · rw [h]; exact List.mem_append_right _ List.mem_cons_self
      have lw : (p0.take c ++ z :: p0.drop c).length = p0.length + 1 := by
        rw [List.length_append, List.length_cons, List.length_take, List.length_drop]
        omega
      refine ⟨_, pw, kvs, kw, ⟨f1, f2, f3, f4, f5, f6, L', ⟨pa, ?_, pG.keep k.tk⟩, ?_, Paired.mapP m.pegs fun _ _ q => q.keep k.tk, ?_, f7⟩, ?_⟩
      · refine k.keep _ _ (fun w => ?_) hG
        rcases List.mem_cons.mp w with w | w
        · exact bG w.symm
        · exact F.Gra (List.mem_singleton.mp w ▸ qra)
      · refine k.keep _ _ (fun w => ?_) m.hPg
        rcases List.mem_cons.mp w with w | w
        · exact bPg w.symm
        · exact F.Pgx.2 (List.mem_singleton.mp w ▸ qra)
      · exact Wells.put m.wells hb hw hn (nbs _ (by simp [qra])) k
      · refine ⟨by rw [List.length_set]; exact d.psl, fun j y p hy hp => ?_, ⟨by have := d.pile.1; omega, d.pile.2⟩, ⟨by have := d.pegs.1; omega, d.pegs.2⟩, ?_⟩
        · by_cases e : j = j0
          · subst e
            rw [List.getElem?_set_self hlt] at hp
            cases hp
            rw [hzj] at hy
            cases hy
            refine ⟨fun e => absurd (e.symm.trans hgo) box_go, ?_, fun y hy => ?_⟩
            · rw [lw]; have := (d.rows j _ p0 hzj hp0).2.1; omega
            · rcases (inw y).mp hy with h | h
              · exact (d.rows j _ p0 hzj hp0).2.2 y h
              · rw [h]; exact zn
          · rw [List.getElem?_set_ne (fun q => e q.symm)] at hp
            exact ⟨(d.rows j y p hy hp).1, by have := (d.rows j y p hy hp).2.1; omega, (d.rows j y p hy hp).2.2⟩
        · intro j hj y hy
          have low : ∀ y, (∃ p ∈ Ps, y ∈ p) ∨ y = z → ∃ p ∈ Ps.set j0 (p0.take c ++ z :: p0.drop c), y ∈ p := by
            intro y hy
            have here : p0.take c ++ z :: p0.drop c ∈ Ps.set j0 (p0.take c ++ z :: p0.drop c) := List.mem_of_getElem? (List.getElem?_set_self hlt)
            rcases hy with ⟨p, hp, hy⟩ | e
            · obtain ⟨jp, hjp⟩ := List.mem_iff_getElem?.mp hp
              by_cases e : jp = j0
              · rw [e, hp0] at hjp
                cases hjp
                exact ⟨_, here, (inw y).mpr (.inl hy)⟩
              · exact ⟨p, List.mem_of_getElem? (by rw [List.getElem?_set_ne (fun q => e q.symm)]; exact hjp), hy⟩
            · exact ⟨_, here, (inw y).mpr (.inr e)⟩
          by_cases e : j = i
          · rw [e, hz] at hy
            cases hy
            exact .inr (.inl (low _ (.inr rfl)))
          · rcases d.held j (by omega) y hy with h | h | h
            · exact .inl h
            · exact .inr (.inl (low _ (.inl h)))
            · exact .inr (.inr h)
end
end Wpm

/-! The made picture is right. -/
namespace Wpn
open PySem PySem.Spec PyProof.Rows L2 Wp Wq Wr Wpm Wk
/-! ### sorted pegs -/
def RP (H : Hp) (b : Wf.BD) (nz : Str × W) : Prop := b.1 = .inr nz.1 ∧ IsW H b.2.1 nz.2 ∧ b.2.2 = wD nz.2
section
variable {H : Hp} {kvs : List (Key × V)} {kw : List (Str × W)} {K : PySem.W.Frag} {bs : List Wf.BD}
theorem bs_of : ∀ {kvs : List (Key × V)} {kw : List (Str × W)}, Paired (IsPeg H) kvs kw → ∃ bs : List Wf.BD, (bs.map fun b => (b.1, b.2.1)) = kvs ∧ Paired (RP H) bs kw
  | _, _, .nil => ⟨[], rfl, .nil⟩
  | kv :: _, nz :: _, .cons r t => by
    obtain ⟨bs, e, p⟩ := bs_of t
    exact ⟨(kv.1, kv.2, wD nz.2) :: bs, by rw [List.map_cons, e], .cons ⟨r.1, r.2, rfl⟩ p⟩
theorem RP.mem (h : Paired (RP H) bs kw) {b : Wf.BD} (hb : b ∈ bs) : ∃ nz, nz ∈ kw ∧ RP H b nz := by
  obtain ⟨i, hi⟩ := List.mem_iff_getElem?.mp hb
  obtain ⟨nz, e, r⟩ := pair_at1 h hi
  exact ⟨nz, List.mem_of_getElem? e, r⟩
theorem RP.pD {b : Wf.BD} {nz : Str × W} (r : RP H b nz) : Wf.pD b = .tuple [.str nz.1, wD nz.2] := by
  unfold Wf.pD
  rw [r.1, r.2.2] <;> rfl
theorem bs_dp (h : Paired (RP H) bs kw) : ∀ b ∈ bs, Dp K H b.2.1 b.2.2 := fun b hb => by
  obtain ⟨nz, _, r⟩ := RP.mem h hb
  rw [r.2.2]
  exact r.2.1.dp
theorem bs_alike (h : Paired (RP H) bs kw) : PySem.W.AllAlike (bs.map Wf.pD) := by
  intro d hd d' hd'
  obtain ⟨b, hb, rfl⟩ := List.mem_map.mp hd
  obtain ⟨b', hb', rfl⟩ := List.mem_map.mp hd'
  obtain ⟨nz, _, r⟩ := RP.mem h hb
  obtain ⟨nz', _, r'⟩ := RP.mem h hb'
  rw [r.pD, r'.pD]
  simp [PySem.W.alike, PySem.W.alikeAll, alikeW]
theorem bs_sortable (h : Paired (RP H) bs kw) : PySem.W.Sortable (bs.map Wf.pD) := .inl fun d hd => by
  obtain ⟨b, hb, rfl⟩ := List.mem_map.mp hd
  obtain ⟨nz, _, r⟩ := RP.mem h hb
  exact ⟨_, _, r.pD⟩
theorem bs_depth (h : Paired (RP H) bs kw) : ∀ b ∈ bs, (Wf.pD b).depth ≤ 60 := fun b hb => by
  obtain ⟨nz, _, r⟩ := RP.mem h hb
  rw [r.pD]
  have e := wD_depth (w := nz.2)
  simp only [PyData.depth, PyData.depthAll] at *
  rw [e]
  decide
theorem le_name {a b : Wf.BD} {p q : Str × W} (ha : RP H a p) (hb : RP H b q) (h : Wf.leP a b = true) (n : p.1 ≠ q.1) : strLt p.1 q.1 := by
  have h2 : (!PySem.W.dataLt (Wf.pD b) (Wf.pD a)) = true := h
  rw [ha.pD, hb.pD, PySem.W.dataLt_pair (by simp [PySem.W.alike]) (alikeW _ _)] at h2
  simp only [PyData.eqv, PySem.W.dataLt_str, beq_iff_eq] at h2
  rw [if_neg (fun e => n e.symm)] at h2
  have h3 : ¬ q.1.cps.toList < p.1.cps.toList := by
    intro c
    rw [decide_eq_true c] at h2
    cases h2
  show p.1.cps.toList < q.1.cps.toList
  by_cases c : p.1.cps.toList < q.1.cps.toList
  · exact c
  · exact absurd (Str.ext' (Array.toList_inj.mp (List.le_antisymm (List.not_lt.mp h3) (List.not_lt.mp c)))) n
theorem pair_wise (h : Paired (RP H) bs kw) (hs : bs.Pairwise (fun a b => Wf.leP a b = true)) (nd : (kw.map (·.1)).Nodup) : kw.Pairwise fun a b => strLt a.1 b.1 := by
  induction h with
  | nil => exact .nil
  | @cons x p l1 l2 r t ih =>
    rw [List.pairwise_cons] at hs ⊢
    rw [List.map_cons] at nd
    have nd2 := List.nodup_cons.mp nd
    refine ⟨fun q hq => ?_, ih hs.2 nd2.2⟩
    obtain ⟨i, hi⟩ := List.mem_iff_getElem?.mp hq
    obtain ⟨b, hb, rb⟩ := pair_at t hi
    exact le_name r rb (hs.1 b (List.mem_of_getElem? hb)) fun e => nd2.1 (List.mem_map.mpr ⟨q, hq, e.symm⟩)
theorem leP_total : PySem.W.TotalLe Wf.leP := PySem.W.sortLe_total _ false _
theorem sorted_bs (h : Paired (RP H) bs kw) (nd : (kw.map (·.1)).Nodup) : ∃ kw', kw'.Perm kw ∧ Paired (RP H) (bs.mergeSort Wf.leP) kw' ∧ kw'.Pairwise fun a b => strLt a.1 b.1 := by
  obtain ⟨kw', hp, q⟩ := Wc.perm_pair (List.mergeSort_perm bs Wf.leP) h
  exact ⟨kw', hp, q, pair_wise q (PySem.W.sort_pairwise leP_total bs) ((hp.map (·.1)).nodup_iff.mpr nd)⟩
/-- sorted(pegs.items()) -/
theorem sort_pegs {Q : VK} {p a : Addr} (h : Paired (IsPeg H) kvs kw) (nd : (kw.map (·.1)).Nodup) (hp : H p = some (L2.DX.itemsO p a)) (ha : H a = some (.dK kvs))
    (q : ∀ (H' : Hp) (l : Addr) (xb : List V) (kw' : List (Str × W)), Same H H' → H l = none → H' l = some (.lst xb) → kw'.Perm kw → kw'.Pairwise (fun a b => strLt a.1 b.1) → Paired (IsPegT H') xb kw' → Q (.ref l) H') : Wf.rSortItems K [.ref p] H Q := by
  obtain ⟨bs, eb, hb⟩ := bs_of h
  obtain ⟨kw', hp', L, hw⟩ := sorted_bs hb nd
  refine ⟨p, a, bs, rfl, hp, by rw [eb]; exact ha, bs_dp hb, bs_alike hb, bs_sortable hb, bs_depth hb, fun H' l ts s hl hts hl' pr => ?_⟩
  clear hts
  refine q H' l _ kw' s hl hl' hp' hw ?_
  clear hl' hp' hw q
  generalize bs.mergeSort Wf.leP = cs at L pr
  clear hb eb
  induction L generalizing ts with
  | nil =>
    cases pr
    exact .nil
  | @cons b nz l1 l2 r t ih =>
    cases pr with
    | @cons t0 _ ts' _ e pr =>
      rw [List.map_cons]
      refine .cons ⟨t0, b.2.1, rfl, ?_, r.2.1.keep (Same.tk s)⟩ (ih ts' pr)
      rw [e, r.1] <;> rfl
end
/-! ### goings and boxes -/
def goOf {α : Type} : List W → List Int → List α → List (Int × Int × α)
  | z :: ws, q :: pp, p :: Ps => if z.1 = sGo then (z.2, q, p) :: goOf ws pp Ps else goOf ws pp Ps
  | _, _, _ => []
def boxOf : List W → List (List W) → List (Int × W)
  | z :: ws, (y :: _) :: Ps => if z.1 = sBox then (z.2, y) :: boxOf ws Ps else boxOf ws Ps
  | _ :: ws, [] :: Ps => boxOf ws Ps
  | _, _ => []
theorem goOf_app {α : Type} : ∀ {ws : List W} {pp : List Int} {Ps : List α} {z : W} {q : Int} {p : α}, pp.length = ws.length → Ps.length = ws.length → goOf (ws ++ [z]) (pp ++ [q]) (Ps ++ [p]) = goOf ws pp Ps ++ if z.1 = sGo then [(z.2, q, p)] else []
  | [], [], [], z, q, p, _, _ => by
    show (if z.1 = sGo then (z.2, q, p) :: goOf [] [] [] else goOf [] [] []) = _
    split <;> rfl
  | w :: ws, r :: pp, s :: Ps, z, q, p, h1, h2 => by
    have ih := goOf_app (ws := ws) (pp := pp) (Ps := Ps) (z := z) (q := q) (p := p) (by simpa using h1) (by simpa using h2)
    show (if w.1 = sGo then (w.2, r, s) :: goOf (ws ++ [z]) (pp ++ [q]) (Ps ++ [p]) else goOf (ws ++ [z]) (pp ++ [q]) (Ps ++ [p])) = (if w.1 = sGo then (w.2, r, s) :: goOf ws pp Ps else goOf ws pp Ps) ++ _
    rw [ih]
    by_cases c : w.1 = sGo
    · rw [if_pos c, if_pos c] <;> rfl
    · rw [if_neg c, if_neg c]
  | [], _ :: _, _, _, _, _, h, _ => by cases h
  | [], [], _ :: _, _, _, _, _, h => by cases h
  | _ :: _, [], _, _, _, _, h, _ => by cases h
  | _ :: _, _ :: _, [], _, _, _, _, h => by cases h
theorem boxOf_app : ∀ {ws : List W} {Ps : List (List W)} {z y : W} {p : List W}, Ps.length = ws.length → boxOf (ws ++ [z]) (Ps ++ [y :: p]) = boxOf ws Ps ++ if z.1 = sBox then [(z.2, y)] else []
  | [], [], z, y, p, _ => by
    show (if z.1 = sBox then (z.2, y) :: boxOf [] [] else boxOf [] []) = _
    split <;> rfl
  | w :: ws, (x :: s) :: Ps, z, y, p, h => by
    have ih := boxOf_app (ws := ws) (Ps := Ps) (z := z) (y := y) (p := p) (by simpa using h)
    show (if w.1 = sBox then (w.2, x) :: boxOf (ws ++ [z]) (Ps ++ [y :: p]) else boxOf (ws ++ [z]) (Ps ++ [y :: p])) = (if w.1 = sBox then (w.2, x) :: boxOf ws Ps else boxOf ws Ps) ++ _
    rw [ih]
    by_cases c : w.1 = sBox
    · rw [if_pos c, if_pos c] <;> rfl
    · rw [if_neg c, if_neg c]
  | w :: ws, [] :: Ps, z, y, p, h => boxOf_app (ws := ws) (Ps := Ps) (by simpa using h)
  | [], _ :: _, _, _, _, h => by cases h
  | _ :: _, [], _, _, _, h => by cases h
theorem boxOf_skip : ∀ {ws : List W} {Ps : List (List W)} {z : W} {p : List W}, Ps.length = ws.length → z.1 ≠ sBox → boxOf (ws ++ [z]) (Ps ++ [p]) = boxOf ws Ps := by
  intro ws Ps z p h n
  cases p with
  | cons y p => rw [boxOf_app h, if_neg n, List.append_nil]
  | nil =>
    induction ws generalizing Ps with
    | nil => cases Ps with
      | nil => rfl
      | cons _ _ => cases h
    | cons w ws ih => cases Ps with
      | nil => cases h
      | cons s Ps =>
        have e := ih (Ps := Ps) (by simpa using h)
        cases s with
        | nil => exact e
        | cons x s =>
          show (if w.1 = sBox then (w.2, x) :: boxOf (ws ++ [z]) (Ps ++ [[]]) else boxOf (ws ++ [z]) (Ps ++ [[]])) = (if w.1 = sBox then (w.2, x) :: boxOf ws Ps else boxOf ws Ps)
          rw [e]
theorem goOf_mem : ∀ {ws : List W} {pp : List Int} {Ps : List (List W)} {g : Int × Int × List W}, g ∈ goOf ws pp Ps → ∃ (j : Nat) (z : W) (q : Int) (p : List W), ws[j]? = some z ∧ pp[j]? = some q ∧ Ps[j]? = some p ∧ z.1 = sGo ∧ g = (z.2, q, p)
  | z :: ws, q :: pp, p :: Ps, g, h => by
    have low : g ∈ goOf ws pp Ps → ∃ (j : Nat) (z' : W) (q' : Int) (p' : List W), (z :: ws)[j]? = some z' ∧ (q :: pp)[j]? = some q' ∧ (p :: Ps)[j]? = some p' ∧ z'.1 = sGo ∧ g = (z'.2, q', p') := fun h => by
      obtain ⟨j, a, b, c, h1, h2, h3, h4⟩ := goOf_mem h
      exact ⟨j + 1, a, b, c, h1, h2, h3, h4⟩
    have h : g ∈ if z.1 = sGo then (z.2, q, p) :: goOf ws pp Ps else goOf ws pp Ps := h
    by_cases c : z.1 = sGo
    · rw [if_pos c] at h
      rcases List.mem_cons.mp h with h | h
      · exact ⟨0, z, q, p, rfl, rfl, rfl, c, h⟩
      · exact low h
    · rw [if_neg c] at h; exact low h
  | [], _, _, _, h => by simp [goOf] at h
  | _ :: _, [], _, _, h => by simp [goOf] at h
  | _ :: _, _ :: _, [], _, h => by simp [goOf] at h
theorem goOf_in : ∀ {ws : List W} {pp : List Int} {Ps : List (List W)} {j : Nat} {z : W} {q : Int} {p : List W}, ws[j]? = some z → pp[j]? = some q → Ps[j]? = some p → z.1 = sGo → (z.2, q, p) ∈ goOf ws pp Ps
  | z :: ws, q :: pp, p :: Ps, 0, _, _, _, h1, h2, h3, c => by
    cases h1; cases h2; cases h3
    show _ ∈ if z.1 = sGo then (z.2, q, p) :: goOf ws pp Ps else goOf ws pp Ps
    rw [if_pos c]
    exact List.mem_cons_self
  | z :: ws, q :: pp, p :: Ps, j + 1, z', q', p', h1, h2, h3, c => by
    have ih : (z'.2, q', p') ∈ goOf ws pp Ps := goOf_in (j := j) h1 h2 h3 c
    show _ ∈ if z.1 = sGo then (z.2, q, p) :: goOf ws pp Ps else goOf ws pp Ps
    split
    · exact List.mem_cons_of_mem _ ih
    · exact ih
  | [], _, _, _, _, _, _, h, _, _, _ => by cases h
  | _ :: _, [], _, _, _, _, _, _, h, _, _ => by cases h
  | _ :: _, _ :: _, [], _, _, _, _, _, _, h, _ => by cases h
theorem boxOf_mem : ∀ {ws : List W} {Ps : List (List W)} {g : Int × W}, g ∈ boxOf ws Ps → ∃ (j : Nat) (z y : W) (p : List W), ws[j]? = some z ∧ Ps[j]? = some (y :: p) ∧ z.1 = sBox ∧ g = (z.2, y)
  | z :: ws, (y :: p) :: Ps, g, h => by
    have low : g ∈ boxOf ws Ps → ∃ (j : Nat) (z' y' : W) (p' : List W), (z :: ws)[j]? = some z' ∧ ((y :: p) :: Ps)[j]? = some (y' :: p') ∧ z'.1 = sBox ∧ g = (z'.2, y') := fun h => by
      obtain ⟨j, a, b, c, h1, h2, h3⟩ := boxOf_mem h
      exact ⟨j + 1, a, b, c, h1, h2, h3⟩
    have h : g ∈ if z.1 = sBox then (z.2, y) :: boxOf ws Ps else boxOf ws Ps := h
    by_cases c : z.1 = sBox
    · rw [if_pos c] at h
      rcases List.mem_cons.mp h with h | h
      · exact ⟨0, z, y, p, rfl, rfl, c, h⟩
      · exact low h
    · rw [if_neg c] at h; exact low h
  | _ :: ws, [] :: Ps, g, h => by
    obtain ⟨j, a, b, c, h1, h2, h3⟩ := boxOf_mem (ws := ws) (Ps := Ps) h
    exact ⟨j + 1, a, b, c, h1, h2, h3⟩
  | [], _, _, h => by simp [boxOf] at h
  | _ :: _, [], _, h => by simp [boxOf] at h
theorem boxOf_in : ∀ {ws : List W} {Ps : List (List W)} {j : Nat} {z y : W} {p : List W}, ws[j]? = some z → Ps[j]? = some (y :: p) → z.1 = sBox → (z.2, y) ∈ boxOf ws Ps
  | z :: ws, (y :: p) :: Ps, 0, _, _, _, h1, h2, c => by
    cases h1; cases h2
    show _ ∈ if z.1 = sBox then (z.2, y) :: boxOf ws Ps else boxOf ws Ps
    rw [if_pos c]
    exact List.mem_cons_self
  | z :: ws, (y :: p) :: Ps, j + 1, z', y', p', h1, h2, c => by
    have ih : (z'.2, y') ∈ boxOf ws Ps := boxOf_in (j := j) h1 h2 c
    show _ ∈ if z.1 = sBox then (z.2, y) :: boxOf ws Ps else boxOf ws Ps
    split
    · exact List.mem_cons_of_mem _ ih
    · exact ih
  | _ :: ws, [] :: Ps, 0, _, _, _, _, h, _ => by cases h
  | _ :: ws, [] :: Ps, j + 1, _, _, _, h1, h2, c => boxOf_in (ws := ws) (Ps := Ps) (j := j) h1 h2 c
  | [], _, _, _, _, _, h, _, _ => by cases h
  | _ :: _, [], _, _, _, _, _, h, _ => by cases h
theorem goOf_up : ∀ {ws : List W} {pp : List Int} {Ps : List (List W)}, (ws.Pairwise fun x y => x.1 = y.1 → x.2 < y.2) → (goOf ws pp Ps).Pairwise fun a b => a.1 < b.1
  | z :: ws, q :: pp, p :: Ps, h => by
    rw [List.pairwise_cons] at h
    show (if z.1 = sGo then (z.2, q, p) :: goOf ws pp Ps else goOf ws pp Ps).Pairwise _
    by_cases c : z.1 = sGo
    · rw [if_pos c, List.pairwise_cons]
      refine ⟨fun g hg => ?_, goOf_up h.2⟩
      obtain ⟨j, z', q', p', h1, _, _, h4, rfl⟩ := goOf_mem hg
      exact h.1 z' (List.mem_of_getElem? h1) (c.trans h4.symm)
    · rw [if_neg c]; exact goOf_up h.2
  | [], _, _, _ => by simp [goOf]
  | _ :: _, [], _, _ => by simp [goOf]
  | _ :: _, _ :: _, [], _ => by simp [goOf]
theorem boxOf_up : ∀ {ws : List W} {Ps : List (List W)}, (ws.Pairwise fun x y => x.1 = y.1 → x.2 < y.2) → (boxOf ws Ps).Pairwise fun a b => a.1 < b.1
  | z :: ws, (y :: p) :: Ps, h => by
    rw [List.pairwise_cons] at h
    show (if z.1 = sBox then (z.2, y) :: boxOf ws Ps else boxOf ws Ps).Pairwise _
    by_cases c : z.1 = sBox
    · rw [if_pos c, List.pairwise_cons]
      refine ⟨fun g hg => ?_, boxOf_up h.2⟩
      obtain ⟨j, z', y', p', h1, _, h4, rfl⟩ := boxOf_mem hg
      exact h.1 z' (List.mem_of_getElem? h1) (c.trans h4.symm)
    · rw [if_neg c]; exact boxOf_up h.2
  | _ :: ws, [] :: Ps, h => boxOf_up (ws := ws) (Ps := Ps) (List.pairwise_cons.mp h).2
  | [], _, _ => by simp [boxOf]
  | _ :: _, [], _ => by simp [boxOf]
theorem goOf_len : ∀ {ws : List W} {pp : List Int} {Ps : List (List W)}, (goOf ws pp Ps).length ≤ ws.length
  | z :: ws, q :: pp, p :: Ps => by
    have := goOf_len (ws := ws) (pp := pp) (Ps := Ps)
    show (if z.1 = sGo then (z.2, q, p) :: goOf ws pp Ps else goOf ws pp Ps).length ≤ _
    split <;> simp only [List.length_cons] <;> omega
  | [], _, _ => by simp [goOf]
  | _ :: _, [], _ => by simp [goOf]
  | _ :: _, _ :: _, [] => by simp [goOf]
theorem boxOf_len : ∀ {ws : List W} {Ps : List (List W)}, (boxOf ws Ps).length ≤ ws.length
  | z :: ws, (y :: p) :: Ps => by
    have := boxOf_len (ws := ws) (Ps := Ps)
    show (if z.1 = sBox then (z.2, y) :: boxOf ws Ps else boxOf ws Ps).length ≤ _
    split <;> simp only [List.length_cons] <;> omega
  | _ :: ws, [] :: Ps => Nat.le_trans (boxOf_len (ws := ws) (Ps := Ps)) (Nat.le_succ _)
  | [], _ => by simp [boxOf]
  | _ :: _, [] => by simp [boxOf]
/-! ### the whole is right -/
theorem at_apart : ∀ {z : W}, (z.1 = sBox ∨ z.1 = sGo) → z.1 ≠ Str.ofString "at" ∧ z.1 ≠ Str.ofString "num" := by
  intro z h
  rcases h with h | h <;> rw [h] <;> decide +kernel
theorem Newly.wk {ws : List W} {z : W} (wn : Named ws) (h : Newly ws z) : Wk z := by
  rcases h with h | h | h
  · exact .inl (wn.1 z h)
  · exact .inr (.inl h)
  · exact .inr (.inr h)
theorem Newly.thing {ws : List W} {z : W} (h : Newly ws z) (k : z.1 = sBox ∨ z.1 = sGo) : z ∈ ws := by
  rcases h with h | h | h
  · exact h
  · exact absurd h.1 (at_apart k).1
  · exact absurd h (at_apart k).2
theorem made {ws : List W} {N : Nat} {pp : List Int} {Ps : List (List W)} {pw : List W} {kw kw' : List (Str × W)} (d : Dat ws N N Ps pw kw) (wl : ws.length = N) (N30 : N ≤ 30) (pl : pp.length = N) (wn : Named ws) (pp0 : ∀ x ∈ pp, 0 ≤ x) (hp : kw'.Perm kw) (hu : kw'.Pairwise fun a b => strLt a.1 b.1) :
    Pic.Ok ⟨pw, kw', goOf ws pp Ps, boxOf ws Ps⟩ ∧ Pic.Small 60 ⟨pw, kw', goOf ws pp Ps, boxOf ws Ps⟩ := by
  have memT : ∀ z, z ∈ Pic.things ⟨pw, kw', goOf ws pp Ps, boxOf ws Ps⟩ ↔ z ∈ ws := by
    intro z
    unfold Pic.things
    constructor
    · intro h
      rcases List.mem_append.mp h with h | h
      · obtain ⟨g, hg, rfl⟩ := List.mem_map.mp h
        obtain ⟨j, y, _, _, h1, _, h4, rfl⟩ := boxOf_mem hg
        rw [← h4]
        exact List.mem_of_getElem? h1
      · obtain ⟨g, hg, rfl⟩ := List.mem_map.mp h
        obtain ⟨j, y, _, _, h1, _, _, h4, rfl⟩ := goOf_mem hg
        rw [← h4]
        exact List.mem_of_getElem? h1
    · intro h
      obtain ⟨j, hj⟩ := List.mem_iff_getElem?.mp h
      have jl : j < N := by rw [← wl]; exact (List.getElem?_eq_some_iff.mp hj).1
      obtain ⟨p, hpj⟩ : ∃ p, Ps[j]? = some p := ⟨_, List.getElem?_eq_getElem (by rw [d.psl]; exact jl)⟩
      rcases (wn.1 z h).1 with c | c
      · have := (d.rows j z p hj hpj).1 c
        cases p with
        | nil => cases this
        | cons y p =>
          refine List.mem_append_left _ (List.mem_map.mpr ⟨_, boxOf_in hj hpj c, ?_⟩)
          rw [← c]
      · obtain ⟨q, hq⟩ : ∃ q, pp[j]? = some q := ⟨_, List.getElem?_eq_getElem (by rw [pl]; exact jl)⟩
        refine List.mem_append_right _ (List.mem_map.mpr ⟨_, goOf_in hj hq hpj c, ?_⟩)
        rw [← c]
  have newT : ∀ z ∈ Pic.worths ⟨pw, kw', goOf ws pp Ps, boxOf ws Ps⟩, Newly ws z := by
    intro z h
    unfold Pic.worths at h
    rcases List.mem_append.mp h with h | h
    · rcases List.mem_append.mp h with h | h
      · exact d.pile.2 z h
      · rcases List.mem_append.mp h with h | h
        · obtain ⟨nz, hn, rfl⟩ := List.mem_map.mp h
          exact (d.pegs.2.2 nz (hp.mem_iff.mp hn)).2.2
        · obtain ⟨g, hg, rfl⟩ := List.mem_map.mp h
          obtain ⟨j, y, x, p, h1, h2, _, rfl⟩ := boxOf_mem hg
          exact (d.rows j y _ h1 h2).2.2 x List.mem_cons_self
    · obtain ⟨g, hg, hz⟩ := List.mem_flatMap.mp h
      obtain ⟨j, y, q, p, h1, _, h3, _, rfl⟩ := goOf_mem hg
      exact (d.rows j y p h1 h3).2.2 z hz
  refine ⟨⟨fun z h => Newly.wk wn (newT z h), fun p h => ?_, hu, goOf_up wn.2, fun g h => ?_, boxOf_up wn.2, fun b h => ?_, fun z h k => (memT z).mpr (Newly.thing (newT z h) k), fun z h => ?_⟩, ?_⟩
  · have := d.pegs.2.2 p (hp.mem_iff.mp h)
    exact ⟨this.1, this.2.1⟩
  · obtain ⟨j, y, q, p, h1, h2, _, _, rfl⟩ := goOf_mem h
    exact ⟨(wn.1 y (List.mem_of_getElem? h1)).2, pp0 q (List.mem_of_getElem? h2)⟩
  · obtain ⟨j, y, x, p, h1, _, _, rfl⟩ := boxOf_mem h
    exact (wn.1 y (List.mem_of_getElem? h1)).2
  · have hw := (memT z).mp h
    obtain ⟨j, hj⟩ := List.mem_iff_getElem?.mp hw
    have jl : j < N := by rw [← wl]; exact (List.getElem?_eq_some_iff.mp hj).1
    show z ∈ pw ++ (kw'.map (·.2) ++ (boxOf ws Ps).map (·.2)) ++ (goOf ws pp Ps).flatMap (·.2.2)
    rcases d.held j jl z hj with h | ⟨p, hpm, hz⟩ | ⟨nz, hn, e⟩
    · exact List.mem_append_left _ (List.mem_append_left _ h)
    · obtain ⟨i, hi⟩ := List.mem_iff_getElem?.mp hpm
      have il : i < N := by rw [← d.psl]; exact (List.getElem?_eq_some_iff.mp hi).1
      obtain ⟨y, hy⟩ : ∃ y, ws[i]? = some y := ⟨_, List.getElem?_eq_getElem (by rw [wl]; exact il)⟩
      rcases (wn.1 y (List.mem_of_getElem? hy)).1 with c | c
      · have l1 := (d.rows i y p hy hi).1 c
        match p, l1, hz, hi with
        | [x], _, hz, hi =>
          rw [List.mem_singleton.mp hz]
          exact List.mem_append_left _ (List.mem_append_right _ (List.mem_append_right _ (List.mem_map.mpr ⟨_, boxOf_in hy hi c, rfl⟩)))
      · obtain ⟨q, hq⟩ : ∃ q, pp[i]? = some q := ⟨_, List.getElem?_eq_getElem (by rw [pl]; exact il)⟩
        exact List.mem_append_right _ (List.mem_flatMap.mpr ⟨_, goOf_in hy hq hi c, hz⟩)
    · exact List.mem_append_left _ (List.mem_append_right _ (List.mem_append_left _ (List.mem_map.mpr ⟨nz, hp.mem_iff.mpr hn, e⟩)))
  · refine ⟨by have := d.pile.1; show pw.length ≤ 60; omega, by rw [hp.length_eq]; have := d.pegs.1; omega, ?_, ?_, fun g h => ?_⟩
    · have := goOf_len (ws := ws) (pp := pp) (Ps := Ps)
      show (goOf ws pp Ps).length ≤ 100
      omega
    · have := boxOf_len (ws := ws) (Ps := Ps)
      show (boxOf ws Ps).length ≤ 100
      omega
    · obtain ⟨j, y, q, p, h1, _, h3, _, rfl⟩ := goOf_mem h
      have := (d.rows j y p h1 h3).2.1
      show p.length ≤ 60
      omega
theorem _root_.Wpm.Newly.wok {ws : List W} {z : W} (wn : Named ws) (h : Newly ws z) : Wok z := by
  rcases h with h | h | h
  · rcases (wn.1 z h).1 with e | e
    · show PyData.strOk z.1 = true
      rw [e]; decide +kernel
    · show PyData.strOk z.1 = true
      rw [e]; decide +kernel
  · show PyData.strOk z.1 = true
    rw [h.1]; decide +kernel
  · show PyData.strOk z.1 = true
    rw [h]; decide +kernel
theorem vals_pile {H : Hp} : ∀ {kvs : List (Key × V)} {kw : List (Str × W)}, Paired (IsPeg H) kvs kw → Pile H (kvs.map (·.2)) (kw.map (·.2))
  | _, _, .nil => Pile.nil
  | _, _, .cons r t => Paired.cons r.2 (vals_pile t)
theorem _root_.Wpm.Mid.keep {ws : List W} {n : Nat} {H0 H H' : Hp} {D E r R Pl G Pg : Addr} {bs ra : List Addr} {sd pp : List Int} {vs : List V} {Ps : List (List W)} {pw : List W} {kvs : List (Key × V)} {kw : List (Str × W)} (m : Mid ws H0 D E r R Pl G Pg bs ra sd pp vs n H Ps pw kvs kw) (s : Same H H') : Mid ws H0 D E r R Pl G Pg bs ra sd pp vs n H' Ps pw kvs kw where
  hD := s _ _ m.hD
  hE := s _ _ m.hE
  hr := s _ _ m.hr
  hp := m.hp.keep (Same.tk s)
  hR := s _ _ m.hR
  hPl := s _ _ m.hPl
  rows := m.rows.keep (Ks.same s)
  pile := by
    obtain ⟨pa, h1, h2⟩ := m.pile
    exact ⟨pa, s _ _ h1, h2.keep (Same.tk s)⟩
  hPg := s _ _ m.hPg
  pegs := Paired.mapP m.pegs fun _ _ q => q.keep (Same.tk s)
  wells := m.wells.keep s
  same := m.same.trans s
theorem lists_pick {H : Hp} {ra : List Addr} {Ps : List (List W)} (L : Lists [] H (ra.map V.ref) Ps) : ∀ {hs : List Addr}, (∀ a ∈ hs, ∃ k : Nat, ra[k]? = some a) → ∃ Qs, Lists [] H (hs.map V.ref) Qs ∧ ∀ q ∈ Qs, q ∈ Ps
  | [], _ => ⟨[], .nil, fun _ h => nomatch h⟩
  | a :: hs, h => by
    obtain ⟨Qs, L', k'⟩ := lists_pick L fun x hx => h x (List.mem_cons_of_mem _ hx)
    obtain ⟨k, hk⟩ := h a List.mem_cons_self
    obtain ⟨p, hp, lp⟩ := pair_at1 L (i := k) (x := V.ref a) (by rw [List.getElem?_map, hk]; rfl)
    refine ⟨p :: Qs, .cons lp L', fun q hq => ?_⟩
    rcases List.mem_cons.mp hq with rfl | hq
    · exact List.mem_of_getElem? hp
    · exact k' q hq
theorem rows_ok {ws : List W} {N i : Nat} {Ps : List (List W)} {pw : List W} {kw : List (Str × W)} (d : Dat ws N i Ps pw kw) (wl : ws.length = N) (wn : Named ws) (N30 : N ≤ 30) (hi : i ≤ N) : Wc.PsOk Ps := by
  intro p hp
  obtain ⟨j, hj⟩ := List.mem_iff_getElem?.mp hp
  have jl : j < N := by rw [← d.psl]; exact (List.getElem?_eq_some_iff.mp hj).1
  obtain ⟨z, hz⟩ : ∃ z, ws[j]? = some z := ⟨_, List.getElem?_eq_getElem (by rw [wl]; exact jl)⟩
  obtain ⟨_, h2, h3⟩ := d.rows j z p hz hj
  exact ⟨by omega, fun y hy => Newly.wok wn (h3 y hy)⟩
theorem mem_stands {Ps : List (List W)} {pw : List W} {kw : List (Str × W)} {z : W} : Stands Ps pw kw z ↔ z ∈ pw ++ kw.map (·.2) ∨ (Ps.any fun p => decide (z ∈ p)) = true := by
  unfold Stands
  rw [List.mem_append, List.any_eq_true, List.mem_map]
  constructor
  · rintro (h | ⟨p, h1, h2⟩ | ⟨nz, h1, h2⟩)
    · exact .inl (.inl h)
    · exact .inr ⟨p, h1, decide_eq_true h2⟩
    · exact .inl (.inr ⟨nz, h1, h2⟩)
  · rintro ((h | ⟨nz, h1, h2⟩) | ⟨p, h1, h2⟩)
    · exact .inl h
    · exact .inr (.inr ⟨nz, h1, h2⟩)
    · exact .inr (.inl ⟨p, h1, of_decide_eq_true h2⟩)
/-- a going's tuple, its pile by the address -/
def IsT3 (H : Hp) (x : V) (g : Int × Int × Addr) : Prop := ∃ t, x = .ref t ∧ H t = some (.tup [.int g.1, .int g.2.1, .ref g.2.2])
theorem IsT3.keep {H H' : Hp} {x : V} {g : Int × Int × Addr} (h : IsT3 H x g) (k : Tk H H') : IsT3 H' x g := by
  obtain ⟨t, e, h⟩ := h
  exact ⟨t, e, k _ _ h⟩
theorem t3_go {S : List Addr} {H : Hp} : ∀ {ws : List W} {pp : List Int} {ra : List Addr} {Ps : List (List W)} {xs : List V}, Lists [] H (ra.map V.ref) Ps → (∀ a ∈ ra, a ∉ S) → Paired (IsT3 H) xs (goOf ws pp ra) → Paired (IsGoT S H) xs (goOf ws pp Ps)
  | z :: ws, q :: pp, a :: ra, p :: Ps, xs, .cons l L, hs, h => by
    have low := fun {xs} (h : Paired (IsT3 H) xs (goOf ws pp ra)) => t3_go (S := S) L (fun x hx => hs x (List.mem_cons_of_mem _ hx)) h
    show Paired (IsGoT S H) xs (if z.1 = sGo then (z.2, q, p) :: goOf ws pp Ps else goOf ws pp Ps)
    have h : Paired (IsT3 H) xs (if z.1 = sGo then (z.2, q, a) :: goOf ws pp ra else goOf ws pp ra) := h
    by_cases c : z.1 = sGo
    · rw [if_pos c] at h ⊢
      cases h with
      | cons r t =>
        obtain ⟨t0, e, h0⟩ := r
        obtain ⟨l0, vs, e1, h1, h2, _⟩ := l
        injection e1 with e1
        subst e1
        exact .cons ⟨t0, a, vs, e, h0, h1, h2, hs a List.mem_cons_self⟩ (low t)
    · rw [if_neg c] at h ⊢
      exact low h
  | [], _, _, _, xs, _, _, h => by
    rw [show ∀ a b, goOf (α := Addr) [] a b = [] from fun a b => by simp [goOf]] at h
    rw [show ∀ a b, goOf (α := List W) [] a b = [] from fun a b => by simp [goOf]]
    cases h
    exact .nil
  | z :: ws, [], _, _, xs, _, _, h => by
    rw [show ∀ b, goOf (α := Addr) (z :: ws) [] b = [] from fun b => by simp [goOf]] at h
    rw [show ∀ b, goOf (α := List W) (z :: ws) [] b = [] from fun b => by simp [goOf]]
    cases h
    exact .nil
  | z :: ws, q :: pp, [], [], xs, .nil, _, h => by
    rw [show goOf (α := Addr) (z :: ws) (q :: pp) [] = [] by simp [goOf]] at h
    rw [show goOf (α := List W) (z :: ws) (q :: pp) [] = [] by simp [goOf]]
    cases h
    exact .nil
theorem goOf_step {α : Type} {ws : List W} {pp : List Int} {Ps : List α} {j : Nat} {z : W} {q : Int} {p : α} (h1 : ws[j]? = some z) (h2 : pp[j]? = some q) (h3 : Ps[j]? = some p) : goOf (ws.take (j + 1)) (pp.take (j + 1)) (Ps.take (j + 1)) = goOf (ws.take j) (pp.take j) (Ps.take j) ++ if z.1 = sGo then [(z.2, q, p)] else [] := by
  have l1 := (List.getElem?_eq_some_iff.mp h1).1
  have l2 := (List.getElem?_eq_some_iff.mp h2).1
  have l3 := (List.getElem?_eq_some_iff.mp h3).1
  rw [List.take_add_one, List.take_add_one, List.take_add_one, h1, h2, h3]
  exact goOf_app (by rw [List.length_take, List.length_take]; omega) (by rw [List.length_take, List.length_take]; omega)
theorem boxOf_step {ws : List W} {Ps : List (List W)} {j : Nat} {z y : W} {p : List W} (h1 : ws[j]? = some z) (h3 : Ps[j]? = some (y :: p)) : boxOf (ws.take (j + 1)) (Ps.take (j + 1)) = boxOf (ws.take j) (Ps.take j) ++ if z.1 = sBox then [(z.2, y)] else [] := by
  have l1 := (List.getElem?_eq_some_iff.mp h1).1
  have l3 := (List.getElem?_eq_some_iff.mp h3).1
  rw [List.take_add_one, List.take_add_one, h1, h3]
  exact boxOf_app (by rw [List.length_take, List.length_take]; omega)
theorem boxOf_step0 {ws : List W} {Ps : List (List W)} {j : Nat} {z : W} {p : List W} (h1 : ws[j]? = some z) (h3 : Ps[j]? = some p) (n : z.1 ≠ sBox) : boxOf (ws.take (j + 1)) (Ps.take (j + 1)) = boxOf (ws.take j) (Ps.take j) := by
  have l1 := (List.getElem?_eq_some_iff.mp h1).1
  have l3 := (List.getElem?_eq_some_iff.mp h3).1
  rw [List.take_add_one, List.take_add_one, h1, h3]
  exact boxOf_skip (by rw [List.length_take, List.length_take]; omega) n
/-- behind the pegs' loop, behind the hold loop -/
def M13 (c : Addr) (most : Int) (H : Hp) (σ : L2.St) (H' : Hp) : Prop := ∃ (hd : Addr) (d1 : Int) (N : Nat) (y5 : Option V) (D E r R Pl F : Addr) (y12 : Option V) (G Pg : Addr) (nm : Str) (bs ra : List Addr) (sd pp : List Int) (vs : List V) (ws : List W) (n : Nat) (Ps : List (List W)) (pw : List W) (kvs : List (Key × V)) (kw : List (Str × W)),
  σ = [some (.ref c), some (.int most), some (.ref hd), some (.int d1), some (.int N), y5, some (.ref D), some (.ref E), some (.ref r), some (.ref R), some (.ref Pl), some (.ref F), y12, some (.ref G), some (.ref Pg), some (.str nm), none, none, none, none, none, none, none] ∧
  Fix ws N H D E r R Pl G Pg bs ra sd pp ∧ Mid ws H D E r R Pl G Pg bs ra sd pp vs n H' Ps pw kvs kw ∧ Dat ws N 0 Ps pw kw ∧ n ≤ 2000
def M14 (c : Addr) (most : Int) (H : Hp) (σ : L2.St) (H' : Hp) : Prop := ∃ (hd : Addr) (d1 : Int) (N : Nat) (y5 : Option V) (D E r R Pl F : Addr) (y12 : Option V) (G Pg : Addr) (nm : Str) (y16 y17 : Option V) (bs ra : List Addr) (sd pp : List Int) (vs : List V) (ws : List W) (n : Nat) (Ps : List (List W)) (pw : List W) (kvs : List (Key × V)) (kw : List (Str × W)),
  σ = [some (.ref c), some (.int most), some (.ref hd), some (.int d1), some (.int N), y5, some (.ref D), some (.ref E), some (.ref r), some (.ref R), some (.ref Pl), some (.ref F), y12, some (.ref G), some (.ref Pg), some (.str nm), y16, y17, none, none, none, none, none] ∧
  Fix ws N H D E r R Pl G Pg bs ra sd pp ∧ Mid ws H D E r R Pl G Pg bs ra sd pp vs n H' Ps pw kvs kw ∧ Dat ws N N Ps pw kw
structure Fix8 (ws : List W) (N : Nat) (H0 : Hp) (D E r R Pl hd : Addr) (bs ra : List Addr) (sd pp : List Int) : Prop where
  bl : bs.length = N
  sl : sd.length = N
  wl : ws.length = N
  rl : ra.length = N
  pl : pp.length = N
  N30 : N ≤ 30
  sb : ∀ x ∈ sd, 0 ≤ x ∧ x < 2
  wn : Named ws
  pp0 : ∀ x ∈ pp, 0 ≤ x
  nd : ra.Nodup
  apart : ∀ x ∈ [D, E, r, R, Pl], x ∉ hd :: (ra ++ bs)
  wap : ∀ b ∈ bs, b ∉ ra
  hdx : hd ∉ ra ++ bs
  fresh : ∀ x ∈ hd :: (ra ++ bs), H0 x = none
structure Mid8 (ws : List W) (H0 : Hp) (D E r R Pl : Addr) (bs ra : List Addr) (sd pp : List Int) (vs : List V) (n : Nat) (H : Hp) (Ps : List (List W)) : Prop where
  hD : H D = some (.lst (bs.map V.ref))
  hE : H E = some (.lst (sd.map V.int))
  hr : H r = some (.lst vs)
  hp : Pile H vs ws
  hR : H R = some (.lst (ra.map V.ref))
  hPl : H Pl = some (.lst (pp.map V.int))
  rows : Lists [] H (ra.map V.ref) Ps
  wells : Wells H bs n
  same : Same H0 H
def RowsOk (ws : List W) (Ps : List (List W)) : Prop := ∀ (j : Nat) (z : W) (p : List W), ws[j]? = some z → Ps[j]? = some p → (z.1 = sBox → p.length = 1) ∧ p.length ≤ 4 ∧ ∀ y ∈ p, Newly ws y
def M8 (c : Addr) (most : Int) (H : Hp) (σ : L2.St) (H' : Hp) : Prop := ∃ (hd : Addr) (d1 : Int) (N : Nat) (y5 : Option V) (D E r R Pl : Addr) (y11 y12 : Option V) (bs ra : List Addr) (sd pp : List Int) (vs : List V) (ws : List W) (n : Nat) (Ps : List (List W)),
  σ = [some (.ref c), some (.int most), some (.ref hd), some (.int d1), some (.int N), y5, some (.ref D), some (.ref E), some (.ref r), some (.ref R), some (.ref Pl), y11, y12, none, none, none, none, none, none, none, none, none, none] ∧
  Fix8 ws N H D E r R Pl hd bs ra sd pp ∧ Mid8 ws H D E r R Pl bs ra sd pp vs n H' Ps ∧ RowsOk ws Ps ∧ Ww.Well H' hd 2 ∧ n ≤ 2000
theorem m13_of {ws : List W} {N n : Nat} {H H8 H4 : Hp} {D E r R Pl hd G Pg : Addr} {bs ra : List Addr} {sd pp : List Int} {vs pa : List V} {Ps : List (List W)} {pw : List W} {kvs : List (Key × V)} (F : Fix8 ws N H D E r R Pl hd bs ra sd pp) (m : Mid8 ws H D E r R Pl bs ra sd pp vs n H8 Ps) (LP : RowsOk ws Ps)
    (kall : Ks [Pg, hd] H8 H4) (up : ∀ x o, H8 x = some o → x ≠ hd → x ≠ Pg ∧ x ≠ G) (Gn : H G = none) (Pgn : H Pg = none) (Ghd : G ≠ hd) (PgG : Pg ≠ G) (Phd : Pg ≠ hd)
    (hG : H4 G = some (.lst pa)) (pG : Pile H4 pa pw) (pwl : pw.length ≤ 7) (pwk : ∀ z ∈ pw, Newly ws z) (hPg4 : H4 Pg = some (.dK kvs)) (pk4 : PegOk ws H4 kvs 4) (SHe : Same H H4) :
    ∃ kw, Fix ws N H D E r R Pl G Pg bs ra sd pp ∧ Mid ws H D E r R Pl G Pg bs ra sd pp vs n H4 Ps pw kvs kw ∧ Dat ws N 0 Ps pw kw := by
  have pt : ∀ x o, H8 x = some o → x ≠ hd → x ∉ [Pg, hd] := fun x o h n m => by
    rcases List.mem_cons.mp m with e | m
    · exact (up x o h n).1 e
    · exact n (List.mem_singleton.mp m)
  have raH8 : ∀ x ∈ ra, ∃ o, H8 x = some o := fun x hx => by
    obtain ⟨j, hj⟩ := List.mem_iff_getElem?.mp hx
    obtain ⟨q, _, l, us, e, h2, _⟩ := pair_at1 m.rows (i := j) (x := V.ref x) (by rw [List.getElem?_map, hj]; rfl)
    injection e with e
    exact ⟨_, e ▸ h2⟩
  have rahd : ∀ x ∈ ra, x ≠ hd := fun x hx e => F.hdx (e ▸ List.mem_append_left _ hx)
  have bshd : ∀ x ∈ bs, x ≠ hd := fun x hx e => F.hdx (e ▸ List.mem_append_right _ hx)
  have aphd : ∀ x ∈ [D, E, r, R, Pl], x ≠ hd := fun x hx e => F.apart x hx (e ▸ List.mem_cons_self)
  have ap : ∀ x ∈ [D, E, r, R, Pl], ∀ o, H8 x = some o → x ∉ Pg :: G :: (ra ++ bs) := fun x hx o ho m => by
    have u := up x o ho (aphd x hx)
    rcases List.mem_cons.mp m with e | m
    · exact u.1 e
    · rcases List.mem_cons.mp m with e | m
      · exact u.2 e
      · exact F.apart x hx (List.mem_cons_of_mem _ m)
  obtain ⟨kw, pkw, okw⟩ := pegs_of pk4.1
  refine ⟨kw, ?_, ?_, ?_⟩
  · refine ⟨F.bl, F.sl, F.wl, F.rl, F.pl, F.N30, F.sb, F.wn, F.pp0, F.nd, fun h => ?_, ⟨PgG, fun h => ?_⟩, fun x hx => ?_, fun b hb h => ?_, fun x hx => ?_⟩
    · obtain ⟨o, ho⟩ := raH8 G h
      exact (up G o ho Ghd).2 rfl
    · obtain ⟨o, ho⟩ := raH8 Pg h
      exact (up Pg o ho Phd).1 rfl
    · simp only [List.mem_cons, List.not_mem_nil, or_false] at hx
      rcases hx with rfl | rfl | rfl | rfl | rfl
      · exact ap _ (by simp) _ m.hD
      · exact ap _ (by simp) _ m.hE
      · exact ap _ (by simp) _ m.hr
      · exact ap _ (by simp) _ m.hR
      · exact ap _ (by simp) _ m.hPl
    · obtain ⟨x, y, z, h1, _⟩ := m.wells b hb
      have u := up b _ h1 (bshd b hb)
      rcases List.mem_cons.mp h with e | h
      · exact u.1 e
      · rcases List.mem_cons.mp h with e | h
        · exact u.2 e
        · exact F.wap b hb h
    · rcases List.mem_cons.mp hx with e | hx
      · rw [e]; exact Pgn
      · rcases List.mem_cons.mp hx with e | hx
        · rw [e]; exact Gn
        · exact F.fresh x (List.mem_cons_of_mem _ hx)
  · refine ⟨kall.keep _ _ (pt _ _ m.hD (aphd _ (by simp))) m.hD, kall.keep _ _ (pt _ _ m.hE (aphd _ (by simp))) m.hE, kall.keep _ _ (pt _ _ m.hr (aphd _ (by simp))) m.hr, m.hp.keep kall.tk, kall.keep _ _ (pt _ _ m.hR (aphd _ (by simp))) m.hR, kall.keep _ _ (pt _ _ m.hPl (aphd _ (by simp))) m.hPl, ?_, ⟨pa, hG, pG⟩, hPg4, pkw, ?_, SHe⟩
    · refine Lists.less (S := [Pg, hd]) ((Wpm.Lists.more m.rows fun a ha => ?_).keep kall) (fun _ h => nomatch h)
      obtain ⟨o, ho⟩ := raH8 a ha
      exact pt a o ho (rahd a ha)
    · intro b hb
      obtain ⟨x, y, z, h1, hz⟩ := m.wells b hb
      exact ⟨x, y, z, kall.keep _ _ (pt _ _ h1 (bshd b hb)) h1, hz⟩
  · refine ⟨by rw [← m.rows.len, List.length_map]; exact F.rl, fun j z p hz hp => ⟨(LP j z p hz hp).1, (LP j z p hz hp).2.1, (LP j z p hz hp).2.2⟩, ⟨pwl, pwk⟩, ⟨?_, pegs_nodup pkw pk4.2.1, okw⟩, fun j hj => absurd hj (Nat.not_lt_zero j)⟩
    rw [← Paired.length pkw]
    exact pk4.2.2
/-- the body in three pieces, each in a context of its own -/
theorem split3 {D : Ends} {σ : L2.St} {H : Hp} (M8 M13 : L2.St → Hp → Prop) {a0 a1 a2 a3 a4 a5 a6 a7 a8 a9 a10 a11 a12 a13 u : TS}
    (front : (∀ σ' H', M8 σ' H' → tSeq a9 (tSeq a10 (tSeq a11 (tSeq a12 (C8.tCut a13 u)))) D σ' H') → tSeq a0 (tSeq a1 (tSeq a2 (tSeq a3 (tSeq a4 (tSeq a5 (tSeq a6 (tSeq a7 (C8.tCut a8 (tSeq a9 (tSeq a10 (tSeq a11 (tSeq a12 (C8.tCut a13 u))))))))))))) D σ H)
    (mid : (∀ σ' H', M13 σ' H' → u D σ' H') → ∀ σ' H', M8 σ' H' → tSeq a9 (tSeq a10 (tSeq a11 (tSeq a12 (C8.tCut a13 u)))) D σ' H')
    (back : ∀ σ' H', M13 σ' H' → u D σ' H') : tSeq a0 (tSeq a1 (tSeq a2 (tSeq a3 (tSeq a4 (tSeq a5 (tSeq a6 (tSeq a7 (C8.tCut a8 (tSeq a9 (tSeq a10 (tSeq a11 (tSeq a12 (C8.tCut a13 u))))))))))))) D σ H := front (mid back)
end Wpn

/-! The things of a list of worths; dicts whose keys are worths. -/
namespace Wth
open PySem PySem.Spec PyProof.Rows L2 Wp Wq Wr Wpm Wpn
def isT (w : W) : Bool := inV (.str w.1) [.str "box", .str "go"]
theorem isT_eq (w : W) : isT w = (decide (w.1 = "box") || decide (w.1 = "go")) := by
  show (((Str.ofString "box") == w.1) || (((Str.ofString "go") == w.1) || false)) = _
  rw [Bool.or_false, Bool.beq_eq_decide_eq, Bool.beq_eq_decide_eq]
  congr 1
  · exact decide_eq_decide.mpr ⟨fun h => h.symm, fun h => h.symm⟩
  · exact decide_eq_decide.mpr ⟨fun h => h.symm, fun h => h.symm⟩
def stepT (acc : List W) (w : W) : List W := if isT w = true ∧ w ∉ acc then acc ++ [w] else acc
def thingsM (ws : List W) : List W := ws.foldl stepT []
theorem step_mem {acc : List W} {w x : W} (h : x ∈ acc) : x ∈ stepT acc w := by
  unfold stepT
  split
  · exact List.mem_append_left _ h
  · exact h
theorem fold_mem {x : W} : ∀ {ws acc : List W}, x ∈ acc → x ∈ ws.foldl stepT acc
  | [], _, h => h
  | w :: ws, _, h => fold_mem (ws := ws) (step_mem h)
theorem fold_in {x : W} (hx : isT x = true) : ∀ {ws acc : List W}, x ∈ ws → x ∈ ws.foldl stepT acc
  | w :: ws, acc, h => by
    rw [List.foldl_cons]
    rcases List.mem_cons.mp h with e | h
    · subst e
      refine fold_mem ?_
      unfold stepT
      split
      · exact List.mem_append_right _ List.mem_cons_self
      · rename_i c
        exact Classical.not_not.mp fun n => c ⟨hx, n⟩
    · exact fold_in hx h
theorem fold_stay : ∀ {ws acc : List W}, (∀ x ∈ ws, isT x = true → x ∈ acc) → ws.foldl stepT acc = acc
  | [], _, _ => rfl
  | w :: ws, acc, h => by
    rw [List.foldl_cons]
    have e : stepT acc w = acc := by
      unfold stepT
      rw [if_neg]
      rintro ⟨h1, h2⟩
      exact h2 (h w List.mem_cons_self h1)
    rw [e]
    exact fold_stay fun x hx => h x (List.mem_cons_of_mem _ hx)
theorem things_twice (ws : List W) : thingsM (ws ++ ws) = thingsM ws := by
  unfold thingsM
  rw [List.foldl_append]
  exact fold_stay fun x hx ht => fold_in ht hx
theorem step_len {acc : List W} {w : W} : (stepT acc w).length ≤ acc.length + 1 := by
  unfold stepT
  split
  · rw [List.length_append] <;> exact Nat.le_refl _
  · omega
theorem step_ok {acc : List W} {w : W} (h : ∀ x ∈ acc, Wok x) (hw : Wok w) : ∀ x ∈ stepT acc w, Wok x := by
  unfold stepT
  split
  · intro x hx
    rcases List.mem_append.mp hx with hx | hx
    · exact h x hx
    · rw [List.mem_singleton.mp hx]; exact hw
  · exact h
theorem fold_ok : ∀ {ws acc : List W}, (∀ x ∈ acc, Wok x) → (∀ x ∈ ws, Wok x) → ∀ x ∈ ws.foldl stepT acc, Wok x
  | [], _, h, _ => h
  | w :: ws, _, h, hw => fold_ok (ws := ws) (step_ok h (hw w List.mem_cons_self)) fun x hx => hw x (List.mem_cons_of_mem _ hx)
theorem fold_len : ∀ {ws acc : List W}, (ws.foldl stepT acc).length ≤ acc.length + ws.length
  | [], _ => Nat.le_refl _
  | w :: ws, acc => by
    rw [List.foldl_cons, List.length_cons]
    have h1 := fold_len (ws := ws) (acc := stepT acc w)
    have h2 := step_len (acc := acc) (w := w)
    omega
theorem take_fold {ws : List W} {i : Nat} {w : W} {acc : List W} (h : ws[i]? = some w) : (ws.take (i + 1)).foldl stepT acc = stepT ((ws.take i).foldl stepT acc) w := by
  rw [List.take_add_one, h, List.foldl_append]
  rfl
/-! ### the dict -/
def keyT (w : W) : List Key := [.inr w.1, .inl w.2]
def ent (w : W) : List Key × V := (keyT w, .bl true)
theorem keyT_inj {w z : W} (h : keyT w = keyT z) : w = z := by
  obtain ⟨s, n⟩ := w
  obtain ⟨t, m⟩ := z
  unfold keyT at h
  simp at h
  rw [h.1, h.2]
theorem put_step (acc : List W) (w : W) (h : isT w = true) : putK (acc.map ent) (keyT w) (.bl true) = (stepT acc w).map ent := by
  have e : ((acc.map ent).any fun kv => decide (kv.1 = keyT w)) = decide (w ∈ acc) := by
    rw [List.any_map]
    by_cases c : w ∈ acc
    · rw [decide_eq_true c, List.any_eq_true]
      exact ⟨w, c, decide_eq_true rfl⟩
    · rw [decide_eq_false c, List.any_eq_false]
      intro x hx
      show ¬ decide (keyT x = keyT w) = true
      rw [decide_eq_true_eq]
      intro q
      exact c (keyT_inj q ▸ hx)
  unfold putK stepT
  rw [e]
  by_cases c : w ∈ acc
  · rw [if_pos (decide_eq_true c), if_neg (fun q => q.2 c), List.map_map]
    refine List.map_congr_left fun x hx => ?_
    show (if keyT x = keyT w then ((ent x).1, V.bl true) else ent x) = ent x
    split <;> rfl
  · rw [if_neg (by rw [decide_eq_false c]; exact Bool.false_ne_true), if_pos ⟨h, c⟩, List.map_append]
    rfl
theorem keys_pile {H : Hp} : ∀ {ws : List W} {bs : List Addr}, IsKeys H (ws.map ent) bs → Pile H (bs.map V.ref) ws
  | [], _, h => by
    cases h
    exact Pile.nil
  | w :: ws, _, h => by
    cases h with
    | cons r t => exact Paired.cons ⟨_, rfl, r⟩ (keys_pile t)
/-! ### the mirror of roots and holdings -/
def rootsM (P : Pic) : List W := thingsM (P.pile ++ P.pegs.map (·.2))
def tableM (P : Pic) : List (W × List W) := P.boxes.map (fun b => ((sBox, b.1), thingsM [b.2])) ++ P.goings.map (fun g => ((sGo, g.1), thingsM g.2.2))
def holdM (tb : List (W × List W)) (z : W) : List W := ((tb.find? fun e => decide (e.1 = z)).map (·.2)).getD []
theorem isT_iff {z : W} : isT z = true ↔ z.1 = sBox ∨ z.1 = sGo := by
  rw [isT_eq, Bool.or_eq_true, decide_eq_true_eq, decide_eq_true_eq] <;> rfl
theorem stepT_sub {acc : List W} {w x : W} (h : x ∈ stepT acc w) : x ∈ acc ∨ (x = w ∧ isT w = true) := by
  unfold stepT at h
  split at h
  · rename_i c
    rcases List.mem_append.mp h with h | h
    · exact .inl h
    · exact .inr ⟨List.mem_singleton.mp h, c.1⟩
  · exact .inl h
theorem fold_sub {x : W} : ∀ {ws acc : List W}, x ∈ ws.foldl stepT acc → x ∈ acc ∨ (x ∈ ws ∧ isT x = true)
  | [], _, h => .inl h
  | w :: ws, acc, h => by
    rcases fold_sub (ws := ws) h with h | ⟨h, t⟩
    · rcases stepT_sub h with h | ⟨rfl, t⟩
      · exact .inl h
      · exact .inr ⟨List.mem_cons_self, t⟩
    · exact .inr ⟨List.mem_cons_of_mem _ h, t⟩
theorem mem_things {x : W} {ws : List W} : x ∈ thingsM ws ↔ x ∈ ws ∧ isT x = true := by
  constructor
  · intro h
    rcases fold_sub h with h | h
    · cases h
    · exact h
  · intro h
    exact fold_in h.2 h.1
theorem stepT_nodup {acc : List W} {w : W} (h : acc.Nodup) : (stepT acc w).Nodup := by
  unfold stepT
  split
  · rename_i c
    refine List.pairwise_append.mpr ⟨h, List.pairwise_singleton _ _, ?_⟩
    intro x hx y hy
    rw [List.mem_singleton.mp hy]
    rintro rfl
    exact c.2 hx
  · exact h
theorem things_nodup {ws : List W} : (thingsM ws).Nodup := by
  have go : ∀ {ws acc : List W}, acc.Nodup → (ws.foldl stepT acc).Nodup := by
    intro ws
    induction ws with
    | nil => intro _ h; exact h
    | cons w ws ih => intro _ h; exact ih (stepT_nodup h)
  exact go .nil
theorem things_len {ws : List W} : (thingsM ws).length ≤ ws.length := by
  have := fold_len (ws := ws) (acc := [])
  unfold thingsM
  simp at this
  exact this
theorem things_ok {ws : List W} (h : ∀ x ∈ ws, Wok x) : ∀ x ∈ thingsM ws, Wok x := fun x hx => h x (mem_things.mp hx).1
theorem table_keys (P : Pic) : (tableM P).map (·.1) = P.things := by
  unfold tableM Pic.things
  rw [List.map_append, List.map_map, List.map_map] <;> rfl
theorem things_uniq {P : Pic} (ok : P.Ok) : P.things.Nodup := by
  unfold Pic.things
  refine List.pairwise_append.mpr ⟨?_, ?_, ?_⟩
  · exact List.pairwise_map.mpr (ok.boxUp.imp fun h e => by have := (Prod.mk.inj e).2; omega)
  · exact List.pairwise_map.mpr (ok.goUp.imp fun h e => by have := (Prod.mk.inj e).2; omega)
  · intro x hx y hy e
    obtain ⟨_, _, rfl⟩ := List.mem_map.mp hx
    obtain ⟨_, _, rfl⟩ := List.mem_map.mp hy
    exact box_go (Prod.mk.inj e).1
theorem mem_worths_go {P : Pic} {g : Int × Int × List W} (hg : g ∈ P.goings) {z : W} (hz : z ∈ g.2.2) : z ∈ P.worths :=
  List.mem_append_right _ (List.mem_flatMap.mpr ⟨g, hg, hz⟩)
theorem mem_worths_box {P : Pic} {b : Int × W} (hb : b ∈ P.boxes) : b.2 ∈ P.worths :=
  List.mem_append_left _ (List.mem_append_right _ (List.mem_append_right _ (List.mem_map.mpr ⟨b, hb, rfl⟩)))
theorem mem_worths_pile {P : Pic} {z : W} (h : z ∈ P.pile) : z ∈ P.worths := List.mem_append_left _ (List.mem_append_left _ h)
theorem mem_worths_peg {P : Pic} {p : Str × W} (h : p ∈ P.pegs) : p.2 ∈ P.worths :=
  List.mem_append_left _ (List.mem_append_right _ (List.mem_append_left _ (List.mem_map.mpr ⟨p, h, rfl⟩)))
theorem table_sub {P : Pic} {e : W × List W} (h : e ∈ tableM P) {z : W} (hz : z ∈ e.2) : z ∈ P.worths ∧ isT z = true := by
  unfold tableM at h
  rcases List.mem_append.mp h with h | h
  · obtain ⟨b, hb, rfl⟩ := List.mem_map.mp h
    obtain ⟨h1, h2⟩ := mem_things.mp hz
    rw [List.mem_singleton.mp h1] at h2 ⊢
    exact ⟨mem_worths_box hb, h2⟩
  · obtain ⟨g, hg, rfl⟩ := List.mem_map.mp h
    obtain ⟨h1, h2⟩ := mem_things.mp hz
    exact ⟨mem_worths_go hg h1, h2⟩
theorem root_thing {P : Pic} (ok : P.Ok) {z : W} (h : z ∈ rootsM P) : z ∈ P.things := by
  obtain ⟨h1, h2⟩ := mem_things.mp h
  refine ok.closed z ?_ (isT_iff.mp h2)
  rcases List.mem_append.mp h1 with h | h
  · exact mem_worths_pile h
  · obtain ⟨p, hp, rfl⟩ := List.mem_map.mp h
    exact mem_worths_peg hp
theorem find_some {tb : List (W × List W)} {z : W} (h : z ∈ tb.map (·.1)) : ∃ e, (tb.find? fun e => decide (e.1 = z)) = some e ∧ e ∈ tb ∧ e.1 = z := by
  cases c : tb.find? fun e => decide (e.1 = z) with
  | some e =>
    have h1 := List.find?_some c
    exact ⟨e, rfl, List.mem_of_find?_eq_some c, of_decide_eq_true h1⟩
  | none =>
    rw [List.find?_eq_none] at c
    obtain ⟨e, he, rfl⟩ := List.mem_map.mp h
    exact absurd (decide_eq_true rfl) (c e he)
theorem hold_mem {P : Pic} {z y : W} (h : z ∈ holdM (tableM P) y) : z ∈ P.worths ∧ isT z = true := by
  unfold holdM at h
  cases c : (tableM P).find? fun e => decide (e.1 = y) with
  | none => rw [c] at h; cases h
  | some e =>
    rw [c] at h
    exact table_sub (List.mem_of_find?_eq_some c) h
theorem hold_thing {P : Pic} (ok : P.Ok) {z y : W} (h : z ∈ holdM (tableM P) y) : z ∈ P.things := ok.closed z (hold_mem h).1 (isT_iff.mp (hold_mem h).2)
/-! ### the table in the heap -/
def Tab (H : Hp) (kvs : List (List Key × V)) (tb : List (W × List W)) : Prop := Paired (fun kv e => kv.1 = keyT e.1 ∧ IsLs [] H kv.2 e.2) kvs tb
section
variable {H H' : Hp} {kvs : List (List Key × V)} {tb : List (W × List W)} {z : W} {d : Addr}
theorem Tab.keep (h : Tab H kvs tb) (k : Same H H') : Tab H' kvs tb := Paired.mapP h fun _ _ q => ⟨q.1, q.2.keep (Ks.same k)⟩
theorem Tab.keys (h : Tab H kvs tb) : kvs.map (·.1) = tb.map fun e => keyT e.1 := by
  unfold Tab at h
  induction h with
  | nil => rfl
  | cons r t ih => rw [List.map_cons, List.map_cons, ih, r.1]
theorem Tab.find (h : Tab H kvs tb) : (∃ e v, (tb.find? fun e => decide (e.1 = z)) = some e ∧ valV kvs (keyT z) = some v ∧ IsLs [] H v e.2) ∨ ((tb.find? fun e => decide (e.1 = z)) = none ∧ valV kvs (keyT z) = none) := by
  unfold Tab at h
  induction h with
  | nil => exact .inr ⟨rfl, rfl⟩
  | @cons kv e kvs tb r t ih =>
    obtain ⟨k, v⟩ := kv
    obtain ⟨r1, r2⟩ := r
    have r1 : k = keyT e.1 := r1
    by_cases c : e.1 = z
    · refine .inl ⟨e, v, List.find?_cons_of_pos (decide_eq_true c), ?_, r2⟩
      exact valV_pos (by rw [r1, c])
    · have e1 : ((e :: tb).find? fun e => decide (e.1 = z)) = tb.find? fun e => decide (e.1 = z) := List.find?_cons_of_neg (by rw [decide_eq_true_eq]; exact c)
      have e2 : valV ((k, v) :: kvs) (keyT z) = valV kvs (keyT z) := valV_neg (fun q => c (keyT_inj (r1.symm.trans q)))
      rw [e1, e2]
      exact ih
theorem Tab.get (h : Tab H kvs tb) (hz : z ∈ tb.map (·.1)) : ∃ v, valV kvs (keyT z) = some v ∧ IsLs [] H v (holdM tb z) := by
  rcases h.find (z := z) with ⟨e, v, h1, h2, h3⟩ | ⟨h1, _⟩
  · refine ⟨v, h2, ?_⟩
    unfold holdM
    rw [h1]
    exact h3
  · obtain ⟨e, h2, _⟩ := find_some hz
    rw [h1] at h2
    cases h2
theorem Tab.none (h : Tab H kvs tb) (hz : z ∉ tb.map (·.1)) : valV kvs (keyT z) = none ∧ holdM tb z = [] := by
  rcases h.find (z := z) with ⟨e, v, h1, h2, h3⟩ | ⟨h1, h2⟩
  · have q1 := List.find?_some h1
    have q2 := List.mem_of_find?_eq_some h1
    exact absurd (List.mem_map.mpr ⟨e, q2, of_decide_eq_true q1⟩) hz
  · refine ⟨h2, ?_⟩
    unfold holdM
    rw [h1] <;> rfl
theorem put_new {kvs : List (List Key × V)} {k : List Key} {v : V} (h : k ∉ kvs.map (·.1)) : putK kvs k v = kvs ++ [(k, v)] := by
  unfold putK
  rw [if_neg]
  intro c
  obtain ⟨kv, h1, h2⟩ := List.any_eq_true.mp c
  exact h (List.mem_map.mpr ⟨kv, h1, of_decide_eq_true h2⟩)
theorem Tab.put {v : V} {ws : List W} {H1 : Hp} (h : Tab H kvs tb) (k : ∀ l o, H l = some (.lst o) → H1 l = some (.lst o)) (tk : Tk H H1) (hz : z ∉ tb.map (·.1)) (hv : IsLs [] H1 v ws) : putK kvs (keyT z) v = kvs ++ [(keyT z, v)] ∧ Tab H1 (kvs ++ [(keyT z, v)]) (tb ++ [(z, ws)]) := by
  refine ⟨put_new ?_, Wpk.paired_snoc (Paired.mapP h fun _ _ q => ?_) ⟨rfl, hv⟩⟩
  · rw [h.keys]
    intro m
    obtain ⟨e, h1, h2⟩ := List.mem_map.mp m
    exact hz (List.mem_map.mpr ⟨e, h1, keyT_inj h2⟩)
  · obtain ⟨q1, l, vs, e, h1, h2, h3⟩ := q
    exact ⟨q1, l, vs, e, k _ _ h1, h2.keep tk, h3⟩
theorem Tab.len (h : Tab H kvs tb) : kvs.length = tb.length := Paired.length h
end
/-! ### pictures that are like one another -/
def Plain (z : W) : Prop := (z.1 = Str.ofString "at" ∧ 0 ≤ z.2) ∨ z.1 = Str.ofString "num"
theorem Plain.not {z : W} (h : Plain z) : ¬ (z.1 = sBox ∨ z.1 = sGo) := by
  intro k
  rcases h with h | h
  · exact (at_apart k).1 h.1
  · exact (at_apart k).2 h
theorem Ok.like {P P' : Pic} (ok : P.Ok) (e1 : P'.pegs = P.pegs) (e2 : P'.boxes = P.boxes) (e3 : P'.goings.map (fun g => (g.1, g.2.1)) = P.goings.map fun g => (g.1, g.2.1)) (h1 : ∀ z ∈ P'.worths, z ∈ P.worths ∨ Plain z) (h2 : ∀ z ∈ P.worths, z ∈ P'.worths) : P'.Ok := by
  have e4 : P'.goings.map (·.1) = P.goings.map (·.1) := by
    have := congrArg (List.map (·.1)) e3
    rw [List.map_map, List.map_map] at this
    exact this
  have et : P'.things = P.things := by
    unfold Pic.things
    rw [e2]
    have := congrArg (List.map fun g => ((sGo, g) : W)) e4
    rw [List.map_map, List.map_map] at this
    exact congrArg _ this
  refine ⟨fun z h => ?_, by rw [e1]; exact ok.names, by rw [e1]; exact ok.pegUp, ?_, fun g h => ?_, by rw [e2]; exact ok.boxUp, by rw [e2]; exact ok.boxNat, fun z h k => ?_, fun z h => ?_⟩
  · rcases h1 z h with h | h
    · exact ok.words z h
    · exact .inr h
  · have := List.pairwise_map.mpr ok.goUp
    have q : (P.goings.map (·.1)).Pairwise (· < ·) := List.pairwise_map.mpr ok.goUp
    rw [← e4] at q
    exact List.pairwise_map.mp q
  · have : (g.1, g.2.1) ∈ P.goings.map fun g => (g.1, g.2.1) := by rw [← e3]; exact List.mem_map.mpr ⟨g, h, rfl⟩
    obtain ⟨g2, h2, e⟩ := List.mem_map.mp this
    have := ok.goNat g2 h2
    rw [(Prod.mk.inj e).1, (Prod.mk.inj e).2] at this
    exact this
  · rw [et]
    rcases h1 z h with h | h
    · exact ok.closed z h k
    · exact absurd k h.not
  · rw [et] at h
    exact h2 z (ok.held z h)
theorem Ok.wok {P : Pic} (ok : P.Ok) : ∀ z ∈ P.worths, Wok z := by
  intro z h
  show PyData.strOk z.1 = true
  rcases ok.words z h with ⟨h | h, _⟩ | h | h
  · rw [h]; decide +kernel
  · rw [h]; decide +kernel
  · rw [h.1]; decide +kernel
  · rw [h]; decide +kernel
theorem Plain.wok {z : W} (h : Plain z) : Wok z := by
  show PyData.strOk z.1 = true
  rcases h with h | h
  · rw [h.1]; decide +kernel
  · rw [h]; decide +kernel
theorem things_wok {P : Pic} : ∀ z ∈ P.things, Wok z := by
  intro z h
  show PyData.strOk z.1 = true
  unfold Pic.things at h
  rcases List.mem_append.mp h with h | h
  · obtain ⟨b, _, rfl⟩ := List.mem_map.mp h
    show PyData.strOk sBox = true
    decide +kernel
  · obtain ⟨b, _, rfl⟩ := List.mem_map.mp h
    show PyData.strOk sGo = true
    decide +kernel
section
variable {S S' : List Addr} {H : Hp} {v : V} {P : Pic} {b : Addr}
theorem _root_.Wpm.IsPic.less (h : IsPic S H v P) (k : ∀ a ∈ S', a ∈ S) : IsPic S' H v P := by
  obtain ⟨t, a, b, c, d, pa, xb, xc, xd, e, ht, pc⟩ := h
  exact ⟨t, a, b, c, d, pa, xb, xc, xd, e, ht, pc.ha, pc.hb, pc.hc, pc.hd, pc.pile, pc.pegs, Paired.mapP pc.goings fun _ _ q => q.less k, pc.boxes, fun x hx m => pc.free x hx (k x m)⟩
theorem _root_.Wpm.IsPic.more (h : IsPic S H v P) (hb : H b = none) : IsPic (b :: S) H v P := by
  obtain ⟨t, a, b', c, d, pa, xb, xc, xd, e, ht, pc⟩ := h
  have ne : ∀ {x : Addr} {o : HO}, H x = some o → x ≠ b := fun h => ne_of_none h hb
  refine ⟨t, a, b', c, d, pa, xb, xc, xd, e, ht, pc.ha, pc.hb, pc.hc, pc.hd, pc.pile, pc.pegs, Paired.mapP pc.goings fun _ g q => ?_, pc.boxes, fun x hx m => ?_⟩
  · obtain ⟨t, l, vs, e, h1, h2, h3, h4⟩ := q
    exact ⟨t, l, vs, e, h1, h2, h3, fun m => by
      rcases List.mem_cons.mp m with e | m
      · exact ne h2 e
      · exact h4 m⟩
  · rcases List.mem_cons.mp m with e | m
    · simp only [List.mem_cons, List.not_mem_nil, or_false] at hx
      rcases hx with rfl | rfl | rfl | rfl
      · exact ne pc.ha e
      · exact ne pc.hb e
      · exact ne pc.hc e
      · exact ne pc.hd e
    · exact pc.free x hx m
end
/-! ### pictures as data -/
theorem lay_all : ∀ {ds : List PyData}, (∀ d ∈ ds, d.canLay0 = true) → PyData.canLayAll0 ds = true
  | [], _ => by simp [PyData.canLayAll0]
  | d :: ds, h => by
    simp only [PyData.canLayAll0]
    rw [h d List.mem_cons_self, lay_all fun x hx => h x (List.mem_cons_of_mem _ hx)] <;> rfl
theorem depth_all {n : Nat} : ∀ {ds : List PyData}, (∀ d ∈ ds, d.depth ≤ n) → PyData.depthAll ds ≤ n
  | [], _ => by simp [PyData.depthAll]
  | d :: ds, h => by
    have h1 := h d List.mem_cons_self
    have h2 := depth_all (n := n) fun x hx => h x (List.mem_cons_of_mem _ hx)
    simp only [PyData.depthAll]
    omega
theorem shaped_of {d : PyData} {n : Nat} (h : d.canLay0 = true) (k : d.depth ≤ n) (hn : n ≤ 64 := by decide) : SeqAt.shaped d = true := by
  show (d.canLay0 && decide (d.depth ≤ 64)) = true
  rw [h, decide_eq_true (Nat.le_trans k hn)] <;> rfl
def goD (g : Int × Int × List W) : PyData := .tuple [.int g.1, .int g.2.1, .list (g.2.2.map wD)]
def pgD (p : Str × W) : PyData := .tuple [.str p.1, wD p.2]
def bxD (p : Int × W) : PyData := .tuple [.int p.1, wD p.2]
def picD (P : Pic) : PyData := .tuple [.list (P.pile.map wD), .list (P.pegs.map pgD), .list (P.goings.map goD), .list (P.boxes.map bxD)]
theorem wDs_lay0 {ws : List W} (h : ∀ z ∈ ws, Wok z) : (PyData.list (ws.map wD)).canLay0 = true ∧ (PyData.list (ws.map wD)).depth ≤ 2 := by
  have h2 := wDs_depth ws
  simp only [PyData.canLay0, PyData.depth]
  exact ⟨wDs_lay ws h, by omega⟩
theorem goD_lay {g : Int × Int × List W} (h : ∀ z ∈ g.2.2, Wok z) : (goD g).canLay0 = true ∧ (goD g).depth ≤ 3 := by
  obtain ⟨h1, h2⟩ := wDs_lay0 h
  unfold goD
  refine ⟨?_, ?_⟩
  · simp only [PyData.canLay0]
    exact lay_all fun d hd => by
      simp only [List.mem_cons, List.not_mem_nil, or_false] at hd
      rcases hd with rfl | rfl | rfl
      · simp [PyData.canLay0]
      · simp [PyData.canLay0]
      · exact h1
  · have := depth_all (n := 2) (ds := [PyData.int g.1, .int g.2.1, .list (g.2.2.map wD)]) fun d hd => by
      simp only [List.mem_cons, List.not_mem_nil, or_false] at hd
      rcases hd with rfl | rfl | rfl
      · simp [PyData.depth]
      · simp [PyData.depth]
      · exact h2
    simp only [PyData.depth]
    omega
theorem pgD_lay {p : Str × W} (h : PyData.strOk p.1 = true) (hw : Wok p.2) : (pgD p).canLay0 = true ∧ (pgD p).depth ≤ 3 := by
  unfold pgD
  refine ⟨?_, ?_⟩
  · simp only [PyData.canLay0]
    exact lay_all fun d hd => by
      simp only [List.mem_cons, List.not_mem_nil, or_false] at hd
      rcases hd with rfl | rfl
      · simp only [PyData.canLay0]; exact h
      · exact wD_lay hw
  · have := depth_all (n := 2) (ds := [PyData.str p.1, wD p.2]) fun d hd => by
      simp only [List.mem_cons, List.not_mem_nil, or_false] at hd
      rcases hd with rfl | rfl
      · simp [PyData.depth]
      · rw [wD_depth]; omega
    simp only [PyData.depth]
    omega
theorem bxD_lay {p : Int × W} (hw : Wok p.2) : (bxD p).canLay0 = true ∧ (bxD p).depth ≤ 3 := by
  unfold bxD
  refine ⟨?_, ?_⟩
  · simp only [PyData.canLay0]
    exact lay_all fun d hd => by
      simp only [List.mem_cons, List.not_mem_nil, or_false] at hd
      rcases hd with rfl | rfl
      · simp [PyData.canLay0]
      · exact wD_lay hw
  · have := depth_all (n := 2) (ds := [PyData.int p.1, wD p.2]) fun d hd => by
      simp only [List.mem_cons, List.not_mem_nil, or_false] at hd
      rcases hd with rfl | rfl
      · simp [PyData.depth]
      · rw [wD_depth]; omega
    simp only [PyData.depth]
    omega
theorem list_lay {ds : List PyData} {n : Nat} (h : ∀ d ∈ ds, d.canLay0 = true ∧ d.depth ≤ n) : (PyData.list ds).canLay0 = true ∧ (PyData.list ds).depth ≤ n + 1 := by
  have := depth_all fun d hd => (h d hd).2
  simp only [PyData.canLay0, PyData.depth]
  exact ⟨lay_all fun d hd => (h d hd).1, by omega⟩
section
variable {P : Pic} {S : List Addr} {H : Hp} {v : V} {K : PySem.W.Frag} {xs : List V} {a : Addr}
theorem gos_lay (ok : P.Ok) : (PyData.list (P.goings.map goD)).canLay0 = true ∧ (PyData.list (P.goings.map goD)).depth ≤ 4 := list_lay fun d hd => by
  obtain ⟨g, hg, rfl⟩ := List.mem_map.mp hd
  exact goD_lay fun z hz => Ok.wok ok z (mem_worths_go hg hz)
theorem pgs_lay (ok : P.Ok) : (PyData.list (P.pegs.map pgD)).canLay0 = true ∧ (PyData.list (P.pegs.map pgD)).depth ≤ 4 := list_lay fun d hd => by
  obtain ⟨g, hg, rfl⟩ := List.mem_map.mp hd
  exact pgD_lay (Wu.low_ok (ok.names g hg).1.1) (Ok.wok ok _ (mem_worths_peg hg))
theorem bxs_lay (ok : P.Ok) : (PyData.list (P.boxes.map bxD)).canLay0 = true ∧ (PyData.list (P.boxes.map bxD)).depth ≤ 4 := list_lay fun d hd => by
  obtain ⟨g, hg, rfl⟩ := List.mem_map.mp hd
  exact bxD_lay (Ok.wok ok _ (mem_worths_box hg))
theorem picD_shaped (ok : P.Ok) : SeqAt.shaped (picD P) = true := by
  have h1 := wDs_lay0 (ws := P.pile) fun z hz => Ok.wok ok z (mem_worths_pile hz)
  refine shaped_of (n := 5) ?_ ?_
  · unfold picD
    simp only [PyData.canLay0]
    exact lay_all fun d hd => by
      simp only [List.mem_cons, List.not_mem_nil, or_false] at hd
      rcases hd with rfl | rfl | rfl | rfl
      · exact h1.1
      · exact (pgs_lay ok).1
      · exact (gos_lay ok).1
      · exact (bxs_lay ok).1
  · have := depth_all (n := 4) (ds := [PyData.list (P.pile.map wD), .list (P.pegs.map pgD), .list (P.goings.map goD), .list (P.boxes.map bxD)]) fun d hd => by
      simp only [List.mem_cons, List.not_mem_nil, or_false] at hd
      rcases hd with rfl | rfl | rfl | rfl
      · exact Nat.le_trans h1.2 (by decide)
      · exact (pgs_lay ok).2
      · exact (gos_lay ok).2
      · exact (bxs_lay ok).2
    unfold picD
    simp only [PyData.depth]
    omega
theorem gos_dp : ∀ {xs : List V} {gs : List (Int × Int × List W)}, Paired (IsGoT S H) xs gs → DpAll K H xs (gs.map goD)
  | _, _, .nil => .nil
  | _, _, .cons ⟨t, l, vs, e, h1, h2, h3, _⟩ r => by
    subst e
    exact .cons (.tup (SqT.of h1) (.cons (.int _) (.cons (.int _) (.cons (h3.dp (SqL.of h2)) .nil)))) (gos_dp r)
theorem pgs_dp : ∀ {xs : List V} {gs : List (Str × W)}, Paired (IsPegT H) xs gs → DpAll K H xs (gs.map pgD)
  | _, _, .nil => .nil
  | _, _, .cons ⟨t, v, e, h1, h2⟩ r => by
    subst e
    exact .cons (.tup (SqT.of h1) (.cons (.str _) (.cons h2.dp .nil))) (pgs_dp r)
theorem bxs_dp : ∀ {xs : List V} {gs : List (Int × W)}, Paired (IsBoxT H) xs gs → DpAll K H xs (gs.map bxD)
  | _, _, .nil => .nil
  | _, _, .cons ⟨t, v, e, h1, h2⟩ r => by
    subst e
    exact .cons (.tup (SqT.of h1) (.cons (.int _) (.cons h2.dp .nil))) (bxs_dp r)
theorem _root_.Wpm.IsPic.dp (h : IsPic S H v P) : Dp K H v (picD P) := by
  obtain ⟨t, a, b, c, d, pa, xb, xc, xd, rfl, ht, pc⟩ := h
  exact .tup (SqT.of ht) (.cons (pc.pile.dp (SqL.of pc.ha)) (.cons (.lst (SqL.of pc.hb) (pgs_dp pc.pegs)) (.cons (.lst (SqL.of pc.hc) (gos_dp pc.goings)) (.cons (.lst (SqL.of pc.hd) (bxs_dp pc.boxes)) .nil))))
end
theorem eqv_nilL {ds : List PyData} : PyData.eqv (.list ds) (.list []) = decide (ds = []) := by
  cases ds <;> simp [PyData.eqv, PyData.eqvAll]
theorem nil_shaped : SeqAt.shaped (.list []) = true := by
  refine shaped_of (n := 1) (by simp [PyData.canLay0, PyData.canLayAll0]) (by simp [PyData.depth, PyData.depthAll])
theorem pr_take {α β : Type} {F : α → β → Prop} : ∀ {l1 : List α} {l2 : List β}, Paired F l1 l2 → ∀ n, Paired F (l1.take n) (l2.take n)
  | _, _, .nil, n => by cases n <;> exact .nil
  | _, _, .cons r t, 0 => .nil
  | _, _, .cons r t, n + 1 => .cons r (pr_take t n)
theorem pr_drop {α β : Type} {F : α → β → Prop} : ∀ {l1 : List α} {l2 : List β}, Paired F l1 l2 → ∀ n, Paired F (l1.drop n) (l2.drop n)
  | _, _, .nil, n => by cases n <;> exact .nil
  | _, _, .cons r t, 0 => .cons r t
  | _, _, .cons r t, n + 1 => pr_drop t n
theorem pr_app {α β : Type} {F : α → β → Prop} : ∀ {l1 l3 : List α} {l2 l4 : List β}, Paired F l1 l2 → Paired F l3 l4 → Paired F (l1 ++ l3) (l2 ++ l4)
  | _, _, _, _, .nil, k => k
  | _, _, _, _, .cons r t, k => .cons r (pr_app t k)
theorem mem_split {α : Type} {l : List α} {i : Nat} {x y : α} (h : l[i]? = some x) (hy : y ∈ l) : y ∈ l.take i ∨ y = x ∨ y ∈ l.drop (i + 1) := by
  have e : l = l.take i ++ x :: l.drop (i + 1) := by
    have hi := (List.getElem?_eq_some_iff.mp h).1
    have hx := (List.getElem?_eq_some_iff.mp h).2
    rw [← hx, ← List.drop_eq_getElem_cons hi, List.take_append_drop]
  rw [e] at hy
  rcases List.mem_append.mp hy with h | h
  · exact .inl h
  · rcases List.mem_cons.mp h with h | h
    · exact .inr (.inl h)
    · exact .inr (.inr h)
theorem split_at {α : Type} {l : List α} {i : Nat} {x : α} (h : l[i]? = some x) : l = l.take i ++ x :: l.drop (i + 1) := by
  have hi := (List.getElem?_eq_some_iff.mp h).1
  have hx := (List.getElem?_eq_some_iff.mp h).2
  rw [← hx, ← List.drop_eq_getElem_cons hi, List.take_append_drop]
/-- the pile, or a going's, begun by plain worths -/
theorem Ok.longPile {P : Pic} {ms : List W} (ok : P.Ok) (h : ∀ z ∈ ms, Plain z) : Pic.Ok { P with pile := ms ++ P.pile } := by
  refine Ok.like ok rfl rfl rfl (fun z hz => ?_) fun z hz => ?_
  · unfold Pic.worths at hz
    rcases List.mem_append.mp hz with h1 | h1
    · rcases List.mem_append.mp h1 with h1 | h1
      · rcases List.mem_append.mp h1 with h1 | h1
        · exact .inr (h z h1)
        · exact .inl (mem_worths_pile h1)
      · exact .inl (List.mem_append_left _ (List.mem_append_right _ h1))
    · exact .inl (List.mem_append_right _ h1)
  · unfold Pic.worths at hz
    rcases List.mem_append.mp hz with h1 | h1
    · rcases List.mem_append.mp h1 with h1 | h1
      · exact mem_worths_pile (P := { P with pile := ms ++ P.pile }) (List.mem_append_right _ h1)
      · exact List.mem_append_left _ (List.mem_append_right _ h1)
    · exact List.mem_append_right _ h1
theorem Ok.longGo {P : Pic} {ms : List W} {i : Nat} {g : Int × Int × List W} (ok : P.Ok) (h : ∀ z ∈ ms, Plain z) (hg : P.goings[i]? = some g) : Pic.Ok { P with goings := P.goings.take i ++ [(g.1, g.2.1, ms ++ g.2.2)] ++ P.goings.drop (i + 1) } := by
  have es := split_at hg
  refine Ok.like ok rfl rfl ?_ (fun z hz => ?_) fun z hz => ?_
  · show (P.goings.take i ++ [(g.1, g.2.1, ms ++ g.2.2)] ++ P.goings.drop (i + 1)).map _ = _
    conv => rhs; rw [es]
    rw [List.append_assoc, List.map_append, List.map_append, List.map_append] <;> rfl
  · unfold Pic.worths at hz
    rcases List.mem_append.mp hz with h1 | h1
    · exact .inl (List.mem_append_left _ h1)
    · obtain ⟨g2, h2, h3⟩ := List.mem_flatMap.mp h1
      have h2 : g2 ∈ P.goings.take i ++ [(g.1, g.2.1, ms ++ g.2.2)] ++ P.goings.drop (i + 1) := h2
      rcases List.mem_append.mp h2 with h2 | h2
      · rcases List.mem_append.mp h2 with h2 | h2
        · exact .inl (mem_worths_go (List.mem_of_mem_take h2) h3)
        · rw [List.mem_singleton.mp h2] at h3
          rcases List.mem_append.mp h3 with h3 | h3
          · exact .inr (h z h3)
          · exact .inl (mem_worths_go (List.mem_of_getElem? hg) h3)
      · exact .inl (mem_worths_go (List.mem_of_mem_drop h2) h3)
  · unfold Pic.worths at hz
    rcases List.mem_append.mp hz with h1 | h1
    · exact List.mem_append_left _ h1
    · obtain ⟨g2, h2, h3⟩ := List.mem_flatMap.mp h1
      refine List.mem_append_right _ (List.mem_flatMap.mpr ?_)
      rcases mem_split hg h2 with h2 | h2 | h2
      · exact ⟨g2, List.mem_append_left _ (List.mem_append_left _ h2), h3⟩
      · rw [h2] at h3
        exact ⟨(g.1, g.2.1, ms ++ g.2.2), List.mem_append_left _ (List.mem_append_right _ (List.mem_singleton.mpr rfl)), List.mem_append_right _ h3⟩
      · exact ⟨g2, List.mem_append_right _ h2, h3⟩
/-! ### ways -/
def wayM (R : List W) (h : W → List W) (way : List W) : Bool := match way with
  | [] => false
  | w :: ws => decide (w ∈ R) && ((w :: ws).zip ws).all fun p => decide (p.2 ∈ h p.1)
def WayAll (h : W → List W) (way : List W) (n : Nat) : Prop := ∀ j, 0 < j → j < n → ∀ x y, way[j - 1]? = some x → way[j]? = some y → y ∈ h x
theorem way_true {R : List W} {h : W → List W} {way : List W} : wayM R h way = true ↔ (∃ w, way[0]? = some w ∧ w ∈ R) ∧ WayAll h way way.length := by
  cases way with
  | nil =>
    constructor
    · intro e; cases e
    · rintro ⟨⟨w, e, _⟩, _⟩; cases e
  | cons w ws =>
    unfold wayM
    rw [Bool.and_eq_true, decide_eq_true_eq, List.all_eq_true]
    constructor
    · rintro ⟨h1, h2⟩
      refine ⟨⟨w, rfl, h1⟩, fun j j0 jl x y hx hy => ?_⟩
      obtain ⟨k, rfl⟩ : ∃ k, j = k + 1 := ⟨j - 1, by omega⟩
      have hx : (w :: ws)[k]? = some x := hx
      have hy : ws[k]? = some y := hy
      have hm : (x, y) ∈ (w :: ws).zip ws := List.mem_of_getElem? (List.getElem?_zip_eq_some.mpr ⟨hx, hy⟩)
      exact of_decide_eq_true (h2 _ hm)
    · rintro ⟨⟨w', e, h1⟩, h2⟩
      cases e
      refine ⟨h1, fun p hp => ?_⟩
      obtain ⟨k, hk⟩ := List.mem_iff_getElem?.mp hp
      obtain ⟨hx, hy⟩ := List.getElem?_zip_eq_some.mp hk
      have kl := (List.getElem?_eq_some_iff.mp hy).1
      exact decide_eq_true (h2 (k + 1) (Nat.succ_pos k) (by simp only [List.length_cons]; omega) p.1 p.2 hx hy)
theorem way_false {R : List W} {h : W → List W} {way : List W} (n : ¬ ((∃ w, way[0]? = some w ∧ w ∈ R) ∧ WayAll h way way.length)) : wayM R h way = false := by
  cases e : wayM R h way with
  | false => rfl
  | true => exact absurd (way_true.mp e) n
/-- each thing of a way so far is in the picture -/
theorem way_in {P : Pic} (ok : P.Ok) {way : List W} {n : Nat} (h0 : ∃ w, way[0]? = some w ∧ w ∈ rootsM P) (ha : WayAll (holdM (tableM P)) way n) : ∀ j, j < n → ∀ x, way[j]? = some x → x ∈ P.things := by
  intro j
  induction j with
  | zero =>
    intro _ x hx
    obtain ⟨w, hw, hr⟩ := h0
    rw [hx] at hw
    cases hw
    exact root_thing ok hr
  | succ j ih =>
    intro hj x hx
    have jl := (List.getElem?_eq_some_iff.mp hx).1
    obtain ⟨y, hy⟩ : ∃ y, way[j]? = some y := ⟨_, List.getElem?_eq_getElem (by omega)⟩
    exact hold_thing ok (ha (j + 1) (Nat.succ_pos j) hj y x hy hx)
/-! ### beside a well -/
section
variable {H H' : Hp} {b l a : Addr} {n : Nat} {vs : List V} {ws : List W} {kvs : List (List Key × V)} {tb : List (W × List W)}
theorem pile_ne (hl : H l = some (.lst vs)) (p : Pile H vs ws) (hw : Ww.Well H b n) : l ≠ b := by
  rintro rfl
  obtain ⟨x, y, z, h1, _⟩ := hw
  rw [h1] at hl
  cases hl
  cases p with
  | cons r t =>
    obtain ⟨t, e, _⟩ := r
    cases e
theorem Tab.kp (h : Tab H kvs tb) (hw : Ww.Well H b n) (k : Kp b H H') : Tab H' kvs tb := Paired.mapP h fun _ _ q => by
  obtain ⟨q1, l, vs, e, h1, h2, h3⟩ := q
  exact ⟨q1, l, vs, e, k _ _ (pile_ne h1 h2 hw) h1, h2.keep (hw.ks k).tk, h3⟩
theorem pile_cut {lo hi : Option Int} (p : Pile H vs ws) : ∃ zs, Pile H (cutV vs lo hi) zs ∧ zs.length ≤ ws.length ∧ ∀ z ∈ zs, z ∈ ws := by
  unfold cutV
  refine ⟨_, (p.drop _).take _, ?_, fun z hz => List.mem_of_mem_drop (List.mem_of_mem_take hz)⟩
  rw [List.length_take, List.length_drop]
  omega
theorem cut_len {vs : List V} {lo hi : Option Int} : (cutV vs lo hi).length ≤ vs.length := by
  unfold cutV
  rw [List.length_take, List.length_drop]
  omega
end
theorem hold_len {P : Pic} {z : W} {n : Nat} (hn : 1 ≤ n) (h : ∀ g ∈ P.goings, g.2.2.length ≤ n) : (holdM (tableM P) z).length ≤ n := by
  unfold holdM
  cases c : (tableM P).find? fun e => decide (e.1 = z) with
  | none => exact Nat.zero_le _
  | some e =>
    have m := List.mem_of_find?_eq_some c
    show e.2.length ≤ n
    unfold tableM at m
    rcases List.mem_append.mp m with m | m
    · obtain ⟨b, hb, rfl⟩ := List.mem_map.mp m
      have := things_len (ws := [b.2])
      have e1 : [b.2].length = 1 := rfl
      show (thingsM [b.2]).length ≤ n
      omega
    · obtain ⟨g, hg, rfl⟩ := List.mem_map.mp m
      have := things_len (ws := g.2.2)
      have := h g hg
      show (thingsM g.2.2).length ≤ n
      omega
theorem last_at {xs : List V} {u : V} {n : Nat} (h : xs[n]? = some u) (e : n + 1 = xs.length) {j : Int} (hj : j = -1) : atI xs j = some u := by
  have h1 : ixN xs.length j = some n := by
    unfold ixN
    rw [if_neg (by omega)]
    rw [if_pos (by omega)]
    congr 1
    omega
  unfold atI
  rw [h1]
  exact h
/-! ### what is reached -/
inductive Reach (R : List W) (h : W → List W) : W → Prop where
  | root {z : W} : z ∈ R → Reach R h z
  | step {y z : W} : Reach R h y → z ∈ h y → Reach R h z
theorem reach_thing {P : Pic} (ok : P.Ok) {z : W} (r : Reach (rootsM P) (holdM (tableM P)) z) : z ∈ P.things := by
  cases r with
  | root h => exact root_thing ok h
  | step _ h => exact hold_thing ok h
theorem thing_isT {P : Pic} {z : W} (h : z ∈ P.things) : isT z = true := by
  rw [isT_iff]
  unfold Pic.things at h
  rcases List.mem_append.mp h with h | h
  · obtain ⟨b, _, rfl⟩ := List.mem_map.mp h
    exact .inl rfl
  · obtain ⟨b, _, rfl⟩ := List.mem_map.mp h
    exact .inr rfl
theorem sub_len : ∀ {F L : List W}, F.Nodup → (∀ z ∈ F, z ∈ L) → F.length ≤ L.length
  | [], _, _, _ => Nat.zero_le _
  | a :: F, L, nd, h => by
    have nd2 := List.nodup_cons.mp nd
    have ha := h a List.mem_cons_self
    have ih := sub_len (F := F) (L := L.erase a) nd2.2 fun z hz => by
      refine (List.mem_erase_of_ne fun e => ?_).mpr (h z (List.mem_cons_of_mem _ hz))
      exact nd2.1 (e ▸ hz)
    have := List.length_erase_of_mem ha
    have := List.length_pos_of_mem ha
    rw [List.length_cons]
    omega
structure FarI (P : Pic) (F N : List W) : Prop where
  nd : (F ++ N).Nodup
  inT : ∀ z ∈ F ++ N, Reach (rootsM P) (holdM (tableM P)) z
  root : ∀ z ∈ rootsM P, z ∈ F ++ N
  shut : ∀ y ∈ F, ∀ z ∈ holdM (tableM P) y, z ∈ F ++ N
def nextN (P : Pic) (F N : List W) : List W := thingsM (N.flatMap fun y => (holdM (tableM P) y).filter fun z => decide (z ∉ F ++ N))
theorem FarI.start {P : Pic} : FarI P [] (rootsM P) := ⟨things_nodup, fun z h => .root h, fun z h => h, fun _ h => nomatch h⟩
theorem FarI.next {P : Pic} {F N : List W} (i : FarI P F N) : FarI P (F ++ N) (nextN P F N) := by
  have mem : ∀ z, z ∈ nextN P F N ↔ (∃ y ∈ N, z ∈ holdM (tableM P) y) ∧ z ∉ F ++ N := by
    intro z
    unfold nextN
    rw [mem_things, List.mem_flatMap]
    constructor
    · rintro ⟨⟨y, hy, hz⟩, _⟩
      rw [List.mem_filter] at hz
      exact ⟨⟨y, hy, hz.1⟩, of_decide_eq_true hz.2⟩
    · rintro ⟨⟨y, hy, hz⟩, n⟩
      exact ⟨⟨y, hy, List.mem_filter.mpr ⟨hz, decide_eq_true n⟩⟩, (hold_mem hz).2⟩
  refine ⟨?_, fun z h => ?_, fun z h => List.mem_append_left _ (i.root z h), fun y hy z hz => ?_⟩
  · refine List.pairwise_append.mpr ⟨i.nd, things_nodup, ?_⟩
    intro x hx y hy e
    exact ((mem y).mp hy).2 (e ▸ hx)
  · rcases List.mem_append.mp h with h | h
    · exact i.inT z h
    · obtain ⟨⟨y, hy, hz⟩, _⟩ := (mem z).mp h
      exact .step (i.inT y (List.mem_append_right _ hy)) hz
  · rcases List.mem_append.mp hy with hy | hy
    · exact List.mem_append_left _ (i.shut y hy z hz)
    · by_cases c : z ∈ F ++ N
      · exact List.mem_append_left _ c
      · exact List.mem_append_right _ ((mem z).mpr ⟨⟨y, hy, hz⟩, c⟩)
theorem FarI.done {P : Pic} {F : List W} (i : FarI P F []) : ∀ z, z ∈ F ↔ Reach (rootsM P) (holdM (tableM P)) z := by
  have e : F ++ [] = F := List.append_nil F
  intro z
  constructor
  · intro h; exact i.inT z (by rw [e]; exact h)
  · intro r
    induction r with
    | root h => have := i.root _ h; rw [e] at this; exact this
    | step _ h ih => have := i.shut _ ih _ h; rw [e] at this; exact this
theorem FarI.len {P : Pic} {F N : List W} (ok : P.Ok) (i : FarI P F N) : F.length + N.length ≤ P.things.length := by
  rw [← List.length_append]
  exact sub_len i.nd fun z h => reach_thing ok (i.inT z h)
/-- a dict whose keys are these -/
def Keyed (kvs : List (List Key × V)) (F : List W) : Prop := kvs.map (·.1) = F.map keyT
theorem Keyed.len {kvs : List (List Key × V)} {F : List W} (h : Keyed kvs F) : kvs.length = F.length := by
  have := congrArg List.length h
  rw [List.length_map, List.length_map] at this
  exact this
theorem Keyed.some {kvs : List (List Key × V)} {F : List W} (h : Keyed kvs F) {z : W} : (valV kvs (keyT z)).isSome = decide (z ∈ F) := by
  unfold Keyed at h
  induction kvs generalizing F with
  | nil =>
    cases F with
    | nil => rfl
    | cons _ _ => cases h
  | cons kv kvs ih =>
    cases F with
    | nil => cases h
    | cons y F =>
      rw [List.map_cons, List.map_cons] at h
      obtain ⟨h1, h2⟩ := List.cons.inj h
      by_cases c : kv.1 = keyT z
      · have e : z = y := keyT_inj (c.symm.trans h1)
        rw [show kv :: kvs = (kv.1, kv.2) :: kvs from rfl, valV_pos c, e]
        simp
      · rw [show kv :: kvs = (kv.1, kv.2) :: kvs from rfl, valV_neg c, ih h2]
        have n : z ≠ y := fun e => c (by rw [h1, e])
        simp [n]
theorem Keyed.put {kvs : List (List Key × V)} {F : List W} (h : Keyed kvs F) {z : W} (n : z ∉ F) (v : V) : Keyed (putK kvs (keyT z) v) (F ++ [z]) := by
  unfold Keyed at *
  rw [put_new, List.map_append, List.map_append, h]
  · rfl
  · rw [h]
    intro m
    obtain ⟨y, hy, e⟩ := List.mem_map.mp m
    exact n (keyT_inj e ▸ hy)
theorem Keyed.put2 {kvs : List (List Key × V)} {F : List W} (h : Keyed kvs F) {z : W} (m : z ∈ F) (v : V) : Keyed (putK kvs (keyT z) v) F := by
  unfold Keyed at *
  unfold putK
  rw [if_pos]
  · rw [List.map_map]
    rw [← h]
    refine List.map_congr_left fun kv _ => ?_
    show (if kv.1 = keyT z then (kv.1, v) else kv).1 = kv.1
    split <;> rfl
  · have : keyT z ∈ kvs.map (·.1) := by rw [h]; exact List.mem_map.mpr ⟨z, m, rfl⟩
    obtain ⟨kv, h1, h2⟩ := List.mem_map.mp this
    exact List.any_eq_true.mpr ⟨kv, h1, decide_eq_true h2⟩
end Wth

/-! y = {k: v for target in iter}, on one line. -/
namespace Wv
open PySem PySem.Spec PyProof.Rows L2 Wp
section
variable {X : Cx}
theorem sw_dict {kx vx : Expr} {gs : List Comprehension} {sc : Scope} {q py : Pos} {y : Str} {l : Nat} {en : Env} (h1 : en.scope.kind = .function) (h2 : en.scope.names.lookup y = some .local) (h3 : (py.line == q.line) = true)
    (h4 : (sc.names.any fun (n, k) => n == y && (k == .local || k == .cell)) = false) : swapsWith (.DictComp kx vx gs sc q) (some (.Name y py)) l en = pure true := by
  have e1 : en.kindOf y = some .local := h2
  have e2 : en.blockKind = .function := by
    unfold Env.blockKind
    rw [h1] <;> rfl
  unfold swapsWith
  simp only [e2, e1, h4, Expr.pos, h3] <;> rfl
theorem ps_setDc {i : Nat} {y : Str} {py : Pos} {kx vx tg it : Expr} {ifs : List Expr} {sc : Scope} {own : List (Str × Nat)} {q sq : Pos} {wi : TI} {g : TG} {tt : TT} {tk tv : TE} (hc : X.calm = true) (hN : X.N.Nodup) (hy : X.N[i]? = some y) (hl : X.env.scope.names.lookup y = some .local)
    (sw : swapsWith (.DictComp kx vx [⟨tg, it, ifs, 0⟩] sc q) (some (.Name y py)) sq.line X.env = pure true) (hi : PI X tg it wi) (ok : BlkOk X.N X.env.scope sc own)
    (hg : ∀ (s : Shared) (H : Hp) (C : Addr) (cl : List (Str × Addr)) (fp : List Addr), PG (X.blk s H sc (compEnvC sc cl C X.env) fp) tg g)
    (ht : ∀ (s : Shared) (H : Hp) (C : Addr) (cl : List (Str × Addr)) (fp : List Addr), PTs (X.blk s H sc (compEnvC sc cl C X.env) fp) ifs tt)
    (hk : ∀ (s : Shared) (H : Hp) (C : Addr) (cl : List (Str × Addr)) (fp : List Addr), PE (X.blk s H sc (compEnvC sc cl C X.env) fp) kx tk)
    (he : ∀ (s : Shared) (H : Hp) (C : Addr) (cl : List (Str × Addr)) (fp : List Addr), PE (X.blk s H sc (compEnvC sc cl C X.env) fp) vx tv) (hs : ∀ x, foldedSetIterable it X.env x = pure x := by intro _; rfl) :
    PS X (.Assign [.Name y py] (.DictComp kx vx [⟨tg, it, ifs, 0⟩] sc q) sq) (tAsg (tDc wi g tt tk tv (own.map (·.2))) (gName i)) := by
  refine ⟨fun pins s σ H D I w0 => ?_⟩
  have w1 : tDc wi g tt tk tv (own.map (·.2)) σ H (fun x H1 => gName i x σ H1 D.nx) := w0
  rw [exec_Assign_Name_used _ _ _ _ sw]
  refine (wpAny_bind (wpAny_standAt (wpAny_bind (wpAny_bind (thn (dc_core (Qf := fun _ s2 => SP X pins D .next s2) hc hN I hi ok hg ht hk he hs w1 fun L C s2 m H2 I2 q2 hn f => ?_) fun _ s3 z => wpAny_pure (wpAny_pure z))))))
  refine wpAny_assign_Name (store_ok2 (v := V.ref L) I2 hN hy (.inl hl) rfl (fun s3 I3 ⟨a, sb, ha⟩ => ?_) (.inr hl))
  obtain ⟨n0, n1, n2, n3, n4, n5⟩ := f
  have ne : C ≠ a := ha.elim (fun z => by rw [z]; exact n1) (fun z e => n4 y a z e.symm)
  exact ⟨m, hn.sameBut sb ne, fun h4 sb4 => ⟨_, H2, I3.turned (t' := s3.toks) (fun b o hb e => (sb4.2 b hb).trans e) n0 n1 n3 n4 n5, q2⟩⟩
end
end Wv

/-! {k: v for target in iter}, the keys tuples. -/
namespace Wtc
open PySem PySem.Spec PyProof.Rows L2 Wp
/-- a new dict of tuple keys, turn by turn -/
def LoopD (J : It) (g : TG) (tt : TT) (tk tv : TE) (ws : List Nat) (σ : L2.St) (D : Addr) (Qd : Hp → Prop) (H0 : Hp) : Prop := ∃ W : Nat → Nat → Hp → Prop, (∃ m, W 0 m H0) ∧ ∀ i m H, W i m H →
  (J.stop i H ∧ Qd H) ∨ (J.go i H ∧ ∃ Nx : Hp → Prop, (∀ H', Nx H' → ∃ m', m' < m ∧ W (i + 1) m' H') ∧ ∀ x H', J.yld i H x H' → g x (wipe σ ws) H' fun σ2 H2 => wipe σ2 ws = wipe σ ws ∧ tt σ2 H2 fun b H3 =>
    if b = true then tk σ2 H3 fun y H4 => tv σ2 H4 fun z H5 => ∃ kvs, ∃ k : List Key, ∃ c, H5 D = some (.dT kvs) ∧ y = .ref c ∧ H5 c = some (.tup (k.map kV)) ∧ kvs.length < sizeLine ∧ Nx (upd H5 D (.dT (putK kvs k z))) else Nx H3)
def tDcT (wi : TI) (g : TG) (tt : TT) (tk tv : TE) (ws : List Nat) : TE := fun σ H Q => wi σ H fun J H1 => ∀ D, H1 D = none → LoopD J g tt tk tv ws σ D (fun H => Q (.ref D) H) (upd H1 D (.dT []))
section
variable {X : Cx}
/-- one pair more, in the model -/
theorem set_tup {pins : List (Addr × Obj)} {σ : L2.St} {H : Hp} {s : Shared} {Ex : Value → Shared → Prop} {D c : Addr} {kvs : List (List Key × V)} {k : List Key} {z : V} {r : Value} {Q : Unit → Shared → Prop} (hu : X.A.units + 1 < cLine) (I : Inv X pins σ H s)
    (hD : H D = some (.dT kvs)) (hc : H c = some (.tup (k.map kV))) (hl : kvs.length < sizeLine) (rz : RelV z r) (go : ∀ s', Inv X pins σ (upd H D (.dT (putK kvs k z))) s' → Q () s') : wpAny (model X.prog X.w) X.A (dictSet D (.ref c) r) Q Ex s := by
  obtain ⟨w1, w2, ps, rp, dd⟩ := dt_of I.hok hD
  have n1 : ps.length ≤ sizeLine := by rw [← Paired.length rp]; exact w1
  have n2 : (putK kvs k z).length ≤ sizeLine := Nat.le_trans (length_putK kvs k z) (by omega)
  refine wpAny_dictSet_heap (hsz := n1) (show _ < cLine by first | exact hu | omega) (key_of I.hok hc) dd fun h2 d2 sb => go _ ?_
  obtain ⟨o2, e1, e2, e3, e4, e5, e6, e7, e8⟩ := d2
  exact d_write I (by rw [hD]; exact True.intro) sb ⟨o2, e3⟩ ⟨n2, w2, _, (rp.put k hc rz).keeps fun a ys ha => (upd_ne (ne_of ha hD (fun q => nomatch q))).trans ha, o2, e1, e2, e3, e4, e5, e6, e8⟩
/-- the block of a comprehension -/
abbrev Blk (X : Cx) (sc : Scope) (fp : List Addr) (s : Shared) (H : Hp) : Cx := X.blk s H sc (compEnvC sc (cellsFrom (s.heap.objs.size + 1) sc.names (cloFrom X.env.cells sc.names [])) s.heap.objs.size X.env) fp
/-- a turn's heap is as good as the start's -/
def Held (Y : Cx) (tn : Nat → Heap → Prop) (fp : List Addr) (τ : L2.St) (W : Nat → Nat → Hp → Prop) (n : Nat) (s : Shared) : Prop := ∃ i H, Inv Y [] τ H s ∧ tn i s.heap ∧ (∀ b ∈ fp, H b = none) ∧ W i n H
theorem core {pins : List (Addr × Obj)} {s : Shared} {σ : L2.St} {H : Hp} {Q : VK} {kx vx tg it : Expr} {ifs : List Expr} {sc : Scope} {own : List (Str × Nat)} {p1 p2 : Pos} {wi : TI} {g : TG} {tt : TT} {tk tv : TE} {use : Option (Value → Sem Unit)} {Qf : Value → Shared → Prop}
    (hu : X.A.units + 1 < cLine) (hc : X.calm = true) (hN : X.N.Nodup) (I : Inv X pins σ H s) (hi : PI X tg it wi) (ok : BlkOk X.N X.env.scope sc own)
    (blk : ∀ (s : Shared) (H : Hp) (fp : List Addr), PG (Blk X sc fp s H) tg g ∧ PTs (Blk X sc fp s H) ifs tt ∧ PE (Blk X sc fp s H) kx tk ∧ PE (Blk X sc fp s H) vx tv) (hs : ∀ x, foldedSetIterable it X.env x = pure x)
    (h : tDcT wi g tt tk tv (own.map (·.2)) σ H Q)
    (out : ∀ D C s' m H', Inv X pins σ H' s' → Q (.ref D) H' → s'.heap.Ns C m → FpOk X pins H' C → compPost (model X.prog X.w) X.A X.xe use Qf (.ref D) C (.ok .next) s') :
    wpAny (model X.prog X.w) X.A (comprehension (.DictComp kx vx [⟨tg, it, ifs, 0⟩] sc p1) sc X.env p2 newDict false (eval it X.env) use) Qf X.xe s := by
  refine wpAny_comprehension_free (use := use) rfl hs (closure_ok fun y hy e => (ok.free y hy e).elim (fun k => I.ok.has _ (.inl k)) fun k => I.ok.has _ (.inr k)) ok.kind (fun y hy e => by rw [ok.uniq y hy, e]) ?_
  refine thn (hi.run pins s σ H _ I h) fun _ _ hx => thn hx fun _ s2 ⟨a, fp, tn, J, H2, ea, I2, T, t2, f2, rd⟩ => ?_
  subst ea
  refine wpAny_newObj_type (newEnv_comp ?_)
  have new : H2 s2.heap.objs.size = none := I2.hok.fresh (Nat.le_refl _)
  obtain ⟨W, ⟨m0, w0⟩, turn⟩ := rd _ new
  have low : ∀ b ∈ fp, b < s2.heap.objs.size := fun b hb => (T.obj _ _ t2 b hb).elim fun _ e => Heap.lt_size e.1
  let s3 : Shared := { s2 with heap := s2.heap.push { cls := .type "dict", data := .dict #[] } }
  have I3 : Inv X pins σ (upd H2 s2.heap.objs.size (.dT [])) s3 := I2.laid (t' := s2.toks) (fun _ _ q => Heap.get?_push_of_some _ q) (Nat.le_refl _) (dt_empty s2.heap I2.big)
  have f3 : ∀ b ∈ fp, FpOk X pins (upd H2 s2.heap.objs.size (.dT [])) b ∧ b < s3.heap.objs.size := fun b hb =>
    ⟨⟨(upd_ne (Nat.ne_of_lt (low b hb))).trans (f2 b hb).1, (f2 b hb).2⟩, Nat.lt_of_lt_of_eq (Nat.lt_succ_of_lt (low b hb)) (Heap.size_push _ _).symm⟩
  have t3 : tn 0 s3.heap := T.keep _ _ _ t2 fun _ _ _ e => Heap.get?_push_of_some _ e
  have I4 := block_start I3 ok hN f3
  obtain ⟨pg, pt, pk, pe⟩ := blk s3 (upd H2 s2.heap.objs.size (.dT [])) fp
  let ce := compEnvC sc (cellsFrom (s3.heap.objs.size + 1) sc.names (cloFrom X.env.cells sc.names [])) s3.heap.objs.size X.env
  let s4 : Shared := { s3 with heap := pushCells (s3.heap.push { cls := .type "dict", data := .dict #[] }) sc.names }
  let Y := X.blk s3 (upd H2 s2.heap.objs.size (.dT [])) sc ce fp
  have t4 : tn 0 s4.heap := T.keep _ _ _ t3 fun _ _ _ e => pushCells_keeps _ _ _ _ (Heap.get?_push_of_some _ e)
  have own_ : ∀ {τ : L2.St} {H' : Hp} {s' : Shared}, Inv Y [] τ H' s' → (∀ b ∈ fp, H' b = none) → ∀ b ∈ fp, FpOk Y [] H' b := fun {τ H' s'} J n b hb =>
    let q := J.ok.exf b hb
    ⟨n b hb, q.1, J.ok.exfs b hb, .inl hb, fun x c e => q.2 x c e, fun p hp => nomatch (show p ∈ ([] : List (Addr × Obj)) from hp)⟩
  have lp : codeAny (model X.prog X.w) X.A (.compLoop (.DictComp kx vx [⟨tg, it, ifs, 0⟩] sc p1) 0 (.ref a) (.ref s2.heap.objs.size) ce) (compPost (model X.prog X.w) X.A X.xe use Qf (.ref s2.heap.objs.size) s3.heap.objs.size) s4 := by
    refine compLoop_anyD (Held Y tn fp (wipe σ (own.map (·.2))) W) (fun n s5 ⟨i, H5, I5, t5, n5, w5⟩ => ?_) m0 ⟨0, _, I4, t4, fun b hb => (f3 b hb).1.1, w0⟩
    rcases turn i n H5 w5 with ⟨st, fin⟩ | ⟨go, Nx, dn, step⟩
    · refine thnF (T.done Y rfl rfl rfl hc i [] s5 _ H5 (fun _ _ => False) I5 (own_ I5 n5) t5 st) fun r s6 ⟨er, I6⟩ => ?_
      subst er
      obtain ⟨m, hm, _⟩ := I6.loc
      have nC : H5 s3.heap.objs.size = none := I6.free
      have I7 : Inv X pins σ H5 s6 := I3.call' (ch := fp) I6.os I6.base I6.hok I6.bare fun b hb =>
        let q := (f3 b hb).1.2
        ⟨q.2.2.1, q.1, q.2.2.2.1, q.2.2.2.2⟩
      exact out _ _ s6 m H5 I7 fin hm (I3.fpOk (Nat.le_refl _) nC)
    · refine thnF (T.item Y rfl rfl rfl hc i [] s5 _ H5 (fun _ _ => False) I5 (own_ I5 n5) t5 go) fun r s6 ⟨u, er, h6⟩ => ?_
      subst er
      refine thnF h6 fun _ s7 ⟨x, H7, I7, r7, y7, t7, n7⟩ => ?_
      refine thnF (pg.run _ s7 _ H7 x u _ (I7.pinned (own_ I7 n7) (T.obj _ _ t7)) r7 (step x H7 y7)) fun _ s8 ⟨τ, H8, I8, ew, q8⟩ => ?_
      refine thnF (pt.run _ s8 τ H8 _ I8 q8) fun b s9 ⟨H9, I9, q9⟩ => ?_
      have next : ∀ {s' : Shared} {H' : Hp}, Inv Y ([] ++ pinsAt fp s7.heap) τ H' s' → Nx H' → ∃ m, m < n ∧ Held Y tn fp (wipe σ (own.map (·.2))) W m s' := fun {s' H'} J nx => by
        obtain ⟨m, hm, w'⟩ := dn H' nx
        have kept : ∀ b ∈ fp, ∀ o, s7.heap.get? b = some o → s'.heap.get? b = some o ∧ H' b = none := fun b hb o e =>
          let q := J.pin (b, o) (List.mem_append_right _ (List.mem_append_right _ (mem_pinsAt hb e)))
          ⟨q.1, q.2.1⟩
        refine ⟨m, hm, i + 1, H', J.unpinned (pins := []) |>.weak (by rw [← ew, wipe_length]) fun j v e => (wipe_some (ew ▸ e)).1, T.keep _ _ _ t7 fun b hb o e => (kept b hb o e).1, fun b hb => ?_, w'⟩
        obtain ⟨o, e, _⟩ := T.obj _ _ t7 b hb
        exact (kept b hb o e).2
      cases b with
      | false =>
        rw [if_neg Bool.false_ne_true] at q9 ⊢
        exact next I9 q9
      | true =>
        rw [if_pos rfl] at q9 ⊢
        refine thnF (pk.run _ s9 τ H9 _ I9 q9) fun z s10 ⟨yk, H10, I10, r10, q10⟩ => ?_
        refine thnF (pe.run _ s10 τ H10 _ I10 q10) fun z2 s11 ⟨yv, H11, I11, r11, kvs, k, c, hD, ek, hk, hl, nx⟩ => ?_
        subst ek
        obtain rfl : z = Value.ref c := r10
        exact set_tup (X := Y) hu I11 hD hk hl r11 fun s12 I12 => next I12 nx
  exact codeAny_compStart_dict lp (T.self X.A 0 _ _ _ t4 lp)
theorem pe_dcT {kx vx tg it : Expr} {ifs : List Expr} {sc : Scope} {own : List (Str × Nat)} {pos : Pos} {wi : TI} {g : TG} {tt : TT} {tk tv : TE} (hu : X.A.units + 1 < cLine) (hc : X.calm = true) (hN : X.N.Nodup) (hi : PI X tg it wi) (ok : BlkOk X.N X.env.scope sc own)
    (blk : ∀ (s : Shared) (H : Hp) (fp : List Addr), PG (Blk X sc fp s H) tg g ∧ PTs (Blk X sc fp s H) ifs tt ∧ PE (Blk X sc fp s H) kx tk ∧ PE (Blk X sc fp s H) vx tv) (hs : ∀ x, foldedSetIterable it X.env x = pure x := by intro _; rfl) :
    PE X (.DictComp kx vx [⟨tg, it, ifs, 0⟩] sc pos) (tDcT wi g tt tk tv (own.map (·.2))) := by
  refine ⟨fun pins s σ H Q I h => ?_⟩
  rw [arm_eval_DictComp]
  refine core hu hc hN I hi ok blk hs h fun D C s2 m H2 I2 q2 hm ⟨n0, n1, n2, n3, n4, n5⟩ => ⟨m, hm, fun h4 sb => ⟨.ref D, H2, I2.turned (t' := s2.toks) (fun b o hb e => (sb.2 b hb).trans e) n0 n1 n3 n4 n5, rfl, q2⟩⟩
theorem ps_setDcT {i : Nat} {y : Str} {py : Pos} {kx vx tg it : Expr} {ifs : List Expr} {sc : Scope} {own : List (Str × Nat)} {q sq : Pos} {wi : TI} {g : TG} {tt : TT} {tk tv : TE} (hu : X.A.units + 1 < cLine) (hc : X.calm = true) (hN : X.N.Nodup) (hy : X.N[i]? = some y) (hl : X.env.scope.names.lookup y = some .local)
    (sw : swapsWith (.DictComp kx vx [⟨tg, it, ifs, 0⟩] sc q) (some (.Name y py)) sq.line X.env = pure true) (hi : PI X tg it wi) (ok : BlkOk X.N X.env.scope sc own)
    (blk : ∀ (s : Shared) (H : Hp) (fp : List Addr), PG (Blk X sc fp s H) tg g ∧ PTs (Blk X sc fp s H) ifs tt ∧ PE (Blk X sc fp s H) kx tk ∧ PE (Blk X sc fp s H) vx tv) (hs : ∀ x, foldedSetIterable it X.env x = pure x := by intro _; rfl) :
    PS X (.Assign [.Name y py] (.DictComp kx vx [⟨tg, it, ifs, 0⟩] sc q) sq) (tAsg (tDcT wi g tt tk tv (own.map (·.2))) (gName i)) := by
  refine ⟨fun pins s σ H D I w0 => ?_⟩
  have w1 : tDcT wi g tt tk tv (own.map (·.2)) σ H (fun x H1 => gName i x σ H1 D.nx) := w0
  rw [exec_Assign_Name_used _ _ _ _ sw]
  refine (wpAny_bind (wpAny_standAt (wpAny_bind (wpAny_bind (thn (core (Qf := fun _ s2 => SP X pins D .next s2) hu hc hN I hi ok blk hs w1 fun L C s2 m H2 I2 q2 hn f => ?_) fun _ s3 z => wpAny_pure (wpAny_pure z))))))
  refine wpAny_assign_Name (store_ok2 (v := V.ref L) I2 hN hy (.inl hl) rfl (fun s3 I3 ⟨a, sb, ha⟩ => ?_) (.inr hl))
  obtain ⟨n0, n1, n2, n3, n4, n5⟩ := f
  have ne : C ≠ a := ha.elim (fun z => by rw [z]; exact n1) (fun z e => n4 y a z e.symm)
  exact ⟨m, hn.sameBut sb ne, fun h4 sb4 => ⟨_, H2, I3.turned (t' := s3.toks) (fun b o hb e => (sb4.2 b hb).trans e) n0 n1 n3 n4 n5, q2⟩⟩
end
section
variable {σ : L2.St} {H : Hp} {Q : VK} {te tk tv : TE} {g : TG} {tt : TT} {vs : List Nat} {K : PySem.W.Frag}
theorem dcL (h : te σ H fun x H1 => ∃ a, x = .ref a ∧ (∃ xs, SqL K H1 a xs) ∧ ∀ D, H1 D = none → LoopD (Itl K a) g tt tk tv vs σ D (fun H => Q (.ref D) H) (upd H1 D (.dT []))) : tDcT (iList K te) g tt tk tv vs σ H Q := h
theorem loopDL {a : Addr} {xs : List V} {D : Addr} {Qd : Hp → Prop} (Pv : Nat → Hp → Prop) (h0 : Pv 0 H) (hl : ∀ i H, i ≤ xs.length → Pv i H → SqL K H a xs)
    (hs : ∀ i x H, xs[i]? = some x → Pv i H → g x (wipe σ vs) H fun σ2 H2 => wipe σ2 vs = wipe σ vs ∧ tt σ2 H2 fun b H3 =>
      if b = true then tk σ2 H3 fun y H4 => tv σ2 H4 fun z H5 => ∃ kvs, ∃ k : List Key, ∃ c, H5 D = some (.dT kvs) ∧ y = .ref c ∧ H5 c = some (.tup (k.map kV)) ∧ kvs.length < sizeLine ∧ Pv (i + 1) (upd H5 D (.dT (putK kvs k z))) else Pv (i + 1) H3)
    (hd : ∀ H, Pv xs.length H → Qd H) : LoopD (Itl K a) g tt tk tv vs σ D Qd H := by
  refine ⟨fun i m H => m = xs.length - i ∧ i ≤ xs.length ∧ Pv i H, ⟨xs.length, by simp, Nat.zero_le _, h0⟩, ?_⟩
  rintro i m H ⟨rfl, hi, p⟩
  have q := hl i H hi p
  by_cases hlt : i < xs.length
  · refine .inr ⟨⟨xs, xs[i], q, by simp [hlt]⟩, Pv (i + 1), fun H' p' => ⟨xs.length - (i + 1), by omega, rfl, hlt, p'⟩, fun x H' y => ?_⟩
    obtain ⟨e, y⟩ := y
    subst e
    exact hs i x _ (y xs q) p
  · have e : i = xs.length := by omega
    subst e
    exact .inl ⟨⟨xs, q, Nat.le_refl _⟩, hd H p⟩
end
section
variable {σ : L2.St} {H : Hp} {Q : VK} {te : TE} {ta : TA} {g : TG} {tt : TT} {vs : List Nat} {K : PySem.W.Frag}
theorem lcZ (h : ta σ H fun us H1 => ∃ a b xs ys, us = [.ref a, .ref b] ∧ SqL K H1 a xs ∧ SqL K H1 b ys ∧ ∀ D, H1 D = none → LoopC (Itz K a b) g tt te vs σ D (fun H => Q (.ref D) H) (upd H1 D (.lst []))) : tLc (iZip K ta) g tt te vs σ H Q := h
theorem loopCZ {a b : Addr} {xs ys : List V} {D : Addr} {Qd : Hp → Prop} (le : ys.length ≤ xs.length) (Pv : Nat → Hp → Prop) (h0 : Pv 0 H) (hl : ∀ i H, i ≤ ys.length → Pv i H → SqL K H a xs ∧ SqL K H b ys)
    (hs : ∀ i x y T H, xs[i]? = some x → ys[i]? = some y → Pv i H → H T = none → g (.ref T) (wipe σ vs) (upd H T (.tup [x, y])) fun σ2 H2 => wipe σ2 vs = wipe σ vs ∧ tt σ2 H2 fun b H3 =>
      if b = true then te σ2 H3 fun z H4 => ∃ acc, H4 D = some (.lst acc) ∧ acc.length < sizeLine ∧ Pv (i + 1) (upd H4 D (.lst (acc ++ [z]))) else Pv (i + 1) H3)
    (hd : ∀ H, Pv ys.length H → Qd H) : LoopC (Itz K a b) g tt te vs σ D Qd H := by
  refine ⟨fun i m H => m = ys.length - i ∧ i ≤ ys.length ∧ Pv i H, ⟨ys.length, by simp, Nat.zero_le _, h0⟩, ?_⟩
  rintro i m H ⟨rfl, hi, p⟩
  obtain ⟨q1, q2⟩ := hl i H hi p
  by_cases hlt : i < ys.length
  · have hx : i < xs.length := by omega
    refine .inr ⟨⟨xs, ys, xs[i], ys[i], q1, q2, List.getElem?_eq_getElem hx, List.getElem?_eq_getElem hlt⟩, Pv (i + 1), fun H' p' => ⟨ys.length - (i + 1), by omega, rfl, hlt, p'⟩, fun v H' yl => ?_⟩
    obtain ⟨T, x, y, rfl, hT, rfl, e1, e2⟩ := yl
    exact hs i x y T H (e1 xs q1) (e2 ys q2) p hT
  · have e : i = ys.length := by omega
    subst e
    exact .inl ⟨⟨xs, ys, q1, q2, .inr (Nat.le_refl _)⟩, hd H p⟩
end
theorem dget2 {td ty tx : TE} {σ : L2.St} {H : Hp} {Q : VK} (h : td σ H fun x H1 => ∃ a, x = .ref a ∧ IsD H1 a ∧ ty σ H1 fun y H2 => tx σ H2 fun z H3 => ∃ o, DGet H3 a y o ∧ Q (o.getD z) H3) : tDGet2 td ty tx σ H Q := h
/-! ### a dict of tuple keys walked by its keys -/
section
variable {σ : L2.St} {H : Hp} {Q : VK} {D : Ends} {te td : TE} {g : TG} {tt : TT} {tb : TS} {vs : List Nat} {d : Addr} {o : Obj} {kvs : List (List Key × V)}
theorem lockT {t : TE} (h : H d = some (.dT kvs)) (q : ∀ od, t σ (upd H d (.frz od (.dT kvs))) fun v H' => H' d = some (.frz od (.dT kvs)) ∧ Q v (upd H' d (.dT kvs))) : tLockE t σ H Q := ⟨d, _, h, trivial, q⟩
theorem lockS {t : TS} (h : H d = some (.dT kvs)) (q : ∀ od, t ⟨fun σ' H' => H' d = some (.frz od (.dT kvs)) ∧ D.nx σ' (upd H' d (.dT kvs)), fun v H' => H' d = some (.frz od (.dT kvs)) ∧ D.rt v (upd H' d (.dT kvs)), fun σ' H' => H' d = some (.frz od (.dT kvs)) ∧ D.bk σ' (upd H' d (.dT kvs)), fun σ' H' => H' d = some (.frz od (.dT kvs)) ∧ D.ct σ' (upd H' d (.dT kvs))⟩ σ (upd H d (.frz od (.dT kvs)))) : tLock t D σ H := ⟨d, _, h, trivial, q⟩
theorem lcK (h : td σ H fun x H1 => ∃ d o kvs, x = .ref d ∧ H1 d = some (.frz o (.dT kvs)) ∧ ∀ D, H1 D = none → LoopC (Itkt d o kvs) g tt te vs σ D (fun H => Q (.ref D) H) (upd H1 D (.lst []))) (mono : ∀ {R R' : V → Hp → Prop}, (∀ x H, R x H → R' x H) → td σ H R → td σ H R') : tLc (iKeys td) g tt te vs σ H Q :=
  mono (fun x H1 ⟨d, o, kvs, e, h1, h2⟩ => ⟨d, o, e, .inr ⟨kvs, h1, h2⟩⟩) h
theorem lcKV {i : Nat} (hv : σ[i]? = some (some (.ref d))) (hd : H d = some (.frz o (.dT kvs))) (h : ∀ D, H D = none → LoopC (Itkt d o kvs) g tt te vs σ D (fun H => Q (.ref D) H) (upd H D (.lst []))) : tLc (iKeys (tVar i)) g tt te vs σ H Q :=
  ⟨.ref d, hv, d, o, rfl, .inr ⟨kvs, hd, h⟩⟩
theorem forKV {i : Nat} (hv : σ[i]? = some (some (.ref d))) (hd : H d = some (.frz o (.dT kvs))) (h : Loop (Itkt d o kvs) g tb D σ H) : tFor (iKeys (tVar i)) g tb D σ H := ⟨.ref d, hv, d, o, rfl, .inr ⟨kvs, hd, h⟩⟩
theorem loopCKT {D : Addr} {Qd : Hp → Prop} (Pv : Nat → Hp → Prop) (h0 : Pv 0 H) (hl : ∀ i H, i ≤ kvs.length → Pv i H → H d = some (.frz o (.dT kvs)))
    (hs : ∀ i k v q H, kvs[i]? = some (k, v) → Pv i H → H q = some (.tup (k.map kV)) → g (.ref q) (wipe σ vs) H fun σ2 H2 => wipe σ2 vs = wipe σ vs ∧ tt σ2 H2 fun b H3 =>
      if b = true then te σ2 H3 fun y H4 => ∃ acc, H4 D = some (.lst acc) ∧ acc.length < sizeLine ∧ Pv (i + 1) (upd H4 D (.lst (acc ++ [y]))) else Pv (i + 1) H3) (hd : ∀ H, Pv kvs.length H → Qd H) : LoopC (Itkt d o kvs) g tt te vs σ D Qd H := by
  refine ⟨fun i m H => m = kvs.length - i ∧ i ≤ kvs.length ∧ Pv i H, ⟨kvs.length, by simp, Nat.zero_le _, h0⟩, ?_⟩
  rintro i m H ⟨rfl, hi, p⟩
  have q := hl i H hi p
  by_cases hlt : i < kvs.length
  · refine .inr ⟨⟨q, hlt⟩, Pv (i + 1), fun H' p' => ⟨kvs.length - (i + 1), by omega, rfl, hlt, p'⟩, fun x H' y => ?_⟩
    obtain ⟨rfl, k, v, q, ek, rfl, hq⟩ := y
    exact hs i k v q _ ek p hq
  · have e : i = kvs.length := by omega
    subst e
    exact .inl ⟨⟨q, Nat.le_refl _⟩, hd H p⟩
theorem loopKT (Pv : Nat → L2.St → Hp → Prop) (h0 : Pv 0 σ H) (hl : ∀ i σ H, i ≤ kvs.length → Pv i σ H → H d = some (.frz o (.dT kvs)))
    (hs : ∀ i k v q σ H, kvs[i]? = some (k, v) → Pv i σ H → H q = some (.tup (k.map kV)) → g (.ref q) σ H fun σ2 H2 => tb { D with nx := Pv (i + 1), ct := Pv (i + 1), bk := D.nx } σ2 H2) (hd : ∀ σ H, Pv kvs.length σ H → D.nx σ H) : Loop (Itkt d o kvs) g tb D σ H := by
  refine ⟨fun i m σ H => m = kvs.length - i ∧ i ≤ kvs.length ∧ Pv i σ H, ⟨kvs.length, by simp, Nat.zero_le _, h0⟩, ?_⟩
  rintro i m σ H ⟨rfl, hi, p⟩
  have q := hl i σ H hi p
  by_cases hlt : i < kvs.length
  · refine .inr ⟨⟨q, hlt⟩, Pv (i + 1), fun σ' H' p' => ⟨kvs.length - (i + 1), by omega, rfl, hlt, p'⟩, fun x H' y => ?_⟩
    obtain ⟨rfl, k, v, q, ek, rfl, hq⟩ := y
    exact hs i k v q _ _ ek p hq
  · have e : i = kvs.length := by omega
    subst e
    exact .inl ⟨⟨q, Nat.le_refl _⟩, hd σ H p⟩
end
end Wtc

/-! What is reached, beside a growing dict. -/
namespace Wfa
open PySem PySem.Spec PyProof.Rows L2 Wp Wq Wr Wpm Wpn Wth
section
variable {H H' : Hp} {kvs bs : List (List Key × V)} {tb : List (W × List W)} {d b : Addr} {Q : VK}
theorem Tab.kpD (h : Tab H kvs tb) (hd : H d = some (.dT bs)) (k : Kp d H H') : Tab H' kvs tb := Paired.mapP h fun _ _ q => by
  obtain ⟨q1, l, vs, e, h1, h2, h3⟩ := q
  refine ⟨q1, l, vs, e, k _ _ (ne_of h1 hd (by intro q; cases q)) h1, h2.keep fun t xs e => k t _ (ne_of e hd (by intro q; cases q)) e, h3⟩
theorem tkD (hd : H d = some (.dT bs)) (k : Kp d H H') : Tk H H' := fun t xs e => k t _ (ne_of e hd (by intro q; cases q)) e
theorem lstD {l : Addr} {xs : List V} (hd : H d = some (.dT bs)) (k : Kp d H H') (h : H l = some (.lst xs)) : H' l = some (.lst xs) := k _ _ (ne_of h hd (by intro q; cases q)) h
theorem ext_ {l b : Addr} {xs zs : List V} (h1 : H l = some (.lst xs)) (h2 : H b = some (.lst zs)) (hz : xs.length + zs.length ≤ sizeLine) (q : Q .non (upd H l (.lst (xs ++ zs)))) : rExtend (V.ref l) [.ref b] H Q := ⟨l, b, xs, zs, rfl, rfl, h1, h2, hz, q⟩
end
theorem flat_len {α β : Type} {g : α → List β} {c : Nat} : ∀ {l : List α}, (∀ a ∈ l, (g a).length ≤ c) → (l.flatMap g).length ≤ l.length * c
  | [], _ => by simp
  | a :: l, h => by
    rw [List.flatMap_cons, List.length_append, List.length_cons, Nat.succ_mul]
    have h1 := h a List.mem_cons_self
    have h2 := flat_len (l := l) (g := g) (c := c) fun x hx => h x (List.mem_cons_of_mem _ hx)
    omega
theorem hold_at {P : Pic} {z : W} (h : z ∈ P.things) : ∃ e, (tableM P).find? (fun e => decide (e.1 = z)) = some e ∧ holdM (tableM P) z = e.2 := by
  obtain ⟨e, h1, _⟩ := find_some (tb := tableM P) (z := z) (by rw [table_keys]; exact h)
  refine ⟨e, h1, ?_⟩
  unfold holdM
  rw [h1] <;> rfl
/-- one thing's row of things, in the heap -/
theorem Tab.at {P : Pic} {H : Hp} {kvs : List (List Key × V)} (tb : Tab H kvs (tableM P)) {z : W} (h : z ∈ P.things) : ∃ v, valV kvs (keyT z) = some v ∧ IsLs [] H v (holdM (tableM P) z) := by
  obtain ⟨e, h1, h2⟩ := hold_at h
  rcases tb.find (z := z) with ⟨e', v, q1, q2, q3⟩ | ⟨q1, _⟩
  · rw [h1] at q1
    cases q1
    rw [h2]
    exact ⟨v, q2, q3⟩
  · rw [h1] at q1
    cases q1
theorem hold_wok {P : Pic} (ok : P.Ok) {z y : W} (h : z ∈ holdM (tableM P) y) : Wok z := things_wok z (hold_thing ok h)
theorem filt_no {α : Type} {p : α → Bool} {y : α} (h : p y = false) : (some y).toList.filter p = [] := by
  show List.filter p [y] = []
  rw [List.filter_cons_of_neg (by rw [h]; exact Bool.false_ne_true), List.filter_nil]
theorem filt_yes {α : Type} {p : α → Bool} {y : α} (h : p y = true) : (some y).toList.filter p = [y] := by
  show List.filter p [y] = [y]
  rw [List.filter_cons_of_pos h, List.filter_nil]
theorem unlock {H H' : Hp} {d : Addr} {o : HO} (h : H d = some o) (k : Kp d H H') : Same H (upd H' d o) := fun a u e => by
  by_cases c : a = d
  · rw [c, h] at e
    rw [c, ← e]
    exact upd_same
  · rw [upd_ne c]
    exact k a u c e
section
variable {σ : L2.St} {H : Hp} {K : PySem.W.Frag} {te : TE}
theorem loopC2L {a : Addr} {xs : List V} {wi1 : TI} {g g1 : TG} {tt tt1 : TT} {vs vs1 : List Nat} {D : Addr} {Qd : Hp → Prop} (Pv : Nat → Hp → Prop) (h0 : Pv 0 H) (hl : ∀ i H, i ≤ xs.length → Pv i H → SqL K H a xs)
    (hs : ∀ i x H, xs[i]? = some x → Pv i H → g x (wipe σ vs) H fun σ2 H2 => wipe σ2 vs = wipe σ vs ∧ tt σ2 H2 fun b H3 =>
      if b = true then wi1 σ2 H3 (fun J1 H4 => LoopC J1 g1 tt1 te vs1 σ2 D (Pv (i + 1)) H4) else Pv (i + 1) H3) (hd : ∀ H, Pv xs.length H → Qd H) : LoopC2 (Itl K a) g tt wi1 g1 tt1 te vs vs1 σ D Qd H := by
  refine ⟨fun i m H => m = xs.length - i ∧ i ≤ xs.length ∧ Pv i H, ⟨xs.length, by simp, Nat.zero_le _, h0⟩, ?_⟩
  rintro i m H ⟨rfl, hi, p⟩
  have q := hl i H hi p
  by_cases hlt : i < xs.length
  · refine .inr ⟨⟨xs, xs[i], q, by simp [hlt]⟩, Pv (i + 1), fun H' p' => ⟨xs.length - (i + 1), by omega, rfl, hlt, p'⟩, fun x H' y => ?_⟩
    obtain ⟨e, y⟩ := y
    subst e
    exact hs i x _ (y xs q) p
  · have e : i = xs.length := by omega
    subst e
    exact .inl ⟨⟨xs, q, Nat.le_refl _⟩, hd H p⟩
theorem lc2L {Q : VK} {te2 : TE} {wi1 : TI} {g g1 : TG} {tt tt1 : TT} {vs vs1 : List Nat} (h : te2 σ H fun x H1 => ∃ a, x = .ref a ∧ (∃ xs, SqL K H1 a xs) ∧ ∀ D, H1 D = none → LoopC2 (Itl K a) g tt wi1 g1 tt1 te vs vs1 σ D (fun H => Q (.ref D) H) (upd H1 D (.lst []))) :
    tLc2 (iList K te2) g tt wi1 g1 tt1 te vs vs1 σ H Q := h
end
theorem snocB {X Y : List W} {z : W} {f : W → Bool} : ((X ++ Y).map f).map V.bl ++ [V.bl (f z)] = ((X ++ (Y ++ [z])).map f).map V.bl := by
  rw [← List.append_assoc, List.map_append (l₁ := X ++ Y), List.map_append (f := V.bl)] <;> rfl
theorem pile_rep {H : Hp} {xs : List V} {ws : List W} (p : Pile H xs ws) : ∀ k : Nat, Pile H (List.replicate k xs).flatten (List.replicate k ws).flatten
  | 0 => Pile.nil
  | k + 1 => by
    rw [List.replicate_succ, List.replicate_succ, List.flatten_cons, List.flatten_cons]
    exact Pile.app p (pile_rep p k)
theorem rep_len {α : Type} (xs : List α) : ∀ k : Nat, (List.replicate k xs).flatten.length = xs.length * k
  | 0 => by simp
  | k + 1 => by
    rw [List.replicate_succ, List.flatten_cons, List.length_append, rep_len xs k, Nat.mul_succ]
    omega
theorem rep_mem {α : Type} {xs : List α} {y : α} : ∀ {k : Nat}, y ∈ (List.replicate k xs).flatten → y ∈ xs
  | 0, h => by simp at h
  | k + 1, h => by
    rw [List.replicate_succ, List.flatten_cons] at h
    rcases List.mem_append.mp h with h | h
    · exact h
    · exact rep_mem h
end Wfa
namespace Wfa
open PySem PySem.Spec PyProof.Rows L2 Wp Wq Wr Wpm Wpn Wth
theorem keyed_pile {H : Hp} : ∀ {kvs : List (List Key × V)} {F : List W} {bs : List Addr}, Wth.Keyed kvs F → IsKeys H kvs bs → Pile H (bs.map V.ref) F
  | [], F, _, k, h => by
    cases h
    unfold Wth.Keyed at k
    have : F = [] := List.map_eq_nil_iff.mp k.symm
    rw [this]
    exact Pile.nil
  | kv :: kvs, F, _, k, h => by
    cases F with
    | nil => unfold Wth.Keyed at k; cases k
    | cons z F =>
      cases h with
      | cons r t =>
        unfold Wth.Keyed at k
        rw [List.map_cons, List.map_cons] at k
        obtain ⟨k1, k2⟩ := List.cons.inj k
        rw [k1] at r
        exact Paired.cons ⟨_, rfl, r⟩ (keyed_pile k2 t)
theorem hold_nodup {P : Pic} {z : W} : (holdM (tableM P) z).Nodup := by
  unfold holdM
  cases c : (tableM P).find? fun e => decide (e.1 = z) with
  | none => exact .nil
  | some e =>
    have m := List.mem_of_find?_eq_some c
    show e.2.Nodup
    unfold tableM at m
    rcases List.mem_append.mp m with m | m
    · obtain ⟨b, hb, rfl⟩ := List.mem_map.mp m
      exact things_nodup
    · obtain ⟨g, hg, rfl⟩ := List.mem_map.mp m
      exact things_nodup
/-- the program's turn: what is met, the last level among it -/
structure SI (P : Pic) (F N : List W) : Prop where
  nd : F.Nodup
  inT : ∀ z ∈ F, Reach (rootsM P) (holdM (tableM P)) z
  root : ∀ z ∈ rootsM P, z ∈ F
  shut : ∀ y ∈ F, y ∉ N → ∀ z ∈ holdM (tableM P) y, z ∈ F
  sub : ∀ z ∈ N, z ∈ F
theorem SI.start {P : Pic} : SI P (rootsM P) (rootsM P) := ⟨things_nodup, fun z h => .root h, fun z h => h, fun _ h n => (n h).elim, fun _ h => h⟩
theorem SI.next {P : Pic} {F N M : List W} (i : SI P F N) (nd : (F ++ M).Nodup) (inT : ∀ z ∈ F ++ M, Reach (rootsM P) (holdM (tableM P)) z) (al : ∀ y ∈ N, ∀ z ∈ holdM (tableM P) y, z ∈ F ++ M) : SI P (F ++ M) M := by
  refine ⟨nd, inT, fun z h => List.mem_append_left _ (i.root z h), fun y hy n z hz => ?_, fun z h => List.mem_append_right _ h⟩
  have yF : y ∈ F := (List.mem_append.mp hy).resolve_right n
  by_cases c : y ∈ N
  · exact al y c z hz
  · exact List.mem_append_left _ (i.shut y yF c z hz)
theorem SI.done {P : Pic} {F : List W} (i : SI P F []) : ∀ z, z ∈ F ↔ Reach (rootsM P) (holdM (tableM P)) z := by
  intro z
  constructor
  · exact i.inT z
  · intro r
    induction r with
    | root h => exact i.root _ h
    | step _ h ih => exact i.shut _ ih (fun h => nomatch h) _ h
end Wfa

/-! del of a dict with tuple keys; readings of fields and methods. -/
namespace Wcl
open PySem PySem.Spec PyProof.Rows PyProof PyProof.V PySem.W L2 L2.DX Wp Wq
def sDDelT (td ty : TE) : TS := fun D σ H => td σ H fun x H1 => ty σ H1 fun y H2 => ∃ a kvs k b, x = .ref a ∧ y = .ref b ∧ H2 a = some (.dT kvs) ∧ H2 b = some (.tup (k.map kV)) ∧ (valV kvs k).isSome = true ∧ D.nx σ (upd H2 a (.dT (dropK kvs k)))
section
variable {X : Cx} {o i e value : Expr} {pos pos' tpos : Pos} {td ty tv : TE}
theorem ps_ddelT (hu : X.A.units + 1 < cLine) (ho : PE X o td) (hi : PE X i ty) : PS X (.Delete [.Subscript o i tpos] pos) (sDDelT td ty) := by
  refine ⟨fun pins s σ H D I h => ?_⟩
  refine wpAny_Delete (wpAny_deleteEach_cons (wpAny_delete_Subscript (thn (ho.run pins s σ H _ I h) fun u s1 ⟨x, H1, I1, rx, q1⟩ => thn (hi.run pins s1 σ H1 _ I1 q1) fun iv s2 ⟨y, H2, I2, ry, a, kvs, k, b, ex, ey, ea, eb, l, q2⟩ => ?_)))
  subst ex ey
  obtain rfl : u = Value.ref a := rx
  obtain rfl : iv = Value.ref b := ry
  obtain ⟨z, hd, xs, rel, dd⟩ := dt_of I2.hok ea
  have hz : xs.length ≤ sizeLine := by rw [← Paired.length rel]; exact z
  have r := rel.val k
  obtain ⟨v0, ev⟩ : ∃ v0, valV kvs k = some v0 := by
    cases ev : valV kvs k with
    | none => rw [ev] at l; cases l
    | some v => exact ⟨v, rfl⟩
  rw [ev] at r
  obtain ⟨p, hp, rp⟩ : ∃ p, atKey xs k = some p ∧ RelV v0 p.2 := by
    cases hp : atKey xs k with
    | none => rw [hp] at r; exact (show False from r).elim
    | some p => rw [hp] at r; exact ⟨p, rfl, r⟩
  refine wpAny_delItem_heap (knd := tupleKind (mixKind X.prog X.w)) (hsz := hz) (tupleKind_room_in1 hu) (key_of I2.hok eb) hd dd hp fun h' dd' hs => ?_
  obtain ⟨o, es, ep, hq, h2, h3, h4, _, h5⟩ := dd'
  refine wpAny_deleteEach_nil ⟨σ, upd H2 a (.dT (dropK kvs k)), d_write I2 (by rw [ea]; exact True.intro) hs ⟨o, hq⟩ ⟨Nat.le_trans (dropK_le kvs k) z, hd, _, (KT_drop k rel).keeps (fun c ys ec => (by rw [upd_ne (ne_of ec ea (fun z => nomatch z))]; exact ec)), o, es, ep, hq, h2, h3, h4, h5⟩, q2⟩
end
section
variable {K : PySem.W.Frag} {σ : L2.St} {H : Hp} {Q : VK} {D : Ends} {ta tv td ty : TE} {t : TA} {f m : Str} {a C dx : Addr} {fs : List (Str × V)} {x v y : V} {sp : Sp} {dvs : List V} {E : XK}
theorem fld_ (h : ta σ H fun x H1 => ∃ a C dx fs v, x = .ref a ∧ H1 a = some (.ins C dx fs) ∧ Cls K C ∧ NoAttr K C f ∧ fs.lookup f = some v ∧ Q v H1) : tFld K ta f σ H Q := h
theorem fldR {R : V → Prop} (hH : H a = some (.ins C dx fs)) (c : Cls K C) (n : NoAttr K C f) (l : fs.lookup f = some v) (q : R v) : ∃ a' C dx fs v, V.ref a = .ref a' ∧ H a' = some (.ins C dx fs) ∧ Cls K C ∧ NoAttr K C f ∧ fs.lookup f = some v ∧ R v := ⟨a, C, dx, fs, v, rfl, hH, c, n, l, q⟩
theorem sfld_ (h : tv σ H fun y H1 => ta σ H1 fun x H2 => ∃ a C dx fs, x = .ref a ∧ H2 a = some (.ins C dx fs) ∧ Cls K C ∧ NoAttr K C f ∧ fs.length < 1000 ∧ D.nx σ (upd H2 a (.ins C dx (putF f y fs)))) : sFld K ta tv f D σ H := h
theorem sfldR {R : Hp → Prop} {fs' : List (Str × V)} (hH : H a = some (.ins C dx fs)) (c : Cls K C) (n : NoAttr K C f) (l : fs.length < 1000) (e : putF f y fs = fs') (q : R (upd H a (.ins C dx fs'))) : ∃ a' C dx fs, V.ref a = .ref a' ∧ H a' = some (.ins C dx fs) ∧ Cls K C ∧ NoAttr K C f ∧ fs.length < 1000 ∧ R (upd H a' (.ins C dx (putF f y fs))) := by
  subst e
  exact ⟨a, C, dx, fs, rfl, hH, c, n, l, q⟩
theorem pf0 : putF f v [] = [(f, v)] := rfl
theorem pf1 {r : List (Str × V)} : putF f v ((f, x) :: r) = (f, v) :: r := if_pos rfl
theorem pf2 {g : Str} {r r' : List (Str × V)} (n : g ≠ f) (h : putF f v r = r') : putF f v ((g, x) :: r) = (g, x) :: r' := by
  subst h; exact if_neg n
theorem meth_ (h : ta σ H fun x H1 => ∃ a dx fs, x = .ref a ∧ H1 a = some (.ins C dx fs) ∧ fs.lookup m = none ∧ t σ H1 fun vs H2 => sp (x :: (vs ++ dvs)) H2 Q E) : tMeth C m sp dvs E ta t σ H Q := h
theorem methR {R : Prop} (hH : H a = some (.ins C dx fs)) (l : fs.lookup m = none) (q : R) : ∃ a' dx fs, V.ref a = .ref a' ∧ H a' = some (.ins C dx fs) ∧ fs.lookup m = none ∧ R := ⟨a, dx, fs, rfl, hH, l, q⟩
theorem make_ (h : t σ H fun vs H1 => ∀ x dx, H1 x = none → H1 dx = none → dx ≠ x → sp (.ref x :: (vs ++ dvs)) (upd (upd H1 dx (.own x)) x (.ins C dx [])) (fun v H2 => v = .non ∧ Q (.ref x) H2) E) : tMake C sp dvs E t σ H Q := h
theorem ddelT_ (h : td σ H fun x H1 => ty σ H1 fun y H2 => ∃ a kvs k b, x = .ref a ∧ y = .ref b ∧ H2 a = some (.dT kvs) ∧ H2 b = some (.tup (k.map kV)) ∧ (valV kvs k).isSome = true ∧ D.nx σ (upd H2 a (.dT (dropK kvs k)))) : sDDelT td ty D σ H := h
theorem daug_ {rd : V → V → Hp → VK → Prop} (h : td σ H fun x H1 => ty σ H1 fun y H2 => ∃ a v, x = .ref a ∧ DGet H2 a y (some v) ∧ tv σ H2 fun y2 H3 => rd v y2 H3 fun z H4 => ∃ H5, DPut H4 a y z H5 ∧ D.nx σ H5) : sDAug td ty tv rd D σ H := h
theorem dpop1_ (h : td σ H fun x H1 => ∃ a, x = .ref a ∧ IsD H1 a ∧ ty σ H1 fun y H2 => ∃ kvs k v, H2 a = some (.dK kvs) ∧ y = kV k ∧ valV kvs k = some v ∧ Q v (upd H2 a (.dK (dropK kvs k)))) : tDPop1 td ty σ H Q := h
theorem dnewT_ (h : ∀ p, H p = none → Q (.ref p) (upd H p (.dT []))) : tDNewT σ H Q := h
theorem dnewK_ (h : ∀ p, H p = none → Q (.ref p) (upd H p (.dK []))) : tDNewK σ H Q := h
theorem isdT {kvs : List (List Key × V)} (h : H a = some (.dT kvs)) : IsD H a := .inr ⟨kvs, .inl h⟩
theorem isdK {kvs : List (Key × V)} (h : H a = some (.dK kvs)) : IsD H a := .inl ⟨kvs, .inl h⟩
theorem rsub_ {i j : Int} (q : Q (.int (i - j)) H) : rSub (.int i) (.int j) H Q := ⟨i, j, rfl, rfl, q⟩
end
section
variable {K : PySem.W.Frag} {σ : L2.St} {H : Hp} {Q : VK} {g : TG} {tt : TT} {te : TE} {vs : List Nat} {i : Nat} {p d C dx : Addr} {o : Obj} {f : Str} {fs : List (Str × V)}
theorem lcKF {kvs : List (List Key × V)} (hv : σ[i]? = some (some (.ref p))) (hH : H p = some (.ins C dx fs)) (c : Cls K C) (n : NoAttr K C f) (l : fs.lookup f = some (.ref d)) (hd : H d = some (.frz o (.dT kvs))) (h : ∀ D, H D = none → LoopC (Itkt d o kvs) g tt te vs σ D (fun H => Q (.ref D) H) (upd H D (.lst []))) : tLc (iKeys (tFld K (tVar i) f)) g tt te vs σ H Q :=
  ⟨_, hv, p, C, dx, fs, _, rfl, hH, c, n, l, d, o, rfl, .inr ⟨kvs, hd, h⟩⟩
end
section
variable {K : PySem.W.Frag} {σ : L2.St} {H : Hp} {Q : VK} {g : TG} {tt : TT} {tk tv : TE} {vs : List Nat} {ta : L2.TA} {a b : Addr} {xs ys : List V}
theorem dcZ (h : ta σ H fun us H1 => ∃ a b xs ys, us = [.ref a, .ref b] ∧ SqL K H1 a xs ∧ SqL K H1 b ys ∧ ∀ D, H1 D = none → Wz.LoopD (Itz K a b) g tt tk tv vs σ D (fun H => Q (.ref D) H) (upd H1 D (.dK []))) : tDc (iZip K ta) g tt tk tv vs σ H Q := h
theorem loopDZ {D : Addr} {Qd : Hp → Prop} (Pv : Nat → Hp → Prop) (el : xs.length = ys.length) (h0 : Pv 0 H) (hl : ∀ i H, i ≤ xs.length → Pv i H → SqL K H a xs ∧ SqL K H b ys)
    (hs : ∀ i x y T H, xs[i]? = some x → ys[i]? = some y → Pv i H → H T = none → g (.ref T) (wipe σ vs) (upd H T (.tup [x, y])) fun σ2 H2 => wipe σ2 vs = wipe σ vs ∧ tt σ2 H2 fun b H3 =>
      if b = true then tk σ2 H3 fun y H4 => tv σ2 H4 fun z H5 => ∃ kvs k, y = kV k ∧ H5 D = some (.dK kvs) ∧ kvs.length < sizeLine ∧ Pv (i + 1) (upd H5 D (.dK (putK kvs k z))) else Pv (i + 1) H3) (hd : ∀ H, Pv xs.length H → Qd H) : Wz.LoopD (Itz K a b) g tt tk tv vs σ D Qd H := by
  refine ⟨fun i m H => m = xs.length - i ∧ i ≤ xs.length ∧ Pv i H, ⟨xs.length, by simp, Nat.zero_le _, h0⟩, ?_⟩
  rintro i m H ⟨rfl, hi, p⟩
  obtain ⟨q1, q2⟩ := hl i H hi p
  by_cases hlt : i < xs.length
  · have hlt2 : i < ys.length := by omega
    refine .inr ⟨⟨xs, ys, xs[i], ys[i], q1, q2, List.getElem?_eq_getElem hlt, List.getElem?_eq_getElem hlt2⟩, Pv (i + 1), fun H' p' => ⟨xs.length - (i + 1), by omega, rfl, hlt, p'⟩, fun x H' y => ?_⟩
    obtain ⟨T, x1, y1, rfl, hT, rfl, e1, e2⟩ := y
    exact hs i x1 y1 T H (e1 xs q1) (e2 ys q2) p hT
  · have e : i = xs.length := by omega
    subst e
    exact .inl ⟨⟨xs, ys, q1, q2, .inl (Nat.le_refl _)⟩, hd H p⟩
end
end Wcl

/-! How often each thing stands: a tally's dicts as data. -/
namespace Wta
open PySem PySem.Spec PyProof.Rows L2 Wp Wq Wr Wpm Wth
def cn (L : List W) (z : W) : Nat := L.countP fun y => decide (y = z)
theorem cn_nil {z : W} : cn [] z = 0 := rfl
theorem cn_app {A B : List W} {z : W} : cn (A ++ B) z = cn A z + cn B z := List.countP_append
theorem cn_cons {a z : W} {B : List W} : cn (a :: B) z = cn B z + (if a = z then 1 else 0) := by
  unfold cn
  rw [List.countP_cons]
  simp
theorem cn_one {a z : W} : cn [a] z = if a = z then 1 else 0 := by rw [cn_cons, cn_nil, Nat.zero_add]
theorem cn_pos {L : List W} {z : W} : 0 < cn L z ↔ z ∈ L := by
  unfold cn
  rw [List.countP_pos_iff]
  constructor
  · rintro ⟨a, h, e⟩; rw [← of_decide_eq_true e]; exact h
  · intro h; exact ⟨z, h, decide_eq_true rfl⟩
theorem cn_zero {L : List W} {z : W} : cn L z = 0 ↔ z ∉ L := by
  rw [← cn_pos]; omega
theorem cn_perm {A B : List W} {z : W} (h : A.Perm B) : cn A z = cn B z := h.countP_eq _
/-- the places' dict -/
structure Plc (kp : List (List Key × V)) (L : List W) : Prop where
  ky : ∃ F, Keyed kp F ∧ F.Nodup ∧ ∀ z, z ∈ F ↔ (isT z = true ∧ z ∈ L)
  vl : ∀ z, isT z = true → z ∈ L → valV kp (keyT z) = some (.int (cn L z))
/-- alike for the things -/
def Like (L L' : List W) : Prop := ∀ z, isT z = true → cn L z = cn L' z
theorem Like.mem {L L' : List W} (h : Like L L') {z : W} (t : isT z = true) : z ∈ L ↔ z ∈ L' := by rw [← cn_pos, ← cn_pos, h z t]
theorem Like.refl {L : List W} : Like L L := fun _ _ => rfl
theorem Like.symm {L L' : List W} (h : Like L L') : Like L' L := fun z t => (h z t).symm
theorem Like.trans {A B C : List W} (h : Like A B) (k : Like B C) : Like A C := fun z t => (h z t).trans (k z t)
theorem Like.perm {A B : List W} (h : A.Perm B) : Like A B := fun _ _ => cn_perm h
theorem Like.app {A A' B B' : List W} (h : Like A A') (k : Like B B') : Like (A ++ B) (A' ++ B') := fun z t => by rw [cn_app, cn_app, h z t, k z t]
section
variable {kp kl : List (List Key × V)} {L L' G : List W} {z : W}
theorem Plc.like (h : Plc kp L) (e : Like L L') : Plc kp L' := by
  obtain ⟨⟨F, k, nd, m⟩, v⟩ := h
  refine ⟨⟨F, k, nd, fun z => (m z).trans ⟨fun ⟨a, b⟩ => ⟨a, (e.mem a).mp b⟩, fun ⟨a, b⟩ => ⟨a, (e.mem a).mpr b⟩⟩⟩, fun z t hz => ?_⟩
  rw [v z t ((e.mem t).mpr hz), e z t]
theorem Plc.nil : Plc [] [] := ⟨⟨[], rfl, .nil, fun z => by simp⟩, fun _ _ h => nomatch h⟩
theorem Plc.get (h : Plc kp L) (t : isT z = true) : valV kp (keyT z) = if z ∈ L then some (.int (cn L z)) else none := by
  by_cases c : z ∈ L
  · rw [if_pos c, h.vl z t c]
  · rw [if_neg c]
    obtain ⟨F, k, nd, m⟩ := h.ky
    have := k.some (z := z)
    rw [decide_eq_false fun q => c ((m z).mp q).2] at this
    exact Option.not_isSome_iff_eq_none.mp (by rw [this]; exact Bool.false_ne_true)
theorem Plc.some (h : Plc kp L) (t : isT z = true) : (valV kp (keyT z)).isSome = decide (z ∈ L) := by
  rw [h.get t]
  by_cases c : z ∈ L
  · rw [if_pos c, decide_eq_true c]; rfl
  · rw [if_neg c, decide_eq_false c]; rfl
theorem Plc.len {Z : List W} (h : Plc kp L) (k : ∀ y ∈ L, isT y = true → y ∈ Z) : kp.length ≤ Z.length := by
  obtain ⟨F, ky, nd, m⟩ := h.ky
  rw [ky.len]
  exact sub_len nd fun z hz => k z ((m z).mp hz).2 ((m z).mp hz).1
theorem Plc.more (h : Plc kp L) (t : isT z = true) : Plc (putK kp (keyT z) (.int (cn L z + 1))) (L ++ [z]) := by
  obtain ⟨⟨F, k, nd, m⟩, v⟩ := h
  refine ⟨?_, fun y ty hy => ?_⟩
  · by_cases c : z ∈ F
    · refine ⟨F, k.put2 c _, nd, fun y => ?_⟩
      rw [m y, List.mem_append, List.mem_singleton]
      constructor
      · rintro ⟨a, b⟩; exact ⟨a, .inl b⟩
      · rintro ⟨a, b | b⟩
        · exact ⟨a, b⟩
        · subst b; exact (m _).mp c
    · refine ⟨F ++ [z], k.put c _, List.nodup_append.mpr ⟨nd, by simp, fun a ha b hb e => c (by rw [List.mem_singleton] at hb; rw [← hb, ← e]; exact ha)⟩, fun y => ?_⟩
      rw [List.mem_append, m y, List.mem_singleton, List.mem_append, List.mem_singleton]
      constructor
      · rintro (⟨a, b⟩ | b)
        · exact ⟨a, .inl b⟩
        · subst b; exact ⟨t, .inr rfl⟩
      · rintro ⟨a, b | b⟩
        · exact .inl ⟨a, b⟩
        · exact .inr b
  · rw [valV_put, cn_app, cn_one]
    by_cases e : y = z
    · subst e
      rw [if_pos rfl, if_pos rfl]
      rfl
    · rw [if_neg fun q => e (keyT_inj q), if_neg fun q => e q.symm, Nat.add_zero]
      refine v y ty ?_
      rcases List.mem_append.mp hy with hy | hy
      · exact hy
      · exact absurd (List.mem_singleton.mp hy) e
theorem Plc.skip (h : Plc kp L) (t : isT z = false) : Plc kp (L ++ [z]) := h.like fun y ty => by
  rw [cn_app, cn_one, if_neg, Nat.add_zero]
  rintro rfl
  rw [t] at ty; cases ty
theorem valV_drop {kvs : List (List Key × V)} {k j : List Key} (h : j ≠ k) : valV (dropK kvs k) j = valV kvs j := by
  induction kvs with
  | nil => rfl
  | cons kv r ih =>
    obtain ⟨a, b⟩ := kv
    unfold dropK at ih ⊢
    by_cases c : a = k
    · rw [List.filter_cons_of_neg (by simp [c]), ih, valV_neg (fun e => h (e.symm.trans c))]
    · rw [List.filter_cons_of_pos (by simp [c])]
      by_cases e : a = j
      · rw [valV_pos e, valV_pos e]
      · rw [valV_neg e, valV_neg e, ih]
theorem Keyed.drop {kvs : List (List Key × V)} {F : List W} (h : Keyed kvs F) (z : W) : Keyed (dropK kvs (keyT z)) (F.filter fun y => decide (y ≠ z)) := by
  unfold Wth.Keyed dropK at *
  induction kvs generalizing F with
  | nil => cases F with
    | nil => rfl
    | cons _ _ => cases h
  | cons kv r ih =>
    cases F with
    | nil => cases h
    | cons y F =>
      rw [List.map_cons, List.map_cons] at h
      obtain ⟨h1, h2⟩ := List.cons.inj h
      by_cases c : y = z
      · subst c
        rw [List.filter_cons_of_neg (by simp [h1]), List.filter_cons_of_neg (by simp)]
        exact ih h2
      · rw [List.filter_cons_of_pos (by simp only [h1]; exact decide_eq_true fun e => c (keyT_inj e)), List.filter_cons_of_pos (by simp [c]), List.map_cons, List.map_cons, h1, ih h2]
/-- one place less, others left -/
theorem Plc.less1 (h : Plc kp (L' ++ [z])) (t : isT z = true) (n : z ∈ L') : Plc (putK kp (keyT z) (.int (cn L' z))) L' := by
  obtain ⟨⟨F, k, nd, m⟩, v⟩ := h
  refine ⟨⟨F, k.put2 ((m z).mpr ⟨t, by simp⟩) _, nd, fun y => ?_⟩, fun y ty hy => ?_⟩
  · rw [m y, List.mem_append, List.mem_singleton]
    constructor
    · rintro ⟨a, b | b⟩
      · exact ⟨a, b⟩
      · subst b; exact ⟨a, n⟩
    · rintro ⟨a, b⟩; exact ⟨a, .inl b⟩
  · rw [valV_put]
    by_cases e : y = z
    · subst e; rw [if_pos rfl]
    · rw [if_neg fun q => e (keyT_inj q), v y ty (List.mem_append_left _ hy), cn_app, cn_one, if_neg fun q => e q.symm, Nat.add_zero]
theorem Plc.less0 {x : V} (h : Plc kp (L' ++ [z])) (t : isT z = true) (n : z ∉ L') : Plc (dropK (putK kp (keyT z) x) (keyT z)) L' := by
  obtain ⟨⟨F, k, nd, m⟩, v⟩ := h
  refine ⟨⟨_, Keyed.drop (k.put2 ((m z).mpr ⟨t, by simp⟩) _) z, nd.filter _, fun y => ?_⟩, fun y ty hy => ?_⟩
  · rw [List.mem_filter, m y, List.mem_append, List.mem_singleton, decide_eq_true_eq]
    constructor
    · rintro ⟨⟨a, b | b⟩, c⟩
      · exact ⟨a, b⟩
      · exact absurd b c
    · rintro ⟨a, b⟩
      refine ⟨⟨a, .inl b⟩, fun e => n ?_⟩
      rw [← e]; exact b
  · have e : y ≠ z := fun e => n (by rw [← e]; exact hy)
    rw [valV_drop fun q => e (keyT_inj q), valV_put, if_neg fun q => e (keyT_inj q), v y ty (List.mem_append_left _ hy), cn_app, cn_one, if_neg fun q => e q.symm, Nat.add_zero]
end
/-! ### a tally in the heap -/
structure TAd where
  ta : Addr
  dta : Addr
  pc : Addr
  ls : Addr
/-- the tally: the standing things L, the loosened ones G, all of them in Z -/
structure Tl (o : Addr) (H : Hp) (A : TAd) (L G Z : List W) : Prop where
  hi : H A.ta = some (.ins o A.dta [("places", .ref A.pc), ("loose", .ref A.ls)])
  hp : ∃ kp, H A.pc = some (.dT kp) ∧ Plc kp L
  hl : ∃ kl, H A.ls = some (.dT kl) ∧ Keyed kl G
  nd : G.Nodup
  ne : A.pc ≠ A.ls
  zs : Z.length ≤ 1000000
  lz : ∀ y ∈ L, isT y = true → y ∈ Z
  gz : ∀ y ∈ G, y ∈ Z
  gt : ∀ y ∈ G, isT y = true
section
variable {o : Addr} {H H' : Hp} {A : TAd} {L L' G Z Z' : List W} {S : List Addr}
theorem Tl.keep (h : Tl o H A L G Z) (k : Ks S H H') (n1 : A.ta ∉ S) (n2 : A.pc ∉ S) (n3 : A.ls ∉ S) : Tl o H' A L G Z := by
  obtain ⟨a, ⟨kp, b, b2⟩, ⟨kl, c, c2⟩, d, e, f, g, i, j⟩ := h
  exact ⟨k.keep _ _ n1 a, ⟨kp, k.keep _ _ n2 b, b2⟩, ⟨kl, k.keep _ _ n3 c, c2⟩, d, e, f, g, i, j⟩
theorem Tl.same (h : Tl o H A L G Z) (s : Same H H') : Tl o H' A L G Z := h.keep (S := []) (Ks.same s) (by simp) (by simp) (by simp)
theorem Tl.like (h : Tl o H A L G Z) (e : Like L L') : Tl o H A L' G Z := by
  obtain ⟨a, ⟨kp, b, b2⟩, c, d, i, f, g, j, m⟩ := h
  refine ⟨a, ⟨kp, b, b2.like e⟩, c, d, i, f, fun y hy t => g y ((e.mem t).mpr hy) t, j, m⟩
theorem Tl.room (h : Tl o H A L G Z) (zs : Z'.length ≤ 1000000) (zz : ∀ y ∈ Z, y ∈ Z') : Tl o H A L G Z' := by
  obtain ⟨a, b, c, d, i, f, g, j, m⟩ := h
  exact ⟨a, b, c, d, i, zs, fun y hy t => zz y (g y hy t), fun y hy => zz y (j y hy), m⟩
theorem Tl.ne1 (h : Tl o H A L G Z) : A.ta ≠ A.pc ∧ A.ta ≠ A.ls := by
  obtain ⟨a, ⟨kp, b, _⟩, ⟨kl, c, _⟩, _⟩ := h
  exact ⟨ne_of a b (fun q => nomatch q), ne_of a c (fun q => nomatch q)⟩
end
/-- xs[-1 - k] -/
theorem atI_back {xs : List V} {v : V} {k n : Nat} (h : xs[n]? = some v) (e : n + 1 + k = xs.length) : atI xs (-1 - (k : Int)) = some v := by
  have h1 : ixN xs.length (-1 - (k : Int)) = some n := by
    unfold ixN
    rw [if_neg (by omega), if_pos (by omega)]
    congr 1
    omega
  unfold atI
  rw [h1]
  exact h
theorem seq_back {n m k : Nat} (h : n + 1 + k = m) : seqIndex? (-1 - (k : Int)) m = some n := by
  unfold seqIndex?
  rw [if_pos (show -1 - (k : Int) < 0 by omega)]
  show (if (decide (0 ≤ -1 - (k : Int) + m) && decide (-1 - (k : Int) + m < m)) = true then some (-1 - (k : Int) + m).toNat else none) = _
  rw [if_pos (by rw [Bool.and_eq_true, decide_eq_true_eq, decide_eq_true_eq]; omega)]
  congr 1; omega
theorem pair_erase {H : Hp} {vs : List V} {ws : List W} (h : Pile H vs ws) (n : Nat) : Pile H (vs.eraseIdx n) (ws.eraseIdx n) := by
  unfold Pile at *
  induction h generalizing n with
  | nil => exact .nil
  | cons r t ih => cases n with
    | zero => exact t
    | succ n => exact .cons r (ih n)
theorem erase_perm {xs : List W} {z : W} : ∀ {n : Nat}, xs[n]? = some z → xs.Perm (z :: xs.eraseIdx n) := by
  induction xs with
  | nil => intro n h; simp at h
  | cons a xs ih =>
    intro n h
    cases n with
    | zero => rw [List.getElem?_cons_zero, Option.some.injEq] at h; subst h; exact List.Perm.refl _
    | succ n =>
      rw [List.getElem?_cons_succ] at h
      exact ((ih h).cons a).trans (List.Perm.swap z a _)
end Wta

/-! Whole numbers as texts. -/
namespace Wt
open PySem PySem.Spec PyProof.Rows L2 Wp Wq TL
def numT (i : Int) : Str := Str.ofString (toString i)
theorem numT_nat (m : Nat) : (numT (m : Int)).cps.toList = numL m := tl_num m
theorem numL_head : ∀ (m : Nat) (r : List Nat), numL m = 48 :: r → m = 0 ∧ r = [] := by
  intro m
  induction m using Nat.strongRecOn with
  | _ m ih =>
    intro r h
    by_cases c : m < 10
    · rw [numL_lt c] at h
      have h1 := (List.cons.inj h).1
      have h2 := (List.cons.inj h).2
      exact ⟨by omega, h2.symm⟩
    · rw [numL_step (by omega)] at h
      cases e : numL (m / 10) with
      | nil => exact absurd e (numL_ne _)
      | cons x s =>
        rw [e, List.cons_append] at h
        have hx := (List.cons.inj h).1
        subst hx
        have := (ih (m / 10) (by omega) s e).1
        omega
theorem numT_len {m : Nat} (h : m < 10 ^ 60) : 1 ≤ (numT (m : Int)).length ∧ (numT (m : Int)).length ≤ 60 := by
  have e : (numT (m : Int)).length = (numL m).length := by
    rw [← numT_nat]
    show (numT (m : Int)).cps.size = _
    rw [Array.length_toList]
  rw [e]
  refine ⟨?_, numL_len (by decide) h⟩
  cases q : numL m with
  | nil => exact absurd q (numL_ne m)
  | cons x s => exact Nat.succ_le_succ (Nat.zero_le _)
theorem int_back {m : Nat} (h : m < 10 ^ 60) : intText? (numT (m : Int)) = some (m : Int) := by
  have hl := numT_len h
  have z := PySem.intText_digits (x := numT (m : Int)) (by rw [numT_nat]; exact numL_digits m) (by rw [numT_nat]; exact numL_ne m) (by omega)
  rw [z, numT_nat, numL_val]
theorem numT_neg {m : Nat} (h : 0 < m) : tl (numT (-(m : Int))) = 45 :: numL m := by
  unfold numT
  rw [PyProof.Rows.toString_neg (by omega), show (0 - -(m : Int)) = (m : Int) by omega]
  show (PySem.Str.ofString ("-" ++ toString (m : Int))).cps.toList = _
  rw [PyProof.Rows.signs_ofString, String.toList_append, List.map_append, ← PyProof.Rows.signs_ofString (toString (m : Int))]
  rw [show List.map Char.toNat "-".toList = [45] by decide +kernel]
  exact congrArg (fun l => 45 :: l) (tl_num m)
theorem emp_app (x : Str) : Str.empty ++ x = x := ext_tl (by rw [tl_append] <;> rfl)
theorem numT_any {i : Int} (h : i.natAbs < 10 ^ 60) : (numT i).length ≤ 61 := by
  by_cases c : 0 ≤ i
  · have := (numT_len (m := i.natAbs) h).2
    rw [show ((i.natAbs : Nat) : Int) = i by omega] at this
    omega
  · rw [len_tl, show i = -((i.natAbs : Nat) : Int) by omega, numT_neg (by omega)]
    have := numL_len (k := 60) (by decide) h
    show (numL _).length + 1 ≤ 61
    omega
section
variable {σ : L2.St} {H : Hp} {Q : VK} {R : Str → Hp → Prop} {te t : TE} {ts : List TE} {acc : Str} {K : PySem.W.Frag} {w : World}
theorem js_nil (h : R acc H) : tJs [] acc σ H R := h
theorem js_cons (h : t σ H fun x H1 => ∃ y : Str, x = .str y ∧ (acc ++ y).length ≤ sizeLine ∧ tJs ts (acc ++ y) σ H1 R) : tJs (t :: ts) acc σ H R := h
theorem fmt_ (h : te σ H fun x H1 => (∃ y : Str, x = .str y ∧ y.length ≤ sizeLine ∧ Q (.str y) H1) ∨ ∃ i : Int, x = .int i ∧ i.natAbs.log2 < 1920 ∧ Q (.str (toString i)) H1) : tFmt te σ H Q := h
end
section
variable {σ : L2.St} {H : Hp} {Q : VK} {te ta to : TE} {r : V → List V → Hp → VK → Prop}
theorem m1 (h : to σ H fun x H1 => (∃ a, x = .str a) ∧ te σ H1 fun y H2 => r x [y] H2 Q) : tM1 r to te σ H Q := h
theorem m0 (h : to σ H fun x H1 => (∃ a, x = .str a) ∧ r x [] H1 Q) : tM0 r to σ H Q := h
theorem lcS {g : TG} {tt : TT} {vs : List Nat} (h : ta σ H fun x H1 => ∃ z, x = .str z ∧ ∀ D, H1 D = none → LoopC (Its z) g tt te vs σ D (fun H => Q (.ref D) H) (upd H1 D (.lst []))) : tLc (iStr ta) g tt te vs σ H Q := h
theorem loopCS {z : Str} {g : TG} {tt : TT} {vs : List Nat} {D : Addr} {Qd : Hp → Prop} (Pv : Nat → Hp → Prop) (h0 : Pv 0 H)
    (hs : ∀ i c H, z.cps[i]? = some c → Pv i H → g (.str ⟨#[c]⟩) (wipe σ vs) H fun σ2 H2 => wipe σ2 vs = wipe σ vs ∧ tt σ2 H2 fun b H3 =>
      if b = true then te σ2 H3 fun y H4 => ∃ acc, H4 D = some (.lst acc) ∧ acc.length < sizeLine ∧ Pv (i + 1) (upd H4 D (.lst (acc ++ [y]))) else Pv (i + 1) H3) (hd : ∀ H, Pv z.cps.size H → Qd H) : LoopC (Its z) g tt te vs σ D Qd H := by
  refine ⟨fun i m H => m = z.cps.size - i ∧ i ≤ z.cps.size ∧ Pv i H, ⟨z.cps.size, by simp, Nat.zero_le _, h0⟩, ?_⟩
  rintro i m H ⟨rfl, hi, p⟩
  by_cases hlt : i < z.cps.size
  · refine .inr ⟨hlt, Pv (i + 1), fun H' p' => ⟨z.cps.size - (i + 1), by omega, rfl, hlt, p'⟩, fun x H' y => ?_⟩
    obtain ⟨e, c, hc, ex⟩ := y
    subst e
    subst ex
    exact hs i c _ hc p
  · have e : i = z.cps.size := by omega
    subst e
    exact .inl ⟨Nat.le_refl _, hd H p⟩
end
theorem log_ok {n : Nat} (h : n < 10 ^ 60) : n.log2 < 1920 := by
  by_cases e : n = 0
  · subst e; decide
  · rw [Nat.log2_lt e]
    exact Nat.lt_of_lt_of_le h (by decide)
end Wt

namespace K28
open PySem PySem.Spec PyProof.Rows L2 Wp Wq Wr Wpm Wth Wta
/-! ### the text by places -/
def topS (i : Nat) : Stmt := PySem.Challenge.pw_manygoings_k28_pegs.main.body.getD i (.Pass ⟨0, 0, 0, 0⟩)
abbrev s_is_number : Stmt := topS 9
abbrev s_is_worth : Stmt := topS 10
abbrev s_is_thing : Stmt := topS 11
abbrev s_is_name : Stmt := topS 15
abbrev s_is_count : Stmt := topS 16
abbrev s_Tally_init : Stmt := inClass (topS 18) 0
abbrev s_Tally_more : Stmt := inClass (topS 18) 1
abbrev s_Tally_less : Stmt := inClass (topS 18) 2
abbrev s_Tally_loosened : Stmt := inClass (topS 18) 3
abbrev s_WholePiles_init : Stmt := inClass (topS 20) 0
abbrev s_WholePiles_lay : Stmt := inClass (topS 20) 1
abbrev s_WholePiles_height : Stmt := inClass (topS 20) 2
abbrev s_WholePiles_pile : Stmt := inClass (topS 20) 3
abbrev s_WholePiles_put : Stmt := inClass (topS 20) 8
abbrev s_WholePiles_take : Stmt := inClass (topS 20) 9
abbrev s_WholePiles_keep : Stmt := inClass (topS 20) 10
abbrev s_WholePiles_release : Stmt := inClass (topS 20) 12
abbrev s_check_name : Stmt := topS 22
abbrev s_check_place : Stmt := topS 23
abbrev s_least_free : Stmt := topS 24
abbrev s_Copies_init : Stmt := inClass (topS 25) 0
abbrev s_Copies_begin : Stmt := inClass (topS 25) 1
abbrev s_Copies_lay_piles : Stmt := inClass (topS 25) 2
abbrev s_Copies_has : Stmt := inClass (topS 25) 3
abbrev s_Copies_check_worth : Stmt := inClass (topS 25) 4
abbrev s_Copies_check_box : Stmt := inClass (topS 25) 5
abbrev s_Copies_check_peg : Stmt := inClass (topS 25) 7
abbrev s_Copies_drop : Stmt := inClass (topS 25) 8
abbrev s_Copies_settle : Stmt := inClass (topS 25) 9
abbrev s_Copies_put : Stmt := inClass (topS 25) 10
abbrev s_Copies_take : Stmt := inClass (topS 25) 11
abbrev s_Copies_height : Stmt := inClass (topS 25) 14
abbrev s_Copies_pile : Stmt := inClass (topS 25) 15
abbrev s_Copies_keep : Stmt := inClass (topS 25) 16
abbrev s_Copies_box : Stmt := inClass (topS 25) 18
abbrev s_Copies_held : Stmt := inClass (topS 25) 19
abbrev s_Copies_peg : Stmt := inClass (topS 25) 21
abbrev s_Copies_pegged : Stmt := inClass (topS 25) 22
abbrev s_Copies_unpeg : Stmt := inClass (topS 25) 23
abbrev s_Copies_pegs : Stmt := inClass (topS 25) 24
abbrev s_cell_at : Stmt := topS 27
abbrev s_bag : Stmt := topS 28
abbrev s_draw : Stmt := topS 29
abbrev s_plain : Stmt := topS 30
abbrev s_whole : Stmt := topS 31
abbrev s_same : Stmt := topS 32
abbrev s_same_pile : Stmt := topS 33
abbrev s_letters : Stmt := topS 34
abbrev s_names : Stmt := topS 35
abbrev s_deed : Stmt := topS 36
abbrev s_looked : Stmt := topS 37
abbrev s_law : Stmt := topS 38
theorem sc_is_number : FnScope ["thing"] ["thing"] (defScope s_is_number) := ⟨rfl, rfl, rfl, by decide +kernel, rfl, by decide +kernel, by decide +kernel⟩
theorem sc_is_worth : FnScope ["thing", "word", "number"] ["thing"] (defScope s_is_worth) := ⟨rfl, rfl, rfl, by decide +kernel, rfl, by decide +kernel, by decide +kernel⟩
theorem sc_is_thing : FnScope ["worth"] ["worth"] (defScope s_is_thing) := ⟨rfl, rfl, rfl, by decide +kernel, rfl, by decide +kernel, by decide +kernel⟩
theorem sc_is_name : FnScope ["thing", "sign"] ["thing"] (defScope s_is_name) := ⟨rfl, rfl, rfl, by decide +kernel, rfl, by decide +kernel, by decide +kernel⟩
theorem sc_is_count : FnScope ["thing"] ["thing"] (defScope s_is_count) := ⟨rfl, rfl, rfl, by decide +kernel, rfl, by decide +kernel, by decide +kernel⟩
theorem sc_Tally_init : FnScope ["self"] ["self"] (defScope s_Tally_init) := ⟨rfl, rfl, rfl, by decide +kernel, rfl, by decide +kernel, by decide +kernel⟩
theorem sc_Tally_more : FnScope ["self", "worths", "worth"] ["self", "worths"] (defScope s_Tally_more) := ⟨rfl, rfl, rfl, by decide +kernel, rfl, by decide +kernel, by decide +kernel⟩
theorem sc_Tally_less : FnScope ["self", "worths", "worth"] ["self", "worths"] (defScope s_Tally_less) := ⟨rfl, rfl, rfl, by decide +kernel, rfl, by decide +kernel, by decide +kernel⟩
theorem sc_Tally_loosened : FnScope ["self", "found", "thing"] ["self"] (defScope s_Tally_loosened) := ⟨rfl, rfl, rfl, by decide +kernel, rfl, by decide +kernel, by decide +kernel⟩
theorem sc_WholePiles_init : FnScope ["self"] ["self"] (defScope s_WholePiles_init) := ⟨rfl, rfl, rfl, by decide +kernel, rfl, by decide +kernel, by decide +kernel⟩
theorem sc_WholePiles_lay : FnScope ["self", "piles", "pile"] ["self", "piles"] (defScope s_WholePiles_lay) := ⟨rfl, rfl, rfl, by decide +kernel, rfl, by decide +kernel, by decide +kernel⟩
theorem sc_WholePiles_height : FnScope ["self"] ["self"] (defScope s_WholePiles_height) := ⟨rfl, rfl, rfl, by decide +kernel, rfl, by decide +kernel, by decide +kernel⟩
theorem sc_WholePiles_pile : FnScope ["self"] ["self"] (defScope s_WholePiles_pile) := ⟨rfl, rfl, rfl, by decide +kernel, rfl, by decide +kernel, by decide +kernel⟩
theorem sc_WholePiles_put : FnScope ["self", "worth"] ["self", "worth"] (defScope s_WholePiles_put) := ⟨rfl, rfl, rfl, by decide +kernel, rfl, by decide +kernel, by decide +kernel⟩
theorem sc_WholePiles_take : FnScope ["self", "k", "worth"] ["self", "k"] (defScope s_WholePiles_take) := ⟨rfl, rfl, rfl, by decide +kernel, rfl, by decide +kernel, by decide +kernel⟩
theorem sc_WholePiles_keep : FnScope ["self"] ["self"] (defScope s_WholePiles_keep) := ⟨rfl, rfl, rfl, by decide +kernel, rfl, by decide +kernel, by decide +kernel⟩
theorem sc_WholePiles_release : FnScope ["self", "kept"] ["self", "kept"] (defScope s_WholePiles_release) := ⟨rfl, rfl, rfl, by decide +kernel, rfl, by decide +kernel, by decide +kernel⟩
theorem sc_check_name : FnScope ["name"] ["name"] (defScope s_check_name) := ⟨rfl, rfl, rfl, by decide +kernel, rfl, by decide +kernel, by decide +kernel⟩
theorem sc_check_place : FnScope ["k", "many"] ["k", "many"] (defScope s_check_place) := ⟨rfl, rfl, rfl, by decide +kernel, rfl, by decide +kernel, by decide +kernel⟩
theorem sc_least_free : FnScope ["table", "number"] ["table"] (defScope s_least_free) := ⟨rfl, rfl, rfl, by decide +kernel, rfl, by decide +kernel, by decide +kernel⟩
theorem sc_Copies_init : FnScope ["self"] ["self"] (defScope s_Copies_init) := ⟨rfl, rfl, rfl, by decide +kernel, rfl, by decide +kernel, by decide +kernel⟩
theorem sc_Copies_begin : FnScope ["self", "piles", "picture", "pile", "pegs", "goings", "boxes", "name", "worth", "b", "row"] ["self", "piles", "picture"] (defScope s_Copies_begin) := ⟨rfl, rfl, rfl, by decide +kernel, rfl, by decide +kernel, by decide +kernel⟩
theorem sc_Copies_lay_piles : FnScope ["self", "pile", "goings", "kept", "row", "one"] ["self", "pile", "goings"] (defScope s_Copies_lay_piles) := ⟨rfl, rfl, rfl, by decide +kernel, rfl, by decide +kernel, by decide +kernel⟩
theorem sc_Copies_has : FnScope ["self", "thing", "word", "number"] ["self", "thing"] (defScope s_Copies_has) := ⟨rfl, rfl, rfl, by decide +kernel, rfl, by decide +kernel, by decide +kernel⟩
theorem sc_Copies_check_worth : FnScope ["self", "worth"] ["self", "worth"] (defScope s_Copies_check_worth) := ⟨rfl, rfl, rfl, by decide +kernel, rfl, by decide +kernel, by decide +kernel⟩
theorem sc_Copies_check_box : FnScope ["self", "b"] ["self", "b"] (defScope s_Copies_check_box) := ⟨rfl, rfl, rfl, by decide +kernel, rfl, by decide +kernel, by decide +kernel⟩
theorem sc_Copies_check_peg : FnScope ["self", "name"] ["self", "name"] (defScope s_Copies_check_peg) := ⟨rfl, rfl, rfl, by decide +kernel, rfl, by decide +kernel, by decide +kernel⟩
theorem sc_Copies_drop : FnScope ["self", "thing", "word", "number"] ["self", "thing"] (defScope s_Copies_drop) := ⟨rfl, rfl, rfl, by decide +kernel, rfl, by decide +kernel, by decide +kernel⟩
theorem sc_Copies_settle : FnScope ["self", "loose", "thing"] ["self"] (defScope s_Copies_settle) := ⟨rfl, rfl, rfl, by decide +kernel, rfl, by decide +kernel, by decide +kernel⟩
theorem sc_Copies_put : FnScope ["self", "worth"] ["self", "worth"] (defScope s_Copies_put) := ⟨rfl, rfl, rfl, by decide +kernel, rfl, by decide +kernel, by decide +kernel⟩
theorem sc_Copies_take : FnScope ["self", "k", "worth"] ["self", "k"] (defScope s_Copies_take) := ⟨rfl, rfl, rfl, by decide +kernel, rfl, by decide +kernel, by decide +kernel⟩
theorem sc_Copies_height : FnScope ["self"] ["self"] (defScope s_Copies_height) := ⟨rfl, rfl, rfl, by decide +kernel, rfl, by decide +kernel, by decide +kernel⟩
theorem sc_Copies_pile : FnScope ["self"] ["self"] (defScope s_Copies_pile) := ⟨rfl, rfl, rfl, by decide +kernel, rfl, by decide +kernel, by decide +kernel⟩
theorem sc_Copies_keep : FnScope ["self", "place", "g"] ["self", "place"] (defScope s_Copies_keep) := ⟨rfl, rfl, rfl, by decide +kernel, rfl, by decide +kernel, by decide +kernel⟩
theorem sc_Copies_box : FnScope ["self", "b", "worth"] ["self"] (defScope s_Copies_box) := ⟨rfl, rfl, rfl, by decide +kernel, rfl, by decide +kernel, by decide +kernel⟩
theorem sc_Copies_held : FnScope ["self", "b"] ["self", "b"] (defScope s_Copies_held) := ⟨rfl, rfl, rfl, by decide +kernel, rfl, by decide +kernel, by decide +kernel⟩
theorem sc_Copies_peg : FnScope ["self", "name", "worth"] ["self", "name", "worth"] (defScope s_Copies_peg) := ⟨rfl, rfl, rfl, by decide +kernel, rfl, by decide +kernel, by decide +kernel⟩
theorem sc_Copies_pegged : FnScope ["self", "name"] ["self", "name"] (defScope s_Copies_pegged) := ⟨rfl, rfl, rfl, by decide +kernel, rfl, by decide +kernel, by decide +kernel⟩
theorem sc_Copies_unpeg : FnScope ["self", "name"] ["self", "name"] (defScope s_Copies_unpeg) := ⟨rfl, rfl, rfl, by decide +kernel, rfl, by decide +kernel, by decide +kernel⟩
theorem sc_Copies_pegs : FnScope ["self"] ["self"] (defScope s_Copies_pegs) := ⟨rfl, rfl, rfl, by decide +kernel, rfl, by decide +kernel, by decide +kernel⟩
theorem sc_cell_at : FnScope ["script", "k"] ["script", "k"] (defScope s_cell_at) := ⟨rfl, rfl, rfl, by decide +kernel, rfl, by decide +kernel, by decide +kernel⟩
theorem sc_bag : FnScope ["cell", "place"] ["cell", "place"] (defScope s_bag) := ⟨rfl, rfl, rfl, by decide +kernel, rfl, by decide +kernel, by decide +kernel⟩
theorem sc_draw : FnScope ["bag", "many", "found", "mixed"] ["bag", "many"] (defScope s_draw) := ⟨rfl, rfl, rfl, by decide +kernel, rfl, by decide +kernel, by decide +kernel⟩
theorem sc_plain : FnScope ["bag", "way", "number", "k"] ["bag"] (defScope s_plain) := ⟨rfl, rfl, rfl, by decide +kernel, rfl, by decide +kernel, by decide +kernel⟩
theorem sc_whole : FnScope ["found"] ["found"] (defScope s_whole) := ⟨rfl, rfl, rfl, by decide +kernel, rfl, by decide +kernel, by decide +kernel⟩
theorem sc_same : FnScope ["found", "due"] ["found", "due"] (defScope s_same) := ⟨rfl, rfl, rfl, by decide +kernel, rfl, by decide +kernel, by decide +kernel⟩
theorem sc_same_pile : FnScope ["found", "due", "k"] ["found", "due"] (defScope s_same_pile) := ⟨rfl, rfl, rfl, by decide +kernel, rfl, by decide +kernel, by decide +kernel⟩
theorem sc_letters : FnScope ["bag", "many", "k"] ["bag", "many"] (defScope s_letters) := ⟨rfl, rfl, rfl, by decide +kernel, rfl, by decide +kernel, by decide +kernel⟩
theorem sc_names : FnScope ["bag", "one", "other", "longer"] ["bag"] (defScope s_names) := ⟨rfl, rfl, rfl, by decide +kernel, rfl, by decide +kernel, by decide +kernel⟩
theorem sc_deed : FnScope ["bag", "house", "names", "has", "way", "name", "kind", "worth"] ["bag", "house", "names", "has"] (defScope s_deed) := ⟨rfl, rfl, rfl, by decide +kernel, rfl, by decide +kernel, by decide +kernel⟩
theorem sc_looked : FnScope ["bag", "house", "has", "first", "some", "name", "found"] ["bag", "house", "has"] (defScope s_looked) := ⟨rfl, rfl, rfl, by decide +kernel, rfl, by decide +kernel, by decide +kernel⟩
theorem sc_law : FnScope ["script", "house", "has", "names", "k", "bag"] ["script"] (defScope s_law) := ⟨rfl, rfl, rfl, by decide +kernel, rfl, by decide +kernel, by decide +kernel⟩
/-! ### the facts of the top -/
structure Txt (P : Program) (w : World) (K : PySem.W.Frag) (mg : Str → Option Value) where
  o_Tally : Addr
  cl_Tally : Cls K o_Tally
  gC_Tally : mg "Tally" = some (.ref o_Tally)
  na_Tally_loose : NoAttr K o_Tally "loose"
  na_Tally_places : NoAttr K o_Tally "places"
  o_WholePiles : Addr
  cl_WholePiles : Cls K o_WholePiles
  gC_WholePiles : mg "WholePiles" = some (.ref o_WholePiles)
  na_WholePiles_tally : NoAttr K o_WholePiles "tally"
  na_WholePiles_worths : NoAttr K o_WholePiles "worths"
  o_Copies : Addr
  cl_Copies : Cls K o_Copies
  gC_Copies : mg "Copies" = some (.ref o_Copies)
  na_Copies_box_worths : NoAttr K o_Copies "box_worths"
  na_Copies_kept_goings : NoAttr K o_Copies "kept_goings"
  na_Copies_peg_worths : NoAttr K o_Copies "peg_worths"
  na_Copies_piles : NoAttr K o_Copies "piles"
  na_Copies_tally : NoAttr K o_Copies "tally"
  f_is_number : Addr
  fd_is_number : FuncData
  F_is_number : Fun K "is_number" "is_number" s_is_number f_is_number fd_is_number
  b_is_number : Binds K fd_is_number ["thing"] []
  g_is_number : mg "is_number" = some (.ref f_is_number)
  f_is_worth : Addr
  fd_is_worth : FuncData
  F_is_worth : Fun K "is_worth" "is_worth" s_is_worth f_is_worth fd_is_worth
  b_is_worth : Binds K fd_is_worth ["thing"] []
  g_is_worth : mg "is_worth" = some (.ref f_is_worth)
  f_is_thing : Addr
  fd_is_thing : FuncData
  F_is_thing : Fun K "is_thing" "is_thing" s_is_thing f_is_thing fd_is_thing
  b_is_thing : Binds K fd_is_thing ["worth"] []
  g_is_thing : mg "is_thing" = some (.ref f_is_thing)
  f_is_name : Addr
  fd_is_name : FuncData
  F_is_name : Fun K "is_name" "is_name" s_is_name f_is_name fd_is_name
  b_is_name : Binds K fd_is_name ["thing"] []
  g_is_name : mg "is_name" = some (.ref f_is_name)
  f_is_count : Addr
  fd_is_count : FuncData
  F_is_count : Fun K "is_count" "is_count" s_is_count f_is_count fd_is_count
  b_is_count : Binds K fd_is_count ["thing"] []
  g_is_count : mg "is_count" = some (.ref f_is_count)
  f_Tally_init : Addr
  fd_Tally_init : FuncData
  F_Tally_init : Fun K "__init__" "Tally.__init__" s_Tally_init f_Tally_init fd_Tally_init
  b_Tally_init : Binds K fd_Tally_init ["self"] []
  mk_Tally : Mk K o_Tally f_Tally_init
  f_Tally_more : Addr
  fd_Tally_more : FuncData
  F_Tally_more : Fun K "more" "Tally.more" s_Tally_more f_Tally_more fd_Tally_more
  b_Tally_more : Binds K fd_Tally_more ["self", "worths"] []
  m_Tally_more : Meth K o_Tally "more" f_Tally_more
  f_Tally_less : Addr
  fd_Tally_less : FuncData
  F_Tally_less : Fun K "less" "Tally.less" s_Tally_less f_Tally_less fd_Tally_less
  b_Tally_less : Binds K fd_Tally_less ["self", "worths"] []
  m_Tally_less : Meth K o_Tally "less" f_Tally_less
  f_Tally_loosened : Addr
  fd_Tally_loosened : FuncData
  F_Tally_loosened : Fun K "loosened" "Tally.loosened" s_Tally_loosened f_Tally_loosened fd_Tally_loosened
  b_Tally_loosened : Binds K fd_Tally_loosened ["self"] []
  m_Tally_loosened : Meth K o_Tally "loosened" f_Tally_loosened
  f_WholePiles_init : Addr
  fd_WholePiles_init : FuncData
  F_WholePiles_init : Fun K "__init__" "WholePiles.__init__" s_WholePiles_init f_WholePiles_init fd_WholePiles_init
  b_WholePiles_init : Binds K fd_WholePiles_init ["self"] []
  mk_WholePiles : Mk K o_WholePiles f_WholePiles_init
  f_WholePiles_lay : Addr
  fd_WholePiles_lay : FuncData
  F_WholePiles_lay : Fun K "lay" "WholePiles.lay" s_WholePiles_lay f_WholePiles_lay fd_WholePiles_lay
  b_WholePiles_lay : Binds K fd_WholePiles_lay ["self", "piles"] []
  m_WholePiles_lay : Meth K o_WholePiles "lay" f_WholePiles_lay
  f_WholePiles_height : Addr
  fd_WholePiles_height : FuncData
  F_WholePiles_height : Fun K "height" "WholePiles.height" s_WholePiles_height f_WholePiles_height fd_WholePiles_height
  b_WholePiles_height : Binds K fd_WholePiles_height ["self"] []
  m_WholePiles_height : Meth K o_WholePiles "height" f_WholePiles_height
  f_WholePiles_pile : Addr
  fd_WholePiles_pile : FuncData
  F_WholePiles_pile : Fun K "pile" "WholePiles.pile" s_WholePiles_pile f_WholePiles_pile fd_WholePiles_pile
  b_WholePiles_pile : Binds K fd_WholePiles_pile ["self"] []
  m_WholePiles_pile : Meth K o_WholePiles "pile" f_WholePiles_pile
  f_WholePiles_put : Addr
  fd_WholePiles_put : FuncData
  F_WholePiles_put : Fun K "put" "WholePiles.put" s_WholePiles_put f_WholePiles_put fd_WholePiles_put
  b_WholePiles_put : Binds K fd_WholePiles_put ["self", "worth"] []
  m_WholePiles_put : Meth K o_WholePiles "put" f_WholePiles_put
  f_WholePiles_take : Addr
  fd_WholePiles_take : FuncData
  F_WholePiles_take : Fun K "take" "WholePiles.take" s_WholePiles_take f_WholePiles_take fd_WholePiles_take
  b_WholePiles_take : Binds K fd_WholePiles_take ["self", "k"] []
  m_WholePiles_take : Meth K o_WholePiles "take" f_WholePiles_take
  f_WholePiles_keep : Addr
  fd_WholePiles_keep : FuncData
  F_WholePiles_keep : Fun K "keep" "WholePiles.keep" s_WholePiles_keep f_WholePiles_keep fd_WholePiles_keep
  b_WholePiles_keep : Binds K fd_WholePiles_keep ["self"] []
  m_WholePiles_keep : Meth K o_WholePiles "keep" f_WholePiles_keep
  f_WholePiles_release : Addr
  fd_WholePiles_release : FuncData
  F_WholePiles_release : Fun K "release" "WholePiles.release" s_WholePiles_release f_WholePiles_release fd_WholePiles_release
  b_WholePiles_release : Binds K fd_WholePiles_release ["self", "kept"] []
  m_WholePiles_release : Meth K o_WholePiles "release" f_WholePiles_release
  f_check_name : Addr
  fd_check_name : FuncData
  F_check_name : Fun K "check_name" "check_name" s_check_name f_check_name fd_check_name
  b_check_name : Binds K fd_check_name ["name"] []
  g_check_name : mg "check_name" = some (.ref f_check_name)
  f_check_place : Addr
  fd_check_place : FuncData
  F_check_place : Fun K "check_place" "check_place" s_check_place f_check_place fd_check_place
  b_check_place : Binds K fd_check_place ["k", "many"] []
  g_check_place : mg "check_place" = some (.ref f_check_place)
  f_least_free : Addr
  fd_least_free : FuncData
  F_least_free : Fun K "least_free" "least_free" s_least_free f_least_free fd_least_free
  b_least_free : Binds K fd_least_free ["table"] []
  g_least_free : mg "least_free" = some (.ref f_least_free)
  f_Copies_init : Addr
  fd_Copies_init : FuncData
  F_Copies_init : Fun K "__init__" "Copies.__init__" s_Copies_init f_Copies_init fd_Copies_init
  b_Copies_init : Binds K fd_Copies_init ["self"] []
  mk_Copies : Mk K o_Copies f_Copies_init
  f_Copies_begin : Addr
  fd_Copies_begin : FuncData
  F_Copies_begin : Fun K "begin" "Copies.begin" s_Copies_begin f_Copies_begin fd_Copies_begin
  b_Copies_begin : Binds K fd_Copies_begin ["self", "piles", "picture"] []
  m_Copies_begin : Meth K o_Copies "begin" f_Copies_begin
  f_Copies_lay_piles : Addr
  fd_Copies_lay_piles : FuncData
  F_Copies_lay_piles : Fun K "lay_piles" "Copies.lay_piles" s_Copies_lay_piles f_Copies_lay_piles fd_Copies_lay_piles
  b_Copies_lay_piles : Binds K fd_Copies_lay_piles ["self", "pile", "goings"] []
  m_Copies_lay_piles : Meth K o_Copies "lay_piles" f_Copies_lay_piles
  f_Copies_has : Addr
  fd_Copies_has : FuncData
  F_Copies_has : Fun K "has" "Copies.has" s_Copies_has f_Copies_has fd_Copies_has
  b_Copies_has : Binds K fd_Copies_has ["self", "thing"] []
  m_Copies_has : Meth K o_Copies "has" f_Copies_has
  f_Copies_check_worth : Addr
  fd_Copies_check_worth : FuncData
  F_Copies_check_worth : Fun K "check_worth" "Copies.check_worth" s_Copies_check_worth f_Copies_check_worth fd_Copies_check_worth
  b_Copies_check_worth : Binds K fd_Copies_check_worth ["self", "worth"] []
  m_Copies_check_worth : Meth K o_Copies "check_worth" f_Copies_check_worth
  f_Copies_check_box : Addr
  fd_Copies_check_box : FuncData
  F_Copies_check_box : Fun K "check_box" "Copies.check_box" s_Copies_check_box f_Copies_check_box fd_Copies_check_box
  b_Copies_check_box : Binds K fd_Copies_check_box ["self", "b"] []
  m_Copies_check_box : Meth K o_Copies "check_box" f_Copies_check_box
  f_Copies_check_peg : Addr
  fd_Copies_check_peg : FuncData
  F_Copies_check_peg : Fun K "check_peg" "Copies.check_peg" s_Copies_check_peg f_Copies_check_peg fd_Copies_check_peg
  b_Copies_check_peg : Binds K fd_Copies_check_peg ["self", "name"] []
  m_Copies_check_peg : Meth K o_Copies "check_peg" f_Copies_check_peg
  f_Copies_drop : Addr
  fd_Copies_drop : FuncData
  F_Copies_drop : Fun K "drop" "Copies.drop" s_Copies_drop f_Copies_drop fd_Copies_drop
  b_Copies_drop : Binds K fd_Copies_drop ["self", "thing"] []
  m_Copies_drop : Meth K o_Copies "drop" f_Copies_drop
  f_Copies_settle : Addr
  fd_Copies_settle : FuncData
  F_Copies_settle : Fun K "settle" "Copies.settle" s_Copies_settle f_Copies_settle fd_Copies_settle
  b_Copies_settle : Binds K fd_Copies_settle ["self"] []
  m_Copies_settle : Meth K o_Copies "settle" f_Copies_settle
  f_Copies_put : Addr
  fd_Copies_put : FuncData
  F_Copies_put : Fun K "put" "Copies.put" s_Copies_put f_Copies_put fd_Copies_put
  b_Copies_put : Binds K fd_Copies_put ["self", "worth"] []
  m_Copies_put : Meth K o_Copies "put" f_Copies_put
  f_Copies_take : Addr
  fd_Copies_take : FuncData
  F_Copies_take : FunD K "take" "Copies.take" (defArgs s_Copies_take) (defBody s_Copies_take) (defScope s_Copies_take) [.int 0] [] f_Copies_take fd_Copies_take
  ds_Copies_take : List Value
  bd_Copies_take : Binds K fd_Copies_take ["self", "k"] ds_Copies_take
  bv_Copies_take : Vals [.int 0] ds_Copies_take
  b_Copies_take : Binds K fd_Copies_take ["self", "k"] []
  m_Copies_take : Meth K o_Copies "take" f_Copies_take
  f_Copies_height : Addr
  fd_Copies_height : FuncData
  F_Copies_height : Fun K "height" "Copies.height" s_Copies_height f_Copies_height fd_Copies_height
  b_Copies_height : Binds K fd_Copies_height ["self"] []
  m_Copies_height : Meth K o_Copies "height" f_Copies_height
  f_Copies_pile : Addr
  fd_Copies_pile : FuncData
  F_Copies_pile : Fun K "pile" "Copies.pile" s_Copies_pile f_Copies_pile fd_Copies_pile
  b_Copies_pile : Binds K fd_Copies_pile ["self"] []
  m_Copies_pile : Meth K o_Copies "pile" f_Copies_pile
  f_Copies_keep : Addr
  fd_Copies_keep : FuncData
  F_Copies_keep : Fun K "keep" "Copies.keep" s_Copies_keep f_Copies_keep fd_Copies_keep
  b_Copies_keep : Binds K fd_Copies_keep ["self", "place"] []
  m_Copies_keep : Meth K o_Copies "keep" f_Copies_keep
  f_Copies_box : Addr
  fd_Copies_box : FuncData
  F_Copies_box : Fun K "box" "Copies.box" s_Copies_box f_Copies_box fd_Copies_box
  b_Copies_box : Binds K fd_Copies_box ["self"] []
  m_Copies_box : Meth K o_Copies "box" f_Copies_box
  f_Copies_held : Addr
  fd_Copies_held : FuncData
  F_Copies_held : Fun K "held" "Copies.held" s_Copies_held f_Copies_held fd_Copies_held
  b_Copies_held : Binds K fd_Copies_held ["self", "b"] []
  m_Copies_held : Meth K o_Copies "held" f_Copies_held
  f_Copies_peg : Addr
  fd_Copies_peg : FuncData
  F_Copies_peg : Fun K "peg" "Copies.peg" s_Copies_peg f_Copies_peg fd_Copies_peg
  b_Copies_peg : Binds K fd_Copies_peg ["self", "name", "worth"] []
  m_Copies_peg : Meth K o_Copies "peg" f_Copies_peg
  f_Copies_pegged : Addr
  fd_Copies_pegged : FuncData
  F_Copies_pegged : Fun K "pegged" "Copies.pegged" s_Copies_pegged f_Copies_pegged fd_Copies_pegged
  b_Copies_pegged : Binds K fd_Copies_pegged ["self", "name"] []
  m_Copies_pegged : Meth K o_Copies "pegged" f_Copies_pegged
  f_Copies_unpeg : Addr
  fd_Copies_unpeg : FuncData
  F_Copies_unpeg : Fun K "unpeg" "Copies.unpeg" s_Copies_unpeg f_Copies_unpeg fd_Copies_unpeg
  b_Copies_unpeg : Binds K fd_Copies_unpeg ["self", "name"] []
  m_Copies_unpeg : Meth K o_Copies "unpeg" f_Copies_unpeg
  f_Copies_pegs : Addr
  fd_Copies_pegs : FuncData
  F_Copies_pegs : Fun K "pegs" "Copies.pegs" s_Copies_pegs f_Copies_pegs fd_Copies_pegs
  b_Copies_pegs : Binds K fd_Copies_pegs ["self"] []
  m_Copies_pegs : Meth K o_Copies "pegs" f_Copies_pegs
  f_cell_at : Addr
  fd_cell_at : FuncData
  F_cell_at : Fun K "_law_cell_at" "_law_cell_at" s_cell_at f_cell_at fd_cell_at
  b_cell_at : Binds K fd_cell_at ["script", "k"] []
  g_cell_at : mg "_law_cell_at" = some (.ref f_cell_at)
  f_bag : Addr
  fd_bag : FuncData
  F_bag : Fun K "_law_bag" "_law_bag" s_bag f_bag fd_bag
  b_bag : Binds K fd_bag ["cell", "place"] []
  g_bag : mg "_law_bag" = some (.ref f_bag)
  f_draw : Addr
  fd_draw : FuncData
  F_draw : Fun K "_law_draw" "_law_draw" s_draw f_draw fd_draw
  b_draw : Binds K fd_draw ["bag", "many"] []
  g_draw : mg "_law_draw" = some (.ref f_draw)
  f_plain : Addr
  fd_plain : FuncData
  F_plain : Fun K "_law_plain" "_law_plain" s_plain f_plain fd_plain
  b_plain : Binds K fd_plain ["bag"] []
  g_plain : mg "_law_plain" = some (.ref f_plain)
  f_whole : Addr
  fd_whole : FuncData
  F_whole : Fun K "_law_whole" "_law_whole" s_whole f_whole fd_whole
  b_whole : Binds K fd_whole ["found"] []
  g_whole : mg "_law_whole" = some (.ref f_whole)
  f_same : Addr
  fd_same : FuncData
  F_same : Fun K "_law_same" "_law_same" s_same f_same fd_same
  b_same : Binds K fd_same ["found", "due"] []
  g_same : mg "_law_same" = some (.ref f_same)
  f_same_pile : Addr
  fd_same_pile : FuncData
  F_same_pile : Fun K "_law_same_pile" "_law_same_pile" s_same_pile f_same_pile fd_same_pile
  b_same_pile : Binds K fd_same_pile ["found", "due"] []
  g_same_pile : mg "_law_same_pile" = some (.ref f_same_pile)
  f_letters : Addr
  fd_letters : FuncData
  F_letters : Fun K "_law_letters" "_law_letters" s_letters f_letters fd_letters
  b_letters : Binds K fd_letters ["bag", "many"] []
  g_letters : mg "_law_letters" = some (.ref f_letters)
  f_names : Addr
  fd_names : FuncData
  F_names : Fun K "_law_names" "_law_names" s_names f_names fd_names
  b_names : Binds K fd_names ["bag"] []
  g_names : mg "_law_names" = some (.ref f_names)
  f_deed : Addr
  fd_deed : FuncData
  F_deed : Fun K "_law_deed" "_law_deed" s_deed f_deed fd_deed
  b_deed : Binds K fd_deed ["bag", "house", "names", "has"] []
  g_deed : mg "_law_deed" = some (.ref f_deed)
  f_looked : Addr
  fd_looked : FuncData
  F_looked : Fun K "_law_looked" "_law_looked" s_looked f_looked fd_looked
  b_looked : Binds K fd_looked ["bag", "house", "has"] []
  g_looked : mg "_law_looked" = some (.ref f_looked)
  f_law : Addr
  fd_law : FuncData
  F_law : Fun K "law" "law" s_law f_law fd_law
  b_law : Binds K fd_law ["script"] []
  g_law : mg "law" = some (.ref f_law)
  n_all : mg "all" = none
  n_bool : mg "bool" = none
  n_int : mg "int" = none
  n_isinstance : mg "isinstance" = none
  n_len : mg "len" = none
  n_list : mg "list" = none
  n_max : mg "max" = none
  n_min : mg "min" = none
  n_range : mg "range" = none
  n_sorted : mg "sorted" = none
  n_str : mg "str" = none
  n_tuple : mg "tuple" = none
  n_type : mg "type" = none
  n_zip : mg "zip" = none
  d_SIGNS : Addr
  es_SIGNS : Array DictEntry
  no_SIGNS : Nat
  c_SIGNS : mg "SIGNS" = some (.ref d_SIGNS)
  k_SIGNS : KDict K w d_SIGNS es_SIGNS no_SIGNS
  i_SIGNS : ∀ z : Str, ∃ r, PySem.W.nsIn K d_SIGNS z = some r ∧ r.isSome = (decide (z = "num") || decide (z = "at") || decide (z = "box") || decide (z = "go"))
  t_LETTERS : Tok
  c_LETTERS : mg "LETTERS" = some (.str "abcdefghijklmnopqrstuvwxyz" t_LETTERS)
  t_MOST_LETTERS : Tok
  c_MOST_LETTERS : mg "MOST_LETTERS" = some (.int 8 t_MOST_LETTERS)

local macro_rules | `(tactic| walk_at "ne") => `(tactic| first
  | assumption
  | (refine Ne.symm ?_; assumption)
  | exact ne_of_none (by assumption) (by assumption)
  | exact (ne_of_none (by assumption) (by assumption)).symm
  | exact ne_of (by assumption) (by assumption) (by intro q; cases q))
local macro_rules | `(tactic| walk_at "hp") => `(tactic| first
  | assumption
  | exact upd_same
  | (refine (upd_ne ?_).trans ?_; (walk_at "ne"); (walk_at "hp")))
local macro_rules | `(tactic| walk_at "hq") => `(tactic| first
  | assumption
  | exact upd_same
  | (refine same_new (by assumption) _ _ ?_; (walk_at "hq"))
  | (refine Wp.look (by assumption) ?_; (walk_at "hq")))
local macro_rules | `(tactic| walk_at "sm") => `(tactic| first
  | assumption
  | exact fun _ _ h => h
  | exact same_new (by assumption)
  | (refine Same.trans ?_ (same_new (by assumption)); (walk_at "sm"))
  | (refine Same.trans ?_ (by assumption); (walk_at "sm")))
local macro_rules | `(tactic| walk_at "kp") => `(tactic| first
  | assumption
  | exact Kp.refl _ _
  | (refine Kp.trans ?_ (Kp.new (by assumption)); (walk_at "kp"))
  | (refine Kp.trans ?_ (Same.kp (by assumption)); (walk_at "kp"))
  | (refine Wp.kpT ?_ (by assumption); (walk_at "kp"))
  | exact Same.kp (by walk_at "sm"))
local macro_rules | `(tactic| walk_at "sq") => `(tactic| first
  | assumption
  | exact SqL.of (by walk_at "hp")
  | exact SqT.of (by walk_at "hp"))
local macro_rules | `(tactic| walk_at "kind") => `(tactic| first
  | assumption
  | exact Kind.int _
  | exact Kind.str _
  | exact Kind.bl _
  | exact Kind.non
  | exact Kind.tup (by walk_at "hp")
  | exact Kind.lst (by walk_at "hp")
  | exact Kind.dK (by walk_at "hp"))
local macro_rules | `(tactic| walk_at "w1") => `(tactic| first
  | (with_reducible refine Wp.seq ?_)
  | (with_reducible refine Wp.nx_mk ?_)
  | (with_reducible refine Wp.rt_mk ?_)
  | (with_reducible refine Wp.bk_mk ?_)
  | (with_reducible refine Wp.ct_mk ?_)
  | (with_reducible refine Wp.next ?_)
  | (with_reducible refine Wp.asg ?_)
  | ((with_reducible refine' Wp.gname ?e ?_); (case e => (try dsimp only [List.set, L2.wipe, List.map_cons, List.map_nil]); (try exact rfl)))
  | (with_reducible refine Wp.gsub ?_)
  | (with_reducible refine Wp.ret ?_)
  | (with_reducible refine Wp.retN ?_)
  | (with_reducible refine Wp.drop ?_)
  | (with_reducible refine Wp.dput ?_)
  | (with_reducible refine Wp.ifs ?_)
  | ((with_reducible refine' Wp.var ?h ?_); (case h => exact rfl))
  | (with_reducible refine Wp.con ?_)
  | (with_reducible refine Wp.op ?_)
  | (with_reducible refine Wp.un ?_)
  | (with_reducible refine Wp.cb ?_)
  | (with_reducible refine Wp.anil ?_)
  | (with_reducible refine Wp.acons ?_)
  | (with_reducible refine Wp.call ?_)
  | (with_reducible refine Wp.test ?_)
  | (with_reducible refine Wp.tb_ ?_)
  | (with_reducible refine Wp.and_ ?_)
  | (with_reducible refine Wp.or_ ?_)
  | (with_reducible refine Wp.not_ ?_)
  | (with_reducible refine Wp.andV ?_)
  | (with_reducible refine Wp.orV ?_)
  | (with_reducible refine Wp.notV ?_)
  | (with_reducible refine Wp.rI0_ ?_)
  | (with_reducible refine Wp.rU_ ?_)
  | ((with_reducible refine Wp.rEq_ ?k ?_); (case k => exact rfl))
  | ((with_reducible refine Wp.rNe_ ?k ?_); (case k => exact rfl))
  | (with_reducible refine Wp.gcons ?_)
  | (with_reducible refine Wp.gnil ?_)
  | ((with_reducible refine' Wp.gtup ?h ?e ?_); (case h => walk_at "sq"); (case e => exact rfl))
  | (with_reducible refine Wp.sl ?_)
  | (with_reducible refine Wp.part ?_)
  | (with_reducible refine Wp.nopart ?_)
  | (with_reducible refine Wp.ifE ?_)
  | (with_reducible refine Wp.bm0 ?_)
  | (with_reducible refine Wp.bm ?_)
  | (with_reducible refine Wp.lcR1 ?_)
  | (with_reducible refine Wp.lcR2 ?_)
  | (with_reducible refine Wp.lcL ?_)
  | (with_reducible refine Wp.chain ?_)
  | (with_reducible refine Wp.lc2V ?_)
  | (with_reducible refine Wp.piL ?_)
  | (with_reducible refine Wp.yes ?_)
  | (with_reducible refine Wp.dinI ?_)
  | (with_reducible refine Wp.dninI ?_)
  | (with_reducible refine Wp.dget ?_)
  | ((with_reducible refine' ⟨?k, ?_⟩); (case k => show L2.wipe _ _ = L2.wipe _ _; exact rfl))
  | ((with_reducible refine' ⟨?k, ?_⟩); (case k => show V.non = V.non; exact rfl))
  | (with_reducible refine Wp.forR1 ?_)
  | (with_reducible refine Wp.forR2 ?_)
  | (with_reducible refine Wp.forL ?_)
  | (with_reducible refine Wp.forT ?_)
  | ((with_reducible refine' ⟨?k, ?_⟩); (case k => exact Wp.tyvL (by walk_at "hp")))
  | ((with_reducible refine' Wp.rev_ ?k ?_); (case k => walk_at "hp"))
  | ((with_reducible refine' Wp.isi ?k ?h ?_); (case k => walk_at "kind"); (case h => decide))
  | ((with_reducible refine' Wp.typ ?k ?_); (case k => walk_at "kind"))
  | (with_reducible refine Wp.slS ?k ?_; (case k => assumption))
  | (with_reducible refine iteT ?_)
  | (with_reducible refine iteF ?_)
  | (with_reducible refine Wtc.dcL ?_)
  | (with_reducible refine Wst.step ?_)
  | (with_reducible refine Wtc.dget2 ?_)
  | (with_reducible refine Wtc.lcZ ?_)
  | (with_reducible refine Wrw.loop_setLc ?_)
  | (with_reducible refine Wz.par ?_)
  | (with_reducible refine Wz.forN ?_)
  | (with_reducible refine Wz.dcL ?_)
  | (with_reducible refine Wz.forZ ?_)
  | (with_reducible refine Wz.lcR3 ?_)
  | (with_reducible refine Wc.revL ?_)
  | (with_reducible refine Wd.nm ?_)
  | (with_reducible refine Wd.nget ?_)
  | ((with_reducible refine Wd.tnew ?_); intro p hp)
  | (with_reducible refine Wd.pikn ?_)
  | (with_reducible refine Wt.m1 ?_)
  | (with_reducible refine Wt.m0 ?_)
  | ((with_reducible refine' ⟨?k, ?_⟩); (case k => show ∃ a, _ = V.str a; exact ⟨_, rfl⟩))
  | (with_reducible refine Wt.js_cons ?_)
  | (with_reducible refine Wt.fmt_ ?_)
  | (with_reducible refine Wp.pcons ?_)
  | (with_reducible refine Wp.pnil ?_)
  | ((with_reducible refine' Wp.iteBnT ?h ?_); (case h => show isB _ _ = false; decide))
  | ((with_reducible refine' Wp.iteBnF ?h ?_); (case h => show isB _ _ = true; decide))
  | ((with_reducible refine' Wp.iteBt ?h ?_); (case h => show isB _ _ = true; decide))
  | ((with_reducible refine' Wp.iteBf ?h ?_); (case h => show isB _ _ = false; decide))
  | (with_reducible refine Wp.iteT' ?_)
  | (with_reducible refine Wp.iteF' ?_)
  | (with_reducible refine Wp.rNT_ ?_)
  | ((with_reducible refine Wp.lst ?_))
  | ((with_reducible refine Wp.tup ?_))
  | ((with_reducible refine' Wp.ixL ?h ?e ?_); (case h => walk_at "sq"); (case e => exact rfl))
  | ((with_reducible refine' Wp.ixT ?h ?e ?_); (case h => walk_at "sq"); (case e => exact rfl))
  | ((with_reducible refine' Wp.setL ?h ?e ?_); (case h => walk_at "hp"); (case e => exact rfl))
  | ((with_reducible refine Wp.rI_ ?k ?_); (case k => first | (show (0:Int) < _; omega) | (show CPow _ _; refine' ⟨?_, ?_, ?_⟩ <;> omega) | (show CDiv _ _; refine' ⟨?_, ?_⟩ <;> omega) | (show CMul _ _; refine' Or.inl ⟨?_, ?_⟩ <;> omega) | (show CMul _ _; refine' Or.inr ⟨?_, ?_⟩ <;> first | omega | decide) | (show CDivW _ _; refine' wide_div (b := 240) ?_ ?_ ?_ ?_ <;> first | omega | decide)))
  | ((with_reducible refine ⟨?k, ?_⟩); (case k => first | exact Nat.zero_le _ | (exact Nat.le_of_ble_eq_true rfl)); intro p hp)
  | ((with_reducible refine' ⟨_, _, rfl, .inl ?k, ?_⟩); (case k => walk_at "sq"))
  | ((with_reducible refine' ⟨_, _, rfl, .inr ?k, ?_⟩); (case k => walk_at "sq"))
  | (with_reducible refine ⟨_, rfl, ?_⟩)
  | (with_reducible refine ⟨_, _, rfl, rfl, ?_⟩)
  | (with_reducible refine ⟨_, _, rfl, ?_⟩))
local macro_rules | `(tactic| walk_at "wp") => `(tactic| repeat (walk_at "w1"))

local macro_rules | `(tactic| walk_at "pf") => `(tactic| first
  | (with_reducible exact Wcl.pf0)
  | (with_reducible exact Wcl.pf1)
  | ((with_reducible refine' Wcl.pf2 ?n ?h); (case n => decide +kernel); (case h => walk_at "pf")))
local macro_rules | `(tactic| walk_at "w1") => `(tactic| first
  | (with_reducible refine Wcl.fld_ ?_)
  | (with_reducible refine Wcl.sfld_ ?_)
  | (with_reducible refine Wcl.meth_ ?_)
  | (with_reducible refine Wcl.make_ ?_)
  | (with_reducible refine Wcl.dcZ ?_)
  | (with_reducible refine Wcl.ddelT_ ?_)
  | (with_reducible refine Wcl.daug_ ?_)
  | (with_reducible refine Wcl.dpop1_ ?_)
  | ((with_reducible refine Wcl.dnewT_ ?_); intro p hp)
  | ((with_reducible refine Wcl.dnewK_ ?_); intro p hp)
  | ((with_reducible refine' Wcl.fldR ?h ?c ?n ?e ?_); (case h => walk_at "hp"); (case c => assumption); (case n => assumption); (case e => exact rfl))
  | ((with_reducible refine' Wcl.sfldR ?h ?c ?n ?l ?e ?_); (case h => walk_at "hp"); (case c => assumption); (case n => assumption); (case l => exact Nat.le_of_ble_eq_true rfl); (case e => walk_at "pf"))
  | ((with_reducible refine' Wcl.methR ?h ?l ?_); (case h => walk_at "hp"); (case l => exact rfl)))

section
variable {P : Program} {w : World} {K : PySem.W.Frag} {mg : Str → Option Value} {base : Heap}
def spIsThing : Sp := fun vs H Q _ => ∃ (v : V) (z : W), vs = [v] ∧ IsW H v z ∧ ∀ H', Same H H' → Q (.bl (isT z)) H'
theorem ok_is_thing (T : Txt P w K mg) : FnOk P w K mg base CX0 1 T.f_is_thing T.fd_is_thing ["worth"] spIsThing := by
  refine T.F_is_thing.ok sc_is_thing (fun vs H Q E h => ?_) (fun cdv A outer s H vs Q E hr h => ?_)
  · obtain ⟨v, z, rfl, _⟩ := h
    rfl
  · obtain ⟨v, z, rfl, ⟨t, rfl, ht⟩, q⟩ := h
    refine ⟨_, (pss_one (ps_ret (pe_cmpR op_in_seq (pe_ix ix_tup (pv 0) pe_int (fun _ _ => rfl)) (pe_tup (pa_cons pe_str (pa_cons pe_str pa_nil))) (by rfl)))), ?_⟩
    rw [show L2.start ["worth"] [.ref t] = [some (.ref t)] from rfl]
    try dsimp only [cxOf]
    walk_at "wp"
    rename_i p hp
    refine ⟨p, _, rfl, .inr (SqT.of upd_same), rfl, rfl, ?_⟩
    exact q _ (same_new hp)

/-! ### the tally -/
def spTInit (o : Addr) : Sp := fun vs H Q _ => ∃ (ta dta : Addr), vs = [.ref ta] ∧ H ta = some (.ins o dta []) ∧ ∀ pc ls H', Tl o H' ⟨ta, dta, pc, ls⟩ [] [] [] → Ks [ta] H H' → H pc = none → H ls = none → Q .non H'
theorem ok_Tally_init (T : Txt P w K mg) : FnOk P w K mg base CX0 1 T.f_Tally_init T.fd_Tally_init ["self"] (spTInit T.o_Tally) := by
  refine T.F_Tally_init.ok sc_Tally_init (fun vs H Q E h => ?_) (fun cdv A outer s H vs Q E hr h => ?_)
  · obtain ⟨ta, dta, rfl, _⟩ := h
    rfl
  · obtain ⟨ta, dta, rfl, hT, q⟩ := h
    refine ⟨_, (pss_cons (ps_fld (pv 0) pe_dnewT rfl)
      (pss_one (ps_fld (pv 0) pe_dnewT rfl))), ?_⟩
    rw [show L2.start ["self"] [.ref ta] = [some (.ref ta)] from rfl]
    try dsimp only [cxOf]
    have c1 := T.cl_Tally
    have n1 := T.na_Tally_places
    have n2 := T.na_Tally_loose
    walk_at "wp"
    rename_i p hp p2 hp2
    have np : ta ≠ p := ne_of_none hT hp
    have n0 : H p2 = none := by
      have : p2 ≠ ta := fun e => by rw [e, upd_same] at hp2; cases hp2
      rw [upd_ne this] at hp2
      exact (same_new (o := .dT []) hp).free hp2
    have np2 : ta ≠ p2 := ne_of_none hT n0
    have npp : p ≠ p2 := fun e => by
      rw [← e, upd_ne np.symm, upd_same] at hp2; cases hp2
    walk_at "wp"
    refine q p p2 _ ?_ ?_ hp n0
    · refine ⟨upd_same, ⟨[], ?_, Plc.nil⟩, ⟨[], ?_, rfl⟩, .nil, npp, Nat.zero_le _, (fun _ h => nomatch h), (fun _ h => nomatch h), fun _ h => nomatch h⟩
      · show upd _ ta _ p = _
        rw [upd_ne np.symm, upd_ne npp, upd_ne np.symm, upd_same]
      · show upd _ ta _ p2 = _
        rw [upd_ne np2.symm, upd_same]
    refine ⟨fun a o n e => ?_, fun t xs e => ?_⟩
    · have nt : a ≠ ta := fun q => n (by rw [q]; exact List.mem_singleton.mpr rfl)
      rw [upd_ne nt, upd_ne (ne_of_none e n0), upd_ne nt, upd_ne (ne_of_none e hp)]; exact e
    · have nt : t ≠ ta := ne_of e hT (fun q => nomatch q)
      rw [upd_ne nt, upd_ne (ne_of_none e n0), upd_ne nt, upd_ne (ne_of_none e hp)]; exact e
def spTMore (o : Addr) : Sp := fun vs H Q _ => ∃ (A : TAd) (l : Addr) (xs : List V) (ws L G Z : List W), vs = [.ref A.ta, .ref l] ∧ Tl o H A L G Z ∧ H l = some (.lst xs) ∧ Pile H xs ws ∧ (∀ y ∈ ws, isT y = true → y ∈ Z) ∧ ∀ H', Tl o H' A (L ++ ws) G Z → Ks [A.pc] H H' → Q .non H'
theorem ok_Tally_more (T : Txt P w K mg) : FnOk P w K mg base CX0 2 T.f_Tally_more T.fd_Tally_more ["self", "worths"] (spTMore T.o_Tally) := by
  have G_is_thing := ok_is_thing (base := base) T
  refine T.F_Tally_more.ok sc_Tally_more (fun vs H Q E h => ?_) (fun cdv A outer s H vs Q E hr h => ?_)
  · obtain ⟨A, l, xs, ws, L, G, Z, rfl, _⟩ := h
    rfl
  · obtain ⟨A, l, xs, ws, L, G, Z, rfl, tl, hl, pl, wz, q⟩ := h
    refine ⟨_, (pss_one (ps_for PassesOwn.never rfl (pi_list (pv 1)) (pg_name (i := 2) sc_Tally_more.nd rfl (.inl rfl)) (pss_one (ps_if (pt_val (pe_call G_is_thing (hr.mono (by decide)) (by rfl) T.g_is_thing T.F_is_thing.kp T.b_is_thing .nil pass0 (pa_cons (pv 2) pa_nil))) (pss_one (ps_dput (hu_of hr) (pe_fld (pv 0) rfl) (pv 2) (pe_op op_add (pe_dget2 (hu_of hr) (pe_fld (pv 0) rfl) (pv 2) pe_int ⟨by rfl, by rfl, by rfl, by rfl⟩) pe_int) rfl)) pss_nil)))), ?_⟩
    rw [show L2.start ["self", "worths", "worth"] [.ref A.ta, .ref l] = [some (.ref A.ta), some (.ref l), none] from rfl]
    try dsimp only [cxOf]
    have c1 := T.cl_Tally
    have n1 := T.na_Tally_places
    have line : (1000000 : Nat) < sizeLine := by decide
    walk_at "wp"
    refine ⟨⟨xs, SqL.of hl⟩, loopL (xs := xs) (fun i σ' H' => ∃ y, σ' = [some (.ref A.ta), some (.ref l), y] ∧ Ks [A.pc] H H' ∧ Tl T.o_Tally H' A (L ++ ws.take i) G Z) ⟨_, rfl, Ks.refl, by simpa using tl⟩ (fun i σ' H' _ h => ?_) ?_ ?_⟩
    · obtain ⟨_, _, k, _⟩ := h
      refine SqL.of (k.keep _ _ (fun m => ?_) hl)
      obtain ⟨kp, hp, _⟩ := tl.hp
      exact ne_of hl hp (fun q => nomatch q) (List.mem_singleton.mp m)
    · rintro i x σ' H1 hi ⟨y, rfl, k1, t1⟩
      obtain ⟨z, hz, w⟩ := pl.get hi
      have w1 := w.keep k1.tk
      walk_at "wp"
      refine ⟨x, z, rfl, w1, fun H2 s2 => ?_⟩
      have t2 := t1.same s2
      obtain ⟨t, rfl, ht⟩ := w1.keep (Same.tk s2)
      have k2 : Ks [A.pc] H H2 := k1.trans (Ks.same s2)
      rw [List.take_add_one, hz, ← List.append_assoc]
      cases c : isT z with
      | false =>
        walk_at "wp"
        obtain ⟨a, ⟨kp, b, b2⟩, c', d, e, f, g, i', j'⟩ := t2
        refine ⟨k2, ⟨a, ⟨kp, b, b2.skip c⟩, c', d, e, f, fun y hy ty => ?_, i', j'⟩⟩
        rcases List.mem_append.mp hy with hy | hy
        · exact g y hy ty
        · have : y = z := by simpa using hy
          rw [this] at ty; rw [c] at ty; cases ty
      | true =>
        have hi2 := t2.hi
        obtain ⟨kp, hp, pp⟩ := t2.hp
        have kl := pp.len t2.lz
        have zs := t2.zs
        have mz : z ∈ Z := wz z (List.mem_of_getElem? hz) c
        walk_at "wp"
        refine ⟨Wcl.isdT hp, ?_⟩
        walk_at "wp"
        refine ⟨_, DGet.t (k := keyT z) hp ht, ?_⟩
        have ev : (valV kp (keyT z)).getD (.int 0) = .int (cn (L ++ ws.take i) z) := by
          rw [pp.get c]
          by_cases m : z ∈ L ++ ws.take i
          · rw [if_pos m]; rfl
          · rw [if_neg m, cn_zero.mpr m]; rfl
        rw [ev]
        walk_at "wp"
        refine ⟨A.pc, _, rfl, DPut.t (k := keyT z) hp ht (by omega), ?_⟩
        have ne1 := t2.ne1
        refine ⟨_, rfl, ⟨fun a o n e => ?_, k2.tk.trans (Tk.dT hp)⟩, ⟨by rw [upd_ne ne1.1]; exact hi2, ⟨_, upd_same, pp.more c⟩, ?_, t2.nd, t2.ne, zs, fun y hy ty => ?_, t2.gz, t2.gt⟩⟩
        · rw [upd_ne (fun q : a = A.pc => n (by rw [q]; exact List.mem_singleton.mpr rfl))]
          exact k2.keep a o n e
        · obtain ⟨kl, h1, h2⟩ := t2.hl
          exact ⟨kl, by rw [upd_ne t2.ne.symm]; exact h1, h2⟩
        · rcases List.mem_append.mp hy with hy | hy
          · exact t2.lz y hy ty
          · have : y = z := by simpa using hy
            rw [this]; exact mz
    · rintro σ' H1 ⟨y, rfl, k1, t1⟩
      rw [pl.len, List.take_length] at t1
      walk_at "wp"
      exact q _ t1 k1
def spTLess (o : Addr) : Sp := fun vs H Q _ => ∃ (A : TAd) (l : Addr) (xs : List V) (ws L0 L G Z : List W), vs = [.ref A.ta, .ref l] ∧ Tl o H A L0 G Z ∧ Like L0 (L ++ ws) ∧ H l = some (.lst xs) ∧ Pile H xs ws ∧ ∀ G' H', Tl o H' A L G' Z → (∀ y ∈ G, y ∈ G') → (∀ y ∈ ws, isT y = true → y ∉ L → y ∈ G') → Ks [A.pc, A.ls] H H' → Q .non H'
theorem ok_Tally_less (T : Txt P w K mg) : FnOk P w K mg base CX0 2 T.f_Tally_less T.fd_Tally_less ["self", "worths"] (spTLess T.o_Tally) := by
  have G_is_thing := ok_is_thing (base := base) T
  refine T.F_Tally_less.ok sc_Tally_less (fun vs H Q E h => ?_) (fun cdv A outer s H vs Q E hr h => ?_)
  · obtain ⟨A, l, xs, ws, L0, L, G, Z, rfl, _⟩ := h
    rfl
  · obtain ⟨A, l, xs, ws, L0, L, G, Z, rfl, tl0, lk, hl, pl, q⟩ := h
    have tl := tl0.like lk
    clear tl0 lk
    refine ⟨_, (pss_one (ps_for PassesOwn.never rfl (pi_list (pv 1)) (pg_name (i := 2) sc_Tally_less.nd rfl (.inl rfl)) (pss_one (ps_if (pt_val (pe_call G_is_thing (hr.mono (by decide)) (by rfl) T.g_is_thing T.F_is_thing.kp T.b_is_thing .nil pass0 (pa_cons (pv 2) pa_nil))) (pss_cons (ps_daug (hu_of hr) (pe_fld (pv 0) rfl) (pv 2) pe_int in_sub (fun _ _ _ => rfl))
      (pss_one (ps_if (pt_cmpR op_eq (pe_dget (hu_of hr) (pe_fld (pv 0) rfl) (pv 2) (fun _ _ => rfl)) pe_int (nomark _)) (pss_cons (Wcl.ps_ddelT (hu_of hr) (pe_fld (pv 0) rfl) (pv 2))
      (pss_one (ps_dput (hu_of hr) (pe_fld (pv 0) rfl) (pv 2) pe_bl rfl))) pss_nil))) pss_nil)))), ?_⟩
    rw [show L2.start ["self", "worths", "worth"] [.ref A.ta, .ref l] = [some (.ref A.ta), some (.ref l), none] from rfl]
    try dsimp only [cxOf]
    have c1 := T.cl_Tally
    have n1 := T.na_Tally_places
    have n2 := T.na_Tally_loose
    have line : (1000000 : Nat) < sizeLine := by decide
    walk_at "wp"
    refine ⟨⟨xs, SqL.of hl⟩, loopL (xs := xs) (fun i σ' H' => ∃ y G', σ' = [some (.ref A.ta), some (.ref l), y] ∧ Ks [A.pc, A.ls] H H' ∧ Tl T.o_Tally H' A (L ++ ws.drop i) G' Z ∧ (∀ y ∈ G, y ∈ G') ∧ ∀ y ∈ ws.take i, isT y = true → y ∉ L ++ ws.drop i → y ∈ G') ⟨_, G, rfl, Ks.refl, by simpa using tl, fun _ h => h, fun y hy => by simp at hy⟩ (fun i σ' H' _ h => ?_) ?_ ?_⟩
    · obtain ⟨_, _, _, k, _⟩ := h
      refine SqL.of (k.keep _ _ (fun m => ?_) hl)
      obtain ⟨kp, hp, _⟩ := tl.hp
      obtain ⟨kl, hk, _⟩ := tl.hl
      simp only [List.mem_cons, List.not_mem_nil, or_false] at m
      rcases m with m | m
      · exact ne_of hl hp (fun q => nomatch q) m
      · exact ne_of hl hk (fun q => nomatch q) m
    · rintro i x σ' H1 hi ⟨y, G', rfl, k1, t1, g1, g2⟩
      obtain ⟨z, hz, w⟩ := pl.get hi
      have w1 := w.keep k1.tk
      have il := (List.getElem?_eq_some_iff.mp hz).1
      have ed : ws.drop i = z :: ws.drop (i + 1) := by
        rw [List.drop_eq_getElem_cons il, (List.getElem?_eq_some_iff.mp hz).2]
      have pz : Like (L ++ ws.drop i) ((L ++ ws.drop (i + 1)) ++ [z]) := by
        rw [ed]
        refine Like.perm ?_
        rw [List.append_assoc]
        exact List.Perm.append_left L (List.perm_append_comm (l₁ := [z]) (l₂ := ws.drop (i + 1)))
      have t1 := t1.like pz
      have g2 : ∀ y ∈ ws.take i, isT y = true → y ∉ (L ++ ws.drop (i + 1)) ++ [z] → y ∈ G' := fun y hy ty n => g2 y hy ty fun m => n ((pz.mem ty).mp m)
      walk_at "wp"
      refine ⟨x, z, rfl, w1, fun H2 s2 => ?_⟩
      have t2 := t1.same s2
      obtain ⟨t, rfl, ht⟩ := w1.keep (Same.tk s2)
      have k2 : Ks [A.pc, A.ls] H H2 := k1.trans (Ks.same s2)
      rw [List.take_add_one, hz]
      generalize L ++ ws.drop (i + 1) = L' at *
      clear t1 k1 s2 ed pz
      cases c : isT z with
      | false =>
        walk_at "wp"
        refine ⟨_, G', rfl, k2, t2.like fun y ty => ?_, g1, fun y hy ty n => ?_⟩
        · rw [cn_app, cn_one, if_neg, Nat.add_zero]
          rintro rfl
          rw [c] at ty; cases ty
        · have e : y ≠ z := by rintro rfl; rw [c] at ty; cases ty
          rcases List.mem_append.mp hy with hy | hy
          · refine g2 y hy ty fun m => ?_
            rcases List.mem_append.mp m with m | m
            · exact n m
            · exact e (List.mem_singleton.mp m)
          · exact absurd (by simpa using hy) e
      | true =>
        have hi2 := t2.hi
        obtain ⟨kp, hp, pp⟩ := t2.hp
        obtain ⟨kl, hk, kk⟩ := t2.hl
        have kpl := pp.len t2.lz
        have zs := t2.zs
        have mz : z ∈ Z := t2.lz z (by simp) c
        have ne1 := t2.ne1
        have gk := DGet.t (k := keyT z) hp ht
        rw [pp.vl z c (by simp), cn_app, cn_one, if_pos rfl] at gk
        walk_at "wp"
        refine ⟨A.pc, _, rfl, gk, ?_⟩
        walk_at "wp"
        refine Wcl.rsub_ ?_
        rw [show ((cn L' z + 1 : Nat) : Int) - 1 = (cn L' z : Int) by omega]
        refine ⟨_, DPut.t (k := keyT z) hp ht (by omega), ?_⟩
        have hp3 : upd H2 A.pc (.dT (putK kp (keyT z) (.int (cn L' z)))) A.pc = some (.dT (putK kp (keyT z) (.int (cn L' z)))) := upd_same
        have ht3 := Tk.dT (o := .dT (putK kp (keyT z) (.int (cn L' z)))) hp _ _ ht
        have hi3 : upd H2 A.pc (.dT (putK kp (keyT z) (.int (cn L' z)))) A.ta = _ := (upd_ne ne1.1).trans hi2
        have hk3 : upd H2 A.pc (.dT (putK kp (keyT z) (.int (cn L' z)))) A.ls = _ := (upd_ne t2.ne.symm).trans hk
        have k3 : Ks [A.pc, A.ls] H2 (upd H2 A.pc (.dT (putK kp (keyT z) (.int (cn L' z))))) := ⟨fun a o n e => by
          rw [upd_ne (fun q : a = A.pc => n (by rw [q]; simp))]; exact e, Tk.dT hp⟩
        generalize upd H2 A.pc (.dT (putK kp (keyT z) (.int (cn L' z)))) = H3 at hp3 ht3 hi3 hk3 k3
        have gk3 := DGet.t (k := keyT z) hp3 ht3
        rw [valV_put, if_pos rfl] at gk3
        have kl3 : (putK kp (keyT z) (.int (cn L' z))).length ≤ 1000001 := by have := length_putK kp (keyT z) (.int (cn L' z)); omega
        walk_at "wp"
        refine ⟨A.pc, _, rfl, gk3, ?_⟩
        walk_at "wp"
        refine ite_ (fun e => ?_) (fun e => ?_)
        · have e0 : z ∉ L' := cn_zero.mp (by injection e with e; omega)
          walk_at "wp"
          refine ⟨A.pc, _, keyT z, t, rfl, rfl, hp3, ht3, by rw [valV_put, if_pos rfl]; rfl, ?_⟩
          have p4 := pp.less0 (x := .int (cn L' z)) c e0
          have hp4 : upd H3 A.pc (.dT (dropK (putK kp (keyT z) (.int (cn L' z))) (keyT z))) A.pc = some (.dT (dropK (putK kp (keyT z) (.int (cn L' z))) (keyT z))) := upd_same
          have ht4 := Tk.dT (o := .dT (dropK (putK kp (keyT z) (.int (cn L' z))) (keyT z))) hp3 _ _ ht3
          have hi4 : upd H3 A.pc (.dT (dropK (putK kp (keyT z) (.int (cn L' z))) (keyT z))) A.ta = _ := (upd_ne ne1.1).trans hi3
          have hk4 : upd H3 A.pc (.dT (dropK (putK kp (keyT z) (.int (cn L' z))) (keyT z))) A.ls = _ := (upd_ne t2.ne.symm).trans hk3
          have k4 : Ks [A.pc, A.ls] H2 (upd H3 A.pc (.dT (dropK (putK kp (keyT z) (.int (cn L' z))) (keyT z)))) := k3.trans ⟨fun a o n e => by
            rw [upd_ne (fun q : a = A.pc => n (by rw [q]; simp))]; exact e, Tk.dT hp3⟩
          generalize upd H3 A.pc (.dT (dropK (putK kp (keyT z) (.int (cn L' z))) (keyT z))) = H4 at hp4 ht4 hi4 hk4 k4
          walk_at "wp"
          have kll : kl.length ≤ 1000000 := by rw [kk.len]; exact Nat.le_trans (sub_len t2.nd t2.gz) zs
          refine ⟨A.ls, _, rfl, DPut.t (k := keyT z) hk4 ht4 (by omega), ?_⟩
          have k5 : Ks [A.pc, A.ls] H (upd H4 A.ls (.dT (putK kl (keyT z) (.bl true)))) := (k2.trans k4).trans ⟨fun a o n e => by
            rw [upd_ne (fun q : a = A.ls => n (by rw [q]; simp))]; exact e, Tk.dT hk4⟩
          obtain ⟨G2, m1, m2, m3, m4⟩ : ∃ G2, Wth.Keyed (putK kl (keyT z) (.bl true)) G2 ∧ G2.Nodup ∧ (∀ y ∈ G', y ∈ G2) ∧ (z ∈ G2 ∧ (∀ y ∈ G2, y ∈ Z) ∧ ∀ y ∈ G2, isT y = true) := by
            by_cases m : z ∈ G'
            · exact ⟨G', kk.put2 m _, t2.nd, fun _ h => h, m, t2.gz, t2.gt⟩
            · refine ⟨G' ++ [z], kk.put m _, List.nodup_append.mpr ⟨t2.nd, by simp, fun a ha b hb e => m (by rw [List.mem_singleton] at hb; rw [← hb, ← e]; exact ha)⟩, fun y hy => List.mem_append_left _ hy, by simp, fun y hy => ?_, fun y hy => ?_⟩
              · rcases List.mem_append.mp hy with hy | hy
                · exact t2.gz y hy
                · rw [List.mem_singleton.mp hy]; exact mz
              · rcases List.mem_append.mp hy with hy | hy
                · exact t2.gt y hy
                · rw [List.mem_singleton.mp hy]; exact c
          refine ⟨_, G2, rfl, k5, ⟨(upd_ne ne1.2).trans hi4, ⟨_, (upd_ne t2.ne).trans hp4, p4⟩, ⟨_, upd_same, m1⟩, m2, t2.ne, zs, fun y hy ty => t2.lz y (List.mem_append_left _ hy) ty, m4.2.1, m4.2.2⟩, fun y hy => m3 y (g1 y hy), fun y hy ty n => ?_⟩
          by_cases ez : y = z
          · rw [ez]; exact m4.1
          · rcases List.mem_append.mp hy with hy | hy
            · refine m3 y (g2 y hy ty fun m => ?_)
              rcases List.mem_append.mp m with m | m
              · exact n m
              · exact ez (List.mem_singleton.mp m)
            · exact absurd (by simpa using hy) ez
        · have e1 : z ∈ L' := cn_pos.mp (by
            have : (cn L' z : Int) ≠ 0 := fun q => e (by rw [q])
            omega)
          walk_at "wp"
          refine ⟨_, G', rfl, k2.trans k3, ⟨hi3, ⟨_, hp3, pp.less1 c e1⟩, ⟨_, hk3, kk⟩, t2.nd, t2.ne, zs, fun y hy ty => t2.lz y (List.mem_append_left _ hy) ty, t2.gz, t2.gt⟩, g1, fun y hy ty n => ?_⟩
          have ez : y ≠ z := fun q => n (by rw [q]; exact e1)
          rcases List.mem_append.mp hy with hy | hy
          · refine g2 y hy ty fun m => ?_
            rcases List.mem_append.mp m with m | m
            · exact n m
            · exact ez (List.mem_singleton.mp m)
          · exact absurd (by simpa using hy) ez
    · rintro σ' H1 ⟨y, G', rfl, k1, t1, g1, g2⟩
      rw [pl.len, List.drop_length, List.append_nil] at t1
      rw [pl.len, List.drop_length, List.append_nil, List.take_length] at g2
      walk_at "wp"
      exact q G' _ t1 g1 g2 k1
def spTLoosened (o : Addr) : Sp := fun vs H Q _ => ∃ (A : TAd) (L G Z : List W), vs = [.ref A.ta] ∧ Tl o H A L G Z ∧ ∀ p ys ls' H', H p = none → H' p = some (.lst ys) → Pile H' ys (G.filter fun y => decide (y ∉ L)) → (∀ y ∈ G, isT y = true) → Tl o H' ⟨A.ta, A.dta, A.pc, ls'⟩ L [] Z → H ls' = none → ls' ≠ p → Ks [A.ta] H H' → Q (.ref p) H'
theorem ok_Tally_loosened (T : Txt P w K mg) : FnOk P w K mg base CX0 1 T.f_Tally_loosened T.fd_Tally_loosened ["self"] (spTLoosened T.o_Tally) := by
  refine T.F_Tally_loosened.ok sc_Tally_loosened (fun vs H Q E h => ?_) (fun cdv A outer s H vs Q E hr h => ?_)
  · obtain ⟨A, L, G, Z, rfl, _⟩ := h
    rfl
  · obtain ⟨A, L, G, Z, rfl, tl, q⟩ := h
    refine ⟨_, (pss_cons (ps_lock (ps_setLc (i := 1) (own := [("thing", 2)]) rfl sc_Tally_loosened.nd rfl rfl (sw_true rfl rfl rfl (by decide +kernel)) (pi_keys (pe_fld (pv 0) rfl)) (blkOk_by (N := ["self", "found", "thing"]) (sc := defScope s_Tally_loosened) (by decide +kernel)) (fun _ _ _ _ _ => pg_name (i := 2) sc_Tally_loosened.nd rfl (Or.inl rfl)) (fun _ _ _ _ _ => pts_one (pt_cmp (pc_dnotin (hu_of hr) (pv 2) (show PE _ _ (tFld K _ _) from pe_fld (pv 0) rfl)))) (fun _ _ _ _ _ => (pv 2))))
      (pss_cons (ps_fld (pv 0) pe_dnewT rfl)
      (pss_one (ps_ret (pv 1))))), ?_⟩
    rw [show L2.start ["self", "found", "thing"] [.ref A.ta] = [some (.ref A.ta), none, none] from rfl]
    try dsimp only [cxOf]
    have c1 := T.cl_Tally
    have n1 := T.na_Tally_places
    have n2 := T.na_Tally_loose
    have line : (1000000 : Nat) < sizeLine := by decide
    have hi := tl.hi
    obtain ⟨kp, hp, pp⟩ := tl.hp
    obtain ⟨kl, hk, kk⟩ := tl.hl
    have ne1 := tl.ne1
    have gl : G.length ≤ 1000000 := Nat.le_trans (sub_len tl.nd tl.gz) tl.zs
    walk_at "wp"
    refine Wtc.lockS hk (fun od => ?_)
    walk_at "wp"
    refine Wcl.lcKF rfl ((upd_ne ne1.2).trans hi) c1 n2 rfl upd_same (fun D hD => ?_)
    have nD : D ≠ A.ls := fun e => by rw [e, upd_same] at hD; cases hD
    have hD0 : H D = none := by rw [upd_ne nD] at hD; exact hD
    refine Wtc.loopCKT (fun j H' => Kp A.ls H H' ∧ H' A.ls = some (.frz od (.dT kl)) ∧ ∃ acc, H' D = some (.lst acc) ∧ Pile H' acc ((G.take j).filter fun y => decide (y ∉ L))) ⟨fun a o ne e => ?_, ?_, [], upd_same, Pile.nil⟩ (fun j H' _ h => h.2.1) ?_ ?_
    · rw [upd_ne (ne_of_none e hD0), upd_ne ne]; exact e
    · rw [upd_ne nD.symm, upd_same]
    · rintro j k vv kq H9 hj ⟨k9, hd9, acc, h9, p9⟩ hq
      have hk2 : (G.map keyT)[j]? = some k := by
        have := id kk
        unfold Wth.Keyed at this
        rw [← this, List.getElem?_map, hj] <;> rfl
      rw [List.getElem?_map] at hk2
      obtain ⟨z, hz, rfl⟩ := Option.map_eq_some_iff.mp hk2
      have jl := (List.getElem?_eq_some_iff.mp hz).1
      have tz := tl.gt z (List.mem_of_getElem? hz)
      have al : acc.length < sizeLine := by
        rw [p9.len]
        have := List.length_filter_le (fun y => decide (y ∉ L)) (G.take j)
        rw [List.length_take] at this
        omega
      have hi9 := k9 _ _ ne1.2 hi
      have hp9 := k9 _ _ tl.ne hp
      walk_at "wp"
      refine ⟨A.pc, _, rfl, DGet.t (k := keyT z) hp9 hq, ?_⟩
      rw [pp.some tz]
      refine ⟨_, rfl, ?_⟩
      by_cases c : z ∈ L
      · rw [decide_eq_true c, if_neg (by decide)]
        refine ⟨k9, hd9, acc, h9, ?_⟩
        rw [List.take_add_one, hz, List.filter_append, Wfa.filt_no (p := fun y => decide (y ∉ L)) (decide_eq_false (fun q => q c)), List.append_nil]
        exact p9
      · rw [decide_eq_false c, if_pos (by decide)]
        walk_at "wp"
        refine ⟨acc, h9, al, fun a o ne e => ?_, ?_, _, upd_same, ?_⟩
        · rw [upd_ne (ne_of_none e hD0)]
          exact k9 a o ne e
        · rw [upd_ne nD.symm]; exact hd9
        · rw [List.take_add_one, hz, List.filter_append, Wfa.filt_yes (p := fun y => decide (y ∉ L)) (decide_eq_true c)]
          exact (Pile.app p9 (Pile.one ⟨kq, rfl, hq⟩)).keep (Tk.lst h9)
    · rintro H9 ⟨k9, hd9, acc, h9, p9⟩
      rw [show kl.length = G.length from kk.len, List.take_length] at p9
      have hi9 := k9 _ _ ne1.2 hi
      have hp9 := k9 _ _ tl.ne hp
      walk_at "wp"
      refine ⟨hd9, ?_⟩
      have sm : Same H (upd H9 A.ls (.dT kl)) := fun a o e => by
        by_cases m : a = A.ls
        · rw [m, upd_same]; rw [m, hk] at e; exact e
        · rw [upd_ne m]; exact k9 a o m e
      have hD9 : upd H9 A.ls (.dT kl) D = some (.lst acc) := by rw [upd_ne nD]; exact h9
      have hiA : upd H9 A.ls (.dT kl) A.ta = _ := (upd_ne ne1.2).trans hi9
      have pA : Pile (upd H9 A.ls (.dT kl)) acc _ := p9.keep fun t xs e => by
        rw [upd_ne (ne_of e hd9 (fun q => nomatch q))]; exact e
      generalize upd H9 A.ls (.dT kl) = HA at sm hD9 hiA pA
      walk_at "wp"
      rename_i l2 hl2
      have nt2 : A.ta ≠ l2 := ne_of_none hiA hl2
      have nD2 : l2 ≠ D := (ne_of_none hD9 hl2).symm
      have ntD : D ≠ A.ta := ne_of hD9 hiA (fun q => nomatch q)
      walk_at "wp"
      have sB := sm.trans (same_new (o := .dT []) hl2)
      have kB : Ks [A.ta] H (upd (upd HA l2 (.dT [])) A.ta (.ins T.o_Tally A.dta [("places", .ref A.pc), ("loose", .ref l2)])) := (Ks.same sB).trans ⟨fun a o n e => by rw [upd_ne (fun q : a = A.ta => n (by rw [q]; simp))]; exact e, fun t xs e => by
        rw [upd_ne (ne_of e ((upd_ne nt2).trans hiA) (fun q => nomatch q))]; exact e⟩
      refine q D acc l2 _ hD0 ?_ (pA.keep ?_) tl.gt ⟨upd_same, ⟨kp, ?_, pp⟩, ⟨[], ?_, rfl⟩, .nil, ?_, tl.zs, tl.lz, (fun _ h => nomatch h), fun _ h => nomatch h⟩ (sm.free hl2) nD2 kB
      · rw [upd_ne ntD, upd_ne nD2.symm]; exact hD9
      · intro t xs e
        rw [upd_ne (ne_of e hiA (fun q => nomatch q)), upd_ne (ne_of_none e hl2)]; exact e
      · exact kB.keep _ _ (by simp [ne1.1.symm]) hp
      · show upd (upd HA l2 (.dT [])) A.ta _ l2 = _
        rw [upd_ne nt2.symm, upd_same]
      · exact ne_of_none (sm _ _ hp) hl2

end
end K28

namespace K28
open PySem PySem.Spec PyProof.Rows L2 Wp Wq Wr Wpm
local macro_rules | `(tactic| walk_at "ne") => `(tactic| first
  | assumption
  | (refine Ne.symm ?_; assumption)
  | exact ne_of_none (by assumption) (by assumption)
  | exact (ne_of_none (by assumption) (by assumption)).symm
  | exact ne_of (by assumption) (by assumption) (by intro q; cases q))
local macro_rules | `(tactic| walk_at "hp") => `(tactic| first
  | assumption
  | exact upd_same
  | (refine (upd_ne ?_).trans ?_; (walk_at "ne"); (walk_at "hp")))
local macro_rules | `(tactic| walk_at "hq") => `(tactic| first
  | assumption
  | exact upd_same
  | (refine same_new (by assumption) _ _ ?_; (walk_at "hq"))
  | (refine Wp.look (by assumption) ?_; (walk_at "hq")))
local macro_rules | `(tactic| walk_at "sm") => `(tactic| first
  | assumption
  | exact fun _ _ h => h
  | exact same_new (by assumption)
  | (refine Same.trans ?_ (same_new (by assumption)); (walk_at "sm"))
  | (refine Same.trans ?_ (by assumption); (walk_at "sm")))
local macro_rules | `(tactic| walk_at "kp") => `(tactic| first
  | assumption
  | exact Kp.refl _ _
  | (refine Kp.trans ?_ (Kp.new (by assumption)); (walk_at "kp"))
  | (refine Kp.trans ?_ (Same.kp (by assumption)); (walk_at "kp"))
  | (refine Wp.kpT ?_ (by assumption); (walk_at "kp"))
  | exact Same.kp (by walk_at "sm"))
local macro_rules | `(tactic| walk_at "sq") => `(tactic| first
  | assumption
  | exact SqL.of (by walk_at "hp")
  | exact SqT.of (by walk_at "hp"))
local macro_rules | `(tactic| walk_at "kind") => `(tactic| first
  | assumption
  | exact Kind.int _
  | exact Kind.str _
  | exact Kind.bl _
  | exact Kind.non
  | exact Kind.tup (by walk_at "hp")
  | exact Kind.lst (by walk_at "hp")
  | exact Kind.dK (by walk_at "hp"))
local macro_rules | `(tactic| walk_at "w1") => `(tactic| first
  | (with_reducible refine Wp.seq ?_)
  | (with_reducible refine Wp.nx_mk ?_)
  | (with_reducible refine Wp.rt_mk ?_)
  | (with_reducible refine Wp.bk_mk ?_)
  | (with_reducible refine Wp.ct_mk ?_)
  | (with_reducible refine Wp.next ?_)
  | (with_reducible refine Wp.asg ?_)
  | ((with_reducible refine' Wp.gname ?e ?_); (case e => (try dsimp only [List.set, L2.wipe, List.map_cons, List.map_nil]); (try exact rfl)))
  | (with_reducible refine Wp.gsub ?_)
  | (with_reducible refine Wp.ret ?_)
  | (with_reducible refine Wp.retN ?_)
  | (with_reducible refine Wp.drop ?_)
  | (with_reducible refine Wp.dput ?_)
  | (with_reducible refine Wp.ifs ?_)
  | ((with_reducible refine' Wp.var ?h ?_); (case h => exact rfl))
  | (with_reducible refine Wp.con ?_)
  | (with_reducible refine Wp.op ?_)
  | (with_reducible refine Wp.un ?_)
  | (with_reducible refine Wp.cb ?_)
  | (with_reducible refine Wp.anil ?_)
  | (with_reducible refine Wp.acons ?_)
  | (with_reducible refine Wp.call ?_)
  | (with_reducible refine Wp.test ?_)
  | (with_reducible refine Wp.tb_ ?_)
  | (with_reducible refine Wp.and_ ?_)
  | (with_reducible refine Wp.or_ ?_)
  | (with_reducible refine Wp.not_ ?_)
  | (with_reducible refine Wp.andV ?_)
  | (with_reducible refine Wp.orV ?_)
  | (with_reducible refine Wp.notV ?_)
  | (with_reducible refine Wp.rI0_ ?_)
  | (with_reducible refine Wp.rU_ ?_)
  | ((with_reducible refine Wp.rEq_ ?k ?_); (case k => exact rfl))
  | ((with_reducible refine Wp.rNe_ ?k ?_); (case k => exact rfl))
  | (with_reducible refine Wp.gcons ?_)
  | (with_reducible refine Wp.gnil ?_)
  | ((with_reducible refine' Wp.gtup ?h ?e ?_); (case h => walk_at "sq"); (case e => exact rfl))
  | (with_reducible refine Wp.sl ?_)
  | (with_reducible refine Wp.part ?_)
  | (with_reducible refine Wp.nopart ?_)
  | (with_reducible refine Wp.ifE ?_)
  | (with_reducible refine Wp.bm0 ?_)
  | (with_reducible refine Wp.bm ?_)
  | (with_reducible refine Wp.lcR1 ?_)
  | (with_reducible refine Wp.lcR2 ?_)
  | (with_reducible refine Wp.lcL ?_)
  | (with_reducible refine Wp.chain ?_)
  | (with_reducible refine Wp.lc2V ?_)
  | (with_reducible refine Wp.piL ?_)
  | (with_reducible refine Wp.yes ?_)
  | (with_reducible refine Wp.dinI ?_)
  | (with_reducible refine Wp.dninI ?_)
  | (with_reducible refine Wp.dget ?_)
  | ((with_reducible refine' ⟨?k, ?_⟩); (case k => show L2.wipe _ _ = L2.wipe _ _; exact rfl))
  | ((with_reducible refine' ⟨?k, ?_⟩); (case k => show V.non = V.non; exact rfl))
  | (with_reducible refine Wp.forR1 ?_)
  | (with_reducible refine Wp.forR2 ?_)
  | (with_reducible refine Wp.forL ?_)
  | (with_reducible refine Wp.forT ?_)
  | ((with_reducible refine' ⟨?k, ?_⟩); (case k => exact Wp.tyvL (by walk_at "hp")))
  | ((with_reducible refine' Wp.rev_ ?k ?_); (case k => walk_at "hp"))
  | ((with_reducible refine' Wp.isi ?k ?h ?_); (case k => walk_at "kind"); (case h => decide))
  | ((with_reducible refine' Wp.typ ?k ?_); (case k => walk_at "kind"))
  | (with_reducible refine Wp.slS ?k ?_; (case k => assumption))
  | (with_reducible refine iteT ?_)
  | (with_reducible refine iteF ?_)
  | (with_reducible refine Wtc.dcL ?_)
  | (with_reducible refine Wst.step ?_)
  | (with_reducible refine Wtc.dget2 ?_)
  | (with_reducible refine Wtc.lcZ ?_)
  | (with_reducible refine Wrw.loop_setLc ?_)
  | (with_reducible refine Wz.par ?_)
  | (with_reducible refine Wz.forN ?_)
  | (with_reducible refine Wz.dcL ?_)
  | (with_reducible refine Wz.forZ ?_)
  | (with_reducible refine Wz.lcR3 ?_)
  | (with_reducible refine Wc.revL ?_)
  | (with_reducible refine Wd.nm ?_)
  | (with_reducible refine Wd.nget ?_)
  | ((with_reducible refine Wd.tnew ?_); intro p hp)
  | (with_reducible refine Wd.pikn ?_)
  | (with_reducible refine Wt.m1 ?_)
  | (with_reducible refine Wt.m0 ?_)
  | ((with_reducible refine' ⟨?k, ?_⟩); (case k => show ∃ a, _ = V.str a; exact ⟨_, rfl⟩))
  | (with_reducible refine Wt.js_cons ?_)
  | (with_reducible refine Wt.fmt_ ?_)
  | (with_reducible refine Wp.pcons ?_)
  | (with_reducible refine Wp.pnil ?_)
  | ((with_reducible refine' Wp.iteBnT ?h ?_); (case h => show isB _ _ = false; decide))
  | ((with_reducible refine' Wp.iteBnF ?h ?_); (case h => show isB _ _ = true; decide))
  | ((with_reducible refine' Wp.iteBt ?h ?_); (case h => show isB _ _ = true; decide))
  | ((with_reducible refine' Wp.iteBf ?h ?_); (case h => show isB _ _ = false; decide))
  | (with_reducible refine Wp.iteT' ?_)
  | (with_reducible refine Wp.iteF' ?_)
  | (with_reducible refine Wp.rNT_ ?_)
  | ((with_reducible refine Wp.lst ?_))
  | ((with_reducible refine Wp.tup ?_))
  | ((with_reducible refine' Wp.ixL ?h ?e ?_); (case h => walk_at "sq"); (case e => exact rfl))
  | ((with_reducible refine' Wp.ixT ?h ?e ?_); (case h => walk_at "sq"); (case e => exact rfl))
  | ((with_reducible refine' Wp.setL ?h ?e ?_); (case h => walk_at "hp"); (case e => exact rfl))
  | ((with_reducible refine Wp.rI_ ?k ?_); (case k => first | (show (0:Int) < _; omega) | (show CPow _ _; refine' ⟨?_, ?_, ?_⟩ <;> omega) | (show CDiv _ _; refine' ⟨?_, ?_⟩ <;> omega) | (show CMul _ _; refine' Or.inl ⟨?_, ?_⟩ <;> omega) | (show CMul _ _; refine' Or.inr ⟨?_, ?_⟩ <;> first | omega | decide) | (show CDivW _ _; refine' wide_div (b := 240) ?_ ?_ ?_ ?_ <;> first | omega | decide)))
  | ((with_reducible refine ⟨?k, ?_⟩); (case k => first | exact Nat.zero_le _ | (exact Nat.le_of_ble_eq_true rfl)); intro p hp)
  | ((with_reducible refine' ⟨_, _, rfl, .inl ?k, ?_⟩); (case k => walk_at "sq"))
  | ((with_reducible refine' ⟨_, _, rfl, .inr ?k, ?_⟩); (case k => walk_at "sq"))
  | (with_reducible refine ⟨_, rfl, ?_⟩)
  | (with_reducible refine ⟨_, _, rfl, rfl, ?_⟩)
  | (with_reducible refine ⟨_, _, rfl, ?_⟩))
local macro_rules | `(tactic| walk_at "wp") => `(tactic| repeat (walk_at "w1"))

/-- a bag: three ints, the second below 2 ^ 62, the third at most n -/
def Bag (H : Hp) (b : Addr) (n : Nat) : Prop := ∃ x y z : Int, H b = some (.lst [.int x, .int y, .int z]) ∧ 0 ≤ y ∧ y < 4611686018427387904 ∧ 0 ≤ z ∧ z ≤ n
theorem Bag.mono {H : Hp} {b : Addr} {n m : Nat} (h : Bag H b n) (k : n ≤ m) : Bag H b m := by
  obtain ⟨x, y, z, h1, h2, h3, h4, h5⟩ := h
  exact ⟨x, y, z, h1, h2, h3, h4, by omega⟩
theorem Bag.ne_new {H : Hp} {b p : Addr} {n : Nat} (h : Bag H b n) (k : H p = none) : p ≠ b := by
  obtain ⟨x, y, z, h1, h⟩ := h
  exact (ne_of_none h1 k).symm
theorem Bag.keep {H H' : Hp} {b : Addr} {n : Nat} (h : Bag H b n) (k : Same H H') : Bag H' b n := by
  obtain ⟨x, y, z, h1, h⟩ := h
  exact ⟨x, y, z, k _ _ h1, h⟩
theorem Bag.upd {H : Hp} {b r : Addr} {n : Nat} {o : HO} (h : Bag H b n) (k : r ≠ b) : Bag (L2.upd H r o) b n := by
  obtain ⟨x, y, z, h1, h⟩ := h
  exact ⟨x, y, z, by rw [upd_ne k.symm]; exact h1, h⟩

section
variable {P : Program} {w : World} {K : PySem.W.Frag} {mg : Str → Option Value} {base : Heap}
def spCell (K : PySem.W.Frag) : Sp := fun vs H Q _ => ∃ (a : Addr) (ns : List Int) (k : Nat), vs = [.ref a, .int k] ∧ SqL K H a (ns.map V.int) ∧ ∀ v, Q (.int v) H
theorem ok_cell_at (T : Txt P w K mg) : FnOk P w K mg base CX0 1 T.f_cell_at T.fd_cell_at ["script", "k"] (spCell K) := by
  refine T.F_cell_at.ok sc_cell_at (fun vs H Q E h => ?_) (fun cdv A outer s H vs Q E hr h => ?_)
  · obtain ⟨a, ns, k, rfl, _⟩ := h
    rfl
  · obtain ⟨a, ns, k, rfl, hS, q⟩ := h
    refine ⟨_, (pss_cons (ps_if (pt_cmpR op_lt (pv 1) (pe_callB call_len_seq (by rfl) T.n_len (by decide +kernel) (pa_cons (pv 0) pa_nil)) (nomark _)) (pss_one (ps_ret (pe_ix ix_list (pv 0) (pv 1) (fun _ _ => rfl)))) pss_nil)
      (pss_one (ps_ret pe_int))), ?_⟩
    rw [show L2.start ["script", "k"] [.ref a, .int k] = [some (.ref a), some (.int k)] from rfl]
    try dsimp only [cxOf]
    walk_at "wp"
    refine ite_ (fun c => ?_) (fun c => ?_)
    · walk_at "wp"
      have hk : k < ns.length := by
        rw [List.length_map] at c
        omega
      refine ixL hS (atI_nat (v := .int ns[k]) ?_) ?_
      · rw [List.getElem?_map, List.getElem?_eq_getElem hk]
        rfl
      · exact q _
    · walk_at "wp"
      exact q _

def spBag : Sp := fun vs H Q _ => ∃ (c : Int) (p : Nat), vs = [.int c, .int p] ∧ p ≤ 100 ∧ ∀ b H', H b = none → Bag H' b 0 → Same H H' → Q (.ref b) H'
theorem ok_bag (T : Txt P w K mg) : FnOk P w K mg base CX0 1 T.f_bag T.fd_bag ["cell", "place"] spBag := by
  refine T.F_bag.ok sc_bag (fun vs H Q E h => ?_) (fun cdv A outer s H vs Q E hr h => ?_)
  · obtain ⟨c, p, rfl, _⟩ := h
    rfl
  · obtain ⟨c, p, rfl, hp, q⟩ := h
    refine ⟨_, (pss_one (ps_ret (pe_lst (pa_cons (pe_callB (call_max2 rfl) (by rfl) T.n_max (by decide +kernel) (pa_cons pe_int (pa_cons (pe_op op_sub (pv 0) (pe_op op_pow pe_int pe_int)) pa_nil))) (pa_cons (pe_op op_add (pe_op op_mod (pv 0) pe_int) (pe_op op_mul pe_int (pv 1))) (pa_cons pe_int pa_nil)))))), ?_⟩
    rw [show L2.start ["cell", "place"] [.int c, .int p] = [some (.int c), some (.int p)] from rfl]
    try dsimp only [cxOf]
    walk_at "wp"
    refine q _ _ ‹_› ⟨_, _, _, upd_same, ?_, ?_, by omega, by omega⟩ (same_new ‹_›)
    · have := Int.emod_nonneg c (show (2305843009213693951 : Int) ≠ 0 by decide)
      omega
    · have := Int.emod_lt_of_pos c (show (0 : Int) < 2305843009213693951 by decide)
      omega

def spDraw : Sp := fun vs H Q _ => ∃ (b : Addr) (n : Nat) (m : Int), vs = [.ref b, .int m] ∧ Bag H b n ∧ n < 1000000 ∧ 0 < m ∧ m < 2 ^ 240 ∧ ∀ v H', 0 ≤ v → v < m → Bag H' b (n + 1) → Kp b H H' → Q (.int v) H'
theorem ok_draw (T : Txt P w K mg) : FnOk P w K mg base CX0 1 T.f_draw T.fd_draw ["bag", "many"] spDraw := by
  refine T.F_draw.ok sc_draw (fun vs H Q E h => ?_) (fun cdv A outer s H vs Q E hr h => ?_)
  · obtain ⟨b, n, m, rfl, _⟩ := h
    rfl
  · obtain ⟨b, n, m, rfl, ⟨x, y, z, hb, hy, hy2, hz, hz2⟩, hn, hm, hm2, k⟩ := h
    refine ⟨_, (pss_cons (ps_if (pt_cmpR op_gt (pe_ix ix_list (pv 0) pe_int (fun _ _ => rfl)) pe_int (nomark _)) (pss_cons (ps_set (i := 2) sc_draw.nd rfl (.inl rfl) (pe_op op_mod (pe_ix ix_list (pv 0) pe_int (fun _ _ => rfl)) (pv 1)))
      (pss_cons (ps_asg (pe_op op_fdivW (pe_ix ix_list (pv 0) pe_int (fun _ _ => rfl)) (pv 1)) (pg_sub (pv 0) pe_int set_list))
      (pss_one (ps_ret (pv 2))))) pss_nil)
      (pss_cons (ps_asg (pe_op op_add (pe_ix ix_list (pv 0) pe_int (fun _ _ => rfl)) pe_int) (pg_sub (pv 0) pe_int set_list))
      (pss_cons (ps_set (i := 3) sc_draw.nd rfl (.inl rfl) (pe_op op_mod (pe_op op_pow (pe_op op_add (pe_ix ix_list (pv 0) pe_int (fun _ _ => rfl)) (pe_op op_mul pe_int (pe_ix ix_list (pv 0) pe_int (fun _ _ => rfl)))) pe_int) pe_int))
      (pss_cons (ps_set (i := 3) sc_draw.nd rfl (.inl rfl) (pe_op op_mod (pe_op op_pow (pe_op op_add (pv 3) (pe_op op_mul pe_int (pe_ix ix_list (pv 0) pe_int (fun _ _ => rfl)))) pe_int) pe_int))
      (pss_one (ps_ret (pe_op op_mod (pe_op op_fdiv (pv 3) pe_int) (pv 1)))))))), ?_⟩
    rw [show L2.start ["bag", "many", "found", "mixed"] [.ref b, .int m] = [some (.ref b), some (.int m), none, none] from rfl]
    try dsimp only [cxOf]
    walk_at "wp"
    refine ite_ (fun c => ?_) (fun c => ?_)
    · walk_at "wp"
      refine k _ _ ?_ ?_ ⟨_, _, _, upd_same, hy, hy2, hz, by omega⟩ Kp.at
      · exact Int.emod_nonneg _ (by omega)
      · exact Int.emod_lt_of_pos _ hm
    · walk_at "wp"
      refine k _ _ ?_ ?_ ⟨_, _, _, upd_same, hy, hy2, by omega, by omega⟩ Kp.at
      · exact Int.emod_nonneg _ (by omega)
      · exact Int.emod_lt_of_pos _ hm

def spWhole : Sp := fun vs H Q _ => ∃ (v : V) (T : String), vs = [v] ∧ Kind H v T ∧ Q (.bl (decide (T = "int"))) H
theorem ok_whole (T : Txt P w K mg) : FnOk P w K mg base CX0 1 T.f_whole T.fd_whole ["found"] spWhole := by
  refine T.F_whole.ok sc_whole (fun vs H Q E h => ?_) (fun cdv A outer s H vs Q E hr h => ?_)
  · obtain ⟨v, ty, rfl, _⟩ := h
    rfl
  · obtain ⟨v, ty, rfl, hk, q⟩ := h
    refine ⟨_, (pss_one (ps_ret (pe_and (pe_callB call_isi (by rfl) T.n_isinstance (by decide +kernel) (pa_cons (pv 0) (pa_cons (pe_bltn (v := .ty "int") (by rfl) T.n_int (by decide +kernel) rfl) pa_nil))) (pe_one (pe_not (pe_callB call_isi (by rfl) T.n_isinstance (by decide +kernel) (pa_cons (pv 0) (pa_cons (pe_bltn (v := .ty "bool") (by rfl) T.n_bool (by decide +kernel) rfl) pa_nil)))))))), ?_⟩
    rw [show L2.start ["found"] [v] = [some v] from rfl]
    try dsimp only [cxOf]
    walk_at "wp"
    by_cases e1 : ty = "int"
    · subst e1
      walk_at "wp"
      exact q
    · rw [decide_eq_false e1] at q
      by_cases e2 : ty = "bool"
      · subst e2
        walk_at "wp"
        exact q
      · rw [show isB ty "int" = false by unfold isB; rw [decide_eq_false e1, decide_eq_false e2] <;> rfl]
        walk_at "wp"
        exact q

def spSame : Sp := fun vs H Q _ => ∃ (v u : V) (z : W), vs = [v, u] ∧ IsW H v z ∧ IsW H u z ∧ Wok z ∧ Q (.bl true) H
theorem ok_same (T : Txt P w K mg) : FnOk P w K mg base CX0 2 T.f_same T.fd_same ["found", "due"] spSame := by
  have G_whole := ok_whole (base := base) T
  refine T.F_same.ok sc_same (fun vs H Q E h => ?_) (fun cdv A outer s H vs Q E hr h => ?_)
  · obtain ⟨v, u, z, rfl, _⟩ := h
    rfl
  · obtain ⟨v, u, z, rfl, hv, hu, hz, q⟩ := h
    have dv := hv.dp (K := K)
    have du := hu.dp (K := K)
    obtain ⟨t, rfl, ht⟩ := hv
    refine ⟨_, (pss_cons (ps_if (PW.pt (pw_or (pt_not (pt_val (pe_callB call_isi (by rfl) T.n_isinstance (by decide +kernel) (pa_cons (pv 0) (pa_cons (pe_bltn (v := .ty "tuple") (by rfl) T.n_tuple (by decide +kernel) rfl) pa_nil))))) (pw_or1 (pt_cmpR op_ne (pe_callB call_len_seq (by rfl) T.n_len (by decide +kernel) (pa_cons (pv 0) pa_nil)) pe_int (nomark _))))) (pss_one (ps_ret pe_bl)) pss_nil)
      (pss_one (ps_ret (pe_and (pe_callB call_isi (by rfl) T.n_isinstance (by decide +kernel) (pa_cons (pe_ix ix_tup (pv 0) pe_int (fun _ _ => rfl)) (pa_cons (pe_bltn (v := .ty "str") (by rfl) T.n_str (by decide +kernel) rfl) pa_nil))) (pe_and (pe_call G_whole (hr.mono (by decide)) (by rfl) T.g_whole T.F_whole.kp T.b_whole .nil pass0 (pa_cons (pe_ix ix_tup (pv 0) pe_int (fun _ _ => rfl)) pa_nil)) (pe_one (pe_cmpR (op_eqD hr.units) (pv 0) (pv 1) (nomark _)))))))), ?_⟩
    rw [show L2.start ["found", "due"] [.ref t, u] = [some (.ref t), some u] from rfl]
    try dsimp only [cxOf]
    walk_at "wp"
    refine iteN (fun e => absurd rfl e) (fun _ => ?_)
    walk_at "wp"
    refine ⟨_, _, rfl, .int _, ?_⟩
    walk_at "wp"
    refine ite_ (fun _ => ?_) (fun e => absurd rfl e)
    walk_at "wp"
    exact eqD dv du (wD_shaped hz) (Wq.eq_self (wD_shaped hz)) q

def spSamePile (K : PySem.W.Frag) : Sp := fun vs H Q _ => ∃ (a b : Addr) (xs ys : List V) (ws : List W), vs = [.ref a, .ref b] ∧ H a = some (.lst xs) ∧ H b = some (.lst ys) ∧ Pile H xs ws ∧ Pile H ys ws ∧ (∀ z ∈ ws, Wok z) ∧ ws.length ≤ 100000 ∧ Q (.bl true) H
theorem ok_same_pile (T : Txt P w K mg) : FnOk P w K mg base CX0 3 T.f_same_pile T.fd_same_pile ["found", "due"] (spSamePile K) := by
  have G_same := ok_same (base := base) T
  refine T.F_same_pile.ok sc_same_pile (fun vs H Q E h => ?_) (fun cdv A outer s H vs Q E hr h => ?_)
  · obtain ⟨a, b, xs, ys, ws, rfl, _⟩ := h
    rfl
  · obtain ⟨a, b, xs, ys, ws, rfl, ha, hb, pa, pb, hok, hl, q⟩ := h
    refine ⟨_, (pss_cons (ps_if (PW.pt (pw_or (pt_not (pt_val (pe_callB call_isi (by rfl) T.n_isinstance (by decide +kernel) (pa_cons (pv 0) (pa_cons (pe_bltn (v := .ty "list") (by rfl) T.n_list (by decide +kernel) rfl) pa_nil))))) (pw_or1 (pt_cmpR op_ne (pe_callB call_len_seq (by rfl) T.n_len (by decide +kernel) (pa_cons (pv 0) pa_nil)) (pe_callB call_len_seq (by rfl) T.n_len (by decide +kernel) (pa_cons (pv 1) pa_nil)) (nomark _))))) (pss_one (ps_ret pe_bl)) pss_nil)
      (pss_cons (ps_for PassesOwn.never rfl (pi_range1 (by rfl) T.n_range (pa_cons (pe_callB call_len_seq (by rfl) T.n_len (by decide +kernel) (pa_cons (pv 1) pa_nil)) pa_nil)) (pg_name (i := 2) sc_same_pile.nd rfl (.inl rfl)) (pss_one (ps_if (pt_not (pt_val (pe_call G_same (hr.mono (by decide)) (by rfl) T.g_same T.F_same.kp T.b_same .nil pass0 (pa_cons (pe_ix ix_list (pv 0) (pv 2) (fun _ _ => rfl)) (pa_cons (pe_ix ix_list (pv 1) (pv 2) (fun _ _ => rfl)) pa_nil))))) (pss_one (ps_ret pe_bl)) pss_nil)))
      (pss_one (ps_ret pe_bl)))), ?_⟩
    rw [show L2.start ["found", "due", "k"] [.ref a, .ref b] = [some (.ref a), some (.ref b), none] from rfl]
    try dsimp only [cxOf]
    walk_at "wp"
    refine iteN (fun e => absurd (by rw [pa.len, pb.len]) e) (fun _ => ?_)
    walk_at "wp"
    have el : ys.length = ws.length := pb.len
    refine ⟨by omega, by omega, loopR (fun i σ H' => ∃ y, σ = [some (.ref a), some (.ref b), y] ∧ H' = H) ⟨_, rfl, rfl⟩ ?_ ?_⟩
    · rintro i σ H1 hi ⟨y, rfl, rfl⟩
      have hi2 : i < ws.length := by omega
      obtain ⟨v, z, hv, hz, wv⟩ := pa.at hi2
      obtain ⟨u, z2, hu, hz2, wu⟩ := pb.at hi2
      obtain rfl : z = z2 := Option.some.inj (hz.symm.trans hz2)
      rw [Int.zero_add]
      walk_at "wp"
      refine ixL (SqL.of ha) (atI_nat hv) ?_
      walk_at "wp"
      refine ixL (SqL.of hb) (atI_nat hu) ?_
      walk_at "wp"
      refine ⟨v, u, z, rfl, wv, wu, hok z (List.mem_of_getElem? hz), ?_⟩
      walk_at "wp"
      rfl
    · rintro σ H1 ⟨y, rfl, rfl⟩
      walk_at "wp"
      exact q

end
end K28

/-! What keeps the piles of a house: an object of some class, told by its promises alone. -/
namespace Wpi
open PySem PySem.Spec PyProof.Rows L2 Wp Wq Wr Wpm Wth Wta
abbrev Kept := V × List W
def Grow (S S' : List Addr) (H : Hp) : Prop := ∀ a ∈ S', a ∈ S ∨ H a = none
def Lo (L L' G G' : List W) : Prop := (∀ y ∈ G, y ∈ G') ∧ ∀ y ∈ L, isT y = true → y ∉ L' → y ∈ G'
theorem Lo.refl {L G : List W} : Lo L L G G := ⟨fun _ h => h, fun _ h _ n => absurd h n⟩
theorem Lo.trans {L1 L2 L3 G1 G2 G3 : List W} (h : Lo L1 L2 G1 G2) (k : Lo L2 L3 G2 G3) : Lo L1 L3 G1 G3 := ⟨fun y hy => k.1 y (h.1 y hy), fun y hy t n => by
  by_cases c : y ∈ L2
  · exact k.2 y c t n
  · exact k.1 y (h.2 y hy t c)⟩
theorem Lo.like {L L' M M' G G' : List W} (h : Lo L L' G G') (a : Like L M) (b : Like L' M') : Lo M M' G G' := ⟨h.1, fun y hy t n => h.2 y ((a.mem t).mpr hy) t fun q => n ((b.mem t).mp q)⟩
theorem Grow.refl {S : List Addr} {H : Hp} : Grow S S H := fun _ h => .inl h
theorem Grow.trans {S S1 S2 T : List Addr} {H H1 : Hp} (g : Grow S S1 H) (k : Ks T H H1) (t : ∀ a ∈ T, a ∈ S ∨ H1 a ≠ none) (g2 : Grow S1 S2 H1) : Grow S S2 H := fun a ha => by
  rcases g2 a ha with h | h
  · exact g a h
  · by_cases ct : a ∈ T
    · rcases t a ct with q | q
      · exact .inl q
      · exact absurd h q
    · cases e : H a with
      | none => exact .inr rfl
      | some o => rw [k.keep a o ct e] at h; cases h
/-- what a piles' object has no attribute of -/
def meths : List Str := ["lay", "height", "pile", "pile_of", "unseen", "unseen_of", "look", "put", "take", "keep", "go", "release"]
structure PilI (K : PySem.W.Frag) where
  o : Addr
  cl : Cls K o
  At : List Addr → Hp → Addr → TAd → List W → List Kept → List W → Prop
  keep : ∀ {S T : List Addr} {H H' : Hp} {p : Addr} {A : TAd} {run : List W} {ks : List Kept} {L : List W}, At S H p A run ks L → Ks T H H' → (∀ a ∈ S, a ∉ T) → At S H' p A run ks L
  mem : ∀ {S : List Addr} {H : Hp} {p : Addr} {A : TAd} {run : List W} {ks : List Kept} {L : List W}, At S H p A run ks L → ∀ y, isT y = true → (y ∈ L ↔ y ∈ run ∨ ∃ k ∈ ks, y ∈ k.2)
  ins : ∀ {S : List Addr} {H : Hp} {p : Addr} {A : TAd} {run : List W} {ks : List Kept} {L : List W}, At S H p A run ks L → ∃ dp fs, H p = some (.ins o dp fs) ∧ fs.lookup ("tally" : Str) = some (.ref A.ta) ∧ ∀ m ∈ meths, fs.lookup m = none
  live : ∀ {S : List Addr} {H : Hp} {p : Addr} {A : TAd} {run : List W} {ks : List Kept} {L : List W}, At S H p A run ks L → p ∈ S ∧ ∀ a ∈ S, H a ≠ none
  nt : NoAttr K o ("tally" : Str)
  relo : ∀ {S : List Addr} {H : Hp} {p : Addr} {A : TAd} {run : List W} {ks : List Kept} {L : List W} (l : Addr), At S H p A run ks L → At S H p { A with ls := l } run ks L
section
variable {K : PySem.W.Frag} {I : PilI K} {oT : Addr} {S T : List Addr} {H H' : Hp} {p : Addr} {A : TAd} {run : List W} {ks : List Kept} {L R G Z Z' : List W}
structure PilT (I : PilI K) (oT : Addr) (S : List Addr) (H : Hp) (p : Addr) (A : TAd) (run : List W) (ks : List Kept) (L R G Z : List W) : Prop where
  at_ : I.At S H p A run ks L
  tl : Tl oT H A (L ++ R) G Z
  n1 : A.ta ∉ S
  n2 : A.pc ∉ S
  n3 : A.ls ∉ S
theorem PilT.keep (h : PilT I oT S H p A run ks L R G Z) (k : Ks T H H') (n : ∀ a ∈ S, a ∉ T) (n1 : A.ta ∉ T) (n2 : A.pc ∉ T) (n3 : A.ls ∉ T) : PilT I oT S H' p A run ks L R G Z := ⟨I.keep h.at_ k n, h.tl.keep k n1 n2 n3, h.n1, h.n2, h.n3⟩
theorem PilT.same (h : PilT I oT S H p A run ks L R G Z) (s : Same H H') : PilT I oT S H' p A run ks L R G Z := h.keep (T := []) (Ks.same s) (by simp) (by simp) (by simp) (by simp)
/-! ### what the methods promise -/
def spPHeight (I : PilI K) : Sp := fun vs H Q _ => ∃ (S : List Addr) (p : Addr) (A : TAd) (run : List W) (ks : List Kept) (L : List W), vs = [.ref p] ∧ I.At S H p A run ks L ∧ Q (.int run.length) H
def spPPile (I : PilI K) : Sp := fun vs H Q _ => ∃ (S : List Addr) (p : Addr) (A : TAd) (run : List W) (ks : List Kept) (L : List W), vs = [.ref p] ∧ I.At S H p A run ks L ∧ run.length ≤ 400000 ∧ ∀ l ys H', H l = none → H' l = some (.lst ys) → Pile H' ys run → Same H H' → Q (.ref l) H'
def spPPileOf (I : PilI K) : Sp := fun vs H Q _ => ∃ (S : List Addr) (p : Addr) (A : TAd) (run : List W) (ks : List Kept) (L : List W) (k : Kept), vs = [.ref p, k.1] ∧ I.At S H p A run ks L ∧ k ∈ ks ∧ k.2.length ≤ 400000 ∧ ∀ l ys H', H l = none → H' l = some (.lst ys) → Pile H' ys k.2 → Same H H' → Q (.ref l) H'
def spPLook (I : PilI K) : Sp := fun vs H Q _ => ∃ (S : List Addr) (p : Addr) (A : TAd) (run : List W) (ks : List Kept) (L : List W) (k : Nat), vs = [.ref p, .int k] ∧ I.At S H p A run ks L ∧ k < run.length ∧ run.length ≤ 400000 ∧ ∀ v z, run[run.length - 1 - k]? = some z → IsW H v z → Q v H
/-- from one state of the piles to another -/
structure Step (I : PilI K) (oT : Addr) (p : Addr) (A : TAd) (R Z : List W) (S : List Addr) (H : Hp) (L G : List W) (S' : List Addr) (H' : Hp) (run' : List W) (ks' : List Kept) (L' G' : List W) : Prop where
  pt : PilT I oT S' H' p A run' ks' L' R G' Z
  lo : Lo (L ++ R) (L' ++ R) G G'
  gr : Grow S S' H
  ks : Ks (S ++ [A.pc, A.ls]) H H'
def spPPut (I : PilI K) (oT : Addr) : Sp := fun vs H Q _ => ∃ (S : List Addr) (p : Addr) (A : TAd) (run : List W) (ks : List Kept) (L R G Z : List W) (v : V) (z : W), vs = [.ref p, v] ∧ PilT I oT S H p A run ks L R G Z ∧ IsW H v z ∧ (isT z = true → z ∈ Z) ∧ run.length ≤ 400000 ∧
  ∀ S' H' L' G', Step I oT p A R Z S H L G S' H' (run ++ [z]) ks L' G' → Q .non H'
def spPTake (I : PilI K) (oT : Addr) : Sp := fun vs H Q _ => ∃ (S : List Addr) (p : Addr) (A : TAd) (run : List W) (ks : List Kept) (L R G Z : List W) (k : Nat), vs = [.ref p, .int k] ∧ PilT I oT S H p A run ks L R G Z ∧ k < run.length ∧ run.length ≤ 400000 ∧
  ∀ S' H' L' G' v z, run[run.length - 1 - k]? = some z → IsW H' v z → Step I oT p A R Z S H L G S' H' (run.eraseIdx (run.length - 1 - k)) ks L' G' → Q v H'
def spPKeep (I : PilI K) (oT : Addr) : Sp := fun vs H Q _ => ∃ (S : List Addr) (p : Addr) (A : TAd) (run : List W) (ks : List Kept) (L R G Z : List W), vs = [.ref p] ∧ PilT I oT S H p A run ks L R G Z ∧ run.length ≤ 400000 ∧
  ∀ S' H' L' G' v, Step I oT p A R Z S H L G S' H' run (ks ++ [(v, run)]) L' G' → Q v H'
def spPGo (I : PilI K) (oT : Addr) : Sp := fun vs H Q _ => ∃ (S : List Addr) (p : Addr) (A : TAd) (run : List W) (ks : List Kept) (L R G Z : List W) (k : Kept) (m : Nat), vs = [.ref p, k.1, .int m] ∧ PilT I oT S H p A run ks L R G Z ∧ k ∈ ks ∧ m ≤ run.length ∧ run.length ≤ 400000 ∧ k.2.length ≤ 400000 ∧
  ∀ S' H' L' G', Step I oT p A R Z S H L G S' H' (k.2 ++ run.drop (run.length - m)) ks L' G' → Q .non H'
def spPRelease (I : PilI K) (oT : Addr) : Sp := fun vs H Q _ => ∃ (S : List Addr) (p : Addr) (A : TAd) (run : List W) (k1 k2 : List Kept) (L R G Z : List W) (k : Kept), vs = [.ref p, k.1] ∧ PilT I oT S H p A run (k1 ++ k :: k2) L R G Z ∧ k.2.length ≤ 400000 ∧
  ∀ S' H' L' G', Step I oT p A R Z S H L G S' H' run (k1 ++ k2) L' G' → Q .non H'
/-- laid anew, where nothing was kept -/
def spPLay (I : PilI K) (oT : Addr) : Sp := fun vs H Q _ => ∃ (S : List Addr) (p pl : Addr) (A : TAd) (ys : List V) (P0 : List W) (Ps : List (List W)) (R G Z : List W), vs = [.ref p, .ref pl] ∧ PilT I oT S H p A [] [] [] R G Z ∧ H pl = some (.lst ys) ∧ Lists S H ys (P0 :: Ps) ∧ pl ∉ S ∧ (∀ P ∈ P0 :: Ps, P.length ≤ 400000 ∧ ∀ y ∈ P, isT y = true → y ∈ Z) ∧ ys.length ≤ 400000 ∧
  ∀ S' H' L' G' l vs', H l = none → H' l = some (.lst vs') → vs'.length = Ps.length → Step I oT p A R Z S H [] G S' H' P0 (vs'.zip Ps) L' G' → l ∉ S' → Q (.ref l) H'
end
/-- a method that keeps a promise -/
structure MOk (P : Program) (w : World) (K : PySem.W.Frag) (mg : Str → Option Value) (base : Heap) (o : Addr) (m : Str) (ps : List Str) (n : Nat) (sp : Sp) where
  f : Addr
  fd : FuncData
  me : Meth K o m f
  b : Binds K fd ps []
  g : FnOk P w K mg base CX0 n f fd ps sp
/-! ### piles kept whole -/
structure WAt (o : Addr) (S : List Addr) (H : Hp) (p : Addr) (A : TAd) (run : List W) (ks : List Kept) (L : List W) : Prop where
  hi : ∃ dp wl vs, H p = some (.ins o dp [("tally", .ref A.ta), ("worths", .ref wl)]) ∧ H wl = some (.lst vs) ∧ Pile H vs run ∧ wl ∈ S ∧ ∀ k ∈ ks, ∃ l us, k.1 = .ref l ∧ H l = some (.lst us) ∧ Pile H us k.2 ∧ l ≠ wl ∧ l ∈ S
  ps : p ∈ S
  lv : ∀ a ∈ S, H a ≠ none
  lk : Like L (run ++ ks.flatMap (·.2))
section
variable {o : Addr} {S T : List Addr} {H H' : Hp} {p : Addr} {A : TAd} {run : List W} {ks : List Kept} {L : List W}
theorem WAt.keep (h : WAt o S H p A run ks L) (k : Ks T H H') (n : ∀ a ∈ S, a ∉ T) : WAt o S H' p A run ks L := by
  obtain ⟨⟨dp, wl, vs, h1, h2, h3, h4, h5⟩, ps, lv, lk⟩ := h
  refine ⟨⟨dp, wl, vs, k.keep _ _ (n _ ps) h1, k.keep _ _ (n _ h4) h2, h3.keep k.tk, h4, fun x hx => ?_⟩, ps, fun a ha => ?_, lk⟩
  · obtain ⟨l, us, e, q1, q2, q3, q4⟩ := h5 x hx
    exact ⟨l, us, e, k.keep _ _ (n _ q4) q1, q2.keep k.tk, q3, q4⟩
  · cases e : H a with
    | none => exact absurd e (lv a ha)
    | some u => rw [k.keep _ _ (n _ ha) e]; exact fun q => nomatch q
theorem WAt.mem (h : WAt o S H p A run ks L) (y : W) (t : isT y = true) : y ∈ L ↔ y ∈ run ∨ ∃ k ∈ ks, y ∈ k.2 := by
  rw [h.lk.mem t, List.mem_append, List.mem_flatMap]
def whole {K : PySem.W.Frag} (o : Addr) (cl : Cls K o) (nt : NoAttr K o ("tally" : Str)) : PilI K where
  o := o
  cl := cl
  At := WAt o
  keep := WAt.keep
  mem := WAt.mem
  ins := fun h => by
    obtain ⟨⟨dp, wl, vs, h1, _⟩, _⟩ := h
    refine ⟨dp, _, h1, rfl, fun m hm => ?_⟩
    simp only [meths, List.mem_cons, List.not_mem_nil, or_false] at hm
    rcases hm with rfl | rfl | rfl | rfl | rfl | rfl | rfl | rfl | rfl | rfl | rfl | rfl <;> rfl
  live := fun h => ⟨h.ps, h.lv⟩
  nt := nt
  relo := fun l h => ⟨h.hi, h.ps, h.lv, h.lk⟩
end
end Wpi

namespace K28
open PySem PySem.Spec PyProof.Rows L2 Wp Wq Wr Wpm Wth Wta Wpi
local macro_rules | `(tactic| walk_at "ne") => `(tactic| first
  | assumption
  | (refine Ne.symm ?_; assumption)
  | exact ne_of_none (by assumption) (by assumption)
  | exact (ne_of_none (by assumption) (by assumption)).symm
  | exact ne_of (by assumption) (by assumption) (by intro q; cases q))
local macro_rules | `(tactic| walk_at "hp") => `(tactic| first
  | assumption
  | exact upd_same
  | (refine (upd_ne ?_).trans ?_; (walk_at "ne"); (walk_at "hp")))
local macro_rules | `(tactic| walk_at "hq") => `(tactic| first
  | assumption
  | exact upd_same
  | (refine same_new (by assumption) _ _ ?_; (walk_at "hq"))
  | (refine Wp.look (by assumption) ?_; (walk_at "hq")))
local macro_rules | `(tactic| walk_at "sm") => `(tactic| first
  | assumption
  | exact fun _ _ h => h
  | exact same_new (by assumption)
  | (refine Same.trans ?_ (same_new (by assumption)); (walk_at "sm"))
  | (refine Same.trans ?_ (by assumption); (walk_at "sm")))
local macro_rules | `(tactic| walk_at "kp") => `(tactic| first
  | assumption
  | exact Kp.refl _ _
  | (refine Kp.trans ?_ (Kp.new (by assumption)); (walk_at "kp"))
  | (refine Kp.trans ?_ (Same.kp (by assumption)); (walk_at "kp"))
  | (refine Wp.kpT ?_ (by assumption); (walk_at "kp"))
  | exact Same.kp (by walk_at "sm"))
local macro_rules | `(tactic| walk_at "sq") => `(tactic| first
  | assumption
  | exact SqL.of (by walk_at "hp")
  | exact SqT.of (by walk_at "hp"))
local macro_rules | `(tactic| walk_at "kind") => `(tactic| first
  | assumption
  | exact Kind.int _
  | exact Kind.str _
  | exact Kind.bl _
  | exact Kind.non
  | exact Kind.tup (by walk_at "hp")
  | exact Kind.lst (by walk_at "hp")
  | exact Kind.dK (by walk_at "hp"))
local macro_rules | `(tactic| walk_at "w1") => `(tactic| first
  | (with_reducible refine Wp.seq ?_)
  | (with_reducible refine Wp.nx_mk ?_)
  | (with_reducible refine Wp.rt_mk ?_)
  | (with_reducible refine Wp.bk_mk ?_)
  | (with_reducible refine Wp.ct_mk ?_)
  | (with_reducible refine Wp.next ?_)
  | (with_reducible refine Wp.asg ?_)
  | ((with_reducible refine' Wp.gname ?e ?_); (case e => (try dsimp only [List.set, L2.wipe, List.map_cons, List.map_nil]); (try exact rfl)))
  | (with_reducible refine Wp.gsub ?_)
  | (with_reducible refine Wp.ret ?_)
  | (with_reducible refine Wp.retN ?_)
  | (with_reducible refine Wp.drop ?_)
  | (with_reducible refine Wp.dput ?_)
  | (with_reducible refine Wp.ifs ?_)
  | ((with_reducible refine' Wp.var ?h ?_); (case h => exact rfl))
  | (with_reducible refine Wp.con ?_)
  | (with_reducible refine Wp.op ?_)
  | (with_reducible refine Wp.un ?_)
  | (with_reducible refine Wp.cb ?_)
  | (with_reducible refine Wp.anil ?_)
  | (with_reducible refine Wp.acons ?_)
  | (with_reducible refine Wp.call ?_)
  | (with_reducible refine Wp.test ?_)
  | (with_reducible refine Wp.tb_ ?_)
  | (with_reducible refine Wp.and_ ?_)
  | (with_reducible refine Wp.or_ ?_)
  | (with_reducible refine Wp.not_ ?_)
  | (with_reducible refine Wp.andV ?_)
  | (with_reducible refine Wp.orV ?_)
  | (with_reducible refine Wp.notV ?_)
  | (with_reducible refine Wp.rI0_ ?_)
  | (with_reducible refine Wp.rU_ ?_)
  | ((with_reducible refine Wp.rEq_ ?k ?_); (case k => exact rfl))
  | ((with_reducible refine Wp.rNe_ ?k ?_); (case k => exact rfl))
  | (with_reducible refine Wp.gcons ?_)
  | (with_reducible refine Wp.gnil ?_)
  | ((with_reducible refine' Wp.gtup ?h ?e ?_); (case h => walk_at "sq"); (case e => exact rfl))
  | (with_reducible refine Wp.sl ?_)
  | (with_reducible refine Wp.part ?_)
  | (with_reducible refine Wp.nopart ?_)
  | (with_reducible refine Wp.ifE ?_)
  | (with_reducible refine Wp.bm0 ?_)
  | (with_reducible refine Wp.bm ?_)
  | (with_reducible refine Wp.lcR1 ?_)
  | (with_reducible refine Wp.lcR2 ?_)
  | (with_reducible refine Wp.lcL ?_)
  | (with_reducible refine Wp.chain ?_)
  | (with_reducible refine Wp.lc2V ?_)
  | (with_reducible refine Wp.piL ?_)
  | (with_reducible refine Wp.yes ?_)
  | (with_reducible refine Wp.dinI ?_)
  | (with_reducible refine Wp.dninI ?_)
  | (with_reducible refine Wp.dget ?_)
  | ((with_reducible refine' ⟨?k, ?_⟩); (case k => show L2.wipe _ _ = L2.wipe _ _; exact rfl))
  | ((with_reducible refine' ⟨?k, ?_⟩); (case k => show V.non = V.non; exact rfl))
  | (with_reducible refine Wp.forR1 ?_)
  | (with_reducible refine Wp.forR2 ?_)
  | (with_reducible refine Wp.forL ?_)
  | (with_reducible refine Wp.forT ?_)
  | ((with_reducible refine' ⟨?k, ?_⟩); (case k => exact Wp.tyvL (by walk_at "hp")))
  | ((with_reducible refine' Wp.rev_ ?k ?_); (case k => walk_at "hp"))
  | ((with_reducible refine' Wp.isi ?k ?h ?_); (case k => walk_at "kind"); (case h => decide))
  | ((with_reducible refine' Wp.typ ?k ?_); (case k => walk_at "kind"))
  | (with_reducible refine Wp.slS ?k ?_; (case k => assumption))
  | (with_reducible refine iteT ?_)
  | (with_reducible refine iteF ?_)
  | (with_reducible refine Wtc.dcL ?_)
  | (with_reducible refine Wst.step ?_)
  | (with_reducible refine Wtc.dget2 ?_)
  | (with_reducible refine Wtc.lcZ ?_)
  | (with_reducible refine Wrw.loop_setLc ?_)
  | (with_reducible refine Wz.par ?_)
  | (with_reducible refine Wz.forN ?_)
  | (with_reducible refine Wz.dcL ?_)
  | (with_reducible refine Wz.forZ ?_)
  | (with_reducible refine Wz.lcR3 ?_)
  | (with_reducible refine Wc.revL ?_)
  | (with_reducible refine Wd.nm ?_)
  | (with_reducible refine Wd.nget ?_)
  | ((with_reducible refine Wd.tnew ?_); intro p hp)
  | (with_reducible refine Wd.pikn ?_)
  | (with_reducible refine Wt.m1 ?_)
  | (with_reducible refine Wt.m0 ?_)
  | ((with_reducible refine' ⟨?k, ?_⟩); (case k => show ∃ a, _ = V.str a; exact ⟨_, rfl⟩))
  | (with_reducible refine Wt.js_cons ?_)
  | (with_reducible refine Wt.fmt_ ?_)
  | (with_reducible refine Wp.pcons ?_)
  | (with_reducible refine Wp.pnil ?_)
  | ((with_reducible refine' Wp.iteBnT ?h ?_); (case h => show isB _ _ = false; decide))
  | ((with_reducible refine' Wp.iteBnF ?h ?_); (case h => show isB _ _ = true; decide))
  | ((with_reducible refine' Wp.iteBt ?h ?_); (case h => show isB _ _ = true; decide))
  | ((with_reducible refine' Wp.iteBf ?h ?_); (case h => show isB _ _ = false; decide))
  | (with_reducible refine Wp.iteT' ?_)
  | (with_reducible refine Wp.iteF' ?_)
  | (with_reducible refine Wp.rNT_ ?_)
  | ((with_reducible refine Wp.lst ?_))
  | ((with_reducible refine Wp.tup ?_))
  | ((with_reducible refine' Wp.ixL ?h ?e ?_); (case h => walk_at "sq"); (case e => exact rfl))
  | ((with_reducible refine' Wp.ixT ?h ?e ?_); (case h => walk_at "sq"); (case e => exact rfl))
  | ((with_reducible refine' Wp.setL ?h ?e ?_); (case h => walk_at "hp"); (case e => exact rfl))
  | ((with_reducible refine Wp.rI_ ?k ?_); (case k => first | (show (0:Int) < _; omega) | (show CPow _ _; refine' ⟨?_, ?_, ?_⟩ <;> omega) | (show CDiv _ _; refine' ⟨?_, ?_⟩ <;> omega) | (show CMul _ _; refine' Or.inl ⟨?_, ?_⟩ <;> omega) | (show CMul _ _; refine' Or.inr ⟨?_, ?_⟩ <;> first | omega | decide) | (show CDivW _ _; refine' wide_div (b := 240) ?_ ?_ ?_ ?_ <;> first | omega | decide)))
  | ((with_reducible refine ⟨?k, ?_⟩); (case k => first | exact Nat.zero_le _ | (exact Nat.le_of_ble_eq_true rfl)); intro p hp)
  | ((with_reducible refine' ⟨_, _, rfl, .inl ?k, ?_⟩); (case k => walk_at "sq"))
  | ((with_reducible refine' ⟨_, _, rfl, .inr ?k, ?_⟩); (case k => walk_at "sq"))
  | (with_reducible refine ⟨_, rfl, ?_⟩)
  | (with_reducible refine ⟨_, _, rfl, rfl, ?_⟩)
  | (with_reducible refine ⟨_, _, rfl, ?_⟩))
local macro_rules | `(tactic| walk_at "wp") => `(tactic| repeat (walk_at "w1"))

local macro_rules | `(tactic| walk_at "pf") => `(tactic| first
  | (with_reducible exact Wcl.pf0)
  | (with_reducible exact Wcl.pf1)
  | ((with_reducible refine' Wcl.pf2 ?n ?h); (case n => decide +kernel); (case h => walk_at "pf")))
local macro_rules | `(tactic| walk_at "w1") => `(tactic| first
  | (with_reducible refine Wcl.fld_ ?_)
  | (with_reducible refine Wcl.sfld_ ?_)
  | (with_reducible refine Wcl.meth_ ?_)
  | (with_reducible refine Wcl.make_ ?_)
  | (with_reducible refine Wcl.dcZ ?_)
  | (with_reducible refine Wcl.ddelT_ ?_)
  | (with_reducible refine Wcl.daug_ ?_)
  | (with_reducible refine Wcl.dpop1_ ?_)
  | ((with_reducible refine Wcl.dnewT_ ?_); intro p hp)
  | ((with_reducible refine Wcl.dnewK_ ?_); intro p hp)
  | ((with_reducible refine' Wcl.fldR ?h ?c ?n ?e ?_); (case h => walk_at "hp"); (case c => assumption); (case n => assumption); (case e => exact rfl))
  | ((with_reducible refine' Wcl.sfldR ?h ?c ?n ?l ?e ?_); (case h => walk_at "hp"); (case c => assumption); (case n => assumption); (case l => exact Nat.le_of_ble_eq_true rfl); (case e => walk_at "pf"))
  | ((with_reducible refine' Wcl.methR ?h ?l ?_); (case h => walk_at "hp"); (case l => exact rfl)))

section
variable {P : Program} {w : World} {K : PySem.W.Frag} {mg : Str → Option Value} {base : Heap}
/-! ### piles kept whole: what only looks -/
abbrev WP (T : Txt P w K mg) : PilI K := Wpi.whole T.o_WholePiles T.cl_WholePiles T.na_WholePiles_tally
theorem ok_WholePiles_height (T : Txt P w K mg) : FnOk P w K mg base CX0 1 T.f_WholePiles_height T.fd_WholePiles_height ["self"] (spPHeight (WP T)) := by
  refine T.F_WholePiles_height.ok sc_WholePiles_height (fun vs H Q E h => ?_) (fun cdv A outer s H vs Q E hr h => ?_)
  · obtain ⟨S, p, A, run, ks, L, rfl, _⟩ := h
    rfl
  · obtain ⟨S, p, A, run, ks, L, rfl, ⟨⟨dp, wl, us, h1, h2, h3, h4, h5⟩, _⟩, q⟩ := h
    refine ⟨_, (pss_one (ps_ret (pe_callB call_len_seq (by rfl) T.n_len (by decide +kernel) (pa_cons (pe_fld (pv 0) rfl) pa_nil)))), ?_⟩
    rw [show L2.start ["self"] [.ref p] = [some (.ref p)] from rfl]
    try dsimp only [cxOf]
    have c1 := T.cl_WholePiles
    have n1 := T.na_WholePiles_worths
    walk_at "wp"
    rw [h3.len]
    exact q
theorem ok_WholePiles_pile (T : Txt P w K mg) : FnOk P w K mg base CX0 1 T.f_WholePiles_pile T.fd_WholePiles_pile ["self"] (spPPile (WP T)) := by
  refine T.F_WholePiles_pile.ok sc_WholePiles_pile (fun vs H Q E h => ?_) (fun cdv A outer s H vs Q E hr h => ?_)
  · obtain ⟨S, p, A, run, ks, L, rfl, _⟩ := h
    rfl
  · obtain ⟨S, p, A, run, ks, L, rfl, ⟨⟨dp, wl, us, h1, h2, h3, h4, h5⟩, _⟩, _, q⟩ := h
    refine ⟨_, (pss_one (ps_ret (pe_callTy call_list_of (by rfl) T.n_list (by decide +kernel) (pa_cons (pe_fld (pv 0) rfl) pa_nil)))), ?_⟩
    rw [show L2.start ["self"] [.ref p] = [some (.ref p)] from rfl]
    try dsimp only [cxOf]
    have c1 := T.cl_WholePiles
    have n1 := T.na_WholePiles_worths
    walk_at "wp"
    intro l hl
    exact q l us _ hl upd_same (h3.keep (Tk.new hl)) (same_new hl)

/-! ### piles kept whole: what changes them -/
theorem like_one {L L' : List W} {z : W} (t : isT z = false) : Like L L' → Like (L ++ [z]) L' := fun h y ty => by
  rw [cn_app, cn_one, if_neg, Nat.add_zero, h y ty]
  rintro rfl; rw [t] at ty; cases ty
theorem ok_WholePiles_put (T : Txt P w K mg) : FnOk P w K mg base CX0 9 T.f_WholePiles_put T.fd_WholePiles_put ["self", "worth"] (spPPut (WP T) T.o_Tally) := by
  have G_Tally_more := ok_Tally_more (base := base) T
  refine T.F_WholePiles_put.ok sc_WholePiles_put (fun vs H Q E h => ?_) (fun cdv Ar outer s H vs Q E hr h => ?_)
  · obtain ⟨S, p, A, run, ks, L, R, G, Z, v, z, rfl, _⟩ := h
    rfl
  · obtain ⟨S, p, A, run, ks, L, R, G, Z, v, z, rfl, ⟨⟨⟨dp, wl, us, h1, h2, h3, h4, h5⟩, ps, lv, lk⟩, tl, n1, n2, n3⟩, hv, zz, ll, q⟩ := h
    refine ⟨_, (pss_cons (ps_expr (pe_meth (pe_fld (pv 0) rfl) T.cl_Tally T.m_Tally_more G_Tally_more (hr.mono (by decide)) T.b_Tally_more .nil pass0 (pa_cons (pe_lst (pa_cons (pv 1) pa_nil)) pa_nil)))
      (pss_one (ps_expr (pe_bm PySem.F.plainAttrs_list PySem.F.slot_list_append PySem.F.type_list_append mt_append (pe_fld (pv 0) rfl) (pa_cons (pv 1) pa_nil))))), ?_⟩
    rw [show L2.start ["self", "worth"] [.ref p, v] = [some (.ref p), some v] from rfl]
    try dsimp only [cxOf]
    have c1 := T.cl_WholePiles
    have c2 := T.na_WholePiles_worths
    have c3 := T.na_WholePiles_tally
    have line : (1000000 : Nat) < sizeLine := by decide
    walk_at "wp"
    have hti := tl.hi
    walk_at "wp"
    rename_i l0 hl0
    have s0 := same_new (o := .lst [v]) hl0
    refine ⟨A, l0, [v], [z], _, G, Z, rfl, tl.same s0, upd_same, (Pile.one hv).keep (Tk.new hl0), fun y hy ty => by rw [List.mem_singleton.mp hy] at ty ⊢; exact zz ty, fun H1 t1 k1 => ?_⟩
    have k01 : Ks [A.pc] H H1 := (Ks.same s0).trans k1
    have npc : ∀ a ∈ S, a ∉ [A.pc] := fun a ha m => n2 (by rw [← List.mem_singleton.mp m]; exact ha)
    have g1 := k01.keep _ _ (npc _ ps) h1
    have g2 := k01.keep _ _ (npc _ h4) h2
    walk_at "wp"
    refine app_ g2 (by rw [h3.len]; omega) ?_
    have kw : Ks [wl] H1 (upd H1 wl (.lst (us ++ [v]))) := Ks.upd g2 List.mem_cons_self
    have wS : ∀ a ∈ [wl], a ∈ S ++ [A.pc, A.ls] := fun a ha => by rw [List.mem_singleton.mp ha]; simp [h4]
    have kk : Ks (S ++ [A.pc, A.ls]) H (upd H1 wl (.lst (us ++ [v]))) := (k01.mono (by simp)).trans (kw.mono wS)
    have nw : ∀ a, a ∉ S → a ∉ [wl] := fun a na m => na (by rw [List.mem_singleton.mp m]; exact h4)
    have ka : ∀ a ∈ S, upd H1 wl (.lst (us ++ [v])) a ≠ none := fun a ha => by
      by_cases e : a = wl
      · rw [e, upd_same]; exact fun h => nomatch h
      · rw [upd_ne e]
        cases c : H a with
        | none => exact absurd c (lv a ha)
        | some o => rw [k01.keep _ _ (npc _ ha) c]; exact fun h => nomatch h
    refine q S _ (L ++ [z]) G ⟨⟨⟨⟨dp, wl, us ++ [v], ?_, upd_same, ?_, h4, fun x hx => ?_⟩, ps, ka, ?_⟩, (t1.like ?_).keep kw (nw _ n1) (nw _ n2) (nw _ n3), n1, n2, n3⟩, ⟨fun _ h => h, fun y hy t n => ?_⟩, Grow.refl, kk⟩
    · rw [upd_ne (ne_of h1 h2 (fun q => nomatch q))]; exact g1
    · exact (Pile.app h3 (Pile.one hv)).keep (k01.tk.trans kw.tk)
    · obtain ⟨l, xs, e, q1, q2, q3, q4⟩ := h5 x hx
      exact ⟨l, xs, e, by rw [upd_ne q3]; exact k01.keep _ _ (npc _ q4) q1, q2.keep (k01.tk.trans kw.tk), q3, q4⟩
    · intro y t
      rw [cn_app, cn_app, cn_app, lk y t, cn_app]; omega
    · intro y t
      simp only [cn_app]; omega
    · exact absurd (by
        rcases List.mem_append.mp hy with hy | hy
        · exact List.mem_append_left _ (List.mem_append_left _ hy)
        · exact List.mem_append_right _ hy) n
theorem ok_WholePiles_take (T : Txt P w K mg) : FnOk P w K mg base CX0 9 T.f_WholePiles_take T.fd_WholePiles_take ["self", "k"] (spPTake (WP T) T.o_Tally) := by
  have G_Tally_less := ok_Tally_less (base := base) T
  refine T.F_WholePiles_take.ok sc_WholePiles_take (fun vs H Q E h => ?_) (fun cdv Ar outer s H vs Q E hr h => ?_)
  · obtain ⟨S, p, A, run, ks, L, R, G, Z, k, rfl, _⟩ := h
    rfl
  · obtain ⟨S, p, A, run, ks, L, R, G, Z, k, rfl, ⟨⟨⟨dp, wl, us, h1, h2, h3, h4, h5⟩, ps, lv, lk⟩, tl, n1, n2, n3⟩, kl, ll, q⟩ := h
    refine ⟨_, (pss_cons (ps_set (i := 2) sc_WholePiles_take.nd rfl (.inl rfl) (pe_bm PySem.F.plainAttrs_list PySem.F.slot_list_pop PySem.F.type_list_pop mt_popAt (pe_fld (pv 0) rfl) (pa_cons (pe_op op_sub (pe_un un_neg pe_int) (pv 1)) pa_nil)))
      (pss_cons (ps_expr (pe_meth (pe_fld (pv 0) rfl) T.cl_Tally T.m_Tally_less G_Tally_less (hr.mono (by decide)) T.b_Tally_less .nil pass0 (pa_cons (pe_lst (pa_cons (pv 2) pa_nil)) pa_nil)))
      (pss_one (ps_ret (pv 2))))), ?_⟩
    rw [show L2.start ["self", "k", "worth"] [.ref p, .int k] = [some (.ref p), some (.int k), none] from rfl]
    try dsimp only [cxOf]
    have c1 := T.cl_WholePiles
    have c2 := T.na_WholePiles_worths
    have c3 := T.na_WholePiles_tally
    have line : (1000000 : Nat) < sizeLine := by decide
    have ul := h3.len
    obtain ⟨v, z, hv, hz, wv⟩ := h3.at (i := run.length - 1 - k) (by omega)
    walk_at "wp"
    refine ⟨wl, us, -1 - (k : Int), run.length - 1 - k, v, rfl, rfl, h2, by omega, by omega, Wta.seq_back (by omega), hv, ?_⟩
    have kw : Ks [wl] H (upd H wl (.lst (us.eraseIdx (run.length - 1 - k)))) := Ks.upd h2 List.mem_cons_self
    have nw : ∀ a, a ∉ S → a ∉ [wl] := fun a na m => na (by rw [List.mem_singleton.mp m]; exact h4)
    have g1 : upd H wl (.lst (us.eraseIdx (run.length - 1 - k))) p = some (.ins T.o_WholePiles dp [("tally", .ref A.ta), ("worths", .ref wl)]) := by
      rw [upd_ne (ne_of h1 h2 (fun q => nomatch q))]; exact h1
    have g2 : upd H wl (.lst (us.eraseIdx (run.length - 1 - k))) wl = some (.lst (us.eraseIdx (run.length - 1 - k))) := upd_same
    have tlw := tl.keep kw (nw _ n1) (nw _ n2) (nw _ n3)
    have p1 : Pile (upd H wl (.lst (us.eraseIdx (run.length - 1 - k)))) (us.eraseIdx (run.length - 1 - k)) (run.eraseIdx (run.length - 1 - k)) := (Wta.pair_erase h3 _).keep kw.tk
    have wv1 := wv.keep kw.tk
    have g5 : ∀ x ∈ ks, ∃ l xs, x.1 = .ref l ∧ upd H wl (.lst (us.eraseIdx (run.length - 1 - k))) l = some (.lst xs) ∧ Pile (upd H wl (.lst (us.eraseIdx (run.length - 1 - k)))) xs x.2 ∧ l ≠ wl ∧ l ∈ S := fun x hx => by
      obtain ⟨l, xs, e, q1, q2, q3, q4⟩ := h5 x hx
      exact ⟨l, xs, e, by rw [upd_ne q3]; exact q1, q2.keep kw.tk, q3, q4⟩
    have lv1 : ∀ a ∈ S, upd H wl (.lst (us.eraseIdx (run.length - 1 - k))) a ≠ none := fun a ha => by
      by_cases e : a = wl
      · rw [e, upd_same]; exact fun h => nomatch h
      · rw [upd_ne e]; exact lv a ha
    generalize upd H wl (.lst (us.eraseIdx (run.length - 1 - k))) = H1 at kw g1 g2 tlw p1 wv1 g5 lv1
    have hti := tlw.hi
    walk_at "wp"
    rename_i l0 hl0
    have s0 := same_new (o := .lst [v]) hl0
    have lkr : Like (L ++ R) ((run.eraseIdx (run.length - 1 - k) ++ ks.flatMap (·.2) ++ R) ++ [z]) := fun y t => by
      have e1 := cn_perm (z := y) (Wta.erase_perm hz)
      rw [cn_app, lk y t, cn_app, e1]
      simp only [cn_app, cn_cons, cn_nil]; omega
    refine ⟨A, l0, [v], [z], _, run.eraseIdx (run.length - 1 - k) ++ ks.flatMap (·.2) ++ R, G, Z, rfl, tlw.same s0, lkr, upd_same, (Pile.one wv1).keep (Tk.new hl0), fun G' H2 t2 gg g6 k2 => ?_⟩
    have k12 : Ks [A.pc, A.ls] H1 H2 := (Ks.same s0).trans k2
    have npc : ∀ a ∈ S, a ∉ [A.pc, A.ls] := fun a ha m => by
      simp only [List.mem_cons, List.not_mem_nil, or_false] at m
      rcases m with m | m
      · exact n2 (by rw [← m]; exact ha)
      · exact n3 (by rw [← m]; exact ha)
    walk_at "wp"
    refine q S H2 (run.eraseIdx (run.length - 1 - k) ++ ks.flatMap (·.2)) G' v z hz (wv1.keep k12.tk) ⟨⟨⟨⟨dp, wl, _, k12.keep _ _ (npc _ ps) g1, k12.keep _ _ (npc _ h4) g2, p1.keep k12.tk, h4, fun x hx => ?_⟩, ps, fun a ha => ?_, Like.refl⟩, t2, n1, n2, n3⟩, ⟨gg, fun y hy t n => ?_⟩, Grow.refl, (kw.mono (by simp [h4])).trans (k12.mono (by simp))⟩
    · obtain ⟨l, xs, e, q1, q2, q3, q4⟩ := g5 x hx
      exact ⟨l, xs, e, k12.keep _ _ (npc _ q4) q1, q2.keep k12.tk, q3, q4⟩
    · cases c : H1 a with
      | none => exact absurd c (lv1 a ha)
      | some o => rw [k12.keep _ _ (npc _ ha) c]; exact fun h => nomatch h
    · have m := (lkr.mem t).mp hy
      rcases List.mem_append.mp m with m | m
      · exact absurd m n
      · exact g6 y m t n

end
end K28

namespace K28
open PySem PySem.Spec PyProof.Rows L2 Wp Wq Wr Wpm Wth Wta Wpi
local macro_rules | `(tactic| walk_at "ne") => `(tactic| first
  | assumption
  | (refine Ne.symm ?_; assumption)
  | exact ne_of_none (by assumption) (by assumption)
  | exact (ne_of_none (by assumption) (by assumption)).symm
  | exact ne_of (by assumption) (by assumption) (by intro q; cases q))
local macro_rules | `(tactic| walk_at "hp") => `(tactic| first
  | assumption
  | exact upd_same
  | (refine (upd_ne ?_).trans ?_; (walk_at "ne"); (walk_at "hp")))
local macro_rules | `(tactic| walk_at "hq") => `(tactic| first
  | assumption
  | exact upd_same
  | (refine same_new (by assumption) _ _ ?_; (walk_at "hq"))
  | (refine Wp.look (by assumption) ?_; (walk_at "hq")))
local macro_rules | `(tactic| walk_at "sm") => `(tactic| first
  | assumption
  | exact fun _ _ h => h
  | exact same_new (by assumption)
  | (refine Same.trans ?_ (same_new (by assumption)); (walk_at "sm"))
  | (refine Same.trans ?_ (by assumption); (walk_at "sm")))
local macro_rules | `(tactic| walk_at "kp") => `(tactic| first
  | assumption
  | exact Kp.refl _ _
  | (refine Kp.trans ?_ (Kp.new (by assumption)); (walk_at "kp"))
  | (refine Kp.trans ?_ (Same.kp (by assumption)); (walk_at "kp"))
  | (refine Wp.kpT ?_ (by assumption); (walk_at "kp"))
  | exact Same.kp (by walk_at "sm"))
local macro_rules | `(tactic| walk_at "sq") => `(tactic| first
  | assumption
  | exact SqL.of (by walk_at "hp")
  | exact SqT.of (by walk_at "hp"))
local macro_rules | `(tactic| walk_at "kind") => `(tactic| first
  | assumption
  | exact Kind.int _
  | exact Kind.str _
  | exact Kind.bl _
  | exact Kind.non
  | exact Kind.tup (by walk_at "hp")
  | exact Kind.lst (by walk_at "hp")
  | exact Kind.dK (by walk_at "hp"))
local macro_rules | `(tactic| walk_at "w1") => `(tactic| first
  | (with_reducible refine Wp.seq ?_)
  | (with_reducible refine Wp.nx_mk ?_)
  | (with_reducible refine Wp.rt_mk ?_)
  | (with_reducible refine Wp.bk_mk ?_)
  | (with_reducible refine Wp.ct_mk ?_)
  | (with_reducible refine Wp.next ?_)
  | (with_reducible refine Wp.asg ?_)
  | ((with_reducible refine' Wp.gname ?e ?_); (case e => (try dsimp only [List.set, L2.wipe, List.map_cons, List.map_nil]); (try exact rfl)))
  | (with_reducible refine Wp.gsub ?_)
  | (with_reducible refine Wp.ret ?_)
  | (with_reducible refine Wp.retN ?_)
  | (with_reducible refine Wp.drop ?_)
  | (with_reducible refine Wp.dput ?_)
  | (with_reducible refine Wp.ifs ?_)
  | ((with_reducible refine' Wp.var ?h ?_); (case h => exact rfl))
  | (with_reducible refine Wp.con ?_)
  | (with_reducible refine Wp.op ?_)
  | (with_reducible refine Wp.un ?_)
  | (with_reducible refine Wp.cb ?_)
  | (with_reducible refine Wp.anil ?_)
  | (with_reducible refine Wp.acons ?_)
  | (with_reducible refine Wp.call ?_)
  | (with_reducible refine Wp.test ?_)
  | (with_reducible refine Wp.tb_ ?_)
  | (with_reducible refine Wp.and_ ?_)
  | (with_reducible refine Wp.or_ ?_)
  | (with_reducible refine Wp.not_ ?_)
  | (with_reducible refine Wp.andV ?_)
  | (with_reducible refine Wp.orV ?_)
  | (with_reducible refine Wp.notV ?_)
  | (with_reducible refine Wp.rI0_ ?_)
  | (with_reducible refine Wp.rU_ ?_)
  | ((with_reducible refine Wp.rEq_ ?k ?_); (case k => exact rfl))
  | ((with_reducible refine Wp.rNe_ ?k ?_); (case k => exact rfl))
  | (with_reducible refine Wp.gcons ?_)
  | (with_reducible refine Wp.gnil ?_)
  | ((with_reducible refine' Wp.gtup ?h ?e ?_); (case h => walk_at "sq"); (case e => exact rfl))
  | (with_reducible refine Wp.sl ?_)
  | (with_reducible refine Wp.part ?_)
  | (with_reducible refine Wp.nopart ?_)
  | (with_reducible refine Wp.ifE ?_)
  | (with_reducible refine Wp.bm0 ?_)
  | (with_reducible refine Wp.bm ?_)
  | (with_reducible refine Wp.lcR1 ?_)
  | (with_reducible refine Wp.lcR2 ?_)
  | (with_reducible refine Wp.lcL ?_)
  | (with_reducible refine Wp.chain ?_)
  | (with_reducible refine Wp.lc2V ?_)
  | (with_reducible refine Wp.piL ?_)
  | (with_reducible refine Wp.yes ?_)
  | (with_reducible refine Wp.dinI ?_)
  | (with_reducible refine Wp.dninI ?_)
  | (with_reducible refine Wp.dget ?_)
  | ((with_reducible refine' ⟨?k, ?_⟩); (case k => show L2.wipe _ _ = L2.wipe _ _; exact rfl))
  | ((with_reducible refine' ⟨?k, ?_⟩); (case k => show V.non = V.non; exact rfl))
  | (with_reducible refine Wp.forR1 ?_)
  | (with_reducible refine Wp.forR2 ?_)
  | (with_reducible refine Wp.forL ?_)
  | (with_reducible refine Wp.forT ?_)
  | ((with_reducible refine' ⟨?k, ?_⟩); (case k => exact Wp.tyvL (by walk_at "hp")))
  | ((with_reducible refine' Wp.rev_ ?k ?_); (case k => walk_at "hp"))
  | ((with_reducible refine' Wp.isi ?k ?h ?_); (case k => walk_at "kind"); (case h => decide))
  | ((with_reducible refine' Wp.typ ?k ?_); (case k => walk_at "kind"))
  | (with_reducible refine Wp.slS ?k ?_; (case k => assumption))
  | (with_reducible refine iteT ?_)
  | (with_reducible refine iteF ?_)
  | (with_reducible refine Wtc.dcL ?_)
  | (with_reducible refine Wst.step ?_)
  | (with_reducible refine Wtc.dget2 ?_)
  | (with_reducible refine Wtc.lcZ ?_)
  | (with_reducible refine Wrw.loop_setLc ?_)
  | (with_reducible refine Wz.par ?_)
  | (with_reducible refine Wz.forN ?_)
  | (with_reducible refine Wz.dcL ?_)
  | (with_reducible refine Wz.forZ ?_)
  | (with_reducible refine Wz.lcR3 ?_)
  | (with_reducible refine Wc.revL ?_)
  | (with_reducible refine Wd.nm ?_)
  | (with_reducible refine Wd.nget ?_)
  | ((with_reducible refine Wd.tnew ?_); intro p hp)
  | (with_reducible refine Wd.pikn ?_)
  | (with_reducible refine Wt.m1 ?_)
  | (with_reducible refine Wt.m0 ?_)
  | ((with_reducible refine' ⟨?k, ?_⟩); (case k => show ∃ a, _ = V.str a; exact ⟨_, rfl⟩))
  | (with_reducible refine Wt.js_cons ?_)
  | (with_reducible refine Wt.fmt_ ?_)
  | (with_reducible refine Wp.pcons ?_)
  | (with_reducible refine Wp.pnil ?_)
  | ((with_reducible refine' Wp.iteBnT ?h ?_); (case h => show isB _ _ = false; decide))
  | ((with_reducible refine' Wp.iteBnF ?h ?_); (case h => show isB _ _ = true; decide))
  | ((with_reducible refine' Wp.iteBt ?h ?_); (case h => show isB _ _ = true; decide))
  | ((with_reducible refine' Wp.iteBf ?h ?_); (case h => show isB _ _ = false; decide))
  | (with_reducible refine Wp.iteT' ?_)
  | (with_reducible refine Wp.iteF' ?_)
  | (with_reducible refine Wp.rNT_ ?_)
  | ((with_reducible refine Wp.lst ?_))
  | ((with_reducible refine Wp.tup ?_))
  | ((with_reducible refine' Wp.ixL ?h ?e ?_); (case h => walk_at "sq"); (case e => exact rfl))
  | ((with_reducible refine' Wp.ixT ?h ?e ?_); (case h => walk_at "sq"); (case e => exact rfl))
  | ((with_reducible refine' Wp.setL ?h ?e ?_); (case h => walk_at "hp"); (case e => exact rfl))
  | ((with_reducible refine Wp.rI_ ?k ?_); (case k => first | (show (0:Int) < _; omega) | (show CPow _ _; refine' ⟨?_, ?_, ?_⟩ <;> omega) | (show CDiv _ _; refine' ⟨?_, ?_⟩ <;> omega) | (show CMul _ _; refine' Or.inl ⟨?_, ?_⟩ <;> omega) | (show CMul _ _; refine' Or.inr ⟨?_, ?_⟩ <;> first | omega | decide) | (show CDivW _ _; refine' wide_div (b := 240) ?_ ?_ ?_ ?_ <;> first | omega | decide)))
  | ((with_reducible refine ⟨?k, ?_⟩); (case k => first | exact Nat.zero_le _ | (exact Nat.le_of_ble_eq_true rfl)); intro p hp)
  | ((with_reducible refine' ⟨_, _, rfl, .inl ?k, ?_⟩); (case k => walk_at "sq"))
  | ((with_reducible refine' ⟨_, _, rfl, .inr ?k, ?_⟩); (case k => walk_at "sq"))
  | (with_reducible refine ⟨_, rfl, ?_⟩)
  | (with_reducible refine ⟨_, _, rfl, rfl, ?_⟩)
  | (with_reducible refine ⟨_, _, rfl, ?_⟩))
local macro_rules | `(tactic| walk_at "wp") => `(tactic| repeat (walk_at "w1"))

local macro_rules | `(tactic| walk_at "pf") => `(tactic| first
  | (with_reducible exact Wcl.pf0)
  | (with_reducible exact Wcl.pf1)
  | ((with_reducible refine' Wcl.pf2 ?n ?h); (case n => decide +kernel); (case h => walk_at "pf")))
local macro_rules | `(tactic| walk_at "w1") => `(tactic| first
  | (with_reducible refine Wcl.fld_ ?_)
  | (with_reducible refine Wcl.sfld_ ?_)
  | (with_reducible refine Wcl.meth_ ?_)
  | (with_reducible refine Wcl.make_ ?_)
  | (with_reducible refine Wcl.dcZ ?_)
  | (with_reducible refine Wcl.ddelT_ ?_)
  | (with_reducible refine Wcl.daug_ ?_)
  | (with_reducible refine Wcl.dpop1_ ?_)
  | ((with_reducible refine Wcl.dnewT_ ?_); intro p hp)
  | ((with_reducible refine Wcl.dnewK_ ?_); intro p hp)
  | ((with_reducible refine' Wcl.fldR ?h ?c ?n ?e ?_); (case h => walk_at "hp"); (case c => assumption); (case n => assumption); (case e => exact rfl))
  | ((with_reducible refine' Wcl.sfldR ?h ?c ?n ?l ?e ?_); (case h => walk_at "hp"); (case c => assumption); (case n => assumption); (case l => exact Nat.le_of_ble_eq_true rfl); (case e => walk_at "pf"))
  | ((with_reducible refine' Wcl.methR ?h ?l ?_); (case h => walk_at "hp"); (case l => exact rfl)))

section
variable {P : Program} {w : World} {K : PySem.W.Frag} {mg : Str → Option Value} {base : Heap}


/-! ### piles kept whole: kept, gone on with, let go, laid -/
theorem ok_WholePiles_keep (T : Txt P w K mg) : FnOk P w K mg base CX0 9 T.f_WholePiles_keep T.fd_WholePiles_keep ["self"] (spPKeep (WP T) T.o_Tally) := by
  have G_Tally_more := ok_Tally_more (base := base) T
  refine T.F_WholePiles_keep.ok sc_WholePiles_keep (fun vs H Q E h => ?_) (fun cdv Ar outer s H vs Q E hr h => ?_)
  · obtain ⟨S, p, A, run, ks, L, R, G, Z, rfl, _⟩ := h
    rfl
  · obtain ⟨S, p, A, run, ks, L, R, G, Z, rfl, ⟨⟨⟨dp, wl, us, h1, h2, h3, h4, h5⟩, ps, lv, lk⟩, tl, n1, n2, n3⟩, ll, q⟩ := h
    refine ⟨_, (pss_cons (ps_expr (pe_meth (pe_fld (pv 0) rfl) T.cl_Tally T.m_Tally_more G_Tally_more (hr.mono (by decide)) T.b_Tally_more .nil pass0 (pa_cons (pe_fld (pv 0) rfl) pa_nil)))
      (pss_one (ps_ret (pe_callTy call_list_of (by rfl) T.n_list (by decide +kernel) (pa_cons (pe_fld (pv 0) rfl) pa_nil))))), ?_⟩
    rw [show L2.start ["self"] [.ref p] = [some (.ref p)] from rfl]
    try dsimp only [cxOf]
    have c1 := T.cl_WholePiles
    have c2 := T.na_WholePiles_worths
    have c3 := T.na_WholePiles_tally
    have hti := tl.hi
    walk_at "wp"
    refine ⟨A, wl, us, run, _, G, Z, rfl, tl, h2, h3, fun y hy ty => tl.lz y (List.mem_append_left _ ((lk.mem ty).mpr (List.mem_append_left _ hy))) ty, fun H1 t1 k1 => ?_⟩
    have npc : ∀ a ∈ S, a ∉ [A.pc] := fun a ha m => n2 (by rw [← List.mem_singleton.mp m]; exact ha)
    have g1 := k1.keep _ _ (npc _ ps) h1
    have g2 := k1.keep _ _ (npc _ h4) h2
    have lv1 : ∀ a ∈ S, H1 a ≠ none := fun a ha => by
      cases c : H a with
      | none => exact absurd c (lv a ha)
      | some o => rw [k1.keep _ _ (npc _ ha) c]; exact fun h => nomatch h
    walk_at "wp"
    intro l hl
    have s2 := same_new (o := .lst us) hl
    have k02 : Ks [A.pc] H (upd H1 l (.lst us)) := k1.trans (Ks.same s2)
    have ll0 : H l = none := by
      cases c : H l with
      | none => rfl
      | some o =>
        by_cases e : l = A.pc
        · obtain ⟨kp, hp, _⟩ := t1.hp
          rw [e, hp] at hl; cases hl
        · rw [k1.keep _ _ (by simp [e]) c] at hl; cases hl
    have nt : ∀ a, a ∉ S → (∃ o, H a = some o) → a ∉ l :: S := fun a na ⟨o, e⟩ m => by
      rcases List.mem_cons.mp m with m | m
      · rw [← m, e] at ll0; cases ll0
      · exact na m
    refine q (l :: S) _ (L ++ run) G (.ref l) ⟨⟨⟨⟨dp, wl, us, s2 _ _ g1, s2 _ _ g2, h3.keep k02.tk, List.mem_cons_of_mem _ h4, fun x hx => ?_⟩, List.mem_cons_of_mem _ ps, fun a ha => ?_, fun y t => ?_⟩, (t1.like fun y t => ?_).same s2, nt _ n1 ⟨_, hti⟩, nt _ n2 (by obtain ⟨kp, hp, _⟩ := tl.hp; exact ⟨_, hp⟩), nt _ n3 (by obtain ⟨kp, hp, _⟩ := tl.hl; exact ⟨_, hp⟩)⟩, ⟨fun _ h => h, fun y hy t n => ?_⟩, fun a ha => ?_, k02.mono (by simp)⟩
    · rcases List.mem_append.mp hx with hx | hx
      · obtain ⟨l', xs, e, q1, q2, q3, q4⟩ := h5 x hx
        exact ⟨l', xs, e, s2 _ _ (k1.keep _ _ (npc _ q4) q1), q2.keep k02.tk, q3, List.mem_cons_of_mem _ q4⟩
      · rw [List.mem_singleton.mp hx]
        exact ⟨l, us, rfl, upd_same, h3.keep k02.tk, fun e => (lv wl h4) (by rw [← e]; exact ll0), List.mem_cons_self⟩
    · rcases List.mem_cons.mp ha with e | ha
      · rw [e, upd_same]; exact fun h => nomatch h
      · rw [upd_ne (fun e => by rw [e] at ha; exact lv1 _ ha hl)]; exact lv1 a ha
    · rw [cn_app, lk y t, List.flatMap_append]
      simp only [cn_app, List.flatMap_cons, List.flatMap_nil, List.append_nil]; omega
    · simp only [cn_app]; omega
    · refine absurd ?_ n
      rcases List.mem_append.mp hy with hy | hy
      · exact List.mem_append_left _ (List.mem_append_left _ hy)
      · exact List.mem_append_right _ hy
    · rcases List.mem_cons.mp ha with e | ha
      · rw [e]; exact .inr ll0
      · exact .inl ha
theorem ok_WholePiles_release (T : Txt P w K mg) : FnOk P w K mg base CX0 9 T.f_WholePiles_release T.fd_WholePiles_release ["self", "kept"] (spPRelease (WP T) T.o_Tally) := by
  have G_Tally_less := ok_Tally_less (base := base) T
  refine T.F_WholePiles_release.ok sc_WholePiles_release (fun vs H Q E h => ?_) (fun cdv Ar outer s H vs Q E hr h => ?_)
  · obtain ⟨S, p, A, run, k1, k2, L, R, G, Z, k, rfl, _⟩ := h
    rfl
  · obtain ⟨S, p, A, run, k1, k2, L, R, G, Z, ⟨kv, kw⟩, rfl, ⟨⟨⟨dp, wl, us, h1, h2, h3, h4, h5⟩, ps, lv, lk⟩, tl, n1, n2, n3⟩, ll, q⟩ := h
    obtain ⟨l0, xs, rfl, e1, e2, e3, e4⟩ := h5 (kv, kw) (by simp)
    refine ⟨_, (pss_one (ps_expr (pe_meth (pe_fld (pv 0) rfl) T.cl_Tally T.m_Tally_less G_Tally_less (hr.mono (by decide)) T.b_Tally_less .nil pass0 (pa_cons (pv 1) pa_nil)))), ?_⟩
    rw [show L2.start ["self", "kept"] [.ref p, .ref l0] = [some (.ref p), some (.ref l0)] from rfl]
    try dsimp only [cxOf]
    have c1 := T.cl_WholePiles
    have c3 := T.na_WholePiles_tally
    have hti := tl.hi
    have lkr : Like (L ++ R) ((run ++ (k1 ++ k2).flatMap (·.2) ++ R) ++ kw) := fun y t => by
      rw [cn_app, lk y t]
      simp only [cn_app, List.flatMap_append, List.flatMap_cons]; omega
    walk_at "wp"
    refine ⟨A, l0, xs, kw, _, run ++ (k1 ++ k2).flatMap (·.2) ++ R, G, Z, rfl, tl, lkr, e1, e2, fun G' H2 t2 gg g6 k2' => ?_⟩
    have npc : ∀ a ∈ S, a ∉ [A.pc, A.ls] := fun a ha m => by
      simp only [List.mem_cons, List.not_mem_nil, or_false] at m
      rcases m with m | m
      · exact n2 (by rw [← m]; exact ha)
      · exact n3 (by rw [← m]; exact ha)
    walk_at "wp"
    refine q S H2 (run ++ (k1 ++ k2).flatMap (·.2)) G' ⟨⟨⟨⟨dp, wl, _, k2'.keep _ _ (npc _ ps) h1, k2'.keep _ _ (npc _ h4) h2, h3.keep k2'.tk, h4, fun x hx => ?_⟩, ps, fun a ha => ?_, Like.refl⟩, t2, n1, n2, n3⟩, ⟨gg, fun y hy t n => ?_⟩, Grow.refl, k2'.mono (by simp)⟩
    · have hx' : x ∈ k1 ++ (V.ref l0, kw) :: k2 := by
        rcases List.mem_append.mp hx with hx | hx
        · exact List.mem_append_left _ hx
        · exact List.mem_append_right _ (List.mem_cons_of_mem _ hx)
      obtain ⟨l, xs, e, q1, q2, q3, q4⟩ := h5 x hx'
      exact ⟨l, xs, e, k2'.keep _ _ (npc _ q4) q1, q2.keep k2'.tk, q3, q4⟩
    · cases c : H a with
      | none => exact absurd c (lv a ha)
      | some o => rw [k2'.keep _ _ (npc _ ha) c]; exact fun h => nomatch h
    · rcases List.mem_append.mp ((lkr.mem t).mp hy) with m | m
      · exact absurd m n
      · exact g6 y m t n

end
end K28

namespace K28
open PySem PySem.Spec PyProof.Rows L2 Wp Wq Wr Wpm Wth Wta Wpi
local macro_rules | `(tactic| walk_at "ne") => `(tactic| first
  | assumption
  | (refine Ne.symm ?_; assumption)
  | exact ne_of_none (by assumption) (by assumption)
  | exact (ne_of_none (by assumption) (by assumption)).symm
  | exact ne_of (by assumption) (by assumption) (by intro q; cases q))
local macro_rules | `(tactic| walk_at "hp") => `(tactic| first
  | assumption
  | exact upd_same
  | (refine (upd_ne ?_).trans ?_; (walk_at "ne"); (walk_at "hp")))
local macro_rules | `(tactic| walk_at "hq") => `(tactic| first
  | assumption
  | exact upd_same
  | (refine same_new (by assumption) _ _ ?_; (walk_at "hq"))
  | (refine Wp.look (by assumption) ?_; (walk_at "hq")))
local macro_rules | `(tactic| walk_at "sm") => `(tactic| first
  | assumption
  | exact fun _ _ h => h
  | exact same_new (by assumption)
  | (refine Same.trans ?_ (same_new (by assumption)); (walk_at "sm"))
  | (refine Same.trans ?_ (by assumption); (walk_at "sm")))
local macro_rules | `(tactic| walk_at "kp") => `(tactic| first
  | assumption
  | exact Kp.refl _ _
  | (refine Kp.trans ?_ (Kp.new (by assumption)); (walk_at "kp"))
  | (refine Kp.trans ?_ (Same.kp (by assumption)); (walk_at "kp"))
  | (refine Wp.kpT ?_ (by assumption); (walk_at "kp"))
  | exact Same.kp (by walk_at "sm"))
local macro_rules | `(tactic| walk_at "sq") => `(tactic| first
  | assumption
  | exact SqL.of (by walk_at "hp")
  | exact SqT.of (by walk_at "hp"))
local macro_rules | `(tactic| walk_at "kind") => `(tactic| first
  | assumption
  | exact Kind.int _
  | exact Kind.str _
  | exact Kind.bl _
  | exact Kind.non
  | exact Kind.tup (by walk_at "hp")
  | exact Kind.lst (by walk_at "hp")
  | exact Kind.dK (by walk_at "hp"))
local macro_rules | `(tactic| walk_at "w1") => `(tactic| first
  | (with_reducible refine Wp.seq ?_)
  | (with_reducible refine Wp.nx_mk ?_)
  | (with_reducible refine Wp.rt_mk ?_)
  | (with_reducible refine Wp.bk_mk ?_)
  | (with_reducible refine Wp.ct_mk ?_)
  | (with_reducible refine Wp.next ?_)
  | (with_reducible refine Wp.asg ?_)
  | ((with_reducible refine' Wp.gname ?e ?_); (case e => (try dsimp only [List.set, L2.wipe, List.map_cons, List.map_nil]); (try exact rfl)))
  | (with_reducible refine Wp.gsub ?_)
  | (with_reducible refine Wp.ret ?_)
  | (with_reducible refine Wp.retN ?_)
  | (with_reducible refine Wp.drop ?_)
  | (with_reducible refine Wp.dput ?_)
  | (with_reducible refine Wp.ifs ?_)
  | ((with_reducible refine' Wp.var ?h ?_); (case h => exact rfl))
  | (with_reducible refine Wp.con ?_)
  | (with_reducible refine Wp.op ?_)
  | (with_reducible refine Wp.un ?_)
  | (with_reducible refine Wp.cb ?_)
  | (with_reducible refine Wp.anil ?_)
  | (with_reducible refine Wp.acons ?_)
  | (with_reducible refine Wp.call ?_)
  | (with_reducible refine Wp.test ?_)
  | (with_reducible refine Wp.tb_ ?_)
  | (with_reducible refine Wp.and_ ?_)
  | (with_reducible refine Wp.or_ ?_)
  | (with_reducible refine Wp.not_ ?_)
  | (with_reducible refine Wp.andV ?_)
  | (with_reducible refine Wp.orV ?_)
  | (with_reducible refine Wp.notV ?_)
  | (with_reducible refine Wp.rI0_ ?_)
  | (with_reducible refine Wp.rU_ ?_)
  | ((with_reducible refine Wp.rEq_ ?k ?_); (case k => exact rfl))
  | ((with_reducible refine Wp.rNe_ ?k ?_); (case k => exact rfl))
  | (with_reducible refine Wp.gcons ?_)
  | (with_reducible refine Wp.gnil ?_)
  | ((with_reducible refine' Wp.gtup ?h ?e ?_); (case h => walk_at "sq"); (case e => exact rfl))
  | (with_reducible refine Wp.sl ?_)
  | (with_reducible refine Wp.part ?_)
  | (with_reducible refine Wp.nopart ?_)
  | (with_reducible refine Wp.ifE ?_)
  | (with_reducible refine Wp.bm0 ?_)
  | (with_reducible refine Wp.bm ?_)
  | (with_reducible refine Wp.lcR1 ?_)
  | (with_reducible refine Wp.lcR2 ?_)
  | (with_reducible refine Wp.lcL ?_)
  | (with_reducible refine Wp.chain ?_)
  | (with_reducible refine Wp.lc2V ?_)
  | (with_reducible refine Wp.piL ?_)
  | (with_reducible refine Wp.yes ?_)
  | (with_reducible refine Wp.dinI ?_)
  | (with_reducible refine Wp.dninI ?_)
  | (with_reducible refine Wp.dget ?_)
  | ((with_reducible refine' ⟨?k, ?_⟩); (case k => show L2.wipe _ _ = L2.wipe _ _; exact rfl))
  | ((with_reducible refine' ⟨?k, ?_⟩); (case k => show V.non = V.non; exact rfl))
  | (with_reducible refine Wp.forR1 ?_)
  | (with_reducible refine Wp.forR2 ?_)
  | (with_reducible refine Wp.forL ?_)
  | (with_reducible refine Wp.forT ?_)
  | ((with_reducible refine' ⟨?k, ?_⟩); (case k => exact Wp.tyvL (by walk_at "hp")))
  | ((with_reducible refine' Wp.rev_ ?k ?_); (case k => walk_at "hp"))
  | ((with_reducible refine' Wp.isi ?k ?h ?_); (case k => walk_at "kind"); (case h => decide))
  | ((with_reducible refine' Wp.typ ?k ?_); (case k => walk_at "kind"))
  | (with_reducible refine Wp.slS ?k ?_; (case k => assumption))
  | (with_reducible refine iteT ?_)
  | (with_reducible refine iteF ?_)
  | (with_reducible refine Wtc.dcL ?_)
  | (with_reducible refine Wst.step ?_)
  | (with_reducible refine Wtc.dget2 ?_)
  | (with_reducible refine Wtc.lcZ ?_)
  | (with_reducible refine Wrw.loop_setLc ?_)
  | (with_reducible refine Wz.par ?_)
  | (with_reducible refine Wz.forN ?_)
  | (with_reducible refine Wz.dcL ?_)
  | (with_reducible refine Wz.forZ ?_)
  | (with_reducible refine Wz.lcR3 ?_)
  | (with_reducible refine Wc.revL ?_)
  | (with_reducible refine Wd.nm ?_)
  | (with_reducible refine Wd.nget ?_)
  | ((with_reducible refine Wd.tnew ?_); intro p hp)
  | (with_reducible refine Wd.pikn ?_)
  | (with_reducible refine Wt.m1 ?_)
  | (with_reducible refine Wt.m0 ?_)
  | ((with_reducible refine' ⟨?k, ?_⟩); (case k => show ∃ a, _ = V.str a; exact ⟨_, rfl⟩))
  | (with_reducible refine Wt.js_cons ?_)
  | (with_reducible refine Wt.fmt_ ?_)
  | (with_reducible refine Wp.pcons ?_)
  | (with_reducible refine Wp.pnil ?_)
  | ((with_reducible refine' Wp.iteBnT ?h ?_); (case h => show isB _ _ = false; decide))
  | ((with_reducible refine' Wp.iteBnF ?h ?_); (case h => show isB _ _ = true; decide))
  | ((with_reducible refine' Wp.iteBt ?h ?_); (case h => show isB _ _ = true; decide))
  | ((with_reducible refine' Wp.iteBf ?h ?_); (case h => show isB _ _ = false; decide))
  | (with_reducible refine Wp.iteT' ?_)
  | (with_reducible refine Wp.iteF' ?_)
  | (with_reducible refine Wp.rNT_ ?_)
  | ((with_reducible refine Wp.lst ?_))
  | ((with_reducible refine Wp.tup ?_))
  | ((with_reducible refine' Wp.ixL ?h ?e ?_); (case h => walk_at "sq"); (case e => exact rfl))
  | ((with_reducible refine' Wp.ixT ?h ?e ?_); (case h => walk_at "sq"); (case e => exact rfl))
  | ((with_reducible refine' Wp.setL ?h ?e ?_); (case h => walk_at "hp"); (case e => exact rfl))
  | ((with_reducible refine Wp.rI_ ?k ?_); (case k => first | (show (0:Int) < _; omega) | (show CPow _ _; refine' ⟨?_, ?_, ?_⟩ <;> omega) | (show CDiv _ _; refine' ⟨?_, ?_⟩ <;> omega) | (show CMul _ _; refine' Or.inl ⟨?_, ?_⟩ <;> omega) | (show CMul _ _; refine' Or.inr ⟨?_, ?_⟩ <;> first | omega | decide) | (show CDivW _ _; refine' wide_div (b := 240) ?_ ?_ ?_ ?_ <;> first | omega | decide)))
  | ((with_reducible refine ⟨?k, ?_⟩); (case k => first | exact Nat.zero_le _ | (exact Nat.le_of_ble_eq_true rfl)); intro p hp)
  | ((with_reducible refine' ⟨_, _, rfl, .inl ?k, ?_⟩); (case k => walk_at "sq"))
  | ((with_reducible refine' ⟨_, _, rfl, .inr ?k, ?_⟩); (case k => walk_at "sq"))
  | (with_reducible refine ⟨_, rfl, ?_⟩)
  | (with_reducible refine ⟨_, _, rfl, rfl, ?_⟩)
  | (with_reducible refine ⟨_, _, rfl, ?_⟩))
local macro_rules | `(tactic| walk_at "wp") => `(tactic| repeat (walk_at "w1"))

local macro_rules | `(tactic| walk_at "pf") => `(tactic| first
  | (with_reducible exact Wcl.pf0)
  | (with_reducible exact Wcl.pf1)
  | ((with_reducible refine' Wcl.pf2 ?n ?h); (case n => decide +kernel); (case h => walk_at "pf")))
local macro_rules | `(tactic| walk_at "w1") => `(tactic| first
  | (with_reducible refine Wcl.fld_ ?_)
  | (with_reducible refine Wcl.sfld_ ?_)
  | (with_reducible refine Wcl.meth_ ?_)
  | (with_reducible refine Wcl.make_ ?_)
  | (with_reducible refine Wcl.dcZ ?_)
  | (with_reducible refine Wcl.ddelT_ ?_)
  | (with_reducible refine Wcl.daug_ ?_)
  | (with_reducible refine Wcl.dpop1_ ?_)
  | ((with_reducible refine Wcl.dnewT_ ?_); intro p hp)
  | ((with_reducible refine Wcl.dnewK_ ?_); intro p hp)
  | ((with_reducible refine' Wcl.fldR ?h ?c ?n ?e ?_); (case h => walk_at "hp"); (case c => assumption); (case n => assumption); (case e => exact rfl))
  | ((with_reducible refine' Wcl.sfldR ?h ?c ?n ?l ?e ?_); (case h => walk_at "hp"); (case c => assumption); (case n => assumption); (case l => exact Nat.le_of_ble_eq_true rfl); (case e => walk_at "pf"))
  | ((with_reducible refine' Wcl.methR ?h ?l ?_); (case h => walk_at "hp"); (case l => exact rfl)))

section
variable {P : Program} {w : World} {K : PySem.W.Frag} {mg : Str → Option Value} {base : Heap}


/-! ### piles kept whole: made, laid -/
def spWInit (I : PilI K) (oT : Addr) : Sp := fun vs H Q _ => ∃ (p dp : Addr), vs = [.ref p] ∧ H p = some (.ins I.o dp []) ∧ ∀ S A H', PilT I oT S H' p A [] [] [] [] [] [] → (∀ a ∈ S, a = p ∨ H a = none) → H A.ta = none → H A.pc = none → H A.ls = none → Ks [p] H H' → Q .non H'
theorem ok_WholePiles_init (T : Txt P w K mg) : FnOk P w K mg base CX0 3 T.f_WholePiles_init T.fd_WholePiles_init ["self"] (spWInit (WP T) T.o_Tally) := by
  have G_Tally_init := ok_Tally_init (base := base) T
  refine T.F_WholePiles_init.ok sc_WholePiles_init (fun vs H Q E h => ?_) (fun cdv Ar outer s H vs Q E hr h => ?_)
  · obtain ⟨p, dp, rfl, _⟩ := h
    rfl
  · obtain ⟨p, dp, rfl, hp, q⟩ := h
    refine ⟨_, (pss_cons (ps_fld (pv 0) (pe_make0 T.mk_Tally G_Tally_init (hr.mono (by decide)) rfl T.gC_Tally T.b_Tally_init .nil pass0) rfl)
      (pss_one (ps_fld (pv 0) (pe_lst pa_nil) rfl))), ?_⟩
    rw [show L2.start ["self"] [.ref p] = [some (.ref p)] from rfl]
    try dsimp only [cxOf]
    have c1 := T.cl_WholePiles
    have c2 := T.na_WholePiles_worths
    have c3 := T.na_WholePiles_tally
    have hp0 : H p = some (.ins T.o_WholePiles dp []) := hp
    walk_at "wp"
    intro ta dta nta ndta nne
    have sa : Same H (upd (upd H dta (.own ta)) ta (.ins T.o_Tally dta [])) := (same_new ndta).trans (same_new (by rw [upd_ne nne.symm]; exact nta))
    have hta : upd (upd H dta (.own ta)) ta (.ins T.o_Tally dta []) ta = some (.ins T.o_Tally dta []) := upd_same
    generalize upd (upd H dta (.own ta)) ta (.ins T.o_Tally dta []) = H1 at sa hta
    refine ⟨ta, dta, rfl, hta, fun pc ls H2 tl2 k2 fpc fls => ⟨rfl, ?_⟩⟩
    have npt : p ≠ ta := ne_of_none hp0 nta
    have hp2 := k2.keep _ _ (by simpa using npt) (sa _ _ hp0)
    walk_at "wp"
    rename_i wl hwl
    have npc : p ≠ pc := ne_of_none hp0 (sa.free fpc)
    have npl : p ≠ ls := ne_of_none hp0 (sa.free fls)
    have kp : Ks [p] H2 (upd H2 p (.ins T.o_WholePiles dp [("tally", .ref ta)])) := ⟨fun a o n e => by
      rw [upd_ne (fun q : a = p => n (by rw [q]; simp))]; exact e, fun t ys e => by
      rw [upd_ne (ne_of e hp2 (fun q => nomatch q))]; exact e⟩
    have tl3 := tl2.keep kp (by simpa using npt.symm) (by simpa using npc.symm) (by simpa using npl.symm)
    have hp3 : upd H2 p (.ins T.o_WholePiles dp [("tally", .ref ta)]) p = some (.ins T.o_WholePiles dp [("tally", .ref ta)]) := upd_same
    have k03 : Ks [p] H (upd H2 p (.ins T.o_WholePiles dp [("tally", .ref ta)])) := by
      have k1 : Ks [ta] H H2 := (Ks.same sa).trans k2
      have k2 : Ks [] H H2 := ⟨fun a o _ e => k1.keep a o (by simpa using ne_of_none e nta) e, k1.tk⟩
      exact (k2.mono (by simp)).trans kp
    generalize upd H2 p (.ins T.o_WholePiles dp [("tally", .ref ta)]) = H3 at kp tl3 hp3 k03 hwl ⊢
    have npw : p ≠ wl := ne_of_none hp3 hwl
    have tl4 := tl3.same (same_new (o := .lst []) hwl)
    have hp4 := same_new (o := .lst []) hwl _ _ hp3
    have fwl : H wl = none := by
      cases c : H wl with
      | none => rfl
      | some o => rw [k03.keep _ _ (by simpa using npw.symm) c] at hwl; cases hwl
    walk_at "wp"
    have ku : Ks [p] (upd H3 wl (.lst [])) (upd (upd H3 wl (.lst [])) p (.ins T.o_WholePiles dp [("tally", .ref ta), ("worths", .ref wl)])) := ⟨fun a o n e => by
      rw [upd_ne (fun q : a = p => n (by rw [q]; simp))]; exact e, fun t ys e => by
      rw [upd_ne (ne_of e hp4 (fun q => nomatch q))]; exact e⟩
    have tl5 := tl4.keep ku (by simpa using npt.symm) (by simpa using npc.symm) (by simpa using npl.symm)
    have nin : ∀ a, H a = none → a ≠ wl → a ≠ p → a ∉ [p, wl] := fun a _ n1 n2 m => by
      simp only [List.mem_cons, List.not_mem_nil, or_false] at m
      rcases m with m | m
      · exact n2 m
      · exact n1 m
    have w1 : ta ≠ wl := by
      obtain ⟨a, _⟩ := tl3
      exact ne_of_none a hwl
    have w2 : pc ≠ wl := by
      obtain ⟨_, ⟨kp, a, _⟩, _⟩ := tl3
      exact ne_of_none a hwl
    have w3 : ls ≠ wl := by
      obtain ⟨_, _, ⟨kp, a, _⟩, _⟩ := tl3
      exact ne_of_none a hwl
    refine q [p, wl] ⟨ta, dta, pc, ls⟩ _ ⟨⟨⟨dp, wl, [], upd_same, by rw [upd_ne npw.symm, upd_same], Pile.nil, by simp, fun k hk => nomatch hk⟩, by simp, fun a ha => ?_, Like.refl⟩, tl5, nin _ nta w1 npt.symm, nin _ (sa.free fpc) w2 npc.symm, nin _ (sa.free fls) w3 npl.symm⟩ (fun a ha => ?_) nta (sa.free fpc) (sa.free fls) ((k03.trans (Ks.same (same_new (o := .lst []) hwl))).trans ku)
    · simp only [List.mem_cons, List.not_mem_nil, or_false] at ha
      rcases ha with rfl | rfl
      · rw [upd_same]; exact fun h => nomatch h
      · rw [upd_ne npw.symm, upd_same]; exact fun h => nomatch h
    · simp only [List.mem_cons, List.not_mem_nil, or_false] at ha
      rcases ha with rfl | rfl
      · exact .inl rfl
      · exact .inr fwl
theorem ok_WholePiles_lay (T : Txt P w K mg) : FnOk P w K mg base CX0 9 T.f_WholePiles_lay T.fd_WholePiles_lay ["self", "piles"] (spPLay (WP T) T.o_Tally) := by
  have G_Tally_more := ok_Tally_more (base := base) T
  refine T.F_WholePiles_lay.ok sc_WholePiles_lay (fun vs H Q E h => ?_) (fun cdv Ar outer s H vs Q E hr h => ?_)
  · obtain ⟨S, p, pl, A, ys, P0, Ps, R, G, Z, rfl, _⟩ := h
    rfl
  · obtain ⟨S, p, pl, A, ys, P0, Ps, R, G, Z, rfl, ⟨⟨⟨dp, wl, us, h1, h2, h3, h4, _⟩, ps, lv, lk⟩, tl, n1, n2, n3⟩, hpl, hys, npl, bd, yl, q⟩ := h
    refine ⟨_, (pss_cons (ps_for PassesOwn.never rfl (pi_list (pv 1)) (pg_name (i := 2) sc_WholePiles_lay.nd rfl (.inl rfl)) (pss_one (ps_expr (pe_meth (pe_fld (pv 0) rfl) T.cl_Tally T.m_Tally_more G_Tally_more (hr.mono (by decide)) T.b_Tally_more .nil pass0 (pa_cons (pv 2) pa_nil)))))
      (pss_cons (ps_fld (pv 0) (pe_callTy call_list_of (by rfl) T.n_list (by decide +kernel) (pa_cons (pe_ix ix_list (pv 1) pe_int (fun _ _ => rfl)) pa_nil)) rfl)
      (pss_one (ps_ret (pe_lc (own := [("pile", 2)]) rfl sc_WholePiles_lay.nd (pi_list (pe_slice sl_list (pv 1) (po_some pe_int) po_none)) (blkOk_by (N := ["self", "piles", "pile"]) (sc := defScope s_WholePiles_lay) (by decide +kernel)) (fun _ _ _ _ _ => pg_name (i := 2) sc_WholePiles_lay.nd rfl (Or.inl rfl)) (fun _ _ _ _ _ => pts_nil) (fun _ _ _ _ _ => (pe_callTy (show CallR _ _ (Wp.rListS K) from Wp.call_listS) (by rfl) T.n_list (by decide +kernel) (pa_cons (pv 2) pa_nil)))))))), ?_⟩
    rw [show L2.start ["self", "piles", "pile"] [.ref p, .ref pl] = [some (.ref p), some (.ref pl), none] from rfl]
    try dsimp only [cxOf]
    have c1 := T.cl_WholePiles
    have c2 := T.na_WholePiles_worths
    have c3 := T.na_WholePiles_tally
    have hti := tl.hi
    have line : (1000000 : Nat) < sizeLine := by decide
    have yl2 := hys.len
    have npc : ∀ a ∈ S, a ∉ [A.pc] := fun a ha m => n2 (by rw [← List.mem_singleton.mp m]; exact ha)
    have nplp : pl ∉ [A.pc] := fun m => by
      obtain ⟨kp, hp, _⟩ := tl.hp
      exact ne_of hpl hp (fun q => nomatch q) (List.mem_singleton.mp m)
    walk_at "wp"
    refine ⟨⟨ys, SqL.of hpl⟩, loopL (xs := ys) (fun i σ' H' => ∃ y, σ' = [some (.ref p), some (.ref pl), y] ∧ Ks [A.pc] H H' ∧ Tl T.o_Tally H' A ([] ++ R ++ ((P0 :: Ps).take i).flatMap id) G Z) ⟨_, rfl, Ks.refl, by simpa using tl⟩ (fun i σ' H' _ h => by obtain ⟨_, _, k, _⟩ := h; exact SqL.of (k.keep _ _ nplp hpl)) ?_ ?_⟩
    · rintro i x σ' H1 hi ⟨y, rfl, k1, t1⟩
      obtain ⟨P1, hP, l, xs, rfl, q1, q2, q3⟩ := pair_at1 hys hi
      have m1 := bd P1 (List.mem_of_getElem? hP)
      have lp : l ∉ [A.pc] := fun m => by
        obtain ⟨kp, hp, _⟩ := tl.hp
        exact ne_of q1 hp (fun q => nomatch q) (List.mem_singleton.mp m)
      have g1 := k1.keep _ _ (npc _ ps) h1
      have gt := t1.hi
      walk_at "wp"
      refine ⟨A, l, xs, P1, _, G, Z, rfl, t1, k1.keep _ _ lp q1, q2.keep k1.tk, m1.2, fun H2 t2 k2 => ?_⟩
      refine ⟨_, rfl, k1.trans k2, t2.like fun y t => ?_⟩
      rw [List.take_add_one, hP, List.flatMap_append]
      simp only [cn_app, Option.toList, List.flatMap_cons, List.flatMap_nil, List.append_nil, id]; omega
    rintro σ' H1 ⟨y, rfl, k1, t1⟩
    rw [yl2, List.take_length] at t1
    have hpl1 := k1.keep _ _ nplp hpl
    obtain ⟨v0, ys', e0⟩ : ∃ v0 ys', ys = v0 :: ys' := by
      cases ys with
      | nil => simp at yl2
      | cons a b => exact ⟨a, b, rfl⟩
    subst e0
    have hys1 := hys
    cases hys1 with
    | cons r0 rs =>
    obtain ⟨l0, xs0, rfl, a1, a2, a3⟩ := r0
    have lp0 : l0 ∉ [A.pc] := fun m => by
      obtain ⟨kp, hp, _⟩ := tl.hp
      exact ne_of a1 hp (fun q => nomatch q) (List.mem_singleton.mp m)
    have a1' := k1.keep _ _ lp0 a1
    have f1 := k1.keep _ _ (npc _ ps) h1
    have gt1 := t1.hi
    have lv1 : ∀ a ∈ S, H1 a ≠ none := fun a ha => by
      cases c : H a with
      | none => exact absurd c (lv a ha)
      | some o => rw [k1.keep _ _ (npc _ ha) c]; exact fun h => nomatch h
    have back : ∀ x, H1 x = none → H x = none := fun x hx => by
      cases c : H x with
      | none => rfl
      | some o =>
        by_cases e : x = A.pc
        · obtain ⟨kp, hp, _⟩ := t1.hp
          rw [e, hp] at hx; cases hx
        · rw [k1.keep _ _ (by simpa using e) c] at hx; cases hx
    walk_at "wp"
    refine ixL (SqL.of hpl1) (atI_of (show (0 : Int) = ((0 : Nat) : Int) from rfl) rfl) ?_
    walk_at "wp"
    intro w2 hw2
    have s2 := same_new (o := .lst xs0) hw2
    have f2 := s2 _ _ f1
    have np2 : p ≠ w2 := fun e => lv1 p ps (by rw [e]; exact hw2)
    walk_at "wp"
    have ku : Ks [p] (upd H1 w2 (.lst xs0)) (upd (upd H1 w2 (.lst xs0)) p (.ins T.o_WholePiles dp [("tally", .ref A.ta), ("worths", .ref w2)])) := ⟨fun a o n e => by
      rw [upd_ne (fun q : a = p => n (by rw [q]; simp))]; exact e, fun t ys e => by
      rw [upd_ne (ne_of e f2 (fun q => nomatch q))]; exact e⟩
    have nS : ∀ a, a ∉ S → a ∉ [p] := fun a na m => na (by rw [List.mem_singleton.mp m]; exact ps)
    have t3 := (t1.same s2).keep ku (nS _ n1) (nS _ n2) (nS _ n3)
    have hp3 : upd (upd H1 w2 (.lst xs0)) p (.ins T.o_WholePiles dp [("tally", .ref A.ta), ("worths", .ref w2)]) p = _ := upd_same
    have hw3 : upd (upd H1 w2 (.lst xs0)) p (.ins T.o_WholePiles dp [("tally", .ref A.ta), ("worths", .ref w2)]) w2 = some (.lst xs0) := by rw [upd_ne np2.symm, upd_same]
    have hpl3 := ku.keep _ _ (nS _ npl) (s2 _ _ hpl1)
    have k13 : Ks (p :: [A.pc]) H (upd (upd H1 w2 (.lst xs0)) p (.ins T.o_WholePiles dp [("tally", .ref A.ta), ("worths", .ref w2)])) := ((k1.trans (Ks.same s2)).mono (by simp)).trans (ku.mono (by simp))
    have lv3 : ∀ a ∈ S, upd (upd H1 w2 (.lst xs0)) p (.ins T.o_WholePiles dp [("tally", .ref A.ta), ("worths", .ref w2)]) a ≠ none := fun a ha => by
      by_cases e : a = p
      · rw [e, upd_same]; exact fun h => nomatch h
      · rw [upd_ne e, upd_ne (fun e => lv1 a ha (by rw [e]; exact hw2))]; exact lv1 a ha
    have b3 : ∀ x, upd (upd H1 w2 (.lst xs0)) p (.ins T.o_WholePiles dp [("tally", .ref A.ta), ("worths", .ref w2)]) x = none → H1 x = none := fun x hx => by
      have e1 : x ≠ p := fun e => by rw [e, upd_same] at hx; cases hx
      rw [upd_ne e1] at hx
      have e2 : x ≠ w2 := fun e => by rw [e, upd_same] at hx; cases hx
      rw [upd_ne e2] at hx; exact hx
    generalize upd (upd H1 w2 (.lst xs0)) p (.ins T.o_WholePiles dp [("tally", .ref A.ta), ("worths", .ref w2)]) = H3 at t3 hp3 hw3 hpl3 k13 lv3 b3
    walk_at "wp"
    refine slL (SqL.of hpl3) (fun c hc => ?_)
    rw [show cutV (V.ref l0 :: ys') (some 1) none = ys' by rw [show (1 : Int) = ((1 : Nat) : Int) from rfl, Wc.cut_drop]; rfl]
    have s4 := same_new (o := .lst ys') hc
    have hc4 : upd H3 c (.lst ys') c = some (.lst ys') := upd_same
    generalize upd H3 c (.lst ys') = H4 at s4 hc4
    walk_at "wp"
    refine ⟨⟨_, SqL.of hc4⟩, fun D hD => ?_⟩
    have w2D : w2 ≠ D := ne_of_none (s4 _ _ hw3) hD
    have fD0 : H D = none := back _ (b3 _ (s4.free hD))
    have nDS : D ∉ S := fun m => lv D m fD0
    refine loopCL (xs := ys') (fun j H' => Same H4 H' ∧ ∃ ls : List Addr, H' D = some (.lst (ls.map V.ref)) ∧ ls.length = j ∧ (∀ (i : Nat) (l : Addr) (Pz : List W), ls[i]? = some l → Ps[i]? = some Pz → ∃ us, H' l = some (.lst us) ∧ Pile H' us Pz) ∧ ∀ l ∈ ls, H4 l = none ∧ l ≠ D ∧ H' l ≠ none) ⟨same_new hD, [], upd_same, rfl, fun i l Pz h => by simp at h, fun l h => nomatch h⟩ (fun j H' _ h => SqL.of (h.1 _ _ hc4)) ?_ ?_
    · rintro j x H5 hj ⟨s5, ls, h5, el, pj, fj⟩
      obtain ⟨P1, hP, l, xs, rfl, q1, q2, q3⟩ := pair_at1 rs hj
      have jl := (List.getElem?_eq_some_iff.mp hj).1
      have lpc : l ∉ p :: [A.pc] := fun m => by
        simp only [List.mem_cons, List.not_mem_nil, or_false] at m
        rcases m with m | m
        · exact ne_of q1 h1 (fun q => nomatch q) m
        · obtain ⟨kp, hp, _⟩ := tl.hp
          exact ne_of q1 hp (fun q => nomatch q) m
      have g1 := s5 _ _ (s4 _ _ (k13.keep _ _ lpc q1))
      have yl3 : ys'.length ≤ 400000 := by rw [List.length_cons] at yl; omega
      walk_at "wp"
      refine listS_ (SqL.of g1) (fun n hn => ?_)
      have nD : n ≠ D := (ne_of_none h5 hn).symm
      have s6 := same_new (o := .lst xs) hn
      have h6 := s6 _ _ h5
      refine ⟨_, h6, by rw [List.length_map]; omega, fun a o e => ?_, ls ++ [n], ?_, by rw [List.length_append, el]; rfl, ?_, ?_⟩
      · rw [upd_ne (ne_of_none e hD)]; exact s6 _ _ (s5 _ _ e)
      · rw [List.map_append]; exact upd_same
      · intro i l' Pz hl' hPz
        have tkD : Tk H5 (upd (upd H5 n (.lst xs)) D (.lst (ls.map V.ref ++ [.ref n]))) := (Same.tk s6).trans (Tk.lst h6)
        by_cases ei : i < ls.length
        · rw [List.getElem?_append_left ei] at hl'
          obtain ⟨us, u1, u2⟩ := pj i l' Pz hl' hPz
          have nl := fj l' (List.mem_of_getElem? hl')
          exact ⟨us, by rw [upd_ne nl.2.1]; exact s6 _ _ u1, u2.keep tkD⟩
        · rw [List.getElem?_append_right (by omega)] at hl'
          have e0 : i - ls.length = 0 := by
            have := (List.getElem?_eq_some_iff.mp hl').1
            simp at this; omega
          rw [e0] at hl'
          have ei2 : i = j := by omega
          subst ei2
          rw [hP] at hPz
          cases hPz
          cases hl'
          exact ⟨xs, by rw [upd_ne nD, upd_same], (q2.keep (k13.trans (Ks.same (s4.trans s5))).tk).keep tkD⟩
      · intro l' hl'
        rcases List.mem_append.mp hl' with hl' | hl'
        · obtain ⟨z1, z2, z3⟩ := fj l' hl'
          exact ⟨z1, z2, by rw [upd_ne z2]; intro e; exact z3 (s6.free e)⟩
        · rw [List.mem_singleton.mp hl']
          exact ⟨s5.free hn, nD, by rw [upd_ne nD, upd_same]; exact fun h => nomatch h⟩
    · rintro H5 ⟨s5, ls, h5, el, pj, fj⟩
      have s35 := s4.trans s5
      have k05 : Ks (p :: [A.pc]) H H5 := k13.trans (Ks.same s35)
      have fresh : ∀ x ∈ w2 :: ls, H x = none := fun x hx => by
        rcases List.mem_cons.mp hx with e | hx
        · rw [e]; exact back _ hw2
        · exact back _ (b3 _ (s4.free (fj x hx).1))
      have nt : ∀ a, a ∉ S → (∃ o, H a = some o) → a ∉ (w2 :: ls) ++ S := fun a na ⟨o, e⟩ m => by
        rcases List.mem_append.mp m with m | m
        · rw [fresh a m] at e; cases e
        · exact na m
      have psl : Ps.length = ys'.length := (Paired.length rs).symm
      refine q ((w2 :: ls) ++ S) H5 (P0 ++ Ps.flatMap id) G D (ls.map V.ref) fD0 h5 (by rw [List.length_map, el, psl]) ⟨⟨⟨⟨dp, w2, xs0, s35 _ _ hp3, s35 _ _ hw3, a2.keep k05.tk, by simp, fun k hk => ?_⟩, by simp [ps], fun a ha => ?_, fun y t => ?_⟩, (t3.same s35).like fun y t => ?_, nt _ n1 ⟨_, hti⟩, nt _ n2 (by obtain ⟨kp, hp, _⟩ := tl.hp; exact ⟨_, hp⟩), nt _ n3 (by obtain ⟨kp, hp, _⟩ := tl.hl; exact ⟨_, hp⟩)⟩, ⟨fun _ h => h, fun y hy t n => ?_⟩, fun a ha => ?_, k05.mono fun a ha => ?_⟩ fun m => ?_
      · obtain ⟨i, hi⟩ := List.getElem?_of_mem hk
        obtain ⟨hk1, hk2⟩ := List.getElem?_zip_eq_some.mp hi
        rw [List.getElem?_map] at hk1
        obtain ⟨l, hl, e⟩ := Option.map_eq_some_iff.mp hk1
        obtain ⟨us, u1, u2⟩ := pj i l _ hl hk2
        have lm := List.mem_of_getElem? hl
        refine ⟨l, us, e.symm, u1, u2, fun e => ?_, by simp [lm]⟩
        have := (fj l lm).1
        rw [e, s4 _ _ hw3] at this; cases this
      · rcases List.mem_append.mp ha with ha | ha
        · rcases List.mem_cons.mp ha with e | ha
          · rw [e, s35 _ _ hw3]; exact fun h => nomatch h
          · exact (fj a ha).2.2
        · exact fun e => lv3 a ha (s35.free e)
      · rw [cn_app, cn_app]
        congr 1
        have : ((ls.map V.ref).zip Ps).flatMap (fun x => x.2) = Ps.flatMap id := by
          rw [show ((ls.map V.ref).zip Ps).flatMap (fun x => x.2) = ((((ls.map V.ref).zip Ps).map (·.2)).flatMap id) by rw [List.flatMap_map]; rfl, List.map_snd_zip]
          rw [List.length_map, el, psl]; exact Nat.le_refl _
        rw [this]
      · rw [List.flatMap_cons]
        simp only [cn_app, cn_nil, id]; omega
      · refine absurd ?_ n
        exact List.mem_append_right _ (by simpa using hy)
      · rcases List.mem_append.mp ha with ha | ha
        · exact .inr (fresh a ha)
        · exact .inl ha
      · rcases List.mem_cons.mp ha with e | ha
        · rw [e]; simp [ps]
        · rw [List.mem_singleton.mp ha]; simp
      · rcases List.mem_append.mp m with m | m
        · rcases List.mem_cons.mp m with e | m
          · exact w2D e.symm
          · exact (fj D m).2.1 rfl
        · exact nDS m

end
end K28

/-! Ways and their lengths; all from which one comes to a thing. -/
namespace Wwy
open PySem PySem.Spec PyProof.Rows L2 Wp Wq Wr Wpm Wpn Wth
/-! ### within so many things -/
def Wn (R : List W) (h : W → List W) : Nat → W → Prop
  | 0, _ => False
  | k + 1, z => z ∈ R ∨ ∃ y, Wn R h k y ∧ z ∈ h y
section
variable {R : List W} {h : W → List W} {z y : W} {k n m : Nat}
theorem Wn.up : ∀ {k : Nat} {z : W}, Wn R h k z → Wn R h (k + 1) z
  | 0, _, w => w.elim
  | k + 1, z, w => by
    rcases w with w | ⟨y, w, m⟩
    · exact .inl w
    · exact .inr ⟨y, Wn.up w, m⟩
theorem Wn.mono (w : Wn R h k z) (l : k ≤ n) : Wn R h n z := by
  induction l with
  | refl => exact w
  | step _ ih => exact ih.up
theorem Wn.reach : ∀ {k : Nat} {z : W}, Wn R h k z → Reach R h z
  | 0, _, w => w.elim
  | k + 1, z, w => by
    rcases w with w | ⟨y, w, m⟩
    · exact .root w
    · exact .step (Wn.reach w) m
/-- just so far -/
def Rank (R : List W) (h : W → List W) (k : Nat) (z : W) : Prop := Wn R h (k + 1) z ∧ ¬ Wn R h k z
theorem Rank.uniq (a : Rank R h k z) (b : Rank R h n z) : k = n := by
  rcases Nat.lt_trichotomy k n with l | l | l
  · exact (b.2 (a.1.mono l)).elim
  · exact l
  · exact (a.2 (b.1.mono l)).elim
theorem Rank.root (m : z ∈ R) : Rank R h 0 z := ⟨.inl m, fun w => w⟩
theorem Rank.zero (r : Rank R h 0 z) : z ∈ R := by
  rcases r.1 with w | ⟨y, w, _⟩
  · exact w
  · exact w.elim
theorem Rank.down (r : Rank R h (k + 1) z) : ∃ y, Rank R h k y ∧ z ∈ h y := by
  rcases r.1 with w | ⟨y, w, m⟩
  · exact (r.2 (.inl w)).elim
  · exact ⟨y, ⟨w, fun c => r.2 (.inr ⟨y, c, m⟩)⟩, m⟩
theorem Rank.below : ∀ {k : Nat} {z : W}, Rank R h k z → ∀ j, j ≤ k → ∃ y, Rank R h j y
  | 0, z, r, j, l => ⟨z, by rw [Nat.le_zero.mp l]; exact r⟩
  | k + 1, z, r, j, l => by
    by_cases c : j = k + 1
    · exact ⟨z, c ▸ r⟩
    · obtain ⟨y, q, _⟩ := r.down
      exact q.below j (by omega)
theorem Rank.len {T : List W} (r : Rank R h k z) (inT : ∀ y, Reach R h y → y ∈ T) : k < T.length := by
  have ex : ∀ j, ∃ y, j ≤ k → Rank R h j y := fun j => by
    by_cases c : j ≤ k
    · obtain ⟨y, q⟩ := r.below j c
      exact ⟨y, fun _ => q⟩
    · exact ⟨z, fun q => (c q).elim⟩
  obtain ⟨f, hf⟩ := Classical.axiomOfChoice ex
  have := sub_len (F := (List.range (k + 1)).map f) (L := T) ?_ ?_
  · rw [List.length_map, List.length_range] at this
    omega
  · show List.Pairwise _ _
    rw [List.pairwise_map]
    refine List.Pairwise.imp_of_mem (fun {a b} ha hb (q : a < b) e => ?_) List.pairwise_lt_range
    have := (hf a (by have := List.mem_range.mp ha; omega)).uniq (e ▸ hf b (by have := List.mem_range.mp hb; omega))
    omega
  · intro y hy
    obtain ⟨j, hj, rfl⟩ := List.mem_map.mp hy
    exact inT _ (hf j (by have := List.mem_range.mp hj; omega)).1.reach
/-! ### what is met so far, and the last level -/
structure LI (R : List W) (h : W → List W) (F N : List W) (n : Nat) : Prop where
  all : ∀ z, z ∈ F ↔ Wn R h (n + 1) z
  last : ∀ z, z ∈ N ↔ Rank R h n z
theorem LI.start {F : List W} (e : ∀ z, z ∈ F ↔ z ∈ R) : LI R h F F 0 := by
  refine ⟨fun z => ?_, fun z => ?_⟩
  · rw [e]
    exact ⟨fun m => .inl m, fun w => w.elim id fun ⟨_, w, _⟩ => w.elim⟩
  · rw [e]
    exact ⟨Rank.root, Rank.zero⟩
theorem LI.next {F N M : List W} (i : LI R h F N n) (inM : ∀ z ∈ M, z ∉ F ∧ ∃ y ∈ N, z ∈ h y) (al : ∀ y ∈ N, ∀ z ∈ h y, z ∈ F ++ M) : LI R h (F ++ M) M (n + 1) := by
  have new : ∀ z ∈ M, Rank R h (n + 1) z := fun z m => by
    obtain ⟨nf, y, yN, zy⟩ := inM z m
    exact ⟨.inr ⟨y, ((i.last y).mp yN).1, zy⟩, fun w => nf ((i.all z).mpr w)⟩
  have full : ∀ z, Wn R h (n + 2) z → z ∈ F ++ M := fun z w => by
    rcases w with w | ⟨y, w, zy⟩
    · exact List.mem_append_left _ ((i.all z).mpr (.inl w))
    · by_cases c : Wn R h n y
      · exact List.mem_append_left _ ((i.all z).mpr (.inr ⟨y, c, zy⟩))
      · exact al y ((i.last y).mpr ⟨w, c⟩) z zy
  refine ⟨fun z => ⟨fun m => ?_, full z⟩, fun z => ⟨new z, fun r => ?_⟩⟩
  · rcases List.mem_append.mp m with m | m
    · exact ((i.all z).mp m).up
    · exact (new z m).1
  · rcases List.mem_append.mp (full z r.1) with m | m
    · exact (r.2 ((i.all z).mp m)).elim
    · exact m
theorem LI.done {F : List W} (i : LI R h F [] n) : ∀ z, z ∈ F ↔ Reach R h z := by
  have none : ∀ z, ¬ Rank R h n z := fun z r => nomatch ((i.last z).mpr r)
  have stop : ∀ k z, Wn R h k z → Wn R h n z := by
    intro k
    induction k with
    | zero => exact fun z w => w.elim
    | succ k ih =>
      intro z w
      have w1 : Wn R h (n + 1) z := by
        rcases w with w | ⟨y, w, m⟩
        · exact .inl w
        · exact .inr ⟨y, ih y w, m⟩
      exact Classical.byContradiction fun c => none z ⟨w1, c⟩
  intro z
  rw [i.all]
  refine ⟨Wn.reach, fun r => ?_⟩
  obtain ⟨k, w⟩ : ∃ k, Wn R h k z := by
    induction r with
    | root m => exact ⟨1, .inl m⟩
    | step _ m ih => obtain ⟨k, w⟩ := ih; exact ⟨k + 1, .inr ⟨_, w, m⟩⟩
  exact (stop k z w).up
/-! ### the one ahead -/
def StepV (H : Hp) (R : List W) (h : W → List W) (v : V) (z : W) : Prop := (v = .non ∧ z ∈ R) ∨ ∃ y k, IsW H v y ∧ z ∈ h y ∧ Rank R h k y ∧ Rank R h (k + 1) z
def Steps (H : Hp) (R : List W) (h : W → List W) (kvs : List (List Key × V)) : Prop := ∀ z v, valV kvs (keyT z) = some v → StepV H R h v z
theorem Steps.keep {H H' : Hp} {kvs : List (List Key × V)} (s : Steps H R h kvs) (k : Tk H H') : Steps H' R h kvs := fun z v e => by
  rcases s z v e with q | ⟨y, n, w, r⟩
  · exact .inl q
  · exact .inr ⟨y, n, w.keep k, r⟩
theorem Steps.put {H : Hp} {kvs : List (List Key × V)} {v : V} (s : Steps H R h kvs) (q : StepV H R h v z) : Steps H R h (putK kvs (keyT z) v) := fun x u e => by
  rw [valV_put] at e
  by_cases c : keyT x = keyT z
  · rw [if_pos c] at e
    cases e
    rw [keyT_inj c]
    exact q
  · rw [if_neg c] at e
    exact s x u e
theorem Steps.nil {H : Hp} : Steps H R h [] := fun z v e => nomatch e
/-! ### a way to a thing -/
inductive Path (h : W → List W) : List W → W → Prop where
  | one (z : W) : Path h [z] z
  | cons {x y z : W} {l : List W} (m : x ∈ h y) (p : Path h (x :: l) z) : Path h (y :: x :: l) z
theorem Path.at {l : List W} (p : Path h l z) : ∀ j x y, l[j]? = some x → l[j + 1]? = some y → y ∈ h x := by
  induction p with
  | one z => intro j x y _ e; cases j <;> cases e
  | cons m p ih =>
    intro j x y e1 e2
    cases j with
    | zero => cases e1; cases e2; exact m
    | succ j => exact ih j x y e1 e2
theorem Path.last {l : List W} (p : Path h l z) : l[l.length - 1]? = some z := by
  induction p with
  | one z => rfl
  | cons m p ih => exact ih
theorem Path.all {l : List W} (p : Path h l z) : WayAll h l l.length := fun j j0 jl x y e1 e2 => by
  have := p.at (j - 1) x y e1
  rw [Nat.sub_add_cancel j0] at this
  exact this e2
structure WayTo (R : List W) (h : W → List W) (way : List W) (z : W) : Prop where
  path : Path h way z
  root : ∃ w, way[0]? = some w ∧ w ∈ R
  rank : Rank R h (way.length - 1) z
  pos : 0 < way.length
/-! ### all from which one comes to a thing -/
inductive Comes (h : W → List W) (z : W) : W → Prop where
  | refl : Comes h z z
  | step {x y : W} (m : y ∈ h x) (c : Comes h z y) : Comes h z x
structure Behind (P : Pic) (z : W) (ws : List W) : Prop where
  inT : ∀ x ∈ ws, x ∈ P.things ∧ Comes (holdM (tableM P)) z x
  len : ws.length ≤ P.things.length
  self : z ∈ ws
  shut : ∀ y ∈ P.things, ∀ x ∈ ws, x ∈ holdM (tableM P) y → y ∈ ws
theorem comes_reach {x : W} (c : Comes h z x) (r : Reach R h x) : Reach R h z := by
  induction c with
  | refl => exact r
  | step m _ ih => exact ih (.step r m)
end
theorem seq_kp {K : PySem.W.Frag} {H H' : Hp} {a b : Addr} {xs : List V} (h : SqL K H a xs) (n : H b = none) (k : Kp b H H') : SqL K H' a xs := by
  refine Same.seq (H := H) (fun x o e => k x o (fun q => ?_) e) h
  rw [q, n] at e
  cases e
end Wwy

namespace Wwy
open PySem PySem.Spec PyProof.Rows L2 Wp Wq Wr Wpm Wpn Wth
/-- the values are new to F -/
def FreshT (F : Hp) (kvs : List (List Key × V)) : Prop := ∀ kv ∈ kvs, ∀ l, kv.2 = V.ref l → F l = none
theorem FreshT.snoc {F : Hp} {kvs : List (List Key × V)} {k : List Key} {p : Addr} (h : FreshT F kvs) (n : F p = none) : FreshT F (kvs ++ [(k, .ref p)]) := fun kv m l e => by
  rcases List.mem_append.mp m with m | m
  · exact h kv m l e
  · rw [List.mem_singleton.mp m] at e
    cases e
    exact n
theorem FreshT.get {F : Hp} {kvs : List (List Key × V)} {k : List Key} {l : Addr} (h : FreshT F kvs) (e : valV kvs k = some (.ref l)) : F l = none := by
  induction kvs with
  | nil => cases e
  | cons kv r ih =>
    obtain ⟨k', v⟩ := kv
    by_cases c : k' = k
    · rw [valV_pos c] at e
      exact h (k', v) List.mem_cons_self l (Option.some.inj e)
    · rw [valV_neg c] at e
      exact ih (fun x m => h x (List.mem_cons_of_mem _ m)) e
end Wwy

/-! Rows of a program as data; their texts; global tuples; str of anything. -/
namespace Wrw
open PySem PySem.Spec PyProof.Rows L2 Wp Wq Wr Wt
abbrev Rw := Str × Option Int
def rV : Rw → List V
  | (s, none) => [.str s]
  | (s, some n) => [.str s, .int n]
def rDs : Rw → List PyData
  | (s, none) => [.str s]
  | (s, some n) => [.str s, .int n]
def rD (r : Rw) : PyData := .tuple (rDs r)
def IsR (H : Hp) (v : V) (r : Rw) : Prop := ∃ t, v = .ref t ∧ H t = some (.tup (rV r))
def Rws (H : Hp) (vs : List V) (rs : List Rw) : Prop := Paired (IsR H) vs rs
section
variable {H H1 : Hp} {v x : V} {r : Rw} {vs us : List V} {rs zs : List Rw} {K : PySem.W.Frag} {a : Addr}
theorem IsR.keep (h : IsR H v r) (k : Tk H H1) : IsR H1 v r := by
  obtain ⟨t, e, h⟩ := h
  exact ⟨t, e, k _ _ h⟩
theorem Rws.keep (h : Rws H vs rs) (k : Tk H H1) : Rws H1 vs rs := Paired.mapP h fun _ _ q => q.keep k
theorem Rws.len (h : Rws H vs rs) : vs.length = rs.length := Paired.length h
theorem Rws.nil : Rws H [] [] := Paired.nil
theorem Rws.app (h : Rws H vs rs) (k : Rws H us zs) : Rws H (vs ++ us) (rs ++ zs) := by
  unfold Rws at *
  induction h with
  | nil => exact k
  | cons r t ih => exact .cons r ih
theorem Rws.one (h : IsR H v r) : Rws H [v] [r] := Paired.cons h Paired.nil
theorem Rws.get (h : Rws H vs rs) : ∀ {i : Nat}, vs[i]? = some v → ∃ w, rs[i]? = some w ∧ IsR H v w := by
  unfold Rws at h
  induction h with
  | nil => intro i e; cases i <;> cases e
  | cons r t ih => intro i e; cases i with
    | zero => cases e; exact ⟨_, rfl, r⟩
    | succ n => exact ih e
theorem IsR.dp (h : IsR H v r) : Dp K H v (rD r) := by
  obtain ⟨t, rfl, h⟩ := h
  obtain ⟨s, o⟩ := r
  cases o with
  | none => exact .tup (SqT.of h) (.cons (.str _) .nil)
  | some n => exact .tup (SqT.of h) (.cons (.str _) (.cons (.int _) .nil))
theorem Rws.dpAll (h : Rws H vs rs) : DpAll K H vs (rs.map rD) := by
  unfold Rws at h
  induction h with
  | nil => exact .nil
  | cons r t ih => exact .cons r.dp ih
theorem Rws.dp (h : Rws H vs rs) (e : SqL K H a vs) : Dp K H (.ref a) (.list (rs.map rD)) := .lst e h.dpAll
def Rok (r : Rw) : Prop := PyData.strOk r.1 = true
theorem rD_lay (h : Rok r) : (rD r).canLay0 = true := by
  obtain ⟨s, o⟩ := r
  have h : PyData.strOk s = true := h
  cases o with
  | none =>
    unfold rD rDs
    simp only [PyData.canLay0, PyData.canLayAll0]
    rw [h]; rfl
  | some n =>
    unfold rD rDs
    simp only [PyData.canLay0, PyData.canLayAll0]
    rw [h]; rfl
theorem rD_depth : (rD r).depth = 1 := by
  obtain ⟨s, o⟩ := r
  cases o <;> simp [rD, rDs, PyData.depth, PyData.depthAll]
theorem rDs_lay : ∀ rs : List Rw, (∀ w ∈ rs, Rok w) → PyData.canLayAll0 (rs.map rD) = true
  | [], _ => by simp [PyData.canLayAll0]
  | w :: rs, h => by
    rw [List.map_cons]
    simp only [PyData.canLayAll0]
    rw [rD_lay (h w List.mem_cons_self), rDs_lay rs (fun x hx => h x (List.mem_cons_of_mem _ hx))] <;> rfl
theorem rDs_depth : ∀ rs : List Rw, PyData.depthAll (rs.map rD) ≤ 1
  | [] => by simp [PyData.depthAll]
  | w :: rs => by
    have h := rDs_depth rs
    rw [List.map_cons]
    simp only [PyData.depthAll]
    rw [rD_depth]
    omega
theorem rDs_shaped (h : ∀ w ∈ rs, Rok w) : SeqAt.shaped (.list (rs.map rD)) = true := by
  have h2 := rDs_depth rs
  have h3 : (PyData.list (rs.map rD)).depth ≤ 64 := by
    simp only [PyData.depth]
    omega
  show (PyData.canLay0 (.list (rs.map rD)) && decide ((PyData.list (rs.map rD)).depth ≤ 64)) = true
  rw [decide_eq_true h3, Bool.and_true]
  simp only [PyData.canLay0]
  exact rDs_lay rs h
end
/-! ### which rows there are -/
def bareL : List Str := ["add", "less", "box", "get", "set", "tell", "sweep"]
def deepL : List Str := ["pick", "drop", "lift", "go", "back"]
def leadL : List Str := ["keep", "call", "jump", "if"]
def RowOk (m : Int) : Rw → Prop
  | (s, none) => s ∈ bareL
  | (s, some n) => n.natAbs < 10 ^ 60 ∧ (s = "put" ∨ (s ∈ deepL ∧ 0 ≤ n) ∨ (s ∈ leadL ∧ 0 ≤ n ∧ n ≤ m))
def AnyWord (s : Str) : Prop := s ∈ bareL ∨ s = "put" ∨ s ∈ deepL ∨ s ∈ leadL
theorem RowOk.word {m : Int} {r : Rw} (h : RowOk m r) : AnyWord r.1 := by
  obtain ⟨s, o⟩ := r
  cases o with
  | none => exact .inl h
  | some n =>
    obtain ⟨_, h | ⟨h, _⟩ | ⟨h, _⟩⟩ := h
    · exact .inr (.inl h)
    · exact .inr (.inr (.inl h))
    · exact .inr (.inr (.inr h))
def wordOk (s : Str) : Bool := decide (s.length ≤ 5) && decide (1 ≤ s.length) && PyData.strOk s && s.cps.toList.all fun c => decide (c ≠ 32) && decide (c ≠ 59)
theorem word_ok {s : Str} (h : AnyWord s) : wordOk s = true := by
  have all : (bareL ++ [("put" : Str)] ++ deepL ++ leadL).all wordOk = true := by decide +kernel
  rw [List.all_eq_true] at all
  refine all s ?_
  rw [List.mem_append, List.mem_append, List.mem_append, List.mem_singleton]
  rcases h with h | h | h | h
  · exact .inl (.inl (.inl h))
  · exact .inl (.inl (.inr h))
  · exact .inl (.inr h)
  · exact .inr h
structure WordF (s : Str) : Prop where
  len : s.length ≤ 5
  pos : 1 ≤ s.length
  ok : PyData.strOk s = true
  no32 : 32 ∉ TL.tl s
  no59 : 59 ∉ TL.tl s
theorem word_f {s : Str} (h : AnyWord s) : WordF s := by
  have e := word_ok h
  unfold wordOk at e
  rw [Bool.and_eq_true, Bool.and_eq_true, Bool.and_eq_true] at e
  obtain ⟨⟨⟨e1, e2⟩, e3⟩, e4⟩ := e
  rw [List.all_eq_true] at e4
  refine ⟨of_decide_eq_true e1, of_decide_eq_true e2, e3, fun m => ?_, fun m => ?_⟩
  · have := e4 32 m
    revert this; decide
  · have := e4 59 m
    revert this; decide
/-! ### their texts -/
def rText : Rw → Str
  | (s, none) => s
  | (s, some n) => s ++ " " ++ numT n
def gText (rs : List Rw) : Str := Txt.join "; " (rs.map rText)
theorem sp_cps : TL.tl (" " : Str) = [32] := by decide +kernel
theorem semi_cps : TL.tl ("; " : Str) = [59, 32] := by decide +kernel
theorem numT_free {n : Int} : 32 ∉ TL.tl (numT n) ∧ 59 ∉ TL.tl (numT n) := by
  by_cases c : 0 ≤ n
  · obtain ⟨m, rfl⟩ : ∃ m : Nat, n = (m : Int) := ⟨n.natAbs, by omega⟩
    have e : TL.tl (numT (m : Int)) = TL.numL m := numT_nat m
    rw [e]
    exact ⟨fun h => by have := TL.numL_digits m _ h; omega, fun h => by have := TL.numL_digits m _ h; omega⟩
  · obtain ⟨m, rfl⟩ : ∃ m : Nat, n = -(m : Int) := ⟨n.natAbs, by omega⟩
    have e : TL.tl (numT (-(m : Int))) = 45 :: TL.numL m := numT_neg (by omega)
    rw [e]
    exact ⟨fun h => by
      rcases List.mem_cons.mp h with h | h
      · omega
      · have := TL.numL_digits m _ h; omega, fun h => by
      rcases List.mem_cons.mp h with h | h
      · omega
      · have := TL.numL_digits m _ h; omega⟩
theorem rText_tl {s : Str} {n : Int} : TL.tl (rText (s, some n)) = TL.tl s ++ ([32] ++ TL.tl (numT n)) := by
  show TL.tl (s ++ " " ++ numT n) = _
  rw [TL.tl_append, TL.tl_append, sp_cps, List.append_assoc]
theorem rText_free {m : Int} {r : Rw} (h : RowOk m r) : 59 ∉ TL.tl (rText r) := by
  have w := word_f h.word
  obtain ⟨s, o⟩ := r
  cases o with
  | none => exact w.no59
  | some n =>
    rw [rText_tl]
    intro h
    rcases List.mem_append.mp h with h | h
    · exact w.no59 h
    · rcases List.mem_append.mp h with h | h
      · rw [List.mem_singleton] at h; omega
      · exact numT_free.2 h
theorem rText_len {m : Int} {r : Rw} (h : RowOk m r) : 1 ≤ (rText r).length ∧ (rText r).length ≤ 67 := by
  have w := word_f h.word
  obtain ⟨s, o⟩ := r
  have w1 : 1 ≤ s.length := w.pos
  have w2 : s.length ≤ 5 := w.len
  cases o with
  | none => exact ⟨w1, Nat.le_trans w2 (by decide)⟩
  | some n =>
    have h1 := numT_any h.1
    show 1 ≤ (s ++ " " ++ numT n).length ∧ (s ++ " " ++ numT n).length ≤ 67
    rw [Wp.app_len, Wp.app_len, show (" " : Str).length = 1 by decide +kernel]
    omega
theorem rText_join {s : Str} {n : Int} : Txt.join " " [s, numT n] = rText (s, some n) := by
  rw [TL.join_eq] <;> rfl
theorem rText_join1 {s : Str} : Txt.join " " [s] = rText (s, none) := by
  rw [TL.join_eq] <;> rfl
theorem part_bare {s : Str} (h : WordF s) : Txt.partition s " " = (s, Str.empty, Str.empty) := by
  rw [TL.partition_par _ _ (by rw [sp_cps]; simp), sp_cps, TL.par_none1 h.no32]
theorem part_num {s : Str} {n : Int} (h : WordF s) : Txt.partition (rText (s, some n)) " " = (s, (" " : Str), numT n) := by
  rw [TL.partition_par _ _ (by rw [sp_cps]; simp), sp_cps, rText_tl, TL.par_part1 (S := []) h.no32]
  show ((⟨([] ++ TL.tl s).toArray⟩ : Str), (" " : Str), (⟨(TL.tl (numT n)).toArray⟩ : Str)) = _
  rw [List.nil_append]
theorem joinL_len (S : List Nat) {b : Nat} : ∀ ps : List (List Nat), (∀ l ∈ ps, l.length ≤ b) → (TL.joinL S ps).length ≤ ps.length * (b + S.length)
  | [], _ => Nat.zero_le _
  | [p], h => by
    have := h p List.mem_cons_self
    show p.length ≤ 1 * (b + S.length)
    omega
  | p :: q :: r, h => by
    have h1 := h p List.mem_cons_self
    have h2 := joinL_len S (q :: r) (fun l hl => h l (List.mem_cons_of_mem _ hl))
    show (p ++ (S ++ TL.joinL S (q :: r))).length ≤ (q :: r).length.succ * (b + S.length)
    rw [List.length_append, List.length_append, Nat.succ_mul]
    omega
theorem gText_tl (rs : List Rw) : TL.tl (gText rs) = TL.joinL [59, 32] ((rs.map rText).map TL.tl) := by
  unfold gText
  rw [TL.join_eq, TL.tl_join, semi_cps]
theorem gText_len {m : Int} {rs : List Rw} (h : ∀ r ∈ rs, RowOk m r) (hl : rs.length ≤ 100) : (gText rs).length ≤ 6900 := by
  rw [TL.len_tl, gText_tl]
  have h2 := joinL_len [59, 32] (b := 67) ((rs.map rText).map TL.tl) (fun l hl => by
    rw [List.map_map] at hl
    obtain ⟨z, hz, rfl⟩ := List.mem_map.mp hl
    have := (rText_len (h z hz)).2
    rw [TL.len_tl] at this
    exact this)
  rw [List.length_map, List.length_map] at h2
  have : rs.length * (67 + [59, 32].length) ≤ 100 * 69 := Nat.mul_le_mul hl (by decide)
  omega
theorem gText_ne {m : Int} {rs : List Rw} (h : ∀ r ∈ rs, RowOk m r) (n : rs ≠ []) : gText rs ≠ "" := by
  intro e
  cases rs with
  | nil => exact n rfl
  | cons z rs =>
    have e2 : TL.tl (gText (z :: rs)) = [] := by rw [e]; decide +kernel
    have hz := (rText_len (h z List.mem_cons_self)).1
    rw [gText_tl] at e2
    rw [TL.len_tl] at hz
    cases rs with
    | nil =>
      have e2 : TL.tl (rText z) = [] := e2
      rw [e2] at hz
      exact absurd hz (by decide)
    | cons q rs =>
      have e2 : TL.tl (rText z) ++ ([59, 32] ++ TL.joinL [59, 32] (((q :: rs).map rText).map TL.tl)) = [] := e2
      have := (List.append_eq_nil_iff.mp e2).2
      simp at this
theorem gText_split {m : Int} {rs : List Rw} (h : ∀ r ∈ rs, RowOk m r) (n : rs ≠ []) : Txt.split (gText rs) "; " = rs.map rText := by
  refine TL.split_join (s := 59) (S := [32]) semi_cps (by decide +kernel) (fun e => n (List.map_eq_nil_iff.mp e)) fun p hp => ?_
  obtain ⟨z, hz, rfl⟩ := List.mem_map.mp hp
  exact rText_free (h z hz)
theorem RowOk.rok {m : Int} {r : Rw} (h : RowOk m r) : Rok r := (word_f h.word).ok
theorem cut_head {z : Str} {c : Nat} {r : List Nat} (h : z.cps.toList = c :: r) : cutS z none (some 1) = ⟨#[c]⟩ := by
  refine TL.ext_tl ?_
  show (((z.cps.toList.drop (HT.sIx z.length 0 none)).take (HT.sIx z.length z.length (some ((1 : Nat) : Int)) - HT.sIx z.length 0 none)).toArray).toList = [c]
  rw [show HT.sIx z.length 0 none = 0 from HT.sIx_none .., show HT.sIx z.length z.length (some ((1 : Nat) : Int)) = min 1 z.length from HT.sIx_nat ..]
  have hl : z.length = r.length + 1 := by
    show z.cps.size = _
    rw [← Array.length_toList, h] <;> rfl
  rw [hl, Nat.min_eq_left (by omega), h] <;> rfl
theorem cut_tail {z : Str} {c : Nat} {r : List Nat} (h : z.cps.toList = c :: r) : (cutS z (some 1) none).cps.toList = r := by
  show (((z.cps.toList.drop (HT.sIx z.length 0 (some ((1 : Nat) : Int)))).take (HT.sIx z.length z.length none - HT.sIx z.length 0 (some ((1 : Nat) : Int)))).toArray).toList = r
  rw [show HT.sIx z.length z.length none = z.length from HT.sIx_none .., show HT.sIx z.length 0 (some ((1 : Nat) : Int)) = min 1 z.length from HT.sIx_nat ..]
  have hl : z.length = r.length + 1 := by
    show z.cps.size = _
    rw [← Array.length_toList, h] <;> rfl
  rw [hl, Nat.min_eq_left (by omega), h]
  show (r.take (r.length + 1 - 1)).toArray.toList = r
  rw [Nat.add_sub_cancel, List.take_of_length_le (Nat.le_refl _)]
theorem sgn_inj {c d : Nat} (h : (⟨#[c]⟩ : Str) = ⟨#[d]⟩) : c = d := by
  have e2 : (#[c] : Array Nat) = #[d] := congrArg Str.cps h
  exact (List.cons.inj (congrArg Array.toList e2)).1
/-! ### str of anything -/
def rStrAny : List V → Hp → VK → Prop := fun xs H Q => (∃ a, xs = [.str a] ∧ Q (.str a) H) ∨ (∃ i : Int, xs = [.int i] ∧ i.natAbs.log2 < 1920 ∧ Q (.str (toString i)) H)
theorem call_strAny {X : Cx} : CallR X (.type "str") rStrAny := by
  intro pins s σ H xs us Q I r h
  rcases h with h | h
  · exact SkE.call_str_str pins s σ H xs us Q I r h
  · exact call_str_int pins s σ H xs us Q I r h
def rJoin (K : PySem.W.Frag) : V → List V → Hp → VK → Prop := fun x xs H Q => ∃ a p, ∃ ys : List Str, x = .str a ∧ xs = [.ref p] ∧ (SqL K H p (ys.map V.str) ∨ SqT K H p (ys.map V.str)) ∧ (ys.map (·.length)).sum + ys.length * a.length ≤ 16777216 ∧ Q (.str (Txt.join a ys)) H
theorem pe_joinK {X : Cx} {o e : Expr} {to te : TE} {apos pos : Pos} (ho : PE X o to) (he : PE X e te) (hs : starEach [e] X.env = [(false, eval e X.env)] := by rfl) (hbase : attributeBase o "join" X.env (eval o X.env) = eval o X.env := by rfl) (hline : (apos.endLine == pos.line) = true := by rfl) :
    PE X (.Call (.Attribute o "join" apos) [e] [] pos) (tM1 (rJoin X.K) to te) := pe_join ho he hs hbase hline
theorem Vals1 {v : V} {u : Value} (r : RelV v u) : Vals [v] [u] := .cons r .nil
theorem loop_setLc {ta : TE} {σ : L2.St} {H : Hp} {Q : VK} {te : TE} {g : TG} {tt : TT} {vs : List Nat} {K : PySem.W.Frag} (h : ta σ H fun x H1 => ∃ a, x = .ref a ∧ (∃ xs, SqT K H1 a xs) ∧ ∀ D, H1 D = none → LoopC (Itt K a) g tt te vs σ D (fun H => Q (.ref D) H) (upd H1 D (.lst []))) : tLc (iTup K ta) g tt te vs σ H Q := h
theorem loopCT {K : PySem.W.Frag} {a : Addr} {xs : List V} {g : TG} {tt : TT} {te : TE} {vs : List Nat} {D : Addr} {Qd : Hp → Prop} {σ : L2.St} {H : Hp} (Pv : Nat → Hp → Prop) (h0 : Pv 0 H) (hl : ∀ i H, i ≤ xs.length → Pv i H → SqT K H a xs)
    (hs : ∀ i x H, xs[i]? = some x → Pv i H → g x (wipe σ vs) H fun σ2 H2 => wipe σ2 vs = wipe σ vs ∧ tt σ2 H2 fun b H3 =>
      if b = true then te σ2 H3 fun y H4 => ∃ acc, H4 D = some (.lst acc) ∧ acc.length < sizeLine ∧ Pv (i + 1) (upd H4 D (.lst (acc ++ [y]))) else Pv (i + 1) H3) (hd : ∀ H, Pv xs.length H → Qd H) : LoopC (Itt K a) g tt te vs σ D Qd H := by
  refine ⟨fun i m H => m = xs.length - i ∧ i ≤ xs.length ∧ Pv i H, ⟨xs.length, by simp, Nat.zero_le _, h0⟩, ?_⟩
  rintro i m H ⟨rfl, hi, p⟩
  have q := hl i H hi p
  by_cases hlt : i < xs.length
  · refine .inr ⟨⟨xs, xs[i], q, by simp [hlt]⟩, Pv (i + 1), fun H' p' => ⟨xs.length - (i + 1), by omega, rfl, hlt, p'⟩, fun x H' y => ?_⟩
    obtain ⟨e, y⟩ := y
    subst e
    exact hs i x _ (y xs q) p
  · have e : i = xs.length := by omega
    subst e
    exact .inl ⟨⟨xs, q, Nat.le_refl _⟩, hd H p⟩
theorem inV_str {z : Str} : ∀ l : List Str, inV (.str z) (l.map V.str) = decide (z ∈ l)
  | [] => rfl
  | y :: l => by
    have ih := inV_str (z := z) l
    unfold inV at ih ⊢
    rw [List.map_cons, List.any_cons, ih]
    have e : eqV (.str y) (.str z) = decide (y = z) := by
      show decide _ = _ 
      exact decide_eq_decide.mpr ⟨fun h => by first | exact V.str.inj h | exact h, fun h => by first | exact congrArg V.str h | exact h⟩
    rw [e]
    by_cases c : y = z
    · subst c; simp
    · rw [decide_eq_false c, Bool.false_or]
      exact decide_eq_decide.mpr ⟨fun h => List.mem_cons_of_mem _ h, fun h => (List.mem_cons.mp h).elim (fun q => absurd q.symm c) id⟩
theorem flat_strs : ∀ l : List Str, (l.map V.str).all flatV = true
  | [] => rfl
  | _ :: l => by rw [List.map_cons, List.all_cons, flat_strs l] <;> rfl
theorem inT {K : PySem.W.Frag} {H : Hp} {p : Addr} {z : Str} {l : List Str} {Q : VK} (h : SqT K H p (l.map V.str)) (q : Q (.bl (decide (z ∈ l))) H) : rIn K false (.str z) (.ref p) H Q :=
  ⟨p, _, rfl, .inr h, rfl, flat_strs l, by rw [inV_str]; exact q⟩
/-- the three kinds of words are apart -/
theorem lead_deep {s : Str} (h : s ∈ leadL) : s ∉ deepL := by
  have e : leadL.all (fun s => decide (s ∉ deepL)) = true := by decide +kernel
  rw [List.all_eq_true] at e
  exact of_decide_eq_true (e s h)
theorem put_apart : ("put" : Str) ∉ deepL ∧ ("put" : Str) ∉ leadL := by decide +kernel
end Wrw

/-! What is a picture: sorted worths, what stands in order, the rules that its defs want. -/
namespace Wip
open PySem PySem.Spec PyProof.Rows L2 Wp Wq Wr Wpm Wpn Wth
/-! ### worths in order -/
def wLt (a b : W) : Prop := strLt a.1 b.1 ∨ (a.1 = b.1 ∧ a.2 < b.2)
theorem wLt_asymm {a b : W} (h : wLt a b) (k : wLt b a) : False := by
  rcases h with h | ⟨h1, h2⟩
  · rcases k with k | ⟨k1, _⟩
    · exact List.lt_asymm h k
    · unfold strLt at h; rw [k1] at h; exact List.lt_irrefl _ h
  · rcases k with k | ⟨_, k2⟩
    · unfold strLt at k; rw [h1] at k; exact List.lt_irrefl _ k
    · omega
theorem le_w {a b : Ws.VD} {p q : W} (ha : a.2 = wD p) (hb : b.2 = wD q) (h : Ws.leD a b = true) (n : p ≠ q) : wLt p q := by
  have h2 : (!PySem.W.dataLt b.2 a.2) = true := h
  rw [ha, hb] at h2
  unfold wD at h2
  rw [PySem.W.dataLt_pair (by simp [PySem.W.alike]) (by simp [PySem.W.alike])] at h2
  simp only [PyData.eqv, PySem.W.dataLt_str, beq_iff_eq] at h2
  by_cases e : q.1 = p.1
  · rw [if_pos e] at h2
    refine .inr ⟨e.symm, ?_⟩
    have h3 : ¬ q.2 < p.2 := by
      intro c
      rw [if_neg (by omega), PySem.W.dataLt_int, decide_eq_true c] at h2
      cases h2
    have : p.2 ≠ q.2 := fun c => n (Prod.ext e.symm c)
    omega
  · rw [if_neg e] at h2
    refine .inl ?_
    have h3 : ¬ q.1.cps.toList < p.1.cps.toList := by
      intro c
      rw [decide_eq_true c] at h2
      cases h2
    show p.1.cps.toList < q.1.cps.toList
    by_cases c : p.1.cps.toList < q.1.cps.toList
    · exact c
    · exact absurd (Str.ext' (Array.toList_inj.mp (List.le_antisymm (List.not_lt.mp c) (List.not_lt.mp h3)))) e
def RW (H : Hp) (b : Ws.VD) (z : W) : Prop := b.2 = wD z ∧ IsW H b.1 z
section
variable {H : Hp} {K : PySem.W.Frag} {xs : List V} {ws : List W} {bs : List Ws.VD} {a : Addr} {Q : VK}
theorem bs_of : ∀ {xs : List V} {ws : List W}, Paired (IsW H) xs ws → ∃ bs : List Ws.VD, bs.map (·.1) = xs ∧ Paired (RW H) bs ws
  | _, _, .nil => ⟨[], rfl, .nil⟩
  | x :: _, z :: _, .cons r t => by
    obtain ⟨bs, e, p⟩ := bs_of t
    exact ⟨(x, wD z) :: bs, by rw [List.map_cons, e], .cons ⟨rfl, r⟩ p⟩
theorem bs_pile : ∀ {bs : List Ws.VD} {ws : List W}, Paired (RW H) bs ws → Paired (IsW H) (bs.map (·.1)) ws
  | _, _, .nil => .nil
  | _, _, .cons r t => .cons r.2 (bs_pile t)
theorem bs_mem (h : Paired (RW H) bs ws) {b : Ws.VD} (hb : b ∈ bs) : ∃ z, z ∈ ws ∧ RW H b z := by
  obtain ⟨i, hi⟩ := List.getElem?_of_mem hb
  obtain ⟨z, hz, r⟩ := pair_at1 h hi
  exact ⟨z, List.mem_of_getElem? hz, r⟩
theorem up_of (h : Paired (RW H) bs ws) (hs : bs.Pairwise (fun a b => Ws.leD a b = true)) (nd : ws.Nodup) : ws.Pairwise wLt := by
  induction h with
  | nil => exact .nil
  | cons r t ih =>
    obtain ⟨h1, h2⟩ := List.pairwise_cons.mp hs
    obtain ⟨n1, n2⟩ := List.nodup_cons.mp nd
    refine List.pairwise_cons.mpr ⟨fun z hz => ?_, ih h2 n2⟩
    obtain ⟨i, hi⟩ := List.getElem?_of_mem hz
    obtain ⟨b, hb, rb⟩ := pair_at t hi
    exact le_w r.1 rb.1 (h1 b (List.mem_of_getElem? hb)) fun e => n1 (e ▸ hz)
theorem sort_ws {X : List V} (h : Pile H xs ws) (nd : ws.Nodup) (wok : ∀ z ∈ ws, Wok z) (e : X = [.ref a]) (hs : SqL K H a xs) (q : ∀ (p : Addr) (ys : List V) (zs : List W), H p = none → zs.Perm ws → Pile H ys zs → zs.Pairwise wLt → Q (.ref p) (upd H p (.lst ys))) : Ws.rSortD K X H Q := by
  obtain ⟨bs, eb, pb⟩ := bs_of h
  obtain ⟨zs, hp, pz⟩ := Wc.perm_pair (List.mergeSort_perm bs Ws.leD) pb
  refine ⟨a, bs, e, by rw [eb]; exact hs, fun b hb => ?_, ?_, .inl ?_, fun b hb => ?_, fun p hpn => ?_⟩
  · obtain ⟨z, _, r⟩ := bs_mem pb hb
    rw [r.1]; exact r.2.dp
  · intro d hd e he
    obtain ⟨b, hb, rfl⟩ := List.mem_map.mp hd
    obtain ⟨c, hc, rfl⟩ := List.mem_map.mp he
    obtain ⟨z, _, r⟩ := bs_mem pb hb
    obtain ⟨y, _, r'⟩ := bs_mem pb hc
    rw [r.1, r'.1]
    simp [wD, PySem.W.alike, PySem.W.alikeAll]
  · intro d hd
    obtain ⟨b, hb, rfl⟩ := List.mem_map.mp hd
    obtain ⟨z, hz, r⟩ := bs_mem pb hb
    exact ⟨_, _, r.1⟩
  · obtain ⟨z, _, r⟩ := bs_mem pb hb
    rw [r.1, wD_depth]; decide
  · exact q p _ zs hpn hp (bs_pile pz) (up_of pz (PySem.W.sort_pairwise Wc.leD_total bs) (hp.nodup_iff.mpr nd))
end
theorem sBox_lt : strLt sBox sGo := by unfold strLt; decide +kernel
theorem things_up {P : Pic} (h1 : P.goings.Pairwise fun a b => a.1 < b.1) (h2 : P.boxes.Pairwise fun a b => a.1 < b.1) : P.things.Pairwise wLt := by
  unfold Pic.things
  refine List.pairwise_append.mpr ⟨?_, ?_, fun x hx y hy => ?_⟩
  · rw [List.pairwise_map]
    exact h2.imp fun h => .inr ⟨rfl, h⟩
  · rw [List.pairwise_map]
    exact h1.imp fun h => .inr ⟨rfl, h⟩
  · obtain ⟨b, _, rfl⟩ := List.mem_map.mp hx
    obtain ⟨g, _, rfl⟩ := List.mem_map.mp hy
    exact .inl sBox_lt
theorem up_nodup {ws : List W} (h : ws.Pairwise wLt) : ws.Nodup := h.imp fun h e => by
  subst e
  exact wLt_asymm h h
/-- a picture but for which things stand where -/
structure PicW (P : Pic) : Prop where
  words : ∀ z ∈ P.worths, Wk z
  names : ∀ p ∈ P.pegs, Wu.Nm p.1 ∧ 1 ≤ p.1.length
  pegUp : P.pegs.Pairwise fun a b => strLt a.1 b.1
  goUp : P.goings.Pairwise fun a b => a.1 < b.1
  goNat : ∀ g ∈ P.goings, 0 ≤ g.1 ∧ 0 ≤ g.2.1
  boxUp : P.boxes.Pairwise fun a b => a.1 < b.1
  boxNat : ∀ b ∈ P.boxes, 0 ≤ b.1
theorem PicW.of {P : Pic} (ok : P.Ok) : PicW P := ⟨ok.words, ok.names, ok.pegUp, ok.goUp, ok.goNat, ok.boxUp, ok.boxNat⟩
def Closed (P : Pic) : Prop := (∀ z ∈ P.worths, (z.1 = sBox ∨ z.1 = sGo) → z ∈ P.things) ∧ ∀ z ∈ P.things, z ∈ P.worths
theorem PicW.ok {P : Pic} (w : PicW P) (c : Closed P) : P.Ok := ⟨w.words, w.names, w.pegUp, w.goUp, w.goNat, w.boxUp, w.boxNat, c.1, c.2⟩
theorem sorted_iff {P : Pic} (w : PicW P) {zs : List W} (hp : zs.Perm (thingsM P.worths)) (hu : zs.Pairwise wLt) : zs = P.things ↔ Closed P := by
  have tu := things_up w.goUp w.boxUp
  have mm : ∀ z, z ∈ zs ↔ z ∈ P.worths ∧ isT z = true := fun z => hp.mem_iff.trans mem_things
  constructor
  · intro e
    refine ⟨fun z hz ht => ?_, fun z hz => ?_⟩
    · rw [← e]; exact (mm z).mpr ⟨hz, isT_iff.mpr ht⟩
    · rw [← e] at hz; exact ((mm z).mp hz).1
  · intro c
    refine List.Perm.eq_of_pairwise (le := wLt) (fun a b _ _ h k => (wLt_asymm h k).elim) hu tu ((List.perm_ext_iff_of_nodup (up_nodup hu) (up_nodup tu)).mpr fun z => ?_)
    rw [mm]
    exact ⟨fun h => c.1 z h.1 (isT_iff.mp h.2), fun h => ⟨c.2 z h, thing_isT h⟩⟩
/-! ### rules -/
def rLt : R2 := fun x y H Q => (∃ i j, x = .int i ∧ y = .int j ∧ Q (.bl (decide (i < j))) H) ∨ ∃ s t, x = .str s ∧ y = .str t ∧ Q (.bl (decide (s.cps.toList < t.cps.toList))) H
theorem op_ltIS {X : Cx} : OpR X (compareOp .Lt) rLt := by
  intro pins s σ H x y v u Q I rx ry h
  rcases h with h | h
  · exact op_lt pins s σ H x y v u Q I rx ry h
  · exact op_lt_str pins s σ H x y v u Q I rx ry h
section
variable {σ : L2.St} {H : Hp} {Q : VK} {te : TE} {g : TG} {tt : TT} {vs : List Nat}
theorem lcS {tx : TE} (h : tx σ H fun v H1 => ∃ x, v = .str x ∧ ∀ D, H1 D = none → LoopC (Its x) g tt te vs σ D (fun H => Q (.ref D) H) (upd H1 D (.lst []))) : tLc (iStr tx) g tt te vs σ H Q := h
theorem loopCS {x : Str} {D : Addr} {Qd : Hp → Prop} (Pv : Nat → Hp → Prop) (h0 : Pv 0 H)
    (hs : ∀ i c H, x.cps.toList[i]? = some c → Pv i H → g (.str ⟨#[c]⟩) (wipe σ vs) H fun σ2 H2 => wipe σ2 vs = wipe σ vs ∧ tt σ2 H2 fun b H3 =>
      if b = true then te σ2 H3 fun y H4 => ∃ acc, H4 D = some (.lst acc) ∧ acc.length < sizeLine ∧ Pv (i + 1) (upd H4 D (.lst (acc ++ [y]))) else Pv (i + 1) H3) (hd : ∀ H, Pv x.length H → Qd H) : LoopC (Its x) g tt te vs σ D Qd H := by
  refine ⟨fun i m H => m = x.length - i ∧ i ≤ x.length ∧ Pv i H, ⟨x.length, by simp, Nat.zero_le _, h0⟩, ?_⟩
  rintro i m H ⟨rfl, hi, p⟩
  by_cases hlt : i < x.length
  · refine .inr ⟨hlt, Pv (i + 1), fun H' p' => ⟨x.length - (i + 1), by omega, rfl, hlt, p'⟩, fun v H' y => ?_⟩
    obtain ⟨rfl, c, hc, rfl⟩ := y
    exact hs i c _ (by rw [Array.getElem?_toList]; exact hc) p
  · have e : i = x.length := by omega
    subst e
    exact .inl ⟨Nat.le_refl _, hd H p⟩
end
end Wip

/-! A picture whose lists are all apart: what changes when one of them is written to. -/
namespace Wow
open PySem PySem.Spec PyProof.Rows L2 Wp Wq Wr Wk Wpm Wpn Wth
abbrev Go := (Int × Int × List W) × Addr
def IsGoA (H : Hp) (x : V) (g : Go) : Prop := ∃ t vs, x = .ref t ∧ H t = some (.tup [.int g.1.1, .int g.1.2.1, .ref g.2]) ∧ H g.2 = some (.lst vs) ∧ Pile H vs g.1.2.2
structure OwnAt (H : Hp) (a b c d : Addr) (gs : List Go) (P : Pic) : Prop where
  pile : ∃ pa, H a = some (.lst pa) ∧ Pile H pa P.pile
  pegs : ∃ xb, H b = some (.lst xb) ∧ Paired (IsPegT H) xb P.pegs
  goings : ∃ xc, H c = some (.lst xc) ∧ Paired (IsGoA H) xc gs
  eq : gs.map (·.1) = P.goings
  boxes : ∃ xd, H d = some (.lst xd) ∧ Paired (IsBoxT H) xd P.boxes
  apart : (a :: b :: c :: d :: gs.map (·.2)).Nodup
section
variable {H H' : Hp} {a b c d : Addr} {gs : List Go} {P : Pic} {S : List Addr} {x : V}
theorem IsGoA.keep {g : Go} (h : IsGoA H x g) (k : Ks S H H') (n : g.2 ∉ S) : IsGoA H' x g := by
  obtain ⟨t, vs, e, h1, h2, h3⟩ := h
  exact ⟨t, vs, e, k.tk _ _ h1, k.keep _ _ n h2, h3.keep k.tk⟩
theorem gos_keep : ∀ {xs : List V} {gs : List Go}, Paired (IsGoA H) xs gs → Ks S H H' → (∀ l ∈ gs.map (·.2), l ∉ S) → Paired (IsGoA H') xs gs
  | _, _, .nil, _, _ => .nil
  | _, _, .cons r t, k, n => .cons (r.keep k (n _ (by simp))) (gos_keep t k fun l hl => n l (by simp only [List.map_cons, List.mem_cons]; exact .inr hl))
theorem gos_goT : ∀ {xs : List V} {gs : List Go}, Paired (IsGoA H) xs gs → (∀ l ∈ gs.map (·.2), l ∉ S) → Paired (IsGoT S H) xs (gs.map (·.1))
  | _, _, .nil, _ => .nil
  | _, _, .cons ⟨t, vs, e, h1, h2, h3⟩ r, n => .cons ⟨t, _, vs, e, h1, h2, h3, n _ (by simp)⟩ (gos_goT r fun l hl => n l (by simp only [List.map_cons, List.mem_cons]; exact .inr hl))
theorem OwnAt.keep (h : OwnAt H a b c d gs P) (k : Ks S H H') (n : ∀ l ∈ a :: b :: c :: d :: gs.map (·.2), l ∉ S) : OwnAt H' a b c d gs P := by
  obtain ⟨⟨pa, a1, a2⟩, ⟨xb, b1, b2⟩, ⟨xc, c1, c2⟩, e, ⟨xd, d1, d2⟩, ap⟩ := h
  exact ⟨⟨pa, k.keep _ _ (n _ (by simp)) a1, a2.keep k.tk⟩, ⟨xb, k.keep _ _ (n _ (by simp)) b1, Paired.mapP b2 fun _ _ q => q.keep k.tk⟩, ⟨xc, k.keep _ _ (n _ (by simp)) c1, gos_keep c2 k fun l hl => n l (by simp only [List.mem_cons]; exact .inr (.inr (.inr (.inr hl))))⟩, e, ⟨xd, k.keep _ _ (n _ (by simp)) d1, Paired.mapP d2 fun _ _ q => q.keep k.tk⟩, ap⟩
theorem OwnAt.same (h : OwnAt H a b c d gs P) (s : Same H H') : OwnAt H' a b c d gs P := h.keep (S := []) (Ks.same s) (by simp)
theorem OwnAt.pic {t : Addr} (h : OwnAt H a b c d gs P) (ht : H t = some (.tup [.ref a, .ref b, .ref c, .ref d])) (n : ∀ l ∈ a :: b :: c :: d :: gs.map (·.2), l ∉ S) : IsPic S H (.ref t) P := by
  obtain ⟨⟨pa, a1, a2⟩, ⟨xb, b1, b2⟩, ⟨xc, c1, c2⟩, e, ⟨xd, d1, d2⟩, ap⟩ := h
  refine ⟨t, a, b, c, d, pa, xb, xc, xd, rfl, ht, ⟨a1, b1, c1, d1, a2, b2, ?_, d2, fun x hx => n x ?_⟩⟩
  · rw [← e]; exact gos_goT c2 fun l hl => n l (by simp only [List.mem_cons]; exact .inr (.inr (.inr (.inr hl))))
  · simp only [List.mem_cons, List.not_mem_nil, or_false] at hx ⊢
    rcases hx with rfl | rfl | rfl | rfl <;> simp
theorem gos_some : ∀ {xs : List V} {gs : List Go}, Paired (IsGoA H) xs gs → ∀ l ∈ gs.map (·.2), H l ≠ none
  | _, _, .nil, _, h => nomatch h
  | _, _, .cons ⟨t, vs, e, h1, h2, h3⟩ r, l, h => by
    rw [List.map_cons] at h
    rcases List.mem_cons.mp h with h | h
    · rw [h, h2]; exact fun h => nomatch h
    · exact gos_some r l h
theorem OwnAt.live (h : OwnAt H a b c d gs P) : ∀ l ∈ a :: b :: c :: d :: gs.map (·.2), H l ≠ none := by
  obtain ⟨⟨pa, a1, a2⟩, ⟨xb, b1, b2⟩, ⟨xc, c1, c2⟩, e, ⟨xd, d1, d2⟩, ap⟩ := h
  intro l hl
  simp only [List.mem_cons] at hl
  rcases hl with rfl | rfl | rfl | rfl | hl
  · rw [a1]; exact fun h => nomatch h
  · rw [b1]; exact fun h => nomatch h
  · rw [c1]; exact fun h => nomatch h
  · rw [d1]; exact fun h => nomatch h
  · exact gos_some c2 l hl
/-- the boxes' list is written to -/
theorem OwnAt.set_d {ys : List V} {bs : List (Int × W)} (h : OwnAt H a b c d gs P) (k : Ks [d] H H') (h1 : H' d = some (.lst ys)) (p : Paired (IsBoxT H') ys bs) : OwnAt H' a b c d gs { P with boxes := bs } := by
  obtain ⟨⟨pa, a1, a2⟩, ⟨xb, b1, b2⟩, ⟨xc, c1, c2⟩, e, _, ap⟩ := h
  have ap' := ap
  simp only [List.nodup_cons, List.mem_cons, not_or] at ap'
  obtain ⟨⟨n1, n2, n3, n4⟩, ⟨m1, m2, m3⟩, ⟨l1, l2⟩, k1, nd⟩ := ap'
  exact ⟨⟨pa, k.keep _ _ (by simpa using n3) a1, a2.keep k.tk⟩, ⟨xb, k.keep _ _ (by simpa using m2) b1, Paired.mapP b2 fun _ _ q => q.keep k.tk⟩, ⟨xc, k.keep _ _ (by simpa using l1) c1, gos_keep c2 k fun l hl => by
    rw [List.mem_singleton]; rintro rfl; exact k1 hl⟩, e, ⟨ys, h1, p⟩, ap⟩
/-- the going-ons' list is written to -/
theorem OwnAt.set_c {ys : List V} {gs' : List Go} (h : OwnAt H a b c d gs P) (k : Ks [c] H H') (h1 : H' c = some (.lst ys)) (p : Paired (IsGoA H') ys gs') (ap' : (a :: b :: c :: d :: gs'.map (·.2)).Nodup) : OwnAt H' a b c d gs' { P with goings := gs'.map (·.1) } := by
  obtain ⟨⟨pa, a1, a2⟩, ⟨xb, b1, b2⟩, _, e, ⟨xd, d1, d2⟩, ap⟩ := h
  simp only [List.nodup_cons, List.mem_cons, not_or] at ap
  obtain ⟨⟨n1, n2, n3, n4⟩, ⟨m1, m2, m3⟩, ⟨l1, l2⟩, k1, nd⟩ := ap
  exact ⟨⟨pa, k.keep _ _ (by simpa using n2) a1, a2.keep k.tk⟩, ⟨xb, k.keep _ _ (by simpa using m1) b1, Paired.mapP b2 fun _ _ q => q.keep k.tk⟩, ⟨ys, h1, p⟩, rfl, ⟨xd, k.keep _ _ (by simpa using fun q : d = c => l1 q.symm) d1, Paired.mapP d2 fun _ _ q => q.keep k.tk⟩, ap'⟩
/-- the pile is written to -/
theorem OwnAt.set_a {ys : List V} {ws : List W} (h : OwnAt H a b c d gs P) (k : Ks [a] H H') (h1 : H' a = some (.lst ys)) (p : Pile H' ys ws) : OwnAt H' a b c d gs { P with pile := ws } := by
  obtain ⟨_, ⟨xb, b1, b2⟩, ⟨xc, c1, c2⟩, e, ⟨xd, d1, d2⟩, ap⟩ := h
  have ap' := ap
  simp only [List.nodup_cons, List.mem_cons, not_or] at ap'
  obtain ⟨⟨n1, n2, n3, n4⟩, ⟨m1, m2, m3⟩, ⟨l1, l2⟩, k1, nd⟩ := ap'
  exact ⟨⟨ys, h1, p⟩, ⟨xb, k.keep _ _ (by simpa using fun q : b = a => n1 q.symm) b1, Paired.mapP b2 fun _ _ q => q.keep k.tk⟩, ⟨xc, k.keep _ _ (by simpa using fun q : c = a => n2 q.symm) c1, gos_keep c2 k fun l hl => by
    rw [List.mem_singleton]; rintro rfl; exact n4 hl⟩, e, ⟨xd, k.keep _ _ (by simpa using fun q : d = a => n3 q.symm) d1, Paired.mapP d2 fun _ _ q => q.keep k.tk⟩, ap⟩
/-- the pegs' list is another -/
theorem OwnAt.set_b {b' : Addr} {ys : List V} {ps : List (Str × W)} (h : OwnAt H a b c d gs P) (h1 : H b' = some (.lst ys)) (p : Paired (IsPegT H) ys ps) (n : b' ∉ a :: c :: d :: gs.map (·.2)) : OwnAt H a b' c d gs { P with pegs := ps } := by
  obtain ⟨p1, _, p3, e, p5, ap⟩ := h
  simp only [List.nodup_cons, List.mem_cons, not_or] at ap n
  obtain ⟨⟨n1, n2, n3, n4⟩, ⟨m1, m2, m3⟩, ⟨l1, l2⟩, k1, nd⟩ := ap
  refine ⟨p1, ⟨ys, h1, p⟩, p3, e, p5, ?_⟩
  simp only [List.nodup_cons, List.mem_cons, not_or]
  exact ⟨⟨fun q => n.1 q.symm, n2, n3, n4⟩, ⟨n.2.1, n.2.2.1, n.2.2.2⟩, ⟨l1, l2⟩, k1, nd⟩
/-- one going-on's list is written to -/
theorem gos_set : ∀ {xs : List V} {gs : List Go} {j : Nat} {g : Go} {ys : List V} {ws : List W}, Paired (IsGoA H) xs gs → (gs.map (·.2)).Nodup → gs[j]? = some g → Ks [g.2] H H' → H' g.2 = some (.lst ys) → Pile H' ys ws → Paired (IsGoA H') xs (gs.set j ((g.1.1, g.1.2.1, ws), g.2))
  | _, _, 0, _, ys, _, .cons ⟨t, vs, e, h1, _, _⟩ r, nd, hg, k, h2, p => by
    rw [List.getElem?_cons_zero, Option.some.injEq] at hg
    subst hg
    rw [List.set_cons_zero]
    refine .cons ⟨t, ys, e, k.tk _ _ h1, h2, p⟩ (gos_keep r k fun l hl m => ?_)
    rw [List.mem_singleton] at m
    subst m
    exact (List.nodup_cons.mp nd).1 hl
  | _, _, j + 1, g, _, _, .cons q r, nd, hg, k, h2, p => by
    rw [List.getElem?_cons_succ] at hg
    rw [List.set_cons_succ]
    refine .cons (q.keep k fun m => ?_) (gos_set r (List.nodup_cons.mp nd).2 hg k h2 p)
    rw [List.mem_singleton] at m
    refine (List.nodup_cons.mp nd).1 ?_
    dsimp only
    rw [m]
    exact List.mem_map_of_mem (List.mem_of_getElem? hg)
theorem OwnAt.set_row {j : Nat} {g : Go} {ys : List V} {ws : List W} (h : OwnAt H a b c d gs P) (hg : gs[j]? = some g) (k : Ks [g.2] H H') (h1 : H' g.2 = some (.lst ys)) (p : Pile H' ys ws) : OwnAt H' a b c d (gs.set j ((g.1.1, g.1.2.1, ws), g.2)) { P with goings := P.goings.set j (g.1.1, g.1.2.1, ws) } := by
  obtain ⟨⟨pa, a1, a2⟩, ⟨xb, b1, b2⟩, ⟨xc, c1, c2⟩, e, ⟨xd, d1, d2⟩, ap⟩ := h
  have ap' := ap
  simp only [List.nodup_cons, List.mem_cons, not_or] at ap'
  obtain ⟨⟨n1, n2, n3, n4⟩, ⟨m1, m2, m3⟩, ⟨l1, l2⟩, k1, nd⟩ := ap'
  have gm : g.2 ∈ gs.map (·.2) := List.mem_map_of_mem (List.mem_of_getElem? hg)
  have no : ∀ x, x ∉ gs.map (·.2) → x ∉ [g.2] := fun x nx m => nx (by rw [List.mem_singleton.mp m]; exact gm)
  have eq2 : (gs.set j ((g.1.1, g.1.2.1, ws), g.2)).map (·.2) = gs.map (·.2) := by
    rw [List.map_set]
    have jl := (List.getElem?_eq_some_iff.mp hg).1
    refine List.ext_getElem? fun i => ?_
    rw [List.getElem?_set]
    by_cases e : j = i
    · subst e
      simp [hg]
      exact jl
    · simp [e]
  refine ⟨⟨pa, k.keep _ _ (no _ n4) a1, a2.keep k.tk⟩, ⟨xb, k.keep _ _ (no _ m3) b1, Paired.mapP b2 fun _ _ q => q.keep k.tk⟩, ⟨xc, k.keep _ _ (no _ l2) c1, gos_set c2 nd hg k h1 p⟩, ?_, ⟨xd, k.keep _ _ (no _ k1) d1, Paired.mapP d2 fun _ _ q => q.keep k.tk⟩, by rw [eq2]; exact ap⟩
  rw [List.map_set, e]
/-! ### pegs in order -/
theorem le_pg {a b : Ws.VD} {p q : Str × W} (ha : a.2 = pgD p) (hb : b.2 = pgD q) (h : Ws.leD a b = true) (n : p.1 ≠ q.1) : strLt p.1 q.1 := by
  have h2 : (!PySem.W.dataLt b.2 a.2) = true := h
  rw [ha, hb] at h2
  unfold pgD at h2
  rw [PySem.W.dataLt_pair (by simp [PySem.W.alike]) (alikeW _ _)] at h2
  simp only [PyData.eqv, PySem.W.dataLt_str, beq_iff_eq] at h2
  rw [if_neg (fun e => n e.symm)] at h2
  have h3 : ¬ q.1.cps.toList < p.1.cps.toList := by
    intro c
    rw [decide_eq_true c] at h2
    cases h2
  show p.1.cps.toList < q.1.cps.toList
  by_cases c : p.1.cps.toList < q.1.cps.toList
  · exact c
  · exact absurd (Str.ext' (Array.toList_inj.mp (List.le_antisymm (List.not_lt.mp h3) (List.not_lt.mp c)))) n
def RPg (H : Hp) (b : Ws.VD) (p : Str × W) : Prop := b.2 = pgD p ∧ IsPegT H b.1 p
section
variable {K : PySem.W.Frag} {xs : List V} {ps : List (Str × W)} {bs : List Ws.VD} {s : Addr} {Q : VK}
theorem pg_bs : ∀ {xs : List V} {ps : List (Str × W)}, Paired (IsPegT H) xs ps → ∃ bs : List Ws.VD, bs.map (·.1) = xs ∧ Paired (RPg H) bs ps
  | _, _, .nil => ⟨[], rfl, .nil⟩
  | x :: _, p :: _, .cons r t => by
    obtain ⟨bs, e, q⟩ := pg_bs t
    exact ⟨(x, pgD p) :: bs, by rw [List.map_cons, e], .cons ⟨rfl, r⟩ q⟩
theorem pg_xs : ∀ {bs : List Ws.VD} {ps : List (Str × W)}, Paired (RPg H) bs ps → Paired (IsPegT H) (bs.map (·.1)) ps
  | _, _, .nil => .nil
  | _, _, .cons r t => .cons r.2 (pg_xs t)
theorem pg_mem (h : Paired (RPg H) bs ps) {b : Ws.VD} (hb : b ∈ bs) : ∃ z, z ∈ ps ∧ RPg H b z := by
  obtain ⟨i, hi⟩ := List.getElem?_of_mem hb
  obtain ⟨z, hz, r⟩ := pair_at1 h hi
  exact ⟨z, List.mem_of_getElem? hz, r⟩
theorem pg_up (h : Paired (RPg H) bs ps) (hs : bs.Pairwise (fun a b => Ws.leD a b = true)) (nd : (ps.map (·.1)).Nodup) : ps.Pairwise fun a b => strLt a.1 b.1 := by
  induction h with
  | nil => exact .nil
  | cons r t ih =>
    obtain ⟨h1, h2⟩ := List.pairwise_cons.mp hs
    rw [List.map_cons] at nd
    obtain ⟨n1, n2⟩ := List.nodup_cons.mp nd
    refine List.pairwise_cons.mpr ⟨fun z hz => ?_, ih h2 n2⟩
    obtain ⟨i, hi⟩ := List.getElem?_of_mem hz
    obtain ⟨b, hb, rb⟩ := pair_at t hi
    exact le_pg r.1 rb.1 (h1 b (List.mem_of_getElem? hb)) fun e => n1 (List.mem_map.mpr ⟨z, hz, e.symm⟩)
theorem peg_dp {x : V} {p : Str × W} (h : IsPegT H x p) : Dp K H x (pgD p) := by
  obtain ⟨t, v, rfl, h1, h2⟩ := h
  exact .tup (SqT.of h1) (.cons (.str _) (.cons h2.dp .nil))
theorem sort_pegsT {X : List V} (h : Paired (IsPegT H) xs ps) (nd : (ps.map (·.1)).Nodup) (e : X = [.ref s]) (hs : SqL K H s xs) (q : ∀ (p : Addr) (ys : List V) (zs : List (Str × W)), H p = none → zs.Perm ps → Paired (IsPegT H) ys zs → zs.Pairwise (fun a b => strLt a.1 b.1) → Q (.ref p) (upd H p (.lst ys))) : Ws.rSortD K X H Q := by
  obtain ⟨bs, eb, pb⟩ := pg_bs h
  obtain ⟨zs, hp, pz⟩ := Wc.perm_pair (List.mergeSort_perm bs Ws.leD) pb
  refine ⟨s, bs, e, by rw [eb]; exact hs, fun b hb => ?_, ?_, .inl ?_, fun b hb => ?_, fun p hpn => ?_⟩
  · obtain ⟨z, _, r⟩ := pg_mem pb hb
    rw [r.1]; exact peg_dp r.2
  · intro d hd e he
    obtain ⟨b, hb, rfl⟩ := List.mem_map.mp hd
    obtain ⟨c, hc, rfl⟩ := List.mem_map.mp he
    obtain ⟨z, _, r⟩ := pg_mem pb hb
    obtain ⟨y, _, r'⟩ := pg_mem pb hc
    rw [r.1, r'.1]
    simp [pgD, wD, PySem.W.alike, PySem.W.alikeAll]
  · intro d hd
    obtain ⟨b, hb, rfl⟩ := List.mem_map.mp hd
    obtain ⟨z, hz, r⟩ := pg_mem pb hb
    exact ⟨_, _, r.1⟩
  · obtain ⟨z, _, r⟩ := pg_mem pb hb
    rw [r.1]
    have : (pgD z).depth = 2 := by simp [pgD, wD, PyData.depth, PyData.depthAll]
    rw [this]; decide
  · exact q p _ zs hpn hp (pg_xs pz) (pg_up pz (PySem.W.sort_pairwise Wc.leD_total bs) ((hp.map (·.1)).nodup_iff.mpr nd))
end
end
/-! ### a thing more -/
open Wip (PicW Closed)
def N7 : W := (Str.ofString "num", 7)
theorem n7 : Wk N7 ∧ N7.1 ≠ sBox ∧ N7.1 ≠ sGo := ⟨by unfold Wk N7; exact .inr (.inr rfl), by unfold N7; decide +kernel, by unfold N7; decide +kernel⟩
theorem memW {P : Pic} {y : W} : y ∈ P.worths ↔ y ∈ P.pile ∨ (∃ p ∈ P.pegs, p.2 = y) ∨ (∃ b ∈ P.boxes, b.2 = y) ∨ ∃ g ∈ P.goings, y ∈ g.2.2 := by
  unfold Pic.worths
  simp only [List.mem_append, List.mem_map, List.mem_flatMap, or_assoc]
theorem memT {P : Pic} {y : W} : y ∈ P.things ↔ (∃ b ∈ P.boxes, (sBox, b.1) = y) ∨ ∃ g ∈ P.goings, (sGo, g.1) = y := by
  unfold Pic.things
  simp only [List.mem_append, List.mem_map]
structure Grown (P P1 : Pic) (z : W) (b : Bool) : Prop where
  w : PicW P1
  kind : z.1 = sBox ∨ z.1 = sGo
  wk : Wk z
  new : z ∉ P.things
  things : ∀ y, y ∈ P1.things ↔ y ∈ P.things ∨ y = z
  old : ∀ y ∈ P.worths, y ∈ P1.worths
  only : ∀ y ∈ P1.worths, y ∈ P.worths ∨ (b = true ∧ y = z) ∨ y = N7
  has : b = true → z ∈ P1.worths
theorem Grown.closed {P P1 : Pic} {z : W} {b : Bool} (ok : P.Ok) (g : Grown P P1 z b) : b = true ↔ Closed P1 := by
  constructor
  · intro e
    refine ⟨fun y hy hk => (g.things y).mpr ?_, fun y hy => ?_⟩
    · rcases g.only y hy with h | ⟨_, h⟩ | h
      · exact .inl (ok.closed y h hk)
      · exact .inr h
      · subst h
        exact absurd hk (by rintro (h | h); exact n7.2.1 h; exact n7.2.2 h)
    · rcases (g.things y).mp hy with h | h
      · exact g.old y (ok.held y h)
      · subst h; exact g.has e
  · intro c
    have hz := c.2 z ((g.things z).mpr (.inr rfl))
    rcases g.only z hz with h | ⟨h, _⟩ | h
    · exact absurd (ok.closed z h g.kind) g.new
    · exact h
    · have := g.kind
      rw [h] at this
      exact absurd this (by rintro (h | h); exact n7.2.1 h; exact n7.2.2 h)
theorem grown_box {P : Pic} {n : Int} {v : W} {b : Bool} (ok : P.Ok) (h0 : 0 ≤ n) (up : ∀ x ∈ P.boxes, x.1 < n) (hv : v = if b = true then (sBox, n) else N7) : Grown P { P with boxes := P.boxes ++ [(n, v)] } (sBox, n) b := by
  have wz : Wk (sBox, n) := by unfold Wk; simp [h0]
  have wv : Wk v := by rw [hv]; split; exact wz; exact n7.1
  have pw := PicW.of ok
  refine ⟨⟨fun y hy => ?_, pw.names, pw.pegUp, pw.goUp, pw.goNat, ?_, fun x hx => ?_⟩, .inl rfl, wz, fun h => ?_, fun y => ?_, fun y hy => ?_, fun y hy => ?_, fun e => ?_⟩
  · rcases memW.mp hy with h | h | ⟨x, hx, h⟩ | h
    · exact pw.words y (memW.mpr (.inl h))
    · exact pw.words y (memW.mpr (.inr (.inl h)))
    · rcases List.mem_append.mp hx with hx | hx
      · exact pw.words y (memW.mpr (.inr (.inr (.inl ⟨x, hx, h⟩))))
      · rw [List.mem_singleton.mp hx] at h; rw [← h]; exact wv
    · exact pw.words y (memW.mpr (.inr (.inr (.inr h))))
  · refine List.pairwise_append.mpr ⟨pw.boxUp, List.pairwise_singleton _ _, fun x hx y hy => ?_⟩
    rw [List.mem_singleton.mp hy]; exact up x hx
  · rcases List.mem_append.mp hx with hx | hx
    · exact pw.boxNat x hx
    · rw [List.mem_singleton.mp hx]; exact h0
  · rcases memT.mp h with ⟨x, hx, e⟩ | ⟨x, hx, e⟩
    · have := up x hx
      have e2 : x.1 = n := (Prod.mk.inj e).2
      omega
    · exact box_go (Prod.mk.inj e).1.symm
  · rw [memT, memT]
    simp only [List.mem_append, List.mem_singleton]
    constructor
    · rintro (⟨x, hx | hx, e⟩ | h)
      · exact .inl (.inl ⟨x, hx, e⟩)
      · rw [hx] at e; exact .inr e.symm
      · exact .inl (.inr h)
    · rintro ((⟨x, hx, e⟩ | h) | h)
      · exact .inl ⟨x, .inl hx, e⟩
      · exact .inr h
      · exact .inl ⟨_, .inr rfl, h.symm⟩
  · rcases memW.mp hy with h | h | ⟨x, hx, h⟩ | h
    · exact memW.mpr (.inl h)
    · exact memW.mpr (.inr (.inl h))
    · exact memW.mpr (.inr (.inr (.inl ⟨x, List.mem_append_left _ hx, h⟩)))
    · exact memW.mpr (.inr (.inr (.inr h)))
  · rcases memW.mp hy with h | h | ⟨x, hx, h⟩ | h
    · exact .inl (memW.mpr (.inl h))
    · exact .inl (memW.mpr (.inr (.inl h)))
    · rcases List.mem_append.mp hx with hx | hx
      · exact .inl (memW.mpr (.inr (.inr (.inl ⟨x, hx, h⟩))))
      · rw [List.mem_singleton.mp hx] at h
        refine .inr ?_
        rw [← h, hv]
        cases b
        · exact .inr rfl
        · exact .inl ⟨rfl, rfl⟩
    · exact .inl (memW.mpr (.inr (.inr (.inr h))))
  · refine memW.mpr (.inr (.inr (.inl ⟨(n, v), List.mem_append_right _ (List.mem_singleton.mpr rfl), ?_⟩)))
    rw [hv, if_pos e]
theorem grown_go {P : Pic} {n p : Int} {ws : List W} {b : Bool} (ok : P.Ok) (h0 : 0 ≤ n) (p0 : 0 ≤ p) (up : ∀ x ∈ P.goings, x.1 < n) (hv : ws = if b = true then [(sGo, n)] else []) : Grown P { P with goings := P.goings ++ [(n, p, ws)] } (sGo, n) b := by
  have wz : Wk (sGo, n) := by unfold Wk; simp [h0]
  have pw := PicW.of ok
  have wv : ∀ y ∈ ws, b = true ∧ y = (sGo, n) := by
    intro y hy
    rw [hv] at hy
    cases b
    · simp at hy
    · simpa using hy
  refine ⟨⟨fun y hy => ?_, pw.names, pw.pegUp, ?_, fun x hx => ?_, pw.boxUp, pw.boxNat⟩, .inr rfl, wz, fun h => ?_, fun y => ?_, fun y hy => ?_, fun y hy => ?_, fun e => ?_⟩
  · rcases memW.mp hy with h | h | h | ⟨x, hx, h⟩
    · exact pw.words y (memW.mpr (.inl h))
    · exact pw.words y (memW.mpr (.inr (.inl h)))
    · exact pw.words y (memW.mpr (.inr (.inr (.inl h))))
    · rcases List.mem_append.mp hx with hx | hx
      · exact pw.words y (memW.mpr (.inr (.inr (.inr ⟨x, hx, h⟩))))
      · rw [List.mem_singleton.mp hx] at h; rw [(wv y h).2]; exact wz
  · refine List.pairwise_append.mpr ⟨pw.goUp, List.pairwise_singleton _ _, fun x hx y hy => ?_⟩
    rw [List.mem_singleton.mp hy]; exact up x hx
  · rcases List.mem_append.mp hx with hx | hx
    · exact pw.goNat x hx
    · rw [List.mem_singleton.mp hx]; exact ⟨h0, p0⟩
  · rcases memT.mp h with ⟨x, hx, e⟩ | ⟨x, hx, e⟩
    · exact box_go (Prod.mk.inj e).1
    · have := up x hx
      have e2 : x.1 = n := (Prod.mk.inj e).2
      omega
  · rw [memT, memT]
    simp only [List.mem_append, List.mem_singleton]
    constructor
    · rintro (h | ⟨x, hx | hx, e⟩)
      · exact .inl (.inl h)
      · exact .inl (.inr ⟨x, hx, e⟩)
      · rw [hx] at e; exact .inr e.symm
    · rintro ((h | ⟨x, hx, e⟩) | h)
      · exact .inl h
      · exact .inr ⟨x, .inl hx, e⟩
      · exact .inr ⟨_, .inr rfl, h.symm⟩
  · rcases memW.mp hy with h | h | h | ⟨x, hx, h⟩
    · exact memW.mpr (.inl h)
    · exact memW.mpr (.inr (.inl h))
    · exact memW.mpr (.inr (.inr (.inl h)))
    · exact memW.mpr (.inr (.inr (.inr ⟨x, List.mem_append_left _ hx, h⟩)))
  · rcases memW.mp hy with h | h | h | ⟨x, hx, h⟩
    · exact .inl (memW.mpr (.inl h))
    · exact .inl (memW.mpr (.inr (.inl h)))
    · exact .inl (memW.mpr (.inr (.inr (.inl h))))
    · rcases List.mem_append.mp hx with hx | hx
      · exact .inl (memW.mpr (.inr (.inr (.inr ⟨x, hx, h⟩))))
      · rw [List.mem_singleton.mp hx] at h
        exact .inr (.inl (wv y h))
  · refine memW.mpr (.inr (.inr (.inr ⟨(n, p, ws), List.mem_append_right _ (List.mem_singleton.mpr rfl), ?_⟩)))
    dsimp only
    rw [hv, if_pos e]
    exact List.mem_singleton.mpr rfl
/-- whatever is changed but the things: what stands where -/
theorem Grown.more {P P1 P2 : Pic} {z : W} {b : Bool} (g : Grown P P1 z b) (w : PicW P2) (t : P2.things = P1.things) (m : ∀ y, y ∈ P2.worths ↔ y ∈ P1.worths ∨ y = z) : Grown P P2 z true where
  w := w
  kind := g.kind
  wk := g.wk
  new := g.new
  things := by rw [t]; exact g.things
  old := fun y hy => (m y).mpr (.inl (g.old y hy))
  only := fun y hy => by
    rcases (m y).mp hy with h | h
    · rcases g.only y h with h | ⟨_, h⟩ | h
      · exact .inl h
      · exact .inr (.inl ⟨rfl, h⟩)
      · exact .inr (.inr h)
    · exact .inr (.inl ⟨rfl, h⟩)
  has := fun _ => (m z).mpr (.inr rfl)
theorem peg_more {P P1 : Pic} {z : W} {b : Bool} {nm : Str} {zs : List (Str × W)} (g : Grown P P1 z b) (hn : Wu.Nm nm ∧ 1 ≤ nm.length) (hp : zs.Perm (P1.pegs ++ [(nm, z)])) (up : zs.Pairwise fun a b => strLt a.1 b.1) : Grown P { P1 with pegs := zs } z true := by
  have mp : ∀ p, p ∈ zs ↔ p ∈ P1.pegs ∨ p = (nm, z) := fun p => by rw [hp.mem_iff]; simp
  have m : ∀ y, y ∈ ({ P1 with pegs := zs } : Pic).worths ↔ y ∈ P1.worths ∨ y = z := by
    intro y
    rw [memW, memW]
    constructor
    · rintro (h | ⟨p, hp, h⟩ | h | h)
      · exact .inl (.inl h)
      · rcases (mp p).mp hp with hp | hp
        · exact .inl (.inr (.inl ⟨p, hp, h⟩))
        · rw [hp] at h; exact .inr h.symm
      · exact .inl (.inr (.inr (.inl h)))
      · exact .inl (.inr (.inr (.inr h)))
    · rintro ((h | ⟨p, hp, h⟩ | h | h) | h)
      · exact .inl h
      · exact .inr (.inl ⟨p, (mp p).mpr (.inl hp), h⟩)
      · exact .inr (.inr (.inl h))
      · exact .inr (.inr (.inr h))
      · exact .inr (.inl ⟨_, (mp _).mpr (.inr rfl), h.symm⟩)
  refine g.more ⟨fun y hy => ?_, fun p hp => ?_, up, g.w.goUp, g.w.goNat, g.w.boxUp, g.w.boxNat⟩ rfl m
  · rcases (m y).mp hy with h | h
    · exact g.w.words y h
    · rw [h]; exact g.wk
  · rcases (mp p).mp hp with hp | hp
    · exact g.w.names p hp
    · rw [hp]; exact hn
theorem pile_more {P P1 : Pic} {z : W} {b : Bool} {ws : List W} (g : Grown P P1 z b) (mw : ∀ y, y ∈ ws ↔ y ∈ P1.pile ∨ y = z) : Grown P { P1 with pile := ws } z true := by
  have m : ∀ y, y ∈ ({ P1 with pile := ws } : Pic).worths ↔ y ∈ P1.worths ∨ y = z := by
    intro y
    rw [memW, memW]
    constructor
    · rintro (h | h)
      · rcases (mw y).mp h with h | h
        · exact .inl (.inl h)
        · exact .inr h
      · exact .inl (.inr h)
    · rintro ((h | h) | h)
      · exact .inl ((mw y).mpr (.inl h))
      · exact .inr h
      · exact .inl ((mw y).mpr (.inr h))
  refine g.more ⟨fun y hy => ?_, g.w.names, g.w.pegUp, g.w.goUp, g.w.goNat, g.w.boxUp, g.w.boxNat⟩ rfl m
  rcases (m y).mp hy with h | h
  · exact g.w.words y h
  · rw [h]; exact g.wk
theorem set_same {α β : Type} {f : α → β} {l : List α} {j : Nat} {x y : α} (hx : l[j]? = some x) (e : f y = f x) : (l.set j y).map f = l.map f := by
  rw [List.map_set, e]
  refine List.ext_getElem? fun i => ?_
  rw [List.getElem?_set]
  by_cases h : j = i
  · subst h
    have jl := (List.getElem?_eq_some_iff.mp hx).1
    simp [hx]
    exact jl
  · simp [h]
theorem mem_set2 {α : Type} {l : List α} {j : Nat} {x y a : α} (hx : l[j]? = some x) : (a ∈ l.set j y → a ∈ l ∨ a = y) ∧ (a ∈ l → a ∈ l.set j y ∨ a = x) ∧ y ∈ l.set j y := by
  have jl := (List.getElem?_eq_some_iff.mp hx).1
  refine ⟨fun h => List.mem_or_eq_of_mem_set h, fun h => ?_, ?_⟩
  · obtain ⟨i, hi⟩ := List.getElem?_of_mem h
    by_cases e : j = i
    · subst e
      rw [hx] at hi
      exact .inr (Option.some.inj hi).symm
    · refine .inl (List.mem_of_getElem? (i := i) ?_)
      rw [List.getElem?_set_ne e]; exact hi
  · refine List.mem_of_getElem? (i := j) ?_
    rw [List.getElem?_set_self jl]
theorem row_more {P P1 : Pic} {z : W} {b : Bool} {j : Nat} {r : Int × Int × List W} {ws : List W} (g : Grown P P1 z b) (hr : P1.goings[j]? = some r) (mw : ∀ y, y ∈ ws ↔ y ∈ r.2.2 ∨ y = z) : Grown P { P1 with goings := P1.goings.set j (r.1, r.2.1, ws) } z true := by
  have rm := List.mem_of_getElem? hr
  have m : ∀ y, y ∈ ({ P1 with goings := P1.goings.set j (r.1, r.2.1, ws) } : Pic).worths ↔ y ∈ P1.worths ∨ y = z := by
    intro y
    rw [memW, memW]
    constructor
    · rintro (h | h | h | ⟨x, hx, h⟩)
      · exact .inl (.inl h)
      · exact .inl (.inr (.inl h))
      · exact .inl (.inr (.inr (.inl h)))
      · rcases (mem_set2 hr).1 hx with hx | hx
        · exact .inl (.inr (.inr (.inr ⟨x, hx, h⟩)))
        · rw [hx] at h
          rcases (mw y).mp h with h | h
          · exact .inl (.inr (.inr (.inr ⟨r, rm, h⟩)))
          · exact .inr h
    · rintro ((h | h | h | ⟨x, hx, h⟩) | h)
      · exact .inl h
      · exact .inr (.inl h)
      · exact .inr (.inr (.inl h))
      · rcases (mem_set2 (y := (r.1, r.2.1, ws)) hr).2.1 hx with hx | hx
        · exact .inr (.inr (.inr ⟨x, hx, h⟩))
        · exact .inr (.inr (.inr ⟨_, (mem_set2 (a := r) hr).2.2, (mw y).mpr (.inl (by rw [← hx]; exact h))⟩))
      · exact .inr (.inr (.inr ⟨_, (mem_set2 (a := r) hr).2.2, (mw y).mpr (.inr h)⟩))
  have t : ({ P1 with goings := P1.goings.set j (r.1, r.2.1, ws) } : Pic).things = P1.things := by
    unfold Pic.things
    show (P1.boxes.map fun b => ((sBox, b.1) : W)) ++ ((P1.goings.set j (r.1, r.2.1, ws)).map fun g => ((sGo, g.1) : W)) = _
    rw [set_same (f := fun g : Int × Int × List W => ((sGo, g.1) : W)) (y := (r.1, r.2.1, ws)) hr rfl]
  refine g.more ⟨fun y hy => ?_, g.w.names, g.w.pegUp, ?_, fun x hx => ?_, g.w.boxUp, g.w.boxNat⟩ t m
  · rcases (m y).mp hy with h | h
    · exact g.w.words y h
    · rw [h]; exact g.wk
  · have := g.w.goUp
    have e := set_same (f := fun g : Int × Int × List W => g.1) (y := (r.1, r.2.1, ws)) hr rfl
    have h1 : (P1.goings.map fun g => g.1).Pairwise (· < ·) := List.pairwise_map.mpr this
    rw [← e] at h1
    exact List.pairwise_map.mp h1
  · rcases (mem_set2 hr).1 hx with hx | hx
    · exact g.w.goNat x hx
    · rw [hx]; exact g.w.goNat r rm
def Mid (n : Nat) (P : Pic) : Prop := P.pile.length ≤ n ∧ P.pegs.length ≤ 200 ∧ P.goings.length ≤ 200 ∧ P.boxes.length ≤ 200 ∧ ∀ g ∈ P.goings, g.2.2.length ≤ n
theorem Mid.of {n m : Nat} {P : Pic} (h : P.Small n) (l : n ≤ m) : Mid m P := by
  obtain ⟨m1, m2, m3, m4, m5⟩ := h
  exact ⟨by omega, by omega, by omega, by omega, fun g hg => Nat.le_trans (m5 g hg) l⟩
theorem spot {P P1 : Pic} {z : W} {bb : Bool} {H : Hp} {a b c d : Addr} {gs : List Go} {i : Int} (own : OwnAt H a b c d gs P1) (gr : Grown P P1 z bb) (mid : Mid 60 P1) (i0 : 0 ≤ i) (i1 : i < 1 + gs.length) :
    ∃ l ys ws, atI ([V.ref a] ++ gs.map fun g => V.ref g.2) i = some (.ref l) ∧ H l = some (.lst ys) ∧ Pile H ys ws ∧ ws.length ≤ 60 ∧ l ∈ a :: b :: c :: d :: gs.map (·.2) ∧ ∀ H' ys' ws', Ks [l] H H' → H' l = some (.lst ys') → Pile H' ys' ws' → ws'.length ≤ 61 → (∀ y, y ∈ ws' ↔ y ∈ ws ∨ y = z) → ∃ gs' P2, OwnAt H' a b c d gs' P2 ∧ Grown P P2 z true ∧ Mid 400 P2 := by
  obtain ⟨m1, m2, m3, m4, m5⟩ := mid
  by_cases e : i = 0
  · subst e
    obtain ⟨pa, a1, a2⟩ := own.pile
    refine ⟨a, pa, P1.pile, atI_of (show (0 : Int) = ((0 : Nat) : Int) from rfl) rfl, a1, a2, m1, by simp, fun H' ys' ws' k h p l m => ⟨gs, _, own.set_a k h p, pile_more gr m, Nat.le_trans l (by decide), m2, m3, m4, fun g hg => Nat.le_trans (m5 g hg) (by decide)⟩⟩
  · obtain ⟨j, rfl⟩ : ∃ j : Nat, i = ((j + 1 : Nat) : Int) := ⟨(i - 1).toNat, by omega⟩
    have jl : j < gs.length := by omega
    obtain ⟨g, hg⟩ : ∃ g, gs[j]? = some g := ⟨_, List.getElem?_eq_getElem jl⟩
    obtain ⟨xc, c1, c2⟩ := own.goings
    obtain ⟨x, hx, t, vs, _, h1, h2, h3⟩ := pair_at c2 hg
    have hr : P1.goings[j]? = some g.1 := by rw [← own.eq, List.getElem?_map, hg]; rfl
    refine ⟨g.2, vs, g.1.2.2, atI_of rfl ?_, h2, h3, m5 _ (List.mem_of_getElem? hr), ?_, fun H' ys' ws' k h p l m => ⟨_, _, own.set_row hg k h p, row_more gr hr m, Nat.le_trans m1 (by decide), m2, ?_, m4, fun r hr2 => ?_⟩⟩
    · show ((gs.map fun g => V.ref g.2))[j]? = _
      rw [List.getElem?_map, hg]; rfl
    · simp only [List.mem_cons]
      exact .inr (.inr (.inr (.inr (List.mem_map_of_mem (List.mem_of_getElem? hg)))))
    · show (P1.goings.set j _).length ≤ 200
      rw [List.length_set]; exact m3
    · rcases (mem_set2 hr).1 hr2 with q | q
      · exact Nat.le_trans (m5 r q) (by decide)
      · rw [q]; exact Nat.le_trans l (by decide)
theorem pair_take {α β : Type} {R : α → β → Prop} : ∀ {xs : List α} {ys : List β} (k : Nat), Paired R xs ys → Paired R (xs.take k) (ys.take k)
  | _, _, 0, _ => by rw [List.take_zero, List.take_zero]; exact .nil
  | _, _, k + 1, .nil => .nil
  | _, _, k + 1, .cons r t => .cons r (pair_take k t)
theorem pair_drop {α β : Type} {R : α → β → Prop} : ∀ {xs : List α} {ys : List β} (k : Nat), Paired R xs ys → Paired R (xs.drop k) (ys.drop k)
  | _, _, 0, h => h
  | _, _, k + 1, .nil => .nil
  | _, _, k + 1, .cons r t => pair_drop k t
theorem ins_mem {ws : List W} {z y : W} {k : Nat} : y ∈ ws.take k ++ [z] ++ ws.drop k ↔ y ∈ ws ∨ y = z := by
  have : y ∈ ws ↔ y ∈ ws.take k ∨ y ∈ ws.drop k := by rw [← List.mem_append, List.take_append_drop]
  rw [List.mem_append, List.mem_append, List.mem_singleton, this]
  constructor
  · rintro ((h | h) | h)
    · exact .inl (.inl h)
    · exact .inr h
    · exact .inl (.inr h)
  · rintro ((h | h) | h)
    · exact .inl (.inl h)
    · exact .inr h
    · exact .inl (.inr h)
theorem ins_len {ws : List W} {z : W} {k : Nat} : (ws.take k ++ [z] ++ ws.drop k).length = ws.length + 1 := by
  rw [List.length_append, List.length_append, List.length_take, List.length_drop, List.length_singleton]
  omega
end Wow

/-! A house: its dicts, its piles' object and its tally, as a picture's data. -/
namespace Whs
open PySem PySem.Spec PyProof.Rows L2 Wp Wq Wr Wpm Wth Wta Wpi
abbrev Gz := Int × Int × Wpi.Kept
structure HA where
  h : Addr
  dx : Addr
  p : Addr
  pd : Addr
  bd : Addr
  gd : Addr
  A : TAd
def goP (g : Gz) : Int × Int × List W := (g.1, g.2.1, g.2.2.2)
def IsGv (H : Hp) (kv : Key × V) (g : Gz) : Prop := kv.1 = .inl g.1 ∧ ∃ t, kv.2 = .ref t ∧ H t = some (.tup [.int g.2.1, g.2.2.1])
def IsBv (H : Hp) (kv : Key × V) (b : Int × W) : Prop := kv.1 = .inl b.1 ∧ IsW H kv.2 b.2
theorem IsGv.keep {H H' : Hp} {kv : Key × V} {g : Gz} (h : IsGv H kv g) (k : Tk H H') : IsGv H' kv g := by
  obtain ⟨a, t, b, c⟩ := h
  exact ⟨a, t, b, k _ _ c⟩
theorem IsBv.keep {H H' : Hp} {kv : Key × V} {g : Int × W} (h : IsBv H kv g) (k : Tk H H') : IsBv H' kv g := ⟨h.1, h.2.keep k⟩
def fldsH (B : HA) : List (Str × V) := [("piles", .ref B.p), ("tally", .ref B.A.ta), ("peg_worths", .ref B.pd), ("box_worths", .ref B.bd), ("kept_goings", .ref B.gd)]
def rest (D : Pic) : List W := D.pegs.map (·.2) ++ D.boxes.map (·.2)
def All (B : HA) (S : List Addr) : List Addr := B.h :: B.pd :: B.bd :: B.gd :: B.A.ta :: B.A.pc :: B.A.ls :: S
structure HouX {K : PySem.W.Frag} (I : PilI K) (hc oT : Addr) (S : List Addr) (H : Hp) (B : HA) (run : List W) (D : Pic) (gs : List Gz) (ks : List Wpi.Kept) (L R G Z : List W) : Prop where
  hh : H B.h = some (.ins hc B.dx (fldsH B))
  pegs : ∃ kvp, H B.pd = some (.dK kvp) ∧ Paired (IsPeg H) kvp D.pegs
  boxes : ∃ kvb, H B.bd = some (.dK kvb) ∧ Paired (IsBv H) kvb D.boxes
  goings : ∃ kvg, H B.gd = some (.dK kvg) ∧ Paired (IsGv H) kvg gs
  pt : PilT I oT S H B.p B.A run ks L R G Z
  nd : [B.h, B.pd, B.bd, B.gd, B.A.ta, B.A.pc, B.A.ls].Nodup
  sp : ∀ a ∈ [B.h, B.pd, B.bd, B.gd], a ∉ S
structure HouR {K : PySem.W.Frag} (I : PilI K) (hc oT : Addr) (S : List Addr) (H : Hp) (B : HA) (D : Pic) (gs : List Gz) (L G Z : List W) : Prop where
  x : HouX I hc oT S H B D.pile D gs (gs.map (·.2.2)) L (rest D) G Z
  geq : D.goings = gs.map goP
section
variable {K : PySem.W.Frag} {I : PilI K} {hc oT : Addr} {S S' T : List Addr} {H H' : Hp} {B : HA} {D : Pic} {run run' : List W} {gs : List Gz} {ks ks' : List Wpi.Kept} {L L' R G G' Z : List W}
theorem HouX.keep (h : HouX I hc oT S H B run D gs ks L R G Z) (k : Ks T H H') (n : ∀ a ∈ All B S, a ∉ T) : HouX I hc oT S H' B run D gs ks L R G Z := by
  obtain ⟨hh, ⟨kp, p1, p2⟩, ⟨kb, b1, b2⟩, ⟨kg, g1, g2⟩, pt, nd, sp⟩ := h
  exact ⟨k.keep _ _ (n _ (by simp [All])) hh, ⟨kp, k.keep _ _ (n _ (by simp [All])) p1, Paired.mapP p2 fun _ _ q => q.keep k.tk⟩, ⟨kb, k.keep _ _ (n _ (by simp [All])) b1, Paired.mapP b2 fun _ _ q => q.keep k.tk⟩, ⟨kg, k.keep _ _ (n _ (by simp [All])) g1, Paired.mapP g2 fun _ _ q => q.keep k.tk⟩, pt.keep k (fun a ha => n a (by simp [All, ha])) (n _ (by simp [All])) (n _ (by simp [All])) (n _ (by simp [All])), nd, sp⟩
theorem HouX.same (h : HouX I hc oT S H B run D gs ks L R G Z) (s : Same H H') : HouX I hc oT S H' B run D gs ks L R G Z := h.keep (T := []) (Ks.same s) (by simp)
theorem HouR.keep (h : HouR I hc oT S H B D gs L G Z) (k : Ks T H H') (n : ∀ a ∈ All B S, a ∉ T) : HouR I hc oT S H' B D gs L G Z := ⟨h.x.keep k n, h.geq⟩
theorem HouR.same (h : HouR I hc oT S H B D gs L G Z) (s : Same H H') : HouR I hc oT S H' B D gs L G Z := h.keep (T := []) (Ks.same s) (by simp)
/-- the piles go on, the dicts stay -/
theorem HouX.step (h : HouX I hc oT S H B run D gs ks L R G Z) (s : Wpi.Step I oT B.p B.A R Z S H L G S' H' run' ks' L' G') : HouX I hc oT S' H' B run' D gs ks' L' R G' Z ∧ Ks (All B S) H H' ∧ Grow (All B S) (All B S') H := by
  obtain ⟨hh, ⟨kp, p1, p2⟩, ⟨kb, b1, b2⟩, ⟨kg, g1, g2⟩, pt, nd, sp⟩ := h
  have nin : ∀ a ∈ [B.h, B.pd, B.bd, B.gd], a ∉ S ++ [B.A.pc, B.A.ls] := fun a ha m => by
    rcases List.mem_append.mp m with m | m
    · exact sp a ha m
    · have nd2 : ([B.h, B.pd, B.bd, B.gd] ++ [B.A.ta, B.A.pc, B.A.ls]).Nodup := nd
      exact (List.nodup_append.mp nd2).2.2 a ha a (List.mem_cons_of_mem _ m) rfl
  have k := s.ks
  refine ⟨⟨k.keep _ _ (nin _ (by simp)) hh, ⟨kp, k.keep _ _ (nin _ (by simp)) p1, Paired.mapP p2 fun _ _ q => q.keep k.tk⟩, ⟨kb, k.keep _ _ (nin _ (by simp)) b1, Paired.mapP b2 fun _ _ q => q.keep k.tk⟩, ⟨kg, k.keep _ _ (nin _ (by simp)) g1, Paired.mapP g2 fun _ _ q => q.keep k.tk⟩, s.pt, nd, fun a ha m => ?_⟩, k.mono fun a ha => ?_, fun a ha => ?_⟩
  · rcases s.gr a m with m | m
    · exact sp a ha m
    · simp only [List.mem_cons, List.not_mem_nil, or_false] at ha
      rcases ha with rfl | rfl | rfl | rfl
      · rw [hh] at m; cases m
      · rw [p1] at m; cases m
      · rw [b1] at m; cases m
      · rw [g1] at m; cases m
  · rcases List.mem_append.mp ha with ha | ha
    · simp [All, ha]
    · simp only [List.mem_cons, List.not_mem_nil, or_false] at ha
      rcases ha with rfl | rfl <;> simp [All]
  · unfold All at ha
    simp only [List.mem_cons] at ha
    rcases ha with rfl | rfl | rfl | rfl | rfl | rfl | rfl | ha
    · exact .inl (by simp [All])
    · exact .inl (by simp [All])
    · exact .inl (by simp [All])
    · exact .inl (by simp [All])
    · exact .inl (by simp [All])
    · exact .inl (by simp [All])
    · exact .inl (by simp [All])
    · rcases s.gr a ha with m | m
      · exact .inl (by simp [All, m])
      · exact .inr m
theorem HouX.live (h : HouX I hc oT S H B run D gs ks L R G Z) : ∀ a ∈ All B S, H a ≠ none := by
  obtain ⟨hh, ⟨kp, p1, p2⟩, ⟨kb, b1, b2⟩, ⟨kg, g1, g2⟩, pt, nd, sp⟩ := h
  intro a ha
  unfold All at ha
  simp only [List.mem_cons] at ha
  rcases ha with rfl | rfl | rfl | rfl | rfl | rfl | rfl | ha
  · rw [hh]; exact fun h => nomatch h
  · rw [p1]; exact fun h => nomatch h
  · rw [b1]; exact fun h => nomatch h
  · rw [g1]; exact fun h => nomatch h
  · rw [pt.tl.hi]; exact fun h => nomatch h
  · obtain ⟨_, q, _⟩ := pt.tl.hp
    rw [q]; exact fun h => nomatch h
  · obtain ⟨_, q, _⟩ := pt.tl.hl
    rw [q]; exact fun h => nomatch h
  · exact (I.live pt.at_).2 a ha
theorem HouR.mem (h : HouR I hc oT S H B D gs L G Z) {y : W} (t : isT y = true) : y ∈ L ++ rest D ↔ y ∈ D.worths := by
  rw [List.mem_append, I.mem h.x.pt.at_ y t, Wow.memW]
  unfold rest
  rw [List.mem_append, h.geq]
  simp only [List.mem_map]
  constructor
  · rintro ((a | ⟨k, ⟨g, hg, rfl⟩, hk⟩) | (a | a))
    · exact .inl a
    · exact .inr (.inr (.inr ⟨_, ⟨g, hg, rfl⟩, hk⟩))
    · exact .inr (.inl a)
    · exact .inr (.inr (.inl a))
  · rintro (a | a | a | ⟨_, ⟨g, hg, rfl⟩, hk⟩)
    · exact .inl (.inl a)
    · exact .inr (.inl a)
    · exact .inr (.inr a)
    · exact .inl (.inr ⟨_, ⟨g, hg, rfl⟩, hk⟩)
end
def Mv (S : List Addr) (H : Hp) (S' : List Addr) (H' : Hp) : Prop := Ks S H H' ∧ Grow S S' H
theorem Mv.trans {S S1 S2 : List Addr} {H H1 H2 : Hp} (h : Mv S H S1 H1) (k : Mv S1 H1 S2 H2) : Mv S H S2 H2 := by
  refine ⟨⟨fun a o n e => k.1.keep a o (fun m => ?_) (h.1.keep a o n e), h.1.tk.trans k.1.tk⟩, h.2.trans h.1 (fun a ha => .inl ha) k.2⟩
  rcases h.2 a m with m | m
  · exact n m
  · rw [e] at m; cases m
theorem Mv.same {S : List Addr} {H H1 : Hp} (s : Same H H1) : Mv S H S H1 := ⟨Ks.same s, Grow.refl⟩
structure Dok (D : Pic) : Prop where
  words : ∀ z ∈ D.worths, Wk z
  pegN : ∀ p ∈ D.pegs, Wu.Nm p.1 ∧ 1 ≤ p.1.length
  pegU : (D.pegs.map (·.1)).Nodup
  boxU : (D.boxes.map (·.1)).Nodup
  boxN : ∀ b ∈ D.boxes, 0 ≤ b.1
  goU : (D.goings.map (·.1)).Nodup
  goN : ∀ g ∈ D.goings, 0 ≤ g.1 ∧ 0 ≤ g.2.1
  closed : ∀ z ∈ D.worths, isT z = true → z ∈ D.things
def Held (D : Pic) : Prop := ∀ z ∈ D.things, z ∈ D.worths
structure Sz (D : Pic) : Prop where
  pile : D.pile.length ≤ 300000
  pegs : D.pegs.length ≤ 100000
  boxes : D.boxes.length ≤ 100000
  goings : D.goings.length ≤ 100000
  whole : ∀ g ∈ D.goings, g.2.2.length ≤ 300000
def House {K : PySem.W.Frag} (I : PilI K) (hc oT : Addr) (S : List Addr) (H : Hp) (h : Addr) (D : Pic) : Prop := ∃ B Sp gs L G, B.h = h ∧ S = All B Sp ∧ HouR I hc oT Sp H B D gs L G D.things ∧ Dok D ∧ Held D
/-! ### letting go -/
def dropD (D : Pic) (z : W) : Pic := if z.1 = sBox then { D with boxes := D.boxes.filter fun b => decide (b.1 ≠ z.2) } else { D with goings := D.goings.filter fun g => decide (g.1 ≠ z.2) }
inductive Drops : Pic → Pic → Prop where
  | nil (D : Pic) : Drops D D
  | step {D D' : Pic} (z : W) (h : z ∈ D.things) (n : z ∉ D.worths) (d : Drops (dropD D z) D') : Drops D D'
def Settled (D D' : Pic) : Prop := Drops D D' ∧ Held D'
theorem Drops.trans {D1 D2 D3 : Pic} (h : Drops D1 D2) (k : Drops D2 D3) : Drops D1 D3 := by
  induction h with
  | nil => exact k
  | step z h n d ih => exact .step z h n (ih k)
theorem settled_held {D D' : Pic} (h : Held D) (s : Settled D D') : D' = D := by
  obtain ⟨d, _⟩ := s
  cases d with
  | nil => rfl
  | step z hz n _ => exact absurd (h z hz) n
theorem drop_things {D : Pic} {z y : W} (hz : isT z = true) : y ∈ (dropD D z).things ↔ y ∈ D.things ∧ y ≠ z := by
  have hk := isT_iff.mp hz
  unfold dropD
  by_cases c : z.1 = sBox
  · rw [if_pos c, Wow.memT, Wow.memT]
    constructor
    · rintro (⟨b, hb, e⟩ | ⟨g, hg, e⟩)
      · obtain ⟨h1, h2⟩ := List.mem_filter.mp hb
        refine ⟨.inl ⟨b, h1, e⟩, fun q => ?_⟩
        rw [q] at e
        exact (of_decide_eq_true h2) (congrArg (·.2) e)
      · refine ⟨.inr ⟨g, hg, e⟩, fun q => ?_⟩
        rw [q] at e
        exact box_go (c.symm.trans (congrArg (·.1) e).symm)
    · rintro ⟨⟨b, hb, e⟩ | h, n⟩
      · refine .inl ⟨b, List.mem_filter.mpr ⟨hb, decide_eq_true fun q => n ?_⟩, e⟩
        rw [← e]
        exact Prod.ext c.symm q
      · exact .inr h
  · rw [if_neg c, Wow.memT, Wow.memT]
    have cg : z.1 = sGo := hk.resolve_left c
    constructor
    · rintro (⟨b, hb, e⟩ | ⟨g, hg, e⟩)
      · refine ⟨.inl ⟨b, hb, e⟩, fun q => ?_⟩
        rw [q] at e
        exact c (congrArg (·.1) e).symm
      · obtain ⟨h1, h2⟩ := List.mem_filter.mp hg
        refine ⟨.inr ⟨g, h1, e⟩, fun q => ?_⟩
        rw [q] at e
        exact (of_decide_eq_true h2) (congrArg (·.2) e)
    · rintro ⟨h | ⟨g, hg, e⟩, n⟩
      · exact .inl h
      · refine .inr ⟨g, List.mem_filter.mpr ⟨hg, decide_eq_true fun q => n ?_⟩, e⟩
        rw [← e]
        exact Prod.ext cg.symm q
theorem drop_worths {D : Pic} {z y : W} (h : y ∈ (dropD D z).worths) : y ∈ D.worths := by
  unfold dropD at h
  by_cases c : z.1 = sBox
  · rw [if_pos c] at h
    rcases Wow.memW.mp h with h | h | ⟨b, hb, h⟩ | h
    · exact Wow.memW.mpr (.inl h)
    · exact Wow.memW.mpr (.inr (.inl h))
    · exact Wow.memW.mpr (.inr (.inr (.inl ⟨b, (List.mem_filter.mp hb).1, h⟩)))
    · exact Wow.memW.mpr (.inr (.inr (.inr h)))
  · rw [if_neg c] at h
    rcases Wow.memW.mp h with h | h | h | ⟨g, hg, h⟩
    · exact Wow.memW.mpr (.inl h)
    · exact Wow.memW.mpr (.inr (.inl h))
    · exact Wow.memW.mpr (.inr (.inr (.inl h)))
    · exact Wow.memW.mpr (.inr (.inr (.inr ⟨g, (List.mem_filter.mp hg).1, h⟩)))
theorem drop_same {D : Pic} {z : W} : (dropD D z).pile = D.pile ∧ (dropD D z).pegs = D.pegs := by
  unfold dropD; split <;> exact ⟨rfl, rfl⟩
theorem drop_go {D : Pic} {z : W} {g : Int × Int × List W} (h : g ∈ (dropD D z).goings) : g ∈ D.goings := by
  unfold dropD at h; split at h
  · exact h
  · exact (List.mem_filter.mp h).1
theorem drop_bx {D : Pic} {z : W} {g : Int × W} (h : g ∈ (dropD D z).boxes) : g ∈ D.boxes := by
  unfold dropD at h; split at h
  · exact (List.mem_filter.mp h).1
  · exact h
theorem filt_nodup {α β : Type} {f : α → β} {p : α → Bool} {l : List α} (h : (l.map f).Nodup) : ((l.filter p).map f).Nodup := h.sublist (List.filter_sublist.map f)
theorem drop_ok {D : Pic} {z : W} (ok : Dok D) (hz : isT z = true) (n : z ∉ D.worths) : Dok (dropD D z) := by
  refine ⟨fun y hy => ok.words y (drop_worths hy), by rw [drop_same.2]; exact ok.pegN, by rw [drop_same.2]; exact ok.pegU, ?_, fun b hb => ok.boxN b (drop_bx hb), ?_, fun g hg => ok.goN g (drop_go hg), fun y hy t => ?_⟩
  · unfold dropD; split
    · exact filt_nodup ok.boxU
    · exact ok.boxU
  · unfold dropD; split
    · exact ok.goU
    · exact filt_nodup ok.goU
  · have hw := drop_worths hy
    exact (drop_things hz).mpr ⟨ok.closed y hw t, fun e => n (by rw [← e]; exact hw)⟩
theorem Drops.sub {D D' : Pic} (h : Drops D D') : (∀ y ∈ D'.things, y ∈ D.things) ∧ (∀ y ∈ D'.worths, y ∈ D.worths) := by
  induction h with
  | nil => exact ⟨fun _ h => h, fun _ h => h⟩
  | step z hz n d ih => exact ⟨fun y hy => ((drop_things (thing_isT hz)).mp (ih.1 y hy)).1, fun y hy => drop_worths (ih.2 y hy)⟩
theorem Drops.ok {D D' : Pic} (h : Drops D D') (ok : Dok D) : Dok D' := by
  induction h with
  | nil => exact ok
  | step z hz n d ih => exact ih (drop_ok ok (thing_isT hz) n)
theorem Drops.same {D D' : Pic} (h : Drops D D') : D'.pile = D.pile ∧ D'.pegs = D.pegs := by
  induction h with
  | nil => exact ⟨rfl, rfl⟩
  | step z hz n d ih => exact ⟨ih.1.trans drop_same.1, ih.2.trans drop_same.2⟩
theorem sz_drop {D : Pic} {z : W} (h : Sz D) : Sz (dropD D z) := by
  refine ⟨by rw [drop_same.1]; exact h.pile, by rw [drop_same.2]; exact h.pegs, ?_, ?_, fun g hg => h.whole g (drop_go hg)⟩
  · unfold dropD; split
    · exact Nat.le_trans (List.length_filter_le _ _) h.boxes
    · exact h.boxes
  · unfold dropD; split
    · exact h.goings
    · exact Nat.le_trans (List.length_filter_le _ _) h.goings
theorem Drops.sz {D D' : Pic} (h : Drops D D') (s : Sz D) : Sz D' := by
  induction h with
  | nil => exact s
  | step z hz n d ih => exact ih (sz_drop s)
theorem things_sz {D : Pic} (s : Sz D) : D.things.length ≤ 200000 := by
  unfold Pic.things
  rw [List.length_append, List.length_map, List.length_map]
  have := s.boxes; have := s.goings; omega
/-! ### dicts told by lists -/
section
variable {α : Type} {F : Key × V → α → Prop} {key : α → Key} {kvs : List (Key × V)} {as : List α} {k : Key}
theorem kv_get (hF : ∀ kv a, F kv a → kv.1 = key a) (h : Paired F kvs as) : (∃ a v, a ∈ as ∧ key a = k ∧ valV kvs k = some v ∧ F (k, v) a) ∨ ((∀ a ∈ as, key a ≠ k) ∧ valV kvs k = none) := by
  induction h with
  | nil => exact .inr ⟨(fun _ h => nomatch h), rfl⟩
  | @cons kv a kvs as r t ih =>
    obtain ⟨k', v⟩ := kv
    have e1 : k' = key a := hF _ _ r
    by_cases c : k' = k
    · refine .inl ⟨a, v, List.mem_cons_self, by rw [← e1, c], valV_pos c, by rw [← c]; exact r⟩
    · rw [valV_neg c]
      rcases ih with ⟨b, u, m, e, g, f⟩ | ⟨n, g⟩
      · exact .inl ⟨b, u, List.mem_cons_of_mem _ m, e, g, f⟩
      · refine .inr ⟨fun b hb => ?_, g⟩
        rcases List.mem_cons.mp hb with rfl | hb
        · rw [← e1]; exact c
        · exact n b hb
theorem kv_at (hF : ∀ kv a, F kv a → kv.1 = key a) (h : Paired F kvs as) (nd : (as.map key).Nodup) {a : α} (ha : a ∈ as) (e : key a = k) : ∃ v, valV kvs k = some v ∧ F (k, v) a := by
  rcases kv_get (k := k) hF h with ⟨b, v, m, e2, g, f⟩ | ⟨n, _⟩
  · have : a = b := by
      obtain ⟨i, hi⟩ := List.getElem?_of_mem ha
      obtain ⟨j, hj⟩ := List.getElem?_of_mem m
      have il := (List.getElem?_eq_some_iff.mp hi).1
      have jl := (List.getElem?_eq_some_iff.mp hj).1
      have : i = j := by
        refine (List.getElem_inj (xs := as.map key) (h₀ := by rw [List.length_map]; exact il) (h₁ := by rw [List.length_map]; exact jl) nd).mp ?_
        rw [List.getElem_map, List.getElem_map, (List.getElem?_eq_some_iff.mp hi).2, (List.getElem?_eq_some_iff.mp hj).2, e, e2]
      subst this
      rw [hi] at hj; exact Option.some.inj hj
    subst this
    exact ⟨v, g, f⟩
  · exact absurd e (n a ha)
theorem kv_some (hF : ∀ kv a, F kv a → kv.1 = key a) (h : Paired F kvs as) : (valV kvs k).isSome = true ↔ k ∈ as.map key := by
  rcases kv_get (k := k) hF h with ⟨b, v, m, e2, g, f⟩ | ⟨n, g⟩
  · rw [g]
    exact ⟨fun _ => List.mem_map.mpr ⟨b, m, e2⟩, fun _ => rfl⟩
  · rw [g]
    refine ⟨(fun h => nomatch h), fun m => ?_⟩
    obtain ⟨a, ha, e⟩ := List.mem_map.mp m
    exact absurd e (n a ha)
theorem kv_drop (hF : ∀ kv a, F kv a → kv.1 = key a) (h : Paired F kvs as) : Paired F (dropK kvs k) (as.filter fun a => decide (key a ≠ k)) := by
  induction h with
  | nil => exact .nil
  | @cons kv a kvs as r t ih =>
    unfold dropK at ih ⊢
    have e1 := hF _ _ r
    by_cases c : key a = k
    · have h1 : (a :: as).filter (fun a => decide (key a ≠ k)) = as.filter fun a => decide (key a ≠ k) := List.filter_cons_of_neg (by simp [c])
      have h2 : (kv :: kvs).filter (fun kv => decide (kv.1 ≠ k)) = kvs.filter fun kv => decide (kv.1 ≠ k) := List.filter_cons_of_neg (by simp [e1, c])
      rw [h1, h2]; exact ih
    · have h1 : (a :: as).filter (fun a => decide (key a ≠ k)) = a :: as.filter fun a => decide (key a ≠ k) := List.filter_cons_of_pos (by simp [c])
      have h2 : (kv :: kvs).filter (fun kv => decide (kv.1 ≠ k)) = kv :: kvs.filter fun kv => decide (kv.1 ≠ k) := List.filter_cons_of_pos (by simp [e1, c])
      rw [h1, h2]; exact .cons r ih
theorem kv_new (hF : ∀ kv a, F kv a → kv.1 = key a) (h : Paired F kvs as) {v : V} {a : α} (n : ∀ b ∈ as, key b ≠ k) (f : F (k, v) a) : Paired F (putK kvs k v) (as ++ [a]) := by
  have : putK kvs k v = kvs ++ [(k, v)] := by
    unfold putK
    rw [if_neg]
    intro c
    obtain ⟨kv, h1, h2⟩ := List.any_eq_true.mp c
    obtain ⟨i, hi⟩ := List.getElem?_of_mem h1
    obtain ⟨b, hb, r⟩ := pair_at1 h hi
    exact n b (List.mem_of_getElem? hb) ((hF _ _ r).symm.trans (of_decide_eq_true h2))
  rw [this]
  exact Wpk.paired_snoc h f
theorem kv_map (hF : ∀ kv a, F kv a → kv.1 = key a) (h : Paired F kvs as) {v : V} {g : α → α} (f : ∀ a ∈ as, key a = k → F (k, v) (g a)) (s : ∀ a ∈ as, key a ≠ k → g a = a) : Paired F (kvs.map fun kv => if kv.1 = k then (kv.1, v) else kv) (as.map g) := by
  induction h with
  | nil => exact .nil
  | @cons kv a kvs as r t ih =>
    have e1 := hF _ _ r
    refine .cons ?_ (ih (fun b hb => f b (List.mem_cons_of_mem _ hb)) fun b hb => s b (List.mem_cons_of_mem _ hb))
    show F (if kv.1 = k then (kv.1, v) else kv) (g a)
    by_cases c : key a = k
    · rw [if_pos (e1.trans c)]
      have := f a List.mem_cons_self c
      rw [e1.trans c]; exact this
    · rw [if_neg (by rw [e1]; exact c), s a List.mem_cons_self c]; exact r
theorem kv_put (hF : ∀ kv a, F kv a → kv.1 = key a) (h : Paired F kvs as) {v : V} {g : α → α} (m : ∃ a ∈ as, key a = k) (f : ∀ a ∈ as, key a = k → F (k, v) (g a)) (s : ∀ a ∈ as, key a ≠ k → g a = a) : Paired F (putK kvs k v) (as.map g) := by
  obtain ⟨a, ha, e⟩ := m
  have : (kvs.any fun kv => decide (kv.1 = k)) = true := by
    obtain ⟨i, hi⟩ := List.getElem?_of_mem ha
    obtain ⟨kv, hkv, r⟩ := pair_at h hi
    exact List.any_eq_true.mpr ⟨kv, List.mem_of_getElem? hkv, decide_eq_true ((hF _ _ r).trans e)⟩
  unfold putK
  rw [if_pos this]
  exact kv_map hF h f s
end
def kB (b : Int × W) : Key := .inl b.1
def kG (g : Gz) : Key := .inl g.1
def kN (p : Str × W) : Key := .inr p.1
theorem bv_key {H : Hp} : ∀ kv a, IsBv H kv a → kv.1 = kB a := fun _ _ h => h.1
theorem gv_key {H : Hp} : ∀ kv a, IsGv H kv a → kv.1 = kG a := fun _ _ h => h.1
theorem pv_key {H : Hp} : ∀ kv a, IsPeg H kv a → kv.1 = kN a := fun _ _ h => h.1
theorem mem_kB {n : Int} {bs : List (Int × W)} : (Sum.inl n : Key) ∈ bs.map kB ↔ n ∈ bs.map (·.1) := by
  simp only [List.mem_map, kB]
  exact ⟨fun ⟨a, h, e⟩ => ⟨a, h, Sum.inl.inj e⟩, fun ⟨a, h, e⟩ => ⟨a, h, congrArg _ e⟩⟩
theorem mem_kG {n : Int} {gs : List Gz} : (Sum.inl n : Key) ∈ gs.map kG ↔ n ∈ gs.map (·.1) := by
  simp only [List.mem_map, kG]
  exact ⟨fun ⟨a, h, e⟩ => ⟨a, h, Sum.inl.inj e⟩, fun ⟨a, h, e⟩ => ⟨a, h, congrArg _ e⟩⟩
theorem mem_kN {n : Str} {ps : List (Str × W)} : (Sum.inr n : Key) ∈ ps.map kN ↔ n ∈ ps.map (·.1) := by
  simp only [List.mem_map, kN]
  exact ⟨fun ⟨a, h, e⟩ => ⟨a, h, Sum.inr.inj e⟩, fun ⟨a, h, e⟩ => ⟨a, h, congrArg _ e⟩⟩
theorem nd_kB {bs : List (Int × W)} (h : (bs.map (·.1)).Nodup) : (bs.map kB).Nodup := by
  rw [show kB = (fun n => (Sum.inl n : Key)) ∘ (·.1) from rfl, ← List.map_map]
  exact h.map _ fun a b n e => n (Sum.inl.inj e)
theorem nd_kG {gs : List Gz} (h : (gs.map (·.1)).Nodup) : (gs.map kG).Nodup := by
  rw [show kG = (fun n => (Sum.inl n : Key)) ∘ (·.1) from rfl, ← List.map_map]
  exact h.map _ fun a b n e => n (Sum.inl.inj e)
theorem nd_kN {ps : List (Str × W)} (h : (ps.map (·.1)).Nodup) : (ps.map kN).Nodup := by
  rw [show kN = (fun n => (Sum.inr n : Key)) ∘ (·.1) from rfl, ← List.map_map]
  exact h.map _ fun a b n e => n (Sum.inr.inj e)
theorem gq_nums {D : Pic} {gs : List Gz} (h : D.goings = gs.map goP) : D.goings.map (·.1) = gs.map (·.1) := by
  rw [h, List.map_map]; rfl
/-- what the class of a house must have -/
structure HCl (K : PySem.W.Frag) (hc : Addr) : Prop where
  cl : Cls K hc
  n1 : NoAttr K hc ("piles" : Str)
  n2 : NoAttr K hc ("tally" : Str)
  n3 : NoAttr K hc ("peg_worths" : Str)
  n4 : NoAttr K hc ("box_worths" : Str)
  n5 : NoAttr K hc ("kept_goings" : Str)
/-! ### what the methods promise -/
section
variable {K : PySem.W.Frag}
def spHas (I : PilI K) (hc oT : Addr) : Sp := fun vs H Q _ => ∃ (S : List Addr) (B : HA) (D : Pic) (gs : List Gz) (L G Z : List W) (v : V) (z : W), vs = [.ref B.h, v] ∧ HouR I hc oT S H B D gs L G Z ∧ IsW H v z ∧ isT z = true ∧ Q (.bl (decide (z ∈ D.things))) H
def spCheckW (I : PilI K) (hc oT : Addr) : Sp := fun vs H Q _ => ∃ (S : List Addr) (B : HA) (D : Pic) (gs : List Gz) (L G Z : List W) (v : V) (z : W), vs = [.ref B.h, v] ∧ HouR I hc oT S H B D gs L G Z ∧ IsW H v z ∧ Wk z ∧ (isT z = true → z ∈ D.things) ∧ ∀ H', Same H H' → Q .non H'
def spCheckP : Sp := fun vs H Q _ => ∃ k n : Int, vs = [.int k, .int n] ∧ 0 ≤ k ∧ k < n ∧ Q .non H
def spLeast : Sp := fun vs H Q _ => ∃ (d : Addr) (kvs : List (Key × V)) (ns : List Int), vs = [.ref d] ∧ H d = some (.dK kvs) ∧ kvs.map (·.1) = ns.map Sum.inl ∧ ns.length ≤ 200000 ∧ ∀ n : Nat, (n : Int) ∉ ns → (∀ m : Nat, m < n → (m : Int) ∈ ns) → Q (.int n) H
def spHHeight (I : PilI K) (hc oT : Addr) : Sp := fun vs H Q _ => ∃ (S : List Addr) (h : Addr) (D : Pic), vs = [.ref h] ∧ House I hc oT S H h D ∧ Q (.int D.pile.length) H
def spHPile (I : PilI K) (hc oT : Addr) : Sp := fun vs H Q _ => ∃ (S : List Addr) (h : Addr) (D : Pic), vs = [.ref h] ∧ House I hc oT S H h D ∧ Sz D ∧ ∀ l ys H', H l = none → H' l = some (.lst ys) → Pile H' ys D.pile → Same H H' → Q (.ref l) H'
def spHLook (I : PilI K) (hc oT : Addr) : Sp := fun vs H Q _ => ∃ (S : List Addr) (h : Addr) (D : Pic) (k : Nat), vs = [.ref h, .int k] ∧ House I hc oT S H h D ∧ Sz D ∧ k < D.pile.length ∧ ∀ v z, D.pile[D.pile.length - 1 - k]? = some z → IsW H v z → Q v H
def spHPut (I : PilI K) (hc oT : Addr) : Sp := fun vs H Q _ => ∃ (S : List Addr) (h : Addr) (D : Pic) (v : V) (z : W), vs = [.ref h, v] ∧ House I hc oT S H h D ∧ Sz D ∧ IsW H v z ∧ Wk z ∧ (isT z = true → z ∈ D.things) ∧ ∀ S' H', House I hc oT S' H' h { D with pile := D.pile ++ [z] } → Mv S H S' H' → Q .non H'
def spHLift (I : PilI K) (hc oT : Addr) : Sp := fun vs H Q _ => ∃ (S : List Addr) (h : Addr) (D : Pic) (k : Nat), vs = [.ref h, .int k] ∧ House I hc oT S H h D ∧ Sz D ∧ k < D.pile.length ∧ ∀ S' H' z, D.pile[D.pile.length - 1 - k]? = some z → House I hc oT S' H' h { D with pile := D.pile.eraseIdx (D.pile.length - 1 - k) ++ [z] } → Mv S H S' H' → Q .non H'
def spDrop (I : PilI K) (hc oT : Addr) : Sp := fun vs H Q _ => ∃ (S : List Addr) (B : HA) (D : Pic) (gs : List Gz) (L G Z : List W) (v : V) (z : W), vs = [.ref B.h, v] ∧ HouR I hc oT S H B D gs L G Z ∧ Dok D ∧ Sz D ∧ IsW H v z ∧ z ∈ D.things ∧
  ∀ S' H' gs' L' G', HouR I hc oT S' H' B (dropD D z) gs' L' G' Z → Lo (L ++ rest D) (L' ++ rest (dropD D z)) G G' → Ks (All B S) H H' → Grow (All B S) (All B S') H → Q .non H'
def spSettle (I : PilI K) (hc oT : Addr) : Sp := fun vs H Q _ => ∃ (S : List Addr) (B : HA) (D : Pic) (gs : List Gz) (L G Z : List W), vs = [.ref B.h] ∧ HouR I hc oT S H B D gs L G Z ∧ Dok D ∧ Sz D ∧ (∀ z ∈ D.things, z ∉ D.worths → z ∈ G) ∧
  ∀ D' S' H', Settled D D' → House I hc oT S' H' B.h D' → Mv (All B S) H S' H' → Q .non H'
def spHTake (I : PilI K) (hc oT : Addr) : Sp := fun vs H Q _ => ∃ (S : List Addr) (h : Addr) (D : Pic) (k : Nat), vs = [.ref h, .int k] ∧ House I hc oT S H h D ∧ Sz D ∧ k < D.pile.length ∧
  ∀ D' S' H' v z, D.pile[D.pile.length - 1 - k]? = some z → IsW H' v z → Settled { D with pile := D.pile.eraseIdx (D.pile.length - 1 - k) } D' → House I hc oT S' H' h D' → Mv S H S' H' → Q v H'
end
theorem int_sub : ∀ {F L : List Int}, F.Nodup → (∀ z ∈ F, z ∈ L) → F.length ≤ L.length
  | [], _, _, _ => Nat.zero_le _
  | a :: F, L, nd, h => by
    have nd2 := List.nodup_cons.mp nd
    have ha := h a List.mem_cons_self
    have ih := int_sub (F := F) (L := L.erase a) nd2.2 fun z hz => by
      refine (List.mem_erase_of_ne fun e => ?_).mpr (h z (List.mem_cons_of_mem _ hz))
      exact nd2.1 (e ▸ hz)
    have := List.length_erase_of_mem ha
    have := List.length_pos_of_mem ha
    rw [List.length_cons]
    omega
/-! ### more of the data -/
theorem uniq_fst {α : Type} {bs : List (Int × α)} {a b : Int × α} (nd : (bs.map (·.1)).Nodup) (ha : a ∈ bs) (hb : b ∈ bs) (e : a.1 = b.1) : a = b := by
  obtain ⟨i, hi⟩ := List.getElem?_of_mem ha
  obtain ⟨j, hj⟩ := List.getElem?_of_mem hb
  have il := (List.getElem?_eq_some_iff.mp hi).1
  have jl := (List.getElem?_eq_some_iff.mp hj).1
  have : i = j := by
    refine (List.getElem_inj (xs := bs.map (·.1)) (h₀ := by rw [List.length_map]; exact il) (h₁ := by rw [List.length_map]; exact jl) nd).mp ?_
    rw [List.getElem_map, List.getElem_map, (List.getElem?_eq_some_iff.mp hi).2, (List.getElem?_eq_some_iff.mp hj).2, e]
  subst this
  rw [hi] at hj; exact Option.some.inj hj
theorem split_fst {α : Type} : ∀ {bs : List (Int × α)} {b : Int × α}, (bs.map (·.1)).Nodup → b ∈ bs → ∃ l r, bs = l ++ b :: r ∧ (bs.filter fun x => decide (x.1 ≠ b.1)) = l ++ r
  | a :: bs, b, nd, h => by
    obtain ⟨n1, n2⟩ := List.nodup_cons.mp nd
    rcases List.mem_cons.mp h with e | h
    · subst e
      refine ⟨[], bs, rfl, ?_⟩
      have h1 : (b :: bs).filter (fun x => decide (x.1 ≠ b.1)) = bs.filter fun x => decide (x.1 ≠ b.1) := List.filter_cons_of_neg (by simp)
      rw [h1, List.nil_append, List.filter_eq_self]
      intro x hx
      exact decide_eq_true fun e => n1 (by show b.1 ∈ _; rw [← e]; exact List.mem_map_of_mem hx)
    · obtain ⟨l, r, e1, e2⟩ := split_fst n2 h
      refine ⟨a :: l, r, by rw [e1]; rfl, ?_⟩
      have h1 : (a :: bs).filter (fun x => decide (x.1 ≠ b.1)) = a :: bs.filter fun x => decide (x.1 ≠ b.1) := List.filter_cons_of_pos (by
        refine decide_eq_true fun e => n1 ?_
        show a.1 ∈ bs.map (·.1)
        rw [e]; exact List.mem_map_of_mem h)
      rw [h1, e2]; rfl
theorem pile_worths {D : Pic} {ws : List W} {y : W} : y ∈ ({ D with pile := ws } : Pic).worths ↔ y ∈ ws ∨ (∃ p ∈ D.pegs, p.2 = y) ∨ (∃ b ∈ D.boxes, b.2 = y) ∨ ∃ g ∈ D.goings, y ∈ g.2.2 := Wow.memW
theorem dok_pile {D : Pic} {ws : List W} (ok : Dok D) (h : ∀ y ∈ ws, Wk y ∧ (isT y = true → y ∈ D.things)) : Dok { D with pile := ws } := by
  have m : ∀ y, y ∈ ({ D with pile := ws } : Pic).worths → y ∈ ws ∨ y ∈ D.worths := fun y hy => by
    rcases pile_worths.mp hy with h | h
    · exact .inl h
    · exact .inr (Wow.memW.mpr (.inr h))
  refine ⟨fun y hy => ?_, ok.pegN, ok.pegU, ok.boxU, ok.boxN, ok.goU, ok.goN, fun y hy t => ?_⟩
  · rcases m y hy with q | q
    · exact (h y q).1
    · exact ok.words y q
  · rcases m y hy with q | q
    · exact (h y q).2 t
    · exact ok.closed y q t
theorem held_pile {D : Pic} {ws : List W} (hl : Held D) (h : ∀ y ∈ D.pile, isT y = true → y ∈ ws) : Held { D with pile := ws } := fun z hz => by
  rcases Wow.memW.mp (hl z hz) with q | q
  · exact pile_worths.mpr (.inl (h z q (thing_isT hz)))
  · exact pile_worths.mpr (.inr q)
theorem pile_ok {D : Pic} (ok : Dok D) {y : W} (h : y ∈ D.pile) : Wk y ∧ (isT y = true → y ∈ D.things) := ⟨ok.words y (mem_worths_pile h), fun t => ok.closed y (mem_worths_pile h) t⟩
section
variable {K : PySem.W.Frag} {I : PilI K} {hc oT : Addr} {S : List Addr} {H : Hp} {B : HA} {D : Pic} {gs : List Gz} {L G Z : List W}
/-- behind a settling all is told by the picture -/
theorem HouR.house (h : HouR I hc oT S H B D gs L [] Z) (ok : Dok D) (hl : Held D) (sz : Sz D) : House I hc oT (All B S) H B.h D := by
  refine ⟨B, S, gs, L, [], rfl, rfl, ⟨⟨h.x.hh, h.x.pegs, h.x.boxes, h.x.goings, ⟨h.x.pt.at_, ?_, h.x.pt.n1, h.x.pt.n2, h.x.pt.n3⟩, h.x.nd, h.x.sp⟩, h.geq⟩, ok, hl⟩
  obtain ⟨a, b, c, d, e, f, g, i, j⟩ := h.x.pt.tl
  exact ⟨a, b, c, d, e, Nat.le_trans (things_sz sz) (by decide), fun y hy t => ok.closed y ((h.mem t).mp hy) t, (fun _ h => nomatch h), fun _ h => nomatch h⟩
/-- the piles' object -/
theorem HouX.pins {run : List W} {ks : List Wpi.Kept} {R : List W} (h : HouX I hc oT S H B run D gs ks L R G Z) : ∃ dp fs, H B.p = some (.ins I.o dp fs) ∧ ∀ m ∈ meths, fs.lookup m = none := by
  obtain ⟨dp, fs, a, _, b⟩ := I.ins h.pt.at_
  exact ⟨dp, fs, a, b⟩
end
theorem things_nodup {D : Pic} (ok : Dok D) : D.things.Nodup := by
  unfold Pic.things
  refine List.nodup_append.mpr ⟨?_, ?_, ?_⟩
  · rw [show (D.boxes.map fun b => ((sBox, b.1) : W)) = (D.boxes.map (·.1)).map fun n => ((sBox, n) : W) by rw [List.map_map]; rfl]
    exact ok.boxU.map _ fun a b n e => n (congrArg (·.2) e)
  · rw [show (D.goings.map fun b => ((sGo, b.1) : W)) = (D.goings.map (·.1)).map fun n => ((sGo, n) : W) by rw [List.map_map]; rfl]
    exact ok.goU.map _ fun a b n e => n (congrArg (·.2) e)
  · rintro x hx y hy rfl
    obtain ⟨b, _, rfl⟩ := List.mem_map.mp hx
    obtain ⟨g, _, e⟩ := List.mem_map.mp hy
    exact box_go (congrArg (·.1) e).symm
theorem dropD_things_nodup {D : Pic} {z : W} (ok : Dok D) : (dropD D z).things.Nodup := by
  unfold Pic.things dropD
  split
  · refine (things_nodup ok).sublist ?_
    unfold Pic.things
    exact (List.filter_sublist.map _).append (List.Sublist.refl _)
  · refine (things_nodup ok).sublist ?_
    unfold Pic.things
    exact (List.Sublist.refl _).append (List.filter_sublist.map _)
theorem drop_less {D : Pic} {z : W} (ok : Dok D) (hz : z ∈ D.things) : (dropD D z).things.length < D.things.length := by
  have h1 : (dropD D z).things.length ≤ (D.things.erase z).length := sub_len (dropD_things_nodup ok) fun y hy => by
    obtain ⟨a, b⟩ := (drop_things (thing_isT hz)).mp hy
    exact (List.mem_erase_of_ne b).mpr a
  have h2 := List.length_erase_of_mem hz
  have h3 := List.length_pos_of_mem hz
  omega
section
variable {K : PySem.W.Frag} {I : PilI K} {hc oT : Addr} {S : List Addr} {H H' : Hp} {B : HA} {D : Pic} {run : List W} {gs : List Gz} {ks : List Wpi.Kept} {L R R' G G' Z : List W}
theorem HouX.dj (h : HouX I hc oT S H B run D gs ks L R G Z) : ∀ a ∈ [B.h, B.pd, B.bd, B.gd], ∀ b ∈ [B.A.ta, B.A.pc, B.A.ls], a ≠ b := by
  have nd2 : ([B.h, B.pd, B.bd, B.gd] ++ [B.A.ta, B.A.pc, B.A.ls]).Nodup := h.nd
  exact (List.nodup_append.mp nd2).2.2
/-- the tally counts otherwise -/
theorem HouX.tal (h : HouX I hc oT S H B run D gs ks L R G Z) (t : Tl oT H' B.A (L ++ R') G' Z) (k : Ks [B.A.pc, B.A.ls] H H') : HouX I hc oT S H' B run D gs ks L R' G' Z := by
  have dj := h.dj
  obtain ⟨x1, ⟨kp, x2, x3⟩, ⟨kb', x4, x5⟩, ⟨kg, x6, x7⟩, x8, x9, x10⟩ := h
  have ndd : ∀ a ∈ [B.h, B.pd, B.bd, B.gd], a ∉ [B.A.pc, B.A.ls] := fun a ha m => dj a ha a (List.mem_cons_of_mem _ m) rfl
  have npc : ∀ a ∈ S, a ∉ [B.A.pc, B.A.ls] := fun a ha m => by
    simp only [List.mem_cons, List.not_mem_nil, or_false] at m
    rcases m with m | m
    · exact x8.n2 (by rw [← m]; exact ha)
    · exact x8.n3 (by rw [← m]; exact ha)
  exact ⟨k.keep _ _ (ndd _ (by simp)) x1, ⟨kp, k.keep _ _ (ndd _ (by simp)) x2, Paired.mapP x3 fun _ _ q => q.keep k.tk⟩, ⟨kb', k.keep _ _ (ndd _ (by simp)) x4, Paired.mapP x5 fun _ _ q => q.keep k.tk⟩, ⟨kg, k.keep _ _ (ndd _ (by simp)) x6, Paired.mapP x7 fun _ _ q => q.keep k.tk⟩, ⟨I.keep x8.at_ k npc, t, x8.n1, x8.n2, x8.n3⟩, x9, x10⟩
/-- the boxes' dict is written to -/
theorem HouX.setB {kvs : List (Key × V)} {bs : List (Int × W)} (h : HouX I hc oT S H B run D gs ks L R G Z) (p : Paired (IsBv H) kvs bs) : HouX I hc oT S (upd H B.bd (.dK kvs)) B run { D with boxes := bs } gs ks L R G Z ∧ Ks [B.bd] H (upd H B.bd (.dK kvs)) := by
  have dj := h.dj
  obtain ⟨x1, ⟨kp, x2, x3⟩, ⟨kb', x4, x5⟩, ⟨kg, x6, x7⟩, x8, x9, x10⟩ := h
  have k : Ks [B.bd] H (upd H B.bd (.dK kvs)) := ⟨fun a o n e => by
    rw [upd_ne (fun q : a = B.bd => n (by rw [q]; simp))]; exact e, Tk.dK x4⟩
  have nd := x9
  simp only [List.nodup_cons, List.mem_cons, not_or] at nd
  obtain ⟨⟨a1, a2, a3, _⟩, ⟨b1, b2, _⟩, ⟨e1, _⟩, _⟩ := nd
  have sb := x10 B.bd (by simp)
  refine ⟨⟨(upd_ne a2).trans x1, ⟨kp, (upd_ne b1).trans x2, Paired.mapP x3 fun _ _ q => q.keep k.tk⟩, ⟨_, upd_same, Paired.mapP p fun _ _ q => q.keep k.tk⟩, ⟨kg, (upd_ne (Ne.symm e1)).trans x6, Paired.mapP x7 fun _ _ q => q.keep k.tk⟩, x8.keep k (fun a ha m => sb (by rw [← List.mem_singleton.mp m]; exact ha)) ?_ ?_ ?_, x9, x10⟩, k⟩
  all_goals
    rw [List.mem_singleton]
    exact (dj B.bd (by simp) _ (by simp)).symm
/-- the pegs' dict is written to -/
theorem HouX.setP {kvs : List (Key × V)} {ps : List (Str × W)} (h : HouX I hc oT S H B run D gs ks L R G Z) (p : Paired (IsPeg H) kvs ps) : HouX I hc oT S (upd H B.pd (.dK kvs)) B run { D with pegs := ps } gs ks L R G Z ∧ Ks [B.pd] H (upd H B.pd (.dK kvs)) := by
  have dj := h.dj
  obtain ⟨x1, ⟨kp, x2, x3⟩, ⟨kb', x4, x5⟩, ⟨kg, x6, x7⟩, x8, x9, x10⟩ := h
  have k : Ks [B.pd] H (upd H B.pd (.dK kvs)) := ⟨fun a o n e => by
    rw [upd_ne (fun q : a = B.pd => n (by rw [q]; simp))]; exact e, Tk.dK x2⟩
  have nd := x9
  simp only [List.nodup_cons, List.mem_cons, not_or] at nd
  obtain ⟨⟨a1, a2, a3, _⟩, ⟨b1, b2, _⟩, ⟨e1, _⟩, _⟩ := nd
  have sb := x10 B.pd (by simp)
  refine ⟨⟨(upd_ne a1).trans x1, ⟨_, upd_same, Paired.mapP p fun _ _ q => q.keep k.tk⟩, ⟨_, (upd_ne (Ne.symm b1)).trans x4, Paired.mapP x5 fun _ _ q => q.keep k.tk⟩, ⟨kg, (upd_ne (Ne.symm b2)).trans x6, Paired.mapP x7 fun _ _ q => q.keep k.tk⟩, x8.keep k (fun a ha m => sb (by rw [← List.mem_singleton.mp m]; exact ha)) ?_ ?_ ?_, x9, x10⟩, k⟩
  all_goals
    rw [List.mem_singleton]
    exact (dj B.pd (by simp) _ (by simp)).symm
/-- the goings' dict is written to -/
theorem HouX.setG {kvs : List (Key × V)} {gs' : List Gz} (h : HouX I hc oT S H B run D gs ks L R G Z) (p : Paired (IsGv H) kvs gs') : HouX I hc oT S (upd H B.gd (.dK kvs)) B run D gs' ks L R G Z ∧ Ks [B.gd] H (upd H B.gd (.dK kvs)) := by
  have dj := h.dj
  obtain ⟨x1, ⟨kp, x2, x3⟩, ⟨kb', x4, x5⟩, ⟨kg, x6, x7⟩, x8, x9, x10⟩ := h
  have k : Ks [B.gd] H (upd H B.gd (.dK kvs)) := ⟨fun a o n e => by
    rw [upd_ne (fun q : a = B.gd => n (by rw [q]; simp))]; exact e, Tk.dK x6⟩
  have nd := x9
  simp only [List.nodup_cons, List.mem_cons, not_or] at nd
  obtain ⟨⟨a1, a2, a3, _⟩, ⟨b1, b2, _⟩, ⟨e1, _⟩, _⟩ := nd
  have sb := x10 B.gd (by simp)
  refine ⟨⟨(upd_ne a3).trans x1, ⟨_, (upd_ne b2).trans x2, Paired.mapP x3 fun _ _ q => q.keep k.tk⟩, ⟨_, (upd_ne e1).trans x4, Paired.mapP x5 fun _ _ q => q.keep k.tk⟩, ⟨_, upd_same, Paired.mapP p fun _ _ q => q.keep k.tk⟩, x8.keep k (fun a ha m => sb (by rw [← List.mem_singleton.mp m]; exact ha)) ?_ ?_ ?_, x9, x10⟩, k⟩
  all_goals
    rw [List.mem_singleton]
    exact (dj B.gd (by simp) _ (by simp)).symm
end
def putPeg (ps : List (Str × W)) (nm : Str) (z : W) : List (Str × W) := if nm ∈ ps.map (·.1) then ps.map fun p => if p.1 = nm then (nm, z) else p else ps ++ [(nm, z)]
def putBox (bs : List (Int × W)) (b : Int) (z : W) : List (Int × W) := bs.map fun x => if x.1 = b then (b, z) else x
def Least (ns : List Int) (n : Nat) : Prop := (n : Int) ∉ ns ∧ ∀ m : Nat, m < n → (m : Int) ∈ ns
section
variable {K : PySem.W.Frag}
def spCheckN (I : PilI K) (hc oT : Addr) (f : Pic → List Int) : Sp := fun vs H Q _ => ∃ (S : List Addr) (B : HA) (D : Pic) (gs : List Gz) (L G Z : List W) (n : Int), vs = [.ref B.h, .int n] ∧ HouR I hc oT S H B D gs L G Z ∧ n ∈ f D ∧ Q .non H
def spCheckPeg (I : PilI K) (hc oT : Addr) : Sp := fun vs H Q _ => ∃ (S : List Addr) (B : HA) (D : Pic) (gs : List Gz) (L G Z : List W) (n : Str), vs = [.ref B.h, .str n] ∧ HouR I hc oT S H B D gs L G Z ∧ Wu.Nm n ∧ 1 ≤ n.length ∧ n ∈ D.pegs.map (·.1) ∧ ∀ H', Same H H' → Q .non H'
def spHKeep (I : PilI K) (hc oT : Addr) : Sp := fun vs H Q _ => ∃ (S : List Addr) (h : Addr) (D : Pic) (pl : Int), vs = [.ref h, .int pl] ∧ House I hc oT S H h D ∧ Sz D ∧ 0 ≤ pl ∧ ∀ S' H' n, Least (D.goings.map (·.1)) n → House I hc oT S' H' h { D with pile := D.pile ++ [(sGo, (n : Int))], goings := D.goings ++ [((n : Int), pl, D.pile)] } → Mv S H S' H' → Q (.int n) H'
def spHGo (I : PilI K) (hc oT : Addr) : Sp := fun vs H Q _ => ∃ (S : List Addr) (h : Addr) (D : Pic) (g : Int × Int × List W) (m : Nat), vs = [.ref h, .int g.1, .int m] ∧ House I hc oT S H h D ∧ Sz D ∧ g ∈ D.goings ∧ m ≤ D.pile.length ∧ g.2.2.length + m ≤ 300000 ∧ ∀ D' S' H', Settled { D with pile := g.2.2 ++ D.pile.drop (D.pile.length - m) } D' → House I hc oT S' H' h D' → Mv S H S' H' → Q (.int g.2.1) H'
def spHBox (I : PilI K) (hc oT : Addr) : Sp := fun vs H Q _ => ∃ (S : List Addr) (h : Addr) (D : Pic) (ps : List W) (z : W), vs = [.ref h] ∧ House I hc oT S H h D ∧ Sz D ∧ D.pile = ps ++ [z] ∧ ∀ S' H' n, Least (D.boxes.map (·.1)) n → House I hc oT S' H' h { D with pile := ps ++ [(sBox, (n : Int))], boxes := D.boxes ++ [((n : Int), z)] } → Mv S H S' H' → Q (.int n) H'
def spHHeld (I : PilI K) (hc oT : Addr) : Sp := fun vs H Q _ => ∃ (S : List Addr) (h : Addr) (D : Pic) (b : Int × W), vs = [.ref h, .int b.1] ∧ House I hc oT S H h D ∧ b ∈ D.boxes ∧ ∀ v, IsW H v b.2 → Q v H
def spHFill (I : PilI K) (hc oT : Addr) : Sp := fun vs H Q _ => ∃ (S : List Addr) (h : Addr) (D : Pic) (b : Int) (v : V) (z : W), vs = [.ref h, .int b, v] ∧ House I hc oT S H h D ∧ Sz D ∧ b ∈ D.boxes.map (·.1) ∧ IsW H v z ∧ Wk z ∧ (isT z = true → z ∈ D.things) ∧ ∀ D' S' H', Settled { D with boxes := putBox D.boxes b z } D' → House I hc oT S' H' h D' → Mv S H S' H' → Q .non H'
def spHPeg (I : PilI K) (hc oT : Addr) : Sp := fun vs H Q _ => ∃ (S : List Addr) (h : Addr) (D : Pic) (nm : Str) (v : V) (z : W), vs = [.ref h, .str nm, v] ∧ House I hc oT S H h D ∧ Sz D ∧ D.pegs.length < 100000 ∧ Wu.Nm nm ∧ 1 ≤ nm.length ∧ IsW H v z ∧ Wk z ∧ (isT z = true → z ∈ D.things) ∧ ∀ D' S' H', Settled { D with pegs := putPeg D.pegs nm z } D' → House I hc oT S' H' h D' → Mv S H S' H' → Q .non H'
def spHPegged (I : PilI K) (hc oT : Addr) : Sp := fun vs H Q _ => ∃ (S : List Addr) (h : Addr) (D : Pic) (p : Str × W), vs = [.ref h, .str p.1] ∧ House I hc oT S H h D ∧ p ∈ D.pegs ∧ ∀ v H', Same H H' → IsW H' v p.2 → Q v H'
def spHUnpeg (I : PilI K) (hc oT : Addr) : Sp := fun vs H Q _ => ∃ (S : List Addr) (h : Addr) (D : Pic) (nm : Str), vs = [.ref h, .str nm] ∧ House I hc oT S H h D ∧ Sz D ∧ nm ∈ D.pegs.map (·.1) ∧ ∀ D' S' H', Settled { D with pegs := D.pegs.filter fun p => decide (p.1 ≠ nm) } D' → House I hc oT S' H' h D' → Mv S H S' H' → Q .non H'
def spHNums (I : PilI K) (hc oT : Addr) (f : Pic → List Int) : Sp := fun vs H Q _ => ∃ (S : List Addr) (h : Addr) (D : Pic), vs = [.ref h] ∧ House I hc oT S H h D ∧ (f D).length < 64 ∧ ∀ (l : Addr) (ns : List Int), ns.Perm (f D) → ns.Pairwise (· ≤ ·) → H l = none → Q (.ref l) (upd H l (.lst (ns.map V.int)))
def spHPegs (I : PilI K) (hc oT : Addr) : Sp := fun vs H Q _ => ∃ (S : List Addr) (h : Addr) (D : Pic), vs = [.ref h] ∧ House I hc oT S H h D ∧ D.pegs.length < 64 ∧ ∀ (l : Addr) (ns : List Str), ns.Perm (D.pegs.map (·.1)) → sortedS ns = true → H l = none → Q (.ref l) (upd H l (.lst (ns.map V.str)))
def spHPileOf (I : PilI K) (hc oT : Addr) : Sp := fun vs H Q _ => ∃ (S : List Addr) (h : Addr) (D : Pic) (g : Int × Int × List W), vs = [.ref h, .int g.1] ∧ House I hc oT S H h D ∧ Sz D ∧ g ∈ D.goings ∧ ∀ l ys H', H l = none → H' l = some (.lst ys) → Pile H' ys g.2.2 → Same H H' → Q (.ref l) H'
def spHPlaceOf (I : PilI K) (hc oT : Addr) : Sp := fun vs H Q _ => ∃ (S : List Addr) (h : Addr) (D : Pic) (g : Int × Int × List W), vs = [.ref h, .int g.1] ∧ House I hc oT S H h D ∧ g ∈ D.goings ∧ Q (.int g.2.1) H
end
theorem kv_keys {α : Type} {F : Key × V → α → Prop} {key : α → Key} {kvs : List (Key × V)} {as : List α} (hF : ∀ kv a, F kv a → kv.1 = key a) (h : Paired F kvs as) : kvs.map (·.1) = as.map key := by
  induction h with
  | nil => rfl
  | cons r t ih => rw [List.map_cons, List.map_cons, ih, hF _ _ r]
theorem split_peg : ∀ {bs : List (Str × W)} {b : Str × W}, (bs.map (·.1)).Nodup → b ∈ bs → ∃ l r, bs = l ++ b :: r ∧ (bs.filter fun x => decide (x.1 ≠ b.1)) = l ++ r
  | a :: bs, b, nd, h => by
    obtain ⟨n1, n2⟩ := List.nodup_cons.mp nd
    rcases List.mem_cons.mp h with e | h
    · subst e
      refine ⟨[], bs, rfl, ?_⟩
      have h1 : (b :: bs).filter (fun x => decide (x.1 ≠ b.1)) = bs.filter fun x => decide (x.1 ≠ b.1) := List.filter_cons_of_neg (by simp)
      rw [h1, List.nil_append, List.filter_eq_self]
      intro x hx
      exact decide_eq_true fun e => n1 (by show b.1 ∈ _; rw [← e]; exact List.mem_map_of_mem hx)
    · obtain ⟨l, r, e1, e2⟩ := split_peg n2 h
      refine ⟨a :: l, r, by rw [e1]; rfl, ?_⟩
      have h1 : (a :: bs).filter (fun x => decide (x.1 ≠ b.1)) = a :: bs.filter fun x => decide (x.1 ≠ b.1) := List.filter_cons_of_pos (by
        refine decide_eq_true fun e => n1 ?_
        show a.1 ∈ bs.map (·.1)
        rw [e]; exact List.mem_map_of_mem h)
      rw [h1, e2]; rfl
theorem putPeg_split {ps : List (Str × W)} {nm : Str} {z : W} (nd : (ps.map (·.1)).Nodup) : ∃ l r, (ps.filter fun x => decide (x.1 ≠ nm)) = l ++ r ∧ putPeg ps nm z = l ++ (nm, z) :: r := by
  unfold putPeg
  by_cases c : nm ∈ ps.map (·.1)
  · rw [if_pos c]
    obtain ⟨p, hp, rfl⟩ := List.mem_map.mp c
    obtain ⟨l, r, e1, e2⟩ := split_peg nd hp
    refine ⟨l, r, e2, ?_⟩
    rw [e1, List.map_append, List.map_cons, if_pos rfl]
    have hx : ∀ x ∈ l ++ r, x.1 ≠ p.1 := fun x hx => by
      rw [← e2] at hx
      exact of_decide_eq_true (List.mem_filter.mp hx).2
    congr 1
    · exact (List.map_congr_left fun x hx' => if_neg (hx x (List.mem_append_left _ hx'))).trans (List.map_id _)
    · congr 1
      exact (List.map_congr_left fun x hx' => if_neg (hx x (List.mem_append_right _ hx'))).trans (List.map_id _)
  · rw [if_neg c]
    refine ⟨ps, [], ?_, rfl⟩
    rw [List.append_nil, List.filter_eq_self]
    intro x hx
    exact decide_eq_true fun e => c (List.mem_map.mpr ⟨x, hx, e⟩)
theorem putPeg_count {ps : List (Str × W)} {nm : Str} {z y : W} (nd : (ps.map (·.1)).Nodup) : cn ((putPeg ps nm z).map (·.2)) y = cn ((ps.filter fun x => decide (x.1 ≠ nm)).map (·.2)) y + cn [z] y := by
  obtain ⟨l, r, e1, e2⟩ := putPeg_split (z := z) nd
  rw [e1, e2]
  simp only [List.map_append, List.map_cons, cn_app, cn_cons, cn_nil]; omega
theorem putPeg_len {ps : List (Str × W)} {nm : Str} {z : W} : (putPeg ps nm z).length ≤ ps.length + 1 := by
  unfold putPeg
  split
  · rw [List.length_map]; omega
  · rw [List.length_append]; exact Nat.le_refl _
theorem putPeg_mem {ps : List (Str × W)} {nm : Str} {z : W} {p : Str × W} (h : p ∈ putPeg ps nm z) : p ∈ ps ∨ p = (nm, z) := by
  unfold putPeg at h
  split at h
  · obtain ⟨x, hx, e⟩ := List.mem_map.mp h
    split at e
    · exact .inr e.symm
    · rw [← e]; exact .inl hx
  · rcases List.mem_append.mp h with h | h
    · exact .inl h
    · exact .inr (List.mem_singleton.mp h)
theorem putPeg_nd {ps : List (Str × W)} {nm : Str} {z : W} (nd : (ps.map (·.1)).Nodup) : ((putPeg ps nm z).map (·.1)).Nodup := by
  unfold putPeg
  split
  · rw [List.map_map]
    have : ((·.1) ∘ fun p : Str × W => if p.1 = nm then (nm, z) else p) = fun p => p.1 := by
      funext p
      show (if p.1 = nm then (nm, z) else p).1 = p.1
      split
      · rename_i e; exact e.symm
      · rfl
    rw [this]; exact nd
  · rename_i c
    rw [List.map_append, List.nodup_append]
    refine ⟨nd, by simp, fun x hx y hy e => c ?_⟩
    rw [List.map_cons, List.map_nil, List.mem_singleton] at hy
    have e2 : x = nm := e.trans hy
    rw [← e2]; exact hx
theorem dok_peg {D : Pic} {nm : Str} {z : W} (ok : Dok D) (h1 : Wu.Nm nm) (h2 : 1 ≤ nm.length) (wz : Wk z) (tz : isT z = true → z ∈ D.things) : Dok { D with pegs := putPeg D.pegs nm z } := by
  have m : ∀ y, y ∈ ({ D with pegs := putPeg D.pegs nm z } : Pic).worths → y ∈ D.worths ∨ y = z := fun y hy => by
    rcases Wow.memW.mp hy with h | ⟨p, hp, h⟩ | h
    · exact .inl (Wow.memW.mpr (.inl h))
    · rcases putPeg_mem hp with q | q
      · exact .inl (Wow.memW.mpr (.inr (.inl ⟨p, q, h⟩)))
      · rw [q] at h; exact .inr h.symm
    · exact .inl (Wow.memW.mpr (.inr (.inr h)))
  refine ⟨fun y hy => ?_, fun p hp => ?_, putPeg_nd ok.pegU, ok.boxU, ok.boxN, ok.goU, ok.goN, fun y hy t => ?_⟩
  · rcases m y hy with h | h
    · exact ok.words y h
    · rw [h]; exact wz
  · rcases putPeg_mem hp with q | q
    · exact ok.pegN p q
    · rw [q]; exact ⟨h1, h2⟩
  · rcases m y hy with h | h
    · exact ok.closed y h t
    · rw [h] at t ⊢; exact tz t
end Whs

namespace K28
open PySem PySem.Spec PyProof.Rows L2 Wp Wq Wr Wpm Wth Wta Wpi Whs
local macro_rules | `(tactic| walk_at "ne") => `(tactic| first
  | assumption
  | (refine Ne.symm ?_; assumption)
  | exact ne_of_none (by assumption) (by assumption)
  | exact (ne_of_none (by assumption) (by assumption)).symm
  | exact ne_of (by assumption) (by assumption) (by intro q; cases q))
local macro_rules | `(tactic| walk_at "hp") => `(tactic| first
  | assumption
  | exact upd_same
  | (refine (upd_ne ?_).trans ?_; (walk_at "ne"); (walk_at "hp")))
local macro_rules | `(tactic| walk_at "hq") => `(tactic| first
  | assumption
  | exact upd_same
  | (refine same_new (by assumption) _ _ ?_; (walk_at "hq"))
  | (refine Wp.look (by assumption) ?_; (walk_at "hq")))
local macro_rules | `(tactic| walk_at "sm") => `(tactic| first
  | assumption
  | exact fun _ _ h => h
  | exact same_new (by assumption)
  | (refine Same.trans ?_ (same_new (by assumption)); (walk_at "sm"))
  | (refine Same.trans ?_ (by assumption); (walk_at "sm")))
local macro_rules | `(tactic| walk_at "kp") => `(tactic| first
  | assumption
  | exact Kp.refl _ _
  | (refine Kp.trans ?_ (Kp.new (by assumption)); (walk_at "kp"))
  | (refine Kp.trans ?_ (Same.kp (by assumption)); (walk_at "kp"))
  | (refine Wp.kpT ?_ (by assumption); (walk_at "kp"))
  | exact Same.kp (by walk_at "sm"))
local macro_rules | `(tactic| walk_at "sq") => `(tactic| first
  | assumption
  | exact SqL.of (by walk_at "hp")
  | exact SqT.of (by walk_at "hp"))
local macro_rules | `(tactic| walk_at "kind") => `(tactic| first
  | assumption
  | exact Kind.int _
  | exact Kind.str _
  | exact Kind.bl _
  | exact Kind.non
  | exact Kind.tup (by walk_at "hp")
  | exact Kind.lst (by walk_at "hp")
  | exact Kind.dK (by walk_at "hp"))
local macro_rules | `(tactic| walk_at "w1") => `(tactic| first
  | (with_reducible refine Wp.seq ?_)
  | (with_reducible refine Wp.nx_mk ?_)
  | (with_reducible refine Wp.rt_mk ?_)
  | (with_reducible refine Wp.bk_mk ?_)
  | (with_reducible refine Wp.ct_mk ?_)
  | (with_reducible refine Wp.next ?_)
  | (with_reducible refine Wp.asg ?_)
  | ((with_reducible refine' Wp.gname ?e ?_); (case e => (try dsimp only [List.set, L2.wipe, List.map_cons, List.map_nil]); (try exact rfl)))
  | (with_reducible refine Wp.gsub ?_)
  | (with_reducible refine Wp.ret ?_)
  | (with_reducible refine Wp.retN ?_)
  | (with_reducible refine Wp.drop ?_)
  | (with_reducible refine Wp.dput ?_)
  | (with_reducible refine Wp.ifs ?_)
  | ((with_reducible refine' Wp.var ?h ?_); (case h => exact rfl))
  | (with_reducible refine Wp.con ?_)
  | (with_reducible refine Wp.op ?_)
  | (with_reducible refine Wp.un ?_)
  | (with_reducible refine Wp.cb ?_)
  | (with_reducible refine Wp.anil ?_)
  | (with_reducible refine Wp.acons ?_)
  | (with_reducible refine Wp.call ?_)
  | (with_reducible refine Wp.test ?_)
  | (with_reducible refine Wp.tb_ ?_)
  | (with_reducible refine Wp.and_ ?_)
  | (with_reducible refine Wp.or_ ?_)
  | (with_reducible refine Wp.not_ ?_)
  | (with_reducible refine Wp.andV ?_)
  | (with_reducible refine Wp.orV ?_)
  | (with_reducible refine Wp.notV ?_)
  | (with_reducible refine Wp.rI0_ ?_)
  | (with_reducible refine Wp.rU_ ?_)
  | ((with_reducible refine Wp.rEq_ ?k ?_); (case k => exact rfl))
  | ((with_reducible refine Wp.rNe_ ?k ?_); (case k => exact rfl))
  | (with_reducible refine Wp.gcons ?_)
  | (with_reducible refine Wp.gnil ?_)
  | ((with_reducible refine' Wp.gtup ?h ?e ?_); (case h => walk_at "sq"); (case e => exact rfl))
  | (with_reducible refine Wp.sl ?_)
  | (with_reducible refine Wp.part ?_)
  | (with_reducible refine Wp.nopart ?_)
  | (with_reducible refine Wp.ifE ?_)
  | (with_reducible refine Wp.bm0 ?_)
  | (with_reducible refine Wp.bm ?_)
  | (with_reducible refine Wp.lcR1 ?_)
  | (with_reducible refine Wp.lcR2 ?_)
  | (with_reducible refine Wp.lcL ?_)
  | (with_reducible refine Wp.chain ?_)
  | (with_reducible refine Wp.lc2V ?_)
  | (with_reducible refine Wp.piL ?_)
  | (with_reducible refine Wp.yes ?_)
  | (with_reducible refine Wp.dinI ?_)
  | (with_reducible refine Wp.dninI ?_)
  | (with_reducible refine Wp.dget ?_)
  | ((with_reducible refine' ⟨?k, ?_⟩); (case k => show L2.wipe _ _ = L2.wipe _ _; exact rfl))
  | ((with_reducible refine' ⟨?k, ?_⟩); (case k => show V.non = V.non; exact rfl))
  | (with_reducible refine Wp.forR1 ?_)
  | (with_reducible refine Wp.forR2 ?_)
  | (with_reducible refine Wp.forL ?_)
  | (with_reducible refine Wp.forT ?_)
  | ((with_reducible refine' ⟨?k, ?_⟩); (case k => exact Wp.tyvL (by walk_at "hp")))
  | ((with_reducible refine' Wp.rev_ ?k ?_); (case k => walk_at "hp"))
  | ((with_reducible refine' Wp.isi ?k ?h ?_); (case k => walk_at "kind"); (case h => decide))
  | ((with_reducible refine' Wp.typ ?k ?_); (case k => walk_at "kind"))
  | (with_reducible refine Wp.slS ?k ?_; (case k => assumption))
  | (with_reducible refine iteT ?_)
  | (with_reducible refine iteF ?_)
  | (with_reducible refine Wtc.dcL ?_)
  | (with_reducible refine Wst.step ?_)
  | (with_reducible refine Wtc.dget2 ?_)
  | (with_reducible refine Wtc.lcZ ?_)
  | (with_reducible refine Wrw.loop_setLc ?_)
  | (with_reducible refine Wz.par ?_)
  | (with_reducible refine Wz.forN ?_)
  | (with_reducible refine Wz.dcL ?_)
  | (with_reducible refine Wz.forZ ?_)
  | (with_reducible refine Wz.lcR3 ?_)
  | (with_reducible refine Wc.revL ?_)
  | (with_reducible refine Wd.nm ?_)
  | (with_reducible refine Wd.nget ?_)
  | ((with_reducible refine Wd.tnew ?_); intro p hp)
  | (with_reducible refine Wd.pikn ?_)
  | (with_reducible refine Wt.m1 ?_)
  | (with_reducible refine Wt.m0 ?_)
  | ((with_reducible refine' ⟨?k, ?_⟩); (case k => show ∃ a, _ = V.str a; exact ⟨_, rfl⟩))
  | (with_reducible refine Wt.js_cons ?_)
  | (with_reducible refine Wt.fmt_ ?_)
  | (with_reducible refine Wp.pcons ?_)
  | (with_reducible refine Wp.pnil ?_)
  | ((with_reducible refine' Wp.iteBnT ?h ?_); (case h => show isB _ _ = false; decide))
  | ((with_reducible refine' Wp.iteBnF ?h ?_); (case h => show isB _ _ = true; decide))
  | ((with_reducible refine' Wp.iteBt ?h ?_); (case h => show isB _ _ = true; decide))
  | ((with_reducible refine' Wp.iteBf ?h ?_); (case h => show isB _ _ = false; decide))
  | (with_reducible refine Wp.iteT' ?_)
  | (with_reducible refine Wp.iteF' ?_)
  | (with_reducible refine Wp.rNT_ ?_)
  | ((with_reducible refine Wp.lst ?_))
  | ((with_reducible refine Wp.tup ?_))
  | ((with_reducible refine' Wp.ixL ?h ?e ?_); (case h => walk_at "sq"); (case e => exact rfl))
  | ((with_reducible refine' Wp.ixT ?h ?e ?_); (case h => walk_at "sq"); (case e => exact rfl))
  | ((with_reducible refine' Wp.setL ?h ?e ?_); (case h => walk_at "hp"); (case e => exact rfl))
  | ((with_reducible refine Wp.rI_ ?k ?_); (case k => first | (show (0:Int) < _; omega) | (show CPow _ _; refine' ⟨?_, ?_, ?_⟩ <;> omega) | (show CDiv _ _; refine' ⟨?_, ?_⟩ <;> omega) | (show CMul _ _; refine' Or.inl ⟨?_, ?_⟩ <;> omega) | (show CMul _ _; refine' Or.inr ⟨?_, ?_⟩ <;> first | omega | decide) | (show CDivW _ _; refine' wide_div (b := 240) ?_ ?_ ?_ ?_ <;> first | omega | decide)))
  | ((with_reducible refine ⟨?k, ?_⟩); (case k => first | exact Nat.zero_le _ | (exact Nat.le_of_ble_eq_true rfl)); intro p hp)
  | ((with_reducible refine' ⟨_, _, rfl, .inl ?k, ?_⟩); (case k => walk_at "sq"))
  | ((with_reducible refine' ⟨_, _, rfl, .inr ?k, ?_⟩); (case k => walk_at "sq"))
  | (with_reducible refine ⟨_, rfl, ?_⟩)
  | (with_reducible refine ⟨_, _, rfl, rfl, ?_⟩)
  | (with_reducible refine ⟨_, _, rfl, ?_⟩))
local macro_rules | `(tactic| walk_at "wp") => `(tactic| repeat (walk_at "w1"))

local macro_rules | `(tactic| walk_at "pf") => `(tactic| first
  | (with_reducible exact Wcl.pf0)
  | (with_reducible exact Wcl.pf1)
  | ((with_reducible refine' Wcl.pf2 ?n ?h); (case n => decide +kernel); (case h => walk_at "pf")))
local macro_rules | `(tactic| walk_at "w1") => `(tactic| first
  | (with_reducible refine Wcl.fld_ ?_)
  | (with_reducible refine Wcl.sfld_ ?_)
  | (with_reducible refine Wcl.meth_ ?_)
  | (with_reducible refine Wcl.make_ ?_)
  | (with_reducible refine Wcl.dcZ ?_)
  | (with_reducible refine Wcl.ddelT_ ?_)
  | (with_reducible refine Wcl.daug_ ?_)
  | (with_reducible refine Wcl.dpop1_ ?_)
  | ((with_reducible refine Wcl.dnewT_ ?_); intro p hp)
  | ((with_reducible refine Wcl.dnewK_ ?_); intro p hp)
  | ((with_reducible refine' Wcl.fldR ?h ?c ?n ?e ?_); (case h => walk_at "hp"); (case c => assumption); (case n => assumption); (case e => exact rfl))
  | ((with_reducible refine' Wcl.sfldR ?h ?c ?n ?l ?e ?_); (case h => walk_at "hp"); (case c => assumption); (case n => assumption); (case l => exact Nat.le_of_ble_eq_true rfl); (case e => walk_at "pf"))
  | ((with_reducible refine' Wcl.methR ?h ?l ?_); (case h => walk_at "hp"); (case l => exact rfl)))

section
variable {P : Program} {w : World} {K : PySem.W.Frag} {mg : Str → Option Value} {base : Heap}
/-! ### what is asked of a thing -/
def verd : V → V → Bool
  | .str s, .int n => decide (s = "num") || ((decide (s = "at") || decide (s = "box") || decide (s = "go")) && decide (0 ≤ n))
  | _, _ => false
def Th (H : Hp) (v : V) (r : Bool) : Prop := (∃ T, Kind H v T ∧ T ≠ "tuple" ∧ r = false) ∨ (∃ p xs, v = .ref p ∧ H p = some (.tup xs) ∧
  ((xs.length ≠ 2 ∧ r = false) ∨ ∃ x y T1 T2, xs = [x, y] ∧ Kind H x T1 ∧ Kind H y T2 ∧ r = verd x y))
theorem Kind.isStr {H : Hp} {x : V} {T : String} (k : Kind H x T) (e : T = "str") : ∃ s, x = .str s := by
  cases k <;> first | exact ⟨_, rfl⟩ | (exfalso; revert e; decide)
theorem Kind.isInt {H : Hp} {x : V} {T : String} (k : Kind H x T) (e : T = "int") : ∃ s, x = .int s := by
  cases k <;> first | exact ⟨_, rfl⟩ | (exfalso; revert e; decide)
theorem verd_noStr {H : Hp} {x y : V} {T : String} (k : Kind H x T) (e : T ≠ "str") : verd x y = false := by
  cases k <;> first | rfl | exact absurd rfl e
theorem verd_noInt {H : Hp} {x y : V} {T : String} (k : Kind H y T) (e : T ≠ "int") : verd x y = false := by
  cases k <;> first | (cases x <;> rfl) | exact absurd rfl e
def spIsNumber : Sp := fun vs H Q _ => ∃ (v : V) (T : String), vs = [v] ∧ Kind H v T ∧ Q (.bl (decide (T = "int"))) H
theorem ok_is_number (T : Txt P w K mg) : FnOk P w K mg base CX0 1 T.f_is_number T.fd_is_number ["thing"] spIsNumber := by
  refine T.F_is_number.ok sc_is_number (fun vs H Q E h => ?_) (fun cdv A outer s H vs Q E hr h => ?_)
  · obtain ⟨v, ty, rfl, _⟩ := h
    rfl
  · obtain ⟨v, ty, rfl, hk, q⟩ := h
    refine ⟨_, (pss_one (ps_ret (pe_cmpR op_isTyB (pe_callTy call_type1 (by rfl) T.n_type (by decide +kernel) (pa_cons (pv 0) pa_nil)) (pe_bltn (v := .ty "int") (by rfl) T.n_int (by decide +kernel) rfl) (nomark _)))), ?_⟩
    rw [show L2.start ["thing"] [v] = [some v] from rfl]
    try dsimp only [cxOf]
    walk_at "wp"
    exact q
def spIsWorth : Sp := fun vs H Q _ => ∃ (v : V) (r : Bool), vs = [v] ∧ Th H v r ∧ Q (.bl r) H
theorem ok_is_worth (T : Txt P w K mg) : FnOk P w K mg base CX0 2 T.f_is_worth T.fd_is_worth ["thing"] spIsWorth := by
  have G_is_number := ok_is_number (base := base) T
  refine T.F_is_worth.ok sc_is_worth (fun vs H Q E h => ?_) (fun cdv A outer s H vs Q E hr h => ?_)
  · obtain ⟨v, r, rfl, _⟩ := h
    rfl
  · obtain ⟨v, r, rfl, ht, q⟩ := h
    refine ⟨_, (pss_cons (ps_if (PW.pt (pw_or (pt_cmpR op_notTyB (pe_callTy call_type1 (by rfl) T.n_type (by decide +kernel) (pa_cons (pv 0) pa_nil)) (pe_bltn (v := .ty "tuple") (by rfl) T.n_tuple (by decide +kernel) rfl) (nomark _)) (pw_or1 (pt_cmpR op_ne (pe_callB call_len_seq (by rfl) T.n_len (by decide +kernel) (pa_cons (pv 0) pa_nil)) pe_int (nomark _))))) (pss_one (ps_ret pe_bl)) pss_nil)
      (pss_cons (ps_asg (pv 0) (pg_tup (by rfl) (pgs_cons (pg_name (i := 1) sc_is_worth.nd rfl (.inl rfl)) (pgs_cons (pg_name (i := 2) sc_is_worth.nd rfl (.inl rfl)) pgs_nil))))
      (pss_cons (ps_if (PW.pt (pw_or (pt_cmpR op_notTyB (pe_callTy call_type1 (by rfl) T.n_type (by decide +kernel) (pa_cons (pv 1) pa_nil)) (pe_bltn (v := .ty "str") (by rfl) T.n_str (by decide +kernel) rfl) (nomark _)) (pw_or (pt_cmpR (op_notIn_kd T.k_SIGNS) (pv 1) (pe_glob (v := .ref T.d_SIGNS) (by rfl) T.c_SIGNS rfl) (by rfl)) (pw_or1 (pt_not (pt_val (pe_call G_is_number (hr.mono (by decide)) (by rfl) T.g_is_number T.F_is_number.kp T.b_is_number .nil pass0 (pa_cons (pv 2) pa_nil)))))))) (pss_one (ps_ret pe_bl)) pss_nil)
      (pss_one (ps_ret (pe_or (pe_cmpR op_eq (pv 1) pe_str (nomark _)) (pe_one (pe_cmpR op_ge (pv 2) pe_int (nomark _))))))))), ?_⟩
    rw [show L2.start ["thing", "word", "number"] [v] = [some v, none, none] from rfl]
    try dsimp only [cxOf]
    rcases ht with ⟨ty, hk, hn, rfl⟩ | ⟨p, xs, rfl, hp, ht⟩
    · walk_at "wp"
      refine iteN (fun _ => ?_) (fun e => absurd e hn)
      walk_at "wp"
      exact q
    · have hk : Kind H (.ref p) "tuple" := .tup hp
      walk_at "wp"
      refine iteN (fun e => absurd rfl e) (fun _ => ?_)
      walk_at "wp"
      rcases ht with ⟨hl, rfl⟩ | ⟨x, y, T1, T2, rfl, h1, h2, rfl⟩
      · refine iteN (fun _ => ?_) (fun e => ?_)
        · walk_at "wp"
          exact q
        · exact absurd (by have := V.int.inj e; omega) hl
      · refine iteN (fun e => absurd rfl e) (fun _ => ?_)
        walk_at "wp"
        refine iteN (fun e => ?_) (fun e => ?_)
        · walk_at "wp"
          rw [verd_noStr h1 e] at q
          exact q
        · obtain ⟨z, rfl⟩ := Kind.isStr h1 e
          walk_at "wp"
          obtain ⟨r, hr1, hr2⟩ := T.i_SIGNS z
          refine ⟨z, r, rfl, rfl, hr1, ?_⟩
          walk_at "wp"
          cases hs : r.isSome with
          | false =>
            walk_at "wp"
            have hv : verd (.str z) y = false := by
              rw [hs] at hr2
              cases y <;> try rfl
              show (decide (z = "num") || ((decide (z = "at") || decide (z = "box") || decide (z = "go")) && decide (0 ≤ _))) = false
              cases d1 : decide (z = "num") <;> cases d2 : decide (z = "at") <;> cases d3 : decide (z = "box") <;> cases d4 : decide (z = "go") <;> simp [d1, d2, d3, d4] at hr2 ⊢
            rw [hv] at q
            exact q
          | true =>
            walk_at "wp"
            refine ⟨y, T2, rfl, h2, ?_⟩
            walk_at "wp"
            refine iteN (fun e2 => ?_) (fun e2 => ?_)
            · walk_at "wp"
              rw [verd_noInt h2 e2] at q
              exact q
            · obtain ⟨n, rfl⟩ := Kind.isInt h2 e2
              walk_at "wp"
              have hv : verd (.str z) (.int n) = (decide (z = "num") || decide (0 ≤ n)) := by
                rw [hs] at hr2
                show (decide (z = "num") || ((decide (z = "at") || decide (z = "box") || decide (z = "go")) && decide (0 ≤ n))) = _
                cases d1 : decide (z = "num") <;> cases d2 : decide (z = "at") <;> cases d3 : decide (z = "box") <;> cases d4 : decide (z = "go") <;> simp [d1, d2, d3, d4] at hr2 ⊢
              rw [hv] at q
              refine ite_ (fun e3 => ?_) (fun e3 => ?_)
              · walk_at "wp"
                have e4 : z = "num" := V.str.inj e3
                rw [decide_eq_true e4] at q
                exact q
              · walk_at "wp"
                have e4 : ¬ z = "num" := fun h => e3 (by rw [h])
                rw [decide_eq_false e4] at q
                exact q

def spIsCount : Sp := fun vs H Q _ => ∃ n : Int, vs = [.int n] ∧ 0 ≤ n ∧ Q (.bl true) H
theorem ok_is_count (T : Txt P w K mg) : FnOk P w K mg base CX0 2 T.f_is_count T.fd_is_count ["thing"] spIsCount := by
  have G_is_number := ok_is_number (base := base) T
  refine T.F_is_count.ok sc_is_count (fun vs H Q E h => ?_) (fun cdv A outer s H vs Q E hr h => ?_)
  · obtain ⟨n, rfl, _⟩ := h
    rfl
  · obtain ⟨n, rfl, n0, q⟩ := h
    refine ⟨_, (pss_one (ps_ret (pe_and (pe_call G_is_number (hr.mono (by decide)) (by rfl) T.g_is_number T.F_is_number.kp T.b_is_number .nil pass0 (pa_cons (pv 0) pa_nil)) (pe_one (pe_cmpR op_ge (pv 0) pe_int (nomark _)))))), ?_⟩
    rw [show L2.start ["thing"] [.int n] = [some (.int n)] from rfl]
    try dsimp only [cxOf]
    walk_at "wp"
    refine ⟨_, _, rfl, .int n, ?_⟩
    walk_at "wp"
    refine ite_ (fun _ => ?_) (fun c => absurd rfl c)
    walk_at "wp"
    rw [decide_eq_true n0]
    exact q

/-! ### the deeds of every house -/
theorem th_of {H : Hp} {v : V} {z : W} (hv : IsW H v z) (wz : Wk z) : Th H v true := by
  obtain ⟨t, rfl, ht⟩ := hv
  refine .inr ⟨t, _, rfl, ht, .inr ⟨_, _, "str", "int", rfl, .str _, .int _, ?_⟩⟩
  show true = (decide (z.1 = "num") || ((decide (z.1 = "at") || decide (z.1 = "box") || decide (z.1 = "go")) && decide (0 ≤ z.2)))
  rcases wz with ⟨h | h, h0⟩ | ⟨h, h0⟩ | h
  · rw [decide_eq_true (show z.1 = "box" from h), decide_eq_true h0]; simp
  · rw [decide_eq_true (show z.1 = "go" from h), decide_eq_true h0]; simp
  · rw [decide_eq_true (show z.1 = "at" from h), decide_eq_true h0]; simp
  · rw [decide_eq_true (show z.1 = "num" from h)]; simp
def AllM : List Str := ["begin", "lay_piles", "has", "check_worth", "check_box", "check_going", "check_peg", "drop", "settle", "put", "take", "lift", "look", "height", "pile", "keep", "go", "box", "held", "fill", "peg", "pegged", "unpeg", "pegs", "goings", "boxes", "pile_of", "place_of", "worths_in", "found_things", "sweep", "picture"]
theorem ok_check_place (T : Txt P w K mg) : FnOk P w K mg base CX0 4 T.f_check_place T.fd_check_place ["k", "many"] spCheckP := by
  have G_is_count := ok_is_count (base := base) T
  refine T.F_check_place.ok sc_check_place (fun vs H Q E h => ?_) (fun cdv Ar outer s H vs Q E hr h => ?_)
  · obtain ⟨k, n, rfl, _⟩ := h
    rfl
  · obtain ⟨k, n, rfl, h0, h1, q⟩ := h
    refine ⟨_, (pss_one (ps_if (PW.pt (pw_or (pt_not (pt_val (pe_call G_is_count (hr.mono (by decide)) (by rfl) T.g_is_count T.F_is_count.kp T.b_is_count .nil pass0 (pa_cons (pv 0) pa_nil)))) (pw_or1 (pt_cmpR op_ge (pv 0) (pv 1) (nomark _))))) (pss_one ps_never) pss_nil)), ?_⟩
    rw [show L2.start ["k", "many"] [.int k, .int n] = [some (.int k), some (.int n)] from rfl]
    try dsimp only [cxOf]
    walk_at "wp"
    refine ⟨k, rfl, h0, ?_⟩
    walk_at "wp"
    refine ite_ (fun e => absurd e (by omega)) (fun _ => ?_)
    walk_at "wp"
    exact q
theorem ok_least_free (T : Txt P w K mg) : FnOk P w K mg base CX0 1 T.f_least_free T.fd_least_free ["table"] spLeast := by
  refine T.F_least_free.ok sc_least_free (fun vs H Q E h => ?_) (fun cdv Ar outer s H vs Q E hr h => ?_)
  · obtain ⟨d, kvs, ns, rfl, _⟩ := h
    rfl
  · obtain ⟨d, kvs, ns, rfl, hd, hk, hl, q⟩ := h
    refine ⟨_, (pss_cons (ps_set (i := 1) sc_least_free.nd rfl (.inl rfl) pe_int)
      (pss_cons (ps_while PassesOwn.never (pt_cmp (pc_din (hu_of hr) (pv 1) (pv 0))) (pss_one (ps_aug (i := 1) sc_least_free.nd rfl (.inl rfl) pe_int ip_add)))
      (pss_one (ps_ret (pv 1))))), ?_⟩
    rw [show L2.start ["table", "number"] [.ref d] = [some (.ref d), none] from rfl]
    try dsimp only [cxOf]
    have mem : ∀ n : Nat, (valV kvs (Sum.inl (n : Int))).isSome = true ↔ (n : Int) ∈ ns := fun n => by
      have e : (valV kvs (Sum.inl (n : Int))).isSome = true ↔ (Sum.inl (n : Int) : L2.Key) ∈ kvs.map (·.1) := by
        constructor
        · intro h
          cases c : valV kvs (Sum.inl (n : Int)) with
          | none => rw [c] at h; cases h
          | some v =>
            unfold valV at c
            obtain ⟨kv, hkv, _⟩ := Option.map_eq_some_iff.mp c
            have h1 := List.find?_some hkv
            exact List.mem_map.mpr ⟨kv, List.mem_of_find?_eq_some hkv, of_decide_eq_true h1⟩
        · intro m
          cases c : valV kvs (Sum.inl (n : Int)) with
          | none => exact absurd m (Wpm.valV_none c)
          | some v => rfl
      rw [e, hk]
      exact ⟨fun h => by obtain ⟨a, ha, e⟩ := List.mem_map.mp h; rw [← Sum.inl.inj e]; exact ha, fun h => List.mem_map.mpr ⟨_, h, rfl⟩⟩
    walk_at "wp"
    refine Wp.whileW (fun m σ' H' => ∃ n : Nat, σ' = [some (.ref d), some (.int n)] ∧ H' = H ∧ (∀ j : Nat, j < n → (j : Int) ∈ ns) ∧ m + n = ns.length + 1) (ns.length + 1) ⟨0, rfl, rfl, fun j h => by omega, rfl⟩ ?_
    rintro m σ' H' ⟨n, rfl, rfl, hj, em⟩
    walk_at "wp"
    refine ⟨d, _, rfl, DGet.k (k := Sum.inl (n : Int)) hd, ?_⟩
    refine ⟨_, rfl, ?_⟩
    have room : ∀ n : Nat, (∀ j : Nat, j < n → (j : Int) ∈ ns) → n ≤ ns.length := fun n hj => by
      have nd : ((List.range n).map fun j => ((j : Nat) : Int)).Nodup := List.Pairwise.map _ (fun a b (h : a ≠ b) e => h (by omega)) List.nodup_range
      have := Whs.int_sub nd (L := ns) fun z hz => by
        obtain ⟨j, hj2, rfl⟩ := List.mem_map.mp hz
        exact hj j (List.mem_range.mp hj2)
      simpa using this
    cases c : (valV kvs (Sum.inl (n : Int))).isSome with
    | true =>
      rw [if_pos rfl]
      have hn := (mem n).mp c
      have hj2 : ∀ j : Nat, j < n + 1 → (j : Int) ∈ ns := fun j h => by
        by_cases e : j = n
        · rw [e]; exact hn
        · exact hj j (by omega)
      have := room (n + 1) hj2
      refine ⟨fun σ'' H'' => σ'' = [some (.ref d), some (.int ((n + 1 : Nat) : Int))] ∧ H'' = H', fun σ'' H'' ⟨e2, e3⟩ => ⟨ns.length - n, by omega, n + 1, e2, e3, hj2, by omega⟩, ?_⟩
      walk_at "wp"
      refine Wm.augN rfl ?_
      walk_at "wp"
      refine Wr.ipi ?_
      walk_at "wp"
      exact ⟨rfl, rfl⟩
    | false =>
      rw [if_neg (by decide)]
      walk_at "wp"
      exact q n (fun h => by rw [(mem n).mpr h] at c; cases c) hj
section
variable {I : PilI K} {hc : Addr}
theorem ok_Copies_has (T : Txt P w K mg) (C : HCl K hc) : FnOk P w K mg base CX0 1 T.f_Copies_has T.fd_Copies_has ["self", "thing"] (spHas I hc T.o_Tally) := by
  refine T.F_Copies_has.ok sc_Copies_has (fun vs H Q E h => ?_) (fun cdv Ar outer s H vs Q E hr h => ?_)
  · obtain ⟨S, B, D, gs, L, G, Z, v, z, rfl, _⟩ := h
    rfl
  · obtain ⟨S, B, D, gs, L, G, Z, v, z, rfl, X, ⟨t, rfl, ht⟩, tz, q⟩ := h
    refine ⟨_, (pss_cons (ps_asg (pv 1) (pg_tup (by rfl) (pgs_cons (pg_name (i := 2) sc_Copies_has.nd rfl (.inl rfl)) (pgs_cons (pg_name (i := 3) sc_Copies_has.nd rfl (.inl rfl)) pgs_nil))))
      (pss_cons (ps_if (pt_cmpR op_eq (pv 2) pe_str (nomark _)) (pss_one (ps_ret (pe_cmp (pc_din (hu_of hr) (pv 3) (pe_fld (pv 0) rfl))))) pss_nil)
      (pss_one (ps_ret (pe_cmp (pc_din (hu_of hr) (pv 3) (pe_fld (pv 0) rfl))))))), ?_⟩
    rw [show L2.start ["self", "thing", "word", "number"] [.ref B.h, .ref t] = [some (.ref B.h), some (.ref t), none, none] from rfl]
    try dsimp only [cxOf]
    have c0 := C.cl
    have c4 := C.n4
    have c5 := C.n5
    have hh := X.x.hh
    obtain ⟨kvb, b1, b2⟩ := X.x.boxes
    obtain ⟨kvg, g1, g2⟩ := X.x.goings
    walk_at "wp"
    refine ite_ (fun e => ?_) (fun e => ?_)
    · walk_at "wp"
      refine ⟨B.bd, _, rfl, DGet.k (k := Sum.inl z.2) b1, ?_⟩
      rw [show (valV kvb (Sum.inl z.2)).isSome = decide (z ∈ D.things) by
        rw [Bool.eq_iff_iff, kv_some bv_key b2, mem_kB, decide_eq_true_eq, Wow.memT]
        have ez : z.1 = sBox := by injection e
        constructor
        · intro m
          obtain ⟨b, hb, eb⟩ := List.mem_map.mp m
          exact .inl ⟨b, hb, Prod.ext ez.symm eb⟩
        · rintro (⟨b, hb, eb⟩ | ⟨g, hg, eg⟩)
          · exact List.mem_map.mpr ⟨b, hb, congrArg (·.2) eb⟩
          · exact absurd (ez.symm.trans (congrArg (·.1) eg).symm) box_go]
      exact q
    · walk_at "wp"
      refine ⟨B.gd, _, rfl, DGet.k (k := Sum.inl z.2) g1, ?_⟩
      rw [show (valV kvg (Sum.inl z.2)).isSome = decide (z ∈ D.things) by
        rw [Bool.eq_iff_iff, kv_some gv_key g2, mem_kG, decide_eq_true_eq, Wow.memT, ← gq_nums X.geq]
        have nb : z.1 ≠ sBox := fun q => e (congrArg V.str q)
        have ez : z.1 = sGo := (isT_iff.mp tz).resolve_left nb
        constructor
        · intro m
          obtain ⟨b, hb, eb⟩ := List.mem_map.mp m
          exact .inr ⟨b, hb, Prod.ext ez.symm eb⟩
        · rintro (⟨b, hb, eb⟩ | ⟨g, hg, eg⟩)
          · exact absurd (congrArg (·.1) eb).symm nb
          · exact List.mem_map.mpr ⟨g, hg, congrArg (·.2) eg⟩]
      exact q
theorem ok_Copies_check_worth (T : Txt P w K mg) (C : HCl K hc) {n0 : Nat} (N_has : MOk P w K mg base hc "has" ["self", "thing"] 2 (spHas I hc T.o_Tally)) : FnOk P w K mg base CX0 3 T.f_Copies_check_worth T.fd_Copies_check_worth ["self", "worth"] (spCheckW I hc T.o_Tally) := by
  have G_is_worth := ok_is_worth (base := base) T
  have G_is_thing := ok_is_thing (base := base) T
  refine T.F_Copies_check_worth.ok sc_Copies_check_worth (fun vs H Q E h => ?_) (fun cdv Ar outer s H vs Q E hr h => ?_)
  · obtain ⟨S, B, D, gs, L, G, Z, v, z, rfl, _⟩ := h
    rfl
  · obtain ⟨S, B, D, gs, L, G, Z, v, z, rfl, X, hv, wz, tz, q⟩ := h
    refine ⟨_, (pss_cons (ps_if (pt_not (pt_val (pe_call G_is_worth (hr.mono (by decide)) (by rfl) T.g_is_worth T.F_is_worth.kp T.b_is_worth .nil pass0 (pa_cons (pv 1) pa_nil)))) (pss_one ps_never) pss_nil)
      (pss_one (ps_if (PW.pt (pw_and (pt_val (pe_call G_is_thing (hr.mono (by decide)) (by rfl) T.g_is_thing T.F_is_thing.kp T.b_is_thing .nil pass0 (pa_cons (pv 1) pa_nil))) (pw_and1 (pt_not (pt_val (pe_meth (pv 0) C.cl N_has.me N_has.g (hr.mono (by decide)) N_has.b .nil pass0 (pa_cons (pv 1) pa_nil))))))) (pss_one ps_never) pss_nil))), ?_⟩
    rw [show L2.start ["self", "worth"] [.ref B.h, v] = [some (.ref B.h), some v] from rfl]
    try dsimp only [cxOf]
    have c0 := C.cl
    walk_at "wp"
    refine ⟨v, true, rfl, th_of hv wz, ?_⟩
    walk_at "wp"
    refine ⟨v, z, rfl, hv, fun H1 s1 => ?_⟩
    have X1 := X.same s1
    have hh := X1.x.hh
    walk_at "wp"
    cases c : isT z with
    | false =>
      walk_at "wp"
      exact q _ s1
    | true =>
      walk_at "wp"
      refine ⟨S, B, D, gs, L, G, Z, v, z, rfl, X1, hv.keep (Same.tk s1), c, ?_⟩
      rw [decide_eq_true (tz c)]
      walk_at "wp"
      exact q _ s1
end

end
end K28

namespace K28
open PySem PySem.Spec PyProof.Rows L2 Wp Wq Wr Wpm Wth Wta Wpi Whs
local macro_rules | `(tactic| walk_at "ne") => `(tactic| first
  | assumption
  | (refine Ne.symm ?_; assumption)
  | exact ne_of_none (by assumption) (by assumption)
  | exact (ne_of_none (by assumption) (by assumption)).symm
  | exact ne_of (by assumption) (by assumption) (by intro q; cases q))
local macro_rules | `(tactic| walk_at "hp") => `(tactic| first
  | assumption
  | exact upd_same
  | (refine (upd_ne ?_).trans ?_; (walk_at "ne"); (walk_at "hp")))
local macro_rules | `(tactic| walk_at "hq") => `(tactic| first
  | assumption
  | exact upd_same
  | (refine same_new (by assumption) _ _ ?_; (walk_at "hq"))
  | (refine Wp.look (by assumption) ?_; (walk_at "hq")))
local macro_rules | `(tactic| walk_at "sm") => `(tactic| first
  | assumption
  | exact fun _ _ h => h
  | exact same_new (by assumption)
  | (refine Same.trans ?_ (same_new (by assumption)); (walk_at "sm"))
  | (refine Same.trans ?_ (by assumption); (walk_at "sm")))
local macro_rules | `(tactic| walk_at "kp") => `(tactic| first
  | assumption
  | exact Kp.refl _ _
  | (refine Kp.trans ?_ (Kp.new (by assumption)); (walk_at "kp"))
  | (refine Kp.trans ?_ (Same.kp (by assumption)); (walk_at "kp"))
  | (refine Wp.kpT ?_ (by assumption); (walk_at "kp"))
  | exact Same.kp (by walk_at "sm"))
local macro_rules | `(tactic| walk_at "sq") => `(tactic| first
  | assumption
  | exact SqL.of (by walk_at "hp")
  | exact SqT.of (by walk_at "hp"))
local macro_rules | `(tactic| walk_at "kind") => `(tactic| first
  | assumption
  | exact Kind.int _
  | exact Kind.str _
  | exact Kind.bl _
  | exact Kind.non
  | exact Kind.tup (by walk_at "hp")
  | exact Kind.lst (by walk_at "hp")
  | exact Kind.dK (by walk_at "hp"))
local macro_rules | `(tactic| walk_at "w1") => `(tactic| first
  | (with_reducible refine Wp.seq ?_)
  | (with_reducible refine Wp.nx_mk ?_)
  | (with_reducible refine Wp.rt_mk ?_)
  | (with_reducible refine Wp.bk_mk ?_)
  | (with_reducible refine Wp.ct_mk ?_)
  | (with_reducible refine Wp.next ?_)
  | (with_reducible refine Wp.asg ?_)
  | ((with_reducible refine' Wp.gname ?e ?_); (case e => (try dsimp only [List.set, L2.wipe, List.map_cons, List.map_nil]); (try exact rfl)))
  | (with_reducible refine Wp.gsub ?_)
  | (with_reducible refine Wp.ret ?_)
  | (with_reducible refine Wp.retN ?_)
  | (with_reducible refine Wp.drop ?_)
  | (with_reducible refine Wp.dput ?_)
  | (with_reducible refine Wp.ifs ?_)
  | ((with_reducible refine' Wp.var ?h ?_); (case h => exact rfl))
  | (with_reducible refine Wp.con ?_)
  | (with_reducible refine Wp.op ?_)
  | (with_reducible refine Wp.un ?_)
  | (with_reducible refine Wp.cb ?_)
  | (with_reducible refine Wp.anil ?_)
  | (with_reducible refine Wp.acons ?_)
  | (with_reducible refine Wp.call ?_)
  | (with_reducible refine Wp.test ?_)
  | (with_reducible refine Wp.tb_ ?_)
  | (with_reducible refine Wp.and_ ?_)
  | (with_reducible refine Wp.or_ ?_)
  | (with_reducible refine Wp.not_ ?_)
  | (with_reducible refine Wp.andV ?_)
  | (with_reducible refine Wp.orV ?_)
  | (with_reducible refine Wp.notV ?_)
  | (with_reducible refine Wp.rI0_ ?_)
  | (with_reducible refine Wp.rU_ ?_)
  | ((with_reducible refine Wp.rEq_ ?k ?_); (case k => exact rfl))
  | ((with_reducible refine Wp.rNe_ ?k ?_); (case k => exact rfl))
  | (with_reducible refine Wp.gcons ?_)
  | (with_reducible refine Wp.gnil ?_)
  | ((with_reducible refine' Wp.gtup ?h ?e ?_); (case h => walk_at "sq"); (case e => exact rfl))
  | (with_reducible refine Wp.sl ?_)
  | (with_reducible refine Wp.part ?_)
  | (with_reducible refine Wp.nopart ?_)
  | (with_reducible refine Wp.ifE ?_)
  | (with_reducible refine Wp.bm0 ?_)
  | (with_reducible refine Wp.bm ?_)
  | (with_reducible refine Wp.lcR1 ?_)
  | (with_reducible refine Wp.lcR2 ?_)
  | (with_reducible refine Wp.lcL ?_)
  | (with_reducible refine Wp.chain ?_)
  | (with_reducible refine Wp.lc2V ?_)
  | (with_reducible refine Wp.piL ?_)
  | (with_reducible refine Wp.yes ?_)
  | (with_reducible refine Wp.dinI ?_)
  | (with_reducible refine Wp.dninI ?_)
  | (with_reducible refine Wp.dget ?_)
  | ((with_reducible refine' ⟨?k, ?_⟩); (case k => show L2.wipe _ _ = L2.wipe _ _; exact rfl))
  | ((with_reducible refine' ⟨?k, ?_⟩); (case k => show V.non = V.non; exact rfl))
  | (with_reducible refine Wp.forR1 ?_)
  | (with_reducible refine Wp.forR2 ?_)
  | (with_reducible refine Wp.forL ?_)
  | (with_reducible refine Wp.forT ?_)
  | ((with_reducible refine' ⟨?k, ?_⟩); (case k => exact Wp.tyvL (by walk_at "hp")))
  | ((with_reducible refine' Wp.rev_ ?k ?_); (case k => walk_at "hp"))
  | ((with_reducible refine' Wp.isi ?k ?h ?_); (case k => walk_at "kind"); (case h => decide))
  | ((with_reducible refine' Wp.typ ?k ?_); (case k => walk_at "kind"))
  | (with_reducible refine Wp.slS ?k ?_; (case k => assumption))
  | (with_reducible refine iteT ?_)
  | (with_reducible refine iteF ?_)
  | (with_reducible refine Wtc.dcL ?_)
  | (with_reducible refine Wst.step ?_)
  | (with_reducible refine Wtc.dget2 ?_)
  | (with_reducible refine Wtc.lcZ ?_)
  | (with_reducible refine Wrw.loop_setLc ?_)
  | (with_reducible refine Wz.par ?_)
  | (with_reducible refine Wz.forN ?_)
  | (with_reducible refine Wz.dcL ?_)
  | (with_reducible refine Wz.forZ ?_)
  | (with_reducible refine Wz.lcR3 ?_)
  | (with_reducible refine Wc.revL ?_)
  | (with_reducible refine Wd.nm ?_)
  | (with_reducible refine Wd.nget ?_)
  | ((with_reducible refine Wd.tnew ?_); intro p hp)
  | (with_reducible refine Wd.pikn ?_)
  | (with_reducible refine Wt.m1 ?_)
  | (with_reducible refine Wt.m0 ?_)
  | ((with_reducible refine' ⟨?k, ?_⟩); (case k => show ∃ a, _ = V.str a; exact ⟨_, rfl⟩))
  | (with_reducible refine Wt.js_cons ?_)
  | (with_reducible refine Wt.fmt_ ?_)
  | (with_reducible refine Wp.pcons ?_)
  | (with_reducible refine Wp.pnil ?_)
  | ((with_reducible refine' Wp.iteBnT ?h ?_); (case h => show isB _ _ = false; decide))
  | ((with_reducible refine' Wp.iteBnF ?h ?_); (case h => show isB _ _ = true; decide))
  | ((with_reducible refine' Wp.iteBt ?h ?_); (case h => show isB _ _ = true; decide))
  | ((with_reducible refine' Wp.iteBf ?h ?_); (case h => show isB _ _ = false; decide))
  | (with_reducible refine Wp.iteT' ?_)
  | (with_reducible refine Wp.iteF' ?_)
  | (with_reducible refine Wp.rNT_ ?_)
  | ((with_reducible refine Wp.lst ?_))
  | ((with_reducible refine Wp.tup ?_))
  | ((with_reducible refine' Wp.ixL ?h ?e ?_); (case h => walk_at "sq"); (case e => exact rfl))
  | ((with_reducible refine' Wp.ixT ?h ?e ?_); (case h => walk_at "sq"); (case e => exact rfl))
  | ((with_reducible refine' Wp.setL ?h ?e ?_); (case h => walk_at "hp"); (case e => exact rfl))
  | ((with_reducible refine Wp.rI_ ?k ?_); (case k => first | (show (0:Int) < _; omega) | (show CPow _ _; refine' ⟨?_, ?_, ?_⟩ <;> omega) | (show CDiv _ _; refine' ⟨?_, ?_⟩ <;> omega) | (show CMul _ _; refine' Or.inl ⟨?_, ?_⟩ <;> omega) | (show CMul _ _; refine' Or.inr ⟨?_, ?_⟩ <;> first | omega | decide) | (show CDivW _ _; refine' wide_div (b := 240) ?_ ?_ ?_ ?_ <;> first | omega | decide)))
  | ((with_reducible refine ⟨?k, ?_⟩); (case k => first | exact Nat.zero_le _ | (exact Nat.le_of_ble_eq_true rfl)); intro p hp)
  | ((with_reducible refine' ⟨_, _, rfl, .inl ?k, ?_⟩); (case k => walk_at "sq"))
  | ((with_reducible refine' ⟨_, _, rfl, .inr ?k, ?_⟩); (case k => walk_at "sq"))
  | (with_reducible refine ⟨_, rfl, ?_⟩)
  | (with_reducible refine ⟨_, _, rfl, rfl, ?_⟩)
  | (with_reducible refine ⟨_, _, rfl, ?_⟩))
local macro_rules | `(tactic| walk_at "wp") => `(tactic| repeat (walk_at "w1"))

local macro_rules | `(tactic| walk_at "pf") => `(tactic| first
  | (with_reducible exact Wcl.pf0)
  | (with_reducible exact Wcl.pf1)
  | ((with_reducible refine' Wcl.pf2 ?n ?h); (case n => decide +kernel); (case h => walk_at "pf")))
local macro_rules | `(tactic| walk_at "w1") => `(tactic| first
  | (with_reducible refine Wcl.fld_ ?_)
  | (with_reducible refine Wcl.sfld_ ?_)
  | (with_reducible refine Wcl.meth_ ?_)
  | (with_reducible refine Wcl.make_ ?_)
  | (with_reducible refine Wcl.dcZ ?_)
  | (with_reducible refine Wcl.ddelT_ ?_)
  | (with_reducible refine Wcl.daug_ ?_)
  | (with_reducible refine Wcl.dpop1_ ?_)
  | ((with_reducible refine Wcl.dnewT_ ?_); intro p hp)
  | ((with_reducible refine Wcl.dnewK_ ?_); intro p hp)
  | ((with_reducible refine' Wcl.fldR ?h ?c ?n ?e ?_); (case h => walk_at "hp"); (case c => assumption); (case n => assumption); (case e => exact rfl))
  | ((with_reducible refine' Wcl.sfldR ?h ?c ?n ?l ?e ?_); (case h => walk_at "hp"); (case c => assumption); (case n => assumption); (case l => exact Nat.le_of_ble_eq_true rfl); (case e => walk_at "pf"))
  | ((with_reducible refine' Wcl.methR ?h ?l ?_); (case h => walk_at "hp"); (case l => exact rfl)))

section
variable {P : Program} {w : World} {K : PySem.W.Frag} {mg : Str → Option Value} {base : Heap}
/-! ### the deeds: height, pile, look, put, lift -/
section
variable {I : PilI K} {hc : Addr}
theorem ok_Copies_height (T : Txt P w K mg) (C : HCl K hc) (M_height : MOk P w K mg base I.o "height" ["self"] 9 (spPHeight I)) : FnOk P w K mg base CX0 10 T.f_Copies_height T.fd_Copies_height ["self"] (spHHeight I hc T.o_Tally) := by
  refine T.F_Copies_height.ok sc_Copies_height (fun vs H Q E h => ?_) (fun cdv Ar outer s H vs Q E hr h => ?_)
  · obtain ⟨S, h, D, rfl, _⟩ := h
    rfl
  · obtain ⟨S, h, D, rfl, ⟨B, Sp, gs, L, G, rfl, rfl, X, ok, hl⟩, q⟩ := h
    refine ⟨_, (pss_one (ps_ret (pe_meth0 (pe_fld (pv 0) rfl) I.cl M_height.me M_height.g (hr.mono (by decide)) M_height.b .nil pass0))), ?_⟩
    rw [show L2.start ["self"] [.ref B.h] = [some (.ref B.h)] from rfl]
    try dsimp only [cxOf]
    have c0 := C.cl
    have c1 := C.n1
    have hh := X.x.hh
    obtain ⟨dp, fs, hp, hm⟩ := X.x.pins
    walk_at "wp"
    refine Wcl.methR hp (hm _ (by simp [meths])) ?_
    walk_at "wp"
    exact ⟨Sp, B.p, B.A, _, _, L, rfl, X.x.pt.at_, q⟩
theorem ok_Copies_pile (T : Txt P w K mg) (C : HCl K hc) (M_pile : MOk P w K mg base I.o "pile" ["self"] 9 (spPPile I)) : FnOk P w K mg base CX0 10 T.f_Copies_pile T.fd_Copies_pile ["self"] (spHPile I hc T.o_Tally) := by
  refine T.F_Copies_pile.ok sc_Copies_pile (fun vs H Q E h => ?_) (fun cdv Ar outer s H vs Q E hr h => ?_)
  · obtain ⟨S, h, D, rfl, _⟩ := h
    rfl
  · obtain ⟨S, h, D, rfl, ⟨B, Sp, gs, L, G, rfl, rfl, X, ok, hl⟩, sz, q⟩ := h
    refine ⟨_, (pss_one (ps_ret (pe_meth0 (pe_fld (pv 0) rfl) I.cl M_pile.me M_pile.g (hr.mono (by decide)) M_pile.b .nil pass0))), ?_⟩
    rw [show L2.start ["self"] [.ref B.h] = [some (.ref B.h)] from rfl]
    try dsimp only [cxOf]
    have c0 := C.cl
    have c1 := C.n1
    have hh := X.x.hh
    obtain ⟨dp, fs, hp, hm⟩ := X.x.pins
    walk_at "wp"
    refine Wcl.methR hp (hm _ (by simp [meths])) ?_
    walk_at "wp"
    exact ⟨Sp, B.p, B.A, _, _, L, rfl, X.x.pt.at_, Nat.le_trans sz.pile (by decide), q⟩
/-- one more on the pile -/
theorem put_house {oT : Addr} {S S' : List Addr} {H H' : Hp} {B : HA} {D : Pic} {gs : List Gz} {L G L' G' : List W} {ws : List W} (X : HouR I hc oT S H B D gs L G D.things) (s : Wpi.Step I oT B.p B.A (rest D) D.things S H L G S' H' ws (gs.map (·.2.2)) L' G') (ok : Dok { D with pile := ws }) (hl : Held { D with pile := ws }) : House I hc oT (All B S') H' B.h { D with pile := ws } ∧ Mv (All B S) H (All B S') H' := by
  obtain ⟨x, k, g⟩ := X.x.step s
  exact ⟨⟨B, S', gs, L', G', rfl, rfl, ⟨⟨x.hh, x.pegs, x.boxes, x.goings, x.pt, x.nd, x.sp⟩, X.geq⟩, ok, hl⟩, k, g⟩
theorem ok_Copies_put (T : Txt P w K mg) (C : HCl K hc) (N_check_worth : MOk P w K mg base hc "check_worth" ["self", "worth"] 9 (spCheckW I hc T.o_Tally)) (M_put : MOk P w K mg base I.o "put" ["self", "worth"] 9 (spPPut I T.o_Tally)) : FnOk P w K mg base CX0 10 T.f_Copies_put T.fd_Copies_put ["self", "worth"] (spHPut I hc T.o_Tally) := by
  refine T.F_Copies_put.ok sc_Copies_put (fun vs H Q E h => ?_) (fun cdv Ar outer s H vs Q E hr h => ?_)
  · obtain ⟨S, h, D, v, z, rfl, _⟩ := h
    rfl
  · obtain ⟨S, h, D, v, z, rfl, ⟨B, Sp, gs, L, G, rfl, rfl, X, ok, hl⟩, sz, hv, wz, tz, q⟩ := h
    refine ⟨_, (pss_cons (ps_expr (pe_meth (pv 0) C.cl N_check_worth.me N_check_worth.g (hr.mono (by decide)) N_check_worth.b .nil pass0 (pa_cons (pv 1) pa_nil)))
      (pss_one (ps_expr (pe_meth (pe_fld (pv 0) rfl) I.cl M_put.me M_put.g (hr.mono (by decide)) M_put.b .nil pass0 (pa_cons (pv 1) pa_nil))))), ?_⟩
    rw [show L2.start ["self", "worth"] [.ref B.h, v] = [some (.ref B.h), some v] from rfl]
    try dsimp only [cxOf]
    have c0 := C.cl
    have c1 := C.n1
    have hh := X.x.hh
    walk_at "wp"
    refine ⟨Sp, B, D, gs, L, G, _, v, z, rfl, X, hv, wz, tz, fun H1 s1 => ?_⟩
    have X1 := X.same s1
    have hh1 := X1.x.hh
    obtain ⟨dp, fs, hp, hm⟩ := X1.x.pins
    walk_at "wp"
    refine Wcl.methR hp (hm _ (by simp [meths])) ?_
    walk_at "wp"
    refine ⟨Sp, B.p, B.A, _, _, L, _, G, _, v, z, rfl, X1.x.pt, hv.keep (Same.tk s1), tz, Nat.le_trans sz.pile (by decide), fun S' H' L' G' st => ?_⟩
    obtain ⟨h1, h2⟩ := put_house X1 st (dok_pile ok fun y hy => by
      rcases List.mem_append.mp hy with hy | hy
      · exact pile_ok ok hy
      · rw [List.mem_singleton.mp hy]; exact ⟨wz, tz⟩) (held_pile hl fun y hy _ => List.mem_append_left _ hy)
    walk_at "wp"
    exact q _ _ h1 (Mv.trans (Mv.same s1) h2)
theorem step_trans {oT p : Addr} {A : TAd} {R Z : List W} {S S1 S2 : List Addr} {H H1 H2 : Hp} {L G L1 G1 L2 G2 r1 r2 : List W} {k1 k2 : List Wpi.Kept} (a : Wpi.Step I oT p A R Z S H L G S1 H1 r1 k1 L1 G1) (b : Wpi.Step I oT p A R Z S1 H1 L1 G1 S2 H2 r2 k2 L2 G2) : Wpi.Step I oT p A R Z S H L G S2 H2 r2 k2 L2 G2 := by
  have live : ∀ x ∈ S ++ [A.pc, A.ls], x ∈ S ∨ H1 x ≠ none := fun x hx => by
    rcases List.mem_append.mp hx with hx | hx
    · exact .inl hx
    · simp only [List.mem_cons, List.not_mem_nil, or_false] at hx
      rcases hx with rfl | rfl
      · obtain ⟨_, e, _⟩ := a.pt.tl.hp
        rw [e]; exact .inr fun h => nomatch h
      · obtain ⟨_, e, _⟩ := a.pt.tl.hl
        rw [e]; exact .inr fun h => nomatch h
  refine ⟨b.pt, a.lo.trans b.lo, a.gr.trans a.ks live b.gr, ⟨fun x o n e => b.ks.keep x o (fun m => ?_) (a.ks.keep x o n e), a.ks.tk.trans b.ks.tk⟩⟩
  rcases List.mem_append.mp m with m | m
  · rcases a.gr x m with q | q
    · exact n (List.mem_append_left _ q)
    · rw [e] at q; cases q
  · exact n (List.mem_append_right _ m)
end

end
end K28

namespace K28
open PySem PySem.Spec PyProof.Rows L2 Wp Wq Wr Wpm Wth Wta Wpi Whs
local macro_rules | `(tactic| walk_at "ne") => `(tactic| first
  | assumption
  | (refine Ne.symm ?_; assumption)
  | exact ne_of_none (by assumption) (by assumption)
  | exact (ne_of_none (by assumption) (by assumption)).symm
  | exact ne_of (by assumption) (by assumption) (by intro q; cases q))
local macro_rules | `(tactic| walk_at "hp") => `(tactic| first
  | assumption
  | exact upd_same
  | (refine (upd_ne ?_).trans ?_; (walk_at "ne"); (walk_at "hp")))
local macro_rules | `(tactic| walk_at "hq") => `(tactic| first
  | assumption
  | exact upd_same
  | (refine same_new (by assumption) _ _ ?_; (walk_at "hq"))
  | (refine Wp.look (by assumption) ?_; (walk_at "hq")))
local macro_rules | `(tactic| walk_at "sm") => `(tactic| first
  | assumption
  | exact fun _ _ h => h
  | exact same_new (by assumption)
  | (refine Same.trans ?_ (same_new (by assumption)); (walk_at "sm"))
  | (refine Same.trans ?_ (by assumption); (walk_at "sm")))
local macro_rules | `(tactic| walk_at "kp") => `(tactic| first
  | assumption
  | exact Kp.refl _ _
  | (refine Kp.trans ?_ (Kp.new (by assumption)); (walk_at "kp"))
  | (refine Kp.trans ?_ (Same.kp (by assumption)); (walk_at "kp"))
  | (refine Wp.kpT ?_ (by assumption); (walk_at "kp"))
  | exact Same.kp (by walk_at "sm"))
local macro_rules | `(tactic| walk_at "sq") => `(tactic| first
  | assumption
  | exact SqL.of (by walk_at "hp")
  | exact SqT.of (by walk_at "hp"))
local macro_rules | `(tactic| walk_at "kind") => `(tactic| first
  | assumption
  | exact Kind.int _
  | exact Kind.str _
  | exact Kind.bl _
  | exact Kind.non
  | exact Kind.tup (by walk_at "hp")
  | exact Kind.lst (by walk_at "hp")
  | exact Kind.dK (by walk_at "hp"))
local macro_rules | `(tactic| walk_at "w1") => `(tactic| first
  | (with_reducible refine Wp.seq ?_)
  | (with_reducible refine Wp.nx_mk ?_)
  | (with_reducible refine Wp.rt_mk ?_)
  | (with_reducible refine Wp.bk_mk ?_)
  | (with_reducible refine Wp.ct_mk ?_)
  | (with_reducible refine Wp.next ?_)
  | (with_reducible refine Wp.asg ?_)
  | ((with_reducible refine' Wp.gname ?e ?_); (case e => (try dsimp only [List.set, L2.wipe, List.map_cons, List.map_nil]); (try exact rfl)))
  | (with_reducible refine Wp.gsub ?_)
  | (with_reducible refine Wp.ret ?_)
  | (with_reducible refine Wp.retN ?_)
  | (with_reducible refine Wp.drop ?_)
  | (with_reducible refine Wp.dput ?_)
  | (with_reducible refine Wp.ifs ?_)
  | ((with_reducible refine' Wp.var ?h ?_); (case h => exact rfl))
  | (with_reducible refine Wp.con ?_)
  | (with_reducible refine Wp.op ?_)
  | (with_reducible refine Wp.un ?_)
  | (with_reducible refine Wp.cb ?_)
  | (with_reducible refine Wp.anil ?_)
  | (with_reducible refine Wp.acons ?_)
  | (with_reducible refine Wp.call ?_)
  | (with_reducible refine Wp.test ?_)
  | (with_reducible refine Wp.tb_ ?_)
  | (with_reducible refine Wp.and_ ?_)
  | (with_reducible refine Wp.or_ ?_)
  | (with_reducible refine Wp.not_ ?_)
  | (with_reducible refine Wp.andV ?_)
  | (with_reducible refine Wp.orV ?_)
  | (with_reducible refine Wp.notV ?_)
  | (with_reducible refine Wp.rI0_ ?_)
  | (with_reducible refine Wp.rU_ ?_)
  | ((with_reducible refine Wp.rEq_ ?k ?_); (case k => exact rfl))
  | ((with_reducible refine Wp.rNe_ ?k ?_); (case k => exact rfl))
  | (with_reducible refine Wp.gcons ?_)
  | (with_reducible refine Wp.gnil ?_)
  | ((with_reducible refine' Wp.gtup ?h ?e ?_); (case h => walk_at "sq"); (case e => exact rfl))
  | (with_reducible refine Wp.sl ?_)
  | (with_reducible refine Wp.part ?_)
  | (with_reducible refine Wp.nopart ?_)
  | (with_reducible refine Wp.ifE ?_)
  | (with_reducible refine Wp.bm0 ?_)
  | (with_reducible refine Wp.bm ?_)
  | (with_reducible refine Wp.lcR1 ?_)
  | (with_reducible refine Wp.lcR2 ?_)
  | (with_reducible refine Wp.lcL ?_)
  | (with_reducible refine Wp.chain ?_)
  | (with_reducible refine Wp.lc2V ?_)
  | (with_reducible refine Wp.piL ?_)
  | (with_reducible refine Wp.yes ?_)
  | (with_reducible refine Wp.dinI ?_)
  | (with_reducible refine Wp.dninI ?_)
  | (with_reducible refine Wp.dget ?_)
  | ((with_reducible refine' ⟨?k, ?_⟩); (case k => show L2.wipe _ _ = L2.wipe _ _; exact rfl))
  | ((with_reducible refine' ⟨?k, ?_⟩); (case k => show V.non = V.non; exact rfl))
  | (with_reducible refine Wp.forR1 ?_)
  | (with_reducible refine Wp.forR2 ?_)
  | (with_reducible refine Wp.forL ?_)
  | (with_reducible refine Wp.forT ?_)
  | ((with_reducible refine' ⟨?k, ?_⟩); (case k => exact Wp.tyvL (by walk_at "hp")))
  | ((with_reducible refine' Wp.rev_ ?k ?_); (case k => walk_at "hp"))
  | ((with_reducible refine' Wp.isi ?k ?h ?_); (case k => walk_at "kind"); (case h => decide))
  | ((with_reducible refine' Wp.typ ?k ?_); (case k => walk_at "kind"))
  | (with_reducible refine Wp.slS ?k ?_; (case k => assumption))
  | (with_reducible refine iteT ?_)
  | (with_reducible refine iteF ?_)
  | (with_reducible refine Wtc.dcL ?_)
  | (with_reducible refine Wst.step ?_)
  | (with_reducible refine Wtc.dget2 ?_)
  | (with_reducible refine Wtc.lcZ ?_)
  | (with_reducible refine Wrw.loop_setLc ?_)
  | (with_reducible refine Wz.par ?_)
  | (with_reducible refine Wz.forN ?_)
  | (with_reducible refine Wz.dcL ?_)
  | (with_reducible refine Wz.forZ ?_)
  | (with_reducible refine Wz.lcR3 ?_)
  | (with_reducible refine Wc.revL ?_)
  | (with_reducible refine Wd.nm ?_)
  | (with_reducible refine Wd.nget ?_)
  | ((with_reducible refine Wd.tnew ?_); intro p hp)
  | (with_reducible refine Wd.pikn ?_)
  | (with_reducible refine Wt.m1 ?_)
  | (with_reducible refine Wt.m0 ?_)
  | ((with_reducible refine' ⟨?k, ?_⟩); (case k => show ∃ a, _ = V.str a; exact ⟨_, rfl⟩))
  | (with_reducible refine Wt.js_cons ?_)
  | (with_reducible refine Wt.fmt_ ?_)
  | (with_reducible refine Wp.pcons ?_)
  | (with_reducible refine Wp.pnil ?_)
  | ((with_reducible refine' Wp.iteBnT ?h ?_); (case h => show isB _ _ = false; decide))
  | ((with_reducible refine' Wp.iteBnF ?h ?_); (case h => show isB _ _ = true; decide))
  | ((with_reducible refine' Wp.iteBt ?h ?_); (case h => show isB _ _ = true; decide))
  | ((with_reducible refine' Wp.iteBf ?h ?_); (case h => show isB _ _ = false; decide))
  | (with_reducible refine Wp.iteT' ?_)
  | (with_reducible refine Wp.iteF' ?_)
  | (with_reducible refine Wp.rNT_ ?_)
  | ((with_reducible refine Wp.lst ?_))
  | ((with_reducible refine Wp.tup ?_))
  | ((with_reducible refine' Wp.ixL ?h ?e ?_); (case h => walk_at "sq"); (case e => exact rfl))
  | ((with_reducible refine' Wp.ixT ?h ?e ?_); (case h => walk_at "sq"); (case e => exact rfl))
  | ((with_reducible refine' Wp.setL ?h ?e ?_); (case h => walk_at "hp"); (case e => exact rfl))
  | ((with_reducible refine Wp.rI_ ?k ?_); (case k => first | (show (0:Int) < _; omega) | (show CPow _ _; refine' ⟨?_, ?_, ?_⟩ <;> omega) | (show CDiv _ _; refine' ⟨?_, ?_⟩ <;> omega) | (show CMul _ _; refine' Or.inl ⟨?_, ?_⟩ <;> omega) | (show CMul _ _; refine' Or.inr ⟨?_, ?_⟩ <;> first | omega | decide) | (show CDivW _ _; refine' wide_div (b := 240) ?_ ?_ ?_ ?_ <;> first | omega | decide)))
  | ((with_reducible refine ⟨?k, ?_⟩); (case k => first | exact Nat.zero_le _ | (exact Nat.le_of_ble_eq_true rfl)); intro p hp)
  | ((with_reducible refine' ⟨_, _, rfl, .inl ?k, ?_⟩); (case k => walk_at "sq"))
  | ((with_reducible refine' ⟨_, _, rfl, .inr ?k, ?_⟩); (case k => walk_at "sq"))
  | (with_reducible refine ⟨_, rfl, ?_⟩)
  | (with_reducible refine ⟨_, _, rfl, rfl, ?_⟩)
  | (with_reducible refine ⟨_, _, rfl, ?_⟩))
local macro_rules | `(tactic| walk_at "wp") => `(tactic| repeat (walk_at "w1"))

local macro_rules | `(tactic| walk_at "pf") => `(tactic| first
  | (with_reducible exact Wcl.pf0)
  | (with_reducible exact Wcl.pf1)
  | ((with_reducible refine' Wcl.pf2 ?n ?h); (case n => decide +kernel); (case h => walk_at "pf")))
local macro_rules | `(tactic| walk_at "w1") => `(tactic| first
  | (with_reducible refine Wcl.fld_ ?_)
  | (with_reducible refine Wcl.sfld_ ?_)
  | (with_reducible refine Wcl.meth_ ?_)
  | (with_reducible refine Wcl.make_ ?_)
  | (with_reducible refine Wcl.dcZ ?_)
  | (with_reducible refine Wcl.ddelT_ ?_)
  | (with_reducible refine Wcl.daug_ ?_)
  | (with_reducible refine Wcl.dpop1_ ?_)
  | ((with_reducible refine Wcl.dnewT_ ?_); intro p hp)
  | ((with_reducible refine Wcl.dnewK_ ?_); intro p hp)
  | ((with_reducible refine' Wcl.fldR ?h ?c ?n ?e ?_); (case h => walk_at "hp"); (case c => assumption); (case n => assumption); (case e => exact rfl))
  | ((with_reducible refine' Wcl.sfldR ?h ?c ?n ?l ?e ?_); (case h => walk_at "hp"); (case c => assumption); (case n => assumption); (case l => exact Nat.le_of_ble_eq_true rfl); (case e => walk_at "pf"))
  | ((with_reducible refine' Wcl.methR ?h ?l ?_); (case h => walk_at "hp"); (case l => exact rfl)))

section
variable {P : Program} {w : World} {K : PySem.W.Frag} {mg : Str → Option Value} {base : Heap}
/-! ### letting go -/
section
variable {I : PilI K} {hc : Addr}
/-- the loosened ones are told: the tally has another dict for them -/
theorem loos_house {oT : Addr} {S : List Addr} {H H1 : Hp} {B : HA} {D : Pic} {gs : List Gz} {L G Z : List W} {p ls' : Addr} {ys : List V} (X : HouR I hc oT S H B D gs L G Z) (hp : H p = none) (hp1 : H1 p = some (.lst ys)) (t1 : Tl oT H1 ⟨B.A.ta, B.A.dta, B.A.pc, ls'⟩ (L ++ Whs.rest D) [] Z) (fl : H ls' = none) (nl : ls' ≠ p) (k1 : Ks [B.A.ta] H H1) :
    HouR I hc oT S H1 { B with A := ⟨B.A.ta, B.A.dta, B.A.pc, ls'⟩ } D gs L [] Z ∧ Mv (All B S) H (All { B with A := ⟨B.A.ta, B.A.dta, B.A.pc, ls'⟩ } S) H1 ∧ p ∉ All { B with A := ⟨B.A.ta, B.A.dta, B.A.pc, ls'⟩ } S := by
  have lv := X.x.live
  obtain ⟨⟨hh, ⟨kvp, p1, p2⟩, ⟨kvb, b1, b2⟩, ⟨kvg, g1, g2⟩, pt, nd, sp⟩, geq⟩ := X
  have nd2 : ([B.h, B.pd, B.bd, B.gd] ++ [B.A.ta, B.A.pc, B.A.ls]).Nodup := nd
  have dj := (List.nodup_append.mp nd2).2.2
  have n0 : ∀ a ∈ [B.h, B.pd, B.bd, B.gd], a ∉ [B.A.ta] := fun a ha m => dj a ha B.A.ta (by simp) (List.mem_singleton.mp m)
  have nls : ∀ a ∈ All B S, a ≠ ls' := fun a ha e => lv a ha (by rw [e]; exact fl)
  refine ⟨⟨⟨k1.keep _ _ (n0 _ (by simp)) hh, ⟨kvp, k1.keep _ _ (n0 _ (by simp)) p1, Paired.mapP p2 fun _ _ q => q.keep k1.tk⟩, ⟨kvb, k1.keep _ _ (n0 _ (by simp)) b1, Paired.mapP b2 fun _ _ q => q.keep k1.tk⟩, ⟨kvg, k1.keep _ _ (n0 _ (by simp)) g1, Paired.mapP g2 fun _ _ q => q.keep k1.tk⟩, ⟨I.relo ls' (I.keep pt.at_ k1 fun a ha m => pt.n1 (by rw [← List.mem_singleton.mp m]; exact ha)), t1, pt.n1, pt.n2, fun m => nls ls' (by simp [All, m]) rfl⟩, ?_, sp⟩, geq⟩, ⟨k1.mono (by simp [All]), fun a ha => ?_⟩, fun m => ?_⟩
  · simp only [List.nodup_cons, List.mem_cons, List.not_mem_nil, or_false, not_or] at nd ⊢
    obtain ⟨⟨a1, a2, a3, a4, a5, _⟩, ⟨c1, c2, c3, c4, _⟩, ⟨d1, d2, d3, _⟩, ⟨e1, e2, _⟩, ⟨f1, _⟩, _, n⟩ := nd
    exact ⟨⟨a1, a2, a3, a4, a5, nls _ (by simp [All])⟩, ⟨c1, c2, c3, c4, nls _ (by simp [All])⟩, ⟨d1, d2, d3, nls _ (by simp [All])⟩, ⟨e1, e2, nls _ (by simp [All])⟩, ⟨f1, nls _ (by simp [All])⟩, nls _ (by simp [All]), n⟩
  · unfold All at ha
    simp only [List.mem_cons] at ha
    rcases ha with rfl | rfl | rfl | rfl | rfl | rfl | rfl | ha
    · exact .inl (by simp [All])
    · exact .inl (by simp [All])
    · exact .inl (by simp [All])
    · exact .inl (by simp [All])
    · exact .inl (by simp [All])
    · exact .inl (by simp [All])
    · exact .inr fl
    · exact .inl (by simp [All, ha])
  · unfold All at m
    simp only [List.mem_cons] at m
    rcases m with e | e | e | e | e | e | e | m
    · exact lv B.h (by simp [All]) (by rw [← e]; exact hp)
    · exact lv B.pd (by simp [All]) (by rw [← e]; exact hp)
    · exact lv B.bd (by simp [All]) (by rw [← e]; exact hp)
    · exact lv B.gd (by simp [All]) (by rw [← e]; exact hp)
    · exact lv B.A.ta (by simp [All]) (by rw [← e]; exact hp)
    · exact lv B.A.pc (by simp [All]) (by rw [← e]; exact hp)
    · exact nl e.symm
    · exact lv p (by simp [All, m]) hp
theorem ok_Copies_drop (T : Txt P w K mg) (C : HCl K hc) (M_release : MOk P w K mg base I.o "release" ["self", "kept"] 9 (spPRelease I T.o_Tally)) : FnOk P w K mg base CX0 10 T.f_Copies_drop T.fd_Copies_drop ["self", "thing"] (spDrop I hc T.o_Tally) := by
  have G_Tally_less := ok_Tally_less (base := base) T
  refine T.F_Copies_drop.ok sc_Copies_drop (fun vs H Q E h => ?_) (fun cdv Ar outer s H vs Q E hr h => ?_)
  · obtain ⟨S, B, D, gs, L, G, Z, v, z, rfl, _⟩ := h
    rfl
  · obtain ⟨S, B, D, gs, L, G, Z, v, z, rfl, X, ok, sz, ⟨t, rfl, ht⟩, hz, q⟩ := h
    refine ⟨_, (pss_cons (ps_asg (pv 1) (pg_tup (by rfl) (pgs_cons (pg_name (i := 2) sc_Copies_drop.nd rfl (.inl rfl)) (pgs_cons (pg_name (i := 3) sc_Copies_drop.nd rfl (.inl rfl)) pgs_nil))))
      (pss_one (ps_if (pt_cmpR op_eq (pv 2) pe_str (nomark _)) (pss_one (ps_expr (pe_meth (pe_fld (pv 0) rfl) T.cl_Tally T.m_Tally_less G_Tally_less (hr.mono (by decide)) T.b_Tally_less .nil pass0 (pa_cons (pe_lst (pa_cons (pe_dpop1 (pe_fld (pv 0) rfl) (pv 3) ⟨by rfl, by rfl, by rfl, by rfl⟩) pa_nil)) pa_nil)))) (pss_one (ps_expr (pe_meth (pe_fld (pv 0) rfl) I.cl M_release.me M_release.g (hr.mono (by decide)) M_release.b .nil pass0 (pa_cons (pe_ix ix_tup (pe_dpop1 (pe_fld (pv 0) rfl) (pv 3) ⟨by rfl, by rfl, by rfl, by rfl⟩) pe_int (fun _ _ => rfl)) pa_nil))))))), ?_⟩
    rw [show L2.start ["self", "thing", "word", "number"] [.ref B.h, .ref t] = [some (.ref B.h), some (.ref t), none, none] from rfl]
    try dsimp only [cxOf]
    have c0 := C.cl
    have c1 := C.n1
    have c2 := C.n2
    have c4 := C.n4
    have c5 := C.n5
    have hh := X.x.hh
    have nd := X.x.nd
    have nd2 : ([B.h, B.pd, B.bd, B.gd] ++ [B.A.ta, B.A.pc, B.A.ls]).Nodup := nd
    have dj := (List.nodup_append.mp nd2).2.2
    simp only [List.nodup_cons, List.mem_cons, not_or] at nd
    obtain ⟨⟨a1, a2, a3, _⟩, ⟨b1, b2, _⟩, ⟨e1, _⟩, _⟩ := nd
    obtain ⟨kvp, p1, p2⟩ := X.x.pegs
    obtain ⟨kvb, hb1, hb2⟩ := X.x.boxes
    obtain ⟨kvg, g1, g2⟩ := X.x.goings
    have hti := X.x.pt.tl.hi
    have tz := thing_isT hz
    have tba : B.A.ta ≠ B.bd := fun e => dj B.bd (by simp) B.A.ta (by simp) e.symm
    have pba : B.A.pc ≠ B.bd := fun e => dj B.bd (by simp) B.A.pc (by simp) e.symm
    have lba : B.A.ls ≠ B.bd := fun e => dj B.bd (by simp) B.A.ls (by simp) e.symm
    have tga : B.A.ta ≠ B.gd := fun e => dj B.gd (by simp) B.A.ta (by simp) e.symm
    have pga : B.A.pc ≠ B.gd := fun e => dj B.gd (by simp) B.A.pc (by simp) e.symm
    have lga : B.A.ls ≠ B.gd := fun e => dj B.gd (by simp) B.A.ls (by simp) e.symm
    have sbd := X.x.sp B.bd (by simp)
    have sgd := X.x.sp B.gd (by simp)
    walk_at "wp"
    refine ite_ (fun e => ?_) (fun e => ?_)
    · -- a box
      have ez : z.1 = sBox := by injection e
      have nd3 := nd_kB ok.boxU
      obtain ⟨b, hbm, hbe⟩ : ∃ b ∈ D.boxes, b.1 = z.2 := by
        rcases Wow.memT.mp hz with ⟨b, hb, eb⟩ | ⟨g, hg, eg⟩
        · exact ⟨b, hb, congrArg (·.2) eb⟩
        · exact absurd (ez.symm.trans (congrArg (·.1) eg).symm) box_go
      obtain ⟨v, hv, fv⟩ := kv_at (k := Sum.inl z.2) bv_key hb2 nd3 hbm (congrArg Sum.inl hbe)
      have wv : IsW H v b.2 := fv.2
      obtain ⟨bl, br, eb1, eb2⟩ := split_fst ok.boxU hbm
      rw [hbe] at eb2
      have eD : dropD D z = { D with boxes := bl ++ br } := by unfold dropD; rw [if_pos ez, eb2]
      walk_at "wp"
      refine ⟨Wcl.isdK hb1, ?_⟩
      walk_at "wp"
      refine ⟨kvb, Sum.inl z.2, v, hb1, rfl, hv, ?_⟩
      have kb : Ks [B.bd] H (upd H B.bd (.dK (dropK kvb (Sum.inl z.2)))) := ⟨fun a o n e => by
        rw [upd_ne (fun q : a = B.bd => n (by rw [q]; simp))]; exact e, Tk.dK hb1⟩
      have X1 : HouX I hc T.o_Tally S (upd H B.bd (.dK (dropK kvb (Sum.inl z.2)))) B D.pile { D with boxes := bl ++ br } gs (gs.map (·.2.2)) L (Whs.rest D) G Z := by
        refine ⟨(upd_ne a2).trans hh, ⟨kvp, (upd_ne b1).trans p1, Paired.mapP p2 fun _ _ q => q.keep kb.tk⟩, ⟨_, upd_same, ?_⟩, ⟨kvg, (upd_ne (Ne.symm e1)).trans g1, Paired.mapP g2 fun _ _ q => q.keep kb.tk⟩, X.x.pt.keep kb (fun a ha m => sbd (by rw [← List.mem_singleton.mp m]; exact ha)) (by simpa using tba) (by simpa using pba) (by simpa using lba), X.x.nd, X.x.sp⟩
        have := kv_drop (k := Sum.inl z.2) bv_key hb2
        rw [show (D.boxes.filter fun a => decide (kB a ≠ Sum.inl z.2)) = bl ++ br by
          rw [← eb2]
          refine List.filter_congr fun x _ => ?_
          exact decide_eq_decide.mpr ⟨fun h e => h (congrArg Sum.inl e), fun h e => h (Sum.inl.inj e)⟩] at this
        exact Paired.mapP this fun _ _ q => q.keep kb.tk
      have wv1 := wv.keep kb.tk
      have hti1 := X1.pt.tl.hi
      generalize upd H B.bd (.dK (dropK kvb (Sum.inl z.2))) = H1 at kb X1 wv1 hti1
      walk_at "wp"
      rename_i l0 hl0
      have s0 := same_new (o := .lst [v]) hl0
      have lk : Like (L ++ Whs.rest D) ((L ++ Whs.rest { D with boxes := bl ++ br }) ++ [b.2]) := fun y t => by
        unfold Whs.rest
        rw [eb1]
        simp only [cn_app, List.map_append, List.map_cons, cn_cons, cn_nil]; omega
      have X2 := X1.same s0
      refine ⟨B.A, l0, [v], [b.2], _, L ++ Whs.rest { D with boxes := bl ++ br }, G, Z, rfl, X2.pt.tl, lk, upd_same, (Pile.one wv1).keep (Tk.new hl0), fun G' H3 t3 gg g6 k3 => ?_⟩
      have npc : ∀ a ∈ S, a ∉ [B.A.pc, B.A.ls] := fun a ha m => by
        simp only [List.mem_cons, List.not_mem_nil, or_false] at m
        rcases m with m | m
        · exact X.x.pt.n2 (by rw [← m]; exact ha)
        · exact X.x.pt.n3 (by rw [← m]; exact ha)
      have ndd : ∀ a ∈ [B.h, B.pd, B.bd, B.gd], a ∉ [B.A.pc, B.A.ls] := fun a ha m => by
        exact dj a ha a (List.mem_cons_of_mem _ m) rfl
      have k13 : Ks (All B S) H H3 := ((kb.mono (by simp [All])).trans (Ks.same s0)).trans (k3.mono (by simp [All]))
      have X3 : HouX I hc T.o_Tally S H3 B D.pile { D with boxes := bl ++ br } gs (gs.map (·.2.2)) L (Whs.rest { D with boxes := bl ++ br }) G' Z := by
        obtain ⟨x1, ⟨kp, x2, x3⟩, ⟨kb', x4, x5⟩, ⟨kg, x6, x7⟩, x8, x9, x10⟩ := X2
        exact ⟨k3.keep _ _ (ndd _ (by simp)) x1, ⟨kp, k3.keep _ _ (ndd _ (by simp)) x2, Paired.mapP x3 fun _ _ q => q.keep k3.tk⟩, ⟨kb', k3.keep _ _ (ndd _ (by simp)) x4, Paired.mapP x5 fun _ _ q => q.keep k3.tk⟩, ⟨kg, k3.keep _ _ (ndd _ (by simp)) x6, Paired.mapP x7 fun _ _ q => q.keep k3.tk⟩, ⟨I.keep x8.at_ k3 npc, t3, x8.n1, x8.n2, x8.n3⟩, x9, x10⟩
      refine q S H3 gs L G' (by rw [eD]; exact ⟨X3, X.geq⟩) ⟨gg, fun y hy t n => ?_⟩ k13 fun a ha => .inl ha
      rw [eD] at n
      rcases List.mem_append.mp ((lk.mem t).mp hy) with m | m
      · exact absurd m n
      · exact g6 y m t n
    · -- a going-on
      have nb : z.1 ≠ sBox := fun q => e (congrArg V.str q)
      have ez : z.1 = sGo := (isT_iff.mp tz).resolve_left nb
      have gnd : (gs.map (·.1)).Nodup := by rw [← gq_nums X.geq]; exact ok.goU
      obtain ⟨g, hgm, hge⟩ : ∃ g ∈ gs, g.1 = z.2 := by
        rcases Wow.memT.mp hz with ⟨b, hb, eb⟩ | ⟨g, hg, eg⟩
        · exact absurd (congrArg (·.1) eb).symm nb
        · rw [X.geq] at hg
          obtain ⟨g0, h0, rfl⟩ := List.mem_map.mp hg
          exact ⟨g0, h0, congrArg (·.2) eg⟩
      obtain ⟨v, hv, fv⟩ := kv_at (k := Sum.inl z.2) gv_key g2 (nd_kG gnd) hgm (congrArg Sum.inl hge)
      obtain ⟨_, tg, rfl, htg⟩ := fv
      obtain ⟨gl, gr, eg1, eg2⟩ := split_fst gnd hgm
      rw [hge] at eg2
      have eD : dropD D z = { D with goings := (gl ++ gr).map goP } := by
        unfold dropD
        rw [if_neg nb, X.geq, ← eg2, List.filter_map]; rfl
      have kl : g.2.2.2.length ≤ 400000 := by
        have : goP g ∈ D.goings := by rw [X.geq]; exact List.mem_map_of_mem hgm
        exact Nat.le_trans (sz.whole _ this) (by decide)
      obtain ⟨dp, fs, hp, hm⟩ := X.x.pins
      walk_at "wp"
      refine Wcl.methR hp (hm _ (by simp [meths])) ?_
      walk_at "wp"
      refine ⟨Wcl.isdK g1, ?_⟩
      walk_at "wp"
      refine ⟨kvg, Sum.inl z.2, .ref tg, g1, rfl, hv, ?_⟩
      have kb : Ks [B.gd] H (upd H B.gd (.dK (dropK kvg (Sum.inl z.2)))) := ⟨fun a o n e => by
        rw [upd_ne (fun q : a = B.gd => n (by rw [q]; simp))]; exact e, Tk.dK g1⟩
      have X1 : HouX I hc T.o_Tally S (upd H B.gd (.dK (dropK kvg (Sum.inl z.2)))) B D.pile D (gl ++ gr) (gs.map (·.2.2)) L (Whs.rest D) G Z := by
        refine ⟨(upd_ne a3).trans hh, ⟨kvp, (upd_ne b2).trans p1, Paired.mapP p2 fun _ _ q => q.keep kb.tk⟩, ⟨kvb, (upd_ne e1).trans hb1, Paired.mapP hb2 fun _ _ q => q.keep kb.tk⟩, ⟨_, upd_same, ?_⟩, X.x.pt.keep kb (fun a ha m => sgd (by rw [← List.mem_singleton.mp m]; exact ha)) (by simpa using tga) (by simpa using pga) (by simpa using lga), X.x.nd, X.x.sp⟩
        have := kv_drop (k := Sum.inl z.2) gv_key g2
        rw [show (gs.filter fun a => decide (kG a ≠ Sum.inl z.2)) = gl ++ gr by
          rw [← eg2]
          refine List.filter_congr fun x _ => ?_
          exact decide_eq_decide.mpr ⟨fun h e => h (congrArg Sum.inl e), fun h e => h (Sum.inl.inj e)⟩] at this
        exact Paired.mapP this fun _ _ q => q.keep kb.tk
      have npg : B.p ≠ B.gd := fun e => sgd (by rw [← e]; exact (I.live X.x.pt.at_).1)
      have hp1 : upd H B.gd (.dK (dropK kvg (Sum.inl z.2))) B.p = some (.ins I.o dp fs) := by rw [upd_ne npg]; exact hp
      have htg1 := kb.tk _ _ htg
      generalize upd H B.gd (.dK (dropK kvg (Sum.inl z.2))) = H1 at kb X1 hp1 htg1
      walk_at "wp"
      refine ⟨S, B.p, B.A, D.pile, gl.map (·.2.2), gr.map (·.2.2), L, _, G, Z, g.2.2, rfl, by
        have := X1.pt
        rw [eg1, List.map_append, List.map_cons] at this
        exact this, kl, fun S' H' L' G' st => ?_⟩
      have X1' : HouX I hc T.o_Tally S H1 B D.pile D (gl ++ gr) (gl.map (·.2.2) ++ g.2.2 :: gr.map (·.2.2)) L (Whs.rest D) G Z := by
        have := X1
        rw [eg1, List.map_append, List.map_cons] at this
        exact this
      obtain ⟨x, k, gw⟩ := X1'.step st
      rw [← List.map_append] at x
      have lv : ∀ a ∈ All B S', a ∈ All B S ∨ H a = none := fun a ha => by
        rcases gw a ha with m | m
        · exact .inl m
        · by_cases e : a = B.gd
          · exact .inl (by rw [e]; simp [All])
          · cases c : H a with
            | none => exact .inr rfl
            | some o => rw [kb.keep _ _ (by simpa using e) c] at m; cases m
      refine q S' H' (gl ++ gr) L' G' (by rw [eD]; exact ⟨⟨x.hh, x.pegs, x.boxes, x.goings, x.pt, x.nd, x.sp⟩, rfl⟩) (by rw [eD]; exact st.lo) ((kb.mono (by simp [All])).trans k) lv
theorem ok_Copies_settle (T : Txt P w K mg) (C : HCl K hc) (N_has : MOk P w K mg base hc "has" ["self", "thing"] 11 (spHas I hc T.o_Tally)) (N_drop : MOk P w K mg base hc "drop" ["self", "thing"] 11 (spDrop I hc T.o_Tally)) : FnOk P w K mg base CX0 12 T.f_Copies_settle T.fd_Copies_settle ["self"] (spSettle I hc T.o_Tally) := by
  have G_Tally_loosened := ok_Tally_loosened (base := base) T
  refine T.F_Copies_settle.ok sc_Copies_settle (fun vs H Q E h => ?_) (fun cdv Ar outer s H vs Q E hr h => ?_)
  · obtain ⟨S, B, D, gs, L, G, Z, rfl, _⟩ := h
    rfl
  · obtain ⟨S, B, D, gs, L, G, Z, rfl, X, ok, sz, raw, q⟩ := h
    refine ⟨_, (pss_cons (ps_set (i := 1) sc_Copies_settle.nd rfl (.inl rfl) (pe_meth0 (pe_fld (pv 0) rfl) T.cl_Tally T.m_Tally_loosened G_Tally_loosened (hr.mono (by decide)) T.b_Tally_loosened .nil pass0))
      (pss_one (ps_while PassesOwn.never (pt_cmpR op_gt (pe_callB call_len_seq (by rfl) T.n_len (by decide +kernel) (pa_cons (pv 1) pa_nil)) pe_int (nomark _)) (pss_cons (ps_for PassesOwn.never rfl (pi_list (pv 1)) (pg_name (i := 2) sc_Copies_settle.nd rfl (.inl rfl)) (pss_one (ps_if (pt_val (pe_meth (pv 0) C.cl N_has.me N_has.g (hr.mono (by decide)) N_has.b .nil pass0 (pa_cons (pv 2) pa_nil))) (pss_one (ps_expr (pe_meth (pv 0) C.cl N_drop.me N_drop.g (hr.mono (by decide)) N_drop.b .nil pass0 (pa_cons (pv 2) pa_nil)))) pss_nil)))
      (pss_one (ps_set (i := 1) sc_Copies_settle.nd rfl (.inl rfl) (pe_meth0 (pe_fld (pv 0) rfl) T.cl_Tally T.m_Tally_loosened G_Tally_loosened (hr.mono (by decide)) T.b_Tally_loosened .nil pass0))))))), ?_⟩
    rw [show L2.start ["self", "loose", "thing"] [.ref B.h] = [some (.ref B.h), none, none] from rfl]
    try dsimp only [cxOf]
    have c0 := C.cl
    have c2 := C.n2
    have hh := X.x.hh
    have hti := X.x.pt.tl.hi
    walk_at "wp"
    refine ⟨B.A, _, G, Z, rfl, X.x.pt.tl, fun p ys ls' H1 hp hp1 py gt t1 fl nl k1 => ?_⟩
    obtain ⟨X1, m1, pa⟩ := loos_house X hp hp1 t1 fl nl k1
    walk_at "wp"
    refine Wp.whileW (fun m σ' H' => ∃ S' B' D' gs' L' p ys ws y2, σ' = [some (.ref B.h), some (.ref p), y2] ∧ B'.h = B.h ∧ HouR I hc T.o_Tally S' H' B' D' gs' L' [] Z ∧ Drops D D' ∧ H' p = some (.lst ys) ∧ p ∉ All B' S' ∧ Pile H' ys ws ∧ (∀ z ∈ ws, isT z = true ∧ z ∉ D'.worths) ∧ (∀ z ∈ D'.things, z ∉ D'.worths → z ∈ ws) ∧ ws.length ≤ 1000000 ∧ Mv (All B S) H (All B' S') H' ∧ m = 2 * D'.things.length + (if ws = [] then 0 else 1)) _ ⟨S, _, D, gs, L, p, ys, _, none, rfl, rfl, X1, .nil _, hp1, pa, py, fun z hz => ?_, fun z hz n => ?_, ?_, m1, rfl⟩ ?_
    · obtain ⟨z1, z2⟩ := List.mem_filter.mp hz
      have t := gt z z1
      exact ⟨t, fun w => (of_decide_eq_true z2) ((X.mem t).mpr w)⟩
    · exact List.mem_filter.mpr ⟨raw z hz n, decide_eq_true fun w => n ((X.mem (thing_isT hz)).mp w)⟩
    · exact Nat.le_trans (List.length_filter_le _ _) (Nat.le_trans (sub_len X.x.pt.tl.nd X.x.pt.tl.gz) X.x.pt.tl.zs)
    clear X1 m1 pa hp hp1 py gt t1 fl nl k1 raw
    rintro m σ' H2 ⟨S2, B2, D2, gs2, L2, p, ys, ws, y2, rfl, eB, X2, dr, hp2, pa2, py2, w1, w2, w3, mv2, rfl⟩
    have yl := py2.len
    walk_at "wp"
    refine ite_ (fun e => ?_) (fun e => ?_)
    · have wne : ws ≠ [] := fun e2 => by rw [e2] at yl; rw [yl] at e; exact absurd e (by decide)
      rw [if_neg wne]
      refine ⟨fun σ' H' => ∃ S' B' D' gs' L' p ys ws y2, σ' = [some (.ref B.h), some (.ref p), y2] ∧ B'.h = B.h ∧ HouR I hc T.o_Tally S' H' B' D' gs' L' [] Z ∧ Drops D D' ∧ H' p = some (.lst ys) ∧ p ∉ All B' S' ∧ Pile H' ys ws ∧ (∀ z ∈ ws, isT z = true ∧ z ∉ D'.worths) ∧ (∀ z ∈ D'.things, z ∉ D'.worths → z ∈ ws) ∧ ws.length ≤ 1000000 ∧ Mv (All B S) H (All B' S') H' ∧ (D'.things.length < D2.things.length ∨ (D'.things.length ≤ D2.things.length ∧ ws = [])), fun σ' H' h => ?_, ?_⟩
      · obtain ⟨S', B', D', gs', L', p, ys, ws, y2, e1, e2, e3, e4, e5, e6, e7, e8, e9, e10, e11, e12⟩ := h
        refine ⟨_, ?_, S', B', D', gs', L', p, ys, ws, y2, e1, e2, e3, e4, e5, e6, e7, e8, e9, e10, e11, rfl⟩
        rcases e12 with h | ⟨h, e⟩
        · split <;> omega
        · rw [if_pos e]; omega
      walk_at "wp"
      refine ⟨⟨ys, SqL.of hp2⟩, loopL (xs := ys) (fun i σ' H' => ∃ S' B' D' gs' L' G' y, σ' = [some (.ref B.h), some (.ref p), y] ∧ B' = B2 ∧ HouR I hc T.o_Tally S' H' B' D' gs' L' G' Z ∧ Drops D2 D' ∧ H' p = some (.lst ys) ∧ p ∉ All B' S' ∧ (∀ z ∈ D'.things, z ∉ D'.worths → z ∈ ws.drop i ∨ z ∈ G') ∧ (D'.things.length < D2.things.length ∨ (D' = D2 ∧ G' = [])) ∧ Mv (All B2 S2) H2 (All B' S') H') ⟨S2, B2, D2, gs2, L2, [], y2, rfl, rfl, X2, .nil _, hp2, pa2, fun z hz n => .inl (by simpa using w2 z hz n), .inr ⟨rfl, rfl⟩, Ks.refl, Grow.refl⟩ (fun i σ' H' _ h => by obtain ⟨_, _, _, _, _, _, _, _, _, _, _, k, _⟩ := h; exact SqL.of k) ?_ ?_⟩
      · rintro i x σ' H3 hi ⟨S3, B3, D3, gs3, L3, G3, y, rfl, rfl, X3, dr3, hp3, pa3, r3, l3, mv3⟩
        obtain ⟨z, hz, wv⟩ := py2.get hi
        have zm := List.mem_of_getElem? hz
        obtain ⟨tz, nz⟩ := w1 z zm
        have wv3 := wv.keep mv3.1.tk
        have il := (List.getElem?_eq_some_iff.mp hz).1
        have ed : ws.drop i = z :: ws.drop (i + 1) := by
          rw [List.drop_eq_getElem_cons il, (List.getElem?_eq_some_iff.mp hz).2]
        have hh3 := X3.x.hh
        rw [← eB] at *
        walk_at "wp"
        refine ⟨S3, B3, D3, gs3, L3, G3, Z, x, z, rfl, X3, wv3, tz, ?_⟩
        have nz3 : z ∉ D3.worths := fun h => nz (dr3.sub.2 z h)
        by_cases c : z ∈ D3.things
        · rw [decide_eq_true c]
          walk_at "wp"
          refine ⟨S3, B3, D3, gs3, L3, G3, Z, x, z, rfl, X3, (dr.trans dr3).ok ok, (dr.trans dr3).sz sz, wv3, c, fun S4 H4 gs4 L4 G4 X4 lo4 k4 g4 => ?_⟩
          have p4 : p ∉ All B3 S4 := fun m => by
            rcases g4 p m with m | m
            · exact pa3 m
            · rw [hp3] at m; cases m
          have less : (dropD D3 z).things.length < D3.things.length := Whs.drop_less ((dr.trans dr3).ok ok) c
          refine ⟨S4, B3, dropD D3 z, gs4, L4, G4, _, rfl, rfl, X4, dr3.trans (.step z c nz3 (.nil _)), k4.keep _ _ pa3 hp3, p4, fun y hy n => ?_, .inl ?_, Mv.trans mv3 ⟨k4, g4⟩⟩
          · obtain ⟨y1, y2⟩ := (drop_things tz).mp hy
            by_cases w : y ∈ D3.worths
            · exact .inr (lo4.2 y ((X3.mem (thing_isT y1)).mpr w) (thing_isT y1) fun m => n ((X4.mem (thing_isT y1)).mp m))
            · rcases r3 y y1 w with m | m
              · rw [ed] at m
                rcases List.mem_cons.mp m with m | m
                · exact absurd m y2
                · exact .inl m
              · exact .inr (lo4.1 y m)
          · rcases l3 with h | ⟨h, _⟩
            · omega
            · rw [h] at less ⊢; exact less
        · rw [decide_eq_false c]
          walk_at "wp"
          refine ⟨S3, B3, D3, gs3, L3, G3, _, rfl, rfl, X3, dr3, hp3, pa3, fun y hy n => ?_, l3, mv3⟩
          rcases r3 y hy n with m | m
          · rw [ed] at m
            rcases List.mem_cons.mp m with m | m
            · exact absurd (m ▸ hy) c
            · exact .inl m
          · exact .inr m
      · rintro σ' H3 ⟨S3, B3, D3, gs3, L3, G3, y, rfl, rfl, X3, dr3, hp3, pa3, r3, l3, mv3⟩
        rw [yl, List.drop_length] at r3
        have hh3 := X3.x.hh
        rw [← eB] at *
        have hti3 := X3.x.pt.tl.hi
        walk_at "wp"
        refine ⟨B3.A, _, G3, Z, rfl, X3.x.pt.tl, fun p5 ys5 ls5 H5 hp5 hp5' py5 gt5 t5 fl5 nl5 k5 => ?_⟩
        obtain ⟨X5, m5, pa5⟩ := loos_house X3 hp5 hp5' t5 fl5 nl5 k5
        walk_at "wp"
        refine ⟨S3, { B3 with A := ⟨B3.A.ta, B3.A.dta, B3.A.pc, ls5⟩ }, D3, gs3, L3, p5, ys5, _, _, rfl, rfl, X5, dr.trans dr3, hp5', pa5, py5, fun z hz => ?_, fun z hz n => ?_, ?_, Mv.trans (Mv.trans mv2 mv3) m5, ?_⟩
        · obtain ⟨z1, z2⟩ := List.mem_filter.mp hz
          have t := gt5 z z1
          exact ⟨t, fun w => (of_decide_eq_true z2) ((X3.mem t).mpr w)⟩
        · refine List.mem_filter.mpr ⟨(r3 z hz n).resolve_left (by simp), decide_eq_true fun w => n ((X3.mem (thing_isT hz)).mp w)⟩
        · exact Nat.le_trans (List.length_filter_le _ _) (Nat.le_trans (sub_len X3.x.pt.tl.nd X3.x.pt.tl.gz) X3.x.pt.tl.zs)
        · rcases l3 with h | ⟨h, e⟩
          · exact .inl h
          · rw [e, h]; exact .inr ⟨Nat.le_refl _, rfl⟩
    · have we : ws = [] := by
        cases ws with
        | nil => rfl
        | cons a b => exfalso; rw [List.length_cons] at yl; exact e (by omega)
      subst we
      walk_at "wp"
      have hl2 : Whs.Held D2 := fun z hz => Classical.not_not.mp fun n => nomatch w2 z hz n
      have hou := X2.house (dr.ok ok) hl2 (dr.sz sz)
      rw [eB] at hou
      exact q D2 _ _ ⟨dr, hl2⟩ hou mv2
end

end
end K28

namespace K28
open PySem PySem.Spec PyProof.Rows L2 Wp Wq Wr Wpm Wth Wta Wpi Whs
local macro_rules | `(tactic| walk_at "ne") => `(tactic| first
  | assumption
  | (refine Ne.symm ?_; assumption)
  | exact ne_of_none (by assumption) (by assumption)
  | exact (ne_of_none (by assumption) (by assumption)).symm
  | exact ne_of (by assumption) (by assumption) (by intro q; cases q))
local macro_rules | `(tactic| walk_at "hp") => `(tactic| first
  | assumption
  | exact upd_same
  | (refine (upd_ne ?_).trans ?_; (walk_at "ne"); (walk_at "hp")))
local macro_rules | `(tactic| walk_at "hq") => `(tactic| first
  | assumption
  | exact upd_same
  | (refine same_new (by assumption) _ _ ?_; (walk_at "hq"))
  | (refine Wp.look (by assumption) ?_; (walk_at "hq")))
local macro_rules | `(tactic| walk_at "sm") => `(tactic| first
  | assumption
  | exact fun _ _ h => h
  | exact same_new (by assumption)
  | (refine Same.trans ?_ (same_new (by assumption)); (walk_at "sm"))
  | (refine Same.trans ?_ (by assumption); (walk_at "sm")))
local macro_rules | `(tactic| walk_at "kp") => `(tactic| first
  | assumption
  | exact Kp.refl _ _
  | (refine Kp.trans ?_ (Kp.new (by assumption)); (walk_at "kp"))
  | (refine Kp.trans ?_ (Same.kp (by assumption)); (walk_at "kp"))
  | (refine Wp.kpT ?_ (by assumption); (walk_at "kp"))
  | exact Same.kp (by walk_at "sm"))
local macro_rules | `(tactic| walk_at "sq") => `(tactic| first
  | assumption
  | exact SqL.of (by walk_at "hp")
  | exact SqT.of (by walk_at "hp"))
local macro_rules | `(tactic| walk_at "kind") => `(tactic| first
  | assumption
  | exact Kind.int _
  | exact Kind.str _
  | exact Kind.bl _
  | exact Kind.non
  | exact Kind.tup (by walk_at "hp")
  | exact Kind.lst (by walk_at "hp")
  | exact Kind.dK (by walk_at "hp"))
local macro_rules | `(tactic| walk_at "w1") => `(tactic| first
  | (with_reducible refine Wp.seq ?_)
  | (with_reducible refine Wp.nx_mk ?_)
  | (with_reducible refine Wp.rt_mk ?_)
  | (with_reducible refine Wp.bk_mk ?_)
  | (with_reducible refine Wp.ct_mk ?_)
  | (with_reducible refine Wp.next ?_)
  | (with_reducible refine Wp.asg ?_)
  | ((with_reducible refine' Wp.gname ?e ?_); (case e => (try dsimp only [List.set, L2.wipe, List.map_cons, List.map_nil]); (try exact rfl)))
  | (with_reducible refine Wp.gsub ?_)
  | (with_reducible refine Wp.ret ?_)
  | (with_reducible refine Wp.retN ?_)
  | (with_reducible refine Wp.drop ?_)
  | (with_reducible refine Wp.dput ?_)
  | (with_reducible refine Wp.ifs ?_)
  | ((with_reducible refine' Wp.var ?h ?_); (case h => exact rfl))
  | (with_reducible refine Wp.con ?_)
  | (with_reducible refine Wp.op ?_)
  | (with_reducible refine Wp.un ?_)
  | (with_reducible refine Wp.cb ?_)
  | (with_reducible refine Wp.anil ?_)
  | (with_reducible refine Wp.acons ?_)
  | (with_reducible refine Wp.call ?_)
  | (with_reducible refine Wp.test ?_)
  | (with_reducible refine Wp.tb_ ?_)
  | (with_reducible refine Wp.and_ ?_)
  | (with_reducible refine Wp.or_ ?_)
  | (with_reducible refine Wp.not_ ?_)
  | (with_reducible refine Wp.andV ?_)
  | (with_reducible refine Wp.orV ?_)
  | (with_reducible refine Wp.notV ?_)
  | (with_reducible refine Wp.rI0_ ?_)
  | (with_reducible refine Wp.rU_ ?_)
  | ((with_reducible refine Wp.rEq_ ?k ?_); (case k => exact rfl))
  | ((with_reducible refine Wp.rNe_ ?k ?_); (case k => exact rfl))
  | (with_reducible refine Wp.gcons ?_)
  | (with_reducible refine Wp.gnil ?_)
  | ((with_reducible refine' Wp.gtup ?h ?e ?_); (case h => walk_at "sq"); (case e => exact rfl))
  | (with_reducible refine Wp.sl ?_)
  | (with_reducible refine Wp.part ?_)
  | (with_reducible refine Wp.nopart ?_)
  | (with_reducible refine Wp.ifE ?_)
  | (with_reducible refine Wp.bm0 ?_)
  | (with_reducible refine Wp.bm ?_)
  | (with_reducible refine Wp.lcR1 ?_)
  | (with_reducible refine Wp.lcR2 ?_)
  | (with_reducible refine Wp.lcL ?_)
  | (with_reducible refine Wp.chain ?_)
  | (with_reducible refine Wp.lc2V ?_)
  | (with_reducible refine Wp.piL ?_)
  | (with_reducible refine Wp.yes ?_)
  | (with_reducible refine Wp.dinI ?_)
  | (with_reducible refine Wp.dninI ?_)
  | (with_reducible refine Wp.dget ?_)
  | ((with_reducible refine' ⟨?k, ?_⟩); (case k => show L2.wipe _ _ = L2.wipe _ _; exact rfl))
  | ((with_reducible refine' ⟨?k, ?_⟩); (case k => show V.non = V.non; exact rfl))
  | (with_reducible refine Wp.forR1 ?_)
  | (with_reducible refine Wp.forR2 ?_)
  | (with_reducible refine Wp.forL ?_)
  | (with_reducible refine Wp.forT ?_)
  | ((with_reducible refine' ⟨?k, ?_⟩); (case k => exact Wp.tyvL (by walk_at "hp")))
  | ((with_reducible refine' Wp.rev_ ?k ?_); (case k => walk_at "hp"))
  | ((with_reducible refine' Wp.isi ?k ?h ?_); (case k => walk_at "kind"); (case h => decide))
  | ((with_reducible refine' Wp.typ ?k ?_); (case k => walk_at "kind"))
  | (with_reducible refine Wp.slS ?k ?_; (case k => assumption))
  | (with_reducible refine iteT ?_)
  | (with_reducible refine iteF ?_)
  | (with_reducible refine Wtc.dcL ?_)
  | (with_reducible refine Wst.step ?_)
  | (with_reducible refine Wtc.dget2 ?_)
  | (with_reducible refine Wtc.lcZ ?_)
  | (with_reducible refine Wrw.loop_setLc ?_)
  | (with_reducible refine Wz.par ?_)
  | (with_reducible refine Wz.forN ?_)
  | (with_reducible refine Wz.dcL ?_)
  | (with_reducible refine Wz.forZ ?_)
  | (with_reducible refine Wz.lcR3 ?_)
  | (with_reducible refine Wc.revL ?_)
  | (with_reducible refine Wd.nm ?_)
  | (with_reducible refine Wd.nget ?_)
  | ((with_reducible refine Wd.tnew ?_); intro p hp)
  | (with_reducible refine Wd.pikn ?_)
  | (with_reducible refine Wt.m1 ?_)
  | (with_reducible refine Wt.m0 ?_)
  | ((with_reducible refine' ⟨?k, ?_⟩); (case k => show ∃ a, _ = V.str a; exact ⟨_, rfl⟩))
  | (with_reducible refine Wt.js_cons ?_)
  | (with_reducible refine Wt.fmt_ ?_)
  | (with_reducible refine Wp.pcons ?_)
  | (with_reducible refine Wp.pnil ?_)
  | ((with_reducible refine' Wp.iteBnT ?h ?_); (case h => show isB _ _ = false; decide))
  | ((with_reducible refine' Wp.iteBnF ?h ?_); (case h => show isB _ _ = true; decide))
  | ((with_reducible refine' Wp.iteBt ?h ?_); (case h => show isB _ _ = true; decide))
  | ((with_reducible refine' Wp.iteBf ?h ?_); (case h => show isB _ _ = false; decide))
  | (with_reducible refine Wp.iteT' ?_)
  | (with_reducible refine Wp.iteF' ?_)
  | (with_reducible refine Wp.rNT_ ?_)
  | ((with_reducible refine Wp.lst ?_))
  | ((with_reducible refine Wp.tup ?_))
  | ((with_reducible refine' Wp.ixL ?h ?e ?_); (case h => walk_at "sq"); (case e => exact rfl))
  | ((with_reducible refine' Wp.ixT ?h ?e ?_); (case h => walk_at "sq"); (case e => exact rfl))
  | ((with_reducible refine' Wp.setL ?h ?e ?_); (case h => walk_at "hp"); (case e => exact rfl))
  | ((with_reducible refine Wp.rI_ ?k ?_); (case k => first | (show (0:Int) < _; omega) | (show CPow _ _; refine' ⟨?_, ?_, ?_⟩ <;> omega) | (show CDiv _ _; refine' ⟨?_, ?_⟩ <;> omega) | (show CMul _ _; refine' Or.inl ⟨?_, ?_⟩ <;> omega) | (show CMul _ _; refine' Or.inr ⟨?_, ?_⟩ <;> first | omega | decide) | (show CDivW _ _; refine' wide_div (b := 240) ?_ ?_ ?_ ?_ <;> first | omega | decide)))
  | ((with_reducible refine ⟨?k, ?_⟩); (case k => first | exact Nat.zero_le _ | (exact Nat.le_of_ble_eq_true rfl)); intro p hp)
  | ((with_reducible refine' ⟨_, _, rfl, .inl ?k, ?_⟩); (case k => walk_at "sq"))
  | ((with_reducible refine' ⟨_, _, rfl, .inr ?k, ?_⟩); (case k => walk_at "sq"))
  | (with_reducible refine ⟨_, rfl, ?_⟩)
  | (with_reducible refine ⟨_, _, rfl, rfl, ?_⟩)
  | (with_reducible refine ⟨_, _, rfl, ?_⟩))
local macro_rules | `(tactic| walk_at "wp") => `(tactic| repeat (walk_at "w1"))

local macro_rules | `(tactic| walk_at "pf") => `(tactic| first
  | (with_reducible exact Wcl.pf0)
  | (with_reducible exact Wcl.pf1)
  | ((with_reducible refine' Wcl.pf2 ?n ?h); (case n => decide +kernel); (case h => walk_at "pf")))
local macro_rules | `(tactic| walk_at "w1") => `(tactic| first
  | (with_reducible refine Wcl.fld_ ?_)
  | (with_reducible refine Wcl.sfld_ ?_)
  | (with_reducible refine Wcl.meth_ ?_)
  | (with_reducible refine Wcl.make_ ?_)
  | (with_reducible refine Wcl.dcZ ?_)
  | (with_reducible refine Wcl.ddelT_ ?_)
  | (with_reducible refine Wcl.daug_ ?_)
  | (with_reducible refine Wcl.dpop1_ ?_)
  | ((with_reducible refine Wcl.dnewT_ ?_); intro p hp)
  | ((with_reducible refine Wcl.dnewK_ ?_); intro p hp)
  | ((with_reducible refine' Wcl.fldR ?h ?c ?n ?e ?_); (case h => walk_at "hp"); (case c => assumption); (case n => assumption); (case e => exact rfl))
  | ((with_reducible refine' Wcl.sfldR ?h ?c ?n ?l ?e ?_); (case h => walk_at "hp"); (case c => assumption); (case n => assumption); (case l => exact Nat.le_of_ble_eq_true rfl); (case e => walk_at "pf"))
  | ((with_reducible refine' Wcl.methR ?h ?l ?_); (case h => walk_at "hp"); (case l => exact rfl)))

section
variable {P : Program} {w : World} {K : PySem.W.Frag} {mg : Str → Option Value} {base : Heap}
/-! ### taken; what is asked of numbers and names -/
section
variable {I : PilI K} {hc : Addr}
/-- behind a change all of the piles -/
theorem raw_step {oT : Addr} {S S' : List Addr} {H H' : Hp} {B : HA} {D : Pic} {gs : List Gz} {L G L' G' Z : List W} {ws : List W} (X : HouR I hc oT S H B D gs L G Z) (hl : Whs.Held D) (s : Wpi.Step I oT B.p B.A (Whs.rest D) Z S H L G S' H' ws (gs.map (·.2.2)) L' G') : HouR I hc oT S' H' B { D with pile := ws } gs L' G' Z ∧ (∀ z ∈ ({ D with pile := ws } : Pic).things, z ∉ ({ D with pile := ws } : Pic).worths → z ∈ G') ∧ Mv (All B S) H (All B S') H' := by
  obtain ⟨x, k, g⟩ := X.x.step s
  have R' : HouR I hc oT S' H' B { D with pile := ws } gs L' G' Z := ⟨⟨x.hh, x.pegs, x.boxes, x.goings, x.pt, x.nd, x.sp⟩, X.geq⟩
  refine ⟨R', fun z hz n => ?_, k, g⟩
  have t := thing_isT hz
  exact s.lo.2 z ((X.mem t).mpr (hl z hz)) t fun m => n ((R'.mem t).mp m)
theorem ok_Copies_take (T : Txt P w K mg) (C : HCl K hc) (M_height : MOk P w K mg base I.o "height" ["self"] 9 (spPHeight I)) (M_take : MOk P w K mg base I.o "take" ["self", "k"] 9 (spPTake I T.o_Tally)) (N_settle : MOk P w K mg base hc "settle" ["self"] 12 (spSettle I hc T.o_Tally)) : FnOk P w K mg base CX0 13 T.f_Copies_take T.fd_Copies_take ["self", "k"] (spHTake I hc T.o_Tally) := by
  have G_check_place := ok_check_place (base := base) T
  refine T.F_Copies_take.ok sc_Copies_take (fun vs H Q E h => ?_) (fun cdv Ar outer s H vs Q E hr h => ?_)
  · obtain ⟨S, h, D, k, rfl, _⟩ := h
    rfl
  · obtain ⟨S, h, D, k, rfl, ⟨B, Sp, gs, L, G, rfl, rfl, X, ok, hl⟩, sz, hk, q⟩ := h
    refine ⟨_, (pss_cons (ps_expr (pe_call G_check_place (hr.mono (by decide)) (by rfl) T.g_check_place T.F_check_place.kp T.b_check_place .nil pass0 (pa_cons (pv 1) (pa_cons (pe_meth0 (pe_fld (pv 0) rfl) I.cl M_height.me M_height.g (hr.mono (by decide)) M_height.b .nil pass0) pa_nil))))
      (pss_cons (ps_set (i := 2) sc_Copies_take.nd rfl (.inl rfl) (pe_meth (pe_fld (pv 0) rfl) I.cl M_take.me M_take.g (hr.mono (by decide)) M_take.b .nil pass0 (pa_cons (pv 1) pa_nil)))
      (pss_cons (ps_expr (pe_meth0 (pv 0) C.cl N_settle.me N_settle.g (hr.mono (by decide)) N_settle.b .nil pass0))
      (pss_one (ps_ret (pv 2)))))), ?_⟩
    rw [show L2.start ["self", "k", "worth"] [.ref B.h, .int k] = [some (.ref B.h), some (.int k), none] from rfl]
    try dsimp only [cxOf]
    have c0 := C.cl
    have c1 := C.n1
    have hh := X.x.hh
    obtain ⟨dp, fs, hp, hm⟩ := X.x.pins
    walk_at "wp"
    refine Wcl.methR hp (hm _ (by simp [meths])) ?_
    walk_at "wp"
    refine ⟨Sp, B.p, B.A, _, _, L, rfl, X.x.pt.at_, ?_⟩
    walk_at "wp"
    refine ⟨_, _, rfl, by omega, by omega, ?_⟩
    have spl := sz.pile
    walk_at "wp"
    refine Wcl.methR hp (hm _ (by simp [meths])) ?_
    walk_at "wp"
    refine ⟨Sp, B.p, B.A, _, _, L, _, G, _, k, rfl, X.x.pt, hk, by omega, fun S1 H1 L1 G1 v z hz wv st => ?_⟩
    obtain ⟨X1, raw, mv⟩ := raw_step X hl st
    have hh1 := X1.x.hh
    have zp : z ∈ D.pile := List.mem_of_getElem? hz
    have ok1 : Dok { D with pile := D.pile.eraseIdx (D.pile.length - 1 - k) } := dok_pile ok fun y hy => pile_ok ok ((List.eraseIdx_sublist _ _).subset hy)
    have sz1 : Sz { D with pile := D.pile.eraseIdx (D.pile.length - 1 - k) } := ⟨by
      show (D.pile.eraseIdx (D.pile.length - 1 - k)).length ≤ 300000
      rw [List.length_eraseIdx_of_lt (by omega)]; omega, sz.pegs, sz.boxes, sz.goings, sz.whole⟩
    walk_at "wp"
    refine ⟨S1, B, _, gs, L1, G1, _, rfl, X1, ok1, sz1, raw, fun D' S2 H2 sd hou mv2 => ?_⟩
    walk_at "wp"
    exact q D' S2 H2 v z hz (wv.keep mv2.1.tk) sd hou (Mv.trans mv mv2)
theorem ok_Copies_check_box (T : Txt P w K mg) (C : HCl K hc) : FnOk P w K mg base CX0 3 T.f_Copies_check_box T.fd_Copies_check_box ["self", "b"] (spCheckN I hc T.o_Tally fun D => D.boxes.map (·.1)) := by
  have G_is_number := ok_is_number (base := base) T
  refine T.F_Copies_check_box.ok sc_Copies_check_box (fun vs H Q E h => ?_) (fun cdv Ar outer s H vs Q E hr h => ?_)
  · obtain ⟨S, B, D, gs, L, G, Z, n, rfl, _⟩ := h
    rfl
  · obtain ⟨S, B, D, gs, L, G, Z, n, rfl, X, hn, q⟩ := h
    refine ⟨_, (pss_one (ps_if (PW.pt (pw_or (pt_not (pt_val (pe_call G_is_number (hr.mono (by decide)) (by rfl) T.g_is_number T.F_is_number.kp T.b_is_number .nil pass0 (pa_cons (pv 1) pa_nil)))) (pw_or1 (pt_cmp (pc_dnotin (hu_of hr) (pv 1) (pe_fld (pv 0) rfl)))))) (pss_one ps_never) pss_nil)), ?_⟩
    rw [show L2.start ["self", "b"] [.ref B.h, .int n] = [some (.ref B.h), some (.int n)] from rfl]
    try dsimp only [cxOf]
    have c0 := C.cl
    have c4 := C.n4
    have hh := X.x.hh
    obtain ⟨kvb, b1, b2⟩ := X.x.boxes
    walk_at "wp"
    refine ⟨_, "int", rfl, .int n, ?_⟩
    walk_at "wp"
    refine iteN (fun e => absurd rfl e) (fun _ => ?_)
    walk_at "wp"
    refine ⟨B.bd, _, rfl, DGet.k (k := Sum.inl n) b1, ?_⟩
    rw [(kv_some bv_key b2).mpr (mem_kB.mpr hn)]
    walk_at "wp"
    exact q
theorem ok_Copies_held (T : Txt P w K mg) (C : HCl K hc) (N_check_box : MOk P w K mg base hc "check_box" ["self", "b"] 9 (spCheckN I hc T.o_Tally fun D => D.boxes.map (·.1))) : FnOk P w K mg base CX0 10 T.f_Copies_held T.fd_Copies_held ["self", "b"] (spHHeld I hc T.o_Tally) := by
  refine T.F_Copies_held.ok sc_Copies_held (fun vs H Q E h => ?_) (fun cdv Ar outer s H vs Q E hr h => ?_)
  · obtain ⟨S, h, D, b, rfl, _⟩ := h
    rfl
  · obtain ⟨S, h, D, b, rfl, ⟨B, Sp, gs, L, G, rfl, rfl, X, ok, hl⟩, hb, q⟩ := h
    refine ⟨_, (pss_cons (ps_expr (pe_meth (pv 0) C.cl N_check_box.me N_check_box.g (hr.mono (by decide)) N_check_box.b .nil pass0 (pa_cons (pv 1) pa_nil)))
      (pss_one (ps_ret (pe_dget (hu_of hr) (pe_fld (pv 0) rfl) (pv 1) (fun _ _ => rfl))))), ?_⟩
    rw [show L2.start ["self", "b"] [.ref B.h, .int b.1] = [some (.ref B.h), some (.int b.1)] from rfl]
    try dsimp only [cxOf]
    have c0 := C.cl
    have c4 := C.n4
    have hh := X.x.hh
    obtain ⟨kvb, b1, b2⟩ := X.x.boxes
    obtain ⟨v, hv, fv⟩ := kv_at (k := Sum.inl b.1) bv_key b2 (nd_kB ok.boxU) hb rfl
    have gk := DGet.k (k := Sum.inl b.1) b1
    rw [hv] at gk
    walk_at "wp"
    refine ⟨Sp, B, D, gs, L, G, _, b.1, rfl, X, List.mem_map_of_mem hb, ?_⟩
    walk_at "wp"
    refine ⟨B.bd, _, rfl, gk, ?_⟩
    exact q v fv.2
theorem ok_Copies_keep (T : Txt P w K mg) (C : HCl K hc) (M_keep : MOk P w K mg base I.o "keep" ["self"] 9 (spPKeep I T.o_Tally)) (M_put : MOk P w K mg base I.o "put" ["self", "worth"] 9 (spPPut I T.o_Tally)) : FnOk P w K mg base CX0 10 T.f_Copies_keep T.fd_Copies_keep ["self", "place"] (spHKeep I hc T.o_Tally) := by
  have G_is_count := ok_is_count (base := base) T
  have G_least_free := ok_least_free (base := base) T
  refine T.F_Copies_keep.ok sc_Copies_keep (fun vs H Q E h => ?_) (fun cdv Ar outer s H vs Q E hr h => ?_)
  · obtain ⟨S, h, D, pl, rfl, _⟩ := h
    rfl
  · obtain ⟨S, h, D, pl, rfl, ⟨B, Sp, gs, L, G, rfl, rfl, X, ok, hl⟩, sz, hpl, q⟩ := h
    refine ⟨_, (pss_cons (ps_if (pt_not (pt_val (pe_call G_is_count (hr.mono (by decide)) (by rfl) T.g_is_count T.F_is_count.kp T.b_is_count .nil pass0 (pa_cons (pv 1) pa_nil)))) (pss_one ps_never) pss_nil)
      (pss_cons (ps_set (i := 2) sc_Copies_keep.nd rfl (.inl rfl) (pe_call G_least_free (hr.mono (by decide)) (by rfl) T.g_least_free T.F_least_free.kp T.b_least_free .nil pass0 (pa_cons (pe_fld (pv 0) rfl) pa_nil)))
      (pss_cons (ps_dput (hu_of hr) (pe_fld (pv 0) rfl) (pv 2) (pe_tup (pa_cons (pv 1) (pa_cons (pe_meth0 (pe_fld (pv 0) rfl) I.cl M_keep.me M_keep.g (hr.mono (by decide)) M_keep.b .nil pass0) pa_nil))) rfl)
      (pss_cons (ps_expr (pe_meth (pe_fld (pv 0) rfl) I.cl M_put.me M_put.g (hr.mono (by decide)) M_put.b .nil pass0 (pa_cons (pe_tup (pa_cons pe_str (pa_cons (pv 2) pa_nil))) pa_nil)))
      (pss_one (ps_ret (pv 2))))))), ?_⟩
    rw [show L2.start ["self", "place", "g"] [.ref B.h, .int pl] = [some (.ref B.h), some (.int pl), none] from rfl]
    try dsimp only [cxOf]
    have c0 := C.cl
    have c1 := C.n1
    have c5 := C.n5
    have hh := X.x.hh
    obtain ⟨dp, fs, hp, hm⟩ := X.x.pins
    obtain ⟨kvg, g1, g2⟩ := X.x.goings
    have spl := sz.pile
    have sgl := sz.goings
    have gsl : gs.length = D.goings.length := by rw [X.geq, List.length_map]
    have kvl : kvg.length = gs.length := Paired.length g2
    have line : (1000000 : Nat) < sizeLine := by decide
    walk_at "wp"
    refine ⟨pl, rfl, hpl, ?_⟩
    walk_at "wp"
    refine ⟨B.gd, kvg, gs.map (·.1), rfl, g1, by
      have := kv_keys gv_key g2
      rw [this, List.map_map]; rfl, by rw [List.length_map]; omega, fun n n1 n2 => ?_⟩
    have X0 := X.x.pt
    walk_at "wp"
    refine Wcl.methR hp (hm _ (by simp [meths])) ?_
    walk_at "wp"
    refine ⟨Sp, B.p, B.A, _, _, L, _, G, _, rfl, X0, by omega, fun S1 H1 L1 G1 kv st => ?_⟩
    obtain ⟨X1, k1, gw1⟩ := X.x.step st
    walk_at "wp"
    rename_i t ht
    have s1 := same_new (o := .tup [.int pl, kv]) ht
    have X2 := X1.same s1
    have ht2 : upd H1 t (.tup [.int pl, kv]) t = some (.tup [.int pl, kv]) := upd_same
    generalize upd H1 t (.tup [.int pl, kv]) = H2 at s1 X2 ht2
    have hh2 := X2.hh
    obtain ⟨kvg2, f1, f2⟩ := X2.goings
    have kvl2 : kvg2.length = gs.length := Paired.length f2
    walk_at "wp"
    refine ⟨B.gd, _, rfl, DPut.k (k := Sum.inl (n : Int)) f1 (by omega), ?_⟩
    have pnew := kv_new (k := Sum.inl (n : Int)) (v := .ref t) (a := ((n : Int), pl, (kv, D.pile))) gv_key f2 (fun b hb e => n1 (List.mem_map.mpr ⟨b, hb, Sum.inl.inj e⟩)) ⟨rfl, t, rfl, ht2⟩
    obtain ⟨X3, k3⟩ := X2.setG pnew
    generalize upd H2 B.gd (.dK (putK kvg2 (Sum.inl (n : Int)) (.ref t))) = H3 at X3 k3
    have hh3 := X3.hh
    obtain ⟨dp3, fs3, hp3, hm3⟩ := X3.pins
    walk_at "wp"
    refine Wcl.methR hp3 (hm3 _ (by simp [meths])) ?_
    walk_at "wp"
    rename_i t2 ht2'
    have s4 := same_new (o := .tup [.str "go", .int (n : Int)]) ht2'
    have X4 := X3.same s4
    have wt : IsW (upd H3 t2 (.tup [.str "go", .int (n : Int)])) (.ref t2) (sGo, (n : Int)) := ⟨t2, rfl, upd_same⟩
    generalize upd H3 t2 (.tup [.str "go", .int (n : Int)]) = H4 at s4 X4 wt
    -- one thing more has its room
    have X4r : PilT I T.o_Tally S1 H4 B.p B.A D.pile (gs.map (·.2.2) ++ [(kv, D.pile)]) L1 (Whs.rest D) G1 (D.things ++ [(sGo, (n : Int))]) := ⟨X4.pt.at_, X4.pt.tl.room (by rw [List.length_append]; have := things_sz sz; show _ + 1 ≤ _; omega) (fun y hy => List.mem_append_left _ hy), X4.pt.n1, X4.pt.n2, X4.pt.n3⟩
    refine ⟨S1, B.p, B.A, D.pile, _, L1, _, G1, _, .ref t2, (sGo, (n : Int)), rfl, X4r, wt, fun _ => by simp, by omega, fun S5 H5 L5 G5 st5 => ?_⟩
    have X4' : HouX I hc T.o_Tally S1 H4 B D.pile D (gs ++ [((n : Int), pl, (kv, D.pile))]) (gs.map (·.2.2) ++ [(kv, D.pile)]) L1 (Whs.rest D) G1 (D.things ++ [(sGo, (n : Int))]) := ⟨X4.hh, X4.pegs, X4.boxes, X4.goings, X4r, X4.nd, X4.sp⟩
    obtain ⟨X5, k5, gw5⟩ := X4'.step st5
    walk_at "wp"
    have ls : Least (D.goings.map (·.1)) n := by rw [gq_nums X.geq]; exact ⟨n1, n2⟩
    have tD : ∀ y, y ∈ ({ D with pile := D.pile ++ [(sGo, (n : Int))], goings := D.goings ++ [((n : Int), pl, D.pile)] } : Pic).things ↔ y ∈ D.things ∨ y = (sGo, (n : Int)) := fun y => by
      unfold Pic.things
      simp only [List.map_append, List.map_cons, List.map_nil, List.mem_append, List.mem_singleton, or_assoc]
    have wD : ∀ y, y ∈ ({ D with pile := D.pile ++ [(sGo, (n : Int))], goings := D.goings ++ [((n : Int), pl, D.pile)] } : Pic).worths ↔ y ∈ D.worths ∨ y = (sGo, (n : Int)) := fun y => by
      rw [Wow.memW, Wow.memW]
      simp only [List.mem_append, List.mem_singleton]
      constructor
      · rintro ((a | a) | a | a | ⟨g, hg | hg, a⟩)
        · exact .inl (.inl a)
        · exact .inr a
        · exact .inl (.inr (.inl a))
        · exact .inl (.inr (.inr (.inl a)))
        · exact .inl (.inr (.inr (.inr ⟨g, hg, a⟩)))
        · rw [hg] at a; exact .inl (.inl a)
      · rintro ((a | a | a | ⟨g, hg, a⟩) | a)
        · exact .inl (.inl a)
        · exact .inr (.inl a)
        · exact .inr (.inr (.inl a))
        · exact .inr (.inr (.inr ⟨g, .inl hg, a⟩))
        · exact .inl (.inr a)
    refine q (All B S5) H5 n ls ⟨B, S5, gs ++ [((n : Int), pl, (kv, D.pile))], L5, G5, rfl, rfl, ⟨⟨X5.hh, X5.pegs, X5.boxes, X5.goings, ?_, X5.nd, X5.sp⟩, ?_⟩, ⟨fun y hy => ?_, ok.pegN, ok.pegU, ok.boxU, ok.boxN, ?_, fun g hg => ?_, fun y hy t => ?_⟩, fun y hy => ?_⟩ ?_
    · rw [List.map_append]
      refine ⟨X5.pt.at_, X5.pt.tl.room ?_ fun y hy => ?_, X5.pt.n1, X5.pt.n2, X5.pt.n3⟩
      · have := things_sz sz
        unfold Pic.things at this ⊢
        simp only [List.map_append, List.length_append, List.length_map, List.length_singleton] at this ⊢; omega
      · rw [tD]; simpa using hy
    · rw [List.map_append, X.geq]; rfl
    · rcases (wD y).mp hy with h | h
      · exact ok.words y h
      · rw [h]; exact .inl ⟨.inr rfl, by show (0 : Int) ≤ (n : Int); omega⟩
    · rw [List.map_append, List.nodup_append]
      refine ⟨ok.goU, by simp, fun x hx y hy e => ls.1 ?_⟩
      rw [List.map_cons, List.map_nil, List.mem_singleton] at hy
      have e2 : x = (n : Int) := e.trans hy
      rw [← e2]; exact hx
    · rcases List.mem_append.mp hg with hg | hg
      · exact ok.goN g hg
      · rw [List.mem_singleton.mp hg]; exact ⟨by show (0 : Int) ≤ (n : Int); omega, hpl⟩
    · rcases (wD y).mp hy with h | h
      · exact (tD y).mpr (.inl (ok.closed y h t))
      · exact (tD y).mpr (.inr h)
    · rcases (tD y).mp hy with h | h
      · exact (wD y).mpr (.inl (hl y h))
      · exact (wD y).mpr (.inr h)
    · exact Mv.trans ⟨k1, gw1⟩ (Mv.trans (Mv.same s1) (Mv.trans ⟨k3.mono (by simp [All]), Grow.refl⟩ (Mv.trans (Mv.same s4) ⟨k5, gw5⟩)))
end

end
end K28

namespace K28
open PySem PySem.Spec PyProof.Rows L2 Wp Wq Wr Wpm Wth Wta Wpi Whs
local macro_rules | `(tactic| walk_at "ne") => `(tactic| first
  | assumption
  | (refine Ne.symm ?_; assumption)
  | exact ne_of_none (by assumption) (by assumption)
  | exact (ne_of_none (by assumption) (by assumption)).symm
  | exact ne_of (by assumption) (by assumption) (by intro q; cases q))
local macro_rules | `(tactic| walk_at "hp") => `(tactic| first
  | assumption
  | exact upd_same
  | (refine (upd_ne ?_).trans ?_; (walk_at "ne"); (walk_at "hp")))
local macro_rules | `(tactic| walk_at "hq") => `(tactic| first
  | assumption
  | exact upd_same
  | (refine same_new (by assumption) _ _ ?_; (walk_at "hq"))
  | (refine Wp.look (by assumption) ?_; (walk_at "hq")))
local macro_rules | `(tactic| walk_at "sm") => `(tactic| first
  | assumption
  | exact fun _ _ h => h
  | exact same_new (by assumption)
  | (refine Same.trans ?_ (same_new (by assumption)); (walk_at "sm"))
  | (refine Same.trans ?_ (by assumption); (walk_at "sm")))
local macro_rules | `(tactic| walk_at "kp") => `(tactic| first
  | assumption
  | exact Kp.refl _ _
  | (refine Kp.trans ?_ (Kp.new (by assumption)); (walk_at "kp"))
  | (refine Kp.trans ?_ (Same.kp (by assumption)); (walk_at "kp"))
  | (refine Wp.kpT ?_ (by assumption); (walk_at "kp"))
  | exact Same.kp (by walk_at "sm"))
local macro_rules | `(tactic| walk_at "sq") => `(tactic| first
  | assumption
  | exact SqL.of (by walk_at "hp")
  | exact SqT.of (by walk_at "hp"))
local macro_rules | `(tactic| walk_at "kind") => `(tactic| first
  | assumption
  | exact Kind.int _
  | exact Kind.str _
  | exact Kind.bl _
  | exact Kind.non
  | exact Kind.tup (by walk_at "hp")
  | exact Kind.lst (by walk_at "hp")
  | exact Kind.dK (by walk_at "hp"))
local macro_rules | `(tactic| walk_at "w1") => `(tactic| first
  | (with_reducible refine Wp.seq ?_)
  | (with_reducible refine Wp.nx_mk ?_)
  | (with_reducible refine Wp.rt_mk ?_)
  | (with_reducible refine Wp.bk_mk ?_)
  | (with_reducible refine Wp.ct_mk ?_)
  | (with_reducible refine Wp.next ?_)
  | (with_reducible refine Wp.asg ?_)
  | ((with_reducible refine' Wp.gname ?e ?_); (case e => (try dsimp only [List.set, L2.wipe, List.map_cons, List.map_nil]); (try exact rfl)))
  | (with_reducible refine Wp.gsub ?_)
  | (with_reducible refine Wp.ret ?_)
  | (with_reducible refine Wp.retN ?_)
  | (with_reducible refine Wp.drop ?_)
  | (with_reducible refine Wp.dput ?_)
  | (with_reducible refine Wp.ifs ?_)
  | ((with_reducible refine' Wp.var ?h ?_); (case h => exact rfl))
  | (with_reducible refine Wp.con ?_)
  | (with_reducible refine Wp.op ?_)
  | (with_reducible refine Wp.un ?_)
  | (with_reducible refine Wp.cb ?_)
  | (with_reducible refine Wp.anil ?_)
  | (with_reducible refine Wp.acons ?_)
  | (with_reducible refine Wp.call ?_)
  | (with_reducible refine Wp.test ?_)
  | (with_reducible refine Wp.tb_ ?_)
  | (with_reducible refine Wp.and_ ?_)
  | (with_reducible refine Wp.or_ ?_)
  | (with_reducible refine Wp.not_ ?_)
  | (with_reducible refine Wp.andV ?_)
  | (with_reducible refine Wp.orV ?_)
  | (with_reducible refine Wp.notV ?_)
  | (with_reducible refine Wp.rI0_ ?_)
  | (with_reducible refine Wp.rU_ ?_)
  | ((with_reducible refine Wp.rEq_ ?k ?_); (case k => exact rfl))
  | ((with_reducible refine Wp.rNe_ ?k ?_); (case k => exact rfl))
  | (with_reducible refine Wp.gcons ?_)
  | (with_reducible refine Wp.gnil ?_)
  | ((with_reducible refine' Wp.gtup ?h ?e ?_); (case h => walk_at "sq"); (case e => exact rfl))
  | (with_reducible refine Wp.sl ?_)
  | (with_reducible refine Wp.part ?_)
  | (with_reducible refine Wp.nopart ?_)
  | (with_reducible refine Wp.ifE ?_)
  | (with_reducible refine Wp.bm0 ?_)
  | (with_reducible refine Wp.bm ?_)
  | (with_reducible refine Wp.lcR1 ?_)
  | (with_reducible refine Wp.lcR2 ?_)
  | (with_reducible refine Wp.lcL ?_)
  | (with_reducible refine Wp.chain ?_)
  | (with_reducible refine Wp.lc2V ?_)
  | (with_reducible refine Wp.piL ?_)
  | (with_reducible refine Wp.yes ?_)
  | (with_reducible refine Wp.dinI ?_)
  | (with_reducible refine Wp.dninI ?_)
  | (with_reducible refine Wp.dget ?_)
  | ((with_reducible refine' ⟨?k, ?_⟩); (case k => show L2.wipe _ _ = L2.wipe _ _; exact rfl))
  | ((with_reducible refine' ⟨?k, ?_⟩); (case k => show V.non = V.non; exact rfl))
  | (with_reducible refine Wp.forR1 ?_)
  | (with_reducible refine Wp.forR2 ?_)
  | (with_reducible refine Wp.forL ?_)
  | (with_reducible refine Wp.forT ?_)
  | ((with_reducible refine' ⟨?k, ?_⟩); (case k => exact Wp.tyvL (by walk_at "hp")))
  | ((with_reducible refine' Wp.rev_ ?k ?_); (case k => walk_at "hp"))
  | ((with_reducible refine' Wp.isi ?k ?h ?_); (case k => walk_at "kind"); (case h => decide))
  | ((with_reducible refine' Wp.typ ?k ?_); (case k => walk_at "kind"))
  | (with_reducible refine Wp.slS ?k ?_; (case k => assumption))
  | (with_reducible refine iteT ?_)
  | (with_reducible refine iteF ?_)
  | (with_reducible refine Wtc.dcL ?_)
  | (with_reducible refine Wst.step ?_)
  | (with_reducible refine Wtc.dget2 ?_)
  | (with_reducible refine Wtc.lcZ ?_)
  | (with_reducible refine Wrw.loop_setLc ?_)
  | (with_reducible refine Wz.par ?_)
  | (with_reducible refine Wz.forN ?_)
  | (with_reducible refine Wz.dcL ?_)
  | (with_reducible refine Wz.forZ ?_)
  | (with_reducible refine Wz.lcR3 ?_)
  | (with_reducible refine Wc.revL ?_)
  | (with_reducible refine Wd.nm ?_)
  | (with_reducible refine Wd.nget ?_)
  | ((with_reducible refine Wd.tnew ?_); intro p hp)
  | (with_reducible refine Wd.pikn ?_)
  | (with_reducible refine Wt.m1 ?_)
  | (with_reducible refine Wt.m0 ?_)
  | ((with_reducible refine' ⟨?k, ?_⟩); (case k => show ∃ a, _ = V.str a; exact ⟨_, rfl⟩))
  | (with_reducible refine Wt.js_cons ?_)
  | (with_reducible refine Wt.fmt_ ?_)
  | (with_reducible refine Wp.pcons ?_)
  | (with_reducible refine Wp.pnil ?_)
  | ((with_reducible refine' Wp.iteBnT ?h ?_); (case h => show isB _ _ = false; decide))
  | ((with_reducible refine' Wp.iteBnF ?h ?_); (case h => show isB _ _ = true; decide))
  | ((with_reducible refine' Wp.iteBt ?h ?_); (case h => show isB _ _ = true; decide))
  | ((with_reducible refine' Wp.iteBf ?h ?_); (case h => show isB _ _ = false; decide))
  | (with_reducible refine Wp.iteT' ?_)
  | (with_reducible refine Wp.iteF' ?_)
  | (with_reducible refine Wp.rNT_ ?_)
  | ((with_reducible refine Wp.lst ?_))
  | ((with_reducible refine Wp.tup ?_))
  | ((with_reducible refine' Wp.ixL ?h ?e ?_); (case h => walk_at "sq"); (case e => exact rfl))
  | ((with_reducible refine' Wp.ixT ?h ?e ?_); (case h => walk_at "sq"); (case e => exact rfl))
  | ((with_reducible refine' Wp.setL ?h ?e ?_); (case h => walk_at "hp"); (case e => exact rfl))
  | ((with_reducible refine Wp.rI_ ?k ?_); (case k => first | (show (0:Int) < _; omega) | (show CPow _ _; refine' ⟨?_, ?_, ?_⟩ <;> omega) | (show CDiv _ _; refine' ⟨?_, ?_⟩ <;> omega) | (show CMul _ _; refine' Or.inl ⟨?_, ?_⟩ <;> omega) | (show CMul _ _; refine' Or.inr ⟨?_, ?_⟩ <;> first | omega | decide) | (show CDivW _ _; refine' wide_div (b := 240) ?_ ?_ ?_ ?_ <;> first | omega | decide)))
  | ((with_reducible refine ⟨?k, ?_⟩); (case k => first | exact Nat.zero_le _ | (exact Nat.le_of_ble_eq_true rfl)); intro p hp)
  | ((with_reducible refine' ⟨_, _, rfl, .inl ?k, ?_⟩); (case k => walk_at "sq"))
  | ((with_reducible refine' ⟨_, _, rfl, .inr ?k, ?_⟩); (case k => walk_at "sq"))
  | (with_reducible refine ⟨_, rfl, ?_⟩)
  | (with_reducible refine ⟨_, _, rfl, rfl, ?_⟩)
  | (with_reducible refine ⟨_, _, rfl, ?_⟩))
local macro_rules | `(tactic| walk_at "wp") => `(tactic| repeat (walk_at "w1"))

local macro_rules | `(tactic| walk_at "pf") => `(tactic| first
  | (with_reducible exact Wcl.pf0)
  | (with_reducible exact Wcl.pf1)
  | ((with_reducible refine' Wcl.pf2 ?n ?h); (case n => decide +kernel); (case h => walk_at "pf")))
local macro_rules | `(tactic| walk_at "w1") => `(tactic| first
  | (with_reducible refine Wcl.fld_ ?_)
  | (with_reducible refine Wcl.sfld_ ?_)
  | (with_reducible refine Wcl.meth_ ?_)
  | (with_reducible refine Wcl.make_ ?_)
  | (with_reducible refine Wcl.dcZ ?_)
  | (with_reducible refine Wcl.ddelT_ ?_)
  | (with_reducible refine Wcl.daug_ ?_)
  | (with_reducible refine Wcl.dpop1_ ?_)
  | ((with_reducible refine Wcl.dnewT_ ?_); intro p hp)
  | ((with_reducible refine Wcl.dnewK_ ?_); intro p hp)
  | ((with_reducible refine' Wcl.fldR ?h ?c ?n ?e ?_); (case h => walk_at "hp"); (case c => assumption); (case n => assumption); (case e => exact rfl))
  | ((with_reducible refine' Wcl.sfldR ?h ?c ?n ?l ?e ?_); (case h => walk_at "hp"); (case c => assumption); (case n => assumption); (case l => exact Nat.le_of_ble_eq_true rfl); (case e => walk_at "pf"))
  | ((with_reducible refine' Wcl.methR ?h ?l ?_); (case h => walk_at "hp"); (case l => exact rfl)))

section
variable {P : Program} {w : World} {K : PySem.W.Frag} {mg : Str → Option Value} {base : Heap}
theorem all_true {α : Type} (ws : List α) : (ws.map fun _ => true).all id = true := List.all_eq_true.mpr fun b hb => by obtain ⟨_, _, rfl⟩ := List.mem_map.mp hb; rfl
theorem true_snoc {α : Type} {ws : List α} {j : Nat} {z : α} (h : ws[j]? = some z) : ((ws.take j).map fun _ => true).map V.bl ++ [V.bl true] = ((ws.take (j + 1)).map fun _ => true).map V.bl := by
  rw [List.take_add_one, h, List.map_append, List.map_append] <;> rfl
def spIsName : Sp := fun vs H Q _ => ∃ s : Str, vs = [.str s] ∧ Wu.Nm s ∧ 1 ≤ s.length ∧ ∀ H', Same H H' → Q (.bl true) H'
theorem ok_is_name (T : Txt P w K mg) : FnOk P w K mg base CX0 1 T.f_is_name T.fd_is_name ["thing"] spIsName := by
  refine T.F_is_name.ok sc_is_name (fun vs H Q E h => ?_) (fun cdv A outer s H vs Q E hr h => ?_)
  · obtain ⟨s, rfl, _⟩ := h
    rfl
  · obtain ⟨z, rfl, ⟨low, l8⟩, l1, q⟩ := h
    refine ⟨_, (pss_cons (ps_if (PW.pt (pw_or (pt_cmpR op_notTyB (pe_callTy call_type1 (by rfl) T.n_type (by decide +kernel) (pa_cons (pv 0) pa_nil)) (pe_bltn (v := .ty "str") (by rfl) T.n_str (by decide +kernel) rfl) (nomark _)) (pw_or1 (pt_not (pt_chain op_le op_le pe_int (pe_callB call_len_str (by rfl) T.n_len (by decide +kernel) (pa_cons (pv 0) pa_nil)) (pe_glob (v := .int 8) (by rfl) T.c_MOST_LETTERS ⟨_, rfl⟩)))))) (pss_one (ps_ret pe_bl)) pss_nil)
      (pss_one (ps_ret (pe_callB (cr_all rfl) (by rfl) T.n_all (by decide +kernel) (pa_cons (pe_lc (own := [("sign", 1)]) rfl sc_is_name.nd (pi_str (pv 0)) (blkOk_by (N := ["thing", "sign"]) (sc := defScope s_is_name) (by decide +kernel)) (fun _ _ _ _ _ => pg_name (i := 1) sc_is_name.nd rfl (Or.inl rfl)) (fun _ _ _ _ _ => pts_nil) (fun _ _ _ _ _ => (pe_cmpR op_in_sign (pv 1) (pe_glob (v := .str "abcdefghijklmnopqrstuvwxyz") (by rfl) T.c_LETTERS ⟨_, rfl⟩) (by rfl)))) pa_nil))))), ?_⟩
    rw [show L2.start ["thing", "sign"] [.str z] = [some (.str z), none] from rfl]
    try dsimp only [cxOf]
    have zl : z.length ≤ sizeLine := Nat.le_of_lt (Wb.small (by omega))
    walk_at "wp"
    refine iteN (fun e => absurd rfl e) (fun _ => ?_)
    walk_at "wp"
    refine ⟨zl, ?_⟩
    walk_at "wp"
    refine ite_ (fun _ => ?_) (fun c => absurd (show (1 : Int) ≤ (z.length : Nat) by omega) c)
    walk_at "wp"
    refine iteN (fun c => absurd (show ((z.length : Nat) : Int) ≤ 8 by omega) c) (fun _ => ?_)
    walk_at "wp"
    refine Wip.lcS ?_
    walk_at "wp"
    intro D hD
    refine Wip.loopCS (fun j H' => Same H H' ∧ H' D = some (.lst (((z.cps.toList.take j).map fun _ => true).map V.bl))) ⟨same_new hD, upd_same⟩ ?_ ?_
    · rintro j c H4 hc ⟨s4, hD4⟩
      have cm := low c (List.mem_of_getElem? hc)
      have jl := (List.getElem?_eq_some_iff.mp hc).1
      have z8 : z.cps.toList.length ≤ 8 := by rw [Array.length_toList]; exact l8
      walk_at "wp"
      have e : decide (c ∈ ("abcdefghijklmnopqrstuvwxyz" : Str).cps.toList) = true := by
        rw [show ("abcdefghijklmnopqrstuvwxyz" : Str).cps.toList = List.range' 97 26 by decide +kernel]
        exact decide_eq_true (List.mem_range'_1.mpr (by omega))
      rw [e]
      refine ⟨_, hD4, by rw [List.length_map, List.length_map, List.length_take]; exact Wb.small (by omega), fun a o q => ?_, ?_⟩
      · rw [upd_ne (ne_of_none q hD)]; exact s4 _ _ q
      · rw [upd_same, true_snoc hc]
    · rintro H4 ⟨s4, hD4⟩
      walk_at "wp"
      refine ⟨D, _, rfl, SqL.of hD4, ?_⟩
      rw [all_true]
      exact q H4 s4

/-! ### boxes and pegs -/
theorem dgv {H : Hp} {a : Addr} {kvs : List (L2.Key × V)} {k : L2.Key} {v : V} (h : H a = some (.dK kvs)) (e : valV kvs k = some v) : DGet H a (kV k) (some v) := by
  have := DGet.k (k := k) h
  rw [e] at this; exact this
def spCheckName : Sp := fun vs H Q _ => ∃ s : Str, vs = [.str s] ∧ Wu.Nm s ∧ 1 ≤ s.length ∧ ∀ H', Same H H' → Q .non H'
theorem ok_check_name (T : Txt P w K mg) : FnOk P w K mg base CX0 3 T.f_check_name T.fd_check_name ["name"] spCheckName := by
  have G_is_name := ok_is_name (base := base) T
  refine T.F_check_name.ok sc_check_name (fun vs H Q E h => ?_) (fun cdv Ar outer s H vs Q E hr h => ?_)
  · obtain ⟨s, rfl, _⟩ := h
    rfl
  · obtain ⟨s, rfl, h1, h2, q⟩ := h
    refine ⟨_, (pss_one (ps_if (pt_not (pt_val (pe_call G_is_name (hr.mono (by decide)) (by rfl) T.g_is_name T.F_is_name.kp T.b_is_name .nil pass0 (pa_cons (pv 0) pa_nil)))) (pss_one ps_never) pss_nil)), ?_⟩
    rw [show L2.start ["name"] [.str s] = [some (.str s)] from rfl]
    try dsimp only [cxOf]
    walk_at "wp"
    refine ⟨s, rfl, h1, h2, fun H1 s1 => ?_⟩
    walk_at "wp"
    exact q _ s1
section
variable {I : PilI K} {hc : Addr}
theorem ok_Copies_box (T : Txt P w K mg) (C : HCl K hc) (M_height : MOk P w K mg base I.o "height" ["self"] 9 (spPHeight I)) (M_take : MOk P w K mg base I.o "take" ["self", "k"] 9 (spPTake I T.o_Tally)) (M_put : MOk P w K mg base I.o "put" ["self", "worth"] 9 (spPPut I T.o_Tally)) : FnOk P w K mg base CX0 10 T.f_Copies_box T.fd_Copies_box ["self"] (spHBox I hc T.o_Tally) := by
  have G_check_place := ok_check_place (base := base) T
  have G_least_free := ok_least_free (base := base) T
  have G_Tally_more := ok_Tally_more (base := base) T
  refine T.F_Copies_box.ok sc_Copies_box (fun vs H Q E h => ?_) (fun cdv Ar outer s H vs Q E hr h => ?_)
  · obtain ⟨S, h, D, ps, z, rfl, _⟩ := h
    rfl
  · obtain ⟨S, h, D, ps, z, rfl, ⟨B, Sp, gs, L, G, rfl, rfl, X, ok, hl⟩, sz, ep, q⟩ := h
    refine ⟨_, (pss_cons (ps_expr (pe_call G_check_place (hr.mono (by decide)) (by rfl) T.g_check_place T.F_check_place.kp T.b_check_place .nil pass0 (pa_cons pe_int (pa_cons (pe_meth0 (pe_fld (pv 0) rfl) I.cl M_height.me M_height.g (hr.mono (by decide)) M_height.b .nil pass0) pa_nil))))
      (pss_cons (ps_set (i := 1) sc_Copies_box.nd rfl (.inl rfl) (pe_call G_least_free (hr.mono (by decide)) (by rfl) T.g_least_free T.F_least_free.kp T.b_least_free .nil pass0 (pa_cons (pe_fld (pv 0) rfl) pa_nil)))
      (pss_cons (ps_set (i := 2) sc_Copies_box.nd rfl (.inl rfl) (pe_meth (pe_fld (pv 0) rfl) I.cl M_take.me M_take.g (hr.mono (by decide)) M_take.b .nil pass0 (pa_cons pe_int pa_nil)))
      (pss_cons (ps_dput (hu_of hr) (pe_fld (pv 0) rfl) (pv 1) (pv 2) rfl)
      (pss_cons (ps_expr (pe_meth (pe_fld (pv 0) rfl) T.cl_Tally T.m_Tally_more G_Tally_more (hr.mono (by decide)) T.b_Tally_more .nil pass0 (pa_cons (pe_lst (pa_cons (pv 2) pa_nil)) pa_nil)))
      (pss_cons (ps_expr (pe_meth (pe_fld (pv 0) rfl) I.cl M_put.me M_put.g (hr.mono (by decide)) M_put.b .nil pass0 (pa_cons (pe_tup (pa_cons pe_str (pa_cons (pv 1) pa_nil))) pa_nil)))
      (pss_one (ps_ret (pv 1))))))))), ?_⟩
    rw [show L2.start ["self", "b", "worth"] [.ref B.h] = [some (.ref B.h), none, none] from rfl]
    try dsimp only [cxOf]
    have c0 := C.cl
    have c1 := C.n1
    have c2 := C.n2
    have c4 := C.n4
    have hh := X.x.hh
    obtain ⟨dp, fs, hp, hm⟩ := X.x.pins
    obtain ⟨kvb, b1, b2⟩ := X.x.boxes
    have spl := sz.pile
    have sbl := sz.boxes
    have kvl : kvb.length = D.boxes.length := Paired.length b2
    have line : (1000000 : Nat) < sizeLine := by decide
    have pl : D.pile.length = ps.length + 1 := by rw [ep, List.length_append]; rfl
    have zD : z ∈ D.worths := mem_worths_pile (by rw [ep]; simp)
    walk_at "wp"
    refine Wcl.methR hp (hm _ (by simp [meths])) ?_
    walk_at "wp"
    refine ⟨Sp, B.p, B.A, _, _, L, rfl, X.x.pt.at_, ?_⟩
    walk_at "wp"
    refine ⟨0, _, rfl, by omega, by omega, ?_⟩
    walk_at "wp"
    refine ⟨B.bd, kvb, D.boxes.map (·.1), rfl, b1, by
      have := kv_keys bv_key b2
      rw [this, List.map_map]; rfl, by rw [List.length_map]; omega, fun n n1 n2 => ?_⟩
    walk_at "wp"
    refine Wcl.methR hp (hm _ (by simp [meths])) ?_
    walk_at "wp"
    refine ⟨Sp, B.p, B.A, _, _, L, _, G, _, 0, rfl, X.x.pt, by omega, by omega, fun S1 H1 L1 G1 v z' hz wv st => ?_⟩
    have ez : z' = z := by
      rw [ep] at hz
      simp at hz
      exact hz.symm
    subst ez
    have er : D.pile.eraseIdx (D.pile.length - 1 - 0) = ps := by
      rw [ep]
      simp [List.eraseIdx_append_of_length_le]
    rw [er] at st
    obtain ⟨X1, k1, gw1⟩ := X.x.step st
    have hh1 := X1.hh
    obtain ⟨kvb2, f1, f2⟩ := X1.boxes
    have kvl2 : kvb2.length = D.boxes.length := Paired.length f2
    walk_at "wp"
    refine ⟨B.bd, _, rfl, DPut.k (k := Sum.inl (n : Int)) f1 (by omega), ?_⟩
    have pnew := kv_new (k := Sum.inl (n : Int)) (v := v) (a := ((n : Int), z')) bv_key f2 (fun b hb e => n1 (List.mem_map.mpr ⟨b, hb, Sum.inl.inj e⟩)) ⟨rfl, wv⟩
    obtain ⟨X2, k2⟩ := X1.setB pnew
    have wv2 := wv.keep k2.tk
    generalize upd H1 B.bd (.dK (putK kvb2 (Sum.inl (n : Int)) v)) = H2 at X2 k2 wv2
    have hh2 := X2.hh
    have ht2 := X2.pt.tl.hi
    walk_at "wp"
    rename_i l0 hl0
    have s3 := same_new (o := .lst [v]) hl0
    have X3 := X2.same s3
    refine ⟨B.A, l0, [v], [z'], _, G1, _, rfl, X3.pt.tl, upd_same, (Pile.one wv2).keep (Tk.new hl0), fun y hy ty => by rw [List.mem_singleton.mp hy] at ty ⊢; exact ok.closed _ zD ty, fun H4 t4 k4 => ?_⟩
    have X4 := X3.tal (R' := Whs.rest { D with boxes := D.boxes ++ [((n : Int), z')] }) (t4.like fun y t => by
      unfold Whs.rest
      simp only [cn_app, List.map_append, List.map_cons, List.map_nil]; omega) (k4.mono (by simp))
    have hh4 := X4.hh
    obtain ⟨dp4, fs4, hp4, hm4⟩ := X4.pins
    walk_at "wp"
    refine Wcl.methR hp4 (hm4 _ (by simp [meths])) ?_
    walk_at "wp"
    rename_i t2 ht2'
    have s5 := same_new (o := .tup [.str "box", .int (n : Int)]) ht2'
    have X5 := X4.same s5
    have wt : IsW (upd H4 t2 (.tup [.str "box", .int (n : Int)])) (.ref t2) (sBox, (n : Int)) := ⟨t2, rfl, upd_same⟩
    generalize upd H4 t2 (.tup [.str "box", .int (n : Int)]) = H5 at s5 X5 wt
    have X5r : PilT I T.o_Tally S1 H5 B.p B.A ps (gs.map (·.2.2)) L1 (Whs.rest { D with boxes := D.boxes ++ [((n : Int), z')] }) G1 (D.things ++ [(sBox, (n : Int))]) := ⟨X5.pt.at_, X5.pt.tl.room (by rw [List.length_append]; have := things_sz sz; show _ + 1 ≤ _; omega) (fun y hy => List.mem_append_left _ hy), X5.pt.n1, X5.pt.n2, X5.pt.n3⟩
    refine ⟨S1, B.p, B.A, ps, _, L1, _, G1, _, .ref t2, (sBox, (n : Int)), rfl, X5r, wt, fun _ => by simp, by omega, fun S6 H6 L6 G6 st6 => ?_⟩
    have X5' : HouX I hc T.o_Tally S1 H5 B ps { D with boxes := D.boxes ++ [((n : Int), z')] } gs (gs.map (·.2.2)) L1 (Whs.rest { D with boxes := D.boxes ++ [((n : Int), z')] }) G1 (D.things ++ [(sBox, (n : Int))]) := ⟨X5.hh, X5.pegs, X5.boxes, X5.goings, X5r, X5.nd, X5.sp⟩
    obtain ⟨X6, k6, gw6⟩ := X5'.step st6
    walk_at "wp"
    have tD : ∀ y, y ∈ ({ D with pile := ps ++ [(sBox, (n : Int))], boxes := D.boxes ++ [((n : Int), z')] } : Pic).things ↔ y ∈ D.things ∨ y = (sBox, (n : Int)) := fun y => by
      unfold Pic.things
      simp only [List.map_append, List.map_cons, List.map_nil, List.mem_append, List.mem_singleton]
      constructor
      · rintro ((a | a) | a)
        · exact .inl (.inl a)
        · exact .inr a
        · exact .inl (.inr a)
      · rintro ((a | a) | a)
        · exact .inl (.inl a)
        · exact .inr a
        · exact .inl (.inr a)
    have wD : ∀ y, y ∈ ({ D with pile := ps ++ [(sBox, (n : Int))], boxes := D.boxes ++ [((n : Int), z')] } : Pic).worths ↔ y ∈ D.worths ∨ y = (sBox, (n : Int)) := fun y => by
      rw [Wow.memW, Wow.memW, ep]
      simp only [List.mem_append, List.mem_singleton]
      constructor
      · rintro ((a | a) | a | ⟨b, hb | hb, a⟩ | a)
        · exact .inl (.inl (.inl a))
        · exact .inr a
        · exact .inl (.inr (.inl a))
        · exact .inl (.inr (.inr (.inl ⟨b, hb, a⟩)))
        · rw [hb] at a; exact .inl (.inl (.inr a.symm))
        · exact .inl (.inr (.inr (.inr a)))
      · rintro (((a | a) | a | ⟨b, hb, a⟩ | a) | a)
        · exact .inl (.inl a)
        · exact .inr (.inr (.inl ⟨_, .inr rfl, a.symm⟩))
        · exact .inr (.inl a)
        · exact .inr (.inr (.inl ⟨b, .inl hb, a⟩))
        · exact .inr (.inr (.inr a))
        · exact .inl (.inr a)
    refine q (All B S6) H6 n ⟨n1, n2⟩ ⟨B, S6, gs, L6, G6, rfl, rfl, ⟨⟨X6.hh, X6.pegs, X6.boxes, X6.goings, ?_, X6.nd, X6.sp⟩, X.geq⟩, ⟨fun y hy => ?_, ok.pegN, ok.pegU, ?_, fun g hg => ?_, ok.goU, ok.goN, fun y hy t => ?_⟩, fun y hy => ?_⟩ ?_
    · refine ⟨X6.pt.at_, X6.pt.tl.room ?_ fun y hy => ?_, X6.pt.n1, X6.pt.n2, X6.pt.n3⟩
      · have := things_sz sz
        unfold Pic.things at this ⊢
        simp only [List.map_append, List.length_append, List.length_map, List.length_singleton] at this ⊢; omega
      · rw [tD]; simpa using hy
    · rcases (wD y).mp hy with h | h
      · exact ok.words y h
      · rw [h]; exact .inl ⟨.inl rfl, by show (0 : Int) ≤ (n : Int); omega⟩
    · rw [List.map_append, List.nodup_append]
      refine ⟨ok.boxU, by simp, fun x hx y hy e => n1 ?_⟩
      rw [List.map_cons, List.map_nil, List.mem_singleton] at hy
      have e2 : x = (n : Int) := e.trans hy
      rw [← e2]; exact hx
    · rcases List.mem_append.mp hg with hg | hg
      · exact ok.boxN g hg
      · rw [List.mem_singleton.mp hg]; show (0 : Int) ≤ (n : Int); omega
    · rcases (wD y).mp hy with h | h
      · exact (tD y).mpr (.inl (ok.closed y h t))
      · exact (tD y).mpr (.inr h)
    · rcases (tD y).mp hy with h | h
      · exact (wD y).mpr (.inl (hl y h))
      · exact (wD y).mpr (.inr h)
    · exact Mv.trans ⟨k1, gw1⟩ (Mv.trans ⟨k2.mono (by simp [All]), Grow.refl⟩ (Mv.trans (Mv.same s3) (Mv.trans ⟨k4.mono (by simp [All]), Grow.refl⟩ (Mv.trans (Mv.same s5) ⟨k6, gw6⟩))))
theorem ok_Copies_peg (T : Txt P w K mg) (C : HCl K hc) (N_check_worth : MOk P w K mg base hc "check_worth" ["self", "worth"] 9 (spCheckW I hc T.o_Tally)) (N_settle : MOk P w K mg base hc "settle" ["self"] 12 (spSettle I hc T.o_Tally)) : FnOk P w K mg base CX0 13 T.f_Copies_peg T.fd_Copies_peg ["self", "name", "worth"] (spHPeg I hc T.o_Tally) := by
  have G_check_name := ok_check_name (base := base) T
  have G_Tally_more := ok_Tally_more (base := base) T
  have G_Tally_less := ok_Tally_less (base := base) T
  refine T.F_Copies_peg.ok sc_Copies_peg (fun vs H Q E h => ?_) (fun cdv Ar outer s H vs Q E hr h => ?_)
  · obtain ⟨S, h, D, nm, v, z, rfl, _⟩ := h
    rfl
  · obtain ⟨S, h, D, nm, v, z, rfl, ⟨B, Sp, gs, L, G, rfl, rfl, X, ok, hl⟩, sz, spl, nmk, nm1, hv, wz, tz, q⟩ := h
    refine ⟨_, (pss_cons (ps_expr (pe_call G_check_name (hr.mono (by decide)) (by rfl) T.g_check_name T.F_check_name.kp T.b_check_name .nil pass0 (pa_cons (pv 1) pa_nil)))
      (pss_cons (ps_expr (pe_meth (pv 0) C.cl N_check_worth.me N_check_worth.g (hr.mono (by decide)) N_check_worth.b .nil pass0 (pa_cons (pv 2) pa_nil)))
      (C8.pss_cut (ps_if (pt_cmp (pc_din (hu_of hr) (pv 1) (pe_fld (pv 0) rfl))) (pss_one (ps_expr (pe_meth (pe_fld (pv 0) rfl) T.cl_Tally T.m_Tally_less G_Tally_less (hr.mono (by decide)) T.b_Tally_less .nil pass0 (pa_cons (pe_lst (pa_cons (pe_dget (hu_of hr) (pe_fld (pv 0) rfl) (pv 1) (fun _ _ => rfl)) pa_nil)) pa_nil)))) pss_nil)
      (pss_cons (ps_expr (pe_meth (pe_fld (pv 0) rfl) T.cl_Tally T.m_Tally_more G_Tally_more (hr.mono (by decide)) T.b_Tally_more .nil pass0 (pa_cons (pe_lst (pa_cons (pv 2) pa_nil)) pa_nil)))
      (pss_cons (ps_dput (hu_of hr) (pe_fld (pv 0) rfl) (pv 1) (pv 2) rfl)
      (pss_one (ps_expr (pe_meth0 (pv 0) C.cl N_settle.me N_settle.g (hr.mono (by decide)) N_settle.b .nil pass0)))))))), ?_⟩
    rw [show L2.start ["self", "name", "worth"] [.ref B.h, .str nm, v] = [some (.ref B.h), some (.str nm), some v] from rfl]
    try dsimp only [cxOf]
    have c0 := C.cl
    have c2 := C.n2
    have c3 := C.n3
    have line : (1000000 : Nat) < sizeLine := by decide
    walk_at "wp"
    refine ⟨nm, rfl, nmk, nm1, fun H0 s0 => ?_⟩
    have X0 := X.same s0
    have hh0 := X0.x.hh
    walk_at "wp"
    refine ⟨Sp, B, D, gs, L, G, _, v, z, rfl, X0, hv.keep (Same.tk s0), wz, tz, fun H1 s1 => ?_⟩
    have X1 := X0.same s1
    have s01 := s0.trans s1
    have hv1 := hv.keep (Same.tk s01)
    clear X0 hh0 s0 s1
    have hh1 := X1.x.hh
    obtain ⟨kvp, p1, p2⟩ := X1.x.pegs
    have ht1 := X1.x.pt.tl.hi
    walk_at "wp"
    -- without this name's worth
    refine Wp.cut (fun σ' H' => σ' = [some (.ref B.h), some (.str nm), some v] ∧ ∃ G', HouX I hc T.o_Tally Sp H' B D.pile D gs (gs.map (·.2.2)) L (Whs.rest { D with pegs := D.pegs.filter fun p => decide (p.1 ≠ nm) }) G' D.things ∧ (∀ y ∈ G, y ∈ G') ∧ (∀ y, isT y = true → y ∈ L ++ Whs.rest D → y ∉ L ++ Whs.rest { D with pegs := D.pegs.filter fun p => decide (p.1 ≠ nm) } → y ∈ G') ∧ Ks (All B Sp) H1 H') ?_ ?_
    · walk_at "wp"
      refine ⟨B.pd, _, rfl, DGet.k (k := Sum.inr nm) p1, ?_⟩
      refine ⟨_, rfl, ?_⟩
      by_cases c : nm ∈ D.pegs.map (·.1)
      · rw [(kv_some pv_key p2).mpr (mem_kN.mpr c), if_pos rfl]
        obtain ⟨p, hpm, rfl⟩ := List.mem_map.mp c
        obtain ⟨u, hu, fu⟩ := kv_at (k := Sum.inr p.1) pv_key p2 (nd_kN ok.pegU) hpm rfl
        obtain ⟨pl, pr, e1, e2⟩ := Whs.split_peg ok.pegU hpm
        walk_at "wp"
        refine ⟨B.pd, _, rfl, dgv p1 hu, ?_⟩
        walk_at "wp"
        rename_i l0 hl0
        have s2 := same_new (o := .lst [u]) hl0
        have X2 := X1.same s2
        have lk : Like (L ++ Whs.rest D) ((L ++ Whs.rest { D with pegs := D.pegs.filter fun x => decide (x.1 ≠ p.1) }) ++ [p.2]) := fun y t => by
          unfold Whs.rest
          rw [e2]
          conv => lhs; rw [e1]
          simp only [cn_app, List.map_append, List.map_cons, cn_cons, cn_nil]; omega
        refine ⟨B.A, l0, [u], [p.2], _, L ++ Whs.rest { D with pegs := D.pegs.filter fun x => decide (x.1 ≠ p.1) }, G, _, rfl, X2.x.pt.tl, lk, upd_same, (Pile.one fu.2).keep (Tk.new hl0), fun G' H3 t3 gg g6 k3 => ?_⟩
        refine ⟨rfl, G', X2.x.tal t3 k3, gg, fun y t m n => ?_, (Ks.same s2).trans (k3.mono (by simp [All]))⟩
        rcases List.mem_append.mp ((lk.mem t).mp m) with m | m
        · exact absurd m n
        · exact g6 y m t n
      · have : (valV kvp (Sum.inr nm)).isSome = false := by
          cases e : (valV kvp (Sum.inr nm)).isSome with
          | false => rfl
          | true => exact absurd (mem_kN.mp ((kv_some pv_key p2).mp e)) c
        rw [this, if_neg (by decide)]
        have e2 : (D.pegs.filter fun p => decide (p.1 ≠ nm)) = D.pegs := by
          rw [List.filter_eq_self]
          intro x hx
          exact decide_eq_true fun e => c (List.mem_map.mpr ⟨x, hx, e⟩)
        rw [e2]
        exact ⟨rfl, G, X1.x, fun _ h => h, fun y t m n => absurd m n, Ks.refl⟩
    rintro σ' H2 ⟨rfl, G2, X2, gg, g6, k2⟩
    have hh2 := X2.hh
    have ht2 := X2.pt.tl.hi
    have hv2 := hv1.keep k2.tk
    walk_at "wp"
    rename_i l0 hl0
    have s3 := same_new (o := .lst [v]) hl0
    have X3 := X2.same s3
    refine ⟨B.A, l0, [v], [z], _, G2, _, rfl, X3.pt.tl, upd_same, (Pile.one hv2).keep (Tk.new hl0), fun y hy ty => by rw [List.mem_singleton.mp hy] at ty ⊢; exact tz ty, fun H4 t4 k4 => ?_⟩
    have putLike : Like (L ++ Whs.rest { D with pegs := D.pegs.filter fun p => decide (p.1 ≠ nm) } ++ [z]) (L ++ Whs.rest { D with pegs := Whs.putPeg D.pegs nm z }) := fun y t => by
      unfold Whs.rest
      have := Whs.putPeg_count (nm := nm) (z := z) (y := y) ok.pegU
      simp only [cn_app, List.map_append] at this ⊢; omega
    have X4 := X3.tal (R' := Whs.rest { D with pegs := Whs.putPeg D.pegs nm z }) (t4.like putLike) (k4.mono (by simp))
    have hv4 := hv2.keep ((Ks.same s3 (S := [])).tk.trans k4.tk)
    have hh4 := X4.hh
    obtain ⟨kvp4, p41, p42⟩ := X4.pegs
    have kl4 : kvp4.length = D.pegs.length := Paired.length p42
    walk_at "wp"
    refine ⟨B.pd, _, rfl, DPut.k (k := Sum.inr nm) p41 (by omega), ?_⟩
    have pn : Paired (IsPeg H4) (putK kvp4 (Sum.inr nm) v) (Whs.putPeg D.pegs nm z) := by
      unfold Whs.putPeg
      by_cases c : nm ∈ D.pegs.map (·.1)
      · rw [if_pos c]
        obtain ⟨p, hpm, e⟩ := List.mem_map.mp c
        exact kv_put (key := kN) pv_key p42 ⟨p, hpm, congrArg Sum.inr e⟩ (fun a ha e => by rw [if_pos (Sum.inr.inj e)]; exact ⟨rfl, hv4⟩) fun a ha n => if_neg fun e => n (congrArg Sum.inr e)
      · rw [if_neg c]
        exact kv_new pv_key p42 (fun b hb e => c (List.mem_map.mpr ⟨b, hb, Sum.inr.inj e⟩)) ⟨rfl, hv4⟩
    obtain ⟨X5, k5⟩ := X4.setP pn
    generalize upd H4 B.pd (.dK (putK kvp4 (Sum.inr nm) v)) = H5 at X5 k5
    have hh5 := X5.hh
    have R5 : HouR I hc T.o_Tally Sp H5 B { D with pegs := Whs.putPeg D.pegs nm z } gs L G2 D.things := ⟨⟨X5.hh, X5.pegs, X5.boxes, X5.goings, X5.pt, X5.nd, X5.sp⟩, X.geq⟩
    have ok5 := Whs.dok_peg (nm := nm) (z := z) ok nmk nm1 wz tz
    have sz5 : Sz { D with pegs := Whs.putPeg D.pegs nm z } := ⟨sz.pile, by
      show (Whs.putPeg D.pegs nm z).length ≤ 100000
      have := Whs.putPeg_len (ps := D.pegs) (nm := nm) (z := z)
      omega, sz.boxes, sz.goings, sz.whole⟩
    walk_at "wp"
    refine ⟨Sp, B, _, gs, L, G2, _, rfl, R5, ok5, sz5, fun y hy n => ?_, fun D' S6 H6 sd hou mv6 => ?_⟩
    · have t := thing_isT hy
      refine g6 y t ((X.mem t).mpr (hl y hy)) fun m => n ((R5.mem t).mp ((putLike.mem t).mp (List.mem_append_left _ m)))
    walk_at "wp"
    exact q D' S6 H6 sd hou (Mv.trans (Mv.same s01) (Mv.trans ⟨k2, Grow.refl⟩ (Mv.trans (Mv.same s3) (Mv.trans ⟨k4.mono (by simp [All]), Grow.refl⟩ (Mv.trans ⟨k5.mono (by simp [All]), Grow.refl⟩ mv6)))))
theorem ok_Copies_pegs (T : Txt P w K mg) (C : HCl K hc) : FnOk P w K mg base CX0 1 T.f_Copies_pegs T.fd_Copies_pegs ["self"] (spHPegs I hc T.o_Tally) := by
  refine T.F_Copies_pegs.ok sc_Copies_pegs (fun vs H Q E h => ?_) (fun cdv Ar outer s H vs Q E hr h => ?_)
  · obtain ⟨S, h, D, rfl, _⟩ := h
    rfl
  · obtain ⟨S, h, D, rfl, ⟨B, Sp, gs, L, G, rfl, rfl, X, ok, hl⟩, l64, q⟩ := h
    refine ⟨_, (pss_one (ps_ret (pe_callB (call_sortedD rfl) (by rfl) T.n_sorted (by decide +kernel) (pa_cons (pe_fld (pv 0) rfl) pa_nil)))), ?_⟩
    rw [show L2.start ["self"] [.ref B.h] = [some (.ref B.h)] from rfl]
    try dsimp only [cxOf]
    have c0 := C.cl
    have c3 := C.n3
    have hh := X.x.hh
    obtain ⟨kvp, p1, p2⟩ := X.x.pegs
    walk_at "wp"
    refine ⟨B.pd, kvp, D.pegs.map (·.1), rfl, .inl p1, by rw [kv_keys pv_key p2, List.map_map]; rfl, by rw [List.length_map]; exact l64, fun ns l hp hs hn => q l ns hp hs hn⟩
end

end
end K28

namespace K28
open PySem PySem.Spec PyProof.Rows L2 Wp Wq Wr Wpm Wth Wta Wpi Whs
local macro_rules | `(tactic| walk_at "ne") => `(tactic| first
  | assumption
  | (refine Ne.symm ?_; assumption)
  | exact ne_of_none (by assumption) (by assumption)
  | exact (ne_of_none (by assumption) (by assumption)).symm
  | exact ne_of (by assumption) (by assumption) (by intro q; cases q))
local macro_rules | `(tactic| walk_at "hp") => `(tactic| first
  | assumption
  | exact upd_same
  | (refine (upd_ne ?_).trans ?_; (walk_at "ne"); (walk_at "hp")))
local macro_rules | `(tactic| walk_at "hq") => `(tactic| first
  | assumption
  | exact upd_same
  | (refine same_new (by assumption) _ _ ?_; (walk_at "hq"))
  | (refine Wp.look (by assumption) ?_; (walk_at "hq")))
local macro_rules | `(tactic| walk_at "sm") => `(tactic| first
  | assumption
  | exact fun _ _ h => h
  | exact same_new (by assumption)
  | (refine Same.trans ?_ (same_new (by assumption)); (walk_at "sm"))
  | (refine Same.trans ?_ (by assumption); (walk_at "sm")))
local macro_rules | `(tactic| walk_at "kp") => `(tactic| first
  | assumption
  | exact Kp.refl _ _
  | (refine Kp.trans ?_ (Kp.new (by assumption)); (walk_at "kp"))
  | (refine Kp.trans ?_ (Same.kp (by assumption)); (walk_at "kp"))
  | (refine Wp.kpT ?_ (by assumption); (walk_at "kp"))
  | exact Same.kp (by walk_at "sm"))
local macro_rules | `(tactic| walk_at "sq") => `(tactic| first
  | assumption
  | exact SqL.of (by walk_at "hp")
  | exact SqT.of (by walk_at "hp"))
local macro_rules | `(tactic| walk_at "kind") => `(tactic| first
  | assumption
  | exact Kind.int _
  | exact Kind.str _
  | exact Kind.bl _
  | exact Kind.non
  | exact Kind.tup (by walk_at "hp")
  | exact Kind.lst (by walk_at "hp")
  | exact Kind.dK (by walk_at "hp"))
local macro_rules | `(tactic| walk_at "w1") => `(tactic| first
  | (with_reducible refine Wp.seq ?_)
  | (with_reducible refine Wp.nx_mk ?_)
  | (with_reducible refine Wp.rt_mk ?_)
  | (with_reducible refine Wp.bk_mk ?_)
  | (with_reducible refine Wp.ct_mk ?_)
  | (with_reducible refine Wp.next ?_)
  | (with_reducible refine Wp.asg ?_)
  | ((with_reducible refine' Wp.gname ?e ?_); (case e => (try dsimp only [List.set, L2.wipe, List.map_cons, List.map_nil]); (try exact rfl)))
  | (with_reducible refine Wp.gsub ?_)
  | (with_reducible refine Wp.ret ?_)
  | (with_reducible refine Wp.retN ?_)
  | (with_reducible refine Wp.drop ?_)
  | (with_reducible refine Wp.dput ?_)
  | (with_reducible refine Wp.ifs ?_)
  | ((with_reducible refine' Wp.var ?h ?_); (case h => exact rfl))
  | (with_reducible refine Wp.con ?_)
  | (with_reducible refine Wp.op ?_)
  | (with_reducible refine Wp.un ?_)
  | (with_reducible refine Wp.cb ?_)
  | (with_reducible refine Wp.anil ?_)
  | (with_reducible refine Wp.acons ?_)
  | (with_reducible refine Wp.call ?_)
  | (with_reducible refine Wp.test ?_)
  | (with_reducible refine Wp.tb_ ?_)
  | (with_reducible refine Wp.and_ ?_)
  | (with_reducible refine Wp.or_ ?_)
  | (with_reducible refine Wp.not_ ?_)
  | (with_reducible refine Wp.andV ?_)
  | (with_reducible refine Wp.orV ?_)
  | (with_reducible refine Wp.notV ?_)
  | (with_reducible refine Wp.rI0_ ?_)
  | (with_reducible refine Wp.rU_ ?_)
  | ((with_reducible refine Wp.rEq_ ?k ?_); (case k => exact rfl))
  | ((with_reducible refine Wp.rNe_ ?k ?_); (case k => exact rfl))
  | (with_reducible refine Wp.gcons ?_)
  | (with_reducible refine Wp.gnil ?_)
  | ((with_reducible refine' Wp.gtup ?h ?e ?_); (case h => walk_at "sq"); (case e => exact rfl))
  | (with_reducible refine Wp.sl ?_)
  | (with_reducible refine Wp.part ?_)
  | (with_reducible refine Wp.nopart ?_)
  | (with_reducible refine Wp.ifE ?_)
  | (with_reducible refine Wp.bm0 ?_)
  | (with_reducible refine Wp.bm ?_)
  | (with_reducible refine Wp.lcR1 ?_)
  | (with_reducible refine Wp.lcR2 ?_)
  | (with_reducible refine Wp.lcL ?_)
  | (with_reducible refine Wp.chain ?_)
  | (with_reducible refine Wp.lc2V ?_)
  | (with_reducible refine Wp.piL ?_)
  | (with_reducible refine Wp.yes ?_)
  | (with_reducible refine Wp.dinI ?_)
  | (with_reducible refine Wp.dninI ?_)
  | (with_reducible refine Wp.dget ?_)
  | ((with_reducible refine' ⟨?k, ?_⟩); (case k => show L2.wipe _ _ = L2.wipe _ _; exact rfl))
  | ((with_reducible refine' ⟨?k, ?_⟩); (case k => show V.non = V.non; exact rfl))
  | (with_reducible refine Wp.forR1 ?_)
  | (with_reducible refine Wp.forR2 ?_)
  | (with_reducible refine Wp.forL ?_)
  | (with_reducible refine Wp.forT ?_)
  | ((with_reducible refine' ⟨?k, ?_⟩); (case k => exact Wp.tyvL (by walk_at "hp")))
  | ((with_reducible refine' Wp.rev_ ?k ?_); (case k => walk_at "hp"))
  | ((with_reducible refine' Wp.isi ?k ?h ?_); (case k => walk_at "kind"); (case h => decide))
  | ((with_reducible refine' Wp.typ ?k ?_); (case k => walk_at "kind"))
  | (with_reducible refine Wp.slS ?k ?_; (case k => assumption))
  | (with_reducible refine iteT ?_)
  | (with_reducible refine iteF ?_)
  | (with_reducible refine Wtc.dcL ?_)
  | (with_reducible refine Wst.step ?_)
  | (with_reducible refine Wtc.dget2 ?_)
  | (with_reducible refine Wtc.lcZ ?_)
  | (with_reducible refine Wrw.loop_setLc ?_)
  | (with_reducible refine Wz.par ?_)
  | (with_reducible refine Wz.forN ?_)
  | (with_reducible refine Wz.dcL ?_)
  | (with_reducible refine Wz.forZ ?_)
  | (with_reducible refine Wz.lcR3 ?_)
  | (with_reducible refine Wc.revL ?_)
  | (with_reducible refine Wd.nm ?_)
  | (with_reducible refine Wd.nget ?_)
  | ((with_reducible refine Wd.tnew ?_); intro p hp)
  | (with_reducible refine Wd.pikn ?_)
  | (with_reducible refine Wt.m1 ?_)
  | (with_reducible refine Wt.m0 ?_)
  | ((with_reducible refine' ⟨?k, ?_⟩); (case k => show ∃ a, _ = V.str a; exact ⟨_, rfl⟩))
  | (with_reducible refine Wt.js_cons ?_)
  | (with_reducible refine Wt.fmt_ ?_)
  | (with_reducible refine Wp.pcons ?_)
  | (with_reducible refine Wp.pnil ?_)
  | ((with_reducible refine' Wp.iteBnT ?h ?_); (case h => show isB _ _ = false; decide))
  | ((with_reducible refine' Wp.iteBnF ?h ?_); (case h => show isB _ _ = true; decide))
  | ((with_reducible refine' Wp.iteBt ?h ?_); (case h => show isB _ _ = true; decide))
  | ((with_reducible refine' Wp.iteBf ?h ?_); (case h => show isB _ _ = false; decide))
  | (with_reducible refine Wp.iteT' ?_)
  | (with_reducible refine Wp.iteF' ?_)
  | (with_reducible refine Wp.rNT_ ?_)
  | ((with_reducible refine Wp.lst ?_))
  | ((with_reducible refine Wp.tup ?_))
  | ((with_reducible refine' Wp.ixL ?h ?e ?_); (case h => walk_at "sq"); (case e => exact rfl))
  | ((with_reducible refine' Wp.ixT ?h ?e ?_); (case h => walk_at "sq"); (case e => exact rfl))
  | ((with_reducible refine' Wp.setL ?h ?e ?_); (case h => walk_at "hp"); (case e => exact rfl))
  | ((with_reducible refine Wp.rI_ ?k ?_); (case k => first | (show (0:Int) < _; omega) | (show CPow _ _; refine' ⟨?_, ?_, ?_⟩ <;> omega) | (show CDiv _ _; refine' ⟨?_, ?_⟩ <;> omega) | (show CMul _ _; refine' Or.inl ⟨?_, ?_⟩ <;> omega) | (show CMul _ _; refine' Or.inr ⟨?_, ?_⟩ <;> first | omega | decide) | (show CDivW _ _; refine' wide_div (b := 240) ?_ ?_ ?_ ?_ <;> first | omega | decide)))
  | ((with_reducible refine ⟨?k, ?_⟩); (case k => first | exact Nat.zero_le _ | (exact Nat.le_of_ble_eq_true rfl)); intro p hp)
  | ((with_reducible refine' ⟨_, _, rfl, .inl ?k, ?_⟩); (case k => walk_at "sq"))
  | ((with_reducible refine' ⟨_, _, rfl, .inr ?k, ?_⟩); (case k => walk_at "sq"))
  | (with_reducible refine ⟨_, rfl, ?_⟩)
  | (with_reducible refine ⟨_, _, rfl, rfl, ?_⟩)
  | (with_reducible refine ⟨_, _, rfl, ?_⟩))
local macro_rules | `(tactic| walk_at "wp") => `(tactic| repeat (walk_at "w1"))

local macro_rules | `(tactic| walk_at "pf") => `(tactic| first
  | (with_reducible exact Wcl.pf0)
  | (with_reducible exact Wcl.pf1)
  | ((with_reducible refine' Wcl.pf2 ?n ?h); (case n => decide +kernel); (case h => walk_at "pf")))
local macro_rules | `(tactic| walk_at "w1") => `(tactic| first
  | (with_reducible refine Wcl.fld_ ?_)
  | (with_reducible refine Wcl.sfld_ ?_)
  | (with_reducible refine Wcl.meth_ ?_)
  | (with_reducible refine Wcl.make_ ?_)
  | (with_reducible refine Wcl.dcZ ?_)
  | (with_reducible refine Wcl.ddelT_ ?_)
  | (with_reducible refine Wcl.daug_ ?_)
  | (with_reducible refine Wcl.dpop1_ ?_)
  | ((with_reducible refine Wcl.dnewT_ ?_); intro p hp)
  | ((with_reducible refine Wcl.dnewK_ ?_); intro p hp)
  | ((with_reducible refine' Wcl.fldR ?h ?c ?n ?e ?_); (case h => walk_at "hp"); (case c => assumption); (case n => assumption); (case e => exact rfl))
  | ((with_reducible refine' Wcl.sfldR ?h ?c ?n ?l ?e ?_); (case h => walk_at "hp"); (case c => assumption); (case n => assumption); (case l => exact Nat.le_of_ble_eq_true rfl); (case e => walk_at "pf"))
  | ((with_reducible refine' Wcl.methR ?h ?l ?_); (case h => walk_at "hp"); (case l => exact rfl)))

section
variable {P : Program} {w : World} {K : PySem.W.Frag} {mg : Str → Option Value} {base : Heap}
variable {I : PilI K} {hc : Addr}
theorem ok_Copies_check_peg (T : Txt P w K mg) (C : HCl K hc) : FnOk P w K mg base CX0 8 T.f_Copies_check_peg T.fd_Copies_check_peg ["self", "name"] (spCheckPeg I hc T.o_Tally) := by
  have G_check_name := ok_check_name (base := base) T
  refine T.F_Copies_check_peg.ok sc_Copies_check_peg (fun vs H Q E h => ?_) (fun cdv Ar outer s H vs Q E hr h => ?_)
  · obtain ⟨S, B, D, gs, L, G, Z, n, rfl, _⟩ := h
    rfl
  · obtain ⟨S, B, D, gs, L, G, Z, n, rfl, X, n1, n2, hn, q⟩ := h
    refine ⟨_, (pss_cons (ps_expr (pe_call G_check_name (hr.mono (by decide)) (by rfl) T.g_check_name T.F_check_name.kp T.b_check_name .nil pass0 (pa_cons (pv 1) pa_nil)))
      (pss_one (ps_if (pt_cmp (pc_dnotin (hu_of hr) (pv 1) (pe_fld (pv 0) rfl))) (pss_one ps_never) pss_nil))), ?_⟩
    rw [show L2.start ["self", "name"] [.ref B.h, .str n] = [some (.ref B.h), some (.str n)] from rfl]
    try dsimp only [cxOf]
    have c0 := C.cl
    have c3 := C.n3
    walk_at "wp"
    refine ⟨n, rfl, n1, n2, fun H1 s1 => ?_⟩
    have X1 := X.same s1
    have hh1 := X1.x.hh
    obtain ⟨kvp, p1, p2⟩ := X1.x.pegs
    walk_at "wp"
    refine ⟨B.pd, _, rfl, DGet.k (k := Sum.inr n) p1, ?_⟩
    rw [(kv_some pv_key p2).mpr (mem_kN.mpr hn)]
    walk_at "wp"
    exact q _ s1
theorem ok_Copies_pegged (T : Txt P w K mg) (C : HCl K hc) (N_check_peg : MOk P w K mg base hc "check_peg" ["self", "name"] 9 (spCheckPeg I hc T.o_Tally)) : FnOk P w K mg base CX0 10 T.f_Copies_pegged T.fd_Copies_pegged ["self", "name"] (spHPegged I hc T.o_Tally) := by
  refine T.F_Copies_pegged.ok sc_Copies_pegged (fun vs H Q E h => ?_) (fun cdv Ar outer s H vs Q E hr h => ?_)
  · obtain ⟨S, h, D, p, rfl, _⟩ := h
    rfl
  · obtain ⟨S, h, D, p, rfl, ⟨B, Sp, gs, L, G, rfl, rfl, X, ok, hl⟩, hb, q⟩ := h
    refine ⟨_, (pss_cons (ps_expr (pe_meth (pv 0) C.cl N_check_peg.me N_check_peg.g (hr.mono (by decide)) N_check_peg.b .nil pass0 (pa_cons (pv 1) pa_nil)))
      (pss_one (ps_ret (pe_dget (hu_of hr) (pe_fld (pv 0) rfl) (pv 1) (fun _ _ => rfl))))), ?_⟩
    rw [show L2.start ["self", "name"] [.ref B.h, .str p.1] = [some (.ref B.h), some (.str p.1)] from rfl]
    try dsimp only [cxOf]
    have c0 := C.cl
    have c3 := C.n3
    have hh := X.x.hh
    walk_at "wp"
    refine ⟨Sp, B, D, gs, L, G, _, p.1, rfl, X, (ok.pegN p hb).1, (ok.pegN p hb).2, List.mem_map_of_mem hb, fun H1 s1 => ?_⟩
    have X1 := X.same s1
    have hh1 := X1.x.hh
    obtain ⟨kvp, p1, p2⟩ := X1.x.pegs
    obtain ⟨v, hv, fv⟩ := kv_at (k := Sum.inr p.1) pv_key p2 (nd_kN ok.pegU) hb rfl
    have gk := DGet.k (k := Sum.inr p.1) p1
    rw [hv] at gk
    walk_at "wp"
    refine ⟨B.pd, _, rfl, gk, ?_⟩
    exact q v _ s1 fv.2
theorem dok_unpeg {D : Pic} {nm : Str} (ok : Dok D) : Dok { D with pegs := D.pegs.filter fun p => decide (p.1 ≠ nm) } := by
  have m : ∀ y, y ∈ ({ D with pegs := D.pegs.filter fun p => decide (p.1 ≠ nm) } : Pic).worths → y ∈ D.worths := fun y hy => by
    rcases Wow.memW.mp hy with h | ⟨p, hp, h⟩ | h
    · exact Wow.memW.mpr (.inl h)
    · exact Wow.memW.mpr (.inr (.inl ⟨p, (List.mem_filter.mp hp).1, h⟩))
    · exact Wow.memW.mpr (.inr (.inr h))
  exact ⟨fun y hy => ok.words y (m y hy), fun p hp => ok.pegN p (List.mem_filter.mp hp).1, Whs.filt_nodup ok.pegU, ok.boxU, ok.boxN, ok.goU, ok.goN, fun y hy t => ok.closed y (m y hy) t⟩
theorem ok_Copies_unpeg (T : Txt P w K mg) (C : HCl K hc) (N_check_peg : MOk P w K mg base hc "check_peg" ["self", "name"] 9 (spCheckPeg I hc T.o_Tally)) (N_settle : MOk P w K mg base hc "settle" ["self"] 12 (spSettle I hc T.o_Tally)) : FnOk P w K mg base CX0 13 T.f_Copies_unpeg T.fd_Copies_unpeg ["self", "name"] (spHUnpeg I hc T.o_Tally) := by
  have G_Tally_less := ok_Tally_less (base := base) T
  refine T.F_Copies_unpeg.ok sc_Copies_unpeg (fun vs H Q E h => ?_) (fun cdv Ar outer s H vs Q E hr h => ?_)
  · obtain ⟨S, h, D, nm, rfl, _⟩ := h
    rfl
  · obtain ⟨S, h, D, nm, rfl, ⟨B, Sp, gs, L, G, rfl, rfl, X, ok, hl⟩, sz, hn, q⟩ := h
    refine ⟨_, (pss_cons (ps_expr (pe_meth (pv 0) C.cl N_check_peg.me N_check_peg.g (hr.mono (by decide)) N_check_peg.b .nil pass0 (pa_cons (pv 1) pa_nil)))
      (pss_cons (ps_expr (pe_meth (pe_fld (pv 0) rfl) T.cl_Tally T.m_Tally_less G_Tally_less (hr.mono (by decide)) T.b_Tally_less .nil pass0 (pa_cons (pe_lst (pa_cons (pe_dpop1 (pe_fld (pv 0) rfl) (pv 1) ⟨by rfl, by rfl, by rfl, by rfl⟩) pa_nil)) pa_nil)))
      (pss_one (ps_expr (pe_meth0 (pv 0) C.cl N_settle.me N_settle.g (hr.mono (by decide)) N_settle.b .nil pass0))))), ?_⟩
    rw [show L2.start ["self", "name"] [.ref B.h, .str nm] = [some (.ref B.h), some (.str nm)] from rfl]
    try dsimp only [cxOf]
    have c0 := C.cl
    have c2 := C.n2
    have c3 := C.n3
    obtain ⟨p, hpm, rfl⟩ := List.mem_map.mp hn
    obtain ⟨pl, pr, e1, e2⟩ := Whs.split_peg ok.pegU hpm
    have hh := X.x.hh
    walk_at "wp"
    refine ⟨Sp, B, D, gs, L, G, _, p.1, rfl, X, (ok.pegN p hpm).1, (ok.pegN p hpm).2, hn, fun H1 s1 => ?_⟩
    have X1 := X.same s1
    have hh1 := X1.x.hh
    have ht1 := X1.x.pt.tl.hi
    obtain ⟨kvp, p1, p2⟩ := X1.x.pegs
    obtain ⟨u, hu, fu⟩ := kv_at (k := Sum.inr p.1) pv_key p2 (nd_kN ok.pegU) hpm rfl
    walk_at "wp"
    refine ⟨Wcl.isdK p1, ?_⟩
    walk_at "wp"
    refine ⟨kvp, Sum.inr p.1, u, p1, rfl, hu, ?_⟩
    have pd : Paired (IsPeg H1) (dropK kvp (Sum.inr p.1)) (D.pegs.filter fun x => decide (x.1 ≠ p.1)) := by
      have := kv_drop (k := Sum.inr p.1) pv_key p2
      rw [show (fun a : Str × W => decide (kN a ≠ Sum.inr p.1)) = fun a => decide (a.1 ≠ p.1) from funext fun a => decide_eq_decide.mpr ⟨fun h e => h (congrArg Sum.inr e), fun h e => h (Sum.inr.inj e)⟩] at this
      exact this
    obtain ⟨X2, k2⟩ := X1.x.setP pd
    have fu2 := fu.2.keep k2.tk
    generalize upd H1 B.pd (.dK (dropK kvp (Sum.inr p.1))) = H2 at X2 k2 fu2
    walk_at "wp"
    rename_i l0 hl0
    have s3 := same_new (o := .lst [u]) hl0
    have X3 := X2.same s3
    have lk : Like (L ++ Whs.rest D) ((L ++ Whs.rest { D with pegs := D.pegs.filter fun x => decide (x.1 ≠ p.1) }) ++ [p.2]) := fun y t => by
      unfold Whs.rest
      rw [e2]
      conv => lhs; rw [e1]
      simp only [cn_app, List.map_append, List.map_cons, cn_cons, cn_nil]; omega
    refine ⟨B.A, l0, [u], [p.2], _, L ++ Whs.rest { D with pegs := D.pegs.filter fun x => decide (x.1 ≠ p.1) }, G, _, rfl, X3.pt.tl, lk, upd_same, (Pile.one fu2).keep (Tk.new hl0), fun G' H4 t4 gg g6 k4 => ?_⟩
    have X4 := X3.tal (R' := Whs.rest { D with pegs := D.pegs.filter fun x => decide (x.1 ≠ p.1) }) t4 k4
    have hh4 := X4.hh
    have R4 : HouR I hc T.o_Tally Sp H4 B { D with pegs := D.pegs.filter fun x => decide (x.1 ≠ p.1) } gs L G' D.things := ⟨⟨X4.hh, X4.pegs, X4.boxes, X4.goings, X4.pt, X4.nd, X4.sp⟩, X.geq⟩
    have sz4 : Sz { D with pegs := D.pegs.filter fun x => decide (x.1 ≠ p.1) } := ⟨sz.pile, Nat.le_trans (List.length_filter_le _ _) sz.pegs, sz.boxes, sz.goings, sz.whole⟩
    walk_at "wp"
    refine ⟨Sp, B, _, gs, L, G', _, rfl, R4, dok_unpeg ok, sz4, fun y hy n => ?_, fun D' S6 H6 sd hou mv6 => ?_⟩
    · have t := thing_isT hy
      by_cases c : y ∈ L ++ Whs.rest { D with pegs := D.pegs.filter fun x => decide (x.1 ≠ p.1) }
      · exact absurd ((R4.mem t).mp c) n
      · rcases List.mem_append.mp ((lk.mem t).mp ((X.mem t).mpr (hl y hy))) with m | m
        · exact absurd m c
        · exact g6 y m t c
    walk_at "wp"
    exact q D' S6 H6 sd hou (Mv.trans (Mv.same s1) (Mv.trans ⟨k2.mono (by simp [All]), Grow.refl⟩ (Mv.trans (Mv.same s3) (Mv.trans ⟨k4.mono (by simp [All]), Grow.refl⟩ mv6))))

end
end K28

namespace K28
open PySem PySem.Spec PyProof.Rows L2 Wp Wq Wr Wpm Wth Wta Wpi Whs
local macro_rules | `(tactic| walk_at "ne") => `(tactic| first
  | assumption
  | (refine Ne.symm ?_; assumption)
  | exact ne_of_none (by assumption) (by assumption)
  | exact (ne_of_none (by assumption) (by assumption)).symm
  | exact ne_of (by assumption) (by assumption) (by intro q; cases q))
local macro_rules | `(tactic| walk_at "hp") => `(tactic| first
  | assumption
  | exact upd_same
  | (refine (upd_ne ?_).trans ?_; (walk_at "ne"); (walk_at "hp")))
local macro_rules | `(tactic| walk_at "hq") => `(tactic| first
  | assumption
  | exact upd_same
  | (refine same_new (by assumption) _ _ ?_; (walk_at "hq"))
  | (refine Wp.look (by assumption) ?_; (walk_at "hq")))
local macro_rules | `(tactic| walk_at "sm") => `(tactic| first
  | assumption
  | exact fun _ _ h => h
  | exact same_new (by assumption)
  | (refine Same.trans ?_ (same_new (by assumption)); (walk_at "sm"))
  | (refine Same.trans ?_ (by assumption); (walk_at "sm")))
local macro_rules | `(tactic| walk_at "kp") => `(tactic| first
  | assumption
  | exact Kp.refl _ _
  | (refine Kp.trans ?_ (Kp.new (by assumption)); (walk_at "kp"))
  | (refine Kp.trans ?_ (Same.kp (by assumption)); (walk_at "kp"))
  | (refine Wp.kpT ?_ (by assumption); (walk_at "kp"))
  | exact Same.kp (by walk_at "sm"))
local macro_rules | `(tactic| walk_at "sq") => `(tactic| first
  | assumption
  | exact SqL.of (by walk_at "hp")
  | exact SqT.of (by walk_at "hp"))
local macro_rules | `(tactic| walk_at "kind") => `(tactic| first
  | assumption
  | exact Kind.int _
  | exact Kind.str _
  | exact Kind.bl _
  | exact Kind.non
  | exact Kind.tup (by walk_at "hp")
  | exact Kind.lst (by walk_at "hp")
  | exact Kind.dK (by walk_at "hp"))
local macro_rules | `(tactic| walk_at "w1") => `(tactic| first
  | (with_reducible refine Wp.seq ?_)
  | (with_reducible refine Wp.nx_mk ?_)
  | (with_reducible refine Wp.rt_mk ?_)
  | (with_reducible refine Wp.bk_mk ?_)
  | (with_reducible refine Wp.ct_mk ?_)
  | (with_reducible refine Wp.next ?_)
  | (with_reducible refine Wp.asg ?_)
  | ((with_reducible refine' Wp.gname ?e ?_); (case e => (try dsimp only [List.set, L2.wipe, List.map_cons, List.map_nil]); (try exact rfl)))
  | (with_reducible refine Wp.gsub ?_)
  | (with_reducible refine Wp.ret ?_)
  | (with_reducible refine Wp.retN ?_)
  | (with_reducible refine Wp.drop ?_)
  | (with_reducible refine Wp.dput ?_)
  | (with_reducible refine Wp.ifs ?_)
  | ((with_reducible refine' Wp.var ?h ?_); (case h => exact rfl))
  | (with_reducible refine Wp.con ?_)
  | (with_reducible refine Wp.op ?_)
  | (with_reducible refine Wp.un ?_)
  | (with_reducible refine Wp.cb ?_)
  | (with_reducible refine Wp.anil ?_)
  | (with_reducible refine Wp.acons ?_)
  | (with_reducible refine Wp.call ?_)
  | (with_reducible refine Wp.test ?_)
  | (with_reducible refine Wp.tb_ ?_)
  | (with_reducible refine Wp.and_ ?_)
  | (with_reducible refine Wp.or_ ?_)
  | (with_reducible refine Wp.not_ ?_)
  | (with_reducible refine Wp.andV ?_)
  | (with_reducible refine Wp.orV ?_)
  | (with_reducible refine Wp.notV ?_)
  | (with_reducible refine Wp.rI0_ ?_)
  | (with_reducible refine Wp.rU_ ?_)
  | ((with_reducible refine Wp.rEq_ ?k ?_); (case k => exact rfl))
  | ((with_reducible refine Wp.rNe_ ?k ?_); (case k => exact rfl))
  | (with_reducible refine Wp.gcons ?_)
  | (with_reducible refine Wp.gnil ?_)
  | ((with_reducible refine' Wp.gtup ?h ?e ?_); (case h => walk_at "sq"); (case e => exact rfl))
  | (with_reducible refine Wp.sl ?_)
  | (with_reducible refine Wp.part ?_)
  | (with_reducible refine Wp.nopart ?_)
  | (with_reducible refine Wp.ifE ?_)
  | (with_reducible refine Wp.bm0 ?_)
  | (with_reducible refine Wp.bm ?_)
  | (with_reducible refine Wp.lcR1 ?_)
  | (with_reducible refine Wp.lcR2 ?_)
  | (with_reducible refine Wp.lcL ?_)
  | (with_reducible refine Wp.chain ?_)
  | (with_reducible refine Wp.lc2V ?_)
  | (with_reducible refine Wp.piL ?_)
  | (with_reducible refine Wp.yes ?_)
  | (with_reducible refine Wp.dinI ?_)
  | (with_reducible refine Wp.dninI ?_)
  | (with_reducible refine Wp.dget ?_)
  | ((with_reducible refine' ⟨?k, ?_⟩); (case k => show L2.wipe _ _ = L2.wipe _ _; exact rfl))
  | ((with_reducible refine' ⟨?k, ?_⟩); (case k => show V.non = V.non; exact rfl))
  | (with_reducible refine Wp.forR1 ?_)
  | (with_reducible refine Wp.forR2 ?_)
  | (with_reducible refine Wp.forL ?_)
  | (with_reducible refine Wp.forT ?_)
  | ((with_reducible refine' ⟨?k, ?_⟩); (case k => exact Wp.tyvL (by walk_at "hp")))
  | ((with_reducible refine' Wp.rev_ ?k ?_); (case k => walk_at "hp"))
  | ((with_reducible refine' Wp.isi ?k ?h ?_); (case k => walk_at "kind"); (case h => decide))
  | ((with_reducible refine' Wp.typ ?k ?_); (case k => walk_at "kind"))
  | (with_reducible refine Wp.slS ?k ?_; (case k => assumption))
  | (with_reducible refine iteT ?_)
  | (with_reducible refine iteF ?_)
  | (with_reducible refine Wtc.dcL ?_)
  | (with_reducible refine Wst.step ?_)
  | (with_reducible refine Wtc.dget2 ?_)
  | (with_reducible refine Wtc.lcZ ?_)
  | (with_reducible refine Wrw.loop_setLc ?_)
  | (with_reducible refine Wz.par ?_)
  | (with_reducible refine Wz.forN ?_)
  | (with_reducible refine Wz.dcL ?_)
  | (with_reducible refine Wz.forZ ?_)
  | (with_reducible refine Wz.lcR3 ?_)
  | (with_reducible refine Wc.revL ?_)
  | (with_reducible refine Wd.nm ?_)
  | (with_reducible refine Wd.nget ?_)
  | ((with_reducible refine Wd.tnew ?_); intro p hp)
  | (with_reducible refine Wd.pikn ?_)
  | (with_reducible refine Wt.m1 ?_)
  | (with_reducible refine Wt.m0 ?_)
  | ((with_reducible refine' ⟨?k, ?_⟩); (case k => show ∃ a, _ = V.str a; exact ⟨_, rfl⟩))
  | (with_reducible refine Wt.js_cons ?_)
  | (with_reducible refine Wt.fmt_ ?_)
  | (with_reducible refine Wp.pcons ?_)
  | (with_reducible refine Wp.pnil ?_)
  | ((with_reducible refine' Wp.iteBnT ?h ?_); (case h => show isB _ _ = false; decide))
  | ((with_reducible refine' Wp.iteBnF ?h ?_); (case h => show isB _ _ = true; decide))
  | ((with_reducible refine' Wp.iteBt ?h ?_); (case h => show isB _ _ = true; decide))
  | ((with_reducible refine' Wp.iteBf ?h ?_); (case h => show isB _ _ = false; decide))
  | (with_reducible refine Wp.iteT' ?_)
  | (with_reducible refine Wp.iteF' ?_)
  | (with_reducible refine Wp.rNT_ ?_)
  | ((with_reducible refine Wp.lst ?_))
  | ((with_reducible refine Wp.tup ?_))
  | ((with_reducible refine' Wp.ixL ?h ?e ?_); (case h => walk_at "sq"); (case e => exact rfl))
  | ((with_reducible refine' Wp.ixT ?h ?e ?_); (case h => walk_at "sq"); (case e => exact rfl))
  | ((with_reducible refine' Wp.setL ?h ?e ?_); (case h => walk_at "hp"); (case e => exact rfl))
  | ((with_reducible refine Wp.rI_ ?k ?_); (case k => first | (show (0:Int) < _; omega) | (show CPow _ _; refine' ⟨?_, ?_, ?_⟩ <;> omega) | (show CDiv _ _; refine' ⟨?_, ?_⟩ <;> omega) | (show CMul _ _; refine' Or.inl ⟨?_, ?_⟩ <;> omega) | (show CMul _ _; refine' Or.inr ⟨?_, ?_⟩ <;> first | omega | decide) | (show CDivW _ _; refine' wide_div (b := 240) ?_ ?_ ?_ ?_ <;> first | omega | decide)))
  | ((with_reducible refine ⟨?k, ?_⟩); (case k => first | exact Nat.zero_le _ | (exact Nat.le_of_ble_eq_true rfl)); intro p hp)
  | ((with_reducible refine' ⟨_, _, rfl, .inl ?k, ?_⟩); (case k => walk_at "sq"))
  | ((with_reducible refine' ⟨_, _, rfl, .inr ?k, ?_⟩); (case k => walk_at "sq"))
  | (with_reducible refine ⟨_, rfl, ?_⟩)
  | (with_reducible refine ⟨_, _, rfl, rfl, ?_⟩)
  | (with_reducible refine ⟨_, _, rfl, ?_⟩))
local macro_rules | `(tactic| walk_at "wp") => `(tactic| repeat (walk_at "w1"))

local macro_rules | `(tactic| walk_at "pf") => `(tactic| first
  | (with_reducible exact Wcl.pf0)
  | (with_reducible exact Wcl.pf1)
  | ((with_reducible refine' Wcl.pf2 ?n ?h); (case n => decide +kernel); (case h => walk_at "pf")))
local macro_rules | `(tactic| walk_at "w1") => `(tactic| first
  | (with_reducible refine Wcl.fld_ ?_)
  | (with_reducible refine Wcl.sfld_ ?_)
  | (with_reducible refine Wcl.meth_ ?_)
  | (with_reducible refine Wcl.make_ ?_)
  | (with_reducible refine Wcl.dcZ ?_)
  | (with_reducible refine Wcl.ddelT_ ?_)
  | (with_reducible refine Wcl.daug_ ?_)
  | (with_reducible refine Wcl.dpop1_ ?_)
  | ((with_reducible refine Wcl.dnewT_ ?_); intro p hp)
  | ((with_reducible refine Wcl.dnewK_ ?_); intro p hp)
  | ((with_reducible refine' Wcl.fldR ?h ?c ?n ?e ?_); (case h => walk_at "hp"); (case c => assumption); (case n => assumption); (case e => exact rfl))
  | ((with_reducible refine' Wcl.sfldR ?h ?c ?n ?l ?e ?_); (case h => walk_at "hp"); (case c => assumption); (case n => assumption); (case l => exact Nat.le_of_ble_eq_true rfl); (case e => walk_at "pf"))
  | ((with_reducible refine' Wcl.methR ?h ?l ?_); (case h => walk_at "hp"); (case l => exact rfl)))

section
variable {P : Program} {w : World} {K : PySem.W.Frag} {mg : Str → Option Value} {base : Heap}
/-! ### a new house -/
def none4 : Pic := ⟨[], [], [], []⟩
def spLayP0 (I : PilI K) (hc oT : Addr) : Sp := fun vs H Q _ => ∃ (S : List Addr) (h dx p pd bd : Addr) (A : TAd) (a c : Addr), vs = [.ref h, .ref a, .ref c] ∧ H h = some (.ins hc dx [("piles", .ref p), ("tally", .ref A.ta), ("peg_worths", .ref pd), ("box_worths", .ref bd)]) ∧ PilT I oT S H p A [] [] [] [] [] [] ∧ H pd = some (.dK []) ∧ H bd = some (.dK []) ∧ pd ≠ bd ∧ h ∉ S ∧ pd ∉ S ∧ bd ∉ S ∧ h ≠ A.ta ∧ H a = some (.lst []) ∧ H c = some (.lst []) ∧ a ∉ S ∧ c ∉ S ∧
  ∀ S' H' gd L' G', (gd ∈ S ∨ H gd = none) → HouR I hc oT S' H' ⟨h, dx, p, pd, bd, gd, A⟩ none4 [] L' G' [] → Grow S S' H → Ks (h :: pd :: bd :: A.ta :: A.pc :: A.ls :: S) H H' → Q .non H'
section
variable {I : PilI K} {hc : Addr}
theorem ok_Copies_lay_piles0 (T : Txt P w K mg) (C : HCl K hc) (M_lay : MOk P w K mg base I.o "lay" ["self", "piles"] 9 (spPLay I T.o_Tally)) : FnOk P w K mg base CX0 10 T.f_Copies_lay_piles T.fd_Copies_lay_piles ["self", "pile", "goings"] (spLayP0 I hc T.o_Tally) := by
  refine T.F_Copies_lay_piles.ok sc_Copies_lay_piles (fun vs H Q E h => ?_) (fun cdv Ar outer s H vs Q E hr h => ?_)
  · obtain ⟨S, h, dx, p, pd, bd, A, a, c, rfl, _⟩ := h
    rfl
  · obtain ⟨S, h, dx, p, pd, bd, A, a, c, rfl, hh, X, hpd, hbd, npb, nh, npd, nbd, nha, ha, hc', na, nc, q⟩ := h
    refine ⟨_, (pss_cons (ps_set (i := 3) sc_Copies_lay_piles.nd rfl (.inl rfl) (pe_meth (pe_fld (pv 0) rfl) I.cl M_lay.me M_lay.g (hr.mono (by decide)) M_lay.b .nil pass0 (pa_cons (pe_op op_cat (pe_lst (pa_cons (pv 1) pa_nil)) (pe_lc (own := [("row", 4)]) rfl sc_Copies_lay_piles.nd (pi_list (pv 2)) (blkOk_by (N := ["self", "pile", "goings", "kept", "row", "one"]) (sc := defScope s_Copies_lay_piles) (by decide +kernel)) (fun _ _ _ _ _ => pg_name (i := 4) sc_Copies_lay_piles.nd rfl (Or.inl rfl)) (fun _ _ _ _ _ => pts_nil) (fun _ _ _ _ _ => (pe_ix (show IxR _ (rIxT K) from ix_tup) (pv 4) pe_int (fun _ _ => rfl))))) pa_nil)))
      (pss_one (ps_fld (pv 0) (pe_dc (own := [("row", 4), ("one", 5)]) rfl sc_Copies_lay_piles.nd (pi_zip (by rfl) T.n_zip (pa_cons (pv 2) (pa_cons (pv 3) pa_nil))) (blkOk_by (N := ["self", "pile", "goings", "kept", "row", "one"]) (sc := defScope s_Copies_lay_piles) (by decide +kernel)) (fun _ _ _ _ _ => (show PG _ _ (gTup K 2 _) from pg_tup (by rfl) (pgs_cons (pg_name (i := 4) sc_Copies_lay_piles.nd rfl (Or.inl rfl)) (pgs_cons (pg_name (i := 5) sc_Copies_lay_piles.nd rfl (Or.inl rfl)) pgs_nil)))) (fun _ _ _ _ _ => pts_nil) (fun _ _ _ _ _ => (pe_ix (show IxR _ (rIxT K) from ix_tup) (pv 4) pe_int (fun _ _ => rfl))) (fun _ _ _ _ _ => (pe_tup (pa_cons (pe_ix (show IxR _ (rIxT K) from ix_tup) (pv 4) pe_int (fun _ _ => rfl)) (pa_cons (pv 5) pa_nil))))) rfl))), ?_⟩
    rw [show L2.start ["self", "pile", "goings", "kept", "row", "one"] [.ref h, .ref a, .ref c] = [some (.ref h), some (.ref a), some (.ref c), none, none, none] from rfl]
    try dsimp only [cxOf]
    have c0 := C.cl
    have c1 := C.n1
    have c5 := C.n5
    obtain ⟨dp, fs, hp, _, hm⟩ := I.ins X.at_
    walk_at "wp"
    refine Wcl.methR hp (hm _ (by simp [meths])) ?_
    walk_at "wp"
    rename_i l1 hl1
    have s1 := same_new (o := .lst [.ref a]) hl1
    have hl11 : upd H l1 (.lst [.ref a]) l1 = some (.lst [.ref a]) := upd_same
    generalize upd H l1 (.lst [.ref a]) = H1 at s1 hl11
    refine ⟨⟨_, SqL.of (s1 _ _ hc')⟩, fun D hD => ?_⟩
    refine loopCL (xs := []) (fun j H' => Same H1 H' ∧ H' D = some (.lst [])) ⟨same_new hD, upd_same⟩ (fun j H' _ k => SqL.of (k.1 _ _ (s1 _ _ hc'))) (fun j x H' hj _ => by simp at hj) ?_
    rintro H2 ⟨s2, h2⟩
    walk_at "wp"
    refine cat_ (s2 _ _ hl11) h2 (by show 1 + 0 ≤ sizeLine; decide) (fun R hR => ?_)
    have s3 := s1.trans (s2.trans (same_new (o := .lst ([.ref a] ++ [])) hR))
    have hR3 : upd H2 R (.lst ([.ref a] ++ [])) R = some (.lst [.ref a]) := upd_same
    have fR : H R = none := (s1.trans s2).free hR
    generalize upd H2 R (.lst ([.ref a] ++ [])) = H3 at s3 hR3
    have X3 := X.same s3
    have nRS : R ∉ S := fun m => (I.live X.at_).2 R m fR
    walk_at "wp"
    refine ⟨S, p, R, A, [.ref a], [], [], [], [], [], rfl, X3, hR3, .cons ⟨a, [], rfl, s3 _ _ ha, Pile.nil, na⟩ .nil, nRS, fun P hP => ?_, by show 1 ≤ _; decide, fun S4 H4 L4 G4 l vs' hl0 hl4 hvl st nl => ?_⟩
    · rw [List.mem_singleton.mp hP]; exact ⟨Nat.zero_le _, fun _ h => nomatch h⟩
    have ev : vs' = [] := List.length_eq_zero_iff.mp hvl
    subst ev
    have kn : ∀ x, x ∉ S → (∃ o, H x = some (.lst o) ∨ H x = some (.dK []) ∨ H x = some (.ins hc dx [("piles", .ref p), ("tally", .ref A.ta), ("peg_worths", .ref pd), ("box_worths", .ref bd)])) → x ≠ A.ta → x ∉ S ++ [A.pc, A.ls] := fun x hx ho hta m => by
      rcases List.mem_append.mp m with m | m
      · exact hx m
      · obtain ⟨_, p1, _⟩ := X.tl.hp
        obtain ⟨_, p2, _⟩ := X.tl.hl
        simp only [List.mem_cons, List.not_mem_nil, or_false] at m
        obtain ⟨o, ho⟩ := ho
        rcases m with rfl | rfl
        · rw [p1] at ho; rcases ho with h | h | h <;> cases h
        · rw [p2] at ho; rcases ho with h | h | h <;> cases h
    have hta := X.tl.hi
    have k34 := st.ks
    have kk : Ks (S ++ [A.pc, A.ls]) H H4 := (Ks.same s3).trans k34
    have hh4 := kk.keep _ _ (kn h nh ⟨[], .inr (.inr hh)⟩ nha) hh
    have hpd4 := kk.keep _ _ (kn pd npd ⟨[], .inr (.inl hpd)⟩ (ne_of hpd hta (fun q => nomatch q))) hpd
    have hbd4 := kk.keep _ _ (kn bd nbd ⟨[], .inr (.inl hbd)⟩ (ne_of hbd hta (fun q => nomatch q))) hbd
    have hc4 := kk.keep _ _ (kn c nc ⟨[], .inl hc'⟩ (ne_of hc' hta (fun q => nomatch q))) hc'
    walk_at "wp"
    refine ⟨c, l, [], [], rfl, SqL.of hc4, SqL.of hl4, fun D2 hD2 => ?_⟩
    refine Wcl.loopDZ (fun j H' => Same H4 H' ∧ H' D2 = some (.dK [])) rfl ⟨same_new hD2, upd_same⟩ (fun j H' _ k => ⟨SqL.of (k.1 _ _ hc4), SqL.of (k.1 _ _ hl4)⟩) (fun j x y T H' hj _ _ _ => by simp at hj) ?_
    rintro H5 ⟨s5, h5⟩
    have hh5 := s5 _ _ hh4
    have pt5 := st.pt.same s5
    have gD2 : D2 ∈ S ∨ H D2 = none := by
      cases e : H D2 with
      | none => exact .inr rfl
      | some o =>
        by_cases m : D2 ∈ S ++ [A.pc, A.ls]
        · rcases List.mem_append.mp m with m | m
          · exact .inl m
          · obtain ⟨_, p1, _⟩ := st.pt.tl.hp
            obtain ⟨_, p2, _⟩ := st.pt.tl.hl
            simp only [List.mem_cons, List.not_mem_nil, or_false] at m
            rcases m with rfl | rfl
            · rw [p1] at hD2; cases hD2
            · rw [p2] at hD2; cases hD2
        · rw [kk.keep _ _ m e] at hD2; cases hD2
    walk_at "wp"
    obtain ⟨_, p1, _⟩ := pt5.tl.hp
    obtain ⟨_, p2, _⟩ := pt5.tl.hl
    have hta5 := pt5.tl.hi
    have hpd5 := s5 _ _ hpd4
    have hbd5 := s5 _ _ hbd4
    have nS4 : ∀ x, x ∉ S → H x ≠ none → x ∉ S4 := fun x n e m => by
      rcases st.gr x m with m | m
      · exact n m
      · exact e (s3.free m)
    have h4ne : ∀ x o, H4 x = some o → x ≠ D2 := fun x o e q => by rw [q, hD2] at e; cases e
    have nhS4 : h ∉ S4 := nS4 h nh (by rw [hh]; exact fun q => nomatch q)
    have npS4 : pd ∉ S4 := nS4 pd npd (by rw [hpd]; exact fun q => nomatch q)
    have nbS4 : bd ∉ S4 := nS4 bd nbd (by rw [hbd]; exact fun q => nomatch q)
    have nDS4 : D2 ∉ S4 := fun m => (I.live st.pt.at_).2 D2 m hD2
    have hpn : h ≠ pd := ne_of hh5 hpd5 (fun q => nomatch q)
    have hbn : h ≠ bd := ne_of hh5 hbd5 (fun q => nomatch q)
    have hdn : h ≠ D2 := h4ne _ _ hh4
    have pdn : pd ≠ D2 := h4ne _ _ hpd4
    have bdn : bd ≠ D2 := h4ne _ _ hbd4
    have hc1 : h ≠ A.pc := ne_of hh5 p1 (fun q => nomatch q)
    have hl1' : h ≠ A.ls := ne_of hh5 p2 (fun q => nomatch q)
    have kh : Ks [h] H5 (upd H5 h (.ins hc dx [("piles", .ref p), ("tally", .ref A.ta), ("peg_worths", .ref pd), ("box_worths", .ref bd), ("kept_goings", .ref D2)])) := ⟨fun a o n e => by
      rw [upd_ne (fun q : a = h => n (by rw [q]; simp))]; exact e, fun t ys e => by
      rw [upd_ne (ne_of e hh5 (fun q => nomatch q))]; exact e⟩
    have X6 := pt5.keep kh (fun a ha m => nhS4 (by rw [← List.mem_singleton.mp m]; exact ha)) (by rw [List.mem_singleton]; exact Ne.symm nha) (by rw [List.mem_singleton]; exact Ne.symm hc1) (by rw [List.mem_singleton]; exact Ne.symm hl1')
    refine q S4 _ D2 L4 G4 gD2 ⟨⟨upd_same, ⟨[], (upd_ne (Ne.symm hpn)).trans hpd5, .nil⟩, ⟨[], (upd_ne (Ne.symm hbn)).trans hbd5, .nil⟩, ⟨[], (upd_ne (Ne.symm hdn)).trans h5, .nil⟩, X6, ?_, ?_⟩, rfl⟩ (fun a ha => ?_) ⟨fun a o n e => ?_, ?_⟩
    · have e1 : pd ≠ A.ta := ne_of hpd5 hta5 (fun q => nomatch q)
      have e2 : pd ≠ A.pc := ne_of hpd5 p1 (fun q => nomatch q)
      have e3 : pd ≠ A.ls := ne_of hpd5 p2 (fun q => nomatch q)
      have e4 : bd ≠ A.ta := ne_of hbd5 hta5 (fun q => nomatch q)
      have e5 : bd ≠ A.pc := ne_of hbd5 p1 (fun q => nomatch q)
      have e6 : bd ≠ A.ls := ne_of hbd5 p2 (fun q => nomatch q)
      have e7 : D2 ≠ A.ta := ne_of h5 hta5 (fun q => nomatch q)
      have e8 : D2 ≠ A.pc := ne_of h5 p1 (fun q => nomatch q)
      have e9 : D2 ≠ A.ls := ne_of h5 p2 (fun q => nomatch q)
      have e10 := pt5.tl.ne1
      have e11 := pt5.tl.ne
      simp [hpn, hbn, hdn, nha, hc1, hl1', npb, pdn, bdn, e1, e2, e3, e4, e5, e6, e7, e8, e9, e10.1, e10.2, e11]
    · intro a ha
      simp only [List.mem_cons, List.not_mem_nil, or_false] at ha
      rcases ha with rfl | rfl | rfl | rfl
      · exact nhS4
      · exact npS4
      · exact nbS4
      · exact nDS4
    · rcases st.gr a ha with m | m
      · exact .inl m
      · exact .inr (s3.free m)
    · simp only [List.mem_cons, not_or] at n
      obtain ⟨n1, n2, n3, n4, n5, n6, n7⟩ := n
      rw [upd_ne n1]
      exact s5 _ _ (kk.keep _ _ (fun m => by
        rcases List.mem_append.mp m with m | m
        · exact n7 m
        · simp only [List.mem_cons, List.not_mem_nil, or_false] at m
          rcases m with m | m
          · exact n5 m
          · exact n6 m) e)
    · exact kk.tk.trans ((Same.tk s5).trans kh.tk)
def spBegin0 (I : PilI K) (hc oT : Addr) : Sp := fun vs H Q _ => ∃ (S : List Addr) (h dx p t a b c d : Addr) (A : TAd), vs = [.ref h, .ref p, .ref t] ∧ H h = some (.ins hc dx []) ∧ PilT I oT S H p A [] [] [] [] [] [] ∧ h ∉ S ∧ h ≠ A.ta ∧ H t = some (.tup [.ref a, .ref b, .ref c, .ref d]) ∧ H a = some (.lst []) ∧ H b = some (.lst []) ∧ H c = some (.lst []) ∧ H d = some (.lst []) ∧ a ∉ S ∧ c ∉ S ∧
  ∀ S' H' B L' G', B.h = h → HouR I hc oT S' H' B none4 [] L' G' [] → (∀ x ∈ All B S', x ∈ h :: A.ta :: A.pc :: A.ls :: S ∨ H x = none) → Ks (h :: A.ta :: A.pc :: A.ls :: S) H H' → Q .non H'
theorem ok_Copies_begin0 (T : Txt P w K mg) (C : HCl K hc) (M_lay : MOk P w K mg base I.o "lay" ["self", "piles"] 9 (spPLay I T.o_Tally)) (N_lay_piles : MOk P w K mg base hc "lay_piles" ["self", "pile", "goings"] 10 (spLayP0 I hc T.o_Tally)) : FnOk P w K mg base CX0 11 T.f_Copies_begin T.fd_Copies_begin ["self", "piles", "picture"] (spBegin0 I hc T.o_Tally) := by
  have G_Tally_more := ok_Tally_more (base := base) T
  refine T.F_Copies_begin.ok sc_Copies_begin (fun vs H Q E h => ?_) (fun cdv Ar outer s H vs Q E hr h => ?_)
  · obtain ⟨S, h, dx, p, t, a, b, c, d, A, rfl, _⟩ := h
    rfl
  · obtain ⟨S, h, dx, p, t, a, b, c, d, A, rfl, hh, X, nh, nha, ht, ha, hb, hc', hd, na, nc, q⟩ := h
    refine ⟨_, (pss_cons (ps_asg (pv 2) (pg_tup (by rfl) (pgs_cons (pg_name (i := 3) sc_Copies_begin.nd rfl (.inl rfl)) (pgs_cons (pg_name (i := 4) sc_Copies_begin.nd rfl (.inl rfl)) (pgs_cons (pg_name (i := 5) sc_Copies_begin.nd rfl (.inl rfl)) (pgs_cons (pg_name (i := 6) sc_Copies_begin.nd rfl (.inl rfl)) pgs_nil))))))
      (pss_cons (ps_fld (pv 0) (pv 1) rfl)
      (pss_cons (ps_fld (pv 0) (pe_fld (pv 1) rfl) rfl)
      (pss_cons (ps_fld (pv 0) (pe_dc (own := [("name", 7), ("worth", 8)]) rfl sc_Copies_begin.nd (pi_list (pv 4)) (blkOk_by (N := ["self", "piles", "picture", "pile", "pegs", "goings", "boxes", "name", "worth", "b", "row"]) (sc := defScope s_Copies_begin) (by decide +kernel)) (fun _ _ _ _ _ => (show PG _ _ (gTup K 2 _) from pg_tup (by rfl) (pgs_cons (pg_name (i := 7) sc_Copies_begin.nd rfl (Or.inl rfl)) (pgs_cons (pg_name (i := 8) sc_Copies_begin.nd rfl (Or.inl rfl)) pgs_nil)))) (fun _ _ _ _ _ => pts_nil) (fun _ _ _ _ _ => (pv 7)) (fun _ _ _ _ _ => (pv 8))) rfl)
      (pss_cons (ps_fld (pv 0) (pe_dc (own := [("b", 9), ("worth", 8)]) rfl sc_Copies_begin.nd (pi_list (pv 6)) (blkOk_by (N := ["self", "piles", "picture", "pile", "pegs", "goings", "boxes", "name", "worth", "b", "row"]) (sc := defScope s_Copies_begin) (by decide +kernel)) (fun _ _ _ _ _ => (show PG _ _ (gTup K 2 _) from pg_tup (by rfl) (pgs_cons (pg_name (i := 9) sc_Copies_begin.nd rfl (Or.inl rfl)) (pgs_cons (pg_name (i := 8) sc_Copies_begin.nd rfl (Or.inl rfl)) pgs_nil)))) (fun _ _ _ _ _ => pts_nil) (fun _ _ _ _ _ => (pv 9)) (fun _ _ _ _ _ => (pv 8))) rfl)
      (pss_cons (ps_expr (pe_meth (pe_fld (pv 0) rfl) T.cl_Tally T.m_Tally_more G_Tally_more (hr.mono (by decide)) T.b_Tally_more .nil pass0 (pa_cons (pe_lc (own := [("row", 10)]) rfl sc_Copies_begin.nd (pi_list (pe_op op_cat (pv 4) (pv 6))) (blkOk_by (N := ["self", "piles", "picture", "pile", "pegs", "goings", "boxes", "name", "worth", "b", "row"]) (sc := defScope s_Copies_begin) (by decide +kernel)) (fun _ _ _ _ _ => pg_name (i := 10) sc_Copies_begin.nd rfl (Or.inl rfl)) (fun _ _ _ _ _ => pts_nil) (fun _ _ _ _ _ => (pe_ix (show IxR _ (rIxT K) from ix_tup) (pv 10) pe_int (fun _ _ => rfl)))) pa_nil)))
      (pss_one (ps_expr (pe_meth (pv 0) C.cl N_lay_piles.me N_lay_piles.g (hr.mono (by decide)) N_lay_piles.b .nil pass0 (pa_cons (pv 3) (pa_cons (pv 5) pa_nil))))))))))), ?_⟩
    rw [show L2.start ["self", "piles", "picture", "pile", "pegs", "goings", "boxes", "name", "worth", "b", "row"] [.ref h, .ref p, .ref t] = [some (.ref h), some (.ref p), some (.ref t), none, none, none, none, none, none, none, none] from rfl]
    try dsimp only [cxOf]
    have c0 := C.cl
    have c1 := C.n1
    have c2 := C.n2
    have c3 := C.n3
    have c4 := C.n4
    obtain ⟨dp, fs, hp, hf, hm⟩ := I.ins X.at_
    walk_at "wp"
    have nph : p ≠ h := fun e => nh (by rw [← e]; exact (I.live X.at_).1)
    have kp1 : Kp h H (upd H h (.ins hc dx [("piles", .ref p)])) := fun a o n e => by rw [upd_ne n]; exact e
    have hh1 : upd H h (.ins hc dx [("piles", .ref p)]) h = some (.ins hc dx [("piles", .ref p)]) := upd_same
    generalize upd H h (.ins hc dx [("piles", .ref p)]) = H1 at kp1 hh1 ⊢
    refine Wcl.fldR (kp1 _ _ nph hp) I.cl I.nt hf ?_
    walk_at "wp"
    have kp2 : Kp h H (upd H1 h (.ins hc dx [("piles", .ref p), ("tally", .ref A.ta)])) := fun a o n e => by rw [upd_ne n]; exact kp1 _ _ n e
    have hh2 : upd H1 h (.ins hc dx [("piles", .ref p), ("tally", .ref A.ta)]) h = some (.ins hc dx [("piles", .ref p), ("tally", .ref A.ta)]) := upd_same
    generalize upd H1 h (.ins hc dx [("piles", .ref p), ("tally", .ref A.ta)]) = H2 at kp2 hh2 ⊢
    walk_at "wp"
    have bh : b ≠ h := ne_of hb hh (fun q => nomatch q)
    have dh : d ≠ h := ne_of hd hh (fun q => nomatch q)
    have ah : a ≠ h := ne_of ha hh (fun q => nomatch q)
    have ch : c ≠ h := ne_of hc' hh (fun q => nomatch q)
    refine ⟨⟨_, SqL.of (kp2 _ _ bh hb)⟩, fun D1 hD1 => ?_⟩
    refine Wz.loopDL (xs := []) (fun j H' => Same H2 H' ∧ H' D1 = some (.dK [])) ⟨same_new hD1, upd_same⟩ (fun j H' _ k => SqL.of (k.1 _ _ (kp2 _ _ bh hb))) (fun j x H' hj _ => by simp at hj) ?_
    rintro H3 ⟨s3, h3⟩
    have n1 : D1 ≠ h := fun e => by rw [e, hh2] at hD1; cases hD1
    have hh3 := s3 _ _ hh2
    have f1 : H D1 = none := by
      cases e : H D1 with
      | none => rfl
      | some o => rw [kp2 _ _ n1 e] at hD1; cases hD1
    have kp3 : Kp h H H3 := fun a o n e => s3 _ _ (kp2 _ _ n e)
    walk_at "wp"
    have kp4 : Kp h H (upd H3 h (.ins hc dx [("piles", .ref p), ("tally", .ref A.ta), ("peg_worths", .ref D1)])) := fun a o n e => by rw [upd_ne n]; exact kp3 _ _ n e
    have hh4 : upd H3 h (.ins hc dx [("piles", .ref p), ("tally", .ref A.ta), ("peg_worths", .ref D1)]) h = some (.ins hc dx [("piles", .ref p), ("tally", .ref A.ta), ("peg_worths", .ref D1)]) := upd_same
    have h14 : upd H3 h (.ins hc dx [("piles", .ref p), ("tally", .ref A.ta), ("peg_worths", .ref D1)]) D1 = some (.dK []) := (upd_ne n1).trans h3
    generalize upd H3 h (.ins hc dx [("piles", .ref p), ("tally", .ref A.ta), ("peg_worths", .ref D1)]) = H4 at kp4 hh4 h14 ⊢
    walk_at "wp"
    refine ⟨⟨_, SqL.of (kp4 _ _ dh hd)⟩, fun D2 hD2 => ?_⟩
    refine Wz.loopDL (xs := []) (fun j H' => Same H4 H' ∧ H' D2 = some (.dK [])) ⟨same_new hD2, upd_same⟩ (fun j H' _ k => SqL.of (k.1 _ _ (kp4 _ _ dh hd))) (fun j x H' hj _ => by simp at hj) ?_
    rintro H5 ⟨s5, h5⟩
    have n2 : D2 ≠ h := fun e => by rw [e, hh4] at hD2; cases hD2
    have n12 : D1 ≠ D2 := fun e => by rw [← e, h14] at hD2; cases hD2
    have hh5 := s5 _ _ hh4
    have h15 := s5 _ _ h14
    have f2 : H D2 = none := by
      cases e : H D2 with
      | none => rfl
      | some o => rw [kp4 _ _ n2 e] at hD2; cases hD2
    have kp5 : Kp h H H5 := fun a o n e => s5 _ _ (kp4 _ _ n e)
    walk_at "wp"
    have kp6 : Kp h H (upd H5 h (.ins hc dx [("piles", .ref p), ("tally", .ref A.ta), ("peg_worths", .ref D1), ("box_worths", .ref D2)])) := fun a o n e => by rw [upd_ne n]; exact kp5 _ _ n e
    have hh6 : upd H5 h (.ins hc dx [("piles", .ref p), ("tally", .ref A.ta), ("peg_worths", .ref D1), ("box_worths", .ref D2)]) h = some (.ins hc dx [("piles", .ref p), ("tally", .ref A.ta), ("peg_worths", .ref D1), ("box_worths", .ref D2)]) := upd_same
    have h16 : upd H5 h (.ins hc dx [("piles", .ref p), ("tally", .ref A.ta), ("peg_worths", .ref D1), ("box_worths", .ref D2)]) D1 = some (.dK []) := (upd_ne n1).trans h15
    have h26 : upd H5 h (.ins hc dx [("piles", .ref p), ("tally", .ref A.ta), ("peg_worths", .ref D1), ("box_worths", .ref D2)]) D2 = some (.dK []) := (upd_ne n2).trans h5
    generalize upd H5 h (.ins hc dx [("piles", .ref p), ("tally", .ref A.ta), ("peg_worths", .ref D1), ("box_worths", .ref D2)]) = H6 at kp6 hh6 h16 h26 ⊢
    have k6 : Ks [h] H H6 := ⟨fun a o n e => kp6 _ _ (by simpa using n) e, fun t ys e => kp6 _ _ (ne_of e hh (fun q => nomatch q)) e⟩
    have hcp : h ≠ A.pc := by
      obtain ⟨_, p1, _⟩ := X.tl.hp
      exact ne_of hh p1 (fun q => nomatch q)
    have hcl : h ≠ A.ls := by
      obtain ⟨_, p1, _⟩ := X.tl.hl
      exact ne_of hh p1 (fun q => nomatch q)
    have X6 := X.keep k6 (fun a ha m => nh (by rw [← List.mem_singleton.mp m]; exact ha)) (by rw [List.mem_singleton]; exact Ne.symm nha) (by rw [List.mem_singleton]; exact Ne.symm hcp) (by rw [List.mem_singleton]; exact Ne.symm hcl)
    walk_at "wp"
    refine Wcl.methR X6.tl.hi rfl ?_
    walk_at "wp"
    refine cat_ (kp6 _ _ bh hb) (kp6 _ _ dh hd) (by show 0 + 0 ≤ sizeLine; decide) (fun R hR => ?_)
    have s7 := same_new (o := .lst (([] : List V) ++ [])) hR
    have hR7 : upd H6 R (.lst (([] : List V) ++ [])) R = some (.lst []) := upd_same
    generalize upd H6 R (.lst (([] : List V) ++ [])) = H7 at s7 hR7 ⊢
    walk_at "wp"
    refine ⟨⟨_, SqL.of hR7⟩, fun D3 hD3 => ?_⟩
    refine loopCL (xs := []) (fun j H' => Same H7 H' ∧ H' D3 = some (.lst [])) ⟨same_new hD3, upd_same⟩ (fun j H' _ k => SqL.of (k.1 _ _ hR7)) (fun j x H' hj _ => by simp at hj) ?_
    rintro H8 ⟨s8, h8⟩
    have s68 := s7.trans s8
    have X8 := X6.same s68
    walk_at "wp"
    refine ⟨A, D3, [], [], [], [], [], rfl, X8.tl, h8, .nil, (fun _ h => nomatch h), fun H9 tl9 k9 => ?_⟩
    have X9 : PilT I T.o_Tally S H9 p A [] [] [] [] [] [] := ⟨I.keep X8.at_ k9 (fun a ha m => X8.n2 (by rw [← List.mem_singleton.mp m]; exact ha)), tl9, X8.n1, X8.n2, X8.n3⟩
    have kq : ∀ x o, x ≠ A.pc → H6 x = some o → H9 x = some o := fun x o n e => k9.keep _ _ (by simpa using n) (s68 _ _ e)
    have d1p : D1 ≠ A.pc := by
      obtain ⟨_, p1, _⟩ := X6.tl.hp
      exact ne_of h16 p1 (fun q => nomatch q)
    have d2p : D2 ≠ A.pc := by
      obtain ⟨_, p1, _⟩ := X6.tl.hp
      exact ne_of h26 p1 (fun q => nomatch q)
    have cp : ∀ x, H x = some (.lst []) → x ≠ A.pc := fun x e => by
      obtain ⟨_, p1, _⟩ := X.tl.hp
      exact ne_of e p1 (fun q => nomatch q)
    have hh9 := kq _ _ hcp hh6
    have nDS : ∀ x, H x = none → x ∉ S := fun x e m => (I.live X.at_).2 x m e
    walk_at "wp"
    have k09 : Ks (h :: A.ta :: A.pc :: A.ls :: S) H H9 := ((k6.mono (by simp)).trans (Ks.same s68)).trans (k9.mono (by simp))
    refine ⟨S, h, dx, p, D1, D2, A, a, c, rfl, hh9, X9, kq _ _ d1p h16, kq _ _ d2p h26, n12, nh, nDS _ f1, nDS _ f2, nha, kq _ _ (cp a ha) (kp6 _ _ ah ha), kq _ _ (cp c hc') (kp6 _ _ ch hc'), na, nc, fun S' H' gd L' G' fg hr' gr kk => ?_⟩
    walk_at "wp"
    have free9 : ∀ x, H9 x = none → x ≠ h → x ≠ A.pc → H x = none := fun x e n1 n2 => by
      cases e' : H x with
      | none => rfl
      | some o => rw [kq _ _ n2 (kp6 _ _ n1 e')] at e; cases e
    have hpc9 : H9 A.pc ≠ none := by
      obtain ⟨_, p1, _⟩ := X9.tl.hp
      rw [p1]; exact fun q => nomatch q
    have new9 : ∀ x, H9 x = none → H x = none := fun x e => free9 x e (fun q => by rw [q, hh9] at e; cases e) (fun q => hpc9 (by rw [← q]; exact e))
    refine q S' H' ⟨h, dx, p, D1, D2, gd, A⟩ L' G' rfl hr' (fun x hx => ?_) ⟨fun x o n e => ?_, k09.tk.trans kk.tk⟩
    · simp only [All, List.mem_cons] at hx
      simp only [List.mem_cons]
      rcases hx with rfl | rfl | rfl | rfl | rfl | rfl | rfl | hx
      · exact .inl (.inl rfl)
      · exact .inr f1
      · exact .inr f2
      · rcases fg with fg | fg
        · exact .inl (.inr (.inr (.inr (.inr fg))))
        · exact .inr (new9 _ fg)
      · exact .inl (.inr (.inl rfl))
      · exact .inl (.inr (.inr (.inl rfl)))
      · exact .inl (.inr (.inr (.inr (.inl rfl))))
      · rcases gr x hx with m | m
        · exact .inl (.inr (.inr (.inr (.inr m))))
        · exact .inr (new9 _ m)
    · have n' := n
      simp only [List.mem_cons, not_or] at n'
      obtain ⟨m1, m2, m3, m4, m5⟩ := n'
      refine kk.keep _ _ (fun m => ?_) (k09.keep _ _ n e)
      simp only [List.mem_cons] at m
      rcases m with m | m | m | m | m | m | m
      · exact m1 m
      · rw [m, f1] at e; cases e
      · rw [m, f2] at e; cases e
      · exact m2 m
      · exact m3 m
      · exact m4 m
      · exact m5 m
def spHInit (I : PilI K) (hc oT : Addr) : Sp := fun vs H Q _ => ∃ (h dx : Addr), vs = [.ref h] ∧ H h = some (.ins hc dx []) ∧ ∀ S H', House I hc oT S H' h none4 → (∀ x ∈ S, x = h ∨ H x = none) → Ks [h] H H' → Q .non H'
theorem dok0 : Dok none4 := ⟨(fun _ h => nomatch h), (fun _ h => nomatch h), .nil, .nil, (fun _ h => nomatch h), .nil, (fun _ h => nomatch h), (fun _ h => nomatch h)⟩
theorem ok_Copies_init (T : Txt P w K mg) (C : HCl K hc) (N_begin : MOk P w K mg base hc "begin" ["self", "piles", "picture"] 11 (spBegin0 (WP T) hc T.o_Tally)) : FnOk P w K mg base CX0 12 T.f_Copies_init T.fd_Copies_init ["self"] (spHInit (WP T) hc T.o_Tally) := by
  have G_WholePiles_init := ok_WholePiles_init (base := base) T
  refine T.F_Copies_init.ok sc_Copies_init (fun vs H Q E h => ?_) (fun cdv Ar outer s H vs Q E hr h => ?_)
  · obtain ⟨h, dx, rfl, _⟩ := h
    rfl
  · obtain ⟨h, dx, rfl, hh, q⟩ := h
    refine ⟨_, (pss_one (ps_expr (pe_meth (pv 0) C.cl N_begin.me N_begin.g (hr.mono (by decide)) N_begin.b .nil pass0 (pa_cons (pe_make0 T.mk_WholePiles G_WholePiles_init (hr.mono (by decide)) rfl T.gC_WholePiles T.b_WholePiles_init .nil pass0) (pa_cons (pe_tup (pa_cons (pe_lst pa_nil) (pa_cons (pe_lst pa_nil) (pa_cons (pe_lst pa_nil) (pa_cons (pe_lst pa_nil) pa_nil))))) pa_nil))))), ?_⟩
    rw [show L2.start ["self"] [.ref h] = [some (.ref h)] from rfl]
    try dsimp only [cxOf]
    have c0 := C.cl
    walk_at "wp"
    intro p dp np nd nne
    have sa : Same H (upd (upd H dp (.own p)) p (.ins T.o_WholePiles dp [])) := (same_new nd).trans (same_new (by rw [upd_ne nne.symm]; exact np))
    have hp : upd (upd H dp (.own p)) p (.ins T.o_WholePiles dp []) p = some (.ins T.o_WholePiles dp []) := upd_same
    generalize upd (upd H dp (.own p)) p (.ins T.o_WholePiles dp []) = H1 at sa hp
    refine ⟨p, dp, rfl, hp, fun S A H2 X fS fta fpc fls k2 => ⟨rfl, ?_⟩⟩
    have hph : p ≠ h := fun e => by rw [e, hh] at np; cases np
    have s2 : Same H H2 := fun a o e => k2.keep _ _ (by simpa using fun q : a = p => by rw [q, np] at e; cases e) (sa _ _ e)
    walk_at "wp"
    rename_i a ha b hb c hc' d hd t ht
    have s3 := same_new (o := .lst []) ha
    have s4 := same_new (o := .lst []) hb
    have s5 := same_new (o := .lst []) hc'
    have s6 := same_new (o := .lst []) hd
    have s7 := same_new (o := .tup [.ref a, .ref b, .ref c, .ref d]) ht
    have e1 : upd H2 a (.lst []) a = some (.lst []) := upd_same
    have e2 : upd (upd H2 a (.lst [])) b (.lst []) b = some (.lst []) := upd_same
    have e3 : upd (upd (upd H2 a (.lst [])) b (.lst [])) c (.lst []) c = some (.lst []) := upd_same
    have e4 : upd (upd (upd (upd H2 a (.lst [])) b (.lst [])) c (.lst [])) d (.lst []) d = some (.lst []) := upd_same
    have e5 : upd (upd (upd (upd (upd H2 a (.lst [])) b (.lst [])) c (.lst [])) d (.lst [])) t (.tup [.ref a, .ref b, .ref c, .ref d]) t = some (.tup [.ref a, .ref b, .ref c, .ref d]) := upd_same
    generalize upd H2 a (.lst []) = H3 at *
    generalize upd H3 b (.lst []) = H4 at *
    generalize upd H4 c (.lst []) = H5 at *
    generalize upd H5 d (.lst []) = H6 at *
    generalize upd H6 t (.tup [.ref a, .ref b, .ref c, .ref d]) = H7 at *
    have s27 : Same H2 H7 := s3.trans (s4.trans (s5.trans (s6.trans s7)))
    have X7 := X.same s27
    have hh7 := s27 _ _ (s2 _ _ hh)
    have hpS : ∀ x ∈ S, H x = none := fun x m => by
      rcases fS x m with m | m
      · rw [m]; exact np
      · exact sa.free m
    have lS : ∀ x, H2 x = none → x ∉ S := fun x e m => ((WP T).live X.at_).2 x m e
    have f3 : ∀ x, H3 x = none → H2 x = none := fun x e => s3.free e
    refine ⟨S, h, dx, p, t, a, b, c, d, A, rfl, hh7, X7, (fun m => by rw [hpS _ m] at hh; cases hh), (fun e => by rw [← e, sa _ _ hh] at fta; cases fta), e5, s7 _ _ (s6 _ _ (s5 _ _ (s4 _ _ e1))), s7 _ _ (s6 _ _ (s5 _ _ e2)), s7 _ _ (s6 _ _ e3), s7 _ _ e4, lS a ha, lS c (s3.free (s4.free hc')), fun S' H' B L' G' eB hr' fr kk => ?_⟩
    walk_at "wp"
    have free7 : ∀ x, H7 x = none → H x = none := fun x e => s2.free (s27.free e)
    have old : ∀ x, x ∈ h :: A.ta :: A.pc :: A.ls :: S → x = h ∨ H x = none := fun x m => by
      simp only [List.mem_cons] at m
      rcases m with m | m | m | m | m
      · exact .inl m
      · exact .inr (by rw [m]; exact sa.free fta)
      · exact .inr (by rw [m]; exact sa.free fpc)
      · exact .inr (by rw [m]; exact sa.free fls)
      · exact .inr (hpS _ m)
    refine q (All B S') H' ⟨B, S', [], L', G', eB, rfl, hr', dok0, (fun _ h => nomatch h)⟩ (fun x m => ?_) ⟨fun x o n e => ?_, (Same.tk (s2.trans s27)).trans kk.tk⟩
    · rcases fr x m with m | m
      · exact old x m
      · exact .inr (free7 x m)
    · refine kk.keep _ _ (fun m => ?_) (s27 _ _ (s2 _ _ e))
      rcases old x m with m | m
      · exact n (by simp [m])
      · rw [m] at e; cases e
end

end
end K28

namespace K28
open PySem PySem.Spec PyProof.Rows L2 Wp Wq Wr Wpm Wth Wta Wpi Whs
local macro_rules | `(tactic| walk_at "ne") => `(tactic| first
  | assumption
  | (refine Ne.symm ?_; assumption)
  | exact ne_of_none (by assumption) (by assumption)
  | exact (ne_of_none (by assumption) (by assumption)).symm
  | exact ne_of (by assumption) (by assumption) (by intro q; cases q))
local macro_rules | `(tactic| walk_at "hp") => `(tactic| first
  | assumption
  | exact upd_same
  | (refine (upd_ne ?_).trans ?_; (walk_at "ne"); (walk_at "hp")))
local macro_rules | `(tactic| walk_at "hq") => `(tactic| first
  | assumption
  | exact upd_same
  | (refine same_new (by assumption) _ _ ?_; (walk_at "hq"))
  | (refine Wp.look (by assumption) ?_; (walk_at "hq")))
local macro_rules | `(tactic| walk_at "sm") => `(tactic| first
  | assumption
  | exact fun _ _ h => h
  | exact same_new (by assumption)
  | (refine Same.trans ?_ (same_new (by assumption)); (walk_at "sm"))
  | (refine Same.trans ?_ (by assumption); (walk_at "sm")))
local macro_rules | `(tactic| walk_at "kp") => `(tactic| first
  | assumption
  | exact Kp.refl _ _
  | (refine Kp.trans ?_ (Kp.new (by assumption)); (walk_at "kp"))
  | (refine Kp.trans ?_ (Same.kp (by assumption)); (walk_at "kp"))
  | (refine Wp.kpT ?_ (by assumption); (walk_at "kp"))
  | exact Same.kp (by walk_at "sm"))
local macro_rules | `(tactic| walk_at "sq") => `(tactic| first
  | assumption
  | exact SqL.of (by walk_at "hp")
  | exact SqT.of (by walk_at "hp"))
local macro_rules | `(tactic| walk_at "kind") => `(tactic| first
  | assumption
  | exact Kind.int _
  | exact Kind.str _
  | exact Kind.bl _
  | exact Kind.non
  | exact Kind.tup (by walk_at "hp")
  | exact Kind.lst (by walk_at "hp")
  | exact Kind.dK (by walk_at "hp"))
local macro_rules | `(tactic| walk_at "w1") => `(tactic| first
  | (with_reducible refine Wp.seq ?_)
  | (with_reducible refine Wp.nx_mk ?_)
  | (with_reducible refine Wp.rt_mk ?_)
  | (with_reducible refine Wp.bk_mk ?_)
  | (with_reducible refine Wp.ct_mk ?_)
  | (with_reducible refine Wp.next ?_)
  | (with_reducible refine Wp.asg ?_)
  | ((with_reducible refine' Wp.gname ?e ?_); (case e => (try dsimp only [List.set, L2.wipe, List.map_cons, List.map_nil]); (try exact rfl)))
  | (with_reducible refine Wp.gsub ?_)
  | (with_reducible refine Wp.ret ?_)
  | (with_reducible refine Wp.retN ?_)
  | (with_reducible refine Wp.drop ?_)
  | (with_reducible refine Wp.dput ?_)
  | (with_reducible refine Wp.ifs ?_)
  | ((with_reducible refine' Wp.var ?h ?_); (case h => exact rfl))
  | (with_reducible refine Wp.con ?_)
  | (with_reducible refine Wp.op ?_)
  | (with_reducible refine Wp.un ?_)
  | (with_reducible refine Wp.cb ?_)
  | (with_reducible refine Wp.anil ?_)
  | (with_reducible refine Wp.acons ?_)
  | (with_reducible refine Wp.call ?_)
  | (with_reducible refine Wp.test ?_)
  | (with_reducible refine Wp.tb_ ?_)
  | (with_reducible refine Wp.and_ ?_)
  | (with_reducible refine Wp.or_ ?_)
  | (with_reducible refine Wp.not_ ?_)
  | (with_reducible refine Wp.andV ?_)
  | (with_reducible refine Wp.orV ?_)
  | (with_reducible refine Wp.notV ?_)
  | (with_reducible refine Wp.rI0_ ?_)
  | (with_reducible refine Wp.rU_ ?_)
  | ((with_reducible refine Wp.rEq_ ?k ?_); (case k => exact rfl))
  | ((with_reducible refine Wp.rNe_ ?k ?_); (case k => exact rfl))
  | (with_reducible refine Wp.gcons ?_)
  | (with_reducible refine Wp.gnil ?_)
  | ((with_reducible refine' Wp.gtup ?h ?e ?_); (case h => walk_at "sq"); (case e => exact rfl))
  | (with_reducible refine Wp.sl ?_)
  | (with_reducible refine Wp.part ?_)
  | (with_reducible refine Wp.nopart ?_)
  | (with_reducible refine Wp.ifE ?_)
  | (with_reducible refine Wp.bm0 ?_)
  | (with_reducible refine Wp.bm ?_)
  | (with_reducible refine Wp.lcR1 ?_)
  | (with_reducible refine Wp.lcR2 ?_)
  | (with_reducible refine Wp.lcL ?_)
  | (with_reducible refine Wp.chain ?_)
  | (with_reducible refine Wp.lc2V ?_)
  | (with_reducible refine Wp.piL ?_)
  | (with_reducible refine Wp.yes ?_)
  | (with_reducible refine Wp.dinI ?_)
  | (with_reducible refine Wp.dninI ?_)
  | (with_reducible refine Wp.dget ?_)
  | ((with_reducible refine' ⟨?k, ?_⟩); (case k => show L2.wipe _ _ = L2.wipe _ _; exact rfl))
  | ((with_reducible refine' ⟨?k, ?_⟩); (case k => show V.non = V.non; exact rfl))
  | (with_reducible refine Wp.forR1 ?_)
  | (with_reducible refine Wp.forR2 ?_)
  | (with_reducible refine Wp.forL ?_)
  | (with_reducible refine Wp.forT ?_)
  | ((with_reducible refine' ⟨?k, ?_⟩); (case k => exact Wp.tyvL (by walk_at "hp")))
  | ((with_reducible refine' Wp.rev_ ?k ?_); (case k => walk_at "hp"))
  | ((with_reducible refine' Wp.isi ?k ?h ?_); (case k => walk_at "kind"); (case h => decide))
  | ((with_reducible refine' Wp.typ ?k ?_); (case k => walk_at "kind"))
  | (with_reducible refine Wp.slS ?k ?_; (case k => assumption))
  | (with_reducible refine iteT ?_)
  | (with_reducible refine iteF ?_)
  | (with_reducible refine Wtc.dcL ?_)
  | (with_reducible refine Wst.step ?_)
  | (with_reducible refine Wtc.dget2 ?_)
  | (with_reducible refine Wtc.lcZ ?_)
  | (with_reducible refine Wrw.loop_setLc ?_)
  | (with_reducible refine Wz.par ?_)
  | (with_reducible refine Wz.forN ?_)
  | (with_reducible refine Wz.dcL ?_)
  | (with_reducible refine Wz.forZ ?_)
  | (with_reducible refine Wz.lcR3 ?_)
  | (with_reducible refine Wc.revL ?_)
  | (with_reducible refine Wd.nm ?_)
  | (with_reducible refine Wd.nget ?_)
  | ((with_reducible refine Wd.tnew ?_); intro p hp)
  | (with_reducible refine Wd.pikn ?_)
  | (with_reducible refine Wt.m1 ?_)
  | (with_reducible refine Wt.m0 ?_)
  | ((with_reducible refine' ⟨?k, ?_⟩); (case k => show ∃ a, _ = V.str a; exact ⟨_, rfl⟩))
  | (with_reducible refine Wt.js_cons ?_)
  | (with_reducible refine Wt.fmt_ ?_)
  | (with_reducible refine Wp.pcons ?_)
  | (with_reducible refine Wp.pnil ?_)
  | ((with_reducible refine' Wp.iteBnT ?h ?_); (case h => show isB _ _ = false; decide))
  | ((with_reducible refine' Wp.iteBnF ?h ?_); (case h => show isB _ _ = true; decide))
  | ((with_reducible refine' Wp.iteBt ?h ?_); (case h => show isB _ _ = true; decide))
  | ((with_reducible refine' Wp.iteBf ?h ?_); (case h => show isB _ _ = false; decide))
  | (with_reducible refine Wp.iteT' ?_)
  | (with_reducible refine Wp.iteF' ?_)
  | (with_reducible refine Wp.rNT_ ?_)
  | ((with_reducible refine Wp.lst ?_))
  | ((with_reducible refine Wp.tup ?_))
  | ((with_reducible refine' Wp.ixL ?h ?e ?_); (case h => walk_at "sq"); (case e => exact rfl))
  | ((with_reducible refine' Wp.ixT ?h ?e ?_); (case h => walk_at "sq"); (case e => exact rfl))
  | ((with_reducible refine' Wp.setL ?h ?e ?_); (case h => walk_at "hp"); (case e => exact rfl))
  | ((with_reducible refine Wp.rI_ ?k ?_); (case k => first | (show (0:Int) < _; omega) | (show CPow _ _; refine' ⟨?_, ?_, ?_⟩ <;> omega) | (show CDiv _ _; refine' ⟨?_, ?_⟩ <;> omega) | (show CMul _ _; refine' Or.inl ⟨?_, ?_⟩ <;> omega) | (show CMul _ _; refine' Or.inr ⟨?_, ?_⟩ <;> first | omega | decide) | (show CDivW _ _; refine' wide_div (b := 240) ?_ ?_ ?_ ?_ <;> first | omega | decide)))
  | ((with_reducible refine ⟨?k, ?_⟩); (case k => first | exact Nat.zero_le _ | (exact Nat.le_of_ble_eq_true rfl)); intro p hp)
  | ((with_reducible refine' ⟨_, _, rfl, .inl ?k, ?_⟩); (case k => walk_at "sq"))
  | ((with_reducible refine' ⟨_, _, rfl, .inr ?k, ?_⟩); (case k => walk_at "sq"))
  | (with_reducible refine ⟨_, rfl, ?_⟩)
  | (with_reducible refine ⟨_, _, rfl, rfl, ?_⟩)
  | (with_reducible refine ⟨_, _, rfl, ?_⟩))
local macro_rules | `(tactic| walk_at "wp") => `(tactic| repeat (walk_at "w1"))

local macro_rules | `(tactic| walk_at "pf") => `(tactic| first
  | (with_reducible exact Wcl.pf0)
  | (with_reducible exact Wcl.pf1)
  | ((with_reducible refine' Wcl.pf2 ?n ?h); (case n => decide +kernel); (case h => walk_at "pf")))
local macro_rules | `(tactic| walk_at "w1") => `(tactic| first
  | (with_reducible refine Wcl.fld_ ?_)
  | (with_reducible refine Wcl.sfld_ ?_)
  | (with_reducible refine Wcl.meth_ ?_)
  | (with_reducible refine Wcl.make_ ?_)
  | (with_reducible refine Wcl.dcZ ?_)
  | (with_reducible refine Wcl.ddelT_ ?_)
  | (with_reducible refine Wcl.daug_ ?_)
  | (with_reducible refine Wcl.dpop1_ ?_)
  | ((with_reducible refine Wcl.dnewT_ ?_); intro p hp)
  | ((with_reducible refine Wcl.dnewK_ ?_); intro p hp)
  | ((with_reducible refine' Wcl.fldR ?h ?c ?n ?e ?_); (case h => walk_at "hp"); (case c => assumption); (case n => assumption); (case e => exact rfl))
  | ((with_reducible refine' Wcl.sfldR ?h ?c ?n ?l ?e ?_); (case h => walk_at "hp"); (case c => assumption); (case n => assumption); (case l => exact Nat.le_of_ble_eq_true rfl); (case e => walk_at "pf"))
  | ((with_reducible refine' Wcl.methR ?h ?l ?_); (case h => walk_at "hp"); (case l => exact rfl)))

section
variable {P : Program} {w : World} {K : PySem.W.Frag} {mg : Str → Option Value} {base : Heap}
theorem House_keep {I : PilI K} {hc oT : Addr} {S T : List Addr} {H H' : Hp} {h : Addr} {D : Pic} (x : House I hc oT S H h D) (k : Ks T H H') (n : ∀ a ∈ S, a ∉ T) : House I hc oT S H' h D := by
  obtain ⟨B, Sp, gs, L, G, e, rfl, r, ok, hd⟩ := x
  exact ⟨B, Sp, gs, L, G, e, rfl, r.keep k n, ok, hd⟩
theorem House_same {I : PilI K} {hc oT : Addr} {S : List Addr} {H H' : Hp} {h : Addr} {D : Pic} (x : House I hc oT S H h D) (s : Same H H') : House I hc oT S H' h D := House_keep (T := []) x (Ks.same s) (by simp)
theorem House_live {I : PilI K} {hc oT : Addr} {S : List Addr} {H : Hp} {h : Addr} {D : Pic} (x : House I hc oT S H h D) : ∀ a ∈ S, H a ≠ none := by
  obtain ⟨B, Sp, gs, L, G, e, rfl, r, ok, hd⟩ := x
  exact r.x.live
theorem House_at {I : PilI K} {hc oT : Addr} {S : List Addr} {H : Hp} {h : Addr} {D : Pic} (x : House I hc oT S H h D) : ∃ dx fs, H h = some (.ins hc dx fs) ∧ (fs.map (·.1)) = (["piles", "tally", "peg_worths", "box_worths", "kept_goings"] : List Str) ∧ h ∈ S := by
  obtain ⟨B, Sp, gs, L, G, rfl, rfl, r, ok, hd⟩ := x
  exact ⟨_, _, r.x.hh, rfl, by simp [All]⟩
abbrev Hs (T : Txt P w K mg) (S : List Addr) (H : Hp) (h : Addr) (D : Pic) : Prop := House (WP T) T.o_Copies T.o_Tally S H h D
theorem cC (T : Txt P w K mg) : HCl K T.o_Copies := ⟨T.cl_Copies, T.na_Copies_piles, T.na_Copies_tally, T.na_Copies_peg_worths, T.na_Copies_box_worths, T.na_Copies_kept_goings⟩
def MOk.mono {o : Addr} {m : Str} {ps : List Str} {n k : Nat} {sp : Sp} (x : MOk P w K mg base o m ps n sp) (h : n ≤ k) : MOk P w K mg base o m ps k sp := ⟨x.f, x.fd, x.me, x.b, x.g.mono h⟩
noncomputable def M_height (T : Txt P w K mg) : MOk P w K mg base (WP T).o "height" ["self"] 9 (spPHeight (WP T)) := ⟨T.f_WholePiles_height, T.fd_WholePiles_height, T.m_WholePiles_height, T.b_WholePiles_height, (ok_WholePiles_height T).mono (by decide)⟩
noncomputable def M_pile (T : Txt P w K mg) : MOk P w K mg base (WP T).o "pile" ["self"] 9 (spPPile (WP T)) := ⟨T.f_WholePiles_pile, T.fd_WholePiles_pile, T.m_WholePiles_pile, T.b_WholePiles_pile, (ok_WholePiles_pile T).mono (by decide)⟩
noncomputable def M_put (T : Txt P w K mg) : MOk P w K mg base (WP T).o "put" ["self", "worth"] 9 (spPPut (WP T) T.o_Tally) := ⟨T.f_WholePiles_put, T.fd_WholePiles_put, T.m_WholePiles_put, T.b_WholePiles_put, (ok_WholePiles_put T).mono (by decide)⟩
noncomputable def M_take (T : Txt P w K mg) : MOk P w K mg base (WP T).o "take" ["self", "k"] 9 (spPTake (WP T) T.o_Tally) := ⟨T.f_WholePiles_take, T.fd_WholePiles_take, T.m_WholePiles_take, T.b_WholePiles_take, (ok_WholePiles_take T).mono (by decide)⟩
noncomputable def M_keep (T : Txt P w K mg) : MOk P w K mg base (WP T).o "keep" ["self"] 9 (spPKeep (WP T) T.o_Tally) := ⟨T.f_WholePiles_keep, T.fd_WholePiles_keep, T.m_WholePiles_keep, T.b_WholePiles_keep, (ok_WholePiles_keep T).mono (by decide)⟩
noncomputable def M_release (T : Txt P w K mg) : MOk P w K mg base (WP T).o "release" ["self", "kept"] 9 (spPRelease (WP T) T.o_Tally) := ⟨T.f_WholePiles_release, T.fd_WholePiles_release, T.m_WholePiles_release, T.b_WholePiles_release, (ok_WholePiles_release T).mono (by decide)⟩
noncomputable def M_lay (T : Txt P w K mg) : MOk P w K mg base (WP T).o "lay" ["self", "piles"] 9 (spPLay (WP T) T.o_Tally) := ⟨T.f_WholePiles_lay, T.fd_WholePiles_lay, T.m_WholePiles_lay, T.b_WholePiles_lay, (ok_WholePiles_lay T).mono (by decide)⟩
noncomputable def N_lay_piles (T : Txt P w K mg) : MOk P w K mg base T.o_Copies "lay_piles" ["self", "pile", "goings"] 10 (spLayP0 (WP T) T.o_Copies T.o_Tally) := ⟨T.f_Copies_lay_piles, T.fd_Copies_lay_piles, T.m_Copies_lay_piles, T.b_Copies_lay_piles, (ok_Copies_lay_piles0 T (cC T) (M_lay T)).mono (by decide)⟩
noncomputable def N_begin (T : Txt P w K mg) : MOk P w K mg base T.o_Copies "begin" ["self", "piles", "picture"] 11 (spBegin0 (WP T) T.o_Copies T.o_Tally) := ⟨T.f_Copies_begin, T.fd_Copies_begin, T.m_Copies_begin, T.b_Copies_begin, (ok_Copies_begin0 T (cC T) (M_lay T) (N_lay_piles T)).mono (by decide)⟩
noncomputable def N_has (T : Txt P w K mg) : MOk P w K mg base T.o_Copies "has" ["self", "thing"] 2 (spHas (WP T) T.o_Copies T.o_Tally) := ⟨T.f_Copies_has, T.fd_Copies_has, T.m_Copies_has, T.b_Copies_has, (ok_Copies_has T (cC T)).mono (by decide)⟩
noncomputable def N_check_worth (T : Txt P w K mg) : MOk P w K mg base T.o_Copies "check_worth" ["self", "worth"] 9 (spCheckW (WP T) T.o_Copies T.o_Tally) := ⟨T.f_Copies_check_worth, T.fd_Copies_check_worth, T.m_Copies_check_worth, T.b_Copies_check_worth, (ok_Copies_check_worth (n0 := 0) T (cC T) (N_has T)).mono (by decide)⟩
noncomputable def N_drop (T : Txt P w K mg) : MOk P w K mg base T.o_Copies "drop" ["self", "thing"] 11 (spDrop (WP T) T.o_Copies T.o_Tally) := ⟨T.f_Copies_drop, T.fd_Copies_drop, T.m_Copies_drop, T.b_Copies_drop, (ok_Copies_drop T (cC T) (M_release T)).mono (by decide)⟩
noncomputable def N_settle (T : Txt P w K mg) : MOk P w K mg base T.o_Copies "settle" ["self"] 12 (spSettle (WP T) T.o_Copies T.o_Tally) := ⟨T.f_Copies_settle, T.fd_Copies_settle, T.m_Copies_settle, T.b_Copies_settle, (ok_Copies_settle T (cC T) (MOk.mono (N_has T) (by decide)) (N_drop T)).mono (by decide)⟩
noncomputable def N_check_box (T : Txt P w K mg) : MOk P w K mg base T.o_Copies "check_box" ["self", "b"] 9 ((spCheckN (WP T) T.o_Copies T.o_Tally fun D => D.boxes.map (·.1))) := ⟨T.f_Copies_check_box, T.fd_Copies_check_box, T.m_Copies_check_box, T.b_Copies_check_box, (ok_Copies_check_box T (cC T)).mono (by decide)⟩
noncomputable def N_check_peg (T : Txt P w K mg) : MOk P w K mg base T.o_Copies "check_peg" ["self", "name"] 9 (spCheckPeg (WP T) T.o_Copies T.o_Tally) := ⟨T.f_Copies_check_peg, T.fd_Copies_check_peg, T.m_Copies_check_peg, T.b_Copies_check_peg, (ok_Copies_check_peg T (cC T)).mono (by decide)⟩

end
end K28

/-! sorted texts: one order alone -/
namespace Wss
open PySem PySem.Spec PyProof.Rows L2 Wp
theorem not_lt_le {a b : List Nat} (h : (!ltCps a b) = true) : b ≤ a := by
  rw [ltCps_eq] at h
  have : ¬ a < b := fun c => by rw [decide_eq_true c] at h; cases h
  exact List.not_lt.mp this
theorem rising_pw : ∀ (l : List Str) (p : Str), risingS p l = true → (p :: l).Pairwise fun a b => a.cps.toList ≤ b.cps.toList
  | [], p, _ => by simp
  | x :: r, p, h => by
    have h' : (!ltCps x.cps.toList p.cps.toList && risingS x r) = true := h
    obtain ⟨h1, h2⟩ := Bool.and_eq_true_iff.mp h'
    have hp := not_lt_le h1
    have ih := rising_pw r x h2
    refine List.pairwise_cons.mpr ⟨fun y hy => ?_, ih⟩
    rcases List.mem_cons.mp hy with rfl | hy
    · exact hp
    · exact List.le_trans hp ((List.pairwise_cons.mp ih).1 y hy)
theorem sorted_pw : ∀ l : List Str, sortedS l = true → l.Pairwise fun a b => a.cps.toList ≤ b.cps.toList
  | [], _ => .nil
  | x :: r, h => rising_pw r x h
theorem str_ext {a b : Str} (h : a.cps.toList = b.cps.toList) : a = b := by
  cases a; cases b
  congr 1
  exact Array.toList_inj.mp h
theorem sorted_uniq {xs ys : List Str} (p : xs.Perm ys) (hx : sortedS xs = true) (hy : sortedS ys = true) : xs = ys :=
  List.Perm.eq_of_pairwise (le := fun a b : Str => a.cps.toList ≤ b.cps.toList) (fun a b _ _ h k => str_ext (List.le_antisymm h k)) (sorted_pw _ hx) (sorted_pw _ hy) p
theorem str_sub : ∀ {F L : List Str}, F.Nodup → (∀ z ∈ F, z ∈ L) → F.length ≤ L.length
  | [], _, _, _ => Nat.zero_le _
  | a :: F, L, nd, h => by
    have nd2 := List.nodup_cons.mp nd
    have ha := h a List.mem_cons_self
    have ih := str_sub (F := F) (L := L.erase a) nd2.2 fun z hz => by
      refine (List.mem_erase_of_ne fun e => ?_).mpr (h z (List.mem_cons_of_mem _ hz))
      exact nd2.1 (e ▸ hz)
    have := List.length_erase_of_mem ha
    have := List.length_pos_of_mem ha
    rw [List.length_cons]
    omega
theorem cut_min {z : Str} {n : Nat} : (cutS z none (some (n : Int))).length = min n z.length := by
  unfold cutS
  rw [show HT.sIx z.length 0 none = 0 from HT.sIx_none .., show HT.sIx z.length z.length (some (n : Int)) = min n z.length from HT.sIx_nat ..]
  show (((z.cps.toList.drop 0).take (min n z.length - 0)).toArray).size = _
  rw [List.size_toArray, List.length_take, List.length_drop, Array.length_toList]
  show min (min n z.length - 0) (z.length - 0) = _
  omega
end Wss

namespace K28
open PySem PySem.Spec PyProof.Rows L2 Wp Wq Wr Wpm Wth Wta Wpi Whs
local macro_rules | `(tactic| walk_at "ne") => `(tactic| first
  | assumption
  | (refine Ne.symm ?_; assumption)
  | exact ne_of_none (by assumption) (by assumption)
  | exact (ne_of_none (by assumption) (by assumption)).symm
  | exact ne_of (by assumption) (by assumption) (by intro q; cases q))
local macro_rules | `(tactic| walk_at "hp") => `(tactic| first
  | assumption
  | exact upd_same
  | (refine (upd_ne ?_).trans ?_; (walk_at "ne"); (walk_at "hp")))
local macro_rules | `(tactic| walk_at "hq") => `(tactic| first
  | assumption
  | exact upd_same
  | (refine same_new (by assumption) _ _ ?_; (walk_at "hq"))
  | (refine Wp.look (by assumption) ?_; (walk_at "hq")))
local macro_rules | `(tactic| walk_at "sm") => `(tactic| first
  | assumption
  | exact fun _ _ h => h
  | exact same_new (by assumption)
  | (refine Same.trans ?_ (same_new (by assumption)); (walk_at "sm"))
  | (refine Same.trans ?_ (by assumption); (walk_at "sm")))
local macro_rules | `(tactic| walk_at "kp") => `(tactic| first
  | assumption
  | exact Kp.refl _ _
  | (refine Kp.trans ?_ (Kp.new (by assumption)); (walk_at "kp"))
  | (refine Kp.trans ?_ (Same.kp (by assumption)); (walk_at "kp"))
  | (refine Wp.kpT ?_ (by assumption); (walk_at "kp"))
  | exact Same.kp (by walk_at "sm"))
local macro_rules | `(tactic| walk_at "sq") => `(tactic| first
  | assumption
  | exact SqL.of (by walk_at "hp")
  | exact SqT.of (by walk_at "hp"))
local macro_rules | `(tactic| walk_at "kind") => `(tactic| first
  | assumption
  | exact Kind.int _
  | exact Kind.str _
  | exact Kind.bl _
  | exact Kind.non
  | exact Kind.tup (by walk_at "hp")
  | exact Kind.lst (by walk_at "hp")
  | exact Kind.dK (by walk_at "hp"))
local macro_rules | `(tactic| walk_at "w1") => `(tactic| first
  | (with_reducible refine Wp.seq ?_)
  | (with_reducible refine Wp.nx_mk ?_)
  | (with_reducible refine Wp.rt_mk ?_)
  | (with_reducible refine Wp.bk_mk ?_)
  | (with_reducible refine Wp.ct_mk ?_)
  | (with_reducible refine Wp.next ?_)
  | (with_reducible refine Wp.asg ?_)
  | ((with_reducible refine' Wp.gname ?e ?_); (case e => (try dsimp only [List.set, L2.wipe, List.map_cons, List.map_nil]); (try exact rfl)))
  | (with_reducible refine Wp.gsub ?_)
  | (with_reducible refine Wp.ret ?_)
  | (with_reducible refine Wp.retN ?_)
  | (with_reducible refine Wp.drop ?_)
  | (with_reducible refine Wp.dput ?_)
  | (with_reducible refine Wp.ifs ?_)
  | ((with_reducible refine' Wp.var ?h ?_); (case h => exact rfl))
  | (with_reducible refine Wp.con ?_)
  | (with_reducible refine Wp.op ?_)
  | (with_reducible refine Wp.un ?_)
  | (with_reducible refine Wp.cb ?_)
  | (with_reducible refine Wp.anil ?_)
  | (with_reducible refine Wp.acons ?_)
  | (with_reducible refine Wp.call ?_)
  | (with_reducible refine Wp.test ?_)
  | (with_reducible refine Wp.tb_ ?_)
  | (with_reducible refine Wp.and_ ?_)
  | (with_reducible refine Wp.or_ ?_)
  | (with_reducible refine Wp.not_ ?_)
  | (with_reducible refine Wp.andV ?_)
  | (with_reducible refine Wp.orV ?_)
  | (with_reducible refine Wp.notV ?_)
  | (with_reducible refine Wp.rI0_ ?_)
  | (with_reducible refine Wp.rU_ ?_)
  | ((with_reducible refine Wp.rEq_ ?k ?_); (case k => exact rfl))
  | ((with_reducible refine Wp.rNe_ ?k ?_); (case k => exact rfl))
  | (with_reducible refine Wp.gcons ?_)
  | (with_reducible refine Wp.gnil ?_)
  | ((with_reducible refine' Wp.gtup ?h ?e ?_); (case h => walk_at "sq"); (case e => exact rfl))
  | (with_reducible refine Wp.sl ?_)
  | (with_reducible refine Wp.part ?_)
  | (with_reducible refine Wp.nopart ?_)
  | (with_reducible refine Wp.ifE ?_)
  | (with_reducible refine Wp.bm0 ?_)
  | (with_reducible refine Wp.bm ?_)
  | (with_reducible refine Wp.lcR1 ?_)
  | (with_reducible refine Wp.lcR2 ?_)
  | (with_reducible refine Wp.lcL ?_)
  | (with_reducible refine Wp.chain ?_)
  | (with_reducible refine Wp.lc2V ?_)
  | (with_reducible refine Wp.piL ?_)
  | (with_reducible refine Wp.yes ?_)
  | (with_reducible refine Wp.dinI ?_)
  | (with_reducible refine Wp.dninI ?_)
  | (with_reducible refine Wp.dget ?_)
  | ((with_reducible refine' ⟨?k, ?_⟩); (case k => show L2.wipe _ _ = L2.wipe _ _; exact rfl))
  | ((with_reducible refine' ⟨?k, ?_⟩); (case k => show V.non = V.non; exact rfl))
  | (with_reducible refine Wp.forR1 ?_)
  | (with_reducible refine Wp.forR2 ?_)
  | (with_reducible refine Wp.forL ?_)
  | (with_reducible refine Wp.forT ?_)
  | ((with_reducible refine' ⟨?k, ?_⟩); (case k => exact Wp.tyvL (by walk_at "hp")))
  | ((with_reducible refine' Wp.rev_ ?k ?_); (case k => walk_at "hp"))
  | ((with_reducible refine' Wp.isi ?k ?h ?_); (case k => walk_at "kind"); (case h => decide))
  | ((with_reducible refine' Wp.typ ?k ?_); (case k => walk_at "kind"))
  | (with_reducible refine Wp.slS ?k ?_; (case k => assumption))
  | (with_reducible refine iteT ?_)
  | (with_reducible refine iteF ?_)
  | (with_reducible refine Wtc.dcL ?_)
  | (with_reducible refine Wst.step ?_)
  | (with_reducible refine Wtc.dget2 ?_)
  | (with_reducible refine Wtc.lcZ ?_)
  | (with_reducible refine Wrw.loop_setLc ?_)
  | (with_reducible refine Wz.par ?_)
  | (with_reducible refine Wz.forN ?_)
  | (with_reducible refine Wz.dcL ?_)
  | (with_reducible refine Wz.forZ ?_)
  | (with_reducible refine Wz.lcR3 ?_)
  | (with_reducible refine Wc.revL ?_)
  | (with_reducible refine Wd.nm ?_)
  | (with_reducible refine Wd.nget ?_)
  | ((with_reducible refine Wd.tnew ?_); intro p hp)
  | (with_reducible refine Wd.pikn ?_)
  | (with_reducible refine Wt.m1 ?_)
  | (with_reducible refine Wt.m0 ?_)
  | ((with_reducible refine' ⟨?k, ?_⟩); (case k => show ∃ a, _ = V.str a; exact ⟨_, rfl⟩))
  | (with_reducible refine Wt.js_cons ?_)
  | (with_reducible refine Wt.fmt_ ?_)
  | (with_reducible refine Wp.pcons ?_)
  | (with_reducible refine Wp.pnil ?_)
  | ((with_reducible refine' Wp.iteBnT ?h ?_); (case h => show isB _ _ = false; decide))
  | ((with_reducible refine' Wp.iteBnF ?h ?_); (case h => show isB _ _ = true; decide))
  | ((with_reducible refine' Wp.iteBt ?h ?_); (case h => show isB _ _ = true; decide))
  | ((with_reducible refine' Wp.iteBf ?h ?_); (case h => show isB _ _ = false; decide))
  | (with_reducible refine Wp.iteT' ?_)
  | (with_reducible refine Wp.iteF' ?_)
  | (with_reducible refine Wp.rNT_ ?_)
  | ((with_reducible refine Wp.lst ?_))
  | ((with_reducible refine Wp.tup ?_))
  | ((with_reducible refine' Wp.ixL ?h ?e ?_); (case h => walk_at "sq"); (case e => exact rfl))
  | ((with_reducible refine' Wp.ixT ?h ?e ?_); (case h => walk_at "sq"); (case e => exact rfl))
  | ((with_reducible refine' Wp.setL ?h ?e ?_); (case h => walk_at "hp"); (case e => exact rfl))
  | ((with_reducible refine Wp.rI_ ?k ?_); (case k => first | (show (0:Int) < _; omega) | (show CPow _ _; refine' ⟨?_, ?_, ?_⟩ <;> omega) | (show CDiv _ _; refine' ⟨?_, ?_⟩ <;> omega) | (show CMul _ _; refine' Or.inl ⟨?_, ?_⟩ <;> omega) | (show CMul _ _; refine' Or.inr ⟨?_, ?_⟩ <;> first | omega | decide) | (show CDivW _ _; refine' wide_div (b := 240) ?_ ?_ ?_ ?_ <;> first | omega | decide)))
  | ((with_reducible refine ⟨?k, ?_⟩); (case k => first | exact Nat.zero_le _ | (exact Nat.le_of_ble_eq_true rfl)); intro p hp)
  | ((with_reducible refine' ⟨_, _, rfl, .inl ?k, ?_⟩); (case k => walk_at "sq"))
  | ((with_reducible refine' ⟨_, _, rfl, .inr ?k, ?_⟩); (case k => walk_at "sq"))
  | (with_reducible refine ⟨_, rfl, ?_⟩)
  | (with_reducible refine ⟨_, _, rfl, rfl, ?_⟩)
  | (with_reducible refine ⟨_, _, rfl, ?_⟩))
local macro_rules | `(tactic| walk_at "wp") => `(tactic| repeat (walk_at "w1"))

local macro_rules | `(tactic| walk_at "pf") => `(tactic| first
  | (with_reducible exact Wcl.pf0)
  | (with_reducible exact Wcl.pf1)
  | ((with_reducible refine' Wcl.pf2 ?n ?h); (case n => decide +kernel); (case h => walk_at "pf")))
local macro_rules | `(tactic| walk_at "w1") => `(tactic| first
  | (with_reducible refine Wcl.fld_ ?_)
  | (with_reducible refine Wrs.rev_ ?_)
  | (with_reducible refine Wcl.sfld_ ?_)
  | (with_reducible refine Wcl.meth_ ?_)
  | (with_reducible refine Wcl.make_ ?_)
  | (with_reducible refine Wcl.dcZ ?_)
  | (with_reducible refine Wcl.ddelT_ ?_)
  | (with_reducible refine Wcl.daug_ ?_)
  | (with_reducible refine Wcl.dpop1_ ?_)
  | ((with_reducible refine Wcl.dnewT_ ?_); intro p hp)
  | ((with_reducible refine Wcl.dnewK_ ?_); intro p hp)
  | ((with_reducible refine' Wcl.fldR ?h ?c ?n ?e ?_); (case h => walk_at "hp"); (case c => assumption); (case n => assumption); (case e => exact rfl))
  | ((with_reducible refine' Wcl.sfldR ?h ?c ?n ?l ?e ?_); (case h => walk_at "hp"); (case c => assumption); (case n => assumption); (case l => exact Nat.le_of_ble_eq_true rfl); (case e => walk_at "pf"))
  | ((with_reducible refine' Wcl.methR ?h ?l ?_); (case h => walk_at "hp"); (case l => exact rfl)))

section
variable {P : Program} {w : World} {K : PySem.W.Frag} {mg : Str → Option Value} {base : Heap}
def PlainW (z : W) : Prop := z.1 = Str.ofString "num" ∨ (z.1 = Str.ofString "at" ∧ 0 ≤ z.2)
theorem PlainW.wk {z : W} (h : PlainW z) : Wk z := by
  rcases h with h | h
  · exact .inr (.inr h)
  · exact .inr (.inl h)
theorem PlainW.nt {z : W} (h : PlainW z) : isT z = true → z ∈ ([] : List W) := fun t => by
  rcases isT_iff.mp t with q | q <;> rcases h with h | ⟨h, _⟩ <;> · rw [h] at q; exact absurd q (by decide)
def spPlain : Sp := fun vs H Q _ => ∃ (b : Addr) (n : Nat), vs = [.ref b] ∧ Bag H b n ∧ n < 900000 ∧ ∀ v z H', IsW H' v z → PlainW z → Bag H' b (n + 6) → Kp b H H' → Q v H'
theorem ok_plain (T : Txt P w K mg) : FnOk P w K mg base CX0 2 T.f_plain T.fd_plain ["bag"] spPlain := by
  have G_draw := ok_draw (base := base) T
  refine T.F_plain.ok sc_plain (fun vs H Q E h => ?_) (fun cdv A outer s H vs Q E hr h => ?_)
  · obtain ⟨b, n, rfl, _⟩ := h
    rfl
  · obtain ⟨b, n, rfl, hb, hn, q⟩ := h
    refine ⟨_, (pss_cons (ps_set (i := 1) sc_plain.nd rfl (.inl rfl) (pe_call G_draw (hr.mono (by decide)) (by rfl) T.g_draw T.F_draw.kp T.b_draw .nil pass0 (pa_cons (pv 0) (pa_cons pe_int pa_nil))))
      (pss_cons (ps_if (pt_cmpR op_lt (pv 1) pe_int (nomark _)) (pss_one (ps_ret (pe_tup (pa_cons (pe_ix ix_list (pe_lst (pa_cons pe_str (pa_cons pe_str pa_nil))) (pe_op op_mod (pv 1) pe_int) (fun _ _ => rfl)) (pa_cons (pe_call G_draw (hr.mono (by decide)) (by rfl) T.g_draw T.F_draw.kp T.b_draw .nil pass0 (pa_cons (pv 0) (pa_cons pe_int pa_nil))) pa_nil))))) pss_nil)
      (pss_cons (ps_set (i := 2) sc_plain.nd rfl (.inl rfl) pe_int)
      (pss_cons (ps_for PassesOwn.never rfl (pi_range1 (by rfl) T.n_range (pa_cons pe_int pa_nil)) (pg_name (i := 3) sc_plain.nd rfl (.inl rfl)) (pss_one (ps_set (i := 2) sc_plain.nd rfl (.inl rfl) (pe_op op_add (pe_op op_mul (pv 2) (pe_op op_pow pe_int pe_int)) (pe_call G_draw (hr.mono (by decide)) (by rfl) T.g_draw T.F_draw.kp T.b_draw .nil pass0 (pa_cons (pv 0) (pa_cons (pe_op op_pow pe_int pe_int) pa_nil)))))))
      (pss_one (ps_ret (pe_ix ix_list (pe_lst (pa_cons (pe_tup (pa_cons pe_str (pa_cons (pe_op op_sub pe_int (pv 2)) pa_nil))) (pa_cons (pe_tup (pa_cons pe_str (pa_cons (pv 2) pa_nil))) pa_nil))) (pe_op op_sub (pv 1) pe_int) (fun _ _ => rfl)))))))), ?_⟩
    rw [show L2.start ["bag", "way", "number", "k"] [.ref b] = [some (.ref b), none, none, none] from rfl]
    try dsimp only [cxOf]
    walk_at "wp"
    refine ⟨b, n, _, rfl, hb, by omega, by omega, by omega, fun way H1 w0 w1 hb1 k1 => ?_⟩
    walk_at "wp"
    refine ite_ (fun c => ?_) (fun c => ?_)
    · walk_at "wp"
      rename_i p hp
      obtain ⟨s, hs, ps⟩ : ∃ s : Str, atI [V.str (Str.ofString "num"), V.str (Str.ofString "at")] (way % 2) = some (.str s) ∧ ∀ j : Int, 0 ≤ j → PlainW (s, j) := by
        have : way % 2 = 0 ∨ way % 2 = 1 := by omega
        rcases this with e | e <;> rw [e]
        · exact ⟨_, rfl, fun _ _ => .inl rfl⟩
        · exact ⟨_, rfl, fun j hj => .inr ⟨rfl, hj⟩⟩
      refine ixL (SqL.of upd_same) hs ?_
      walk_at "wp"
      refine ⟨b, n + 1, _, rfl, hb1.keep (same_new hp), by omega, by omega, by omega, fun j H3 j0 j1 hb3 k3 => ?_⟩
      walk_at "wp"
      rename_i t ht
      exact q _ (s, j) _ ⟨t, rfl, upd_same⟩ (ps j j0) ((hb3.keep (same_new ht)).mono (by omega)) (Kp.trans k1 (Kp.trans (Kp.new hp) (Kp.trans k3 (Kp.new ht))))
    · walk_at "wp"
      refine ⟨by decide, by decide, ?_⟩
      refine loopR (n := 5) (fun i σ' H' => ∃ (num : Int) (x : Option V), σ' = [some (.ref b), some (.int way), some (.int num), x] ∧ 0 ≤ num ∧ Bag H' b (n + 1 + i) ∧ Kp b H H') ⟨0, none, rfl, by decide, hb1, k1⟩ ?_ ?_
      · rintro i σ' H2 hi ⟨num, x, rfl, n0, hb2, k2⟩
        walk_at "wp"
        refine ⟨b, n + 1 + i, _, rfl, hb2, by omega, by decide, by decide, fun j H3 j0 j1 hb3 k3 => ?_⟩
        walk_at "wp"
        exact ⟨Int.add_nonneg (Int.mul_nonneg n0 (by decide)) j0, hb3, Kp.trans k2 k3⟩
      · rintro σ' H2 ⟨num, x, rfl, n0, hb2, k2⟩
        walk_at "wp"
        rename_i t1 ht1 t2 ht2 l hl
        have s1 := same_new (o := .tup [V.str (Str.ofString "num"), V.int (2 - num)]) ht1
        have s2 := same_new (o := .tup [V.str (Str.ofString "at"), V.int num]) ht2
        have s3 := same_new (o := .lst [V.ref t1, V.ref t2]) hl
        have e1 : upd H2 t1 (.tup [V.str (Str.ofString "num"), V.int (2 - num)]) t1 = some (.tup [V.str (Str.ofString "num"), V.int (2 - num)]) := upd_same
        have e2 : upd (upd H2 t1 (.tup [V.str (Str.ofString "num"), V.int (2 - num)])) t2 (.tup [V.str (Str.ofString "at"), V.int num]) t2 = some (.tup [V.str (Str.ofString "at"), V.int num]) := upd_same
        have k3 := Kp.trans k2 (Kp.trans (Kp.new ht1) (Kp.trans (Kp.new ht2) (Kp.new (o := .lst [V.ref t1, V.ref t2]) hl)))
        have hb3 := ((hb2.keep (s1.trans (s2.trans s3))).mono (show n + 1 + 5 ≤ n + 6 by omega))
        have : way = 6 ∨ way = 7 := by omega
        rcases this with rfl | rfl
        · refine ixL (SqL.of upd_same) (show atI [V.ref t1, V.ref t2] (6 - 6) = some (V.ref t1) from rfl) ?_
          exact q _ (Str.ofString "num", 2 - num) _ ⟨t1, rfl, s3 _ _ (s2 _ _ e1)⟩ (.inl rfl) hb3 k3
        · refine ixL (SqL.of upd_same) (show atI [V.ref t1, V.ref t2] (7 - 6) = some (V.ref t2) from rfl) ?_
          exact q _ (Str.ofString "at", num) _ ⟨t2, rfl, s3 _ _ e2⟩ (.inr ⟨rfl, n0⟩) hb3 k3

def pgS : W := (sBox, 0)
def pgT : W := (sGo, 0)
def picP (ps : List (Str × W)) : Pic := { pile := [pgS, pgT], pegs := ps, goings := [(0, 9, [pgS])], boxes := [(0, (Str.ofString "num", 4))] }
def PgW (z : W) : Prop := PlainW z ∨ z = pgS ∨ z = pgT
theorem PlainW.ok {z : W} (h : PlainW z) : Wok z := by
  rcases h with h | ⟨h, _⟩ <;> (unfold Wok; rw [h]; decide +kernel)
theorem PgW.wk {z : W} (h : PgW z) : Wk z := by
  rcases h with h | rfl | rfl
  · exact h.wk
  · exact .inl ⟨.inl rfl, Int.le_refl _⟩
  · exact .inl ⟨.inr rfl, Int.le_refl _⟩
theorem PgW.ok {z : W} (h : PgW z) : Wok z := by
  rcases h with h | rfl | rfl
  · exact h.ok
  · show PyData.strOk sBox = true
    decide +kernel
  · show PyData.strOk sGo = true
    decide +kernel
theorem thing_at {ps : List (Str × W)} {z : W} : z ∈ (picP ps).things ↔ z = pgS ∨ z = pgT := by
  unfold Pic.things picP
  simp only [List.map_cons, List.map_nil, List.mem_append, List.mem_singleton]
  exact Iff.rfl
theorem PgW.thing {ps : List (Str × W)} {z : W} (h : PgW z) : isT z = true → z ∈ (picP ps).things := fun t => by
  rcases h with h | h
  · exact nomatch h.nt t
  · exact thing_at.mpr h
theorem heldP {ps : List (Str × W)} : Held (picP ps) := fun z hz => by
  refine Wow.memW.mpr (.inl ?_)
  rcases thing_at.mp hz with rfl | rfl
  · show pgS ∈ [pgS, pgT]
    simp
  · show pgT ∈ [pgS, pgT]
    simp
theorem szP {ps : List (Str × W)} (h : ps.length ≤ 100) : Sz (picP ps) := by
  refine ⟨by show 2 ≤ _; decide, Nat.le_trans h (by decide), by show 1 ≤ _; decide, by show 1 ≤ _; decide, fun g hg => ?_⟩
  have : g = (0, 9, [pgS]) := List.mem_singleton.mp hg
  rw [this]
  show 1 ≤ _
  decide
theorem peg_put {H : Hp} {kvs : List (Key × V)} {ps : List (Str × W)} {nm : Str} {v : V} {z : W} (p : Paired (IsPeg H) kvs ps) (w : IsW H v z) : Paired (IsPeg H) (putK kvs (Sum.inr nm) v) (putPeg ps nm z) := by
  unfold putPeg
  by_cases c : nm ∈ ps.map (·.1)
  · rw [if_pos c]
    obtain ⟨p0, hpm, e⟩ := List.mem_map.mp c
    exact kv_put (key := kN) pv_key p ⟨p0, hpm, congrArg Sum.inr e⟩ (fun a ha e => by rw [if_pos (Sum.inr.inj e)]; exact ⟨rfl, w⟩) fun a ha n => if_neg fun e => n (congrArg Sum.inr e)
  · rw [if_neg c]
    exact kv_new pv_key p (fun b hb e => c (List.mem_map.mpr ⟨b, hb, Sum.inr.inj e⟩)) ⟨rfl, w⟩
theorem peg_drop {H : Hp} {kvs : List (Key × V)} {ps : List (Str × W)} {nm : Str} (p : Paired (IsPeg H) kvs ps) : Paired (IsPeg H) (dropK kvs (Sum.inr nm)) (ps.filter fun x => decide (x.1 ≠ nm)) := by
  have := kv_drop (k := Sum.inr nm) pv_key p
  rw [show (fun a : Str × W => decide (kN a ≠ Sum.inr nm)) = fun a => decide (a.1 ≠ nm) from funext fun a => decide_eq_decide.mpr ⟨fun h e => h (congrArg Sum.inr e), fun h e => h (Sum.inr.inj e)⟩] at this
  exact this
theorem Bag.kk {S : List Addr} {H H' : Hp} {b : Addr} {n : Nat} (h : Bag H b n) (k : Ks S H H') (nb : b ∉ S) : Bag H' b n := by
  obtain ⟨x, y, z, h1, h⟩ := h
  exact ⟨x, y, z, k.keep _ _ nb h1, h⟩
theorem Bag.kpk {H H' : Hp} {b : Addr} {n : Nat} (h : Bag H b n) (k : Kp b H H') : Ks [b] H H' := by
  obtain ⟨x, y, z, h1, h⟩ := h
  exact Ks.kp k h1 (by simp)
theorem House_hh {T : Txt P w K mg} {S : List Addr} {H : Hp} {h : Addr} {D : Pic} (X : Hs T S H h D) : ∃ B : HA, H h = some (.ins T.o_Copies B.dx (fldsH B)) := by
  obtain ⟨B, Sp, gs, L, G, rfl, _, r, _, _⟩ := X
  exact ⟨B, r.x.hh⟩
theorem House_ok {T : Txt P w K mg} {S : List Addr} {H : Hp} {h : Addr} {D : Pic} (X : Hs T S H h D) : Dok D := by
  obtain ⟨B, Sp, gs, L, G, rfl, _, r, ok, _⟩ := X
  exact ok
theorem same_of {H0 H H' : Hp} {T : List Addr} (s : Same H0 H) (k : Ks T H H') (f : ∀ a ∈ T, H0 a = none) : Same H0 H' := fun a o e => k.keep _ _ (fun m => by rw [f _ m] at e; cases e) (s _ _ e)
/-- the law's dict of pegs, its list of names, a bag or none -/
structure MP (H0 : Hp) (B : List Addr) (d nl : Addr) (S : List Addr) (n : Nat) (nms : List Str) (ps : List (Str × W)) (H : Hp) : Prop where
  hd : ∃ kvs, H d = some (.dK kvs) ∧ Paired (IsPeg H) kvs ps
  hn : H nl = some (.lst (nms.map V.str))
  dn : d ≠ nl
  nd : d ∉ S
  nn : nl ∉ S
  bd : d ∉ B
  bn : nl ∉ B
  bs : ∀ a ∈ B, a ∉ S
  hb : ∀ b ∈ B, Bag H b n
  fr : ∀ a, a ∈ B ∨ a = d ∨ a = nl ∨ a ∈ S → H0 a = none
  sm : Same H0 H
section
variable {H0 H H' : Hp} {B T S S' : List Addr} {b d nl : Addr} {n n' : Nat} {nms : List Str} {ps ps' : List (Str × W)} {kvs : List (Key × V)}
theorem MP.bag (x : MP H0 [b] d nl S n nms ps H) (hb : Bag H' b n') (k : Kp b H H') : MP H0 [b] d nl S n' nms ps H' := by
  obtain ⟨⟨kvs, h1, p1⟩, hn, dn, nd, nn, bd, bn, bs, hb0, fr, sm⟩ := x
  have k1 := (hb0 b (by simp)).kpk k
  exact ⟨⟨kvs, k1.keep _ _ (fun m => bd m) h1, Paired.mapP p1 fun _ _ q => q.keep k1.tk⟩, k1.keep _ _ (fun m => bn m) hn, dn, nd, nn, bd, bn, bs, fun c hc => by rw [List.mem_singleton.mp hc]; exact hb, fr, same_of sm k1 fun a m => fr a (.inl m)⟩
theorem MP.same (x : MP H0 B d nl S n nms ps H) (s : Same H H') : MP H0 B d nl S n nms ps H' := by
  obtain ⟨⟨kvs, h1, p1⟩, hn, dn, nd, nn, bd, bn, bs, hb0, fr, sm⟩ := x
  exact ⟨⟨kvs, s _ _ h1, Paired.mapP p1 fun _ _ q => q.keep (Same.tk s)⟩, s _ _ hn, dn, nd, nn, bd, bn, bs, fun b m => (hb0 b m).keep s, fr, sm.trans s⟩
theorem MP.mv (x : MP H0 B d nl S n nms ps H) (mv : Mv S H S' H') : MP H0 B d nl S' n nms ps H' := by
  obtain ⟨⟨kvs, h1, p1⟩, hn, dn, nd, nn, bd, bn, bs, hb0, fr, sm⟩ := x
  obtain ⟨k, g⟩ := mv
  have out : ∀ a o, H a = some o → a ∉ S → a ∉ S' := fun a o e n m => by
    rcases g _ m with q | q
    · exact n q
    · rw [q] at e; cases e
  refine ⟨⟨kvs, k.keep _ _ nd h1, Paired.mapP p1 fun _ _ q => q.keep k.tk⟩, k.keep _ _ nn hn, dn, out _ _ h1 nd, out _ _ hn nn, bd, bn, fun a m => ?_, fun b m => (hb0 b m).kk k (bs b m), fun a m => ?_, same_of sm k fun a m => fr a (.inr (.inr (.inr m)))⟩
  · obtain ⟨_, _, _, h1, _⟩ := hb0 a m
    exact out _ _ h1 (bs a m)
  · rcases m with m | m | m | m
    · exact fr a (.inl m)
    · exact fr a (.inr (.inl m))
    · exact fr a (.inr (.inr (.inl m)))
    · rcases g _ m with m | m
      · exact fr a (.inr (.inr (.inr m)))
      · exact sm.free m
theorem MP.setd (x : MP H0 B d nl S n nms ps H) (k : Ks [d] H H') (h : H' d = some (.dK kvs)) (p : Paired (IsPeg H') kvs ps') : MP H0 B d nl S n nms ps' H' := by
  obtain ⟨⟨kvs, h1, p1⟩, hn, dn, nd, nn, bd, bn, bs, hb0, fr, sm⟩ := x
  exact ⟨⟨_, h, p⟩, k.keep _ _ (fun m => dn (List.mem_singleton.mp m).symm) hn, dn, nd, nn, bd, bn, bs, fun b m => (hb0 b m).kk k (fun q => bd (by rw [← List.mem_singleton.mp q]; exact m)), fr, same_of sm k fun a m => fr a (.inr (.inl (List.mem_singleton.mp m)))⟩
theorem MP.nobag (x : MP H0 [b] d nl S n nms ps H) : MP H0 [] d nl S n nms ps H := by
  obtain ⟨hd, hn, dn, nd, nn, bd, bn, bs, hb0, fr, sm⟩ := x
  exact ⟨hd, hn, dn, nd, nn, (fun q => nomatch q), (fun q => nomatch q), (fun _ q => nomatch q), (fun _ q => nomatch q), fun a m => fr a (.inr (m.resolve_left fun q => nomatch q)), sm⟩
theorem MP.newbag (x : MP H0 [] d nl S n nms ps H) (lv : ∀ a ∈ S, H a ≠ none) (f : H b = none) (s : Same H H') (hb : Bag H' b n') : MP H0 [b] d nl S n' nms ps H' := by
  obtain ⟨⟨kvs, h1, p1⟩, hn, dn, nd, nn, bd, bn, bs, hb0, fr, sm⟩ := x
  refine ⟨⟨kvs, s _ _ h1, Paired.mapP p1 fun _ _ q => q.keep (Same.tk s)⟩, s _ _ hn, dn, nd, nn, fun q => ?_, fun q => ?_, fun a m q => ?_, fun a m => by rw [List.mem_singleton.mp m]; exact hb, fun a m => ?_, sm.trans s⟩
  · rw [List.mem_singleton.mp q, f] at h1; cases h1
  · rw [List.mem_singleton.mp q, f] at hn; cases hn
  · rw [List.mem_singleton.mp m] at q
    exact lv _ q f
  · rcases m with m | m
    · rw [List.mem_singleton.mp m]; exact sm.free f
    · exact fr a (.inr m)
theorem MP.outb (x : MP H0 [b] d nl S n nms ps H) : ∀ a ∈ S, a ∉ [b] := fun a ha m => x.bs b (by simp) (by rw [← List.mem_singleton.mp m]; exact ha)
theorem MP.outd (x : MP H0 B d nl S n nms ps H) : ∀ a ∈ S, a ∉ [d] := fun a ha m => x.nd (by rw [← List.mem_singleton.mp m]; exact ha)
theorem MP.mono (x : MP H0 B d nl S n nms ps H) (h : n ≤ n') : MP H0 B d nl S n' nms ps H := ⟨x.hd, x.hn, x.dn, x.nd, x.nn, x.bd, x.bn, x.bs, fun b m => (x.hb b m).mono h, x.fr, x.sm⟩
end
def Nms (nms : List Str) : Prop := nms.length = 6 ∧ ∀ x ∈ nms, Wu.Nm x ∧ 1 ≤ x.length
def GI (T : Txt P w K mg) (H0 : Hp) (B : List Addr) (h d nl : Addr) (nms : List Str) (n : Nat) (H : Hp) : Prop := ∃ S ps, Hs T S H h (picP ps) ∧ MP H0 B d nl S n nms ps H ∧ Nms nms ∧ (∀ p ∈ ps, p.1 ∈ nms) ∧ ∀ p ∈ ps, PgW p.2
section
variable {T : Txt P w K mg} {H0 H H' : Hp} {B S : List Addr} {b h d nl : Addr} {n n' : Nat} {nms : List Str} {ps : List (Str × W)}
theorem GI.mono (x : GI T H0 B h d nl nms n H) (k : n ≤ n') : GI T H0 B h d nl nms n' H := by
  obtain ⟨S, ps, X, M, r⟩ := x
  exact ⟨S, ps, X, M.mono k, r⟩
theorem GI.bag (x : GI T H0 [b] h d nl nms n H) (hb : Bag H' b n') (k : Kp b H H') : GI T H0 [b] h d nl nms n' H' := by
  obtain ⟨S, ps, X, M, r⟩ := x
  exact ⟨S, ps, House_keep X ((M.hb b (by simp)).kpk k) M.outb, M.bag hb k, r⟩
theorem GI.same (x : GI T H0 B h d nl nms n H) (s : Same H H') : GI T H0 B h d nl nms n H' := by
  obtain ⟨S, ps, X, M, r⟩ := x
  exact ⟨S, ps, House_same X s, M.same s, r⟩
theorem GI.nobag (x : GI T H0 [b] h d nl nms n H) : GI T H0 [] h d nl nms n H := by
  obtain ⟨S, ps, X, M, r⟩ := x
  exact ⟨S, ps, X, M.nobag, r⟩
theorem GI.newbag (x : GI T H0 [] h d nl nms n H) (f : H b = none) (s : Same H H') (hb : Bag H' b n') : GI T H0 [b] h d nl nms n' H' := by
  obtain ⟨S, ps, X, M, r⟩ := x
  exact ⟨S, ps, House_same X s, M.newbag (House_live X) f s hb, r⟩
theorem few (X : Hs T S H h (picP ps)) (N : Nms nms) (k : ∀ p ∈ ps, p.1 ∈ nms) : ps.length ≤ 6 := by
  have := Wss.str_sub (F := ps.map (·.1)) (L := nms) (House_ok X).pegU fun z hz => by
    obtain ⟨p, hp, rfl⟩ := List.mem_map.mp hz
    exact k p hp
  rw [List.length_map, N.1] at this
  exact this
end

end
end K28

/-! a text turned about: s[::-1] -/
namespace Wrs
open PySem PySem.Spec PyProof.Rows L2 Wp
def revS (z : Str) : Str := ⟨z.cps.toList.reverse.toArray⟩
theorem revS_len (z : Str) : (revS z).length = z.length := by
  show (z.cps.toList.reverse.toArray).size = z.cps.size
  rw [List.size_toArray, List.length_reverse, Array.length_toList]
theorem revS_low {z : Str} (h : Wu.Low z) : Wu.Low (revS z) := fun c hc => h c (List.mem_reverse.mp hc)
def tRevS (te : TE) : TE := fun σ H Q => te σ H fun x H1 => ∃ z, x = .str z ∧ z.length ≤ sizeLine ∧ Q (.str (revS z)) H1
theorem pe_revS {X : Cx} {e : Expr} {te : TE} {k : Nat} {p1 p2 p3 pos : Pos} (he : PE X e te) : PE X (.Subscript e (.Slice none none (some (.UnaryOp .USub (.Constant (.int 1) k p1) p2)) p3) pos) (tRevS te) := by
  refine ⟨fun pins s σ H Q I h => ?_⟩
  refine Subscript_ (thn (he.run pins s σ H _ I h) fun v s1 ⟨x, H1, I1, r1, q1⟩ => ?_)
  obtain ⟨z, ex, hz, q⟩ := q1
  subst ex
  obtain ⟨t, rfl⟩ := r1
  have hst : PO X (some (.UnaryOp .USub (.Constant (.int 1) k p1) p2)) (tPart (tUn (rU fun i => .int (-i)) (tC (.int 1)))) := po_some (pe_un un_neg pe_int)
  refine wpAny_Slice (thn (po_none.run pins s1 σ H1 (fun o H2 => o = none ∧ H2 = H1) I1 ⟨rfl, rfl⟩) fun vl s2 ⟨l, H2, I2, pl, el, e2⟩ => ?_)
  subst el e2
  refine thn (po_none.run pins s2 σ H2 (fun o H3 => o = none ∧ H3 = H2) I2 ⟨rfl, rfl⟩) fun vu s3 ⟨u, H3, I3, pu, eu, e3⟩ => ?_
  subst eu e3
  refine thn (hst.run pins s3 σ H3 (fun o H4 => o = some (-1) ∧ H4 = H3) I3 ⟨1, rfl, -1, rfl, rfl, rfl⟩) fun vs s4 ⟨o, H4, I4, ps, eo, e4⟩ => ?_
  subst eo e4
  have I5 : Inv X pins σ H4 { s4 with heap := s4.heap.push { cls := .type "slice", data := .fields #[vl, vu, vs] } } := I4.kept (t' := s4.toks) fun b ob q => Heap.get?_push_of_some _ q
  obtain ⟨l', rfl, el⟩ := IsPart.raw pl
  obtain ⟨u', rfl, eu⟩ := IsPart.raw pu
  obtain ⟨st', rfl, es⟩ := IsPart.raw ps
  cases l' with
  | some p => cases el
  | none =>
  cases u' with
  | some p => cases eu
  | none =>
  cases st' with
  | none => cases es
  | some p =>
  obtain ⟨i, ti⟩ := p
  have ei : i = -1 := Option.some.inj es
  subst ei
  refine tail_any (ops := [.str z t, .ref s4.heap.objs.size]) (typeIs_str _ _ _) (F.slot_str_getitem.lookup) ?_ (by with_unfolding_all rfl)
  refine wpAny_getItem_str_slice (l := none) (u := none) (st := some (-1, ti)) ⟨_, Heap.get?_push_size _ rfl, rfl, rfl⟩ rfl ?_
  have er : ((Builtin.Str.strSliceIndices none none (-1) z.length).filterMap (z.cps[·]?)).toArray = z.cps.toList.reverse.toArray := by
    show ((sliceRange ((z.length : Int) - 1) (-1) (-1)).filterMap (z.cps[·]?)).toArray = _
    rw [PySem.W.krv_sliceRange, PySem.W.krv_range, List.filterMap_reverse]
    show ((List.filterMap (z.cps[·]?) (List.range z.cps.size)).reverse).toArray = _
    rw [PySem.W.krv_all]
  show Made.post (Made.str ⟨((Builtin.Str.strSliceIndices none none (-1) z.length).filterMap (z.cps[·]?)).toArray⟩) _ _
  rw [er]
  exact ⟨by have := revS_len z; exact Nat.le_trans (Nat.le_of_eq this) hz, .str _, _, I5.tok _, ⟨_, rfl⟩, q⟩
section
variable {σ : L2.St} {H : Hp} {Q : VK} {te : TE}
theorem rev_ (h : te σ H fun x H1 => ∃ z, x = .str z ∧ z.length ≤ sizeLine ∧ Q (.str (revS z)) H1) : tRevS te σ H Q := h
end
end Wrs

namespace K28
open PySem PySem.Spec PyProof.Rows L2 Wp Wq Wr Wpm Wth Wta Wpi Whs
local macro_rules | `(tactic| walk_at "ne") => `(tactic| first
  | assumption
  | (refine Ne.symm ?_; assumption)
  | exact ne_of_none (by assumption) (by assumption)
  | exact (ne_of_none (by assumption) (by assumption)).symm
  | exact ne_of (by assumption) (by assumption) (by intro q; cases q))
local macro_rules | `(tactic| walk_at "hp") => `(tactic| first
  | assumption
  | exact upd_same
  | (refine (upd_ne ?_).trans ?_; (walk_at "ne"); (walk_at "hp")))
local macro_rules | `(tactic| walk_at "hq") => `(tactic| first
  | assumption
  | exact upd_same
  | (refine same_new (by assumption) _ _ ?_; (walk_at "hq"))
  | (refine Wp.look (by assumption) ?_; (walk_at "hq")))
local macro_rules | `(tactic| walk_at "sm") => `(tactic| first
  | assumption
  | exact fun _ _ h => h
  | exact same_new (by assumption)
  | (refine Same.trans ?_ (same_new (by assumption)); (walk_at "sm"))
  | (refine Same.trans ?_ (by assumption); (walk_at "sm")))
local macro_rules | `(tactic| walk_at "kp") => `(tactic| first
  | assumption
  | exact Kp.refl _ _
  | (refine Kp.trans ?_ (Kp.new (by assumption)); (walk_at "kp"))
  | (refine Kp.trans ?_ (Same.kp (by assumption)); (walk_at "kp"))
  | (refine Wp.kpT ?_ (by assumption); (walk_at "kp"))
  | exact Same.kp (by walk_at "sm"))
local macro_rules | `(tactic| walk_at "sq") => `(tactic| first
  | assumption
  | exact SqL.of (by walk_at "hp")
  | exact SqT.of (by walk_at "hp"))
local macro_rules | `(tactic| walk_at "kind") => `(tactic| first
  | assumption
  | exact Kind.int _
  | exact Kind.str _
  | exact Kind.bl _
  | exact Kind.non
  | exact Kind.tup (by walk_at "hp")
  | exact Kind.lst (by walk_at "hp")
  | exact Kind.dK (by walk_at "hp"))
local macro_rules | `(tactic| walk_at "w1") => `(tactic| first
  | (with_reducible refine Wp.seq ?_)
  | (with_reducible refine Wp.nx_mk ?_)
  | (with_reducible refine Wp.rt_mk ?_)
  | (with_reducible refine Wp.bk_mk ?_)
  | (with_reducible refine Wp.ct_mk ?_)
  | (with_reducible refine Wp.next ?_)
  | (with_reducible refine Wp.asg ?_)
  | ((with_reducible refine' Wp.gname ?e ?_); (case e => (try dsimp only [List.set, L2.wipe, List.map_cons, List.map_nil]); (try exact rfl)))
  | (with_reducible refine Wp.gsub ?_)
  | (with_reducible refine Wp.ret ?_)
  | (with_reducible refine Wp.retN ?_)
  | (with_reducible refine Wp.drop ?_)
  | (with_reducible refine Wp.dput ?_)
  | (with_reducible refine Wp.ifs ?_)
  | ((with_reducible refine' Wp.var ?h ?_); (case h => exact rfl))
  | (with_reducible refine Wp.con ?_)
  | (with_reducible refine Wp.op ?_)
  | (with_reducible refine Wp.un ?_)
  | (with_reducible refine Wp.cb ?_)
  | (with_reducible refine Wp.anil ?_)
  | (with_reducible refine Wp.acons ?_)
  | (with_reducible refine Wp.call ?_)
  | (with_reducible refine Wp.test ?_)
  | (with_reducible refine Wp.tb_ ?_)
  | (with_reducible refine Wp.and_ ?_)
  | (with_reducible refine Wp.or_ ?_)
  | (with_reducible refine Wp.not_ ?_)
  | (with_reducible refine Wp.andV ?_)
  | (with_reducible refine Wp.orV ?_)
  | (with_reducible refine Wp.notV ?_)
  | (with_reducible refine Wp.rI0_ ?_)
  | (with_reducible refine Wp.rU_ ?_)
  | ((with_reducible refine Wp.rEq_ ?k ?_); (case k => exact rfl))
  | ((with_reducible refine Wp.rNe_ ?k ?_); (case k => exact rfl))
  | (with_reducible refine Wp.gcons ?_)
  | (with_reducible refine Wp.gnil ?_)
  | ((with_reducible refine' Wp.gtup ?h ?e ?_); (case h => walk_at "sq"); (case e => exact rfl))
  | (with_reducible refine Wp.sl ?_)
  | (with_reducible refine Wp.part ?_)
  | (with_reducible refine Wp.nopart ?_)
  | (with_reducible refine Wp.ifE ?_)
  | (with_reducible refine Wp.bm0 ?_)
  | (with_reducible refine Wp.bm ?_)
  | (with_reducible refine Wp.lcR1 ?_)
  | (with_reducible refine Wp.lcR2 ?_)
  | (with_reducible refine Wp.lcL ?_)
  | (with_reducible refine Wp.chain ?_)
  | (with_reducible refine Wp.lc2V ?_)
  | (with_reducible refine Wp.piL ?_)
  | (with_reducible refine Wp.yes ?_)
  | (with_reducible refine Wp.dinI ?_)
  | (with_reducible refine Wp.dninI ?_)
  | (with_reducible refine Wp.dget ?_)
  | ((with_reducible refine' ⟨?k, ?_⟩); (case k => show L2.wipe _ _ = L2.wipe _ _; exact rfl))
  | ((with_reducible refine' ⟨?k, ?_⟩); (case k => show V.non = V.non; exact rfl))
  | (with_reducible refine Wp.forR1 ?_)
  | (with_reducible refine Wp.forR2 ?_)
  | (with_reducible refine Wp.forL ?_)
  | (with_reducible refine Wp.forT ?_)
  | ((with_reducible refine' ⟨?k, ?_⟩); (case k => exact Wp.tyvL (by walk_at "hp")))
  | ((with_reducible refine' Wp.rev_ ?k ?_); (case k => walk_at "hp"))
  | ((with_reducible refine' Wp.isi ?k ?h ?_); (case k => walk_at "kind"); (case h => decide))
  | ((with_reducible refine' Wp.typ ?k ?_); (case k => walk_at "kind"))
  | (with_reducible refine Wp.slS ?k ?_; (case k => assumption))
  | (with_reducible refine iteT ?_)
  | (with_reducible refine iteF ?_)
  | (with_reducible refine Wtc.dcL ?_)
  | (with_reducible refine Wst.step ?_)
  | (with_reducible refine Wtc.dget2 ?_)
  | (with_reducible refine Wtc.lcZ ?_)
  | (with_reducible refine Wrw.loop_setLc ?_)
  | (with_reducible refine Wz.par ?_)
  | (with_reducible refine Wz.forN ?_)
  | (with_reducible refine Wz.dcL ?_)
  | (with_reducible refine Wz.forZ ?_)
  | (with_reducible refine Wz.lcR3 ?_)
  | (with_reducible refine Wc.revL ?_)
  | (with_reducible refine Wd.nm ?_)
  | (with_reducible refine Wd.nget ?_)
  | ((with_reducible refine Wd.tnew ?_); intro p hp)
  | (with_reducible refine Wd.pikn ?_)
  | (with_reducible refine Wt.m1 ?_)
  | (with_reducible refine Wt.m0 ?_)
  | ((with_reducible refine' ⟨?k, ?_⟩); (case k => show ∃ a, _ = V.str a; exact ⟨_, rfl⟩))
  | (with_reducible refine Wt.js_cons ?_)
  | (with_reducible refine Wt.fmt_ ?_)
  | (with_reducible refine Wp.pcons ?_)
  | (with_reducible refine Wp.pnil ?_)
  | ((with_reducible refine' Wp.iteBnT ?h ?_); (case h => show isB _ _ = false; decide))
  | ((with_reducible refine' Wp.iteBnF ?h ?_); (case h => show isB _ _ = true; decide))
  | ((with_reducible refine' Wp.iteBt ?h ?_); (case h => show isB _ _ = true; decide))
  | ((with_reducible refine' Wp.iteBf ?h ?_); (case h => show isB _ _ = false; decide))
  | (with_reducible refine Wp.iteT' ?_)
  | (with_reducible refine Wp.iteF' ?_)
  | (with_reducible refine Wp.rNT_ ?_)
  | ((with_reducible refine Wp.lst ?_))
  | ((with_reducible refine Wp.tup ?_))
  | ((with_reducible refine' Wp.ixL ?h ?e ?_); (case h => walk_at "sq"); (case e => exact rfl))
  | ((with_reducible refine' Wp.ixT ?h ?e ?_); (case h => walk_at "sq"); (case e => exact rfl))
  | ((with_reducible refine' Wp.setL ?h ?e ?_); (case h => walk_at "hp"); (case e => exact rfl))
  | ((with_reducible refine Wp.rI_ ?k ?_); (case k => first | (show (0:Int) < _; omega) | (show CPow _ _; refine' ⟨?_, ?_, ?_⟩ <;> omega) | (show CDiv _ _; refine' ⟨?_, ?_⟩ <;> omega) | (show CMul _ _; refine' Or.inl ⟨?_, ?_⟩ <;> omega) | (show CMul _ _; refine' Or.inr ⟨?_, ?_⟩ <;> first | omega | decide) | (show CDivW _ _; refine' wide_div (b := 240) ?_ ?_ ?_ ?_ <;> first | omega | decide)))
  | ((with_reducible refine ⟨?k, ?_⟩); (case k => first | exact Nat.zero_le _ | (exact Nat.le_of_ble_eq_true rfl)); intro p hp)
  | ((with_reducible refine' ⟨_, _, rfl, .inl ?k, ?_⟩); (case k => walk_at "sq"))
  | ((with_reducible refine' ⟨_, _, rfl, .inr ?k, ?_⟩); (case k => walk_at "sq"))
  | (with_reducible refine ⟨_, rfl, ?_⟩)
  | (with_reducible refine ⟨_, _, rfl, rfl, ?_⟩)
  | (with_reducible refine ⟨_, _, rfl, ?_⟩))
local macro_rules | `(tactic| walk_at "wp") => `(tactic| repeat (walk_at "w1"))

local macro_rules | `(tactic| walk_at "pf") => `(tactic| first
  | (with_reducible exact Wcl.pf0)
  | (with_reducible exact Wcl.pf1)
  | ((with_reducible refine' Wcl.pf2 ?n ?h); (case n => decide +kernel); (case h => walk_at "pf")))
local macro_rules | `(tactic| walk_at "w1") => `(tactic| first
  | (with_reducible refine Wcl.fld_ ?_)
  | (with_reducible refine Wrs.rev_ ?_)
  | (with_reducible refine Wcl.sfld_ ?_)
  | (with_reducible refine Wcl.meth_ ?_)
  | (with_reducible refine Wcl.make_ ?_)
  | (with_reducible refine Wcl.dcZ ?_)
  | (with_reducible refine Wcl.ddelT_ ?_)
  | (with_reducible refine Wcl.daug_ ?_)
  | (with_reducible refine Wcl.dpop1_ ?_)
  | ((with_reducible refine Wcl.dnewT_ ?_); intro p hp)
  | ((with_reducible refine Wcl.dnewK_ ?_); intro p hp)
  | ((with_reducible refine' Wcl.fldR ?h ?c ?n ?e ?_); (case h => walk_at "hp"); (case c => assumption); (case n => assumption); (case e => exact rfl))
  | ((with_reducible refine' Wcl.sfldR ?h ?c ?n ?l ?e ?_); (case h => walk_at "hp"); (case c => assumption); (case n => assumption); (case l => exact Nat.le_of_ble_eq_true rfl); (case e => walk_at "pf"))
  | ((with_reducible refine' Wcl.methR ?h ?l ?_); (case h => walk_at "hp"); (case l => exact rfl)))

section
variable {P : Program} {w : World} {K : PySem.W.Frag} {mg : Str → Option Value} {base : Heap}
theorem sum_ones : ∀ ys : List Str, (∀ y ∈ ys, y.length = 1) → (ys.map (·.length)).sum = ys.length
  | [], _ => rfl
  | y :: ys, h => by
    rw [List.map_cons, List.sum_cons, h y (by simp), sum_ones ys fun z hz => h z (List.mem_cons_of_mem _ hz), List.length_cons]
    omega
def spLetters : Sp := fun vs H Q _ => ∃ (b : Addr) (n m : Nat), vs = [.ref b, .int m] ∧ Bag H b n ∧ n < 900000 ∧ m ≤ 8 ∧ ∀ v H', Wu.Low v → v.length = m → Bag H' b (n + 8) → Kp b H H' → Q (.str v) H'
theorem ok_letters (T : Txt P w K mg) : FnOk P w K mg base CX0 2 T.f_letters T.fd_letters ["bag", "many"] spLetters := by
  have G_draw := ok_draw (base := base) T
  refine T.F_letters.ok sc_letters (fun vs H Q E h => ?_) (fun cdv A outer s H vs Q E hr h => ?_)
  · obtain ⟨b, n, m, rfl, _⟩ := h
    rfl
  · obtain ⟨b, n, m, rfl, hb, hn, hm, q⟩ := h
    refine ⟨_, (pss_one (ps_ret (pe_join pe_str (pe_lc (own := [("k", 2)]) rfl sc_letters.nd (pi_range1 (by rfl) T.n_range (pa_cons (pv 1) pa_nil)) (blkOk_by (N := ["bag", "many", "k"]) (sc := defScope s_letters) (by decide +kernel)) (fun _ _ _ _ _ => pg_name (i := 2) sc_letters.nd rfl (Or.inl rfl)) (fun _ _ _ _ _ => pts_nil) (fun _ _ _ _ _ => (pe_ix ix_str pe_str (pe_call G_draw (hr.mono (by decide)) (by rfl) T.g_draw T.F_draw.kp T.b_draw .nil pass0 (pa_cons (pv 0) (pa_cons pe_int pa_nil))) (fun _ _ => rfl))))))), ?_⟩
    rw [show L2.start ["bag", "many", "k"] [.ref b, .int m] = [some (.ref b), some (.int m), none] from rfl]
    try dsimp only [cxOf]
    walk_at "wp"
    refine ⟨by omega, by omega, fun D hD => ?_⟩
    refine loopCR (fun j H' => Bag H' b (n + j) ∧ Kp b H H' ∧ ∃ ys : List Str, H' D = some (.lst (ys.map V.str)) ∧ ys.length = j ∧ ∀ y ∈ ys, Wu.Low y ∧ y.length = 1) ⟨hb.keep (same_new hD), Kp.new hD, [], upd_same, rfl, (fun _ h => nomatch h)⟩ ?_ ?_
    · rintro j H6 hj ⟨hb6, k6, ys, hD6, yl, yk⟩
      walk_at "wp"
      refine ⟨b, n + j, _, rfl, hb6, by omega, by omega, by omega, fun i2 H7 i20 i21 hb7 k7 => ?_⟩
      have hD7 := k7 _ _ (hb.ne_new hD) hD6
      refine Wu.ixS_low Wu.letters_low (by show Wu.letters.length ≤ _; rw [Wu.letters_len]; decide) i20 (by rw [show (Str.ofString "abcdefghijklmnopqrstuvwxyz").length = 26 from Wu.letters_len]; exact i21) fun c2 lc2 => ?_
      refine ⟨_, hD7, ?_, (hb7.mono (by omega)).upd (hb.ne_new hD), (Kp.trans k6 k7).updNew hD, ys ++ [⟨#[c2]⟩], ?_, ?_, ?_⟩
      · rw [List.length_map, yl]
        have : 9 ≤ sizeLine := by decide
        omega
      · rw [upd_same, List.map_append]; rfl
      · rw [List.length_append, yl]; rfl
      · intro z hz
        rcases List.mem_append.mp hz with hz | hz
        · exact yk z hz
        · rw [List.mem_singleton.mp hz]; exact ⟨lc2, rfl⟩
    · rintro H6 ⟨hb6, k6, ys, hD6, yl, yk⟩
      obtain ⟨jl, jn⟩ := Wu.join_low yk
      refine ⟨_, D, ys, rfl, rfl, .inl (SqL.of hD6), ?_, ?_⟩
      · rw [sum_ones ys fun y hy => (yk y hy).2, yl]
        have : (Str.ofString "").length = 0 := by decide +kernel
        rw [this]
        omega
      · exact q _ _ jl (by omega) (hb6.mono (by omega)) k6
def spNames : Sp := fun vs H Q _ => ∃ (b : Addr), vs = [.ref b] ∧ Bag H b 0 ∧ ∀ l nms H', H l = none → H' l = some (.lst (nms.map V.str)) → Nms nms → Kp b H H' → Q (.ref l) H'
theorem ok_names (T : Txt P w K mg) : FnOk P w K mg base CX0 3 T.f_names T.fd_names ["bag"] spNames := by
  have G_draw := ok_draw (base := base) T
  have G_letters := ok_letters (base := base) T
  refine T.F_names.ok sc_names (fun vs H Q E h => ?_) (fun cdv A outer s H vs Q E hr h => ?_)
  · obtain ⟨b, rfl, _⟩ := h
    rfl
  · obtain ⟨b, rfl, hb, q⟩ := h
    refine ⟨_, (pss_cons (ps_set (i := 1) sc_names.nd rfl (.inl rfl) (pe_call G_letters (hr.mono (by decide)) (by rfl) T.g_letters T.F_letters.kp T.b_letters .nil pass0 (pa_cons (pv 0) (pa_cons (pe_op op_add pe_int (pe_call G_draw (hr.mono (by decide)) (by rfl) T.g_draw T.F_draw.kp T.b_draw .nil pass0 (pa_cons (pv 0) (pa_cons pe_int pa_nil)))) pa_nil))))
      (pss_cons (ps_set (i := 2) sc_names.nd rfl (.inl rfl) (pe_call G_letters (hr.mono (by decide)) (by rfl) T.g_letters T.F_letters.kp T.b_letters .nil pass0 (pa_cons (pv 0) (pa_cons (pe_op op_add pe_int (pe_call G_draw (hr.mono (by decide)) (by rfl) T.g_draw T.F_draw.kp T.b_draw .nil pass0 (pa_cons (pv 0) (pa_cons pe_int pa_nil)))) pa_nil))))
      (pss_cons (ps_set (i := 3) sc_names.nd rfl (.inl rfl) (pe_slice sl_str (pe_op op_add_str (pv 1) (pe_call G_letters (hr.mono (by decide)) (by rfl) T.g_letters T.F_letters.kp T.b_letters .nil pass0 (pa_cons (pv 0) (pa_cons pe_int pa_nil)))) po_none (po_some pe_int)))
      (pss_one (ps_ret (pe_lst (pa_cons (pv 1) (pa_cons (pv 2) (pa_cons (pv 3) (pa_cons (pe_slice sl_str (pv 1) po_none (po_some pe_int)) (pa_cons (Wrs.pe_revS (pv 2)) (pa_cons (pe_slice sl_str (pv 2) (po_some pe_int) po_none) pa_nil)))))))))))), ?_⟩
    rw [show L2.start ["bag", "one", "other", "longer"] [.ref b] = [some (.ref b), none, none, none] from rfl]
    try dsimp only [cxOf]
    walk_at "wp"
    refine ⟨b, 0, _, rfl, hb, by omega, by omega, by omega, fun i1 H1 a1 b1 hb1 k1 => ?_⟩
    walk_at "wp"
    refine ⟨b, 1, (1 + i1).toNat, by rw [Int.toNat_of_nonneg (by omega)]; rfl, hb1, by omega, by omega, fun one H2 lo1 le1 hb2 k2 => ?_⟩
    walk_at "wp"
    refine ⟨b, 9, _, rfl, hb2, by omega, by omega, by omega, fun i3 H3 a3 b3 hb3 k3 => ?_⟩
    walk_at "wp"
    refine ⟨b, 10, (2 + i3).toNat, by rw [Int.toNat_of_nonneg (by omega)]; rfl, hb3, by omega, by omega, fun other H4 lo2 le2 hb4 k4 => ?_⟩
    walk_at "wp"
    refine ⟨b, 18, 1, rfl, hb4, by omega, by omega, fun last H5 lo3 le3 hb5 k5 => ?_⟩
    have line : 100 ≤ sizeLine := by decide
    have lj : (one ++ last).length = one.length + 1 := by rw [Wp.app_len, le3]
    refine ⟨one, last, rfl, rfl, by omega, ?_⟩
    have c8 : (cutS (one ++ last) none (some 8)).length = min 8 (one ++ last).length := Wss.cut_min (n := 8)
    have c1 : (cutS one none (some 1)).length = min 1 one.length := Wss.cut_min (n := 1)
    have ch : (cutS other (some 1) none).length = other.length - 1 := Wu.cut_hi (n := 1) (by omega)
    have rl := Wrs.revS_len other
    have lone : one.length ≤ sizeLine := by omega
    have loth : other.length ≤ sizeLine := by omega
    have lboth : (one ++ last).length ≤ sizeLine := by omega
    walk_at "wp"
    refine ⟨loth, ?_⟩
    walk_at "wp"
    rename_i l hl
    have k05 : Kp b H H5 := Kp.trans k1 (Kp.trans k2 (Kp.trans k3 (Kp.trans k4 k5)))
    refine q _ [one, other, cutS (one ++ last) none (some 8), cutS one none (some 1), Wrs.revS other, cutS other (some 1) none] _ ?_ upd_same ⟨rfl, fun x hx => ?_⟩ (Kp.trans k05 (Kp.new hl))
    · cases e : H l with
      | none => rfl
      | some o =>
        by_cases c : l = b
        · obtain ⟨_, _, _, h1, _⟩ := hb5
          rw [c, h1] at hl; cases hl
        · rw [k05 _ _ c e] at hl; cases hl
    · simp only [List.mem_cons, List.not_mem_nil, or_false] at hx
      rcases hx with rfl | rfl | rfl | rfl | rfl | rfl
      · exact ⟨⟨lo1, by omega⟩, by omega⟩
      · exact ⟨⟨lo2, by omega⟩, by omega⟩
      · exact ⟨⟨Wu.Low.cut (lo1.app lo3), by omega⟩, by omega⟩
      · exact ⟨⟨Wu.Low.cut lo1, by omega⟩, by omega⟩
      · exact ⟨⟨Wrs.revS_low lo2, by omega⟩, by omega⟩
      · exact ⟨⟨Wu.Low.cut lo2, by omega⟩, by omega⟩

end
end K28

namespace K28
open PySem PySem.Spec PyProof.Rows L2 Wp Wq Wr Wpm Wth Wta Wpi Whs
local macro_rules | `(tactic| walk_at "ne") => `(tactic| first
  | assumption
  | (refine Ne.symm ?_; assumption)
  | exact ne_of_none (by assumption) (by assumption)
  | exact (ne_of_none (by assumption) (by assumption)).symm
  | exact ne_of (by assumption) (by assumption) (by intro q; cases q))
local macro_rules | `(tactic| walk_at "hp") => `(tactic| first
  | assumption
  | exact upd_same
  | (refine (upd_ne ?_).trans ?_; (walk_at "ne"); (walk_at "hp")))
local macro_rules | `(tactic| walk_at "hq") => `(tactic| first
  | assumption
  | exact upd_same
  | (refine same_new (by assumption) _ _ ?_; (walk_at "hq"))
  | (refine Wp.look (by assumption) ?_; (walk_at "hq")))
local macro_rules | `(tactic| walk_at "sm") => `(tactic| first
  | assumption
  | exact fun _ _ h => h
  | exact same_new (by assumption)
  | (refine Same.trans ?_ (same_new (by assumption)); (walk_at "sm"))
  | (refine Same.trans ?_ (by assumption); (walk_at "sm")))
local macro_rules | `(tactic| walk_at "kp") => `(tactic| first
  | assumption
  | exact Kp.refl _ _
  | (refine Kp.trans ?_ (Kp.new (by assumption)); (walk_at "kp"))
  | (refine Kp.trans ?_ (Same.kp (by assumption)); (walk_at "kp"))
  | (refine Wp.kpT ?_ (by assumption); (walk_at "kp"))
  | exact Same.kp (by walk_at "sm"))
local macro_rules | `(tactic| walk_at "sq") => `(tactic| first
  | assumption
  | exact SqL.of (by walk_at "hp")
  | exact SqT.of (by walk_at "hp"))
local macro_rules | `(tactic| walk_at "kind") => `(tactic| first
  | assumption
  | exact Kind.int _
  | exact Kind.str _
  | exact Kind.bl _
  | exact Kind.non
  | exact Kind.tup (by walk_at "hp")
  | exact Kind.lst (by walk_at "hp")
  | exact Kind.dK (by walk_at "hp"))
local macro_rules | `(tactic| walk_at "w1") => `(tactic| first
  | (with_reducible refine Wp.seq ?_)
  | (with_reducible refine Wp.nx_mk ?_)
  | (with_reducible refine Wp.rt_mk ?_)
  | (with_reducible refine Wp.bk_mk ?_)
  | (with_reducible refine Wp.ct_mk ?_)
  | (with_reducible refine Wp.next ?_)
  | (with_reducible refine Wp.asg ?_)
  | ((with_reducible refine' Wp.gname ?e ?_); (case e => (try dsimp only [List.set, L2.wipe, List.map_cons, List.map_nil]); (try exact rfl)))
  | (with_reducible refine Wp.gsub ?_)
  | (with_reducible refine Wp.ret ?_)
  | (with_reducible refine Wp.retN ?_)
  | (with_reducible refine Wp.drop ?_)
  | (with_reducible refine Wp.dput ?_)
  | (with_reducible refine Wp.ifs ?_)
  | ((with_reducible refine' Wp.var ?h ?_); (case h => exact rfl))
  | (with_reducible refine Wp.con ?_)
  | (with_reducible refine Wp.op ?_)
  | (with_reducible refine Wp.un ?_)
  | (with_reducible refine Wp.cb ?_)
  | (with_reducible refine Wp.anil ?_)
  | (with_reducible refine Wp.acons ?_)
  | (with_reducible refine Wp.call ?_)
  | (with_reducible refine Wp.test ?_)
  | (with_reducible refine Wp.tb_ ?_)
  | (with_reducible refine Wp.and_ ?_)
  | (with_reducible refine Wp.or_ ?_)
  | (with_reducible refine Wp.not_ ?_)
  | (with_reducible refine Wp.andV ?_)
  | (with_reducible refine Wp.orV ?_)
  | (with_reducible refine Wp.notV ?_)
  | (with_reducible refine Wp.rI0_ ?_)
  | (with_reducible refine Wp.rU_ ?_)
  | ((with_reducible refine Wp.rEq_ ?k ?_); (case k => exact rfl))
  | ((with_reducible refine Wp.rNe_ ?k ?_); (case k => exact rfl))
  | (with_reducible refine Wp.gcons ?_)
  | (with_reducible refine Wp.gnil ?_)
  | ((with_reducible refine' Wp.gtup ?h ?e ?_); (case h => walk_at "sq"); (case e => exact rfl))
  | (with_reducible refine Wp.sl ?_)
  | (with_reducible refine Wp.part ?_)
  | (with_reducible refine Wp.nopart ?_)
  | (with_reducible refine Wp.ifE ?_)
  | (with_reducible refine Wp.bm0 ?_)
  | (with_reducible refine Wp.bm ?_)
  | (with_reducible refine Wp.lcR1 ?_)
  | (with_reducible refine Wp.lcR2 ?_)
  | (with_reducible refine Wp.lcL ?_)
  | (with_reducible refine Wp.chain ?_)
  | (with_reducible refine Wp.lc2V ?_)
  | (with_reducible refine Wp.piL ?_)
  | (with_reducible refine Wp.yes ?_)
  | (with_reducible refine Wp.dinI ?_)
  | (with_reducible refine Wp.dninI ?_)
  | (with_reducible refine Wp.dget ?_)
  | ((with_reducible refine' ⟨?k, ?_⟩); (case k => show L2.wipe _ _ = L2.wipe _ _; exact rfl))
  | ((with_reducible refine' ⟨?k, ?_⟩); (case k => show V.non = V.non; exact rfl))
  | (with_reducible refine Wp.forR1 ?_)
  | (with_reducible refine Wp.forR2 ?_)
  | (with_reducible refine Wp.forL ?_)
  | (with_reducible refine Wp.forT ?_)
  | ((with_reducible refine' ⟨?k, ?_⟩); (case k => exact Wp.tyvL (by walk_at "hp")))
  | ((with_reducible refine' Wp.rev_ ?k ?_); (case k => walk_at "hp"))
  | ((with_reducible refine' Wp.isi ?k ?h ?_); (case k => walk_at "kind"); (case h => decide))
  | ((with_reducible refine' Wp.typ ?k ?_); (case k => walk_at "kind"))
  | (with_reducible refine Wp.slS ?k ?_; (case k => assumption))
  | (with_reducible refine iteT ?_)
  | (with_reducible refine iteF ?_)
  | (with_reducible refine Wtc.dcL ?_)
  | (with_reducible refine Wst.step ?_)
  | (with_reducible refine Wtc.dget2 ?_)
  | (with_reducible refine Wtc.lcZ ?_)
  | (with_reducible refine Wrw.loop_setLc ?_)
  | (with_reducible refine Wz.par ?_)
  | (with_reducible refine Wz.forN ?_)
  | (with_reducible refine Wz.dcL ?_)
  | (with_reducible refine Wz.forZ ?_)
  | (with_reducible refine Wz.lcR3 ?_)
  | (with_reducible refine Wc.revL ?_)
  | (with_reducible refine Wd.nm ?_)
  | (with_reducible refine Wd.nget ?_)
  | ((with_reducible refine Wd.tnew ?_); intro p hp)
  | (with_reducible refine Wd.pikn ?_)
  | (with_reducible refine Wt.m1 ?_)
  | (with_reducible refine Wt.m0 ?_)
  | ((with_reducible refine' ⟨?k, ?_⟩); (case k => show ∃ a, _ = V.str a; exact ⟨_, rfl⟩))
  | (with_reducible refine Wt.js_cons ?_)
  | (with_reducible refine Wt.fmt_ ?_)
  | (with_reducible refine Wp.pcons ?_)
  | (with_reducible refine Wp.pnil ?_)
  | ((with_reducible refine' Wp.iteBnT ?h ?_); (case h => show isB _ _ = false; decide))
  | ((with_reducible refine' Wp.iteBnF ?h ?_); (case h => show isB _ _ = true; decide))
  | ((with_reducible refine' Wp.iteBt ?h ?_); (case h => show isB _ _ = true; decide))
  | ((with_reducible refine' Wp.iteBf ?h ?_); (case h => show isB _ _ = false; decide))
  | (with_reducible refine Wp.iteT' ?_)
  | (with_reducible refine Wp.iteF' ?_)
  | (with_reducible refine Wp.rNT_ ?_)
  | ((with_reducible refine Wp.lst ?_))
  | ((with_reducible refine Wp.tup ?_))
  | ((with_reducible refine' Wp.ixL ?h ?e ?_); (case h => walk_at "sq"); (case e => exact rfl))
  | ((with_reducible refine' Wp.ixT ?h ?e ?_); (case h => walk_at "sq"); (case e => exact rfl))
  | ((with_reducible refine' Wp.setL ?h ?e ?_); (case h => walk_at "hp"); (case e => exact rfl))
  | ((with_reducible refine Wp.rI_ ?k ?_); (case k => first | (show (0:Int) < _; omega) | (show CPow _ _; refine' ⟨?_, ?_, ?_⟩ <;> omega) | (show CDiv _ _; refine' ⟨?_, ?_⟩ <;> omega) | (show CMul _ _; refine' Or.inl ⟨?_, ?_⟩ <;> omega) | (show CMul _ _; refine' Or.inr ⟨?_, ?_⟩ <;> first | omega | decide) | (show CDivW _ _; refine' wide_div (b := 240) ?_ ?_ ?_ ?_ <;> first | omega | decide)))
  | ((with_reducible refine ⟨?k, ?_⟩); (case k => first | exact Nat.zero_le _ | (exact Nat.le_of_ble_eq_true rfl)); intro p hp)
  | ((with_reducible refine' ⟨_, _, rfl, .inl ?k, ?_⟩); (case k => walk_at "sq"))
  | ((with_reducible refine' ⟨_, _, rfl, .inr ?k, ?_⟩); (case k => walk_at "sq"))
  | (with_reducible refine ⟨_, rfl, ?_⟩)
  | (with_reducible refine ⟨_, _, rfl, rfl, ?_⟩)
  | (with_reducible refine ⟨_, _, rfl, ?_⟩))
local macro_rules | `(tactic| walk_at "wp") => `(tactic| repeat (walk_at "w1"))

local macro_rules | `(tactic| walk_at "pf") => `(tactic| first
  | (with_reducible exact Wcl.pf0)
  | (with_reducible exact Wcl.pf1)
  | ((with_reducible refine' Wcl.pf2 ?n ?h); (case n => decide +kernel); (case h => walk_at "pf")))
local macro_rules | `(tactic| walk_at "w1") => `(tactic| first
  | (with_reducible refine Wcl.fld_ ?_)
  | (with_reducible refine Wrs.rev_ ?_)
  | (with_reducible refine Wcl.sfld_ ?_)
  | (with_reducible refine Wcl.meth_ ?_)
  | (with_reducible refine Wcl.make_ ?_)
  | (with_reducible refine Wcl.dcZ ?_)
  | (with_reducible refine Wcl.ddelT_ ?_)
  | (with_reducible refine Wcl.daug_ ?_)
  | (with_reducible refine Wcl.dpop1_ ?_)
  | ((with_reducible refine Wcl.dnewT_ ?_); intro p hp)
  | ((with_reducible refine Wcl.dnewK_ ?_); intro p hp)
  | ((with_reducible refine' Wcl.fldR ?h ?c ?n ?e ?_); (case h => walk_at "hp"); (case c => assumption); (case n => assumption); (case e => exact rfl))
  | ((with_reducible refine' Wcl.sfldR ?h ?c ?n ?l ?e ?_); (case h => walk_at "hp"); (case c => assumption); (case n => assumption); (case l => exact Nat.le_of_ble_eq_true rfl); (case e => walk_at "pf"))
  | ((with_reducible refine' Wcl.methR ?h ?l ?_); (case h => walk_at "hp"); (case l => exact rfl)))

section
variable {P : Program} {w : World} {K : PySem.W.Frag} {mg : Str → Option Value} {base : Heap}
def spDeedP (T : Txt P w K mg) : Sp := fun vs H Q _ => ∃ (b h d nl : Addr) (H0 : Hp) (nms : List Str) (n : Nat), vs = [.ref b, .ref h, .ref nl, .ref d] ∧ GI T H0 [b] h d nl nms n H ∧ n < 700000 ∧ ∀ H', GI T H0 [b] h d nl nms (n + 30) H' → Q (.bl true) H'
theorem ok_deed (T : Txt P w K mg) : FnOk P w K mg base CX0 14 T.f_deed T.fd_deed ["bag", "house", "names", "has"] (spDeedP T) := by
  have G_draw := ok_draw (base := base) T
  have G_plain := ok_plain (base := base) T
  have G_same := ok_same (base := base) T
  have G_Copies_peg := ok_Copies_peg (base := base) T (cC T) (N_check_worth T) (N_settle T)
  have G_Copies_unpeg := ok_Copies_unpeg (base := base) T (cC T) (N_check_peg T) (N_settle T)
  have G_Copies_pegged := ok_Copies_pegged (base := base) T (cC T) (N_check_peg T)
  refine T.F_deed.ok sc_deed (fun vs H Q E h => ?_) (fun cdv A outer s H vs Q E hr h => ?_)
  · obtain ⟨b, h, d, nl, H0, nms, n, rfl, _⟩ := h
    rfl
  · obtain ⟨b, h, d, nl, H0, nms, n, rfl, x, hn, q⟩ := h
    refine ⟨_, (pss_cons (ps_set (i := 4) sc_deed.nd rfl (.inl rfl) (pe_call G_draw (hr.mono (by decide)) (by rfl) T.g_draw T.F_draw.kp T.b_draw .nil pass0 (pa_cons (pv 0) (pa_cons pe_int pa_nil))))
      (pss_cons (ps_set (i := 5) sc_deed.nd rfl (.inl rfl) (pe_ix ix_list (pv 2) (pe_call G_draw (hr.mono (by decide)) (by rfl) T.g_draw T.F_draw.kp T.b_draw .nil pass0 (pa_cons (pv 0) (pa_cons pe_int pa_nil))) (fun _ _ => rfl)))
      (pss_cons (ps_if (PW.pt (pw_or (pt_cmpR op_lt (pv 4) pe_int (nomark _)) (pw_or1 (pt_cmp (pc_dnotin (hu_of hr) (pv 5) (pv 3)))))) (pss_cons (ps_set (i := 6) sc_deed.nd rfl (.inl rfl) (pe_call G_draw (hr.mono (by decide)) (by rfl) T.g_draw T.F_draw.kp T.b_draw .nil pass0 (pa_cons (pv 0) (pa_cons pe_int pa_nil))))
      (pss_cons (ps_set (i := 7) sc_deed.nd rfl (.inl rfl) (pe_call G_plain (hr.mono (by decide)) (by rfl) T.g_plain T.F_plain.kp T.b_plain .nil pass0 (pa_cons (pv 0) pa_nil)))
      (C8.pss_cut (ps_if (pt_cmpR op_gt (pv 6) pe_int (nomark _)) (pss_one (ps_set (i := 7) sc_deed.nd rfl (.inl rfl) (pe_ix ix_list (pe_lst (pa_cons (pe_tup (pa_cons pe_str (pa_cons pe_int pa_nil))) (pa_cons (pe_tup (pa_cons pe_str (pa_cons pe_int pa_nil))) pa_nil))) (pe_op op_sub (pv 6) pe_int) (fun _ _ => rfl)))) pss_nil)
      (pss_cons (ps_dput (hu_of hr) (pv 3) (pv 5) (pv 7) rfl)
      (pss_one (ps_ret (pe_cmpR op_isN (pe_meth (pv 1) T.cl_Copies T.m_Copies_peg G_Copies_peg (hr.mono (by decide)) T.b_Copies_peg .nil pass0 (pa_cons (pv 5) (pa_cons (pv 7) pa_nil))) pe_non (nomark _)))))))) pss_nil)
      (pss_cons (ps_if (pt_cmpR op_eq (pv 4) pe_int (nomark _)) (pss_cons (ps_expr (pe_dpop1 (pv 3) (pv 5) ⟨by rfl, by rfl, by rfl, by rfl⟩))
      (pss_one (ps_ret (pe_cmpR op_isN (pe_meth (pv 1) T.cl_Copies T.m_Copies_unpeg G_Copies_unpeg (hr.mono (by decide)) T.b_Copies_unpeg .nil pass0 (pa_cons (pv 5) pa_nil)) pe_non (nomark _))))) pss_nil)
      (pss_one (ps_ret (pe_call G_same (hr.mono (by decide)) (by rfl) T.g_same T.F_same.kp T.b_same .nil pass0 (pa_cons (pe_meth (pv 1) T.cl_Copies T.m_Copies_pegged G_Copies_pegged (hr.mono (by decide)) T.b_Copies_pegged .nil pass0 (pa_cons (pv 5) pa_nil)) (pa_cons (pe_dget (hu_of hr) (pv 3) (pv 5) (fun _ _ => rfl)) pa_nil))))))))), ?_⟩
    rw [show L2.start ["bag", "house", "names", "has", "way", "name", "kind", "worth"] [.ref b, .ref h, .ref nl, .ref d] = [some (.ref b), some (.ref h), some (.ref nl), some (.ref d), none, none, none, none] from rfl]
    try dsimp only [cxOf]
    have hb0 : Bag H b n := by
      obtain ⟨_, _, _, M, _⟩ := x
      exact M.hb b (by simp)
    walk_at "wp"
    refine ⟨b, n, _, rfl, hb0, by omega, by omega, by omega, fun way H1 w0 w1 hb1 k1 => ?_⟩
    have x1 := x.bag hb1 k1
    clear x hb0
    walk_at "wp"
    refine ⟨b, n + 1, _, rfl, hb1, by omega, by omega, by omega, fun j H2 j0 j1 hb2 k2 => ?_⟩
    have x2 := x1.bag hb2 k2
    clear x1
    obtain ⟨S, ps, X, M, N, pk, pw⟩ := id x2
    obtain ⟨jn, rfl⟩ : ∃ k : Nat, j = k := ⟨j.toNat, by omega⟩
    have hj : jn < nms.length := by rw [N.1]; omega
    have nj : nms[jn]? = some nms[jn] := List.getElem?_eq_getElem hj
    have nk := N.2 _ (List.getElem_mem hj)
    have nin : nms[jn] ∈ nms := List.getElem_mem hj
    generalize nms[jn] = nm at nj nk nin
    refine ixL (SqL.of M.hn) (atI_of (n := jn) rfl (by rw [List.getElem?_map, nj]; rfl)) ?_
    walk_at "wp"
    obtain ⟨kvs, hd, pd⟩ := M.hd
    have l6 := few X N pk
    have kl := Paired.length pd
    refine ite_ (fun c1 => ?_) (fun c1 => ?_)
    rotate_left
    walk_at "wp"
    refine ⟨d, _, rfl, DGet.k (k := .inr nm) hd, ?_⟩
    walk_at "wp"
    refine iteB (fun c2 => ?_) (fun c2 => ?_)
    rotate_left
    · have hin : nm ∈ ps.map (·.1) := by
        have e1 : (valV kvs (Sum.inr nm)).isSome = true := by simpa using c2
        exact mem_kN.mp ((kv_some pv_key pd).mp e1)
      obtain ⟨p, hp, ep⟩ := List.mem_map.mp hin
      subst ep
      obtain ⟨u, hu, fu⟩ := kv_at (k := Sum.inr p.1) pv_key pd (nd_kN (House_ok X).pegU) hp rfl
      obtain ⟨A2, hh2⟩ := House_hh X
      walk_at "wp"
      refine ite_ (fun c3 => ?_) (fun c3 => ?_)
      · walk_at "wp"
        refine ⟨Wcl.isdK hd, ?_⟩
        walk_at "wp"
        refine ⟨kvs, Sum.inr p.1, u, hd, rfl, hu, ?_⟩
        have k3 : Ks [d] H2 (upd H2 d (.dK (dropK kvs (Sum.inr p.1)))) := ⟨fun a o n e => by rw [upd_ne (fun q : a = d => n (by rw [q]; simp))]; exact e, Tk.dK hd⟩
        have d3 : upd H2 d (.dK (dropK kvs (Sum.inr p.1))) d = some (.dK (dropK kvs (Sum.inr p.1))) := upd_same
        generalize upd H2 d (.dK (dropK kvs (Sum.inr p.1))) = H3 at k3 d3 ⊢
        have X3 := House_keep X k3 M.outd
        have M3 := M.setd k3 d3 (Paired.mapP (peg_drop (nm := p.1) pd) fun _ _ q => q.keep k3.tk)
        obtain ⟨A3, hh3⟩ := House_hh X3
        walk_at "wp"
        refine ⟨S, h, picP ps, p.1, rfl, X3, szP (by omega), hin, fun D' S' H' st X' mv => ?_⟩
        have eD : D' = picP (ps.filter fun x => decide (x.1 ≠ p.1)) := settled_held heldP st
        subst eD
        walk_at "wp"
        exact q _ (GI.mono (n := n + 1 + 1) ⟨S', _, X', M3.mv mv, N, fun y hy => pk y (List.mem_filter.mp hy).1, fun y hy => pw y (List.mem_filter.mp hy).1⟩ (by omega))
      · walk_at "wp"
        refine ⟨S, h, picP ps, p, rfl, X, hp, fun v H3 s3 wv => ?_⟩
        have M3 := M.same s3
        have gk := DGet.k (k := Sum.inr p.1) (s3 _ _ hd)
        rw [hu] at gk
        walk_at "wp"
        refine ⟨d, _, rfl, gk, ?_⟩
        walk_at "wp"
        refine ⟨v, u, p.2, rfl, wv, fu.2.keep (Same.tk s3), (pw p hp).ok, ?_⟩
        exact q _ ((x2.same s3).mono (by omega))
    all_goals
      walk_at "wp"
      refine ⟨b, n + 1 + 1, _, rfl, hb2, by omega, by omega, by omega, fun kind H3 kd0 kd1 hb3 k3 => ?_⟩
      have x3 := x2.bag hb3 k3
      walk_at "wp"
      refine ⟨b, n + 1 + 1 + 1, rfl, hb3, by omega, fun v z H4 wz pz hb4 k4 => ?_⟩
      have x4 := x3.bag hb4 k4
      walk_at "wp"
      refine Wp.cut (fun σ' H' => ∃ v' z', σ' = [some (.ref b), some (.ref h), some (.ref nl), some (.ref d), some (.int way), some (.str nm), some (.int kind), some v'] ∧ GI T H0 [b] h d nl nms (n + 20) H' ∧ IsW H' v' z' ∧ PgW z') ?_ ?_
      · walk_at "wp"
        refine ite_ (fun c3 => ?_) (fun c3 => ?_)
        · walk_at "wp"
          rename_i t1 ht1 t2 ht2 l0 hl0
          have s1 := same_new (o := .tup [V.str (Str.ofString "box"), V.int 0]) ht1
          have s2 := same_new (o := .tup [V.str (Str.ofString "go"), V.int 0]) ht2
          have s3 := same_new (o := .lst [V.ref t1, V.ref t2]) hl0
          have e1 : upd H4 t1 (.tup [V.str (Str.ofString "box"), V.int 0]) t1 = some (.tup [V.str (Str.ofString "box"), V.int 0]) := upd_same
          have e2 : upd (upd H4 t1 (.tup [V.str (Str.ofString "box"), V.int 0])) t2 (.tup [V.str (Str.ofString "go"), V.int 0]) t2 = some (.tup [V.str (Str.ofString "go"), V.int 0]) := upd_same
          have x5 := (x4.same (s1.trans (s2.trans s3))).mono (show n + 1 + 1 + 1 + 6 ≤ n + 20 by omega)
          have : kind = 2 ∨ kind = 3 := by omega
          rcases this with rfl | rfl
          · refine ixL (SqL.of upd_same) (show atI [V.ref t1, V.ref t2] (2 - 2) = some (V.ref t1) from rfl) ?_
            walk_at "wp"
            exact ⟨_, pgS, rfl, x5, ⟨t1, rfl, s3 _ _ (s2 _ _ e1)⟩, .inr (.inl rfl)⟩
          · refine ixL (SqL.of upd_same) (show atI [V.ref t1, V.ref t2] (3 - 2) = some (V.ref t2) from rfl) ?_
            walk_at "wp"
            exact ⟨_, pgT, rfl, x5, ⟨t2, rfl, s3 _ _ e2⟩, .inr (.inr rfl)⟩
        · walk_at "wp"
          exact ⟨_, z, rfl, x4.mono (by omega), wz, .inl pz⟩
      · rintro σ' H5 ⟨v', z', rfl, x5, wz5, gz⟩
        clear x4 x3 x2 X M N pk pw hd pd
        obtain ⟨S5, ps5, X5, M5, N5, pk5, pw5⟩ := id x5
        obtain ⟨kvs5, hd5, pd5⟩ := M5.hd
        have l65 := few X5 N5 pk5
        have kl5 := Paired.length pd5
        have line : 100 < sizeLine := by decide
        walk_at "wp"
        refine ⟨d, _, rfl, DPut.k (k := .inr nm) hd5 (by omega), ?_⟩
        have k6 : Ks [d] H5 (upd H5 d (.dK (putK kvs5 (Sum.inr nm) v'))) := ⟨fun a o n e => by rw [upd_ne (fun q : a = d => n (by rw [q]; simp))]; exact e, Tk.dK hd5⟩
        have d6 : upd H5 d (.dK (putK kvs5 (Sum.inr nm) v')) d = some (.dK (putK kvs5 (Sum.inr nm) v')) := upd_same
        generalize upd H5 d (.dK (putK kvs5 (Sum.inr nm) v')) = H6 at k6 d6 ⊢
        have X6 := House_keep X5 k6 M5.outd
        have wz6 := wz5.keep k6.tk
        have M6 := M5.setd k6 d6 (Paired.mapP (peg_put (nm := nm) pd5 wz5) fun _ _ q => q.keep k6.tk)
        obtain ⟨A6, hh6⟩ := House_hh X6
        walk_at "wp"
        refine ⟨S5, h, picP ps5, nm, v', z', rfl, X6, szP (by omega), (by show ps5.length < _; omega), nk.1, nk.2, wz6, gz.wk, gz.thing, fun D' S' H' st X' mv => ?_⟩
        have eD : D' = picP (putPeg ps5 nm z') := settled_held heldP st
        subst eD
        walk_at "wp"
        refine q _ (GI.mono (n := n + 20) ⟨S', _, X', M6.mv mv, N5, fun y hy => ?_, fun y hy => ?_⟩ (by omega))
        · rcases putPeg_mem hy with hy | hy
          · exact pk5 y hy
          · rw [hy]; exact nin
        · rcases putPeg_mem hy with hy | hy
          · exact pw5 y hy
          · rw [hy]; exact gz

end
end K28

namespace K28
open PySem PySem.Spec PyProof.Rows L2 Wp Wq Wr Wpm Wth Wta Wpi Whs
local macro_rules | `(tactic| walk_at "ne") => `(tactic| first
  | assumption
  | (refine Ne.symm ?_; assumption)
  | exact ne_of_none (by assumption) (by assumption)
  | exact (ne_of_none (by assumption) (by assumption)).symm
  | exact ne_of (by assumption) (by assumption) (by intro q; cases q))
local macro_rules | `(tactic| walk_at "hp") => `(tactic| first
  | assumption
  | exact upd_same
  | (refine (upd_ne ?_).trans ?_; (walk_at "ne"); (walk_at "hp")))
local macro_rules | `(tactic| walk_at "hq") => `(tactic| first
  | assumption
  | exact upd_same
  | (refine same_new (by assumption) _ _ ?_; (walk_at "hq"))
  | (refine Wp.look (by assumption) ?_; (walk_at "hq")))
local macro_rules | `(tactic| walk_at "sm") => `(tactic| first
  | assumption
  | exact fun _ _ h => h
  | exact same_new (by assumption)
  | (refine Same.trans ?_ (same_new (by assumption)); (walk_at "sm"))
  | (refine Same.trans ?_ (by assumption); (walk_at "sm")))
local macro_rules | `(tactic| walk_at "kp") => `(tactic| first
  | assumption
  | exact Kp.refl _ _
  | (refine Kp.trans ?_ (Kp.new (by assumption)); (walk_at "kp"))
  | (refine Kp.trans ?_ (Same.kp (by assumption)); (walk_at "kp"))
  | (refine Wp.kpT ?_ (by assumption); (walk_at "kp"))
  | exact Same.kp (by walk_at "sm"))
local macro_rules | `(tactic| walk_at "sq") => `(tactic| first
  | assumption
  | exact SqL.of (by walk_at "hp")
  | exact SqT.of (by walk_at "hp"))
local macro_rules | `(tactic| walk_at "kind") => `(tactic| first
  | assumption
  | exact Kind.int _
  | exact Kind.str _
  | exact Kind.bl _
  | exact Kind.non
  | exact Kind.tup (by walk_at "hp")
  | exact Kind.lst (by walk_at "hp")
  | exact Kind.dK (by walk_at "hp"))
local macro_rules | `(tactic| walk_at "w1") => `(tactic| first
  | (with_reducible refine Wp.seq ?_)
  | (with_reducible refine Wp.nx_mk ?_)
  | (with_reducible refine Wp.rt_mk ?_)
  | (with_reducible refine Wp.bk_mk ?_)
  | (with_reducible refine Wp.ct_mk ?_)
  | (with_reducible refine Wp.next ?_)
  | (with_reducible refine Wp.asg ?_)
  | ((with_reducible refine' Wp.gname ?e ?_); (case e => (try dsimp only [List.set, L2.wipe, List.map_cons, List.map_nil]); (try exact rfl)))
  | (with_reducible refine Wp.gsub ?_)
  | (with_reducible refine Wp.ret ?_)
  | (with_reducible refine Wp.retN ?_)
  | (with_reducible refine Wp.drop ?_)
  | (with_reducible refine Wp.dput ?_)
  | (with_reducible refine Wp.ifs ?_)
  | ((with_reducible refine' Wp.var ?h ?_); (case h => exact rfl))
  | (with_reducible refine Wp.con ?_)
  | (with_reducible refine Wp.op ?_)
  | (with_reducible refine Wp.un ?_)
  | (with_reducible refine Wp.cb ?_)
  | (with_reducible refine Wp.anil ?_)
  | (with_reducible refine Wp.acons ?_)
  | (with_reducible refine Wp.call ?_)
  | (with_reducible refine Wp.test ?_)
  | (with_reducible refine Wp.tb_ ?_)
  | (with_reducible refine Wp.and_ ?_)
  | (with_reducible refine Wp.or_ ?_)
  | (with_reducible refine Wp.not_ ?_)
  | (with_reducible refine Wp.andV ?_)
  | (with_reducible refine Wp.orV ?_)
  | (with_reducible refine Wp.notV ?_)
  | (with_reducible refine Wp.rI0_ ?_)
  | (with_reducible refine Wp.rU_ ?_)
  | ((with_reducible refine Wp.rEq_ ?k ?_); (case k => exact rfl))
  | ((with_reducible refine Wp.rNe_ ?k ?_); (case k => exact rfl))
  | (with_reducible refine Wp.gcons ?_)
  | (with_reducible refine Wp.gnil ?_)
  | ((with_reducible refine' Wp.gtup ?h ?e ?_); (case h => walk_at "sq"); (case e => exact rfl))
  | (with_reducible refine Wp.sl ?_)
  | (with_reducible refine Wp.part ?_)
  | (with_reducible refine Wp.nopart ?_)
  | (with_reducible refine Wp.ifE ?_)
  | (with_reducible refine Wp.bm0 ?_)
  | (with_reducible refine Wp.bm ?_)
  | (with_reducible refine Wp.lcR1 ?_)
  | (with_reducible refine Wp.lcR2 ?_)
  | (with_reducible refine Wp.lcL ?_)
  | (with_reducible refine Wp.chain ?_)
  | (with_reducible refine Wp.lc2V ?_)
  | (with_reducible refine Wp.piL ?_)
  | (with_reducible refine Wp.yes ?_)
  | (with_reducible refine Wp.dinI ?_)
  | (with_reducible refine Wp.dninI ?_)
  | (with_reducible refine Wp.dget ?_)
  | ((with_reducible refine' ⟨?k, ?_⟩); (case k => show L2.wipe _ _ = L2.wipe _ _; exact rfl))
  | ((with_reducible refine' ⟨?k, ?_⟩); (case k => show V.non = V.non; exact rfl))
  | (with_reducible refine Wp.forR1 ?_)
  | (with_reducible refine Wp.forR2 ?_)
  | (with_reducible refine Wp.forL ?_)
  | (with_reducible refine Wp.forT ?_)
  | ((with_reducible refine' ⟨?k, ?_⟩); (case k => exact Wp.tyvL (by walk_at "hp")))
  | ((with_reducible refine' Wp.rev_ ?k ?_); (case k => walk_at "hp"))
  | ((with_reducible refine' Wp.isi ?k ?h ?_); (case k => walk_at "kind"); (case h => decide))
  | ((with_reducible refine' Wp.typ ?k ?_); (case k => walk_at "kind"))
  | (with_reducible refine Wp.slS ?k ?_; (case k => assumption))
  | (with_reducible refine iteT ?_)
  | (with_reducible refine iteF ?_)
  | (with_reducible refine Wtc.dcL ?_)
  | (with_reducible refine Wst.step ?_)
  | (with_reducible refine Wtc.dget2 ?_)
  | (with_reducible refine Wtc.lcZ ?_)
  | (with_reducible refine Wrw.loop_setLc ?_)
  | (with_reducible refine Wz.par ?_)
  | (with_reducible refine Wz.forN ?_)
  | (with_reducible refine Wz.dcL ?_)
  | (with_reducible refine Wz.forZ ?_)
  | (with_reducible refine Wz.lcR3 ?_)
  | (with_reducible refine Wc.revL ?_)
  | (with_reducible refine Wd.nm ?_)
  | (with_reducible refine Wd.nget ?_)
  | ((with_reducible refine Wd.tnew ?_); intro p hp)
  | (with_reducible refine Wd.pikn ?_)
  | (with_reducible refine Wt.m1 ?_)
  | (with_reducible refine Wt.m0 ?_)
  | ((with_reducible refine' ⟨?k, ?_⟩); (case k => show ∃ a, _ = V.str a; exact ⟨_, rfl⟩))
  | (with_reducible refine Wt.js_cons ?_)
  | (with_reducible refine Wt.fmt_ ?_)
  | (with_reducible refine Wp.pcons ?_)
  | (with_reducible refine Wp.pnil ?_)
  | ((with_reducible refine' Wp.iteBnT ?h ?_); (case h => show isB _ _ = false; decide))
  | ((with_reducible refine' Wp.iteBnF ?h ?_); (case h => show isB _ _ = true; decide))
  | ((with_reducible refine' Wp.iteBt ?h ?_); (case h => show isB _ _ = true; decide))
  | ((with_reducible refine' Wp.iteBf ?h ?_); (case h => show isB _ _ = false; decide))
  | (with_reducible refine Wp.iteT' ?_)
  | (with_reducible refine Wp.iteF' ?_)
  | (with_reducible refine Wp.rNT_ ?_)
  | ((with_reducible refine Wp.lst ?_))
  | ((with_reducible refine Wp.tup ?_))
  | ((with_reducible refine' Wp.ixL ?h ?e ?_); (case h => walk_at "sq"); (case e => exact rfl))
  | ((with_reducible refine' Wp.ixT ?h ?e ?_); (case h => walk_at "sq"); (case e => exact rfl))
  | ((with_reducible refine' Wp.setL ?h ?e ?_); (case h => walk_at "hp"); (case e => exact rfl))
  | ((with_reducible refine Wp.rI_ ?k ?_); (case k => first | (show (0:Int) < _; omega) | (show CPow _ _; refine' ⟨?_, ?_, ?_⟩ <;> omega) | (show CDiv _ _; refine' ⟨?_, ?_⟩ <;> omega) | (show CMul _ _; refine' Or.inl ⟨?_, ?_⟩ <;> omega) | (show CMul _ _; refine' Or.inr ⟨?_, ?_⟩ <;> first | omega | decide) | (show CDivW _ _; refine' wide_div (b := 240) ?_ ?_ ?_ ?_ <;> first | omega | decide)))
  | ((with_reducible refine ⟨?k, ?_⟩); (case k => first | exact Nat.zero_le _ | (exact Nat.le_of_ble_eq_true rfl)); intro p hp)
  | ((with_reducible refine' ⟨_, _, rfl, .inl ?k, ?_⟩); (case k => walk_at "sq"))
  | ((with_reducible refine' ⟨_, _, rfl, .inr ?k, ?_⟩); (case k => walk_at "sq"))
  | (with_reducible refine ⟨_, rfl, ?_⟩)
  | (with_reducible refine ⟨_, _, rfl, rfl, ?_⟩)
  | (with_reducible refine ⟨_, _, rfl, ?_⟩))
local macro_rules | `(tactic| walk_at "wp") => `(tactic| repeat (walk_at "w1"))

local macro_rules | `(tactic| walk_at "pf") => `(tactic| first
  | (with_reducible exact Wcl.pf0)
  | (with_reducible exact Wcl.pf1)
  | ((with_reducible refine' Wcl.pf2 ?n ?h); (case n => decide +kernel); (case h => walk_at "pf")))
local macro_rules | `(tactic| walk_at "w1") => `(tactic| first
  | (with_reducible refine Wcl.fld_ ?_)
  | (with_reducible refine Wrs.rev_ ?_)
  | (with_reducible refine Wcl.sfld_ ?_)
  | (with_reducible refine Wcl.meth_ ?_)
  | (with_reducible refine Wcl.make_ ?_)
  | (with_reducible refine Wcl.dcZ ?_)
  | (with_reducible refine Wcl.ddelT_ ?_)
  | (with_reducible refine Wcl.daug_ ?_)
  | (with_reducible refine Wcl.dpop1_ ?_)
  | ((with_reducible refine Wcl.dnewT_ ?_); intro p hp)
  | ((with_reducible refine Wcl.dnewK_ ?_); intro p hp)
  | ((with_reducible refine' Wcl.fldR ?h ?c ?n ?e ?_); (case h => walk_at "hp"); (case c => assumption); (case n => assumption); (case e => exact rfl))
  | ((with_reducible refine' Wcl.sfldR ?h ?c ?n ?l ?e ?_); (case h => walk_at "hp"); (case c => assumption); (case n => assumption); (case l => exact Nat.le_of_ble_eq_true rfl); (case e => walk_at "pf"))
  | ((with_reducible refine' Wcl.methR ?h ?l ?_); (case h => walk_at "hp"); (case l => exact rfl)))

section
variable {P : Program} {w : World} {K : PySem.W.Frag} {mg : Str → Option Value} {base : Heap}
theorem strs_dp {H : Hp} : ∀ ns : List Str, DpAll K H (ns.map V.str) (ns.map PyData.str)
  | [] => .nil
  | _ :: ns => .cons (.str _) (strs_dp ns)
theorem strs_lay : ∀ ns : List Str, (∀ x ∈ ns, PyData.strOk x = true) → PyData.canLayAll0 (ns.map PyData.str) = true
  | [], _ => by simp [PyData.canLayAll0]
  | n :: ns, h => by
    rw [List.map_cons]
    simp only [PyData.canLayAll0, PyData.canLay0]
    rw [strs_lay ns fun x hx => h x (List.mem_cons_of_mem _ hx), h n List.mem_cons_self] <;> rfl
theorem strs_depth : ∀ ns : List Str, PyData.depthAll (ns.map PyData.str) = 0
  | [] => by simp [PyData.depthAll]
  | n :: ns => by
    rw [List.map_cons]
    simp only [PyData.depthAll, PyData.depth]
    rw [strs_depth ns] <;> rfl
theorem strs_shaped {ns : List Str} (h : ∀ x ∈ ns, Wu.Low x) : SeqAt.shaped (.list (ns.map PyData.str)) = true := by
  have h2 := strs_depth ns
  have h3 : (PyData.list (ns.map PyData.str)).depth ≤ 64 := by
    simp only [PyData.depth]
    omega
  show (PyData.canLay0 (.list (ns.map PyData.str)) && decide ((PyData.list (ns.map PyData.str)).depth ≤ 64)) = true
  rw [decide_eq_true h3, Bool.and_true]
  simp only [PyData.canLay0]
  exact strs_lay ns fun x hx => Wu.low_ok (h x hx)
def spLookedP (T : Txt P w K mg) : Sp := fun vs H Q _ => ∃ (b h d nl : Addr) (H0 : Hp) (nms : List Str) (n : Nat), vs = [.ref b, .ref h, .ref d] ∧ GI T H0 [b] h d nl nms n H ∧ n < 800000 ∧ ∀ H', GI T H0 [b] h d nl nms (n + 2) H' → Q (.bl true) H'
theorem ok_looked (T : Txt P w K mg) : FnOk P w K mg base CX0 13 T.f_looked T.fd_looked ["bag", "house", "has"] (spLookedP T) := by
  have G_draw := ok_draw (base := base) T
  have G_same := ok_same (base := base) T
  have G_Copies_pegged := ok_Copies_pegged (base := base) T (cC T) (N_check_peg T)
  have G_Copies_pegs := ok_Copies_pegs (base := base) T (I := WP T) (cC T)
  refine T.F_looked.ok sc_looked (fun vs H Q E h => ?_) (fun cdv A outer s H vs Q E hr h => ?_)
  · obtain ⟨b, h, d, nl, H0, nms, n, rfl, _⟩ := h
    rfl
  · obtain ⟨b, h, d, nl, H0, nms, n, rfl, x, hn, q⟩ := h
    refine ⟨_, (pss_cons (ps_set (i := 3) sc_looked.nd rfl (.inl rfl) (pe_call G_draw (hr.mono (by decide)) (by rfl) T.g_draw T.F_draw.kp T.b_draw .nil pass0 (pa_cons (pv 0) (pa_cons pe_int pa_nil))))
      (pss_cons (ps_set (i := 4) sc_looked.nd rfl (.inl rfl) (pe_callB (call_sortedD rfl) (by rfl) T.n_sorted (by decide +kernel) (pa_cons (pv 2) pa_nil)))
      (C8.pss_cut (ps_if (pt_cmpR op_eq (pv 3) pe_int (nomark _)) (pss_one (ps_set (i := 4) sc_looked.nd rfl (.inl rfl) (pe_revL (pv 4)))) pss_nil)
      (pss_cons (ps_for PassesOwn.never rfl (pi_list (pv 4)) (pg_name (i := 5) sc_looked.nd rfl (.inl rfl)) (pss_one (ps_if (pt_not (pt_val (pe_call G_same (hr.mono (by decide)) (by rfl) T.g_same T.F_same.kp T.b_same .nil pass0 (pa_cons (pe_meth (pv 1) T.cl_Copies T.m_Copies_pegged G_Copies_pegged (hr.mono (by decide)) T.b_Copies_pegged .nil pass0 (pa_cons (pv 5) pa_nil)) (pa_cons (pe_dget (hu_of hr) (pv 2) (pv 5) (fun _ _ => rfl)) pa_nil))))) (pss_one (ps_ret pe_bl)) pss_nil)))
      (pss_cons (ps_set (i := 6) sc_looked.nd rfl (.inl rfl) (pe_meth0 (pv 1) T.cl_Copies T.m_Copies_pegs G_Copies_pegs (hr.mono (by decide)) T.b_Copies_pegs .nil pass0))
      (pss_cons (ps_if (PW.pt (pw_or (pt_not (pt_val (pe_callB call_isi (by rfl) T.n_isinstance (by decide +kernel) (pa_cons (pv 6) (pa_cons (pe_bltn (v := .ty "list") (by rfl) T.n_list (by decide +kernel) rfl) pa_nil))))) (pw_or1 (pt_cmpR (op_neD hr.units) (pv 6) (pe_callB (call_sortedD rfl) (by rfl) T.n_sorted (by decide +kernel) (pa_cons (pv 2) pa_nil)) (nomark _))))) (pss_one (ps_ret pe_bl)) pss_nil)
      (pss_cons (ps_expr (pe_bm PySem.F.plainAttrs_list PySem.F.slot_list_append PySem.F.type_list_append mt_append (pv 6) (pa_cons pe_str pa_nil)))
      (pss_one (ps_ret (pe_cmpR (op_eqD hr.units) (pe_meth0 (pv 1) T.cl_Copies T.m_Copies_pegs G_Copies_pegs (hr.mono (by decide)) T.b_Copies_pegs .nil pass0) (pe_callB (call_sortedD rfl) (by rfl) T.n_sorted (by decide +kernel) (pa_cons (pv 2) pa_nil)) (nomark _))))))))))), ?_⟩
    rw [show L2.start ["bag", "house", "has", "first", "some", "name", "found"] [.ref b, .ref h, .ref d] = [some (.ref b), some (.ref h), some (.ref d), none, none, none, none] from rfl]
    try dsimp only [cxOf]
    have hb0 : Bag H b n := by
      obtain ⟨_, _, _, M, _⟩ := x
      exact M.hb b (by simp)
    walk_at "wp"
    refine ⟨b, n, _, rfl, hb0, by omega, by omega, by omega, fun first H1 f0 f1 hb1 k1 => ?_⟩
    have x1 := x.bag hb1 k1
    clear hb0 x hb1 k1
    obtain ⟨S, ps, X, M, N, pk, pw⟩ := id x1
    obtain ⟨kvs, hd, pd⟩ := M.hd
    have l6 := few X N pk
    have ky : kvs.map (·.1) = (ps.map (·.1)).map Sum.inr := by rw [kv_keys pv_key pd, List.map_map]; rfl
    have pl : (ps.map (·.1)).length < 64 := by rw [List.length_map]; omega
    have low : ∀ x ∈ ps.map (·.1), Wu.Low x := fun x hx => by
      obtain ⟨p, hp, rfl⟩ := List.mem_map.mp hx
      exact ((House_ok X).pegN p hp).1.1
    walk_at "wp"
    refine ⟨d, kvs, ps.map (·.1), rfl, .inl hd, ky, pl, fun ys l py sy hl => ?_⟩
    have s2 := same_new (o := .lst (ys.map V.str)) hl
    have l2 : upd H1 l (.lst (ys.map V.str)) l = some (.lst (ys.map V.str)) := upd_same
    generalize upd H1 l (.lst (ys.map V.str)) = H2 at s2 l2 ⊢
    have lowy : ∀ x ∈ ys, Wu.Low x := fun x hx => low x (py.mem_iff.mp hx)
    have yl : ys.length = ps.length := by rw [py.length_eq, List.length_map]
    walk_at "wp"
    refine Wp.cut (fun σ' H' => ∃ (l' : Addr) (zs : List Str), σ' = [some (.ref b), some (.ref h), some (.ref d), some (.int first), some (.ref l'), none, none] ∧ Same H1 H' ∧ H' l' = some (.lst (zs.map V.str)) ∧ ∀ z ∈ zs, z ∈ ps.map (·.1)) ?_ ?_
    · walk_at "wp"
      refine ite_ (fun c1 => ?_) (fun c1 => ?_)
      · walk_at "wp"
        refine ⟨l, _, rfl, SqL.of l2, fun r hr => ?_⟩
        rw [← List.map_reverse]
        exact ⟨r, ys.reverse, rfl, s2.trans (same_new hr), upd_same, fun z hz => py.mem_iff.mp (List.mem_reverse.mp hz)⟩
      · walk_at "wp"
        exact ⟨l, ys, rfl, s2, l2, fun z hz => py.mem_iff.mp hz⟩
    clear l2 s2 hl
    rintro σ' H3 ⟨l', zs, rfl, s3, l3, zk⟩
    walk_at "wp"
    refine ⟨⟨_, SqL.of l3⟩, ?_⟩
    refine loopL (xs := zs.map V.str) (fun i σ' H' => ∃ y, σ' = [some (.ref b), some (.ref h), some (.ref d), some (.int first), some (.ref l'), y, none] ∧ Same H3 H') ⟨none, rfl, Same.refl _⟩ ?_ ?_ ?_
    · rintro i σ' H4 _ ⟨y, rfl, s4⟩
      exact SqL.of (s4 _ _ l3)
    · rintro i v σ' H4 hv ⟨y, rfl, s4⟩
      obtain ⟨nm, hnm, rfl⟩ : ∃ nm, nm ∈ zs ∧ v = .str nm := by
        rw [List.getElem?_map] at hv
        obtain ⟨z, hz, e⟩ := Option.map_eq_some_iff.mp hv
        exact ⟨z, List.mem_of_getElem? hz, e.symm⟩
      obtain ⟨p, hp, rfl⟩ := List.mem_map.mp (zk nm hnm)
      have s14 := s3.trans s4
      have X4 := House_same X s14
      obtain ⟨A4, hh4⟩ := House_hh X4
      obtain ⟨u, hu, fu⟩ := kv_at (k := Sum.inr p.1) pv_key pd (nd_kN (House_ok X).pegU) hp rfl
      walk_at "wp"
      refine ⟨S, h, picP ps, p, rfl, X4, hp, fun v' H5 s5 wv => ?_⟩
      have s15 := s14.trans s5
      have gk := DGet.k (k := Sum.inr p.1) (s15 _ _ hd)
      rw [hu] at gk
      walk_at "wp"
      refine ⟨d, _, rfl, gk, ?_⟩
      walk_at "wp"
      refine ⟨v', u, p.2, rfl, wv, fu.2.keep (Same.tk s15), (pw p hp).ok, ?_⟩
      walk_at "wp"
      exact s4.trans s5
    · rintro σ' H4 ⟨y, rfl, s4⟩
      have s14 := s3.trans s4
      have X4 := House_same X s14
      obtain ⟨A4, hh4⟩ := House_hh X4
      walk_at "wp"
      refine ⟨S, h, picP ps, rfl, X4, (by show ps.length < 64; omega), fun f us pu su hf => ?_⟩
      have eu : us = ys := Wss.sorted_uniq (pu.trans py.symm) su sy
      subst eu
      have s5 := same_new (o := .lst (us.map V.str)) hf
      have f5 : upd H4 f (.lst (us.map V.str)) f = some (.lst (us.map V.str)) := upd_same
      generalize upd H4 f (.lst (us.map V.str)) = H5 at s5 f5 ⊢
      have s15 := s14.trans s5
      walk_at "wp"
      refine ⟨d, kvs, ps.map (·.1), rfl, .inl (s15 _ _ hd), ky, pl, fun vs g pv sv hg => ?_⟩
      have ev : vs = us := Wss.sorted_uniq (pv.trans py.symm) sv sy
      subst ev
      have s6 := same_new (o := .lst (vs.map V.str)) hg
      have g6 : upd H5 g (.lst (vs.map V.str)) g = some (.lst (vs.map V.str)) := upd_same
      generalize upd H5 g (.lst (vs.map V.str)) = H6 at s6 g6 ⊢
      have f6 := s6 _ _ f5
      refine neD (d := .list (vs.map PyData.str)) (.lst (SqL.of f6) (strs_dp _)) (.lst (SqL.of g6) (strs_dp _)) (strs_shaped lowy) (Wq.eq_self (strs_shaped lowy)) ?_
      walk_at "wp"
      refine app_ f6 (by rw [List.length_map]; exact Wb.small (by omega)) ?_
      have s17 : Same H1 (upd H6 f (.lst (vs.map V.str ++ [.str (Str.ofString "a")]))) := fun a o e => by
        rw [upd_ne (fun q => by rw [q] at e; rw [s14 _ _ e] at hf; cases hf)]
        exact s6 _ _ (s15 _ _ e)
      generalize upd H6 f (.lst (vs.map V.str ++ [.str (Str.ofString "a")])) = H7 at s17 ⊢
      have X7 := House_same X s17
      obtain ⟨A7, hh7⟩ := House_hh X7
      walk_at "wp"
      refine ⟨S, h, picP ps, rfl, X7, (by show ps.length < 64; omega), fun f2 us2 pu2 su2 hf2 => ?_⟩
      have eu2 : us2 = vs := Wss.sorted_uniq (pu2.trans py.symm) su2 sy
      subst eu2
      have s8 := same_new (o := .lst (us2.map V.str)) hf2
      have f8 : upd H7 f2 (.lst (us2.map V.str)) f2 = some (.lst (us2.map V.str)) := upd_same
      generalize upd H7 f2 (.lst (us2.map V.str)) = H8 at s8 f8 ⊢
      have s18 := s17.trans s8
      walk_at "wp"
      refine ⟨d, kvs, ps.map (·.1), rfl, .inl (s18 _ _ hd), ky, pl, fun vs3 g3 pv3 sv3 hg3 => ?_⟩
      have ev3 : vs3 = us2 := Wss.sorted_uniq (pv3.trans py.symm) sv3 sy
      subst ev3
      have s9 := same_new (o := .lst (vs3.map V.str)) hg3
      refine eqD (d := .list (vs3.map PyData.str)) (.lst (SqL.of (s9 _ _ f8)) (strs_dp _)) (.lst (SqL.of upd_same) (strs_dp _)) (strs_shaped lowy) (Wq.eq_self (strs_shaped lowy)) ?_
      exact q _ ((x1.same (s18.trans s9)).mono (by omega))

end
end K28

namespace K28
open PySem PySem.Spec PyProof.Rows L2 Wp Wq Wr Wpm Wth Wta Wpi Whs
local macro_rules | `(tactic| walk_at "ne") => `(tactic| first
  | assumption
  | (refine Ne.symm ?_; assumption)
  | exact ne_of_none (by assumption) (by assumption)
  | exact (ne_of_none (by assumption) (by assumption)).symm
  | exact ne_of (by assumption) (by assumption) (by intro q; cases q))
local macro_rules | `(tactic| walk_at "hp") => `(tactic| first
  | assumption
  | exact upd_same
  | (refine (upd_ne ?_).trans ?_; (walk_at "ne"); (walk_at "hp")))
local macro_rules | `(tactic| walk_at "hq") => `(tactic| first
  | assumption
  | exact upd_same
  | (refine same_new (by assumption) _ _ ?_; (walk_at "hq"))
  | (refine Wp.look (by assumption) ?_; (walk_at "hq")))
local macro_rules | `(tactic| walk_at "sm") => `(tactic| first
  | assumption
  | exact fun _ _ h => h
  | exact same_new (by assumption)
  | (refine Same.trans ?_ (same_new (by assumption)); (walk_at "sm"))
  | (refine Same.trans ?_ (by assumption); (walk_at "sm")))
local macro_rules | `(tactic| walk_at "kp") => `(tactic| first
  | assumption
  | exact Kp.refl _ _
  | (refine Kp.trans ?_ (Kp.new (by assumption)); (walk_at "kp"))
  | (refine Kp.trans ?_ (Same.kp (by assumption)); (walk_at "kp"))
  | (refine Wp.kpT ?_ (by assumption); (walk_at "kp"))
  | exact Same.kp (by walk_at "sm"))
local macro_rules | `(tactic| walk_at "sq") => `(tactic| first
  | assumption
  | exact SqL.of (by walk_at "hp")
  | exact SqT.of (by walk_at "hp"))
local macro_rules | `(tactic| walk_at "kind") => `(tactic| first
  | assumption
  | exact Kind.int _
  | exact Kind.str _
  | exact Kind.bl _
  | exact Kind.non
  | exact Kind.tup (by walk_at "hp")
  | exact Kind.lst (by walk_at "hp")
  | exact Kind.dK (by walk_at "hp"))
local macro_rules | `(tactic| walk_at "w1") => `(tactic| first
  | (with_reducible refine Wp.seq ?_)
  | (with_reducible refine Wp.nx_mk ?_)
  | (with_reducible refine Wp.rt_mk ?_)
  | (with_reducible refine Wp.bk_mk ?_)
  | (with_reducible refine Wp.ct_mk ?_)
  | (with_reducible refine Wp.next ?_)
  | (with_reducible refine Wp.asg ?_)
  | ((with_reducible refine' Wp.gname ?e ?_); (case e => (try dsimp only [List.set, L2.wipe, List.map_cons, List.map_nil]); (try exact rfl)))
  | (with_reducible refine Wp.gsub ?_)
  | (with_reducible refine Wp.ret ?_)
  | (with_reducible refine Wp.retN ?_)
  | (with_reducible refine Wp.drop ?_)
  | (with_reducible refine Wp.dput ?_)
  | (with_reducible refine Wp.ifs ?_)
  | ((with_reducible refine' Wp.var ?h ?_); (case h => exact rfl))
  | (with_reducible refine Wp.con ?_)
  | (with_reducible refine Wp.op ?_)
  | (with_reducible refine Wp.un ?_)
  | (with_reducible refine Wp.cb ?_)
  | (with_reducible refine Wp.anil ?_)
  | (with_reducible refine Wp.acons ?_)
  | (with_reducible refine Wp.call ?_)
  | (with_reducible refine Wp.test ?_)
  | (with_reducible refine Wp.tb_ ?_)
  | (with_reducible refine Wp.and_ ?_)
  | (with_reducible refine Wp.or_ ?_)
  | (with_reducible refine Wp.not_ ?_)
  | (with_reducible refine Wp.andV ?_)
  | (with_reducible refine Wp.orV ?_)
  | (with_reducible refine Wp.notV ?_)
  | (with_reducible refine Wp.rI0_ ?_)
  | (with_reducible refine Wp.rU_ ?_)
  | ((with_reducible refine Wp.rEq_ ?k ?_); (case k => exact rfl))
  | ((with_reducible refine Wp.rNe_ ?k ?_); (case k => exact rfl))
  | (with_reducible refine Wp.gcons ?_)
  | (with_reducible refine Wp.gnil ?_)
  | ((with_reducible refine' Wp.gtup ?h ?e ?_); (case h => walk_at "sq"); (case e => exact rfl))
  | (with_reducible refine Wp.sl ?_)
  | (with_reducible refine Wp.part ?_)
  | (with_reducible refine Wp.nopart ?_)
  | (with_reducible refine Wp.ifE ?_)
  | (with_reducible refine Wp.bm0 ?_)
  | (with_reducible refine Wp.bm ?_)
  | (with_reducible refine Wp.lcR1 ?_)
  | (with_reducible refine Wp.lcR2 ?_)
  | (with_reducible refine Wp.lcL ?_)
  | (with_reducible refine Wp.chain ?_)
  | (with_reducible refine Wp.lc2V ?_)
  | (with_reducible refine Wp.piL ?_)
  | (with_reducible refine Wp.yes ?_)
  | (with_reducible refine Wp.dinI ?_)
  | (with_reducible refine Wp.dninI ?_)
  | (with_reducible refine Wp.dget ?_)
  | ((with_reducible refine' ⟨?k, ?_⟩); (case k => show L2.wipe _ _ = L2.wipe _ _; exact rfl))
  | ((with_reducible refine' ⟨?k, ?_⟩); (case k => show V.non = V.non; exact rfl))
  | (with_reducible refine Wp.forR1 ?_)
  | (with_reducible refine Wp.forR2 ?_)
  | (with_reducible refine Wp.forL ?_)
  | (with_reducible refine Wp.forT ?_)
  | ((with_reducible refine' ⟨?k, ?_⟩); (case k => exact Wp.tyvL (by walk_at "hp")))
  | ((with_reducible refine' Wp.rev_ ?k ?_); (case k => walk_at "hp"))
  | ((with_reducible refine' Wp.isi ?k ?h ?_); (case k => walk_at "kind"); (case h => decide))
  | ((with_reducible refine' Wp.typ ?k ?_); (case k => walk_at "kind"))
  | (with_reducible refine Wp.slS ?k ?_; (case k => assumption))
  | (with_reducible refine iteT ?_)
  | (with_reducible refine iteF ?_)
  | (with_reducible refine Wtc.dcL ?_)
  | (with_reducible refine Wst.step ?_)
  | (with_reducible refine Wtc.dget2 ?_)
  | (with_reducible refine Wtc.lcZ ?_)
  | (with_reducible refine Wrw.loop_setLc ?_)
  | (with_reducible refine Wz.par ?_)
  | (with_reducible refine Wz.forN ?_)
  | (with_reducible refine Wz.dcL ?_)
  | (with_reducible refine Wz.forZ ?_)
  | (with_reducible refine Wz.lcR3 ?_)
  | (with_reducible refine Wc.revL ?_)
  | (with_reducible refine Wd.nm ?_)
  | (with_reducible refine Wd.nget ?_)
  | ((with_reducible refine Wd.tnew ?_); intro p hp)
  | (with_reducible refine Wd.pikn ?_)
  | (with_reducible refine Wt.m1 ?_)
  | (with_reducible refine Wt.m0 ?_)
  | ((with_reducible refine' ⟨?k, ?_⟩); (case k => show ∃ a, _ = V.str a; exact ⟨_, rfl⟩))
  | (with_reducible refine Wt.js_cons ?_)
  | (with_reducible refine Wt.fmt_ ?_)
  | (with_reducible refine Wp.pcons ?_)
  | (with_reducible refine Wp.pnil ?_)
  | ((with_reducible refine' Wp.iteBnT ?h ?_); (case h => show isB _ _ = false; decide))
  | ((with_reducible refine' Wp.iteBnF ?h ?_); (case h => show isB _ _ = true; decide))
  | ((with_reducible refine' Wp.iteBt ?h ?_); (case h => show isB _ _ = true; decide))
  | ((with_reducible refine' Wp.iteBf ?h ?_); (case h => show isB _ _ = false; decide))
  | (with_reducible refine Wp.iteT' ?_)
  | (with_reducible refine Wp.iteF' ?_)
  | (with_reducible refine Wp.rNT_ ?_)
  | ((with_reducible refine Wp.lst ?_))
  | ((with_reducible refine Wp.tup ?_))
  | ((with_reducible refine' Wp.ixL ?h ?e ?_); (case h => walk_at "sq"); (case e => exact rfl))
  | ((with_reducible refine' Wp.ixT ?h ?e ?_); (case h => walk_at "sq"); (case e => exact rfl))
  | ((with_reducible refine' Wp.setL ?h ?e ?_); (case h => walk_at "hp"); (case e => exact rfl))
  | ((with_reducible refine Wp.rI_ ?k ?_); (case k => first | (show (0:Int) < _; omega) | (show CPow _ _; refine' ⟨?_, ?_, ?_⟩ <;> omega) | (show CDiv _ _; refine' ⟨?_, ?_⟩ <;> omega) | (show CMul _ _; refine' Or.inl ⟨?_, ?_⟩ <;> omega) | (show CMul _ _; refine' Or.inr ⟨?_, ?_⟩ <;> first | omega | decide) | (show CDivW _ _; refine' wide_div (b := 240) ?_ ?_ ?_ ?_ <;> first | omega | decide)))
  | ((with_reducible refine ⟨?k, ?_⟩); (case k => first | exact Nat.zero_le _ | (exact Nat.le_of_ble_eq_true rfl)); intro p hp)
  | ((with_reducible refine' ⟨_, _, rfl, .inl ?k, ?_⟩); (case k => walk_at "sq"))
  | ((with_reducible refine' ⟨_, _, rfl, .inr ?k, ?_⟩); (case k => walk_at "sq"))
  | (with_reducible refine ⟨_, rfl, ?_⟩)
  | (with_reducible refine ⟨_, _, rfl, rfl, ?_⟩)
  | (with_reducible refine ⟨_, _, rfl, ?_⟩))
local macro_rules | `(tactic| walk_at "wp") => `(tactic| repeat (walk_at "w1"))

local macro_rules | `(tactic| walk_at "pf") => `(tactic| first
  | (with_reducible exact Wcl.pf0)
  | (with_reducible exact Wcl.pf1)
  | ((with_reducible refine' Wcl.pf2 ?n ?h); (case n => decide +kernel); (case h => walk_at "pf")))
local macro_rules | `(tactic| walk_at "w1") => `(tactic| first
  | (with_reducible refine Wcl.fld_ ?_)
  | (with_reducible refine Wrs.rev_ ?_)
  | (with_reducible refine Wcl.sfld_ ?_)
  | (with_reducible refine Wcl.meth_ ?_)
  | (with_reducible refine Wcl.make_ ?_)
  | (with_reducible refine Wcl.dcZ ?_)
  | (with_reducible refine Wcl.ddelT_ ?_)
  | (with_reducible refine Wcl.daug_ ?_)
  | (with_reducible refine Wcl.dpop1_ ?_)
  | ((with_reducible refine Wcl.dnewT_ ?_); intro p hp)
  | ((with_reducible refine Wcl.dnewK_ ?_); intro p hp)
  | ((with_reducible refine' Wcl.fldR ?h ?c ?n ?e ?_); (case h => walk_at "hp"); (case c => assumption); (case n => assumption); (case e => exact rfl))
  | ((with_reducible refine' Wcl.sfldR ?h ?c ?n ?l ?e ?_); (case h => walk_at "hp"); (case c => assumption); (case n => assumption); (case l => exact Nat.le_of_ble_eq_true rfl); (case e => walk_at "pf"))
  | ((with_reducible refine' Wcl.methR ?h ?l ?_); (case h => walk_at "hp"); (case l => exact rfl)))

section
variable {P : Program} {w : World} {K : PySem.W.Frag} {mg : Str → Option Value} {base : Heap}
def spLaw (K : PySem.W.Frag) : Sp := fun vs H Q _ => ∃ (a : Addr) (ns : List Int), vs = [.ref a] ∧ SqL K H a (ns.map V.int) ∧ ns.length ≤ 63 ∧ ∀ H', Q (.bl true) H'
theorem least0 {n : Nat} (h : Least [] n) : n = 0 := by
  obtain ⟨h1, h2⟩ := h
  rcases Nat.eq_zero_or_pos n with e | e
  · exact e
  · exact nomatch h2 0 e
theorem ok_law (T : Txt P w K mg) : FnOk P w K mg base CX0 18 T.f_law T.fd_law ["script"] (spLaw K) := by
  have G_cell_at := ok_cell_at (base := base) T
  have G_bag := ok_bag (base := base) T
  have G_names := ok_names (base := base) T
  have G_same := ok_same (base := base) T
  have G_same_pile := ok_same_pile (base := base) T
  have G_deed := ok_deed (base := base) T
  have G_looked := ok_looked (base := base) T
  have G_Copies_put := ok_Copies_put (base := base) T (cC T) (N_check_worth T) (M_put T)
  have G_Copies_box := ok_Copies_box (base := base) T (cC T) (M_height T) (M_take T) (M_put T)
  have G_Copies_keep := ok_Copies_keep (base := base) T (cC T) (M_keep T) (M_put T)
  have G_Copies_pegs := ok_Copies_pegs (base := base) T (I := WP T) (cC T)
  have G_Copies_pile := ok_Copies_pile (base := base) T (cC T) (M_pile T)
  have G_Copies_held := ok_Copies_held (base := base) T (cC T) (N_check_box T)
  have G_Copies_init := ok_Copies_init (base := base) T (cC T) (N_begin T)
  refine T.F_law.ok sc_law (fun vs H Q E h => ?_) (fun cdv A outer s H vs Q E hr h => ?_)
  · obtain ⟨a, ns, rfl, _⟩ := h
    rfl
  · obtain ⟨a, ns, rfl, hS, hn, q⟩ := h
    refine ⟨_, (pss_cons (ps_set (i := 1) sc_law.nd rfl (.inl rfl) (pe_make0 T.mk_Copies G_Copies_init (hr.mono (by decide)) rfl T.gC_Copies T.b_Copies_init .nil pass0))
      (pss_cons (ps_expr (pe_meth (pv 1) T.cl_Copies T.m_Copies_put G_Copies_put (hr.mono (by decide)) T.b_Copies_put .nil pass0 (pa_cons (pe_tup (pa_cons pe_str (pa_cons pe_int pa_nil))) pa_nil)))
      (pss_cons (ps_expr (pe_meth0 (pv 1) T.cl_Copies T.m_Copies_box G_Copies_box (hr.mono (by decide)) T.b_Copies_box .nil pass0))
      (pss_cons (ps_expr (pe_meth (pv 1) T.cl_Copies T.m_Copies_keep G_Copies_keep (hr.mono (by decide)) T.b_Copies_keep .nil pass0 (pa_cons pe_int pa_nil)))
      (pss_cons (ps_set (i := 2) sc_law.nd rfl (.inl rfl) pe_dnewK)
      (pss_cons (ps_set (i := 3) sc_law.nd rfl (.inl rfl) (pe_call G_names (hr.mono (by decide)) (by rfl) T.g_names T.F_names.kp T.b_names .nil pass0 (pa_cons (pe_call G_bag (hr.mono (by decide)) (by rfl) T.g_bag T.F_bag.kp T.b_bag .nil pass0 (pa_cons (pe_call G_cell_at (hr.mono (by decide)) (by rfl) T.g_cell_at T.F_cell_at.kp T.b_cell_at .nil pass0 (pa_cons (pv 0) (pa_cons pe_int pa_nil))) (pa_cons pe_int pa_nil))) pa_nil)))
      (pss_cons (ps_if (pt_cmpR (op_neD hr.units) (pe_meth0 (pv 1) T.cl_Copies T.m_Copies_pegs G_Copies_pegs (hr.mono (by decide)) T.b_Copies_pegs .nil pass0) (pe_lst pa_nil) (nomark _)) (pss_one (ps_ret pe_bl)) pss_nil)
      (pss_cons (ps_for PassesOwn.never rfl (pi_range1 (by rfl) T.n_range (pa_cons (pe_callB (call_max2 rfl) (by rfl) T.n_max (by decide +kernel) (pa_cons pe_int (pa_cons (pe_callB (call_min2 rfl) (by rfl) T.n_min (by decide +kernel) (pa_cons pe_int (pa_cons (pe_callB call_len_seq (by rfl) T.n_len (by decide +kernel) (pa_cons (pv 0) pa_nil)) pa_nil))) pa_nil))) pa_nil)) (pg_name (i := 4) sc_law.nd rfl (.inl rfl)) (pss_cons (ps_set (i := 5) sc_law.nd rfl (.inl rfl) (pe_call G_bag (hr.mono (by decide)) (by rfl) T.g_bag T.F_bag.kp T.b_bag .nil pass0 (pa_cons (pe_call G_cell_at (hr.mono (by decide)) (by rfl) T.g_cell_at T.F_cell_at.kp T.b_cell_at .nil pass0 (pa_cons (pv 0) (pa_cons (pv 4) pa_nil))) (pa_cons (pv 4) pa_nil))))
      (pss_one (ps_if (PW.pt (pw_or (pt_not (pt_val (pe_call G_deed (hr.mono (by decide)) (by rfl) T.g_deed T.F_deed.kp T.b_deed .nil pass0 (pa_cons (pv 5) (pa_cons (pv 1) (pa_cons (pv 3) (pa_cons (pv 2) pa_nil))))))) (pw_or1 (pt_not (pt_val (pe_call G_looked (hr.mono (by decide)) (by rfl) T.g_looked T.F_looked.kp T.b_looked .nil pass0 (pa_cons (pv 5) (pa_cons (pv 1) (pa_cons (pv 2) pa_nil))))))))) (pss_one (ps_ret pe_bl)) pss_nil))))
      (pss_one (ps_ret (pe_and (pe_call G_same_pile (hr.mono (by decide)) (by rfl) T.g_same_pile T.F_same_pile.kp T.b_same_pile .nil pass0 (pa_cons (pe_meth0 (pv 1) T.cl_Copies T.m_Copies_pile G_Copies_pile (hr.mono (by decide)) T.b_Copies_pile .nil pass0) (pa_cons (pe_lst (pa_cons (pe_tup (pa_cons pe_str (pa_cons pe_int pa_nil))) (pa_cons (pe_tup (pa_cons pe_str (pa_cons pe_int pa_nil))) pa_nil))) pa_nil))) (pe_one (pe_call G_same (hr.mono (by decide)) (by rfl) T.g_same T.F_same.kp T.b_same .nil pass0 (pa_cons (pe_meth (pv 1) T.cl_Copies T.m_Copies_held G_Copies_held (hr.mono (by decide)) T.b_Copies_held .nil pass0 (pa_cons pe_int pa_nil)) (pa_cons (pe_tup (pa_cons pe_str (pa_cons pe_int pa_nil))) pa_nil))))))))))))))), ?_⟩
    rw [show L2.start ["script", "house", "has", "names", "k", "bag"] [.ref a] = [some (.ref a), none, none, none, none, none] from rfl]
    try dsimp only [cxOf]
    walk_at "wp"
    intro h dx nh nd nne
    have sa : Same H (upd (upd H dx (.own h)) h (.ins T.o_Copies dx [])) := (same_new nd).trans (same_new (by rw [upd_ne nne.symm]; exact nh))
    have hh : upd (upd H dx (.own h)) h (.ins T.o_Copies dx []) h = some (.ins T.o_Copies dx []) := upd_same
    generalize upd (upd H dx (.own h)) h (.ins T.o_Copies dx []) = H1 at sa hh
    refine ⟨h, dx, rfl, hh, fun S H2 X2 fS k2 => ⟨rfl, ?_⟩⟩
    have s2 : Same H H2 := fun x o e => k2.keep _ _ (by rw [List.mem_singleton]; exact fun q => by rw [q, nh] at e; cases e) (sa _ _ e)
    have fS2 : ∀ x ∈ S, H x = none := fun x m => (fS x m).elim (fun q => by rw [q]; exact nh) fun q => sa.free q
    obtain ⟨A2, hh2⟩ := House_hh X2
    have small : ∀ {D : Pic}, D.pile.length ≤ 5 → D.pegs.length ≤ 5 → D.boxes.length ≤ 5 → D.goings.length ≤ 5 → (∀ g ∈ D.goings, g.2.2.length ≤ 5) → Sz D := fun h1 h2 h3 h4 h5 => ⟨Nat.le_trans h1 (by decide), Nat.le_trans h2 (by decide), Nat.le_trans h3 (by decide), Nat.le_trans h4 (by decide), fun g hg => Nat.le_trans (h5 g hg) (by decide)⟩
    walk_at "wp"
    rename_i t1 ht1
    have X3 := House_same X2 (same_new (o := .tup [.str (Str.ofString "num"), .int 4]) ht1)
    have s3 := s2.trans (same_new (o := .tup [.str (Str.ofString "num"), .int 4]) ht1)
    refine ⟨S, h, ⟨[], [], [], []⟩, .ref t1, (Str.ofString "num", 4), rfl, X3, small (by decide) (by decide) (by decide) (by decide) (fun _ h => nomatch h), ⟨t1, rfl, upd_same⟩, .inr (.inr rfl), (fun t => by exact absurd t (by decide)), fun S4 H4 X4 mv4 => ?_⟩
    obtain ⟨A4, hh4⟩ := House_hh X4
    walk_at "wp"
    refine ⟨S4, h, _, [], (Str.ofString "num", 4), rfl, X4, small (by decide) (by decide) (by decide) (by decide) (fun _ h => nomatch h), rfl, fun S5 H5 n5 ls5 X5 mv5 => ?_⟩
    obtain rfl := least0 ls5
    obtain ⟨A5, hh5⟩ := House_hh X5
    walk_at "wp"
    refine ⟨S5, h, _, 9, rfl, X5, small (by decide) (by decide) (by decide) (by decide) (fun _ h => nomatch h), by decide, fun S6 H6 n6 ls6 X6' mv6 => ?_⟩
    obtain rfl := least0 ls6
    have X6 : Hs T S6 H6 h (picP []) := X6'
    have mv36 : Mv S _ S6 H6 := Mv.trans mv4 (Mv.trans mv5 mv6)
    have s6 : Same H H6 := same_of s3 mv36.1 fS2
    have fS6 : ∀ x ∈ S6, H x = none := fun x m => (mv36.2 x m).elim (fS2 x) fun q => s3.free q
    clear X2 X3 X4 X5 hh2 hh4 hh5 hh X6'
    walk_at "wp"
    rename_i d hd
    have s7 := same_new (o := .dK []) hd
    have d7 : upd H6 d (.dK []) d = some (.dK []) := upd_same
    generalize upd H6 d (.dK []) = H7 at s7 d7 ⊢
    have X7 := House_same X6 s7
    have s07 := s6.trans s7
    refine ⟨a, ns, 0, rfl, Same.seq s07 hS, fun cell => ?_⟩
    walk_at "wp"
    refine ⟨cell, 61, rfl, by decide, fun b0 H8 nb0 hb8 s8 => ?_⟩
    walk_at "wp"
    refine ⟨b0, rfl, hb8, fun nl nms H9 hnl n9 N9 k9 => ?_⟩
    have s9 : Same H7 H9 := fun x o e => k9 _ _ (fun q => by rw [q, nb0] at e; cases e) (s8 _ _ e)
    have X9 := House_same X7 s9
    have d9 := s9 _ _ d7
    have s09 := s07.trans s9
    have lv6 := House_live X6
    have gi : GI T H [] h d nl nms 0 H9 := by
      refine ⟨S6, [], X9, ⟨⟨[], d9, .nil⟩, n9, fun e => ?_, fun m => lv6 _ m hd, fun m => ?_, (fun q => nomatch q), (fun q => nomatch q), (fun _ q => nomatch q), (fun _ q => nomatch q), fun x m => ?_, s09⟩, N9, (fun _ h => nomatch h), fun _ h => nomatch h⟩
      · rw [← e, s8 _ _ d7] at hnl; cases hnl
      · have := House_live X7 _ m
        exact this (s8.free hnl)
      · rcases m with m | rfl | rfl | m
        · exact nomatch m
        · exact s6.free hd
        · exact s07.free (s8.free hnl)
        · exact fS6 _ m
    obtain ⟨A9, hh9⟩ := House_hh X9
    walk_at "wp"
    refine ⟨S6, h, picP [], rfl, X9, by decide, fun f us pu su hf => ?_⟩
    have eu : us = [] := List.length_eq_zero_iff.mp (by rw [pu.length_eq]; rfl)
    subst eu
    have gi2 := gi.same (same_new (o := .lst (([] : List Str).map V.str)) hf)
    have f2 : upd H9 f (.lst (([] : List Str).map V.str)) f = some (.lst []) := upd_same
    generalize upd H9 f (.lst (([] : List Str).map V.str)) = H10 at gi2 f2 ⊢
    walk_at "wp"
    rename_i e0 he0
    refine neD (d := .list []) (.lst (SqL.of (same_new he0 _ _ f2)) .nil) (.lst (SqL.of upd_same) .nil) (by decide) (by decide) ?_
    have gi3 := gi2.same (same_new (o := .lst []) he0)
    generalize upd H10 e0 (.lst []) = H11 at gi3 ⊢
    walk_at "wp"
    have sq : ∀ {n : Nat} {B : List Addr} {H' : Hp}, GI T H B h d nl nms n H' → SqL K H' a (ns.map V.int) := fun x => by
      obtain ⟨_, _, _, M, _⟩ := x
      exact Same.seq M.sm hS
    refine ⟨a, _, rfl, .inl (sq gi3), ?_⟩
    walk_at "wp"
    have cb : (0 : Int) ≤ (if (if ((ns.map V.int).length : Int) < 40 then ((ns.map V.int).length : Int) else 40) > 1 then (if ((ns.map V.int).length : Int) < 40 then ((ns.map V.int).length : Int) else 40) else 1) ∧ (if (if ((ns.map V.int).length : Int) < 40 then ((ns.map V.int).length : Int) else 40) > 1 then (if ((ns.map V.int).length : Int) < 40 then ((ns.map V.int).length : Int) else 40) else 1) ≤ 40 := by
      split <;> split <;> omega
    generalize (if (if ((ns.map V.int).length : Int) < 40 then ((ns.map V.int).length : Int) else 40) > 1 then (if ((ns.map V.int).length : Int) < 40 then ((ns.map V.int).length : Int) else 40) else 1) = cc at cb ⊢
    refine ⟨by omega, by omega, ?_⟩
    refine loopR (fun i σ' H' => ∃ y4 y5 n, σ' = [some (.ref a), some (.ref h), some (.ref d), some (.ref nl), y4, y5] ∧ GI T H [] h d nl nms n H') ⟨none, none, 0, rfl, gi3⟩ ?_ ?_
    · rintro i σ' H12 hi ⟨y4, y5, n, rfl, x12⟩
      have sq12 := sq x12
      walk_at "wp"
      refine ⟨a, ns, i, (by rw [Int.zero_add]; rfl), sq12, fun cell => ?_⟩
      walk_at "wp"
      refine ⟨cell, i, (by rw [Int.zero_add]; rfl), by omega, fun b H13 nb hb13 s13 => ?_⟩
      have x13 := x12.newbag nb s13 hb13
      walk_at "wp"
      refine ⟨b, h, d, nl, H, nms, 0, rfl, x13, by decide, fun H14 x14 => ?_⟩
      walk_at "wp"
      refine ⟨b, h, d, nl, H, nms, 0 + 30, rfl, x14, by decide, fun H15 x15 => ?_⟩
      walk_at "wp"
      exact ⟨_, _, _, rfl, x15.nobag⟩
    · rintro σ' H12 ⟨y4, y5, n, rfl, x12⟩
      obtain ⟨S12, ps, X12, M12, N12, pk, pw⟩ := id x12
      have l6 := few X12 N12 pk
      obtain ⟨A12, hh12⟩ := House_hh X12
      walk_at "wp"
      refine ⟨S12, h, picP ps, rfl, X12, szP (by omega), fun f ys H13 hf f13 p13 s13 => ?_⟩
      walk_at "wp"
      rename_i t2 ht2 t3 ht3 l3 hl3
      have s14 := same_new (o := .tup [V.str (Str.ofString "box"), V.int 0]) ht2
      have s15 := same_new (o := .tup [V.str (Str.ofString "go"), V.int 0]) ht3
      have s16 := same_new (o := .lst [V.ref t2, V.ref t3]) hl3
      have e1 : upd H13 t2 (.tup [V.str (Str.ofString "box"), V.int 0]) t2 = some (.tup [V.str (Str.ofString "box"), V.int 0]) := upd_same
      have e2 : upd (upd H13 t2 (.tup [V.str (Str.ofString "box"), V.int 0])) t3 (.tup [V.str (Str.ofString "go"), V.int 0]) t3 = some (.tup [V.str (Str.ofString "go"), V.int 0]) := upd_same
      have s1316 := s14.trans (s15.trans s16)
      have pd16 : Pile (upd (upd (upd H13 t2 (.tup [V.str (Str.ofString "box"), V.int 0])) t3 (.tup [V.str (Str.ofString "go"), V.int 0])) l3 (.lst [V.ref t2, V.ref t3])) [V.ref t2, V.ref t3] [pgS, pgT] := .cons ⟨t2, rfl, s16 _ _ (s15 _ _ e1)⟩ (.cons ⟨t3, rfl, s16 _ _ e2⟩ .nil)
      have l16 : upd (upd (upd H13 t2 (.tup [V.str (Str.ofString "box"), V.int 0])) t3 (.tup [V.str (Str.ofString "go"), V.int 0])) l3 (.lst [V.ref t2, V.ref t3]) l3 = some (.lst [V.ref t2, V.ref t3]) := upd_same
      generalize upd (upd (upd H13 t2 (.tup [V.str (Str.ofString "box"), V.int 0])) t3 (.tup [V.str (Str.ofString "go"), V.int 0])) l3 (.lst [V.ref t2, V.ref t3]) = H16 at s1316 pd16 l16 ⊢
      have X16 := House_same X12 (s13.trans s1316)
      refine ⟨f, l3, ys, _, [pgS, pgT], rfl, s1316 _ _ f13, l16, p13.keep (Same.tk s1316), pd16, (fun z hz => ?_), by decide, ?_⟩
      · simp only [List.mem_cons, List.not_mem_nil, or_false] at hz
        rcases hz with rfl | rfl
        · exact PgW.ok (.inr (.inl rfl))
        · exact PgW.ok (.inr (.inr rfl))
      obtain ⟨A16, hh16⟩ := House_hh X16
      walk_at "wp"
      refine ⟨S12, h, picP ps, (0, (Str.ofString "num", 4)), rfl, X16, List.mem_singleton.mpr rfl, fun v wv => ?_⟩
      walk_at "wp"
      rename_i t4 ht4
      refine ⟨v, .ref t4, (Str.ofString "num", 4), rfl, wv.keep (Tk.new ht4), ⟨t4, rfl, upd_same⟩, PlainW.ok (.inl rfl), ?_⟩
      exact q _

end
end K28

namespace K28
open PySem PySem.Spec PyProof.Rows L2 Wp
theorem signs_in {K : PySem.W.Frag} {d : Addr} {es : Array DictEntry} {n : Nat} (hl : K.lookup d = some ⟨.type "dict", none, .dict es n, #[]⟩) (hk : keysAre es.toList [("num", .str ""), ("at", .str "@"), ("box", .str "b"), ("go", .str "g")]) (z : Str) :
    ∃ r, PySem.W.nsIn K d z = some r ∧ r.isSome = (decide (z = "num") || decide (z = "at") || decide (z = "box") || decide (z = "go")) := by
  have hs : (seek z [("num", .str ""), ("at", .str "@"), ("box", .str "b"), ("go", .str "g")]).isSome = (decide (z = "num") || decide (z = "at") || decide (z = "box") || decide (z = "go")) := by
    unfold seek seek seek seek seek
    by_cases c1 : (Str.ofString "num") = z
    · rw [if_pos c1, decide_eq_true c1.symm] <;> rfl
    rw [if_neg c1, decide_eq_false (fun h => c1 h.symm), Bool.false_or]
    by_cases c2 : (Str.ofString "at") = z
    · rw [if_pos c2, decide_eq_true c2.symm] <;> rfl
    rw [if_neg c2, decide_eq_false (fun h => c2 h.symm), Bool.false_or]
    by_cases c3 : (Str.ofString "box") = z
    · rw [if_pos c3, decide_eq_true c3.symm] <;> rfl
    rw [if_neg c3, decide_eq_false (fun h => c3 h.symm), Bool.false_or]
    by_cases c4 : (Str.ofString "go") = z
    · rw [if_pos c4, decide_eq_true c4.symm] <;> rfl
    rw [if_neg c4, decide_eq_false (fun h => c4 h.symm)] <;> rfl
  rcases ns_seek hl hk z with ⟨v, u, e1, e2, _⟩ | ⟨e1, e2⟩
  · rw [e1] at hs
    exact ⟨_, e2, hs⟩
  · rw [e1] at hs
    exact ⟨_, e2, hs⟩

/-! ### what the top has written; the law's own head -/
theorem all_mk {l : PySem.W.OpenLaw} {w : World} {K : PySem.W.Frag} {h : Heap} {mg : Str → Option Value} {fa : Addr} (X : K.In h) (G : h.Ns mainGlobals mg) (hfa : mg "law" = some (.ref fa))
    {O_Tally : Addr} (aC_Tally : PySem.W.nsIn K mainGlobals "Tally" = some (some (.ref O_Tally))) (pg_Tally : PySem.W.plainGet K O_Tally Str.empty = true) (hd_Tally : PySem.W.hasDictIn K O_Tally = true) (po_Tally : PySem.W.plainOver K O_Tally = true) (sa_Tally : PySem.W.findIn K (.ref O_Tally) "__setattr__" = some (some (.builtin "object.__setattr__"))) (mk_Tally : PySem.W.makesIn K O_Tally = true) (kc_Tally : PySem.W.keepIn K (.ref O_Tally) = true)
    (nf_Tally_loose : PySem.W.findIn K (.ref O_Tally) "loose" = some none) (nf_Tally_places : PySem.W.findIn K (.ref O_Tally) "places" = some none)
    {O_WholePiles : Addr} (aC_WholePiles : PySem.W.nsIn K mainGlobals "WholePiles" = some (some (.ref O_WholePiles))) (pg_WholePiles : PySem.W.plainGet K O_WholePiles Str.empty = true) (hd_WholePiles : PySem.W.hasDictIn K O_WholePiles = true) (po_WholePiles : PySem.W.plainOver K O_WholePiles = true) (sa_WholePiles : PySem.W.findIn K (.ref O_WholePiles) "__setattr__" = some (some (.builtin "object.__setattr__"))) (mk_WholePiles : PySem.W.makesIn K O_WholePiles = true) (kc_WholePiles : PySem.W.keepIn K (.ref O_WholePiles) = true)
    (nf_WholePiles_tally : PySem.W.findIn K (.ref O_WholePiles) "tally" = some none) (nf_WholePiles_worths : PySem.W.findIn K (.ref O_WholePiles) "worths" = some none)
    {O_Copies : Addr} (aC_Copies : PySem.W.nsIn K mainGlobals "Copies" = some (some (.ref O_Copies))) (pg_Copies : PySem.W.plainGet K O_Copies Str.empty = true) (hd_Copies : PySem.W.hasDictIn K O_Copies = true) (po_Copies : PySem.W.plainOver K O_Copies = true) (sa_Copies : PySem.W.findIn K (.ref O_Copies) "__setattr__" = some (some (.builtin "object.__setattr__"))) (mk_Copies : PySem.W.makesIn K O_Copies = true) (kc_Copies : PySem.W.keepIn K (.ref O_Copies) = true)
    (nf_Copies_box_worths : PySem.W.findIn K (.ref O_Copies) "box_worths" = some none) (nf_Copies_kept_goings : PySem.W.findIn K (.ref O_Copies) "kept_goings" = some none) (nf_Copies_peg_worths : PySem.W.findIn K (.ref O_Copies) "peg_worths" = some none) (nf_Copies_piles : PySem.W.findIn K (.ref O_Copies) "piles" = some none) (nf_Copies_tally : PySem.W.findIn K (.ref O_Copies) "tally" = some none)
    {f0 : Addr} {od0 an0 : Option Addr} {sl0 : Array (Option Value)} {oc0 kV0 dc0 pm0 cd0 ct0 : Value}
    (a0 : PySem.W.nsIn K mainGlobals "is_number" = some (some (.ref f0)))
    (l0 : K.lookup f0 = some ⟨oc0, od0, .func (PySem.W.fnOf "is_number" "is_number" (defArgs s_is_number) (defBody s_is_number) (defScope s_is_number) .none kV0 dc0 pm0 an0 cd0 ct0), sl0⟩) (c0 : PySem.W.codeIn K cd0 "is_number" = true) (k0 : PySem.W.keepIn K (.ref f0) = true)
    {f1 : Addr} {od1 an1 : Option Addr} {sl1 : Array (Option Value)} {oc1 kV1 dc1 pm1 cd1 ct1 : Value}
    (a1 : PySem.W.nsIn K mainGlobals "is_worth" = some (some (.ref f1)))
    (l1 : K.lookup f1 = some ⟨oc1, od1, .func (PySem.W.fnOf "is_worth" "is_worth" (defArgs s_is_worth) (defBody s_is_worth) (defScope s_is_worth) .none kV1 dc1 pm1 an1 cd1 ct1), sl1⟩) (c1 : PySem.W.codeIn K cd1 "is_worth" = true) (k1 : PySem.W.keepIn K (.ref f1) = true)
    {f2 : Addr} {od2 an2 : Option Addr} {sl2 : Array (Option Value)} {oc2 kV2 dc2 pm2 cd2 ct2 : Value}
    (a2 : PySem.W.nsIn K mainGlobals "is_thing" = some (some (.ref f2)))
    (l2 : K.lookup f2 = some ⟨oc2, od2, .func (PySem.W.fnOf "is_thing" "is_thing" (defArgs s_is_thing) (defBody s_is_thing) (defScope s_is_thing) .none kV2 dc2 pm2 an2 cd2 ct2), sl2⟩) (c2 : PySem.W.codeIn K cd2 "is_thing" = true) (k2 : PySem.W.keepIn K (.ref f2) = true)
    {f3 : Addr} {od3 an3 : Option Addr} {sl3 : Array (Option Value)} {oc3 kV3 dc3 pm3 cd3 ct3 : Value}
    (a3 : PySem.W.nsIn K mainGlobals "is_name" = some (some (.ref f3)))
    (l3 : K.lookup f3 = some ⟨oc3, od3, .func (PySem.W.fnOf "is_name" "is_name" (defArgs s_is_name) (defBody s_is_name) (defScope s_is_name) .none kV3 dc3 pm3 an3 cd3 ct3), sl3⟩) (c3 : PySem.W.codeIn K cd3 "is_name" = true) (k3 : PySem.W.keepIn K (.ref f3) = true)
    {f4 : Addr} {od4 an4 : Option Addr} {sl4 : Array (Option Value)} {oc4 kV4 dc4 pm4 cd4 ct4 : Value}
    (a4 : PySem.W.nsIn K mainGlobals "is_count" = some (some (.ref f4)))
    (l4 : K.lookup f4 = some ⟨oc4, od4, .func (PySem.W.fnOf "is_count" "is_count" (defArgs s_is_count) (defBody s_is_count) (defScope s_is_count) .none kV4 dc4 pm4 an4 cd4 ct4), sl4⟩) (c4 : PySem.W.codeIn K cd4 "is_count" = true) (k4 : PySem.W.keepIn K (.ref f4) = true)
    {f5 : Addr} {od5 an5 : Option Addr} {sl5 : Array (Option Value)} {oc5 kV5 dc5 pm5 cd5 ct5 : Value}
    (a5 : PySem.W.findIn K (.ref O_Tally) "__init__" = some (some (.ref f5))) (i5 : PySem.W.isFn K (.ref f5) = true)
    (l5 : K.lookup f5 = some ⟨oc5, od5, .func (PySem.W.fnOf "__init__" "Tally.__init__" (defArgs s_Tally_init) (defBody s_Tally_init) (defScope s_Tally_init) .none kV5 dc5 pm5 an5 cd5 ct5), sl5⟩) (c5 : PySem.W.codeIn K cd5 "Tally.__init__" = true) (k5 : PySem.W.keepIn K (.ref f5) = true)
    {f6 : Addr} {od6 an6 : Option Addr} {sl6 : Array (Option Value)} {oc6 kV6 dc6 pm6 cd6 ct6 : Value}
    (a6 : PySem.W.findIn K (.ref O_Tally) "more" = some (some (.ref f6))) (i6 : PySem.W.isFn K (.ref f6) = true)
    (l6 : K.lookup f6 = some ⟨oc6, od6, .func (PySem.W.fnOf "more" "Tally.more" (defArgs s_Tally_more) (defBody s_Tally_more) (defScope s_Tally_more) .none kV6 dc6 pm6 an6 cd6 ct6), sl6⟩) (c6 : PySem.W.codeIn K cd6 "Tally.more" = true) (k6 : PySem.W.keepIn K (.ref f6) = true)
    {f7 : Addr} {od7 an7 : Option Addr} {sl7 : Array (Option Value)} {oc7 kV7 dc7 pm7 cd7 ct7 : Value}
    (a7 : PySem.W.findIn K (.ref O_Tally) "less" = some (some (.ref f7))) (i7 : PySem.W.isFn K (.ref f7) = true)
    (l7 : K.lookup f7 = some ⟨oc7, od7, .func (PySem.W.fnOf "less" "Tally.less" (defArgs s_Tally_less) (defBody s_Tally_less) (defScope s_Tally_less) .none kV7 dc7 pm7 an7 cd7 ct7), sl7⟩) (c7 : PySem.W.codeIn K cd7 "Tally.less" = true) (k7 : PySem.W.keepIn K (.ref f7) = true)
    {f8 : Addr} {od8 an8 : Option Addr} {sl8 : Array (Option Value)} {oc8 kV8 dc8 pm8 cd8 ct8 : Value}
    (a8 : PySem.W.findIn K (.ref O_Tally) "loosened" = some (some (.ref f8))) (i8 : PySem.W.isFn K (.ref f8) = true)
    (l8 : K.lookup f8 = some ⟨oc8, od8, .func (PySem.W.fnOf "loosened" "Tally.loosened" (defArgs s_Tally_loosened) (defBody s_Tally_loosened) (defScope s_Tally_loosened) .none kV8 dc8 pm8 an8 cd8 ct8), sl8⟩) (c8 : PySem.W.codeIn K cd8 "Tally.loosened" = true) (k8 : PySem.W.keepIn K (.ref f8) = true)
    {f9 : Addr} {od9 an9 : Option Addr} {sl9 : Array (Option Value)} {oc9 kV9 dc9 pm9 cd9 ct9 : Value}
    (a9 : PySem.W.findIn K (.ref O_WholePiles) "__init__" = some (some (.ref f9))) (i9 : PySem.W.isFn K (.ref f9) = true)
    (l9 : K.lookup f9 = some ⟨oc9, od9, .func (PySem.W.fnOf "__init__" "WholePiles.__init__" (defArgs s_WholePiles_init) (defBody s_WholePiles_init) (defScope s_WholePiles_init) .none kV9 dc9 pm9 an9 cd9 ct9), sl9⟩) (c9 : PySem.W.codeIn K cd9 "WholePiles.__init__" = true) (k9 : PySem.W.keepIn K (.ref f9) = true)
    {f10 : Addr} {od10 an10 : Option Addr} {sl10 : Array (Option Value)} {oc10 kV10 dc10 pm10 cd10 ct10 : Value}
    (a10 : PySem.W.findIn K (.ref O_WholePiles) "lay" = some (some (.ref f10))) (i10 : PySem.W.isFn K (.ref f10) = true)
    (l10 : K.lookup f10 = some ⟨oc10, od10, .func (PySem.W.fnOf "lay" "WholePiles.lay" (defArgs s_WholePiles_lay) (defBody s_WholePiles_lay) (defScope s_WholePiles_lay) .none kV10 dc10 pm10 an10 cd10 ct10), sl10⟩) (c10 : PySem.W.codeIn K cd10 "WholePiles.lay" = true) (k10 : PySem.W.keepIn K (.ref f10) = true)
    {f11 : Addr} {od11 an11 : Option Addr} {sl11 : Array (Option Value)} {oc11 kV11 dc11 pm11 cd11 ct11 : Value}
    (a11 : PySem.W.findIn K (.ref O_WholePiles) "height" = some (some (.ref f11))) (i11 : PySem.W.isFn K (.ref f11) = true)
    (l11 : K.lookup f11 = some ⟨oc11, od11, .func (PySem.W.fnOf "height" "WholePiles.height" (defArgs s_WholePiles_height) (defBody s_WholePiles_height) (defScope s_WholePiles_height) .none kV11 dc11 pm11 an11 cd11 ct11), sl11⟩) (c11 : PySem.W.codeIn K cd11 "WholePiles.height" = true) (k11 : PySem.W.keepIn K (.ref f11) = true)
    {f12 : Addr} {od12 an12 : Option Addr} {sl12 : Array (Option Value)} {oc12 kV12 dc12 pm12 cd12 ct12 : Value}
    (a12 : PySem.W.findIn K (.ref O_WholePiles) "pile" = some (some (.ref f12))) (i12 : PySem.W.isFn K (.ref f12) = true)
    (l12 : K.lookup f12 = some ⟨oc12, od12, .func (PySem.W.fnOf "pile" "WholePiles.pile" (defArgs s_WholePiles_pile) (defBody s_WholePiles_pile) (defScope s_WholePiles_pile) .none kV12 dc12 pm12 an12 cd12 ct12), sl12⟩) (c12 : PySem.W.codeIn K cd12 "WholePiles.pile" = true) (k12 : PySem.W.keepIn K (.ref f12) = true)
    {f13 : Addr} {od13 an13 : Option Addr} {sl13 : Array (Option Value)} {oc13 kV13 dc13 pm13 cd13 ct13 : Value}
    (a13 : PySem.W.findIn K (.ref O_WholePiles) "put" = some (some (.ref f13))) (i13 : PySem.W.isFn K (.ref f13) = true)
    (l13 : K.lookup f13 = some ⟨oc13, od13, .func (PySem.W.fnOf "put" "WholePiles.put" (defArgs s_WholePiles_put) (defBody s_WholePiles_put) (defScope s_WholePiles_put) .none kV13 dc13 pm13 an13 cd13 ct13), sl13⟩) (c13 : PySem.W.codeIn K cd13 "WholePiles.put" = true) (k13 : PySem.W.keepIn K (.ref f13) = true)
    {f14 : Addr} {od14 an14 : Option Addr} {sl14 : Array (Option Value)} {oc14 kV14 dc14 pm14 cd14 ct14 : Value}
    (a14 : PySem.W.findIn K (.ref O_WholePiles) "take" = some (some (.ref f14))) (i14 : PySem.W.isFn K (.ref f14) = true)
    (l14 : K.lookup f14 = some ⟨oc14, od14, .func (PySem.W.fnOf "take" "WholePiles.take" (defArgs s_WholePiles_take) (defBody s_WholePiles_take) (defScope s_WholePiles_take) .none kV14 dc14 pm14 an14 cd14 ct14), sl14⟩) (c14 : PySem.W.codeIn K cd14 "WholePiles.take" = true) (k14 : PySem.W.keepIn K (.ref f14) = true)
    {f15 : Addr} {od15 an15 : Option Addr} {sl15 : Array (Option Value)} {oc15 kV15 dc15 pm15 cd15 ct15 : Value}
    (a15 : PySem.W.findIn K (.ref O_WholePiles) "keep" = some (some (.ref f15))) (i15 : PySem.W.isFn K (.ref f15) = true)
    (l15 : K.lookup f15 = some ⟨oc15, od15, .func (PySem.W.fnOf "keep" "WholePiles.keep" (defArgs s_WholePiles_keep) (defBody s_WholePiles_keep) (defScope s_WholePiles_keep) .none kV15 dc15 pm15 an15 cd15 ct15), sl15⟩) (c15 : PySem.W.codeIn K cd15 "WholePiles.keep" = true) (k15 : PySem.W.keepIn K (.ref f15) = true)
    {f16 : Addr} {od16 an16 : Option Addr} {sl16 : Array (Option Value)} {oc16 kV16 dc16 pm16 cd16 ct16 : Value}
    (a16 : PySem.W.findIn K (.ref O_WholePiles) "release" = some (some (.ref f16))) (i16 : PySem.W.isFn K (.ref f16) = true)
    (l16 : K.lookup f16 = some ⟨oc16, od16, .func (PySem.W.fnOf "release" "WholePiles.release" (defArgs s_WholePiles_release) (defBody s_WholePiles_release) (defScope s_WholePiles_release) .none kV16 dc16 pm16 an16 cd16 ct16), sl16⟩) (c16 : PySem.W.codeIn K cd16 "WholePiles.release" = true) (k16 : PySem.W.keepIn K (.ref f16) = true)
    {f17 : Addr} {od17 an17 : Option Addr} {sl17 : Array (Option Value)} {oc17 kV17 dc17 pm17 cd17 ct17 : Value}
    (a17 : PySem.W.nsIn K mainGlobals "check_name" = some (some (.ref f17)))
    (l17 : K.lookup f17 = some ⟨oc17, od17, .func (PySem.W.fnOf "check_name" "check_name" (defArgs s_check_name) (defBody s_check_name) (defScope s_check_name) .none kV17 dc17 pm17 an17 cd17 ct17), sl17⟩) (c17 : PySem.W.codeIn K cd17 "check_name" = true) (k17 : PySem.W.keepIn K (.ref f17) = true)
    {f18 : Addr} {od18 an18 : Option Addr} {sl18 : Array (Option Value)} {oc18 kV18 dc18 pm18 cd18 ct18 : Value}
    (a18 : PySem.W.nsIn K mainGlobals "check_place" = some (some (.ref f18)))
    (l18 : K.lookup f18 = some ⟨oc18, od18, .func (PySem.W.fnOf "check_place" "check_place" (defArgs s_check_place) (defBody s_check_place) (defScope s_check_place) .none kV18 dc18 pm18 an18 cd18 ct18), sl18⟩) (c18 : PySem.W.codeIn K cd18 "check_place" = true) (k18 : PySem.W.keepIn K (.ref f18) = true)
    {f19 : Addr} {od19 an19 : Option Addr} {sl19 : Array (Option Value)} {oc19 kV19 dc19 pm19 cd19 ct19 : Value}
    (a19 : PySem.W.nsIn K mainGlobals "least_free" = some (some (.ref f19)))
    (l19 : K.lookup f19 = some ⟨oc19, od19, .func (PySem.W.fnOf "least_free" "least_free" (defArgs s_least_free) (defBody s_least_free) (defScope s_least_free) .none kV19 dc19 pm19 an19 cd19 ct19), sl19⟩) (c19 : PySem.W.codeIn K cd19 "least_free" = true) (k19 : PySem.W.keepIn K (.ref f19) = true)
    {f20 : Addr} {od20 an20 : Option Addr} {sl20 : Array (Option Value)} {oc20 kV20 dc20 pm20 cd20 ct20 : Value}
    (a20 : PySem.W.findIn K (.ref O_Copies) "__init__" = some (some (.ref f20))) (i20 : PySem.W.isFn K (.ref f20) = true)
    (l20 : K.lookup f20 = some ⟨oc20, od20, .func (PySem.W.fnOf "__init__" "Copies.__init__" (defArgs s_Copies_init) (defBody s_Copies_init) (defScope s_Copies_init) .none kV20 dc20 pm20 an20 cd20 ct20), sl20⟩) (c20 : PySem.W.codeIn K cd20 "Copies.__init__" = true) (k20 : PySem.W.keepIn K (.ref f20) = true)
    {f21 : Addr} {od21 an21 : Option Addr} {sl21 : Array (Option Value)} {oc21 kV21 dc21 pm21 cd21 ct21 : Value}
    (a21 : PySem.W.findIn K (.ref O_Copies) "begin" = some (some (.ref f21))) (i21 : PySem.W.isFn K (.ref f21) = true)
    (l21 : K.lookup f21 = some ⟨oc21, od21, .func (PySem.W.fnOf "begin" "Copies.begin" (defArgs s_Copies_begin) (defBody s_Copies_begin) (defScope s_Copies_begin) .none kV21 dc21 pm21 an21 cd21 ct21), sl21⟩) (c21 : PySem.W.codeIn K cd21 "Copies.begin" = true) (k21 : PySem.W.keepIn K (.ref f21) = true)
    {f22 : Addr} {od22 an22 : Option Addr} {sl22 : Array (Option Value)} {oc22 kV22 dc22 pm22 cd22 ct22 : Value}
    (a22 : PySem.W.findIn K (.ref O_Copies) "lay_piles" = some (some (.ref f22))) (i22 : PySem.W.isFn K (.ref f22) = true)
    (l22 : K.lookup f22 = some ⟨oc22, od22, .func (PySem.W.fnOf "lay_piles" "Copies.lay_piles" (defArgs s_Copies_lay_piles) (defBody s_Copies_lay_piles) (defScope s_Copies_lay_piles) .none kV22 dc22 pm22 an22 cd22 ct22), sl22⟩) (c22 : PySem.W.codeIn K cd22 "Copies.lay_piles" = true) (k22 : PySem.W.keepIn K (.ref f22) = true)
    {f23 : Addr} {od23 an23 : Option Addr} {sl23 : Array (Option Value)} {oc23 kV23 dc23 pm23 cd23 ct23 : Value}
    (a23 : PySem.W.findIn K (.ref O_Copies) "has" = some (some (.ref f23))) (i23 : PySem.W.isFn K (.ref f23) = true)
    (l23 : K.lookup f23 = some ⟨oc23, od23, .func (PySem.W.fnOf "has" "Copies.has" (defArgs s_Copies_has) (defBody s_Copies_has) (defScope s_Copies_has) .none kV23 dc23 pm23 an23 cd23 ct23), sl23⟩) (c23 : PySem.W.codeIn K cd23 "Copies.has" = true) (k23 : PySem.W.keepIn K (.ref f23) = true)
    {f24 : Addr} {od24 an24 : Option Addr} {sl24 : Array (Option Value)} {oc24 kV24 dc24 pm24 cd24 ct24 : Value}
    (a24 : PySem.W.findIn K (.ref O_Copies) "check_worth" = some (some (.ref f24))) (i24 : PySem.W.isFn K (.ref f24) = true)
    (l24 : K.lookup f24 = some ⟨oc24, od24, .func (PySem.W.fnOf "check_worth" "Copies.check_worth" (defArgs s_Copies_check_worth) (defBody s_Copies_check_worth) (defScope s_Copies_check_worth) .none kV24 dc24 pm24 an24 cd24 ct24), sl24⟩) (c24 : PySem.W.codeIn K cd24 "Copies.check_worth" = true) (k24 : PySem.W.keepIn K (.ref f24) = true)
    {f25 : Addr} {od25 an25 : Option Addr} {sl25 : Array (Option Value)} {oc25 kV25 dc25 pm25 cd25 ct25 : Value}
    (a25 : PySem.W.findIn K (.ref O_Copies) "check_box" = some (some (.ref f25))) (i25 : PySem.W.isFn K (.ref f25) = true)
    (l25 : K.lookup f25 = some ⟨oc25, od25, .func (PySem.W.fnOf "check_box" "Copies.check_box" (defArgs s_Copies_check_box) (defBody s_Copies_check_box) (defScope s_Copies_check_box) .none kV25 dc25 pm25 an25 cd25 ct25), sl25⟩) (c25 : PySem.W.codeIn K cd25 "Copies.check_box" = true) (k25 : PySem.W.keepIn K (.ref f25) = true)
    {f26 : Addr} {od26 an26 : Option Addr} {sl26 : Array (Option Value)} {oc26 kV26 dc26 pm26 cd26 ct26 : Value}
    (a26 : PySem.W.findIn K (.ref O_Copies) "check_peg" = some (some (.ref f26))) (i26 : PySem.W.isFn K (.ref f26) = true)
    (l26 : K.lookup f26 = some ⟨oc26, od26, .func (PySem.W.fnOf "check_peg" "Copies.check_peg" (defArgs s_Copies_check_peg) (defBody s_Copies_check_peg) (defScope s_Copies_check_peg) .none kV26 dc26 pm26 an26 cd26 ct26), sl26⟩) (c26 : PySem.W.codeIn K cd26 "Copies.check_peg" = true) (k26 : PySem.W.keepIn K (.ref f26) = true)
    {f27 : Addr} {od27 an27 : Option Addr} {sl27 : Array (Option Value)} {oc27 kV27 dc27 pm27 cd27 ct27 : Value}
    (a27 : PySem.W.findIn K (.ref O_Copies) "drop" = some (some (.ref f27))) (i27 : PySem.W.isFn K (.ref f27) = true)
    (l27 : K.lookup f27 = some ⟨oc27, od27, .func (PySem.W.fnOf "drop" "Copies.drop" (defArgs s_Copies_drop) (defBody s_Copies_drop) (defScope s_Copies_drop) .none kV27 dc27 pm27 an27 cd27 ct27), sl27⟩) (c27 : PySem.W.codeIn K cd27 "Copies.drop" = true) (k27 : PySem.W.keepIn K (.ref f27) = true)
    {f28 : Addr} {od28 an28 : Option Addr} {sl28 : Array (Option Value)} {oc28 kV28 dc28 pm28 cd28 ct28 : Value}
    (a28 : PySem.W.findIn K (.ref O_Copies) "settle" = some (some (.ref f28))) (i28 : PySem.W.isFn K (.ref f28) = true)
    (l28 : K.lookup f28 = some ⟨oc28, od28, .func (PySem.W.fnOf "settle" "Copies.settle" (defArgs s_Copies_settle) (defBody s_Copies_settle) (defScope s_Copies_settle) .none kV28 dc28 pm28 an28 cd28 ct28), sl28⟩) (c28 : PySem.W.codeIn K cd28 "Copies.settle" = true) (k28 : PySem.W.keepIn K (.ref f28) = true)
    {f29 : Addr} {od29 an29 : Option Addr} {sl29 : Array (Option Value)} {oc29 kV29 dc29 pm29 cd29 ct29 : Value}
    (a29 : PySem.W.findIn K (.ref O_Copies) "put" = some (some (.ref f29))) (i29 : PySem.W.isFn K (.ref f29) = true)
    (l29 : K.lookup f29 = some ⟨oc29, od29, .func (PySem.W.fnOf "put" "Copies.put" (defArgs s_Copies_put) (defBody s_Copies_put) (defScope s_Copies_put) .none kV29 dc29 pm29 an29 cd29 ct29), sl29⟩) (c29 : PySem.W.codeIn K cd29 "Copies.put" = true) (k29 : PySem.W.keepIn K (.ref f29) = true)
    {f30 : Addr} {od30 an30 : Option Addr} {sl30 : Array (Option Value)} {oc30 kV30 dc30 pm30 cd30 ct30 : Value}
    {T30 : Addr} {oT30 : Obj} {nT30 : Nat} {iT30 : List Value}
    (a30 : PySem.W.findIn K (.ref O_Copies) "take" = some (some (.ref f30))) (i30 : PySem.W.isFn K (.ref f30) = true)
    (l30 : K.lookup f30 = some ⟨oc30, od30, .func (PySem.W.fnOf "take" "Copies.take" (defArgs s_Copies_take) (defBody s_Copies_take) (defScope s_Copies_take) (.ref T30) kV30 dc30 pm30 an30 cd30 ct30), sl30⟩) (c30 : PySem.W.codeIn K cd30 "Copies.take" = true) (k30 : PySem.W.keepIn K (.ref f30) = true)
    (lT30 : K.lookup T30 = some oT30) (dT30 : oT30.data = .seq iT30.toArray nT30) (vT30 : Vals [.int 0] iT30)
    {f31 : Addr} {od31 an31 : Option Addr} {sl31 : Array (Option Value)} {oc31 kV31 dc31 pm31 cd31 ct31 : Value}
    (a31 : PySem.W.findIn K (.ref O_Copies) "height" = some (some (.ref f31))) (i31 : PySem.W.isFn K (.ref f31) = true)
    (l31 : K.lookup f31 = some ⟨oc31, od31, .func (PySem.W.fnOf "height" "Copies.height" (defArgs s_Copies_height) (defBody s_Copies_height) (defScope s_Copies_height) .none kV31 dc31 pm31 an31 cd31 ct31), sl31⟩) (c31 : PySem.W.codeIn K cd31 "Copies.height" = true) (k31 : PySem.W.keepIn K (.ref f31) = true)
    {f32 : Addr} {od32 an32 : Option Addr} {sl32 : Array (Option Value)} {oc32 kV32 dc32 pm32 cd32 ct32 : Value}
    (a32 : PySem.W.findIn K (.ref O_Copies) "pile" = some (some (.ref f32))) (i32 : PySem.W.isFn K (.ref f32) = true)
    (l32 : K.lookup f32 = some ⟨oc32, od32, .func (PySem.W.fnOf "pile" "Copies.pile" (defArgs s_Copies_pile) (defBody s_Copies_pile) (defScope s_Copies_pile) .none kV32 dc32 pm32 an32 cd32 ct32), sl32⟩) (c32 : PySem.W.codeIn K cd32 "Copies.pile" = true) (k32 : PySem.W.keepIn K (.ref f32) = true)
    {f33 : Addr} {od33 an33 : Option Addr} {sl33 : Array (Option Value)} {oc33 kV33 dc33 pm33 cd33 ct33 : Value}
    (a33 : PySem.W.findIn K (.ref O_Copies) "keep" = some (some (.ref f33))) (i33 : PySem.W.isFn K (.ref f33) = true)
    (l33 : K.lookup f33 = some ⟨oc33, od33, .func (PySem.W.fnOf "keep" "Copies.keep" (defArgs s_Copies_keep) (defBody s_Copies_keep) (defScope s_Copies_keep) .none kV33 dc33 pm33 an33 cd33 ct33), sl33⟩) (c33 : PySem.W.codeIn K cd33 "Copies.keep" = true) (k33 : PySem.W.keepIn K (.ref f33) = true)
    {f34 : Addr} {od34 an34 : Option Addr} {sl34 : Array (Option Value)} {oc34 kV34 dc34 pm34 cd34 ct34 : Value}
    (a34 : PySem.W.findIn K (.ref O_Copies) "box" = some (some (.ref f34))) (i34 : PySem.W.isFn K (.ref f34) = true)
    (l34 : K.lookup f34 = some ⟨oc34, od34, .func (PySem.W.fnOf "box" "Copies.box" (defArgs s_Copies_box) (defBody s_Copies_box) (defScope s_Copies_box) .none kV34 dc34 pm34 an34 cd34 ct34), sl34⟩) (c34 : PySem.W.codeIn K cd34 "Copies.box" = true) (k34 : PySem.W.keepIn K (.ref f34) = true)
    {f35 : Addr} {od35 an35 : Option Addr} {sl35 : Array (Option Value)} {oc35 kV35 dc35 pm35 cd35 ct35 : Value}
    (a35 : PySem.W.findIn K (.ref O_Copies) "held" = some (some (.ref f35))) (i35 : PySem.W.isFn K (.ref f35) = true)
    (l35 : K.lookup f35 = some ⟨oc35, od35, .func (PySem.W.fnOf "held" "Copies.held" (defArgs s_Copies_held) (defBody s_Copies_held) (defScope s_Copies_held) .none kV35 dc35 pm35 an35 cd35 ct35), sl35⟩) (c35 : PySem.W.codeIn K cd35 "Copies.held" = true) (k35 : PySem.W.keepIn K (.ref f35) = true)
    {f36 : Addr} {od36 an36 : Option Addr} {sl36 : Array (Option Value)} {oc36 kV36 dc36 pm36 cd36 ct36 : Value}
    (a36 : PySem.W.findIn K (.ref O_Copies) "peg" = some (some (.ref f36))) (i36 : PySem.W.isFn K (.ref f36) = true)
    (l36 : K.lookup f36 = some ⟨oc36, od36, .func (PySem.W.fnOf "peg" "Copies.peg" (defArgs s_Copies_peg) (defBody s_Copies_peg) (defScope s_Copies_peg) .none kV36 dc36 pm36 an36 cd36 ct36), sl36⟩) (c36 : PySem.W.codeIn K cd36 "Copies.peg" = true) (k36 : PySem.W.keepIn K (.ref f36) = true)
    {f37 : Addr} {od37 an37 : Option Addr} {sl37 : Array (Option Value)} {oc37 kV37 dc37 pm37 cd37 ct37 : Value}
    (a37 : PySem.W.findIn K (.ref O_Copies) "pegged" = some (some (.ref f37))) (i37 : PySem.W.isFn K (.ref f37) = true)
    (l37 : K.lookup f37 = some ⟨oc37, od37, .func (PySem.W.fnOf "pegged" "Copies.pegged" (defArgs s_Copies_pegged) (defBody s_Copies_pegged) (defScope s_Copies_pegged) .none kV37 dc37 pm37 an37 cd37 ct37), sl37⟩) (c37 : PySem.W.codeIn K cd37 "Copies.pegged" = true) (k37 : PySem.W.keepIn K (.ref f37) = true)
    {f38 : Addr} {od38 an38 : Option Addr} {sl38 : Array (Option Value)} {oc38 kV38 dc38 pm38 cd38 ct38 : Value}
    (a38 : PySem.W.findIn K (.ref O_Copies) "unpeg" = some (some (.ref f38))) (i38 : PySem.W.isFn K (.ref f38) = true)
    (l38 : K.lookup f38 = some ⟨oc38, od38, .func (PySem.W.fnOf "unpeg" "Copies.unpeg" (defArgs s_Copies_unpeg) (defBody s_Copies_unpeg) (defScope s_Copies_unpeg) .none kV38 dc38 pm38 an38 cd38 ct38), sl38⟩) (c38 : PySem.W.codeIn K cd38 "Copies.unpeg" = true) (k38 : PySem.W.keepIn K (.ref f38) = true)
    {f39 : Addr} {od39 an39 : Option Addr} {sl39 : Array (Option Value)} {oc39 kV39 dc39 pm39 cd39 ct39 : Value}
    (a39 : PySem.W.findIn K (.ref O_Copies) "pegs" = some (some (.ref f39))) (i39 : PySem.W.isFn K (.ref f39) = true)
    (l39 : K.lookup f39 = some ⟨oc39, od39, .func (PySem.W.fnOf "pegs" "Copies.pegs" (defArgs s_Copies_pegs) (defBody s_Copies_pegs) (defScope s_Copies_pegs) .none kV39 dc39 pm39 an39 cd39 ct39), sl39⟩) (c39 : PySem.W.codeIn K cd39 "Copies.pegs" = true) (k39 : PySem.W.keepIn K (.ref f39) = true)
    {f40 : Addr} {od40 an40 : Option Addr} {sl40 : Array (Option Value)} {oc40 kV40 dc40 pm40 cd40 ct40 : Value}
    (a40 : PySem.W.nsIn K mainGlobals "_law_cell_at" = some (some (.ref f40)))
    (l40 : K.lookup f40 = some ⟨oc40, od40, .func (PySem.W.fnOf "_law_cell_at" "_law_cell_at" (defArgs s_cell_at) (defBody s_cell_at) (defScope s_cell_at) .none kV40 dc40 pm40 an40 cd40 ct40), sl40⟩) (c40 : PySem.W.codeIn K cd40 "_law_cell_at" = true) (k40 : PySem.W.keepIn K (.ref f40) = true)
    {f41 : Addr} {od41 an41 : Option Addr} {sl41 : Array (Option Value)} {oc41 kV41 dc41 pm41 cd41 ct41 : Value}
    (a41 : PySem.W.nsIn K mainGlobals "_law_bag" = some (some (.ref f41)))
    (l41 : K.lookup f41 = some ⟨oc41, od41, .func (PySem.W.fnOf "_law_bag" "_law_bag" (defArgs s_bag) (defBody s_bag) (defScope s_bag) .none kV41 dc41 pm41 an41 cd41 ct41), sl41⟩) (c41 : PySem.W.codeIn K cd41 "_law_bag" = true) (k41 : PySem.W.keepIn K (.ref f41) = true)
    {f42 : Addr} {od42 an42 : Option Addr} {sl42 : Array (Option Value)} {oc42 kV42 dc42 pm42 cd42 ct42 : Value}
    (a42 : PySem.W.nsIn K mainGlobals "_law_draw" = some (some (.ref f42)))
    (l42 : K.lookup f42 = some ⟨oc42, od42, .func (PySem.W.fnOf "_law_draw" "_law_draw" (defArgs s_draw) (defBody s_draw) (defScope s_draw) .none kV42 dc42 pm42 an42 cd42 ct42), sl42⟩) (c42 : PySem.W.codeIn K cd42 "_law_draw" = true) (k42 : PySem.W.keepIn K (.ref f42) = true)
    {f43 : Addr} {od43 an43 : Option Addr} {sl43 : Array (Option Value)} {oc43 kV43 dc43 pm43 cd43 ct43 : Value}
    (a43 : PySem.W.nsIn K mainGlobals "_law_plain" = some (some (.ref f43)))
    (l43 : K.lookup f43 = some ⟨oc43, od43, .func (PySem.W.fnOf "_law_plain" "_law_plain" (defArgs s_plain) (defBody s_plain) (defScope s_plain) .none kV43 dc43 pm43 an43 cd43 ct43), sl43⟩) (c43 : PySem.W.codeIn K cd43 "_law_plain" = true) (k43 : PySem.W.keepIn K (.ref f43) = true)
    {f44 : Addr} {od44 an44 : Option Addr} {sl44 : Array (Option Value)} {oc44 kV44 dc44 pm44 cd44 ct44 : Value}
    (a44 : PySem.W.nsIn K mainGlobals "_law_whole" = some (some (.ref f44)))
    (l44 : K.lookup f44 = some ⟨oc44, od44, .func (PySem.W.fnOf "_law_whole" "_law_whole" (defArgs s_whole) (defBody s_whole) (defScope s_whole) .none kV44 dc44 pm44 an44 cd44 ct44), sl44⟩) (c44 : PySem.W.codeIn K cd44 "_law_whole" = true) (k44 : PySem.W.keepIn K (.ref f44) = true)
    {f45 : Addr} {od45 an45 : Option Addr} {sl45 : Array (Option Value)} {oc45 kV45 dc45 pm45 cd45 ct45 : Value}
    (a45 : PySem.W.nsIn K mainGlobals "_law_same" = some (some (.ref f45)))
    (l45 : K.lookup f45 = some ⟨oc45, od45, .func (PySem.W.fnOf "_law_same" "_law_same" (defArgs s_same) (defBody s_same) (defScope s_same) .none kV45 dc45 pm45 an45 cd45 ct45), sl45⟩) (c45 : PySem.W.codeIn K cd45 "_law_same" = true) (k45 : PySem.W.keepIn K (.ref f45) = true)
    {f46 : Addr} {od46 an46 : Option Addr} {sl46 : Array (Option Value)} {oc46 kV46 dc46 pm46 cd46 ct46 : Value}
    (a46 : PySem.W.nsIn K mainGlobals "_law_same_pile" = some (some (.ref f46)))
    (l46 : K.lookup f46 = some ⟨oc46, od46, .func (PySem.W.fnOf "_law_same_pile" "_law_same_pile" (defArgs s_same_pile) (defBody s_same_pile) (defScope s_same_pile) .none kV46 dc46 pm46 an46 cd46 ct46), sl46⟩) (c46 : PySem.W.codeIn K cd46 "_law_same_pile" = true) (k46 : PySem.W.keepIn K (.ref f46) = true)
    {f47 : Addr} {od47 an47 : Option Addr} {sl47 : Array (Option Value)} {oc47 kV47 dc47 pm47 cd47 ct47 : Value}
    (a47 : PySem.W.nsIn K mainGlobals "_law_letters" = some (some (.ref f47)))
    (l47 : K.lookup f47 = some ⟨oc47, od47, .func (PySem.W.fnOf "_law_letters" "_law_letters" (defArgs s_letters) (defBody s_letters) (defScope s_letters) .none kV47 dc47 pm47 an47 cd47 ct47), sl47⟩) (c47 : PySem.W.codeIn K cd47 "_law_letters" = true) (k47 : PySem.W.keepIn K (.ref f47) = true)
    {f48 : Addr} {od48 an48 : Option Addr} {sl48 : Array (Option Value)} {oc48 kV48 dc48 pm48 cd48 ct48 : Value}
    (a48 : PySem.W.nsIn K mainGlobals "_law_names" = some (some (.ref f48)))
    (l48 : K.lookup f48 = some ⟨oc48, od48, .func (PySem.W.fnOf "_law_names" "_law_names" (defArgs s_names) (defBody s_names) (defScope s_names) .none kV48 dc48 pm48 an48 cd48 ct48), sl48⟩) (c48 : PySem.W.codeIn K cd48 "_law_names" = true) (k48 : PySem.W.keepIn K (.ref f48) = true)
    {f49 : Addr} {od49 an49 : Option Addr} {sl49 : Array (Option Value)} {oc49 kV49 dc49 pm49 cd49 ct49 : Value}
    (a49 : PySem.W.nsIn K mainGlobals "_law_deed" = some (some (.ref f49)))
    (l49 : K.lookup f49 = some ⟨oc49, od49, .func (PySem.W.fnOf "_law_deed" "_law_deed" (defArgs s_deed) (defBody s_deed) (defScope s_deed) .none kV49 dc49 pm49 an49 cd49 ct49), sl49⟩) (c49 : PySem.W.codeIn K cd49 "_law_deed" = true) (k49 : PySem.W.keepIn K (.ref f49) = true)
    {f50 : Addr} {od50 an50 : Option Addr} {sl50 : Array (Option Value)} {oc50 kV50 dc50 pm50 cd50 ct50 : Value}
    (a50 : PySem.W.nsIn K mainGlobals "_law_looked" = some (some (.ref f50)))
    (l50 : K.lookup f50 = some ⟨oc50, od50, .func (PySem.W.fnOf "_law_looked" "_law_looked" (defArgs s_looked) (defBody s_looked) (defScope s_looked) .none kV50 dc50 pm50 an50 cd50 ct50), sl50⟩) (c50 : PySem.W.codeIn K cd50 "_law_looked" = true) (k50 : PySem.W.keepIn K (.ref f50) = true)
    {f51 : Addr} {od51 an51 : Option Addr} {sl51 : Array (Option Value)} {oc51 kV51 dc51 pm51 cd51 ct51 : Value}
    (a51 : PySem.W.nsIn K mainGlobals "law" = some (some (.ref f51)))
    (l51 : K.lookup f51 = some ⟨oc51, od51, .func (PySem.W.fnOf "law" "law" (defArgs s_law) (defBody s_law) (defScope s_law) .none kV51 dc51 pm51 an51 cd51 ct51), sl51⟩) (c51 : PySem.W.codeIn K cd51 "law" = true) (k51 : PySem.W.keepIn K (.ref f51) = true)
    (z_all : PySem.W.nsIn K mainGlobals "all" = some none)
    (z_bool : PySem.W.nsIn K mainGlobals "bool" = some none)
    (z_int : PySem.W.nsIn K mainGlobals "int" = some none)
    (z_isinstance : PySem.W.nsIn K mainGlobals "isinstance" = some none)
    (z_len : PySem.W.nsIn K mainGlobals "len" = some none)
    (z_list : PySem.W.nsIn K mainGlobals "list" = some none)
    (z_max : PySem.W.nsIn K mainGlobals "max" = some none)
    (z_min : PySem.W.nsIn K mainGlobals "min" = some none)
    (z_range : PySem.W.nsIn K mainGlobals "range" = some none)
    (z_sorted : PySem.W.nsIn K mainGlobals "sorted" = some none)
    (z_str : PySem.W.nsIn K mainGlobals "str" = some none)
    (z_tuple : PySem.W.nsIn K mainGlobals "tuple" = some none)
    (z_type : PySem.W.nsIn K mainGlobals "type" = some none)
    (z_zip : PySem.W.nsIn K mainGlobals "zip" = some none)
    {d : Addr} {es : Array DictEntry} {no : Nat} (sm : PySem.W.nsIn K mainGlobals "SIGNS" = some (some (.ref d))) (sl : K.lookup d = some ⟨.type "dict", none, .dict es no, #[]⟩) (st : PySem.W.KeysLit w.params es.toList) (sy : (d == sysModules) = false) (sk : keysAre es.toList [("num", .str ""), ("at", .str "@"), ("box", .str "b"), ("go", .str "g")])
    {tLETTERS : Tok} (sLETTERS : PySem.W.nsIn K mainGlobals "LETTERS" = some (some (.str "abcdefghijklmnopqrstuvwxyz" tLETTERS)))
    {tMOST_LETTERS : Tok} (sMOST_LETTERS : PySem.W.nsIn K mainGlobals "MOST_LETTERS" = some (some (.int 8 tMOST_LETTERS)))
    : ∃ fd : FuncData, (∀ (s : Shared) (v : Value), BindsTo s fd ⟨[v], []⟩ [("script", v)]) ∧ ∀ base : Heap, K.In base → base.Ns mainGlobals mg → FnOk l.prog w K mg base CX0 18 fa fd ["script"] (spLaw K) := by
  have e := hfa.symm.trans (PySem.W.mg_of X G a51)
  cases e
  have F0 := fun_mk (st := s_is_number) l0 c0 k0
  have F1 := fun_mk (st := s_is_worth) l1 c1 k1
  have F2 := fun_mk (st := s_is_thing) l2 c2 k2
  have F3 := fun_mk (st := s_is_name) l3 c3 k3
  have F4 := fun_mk (st := s_is_count) l4 c4 k4
  have F5 := fun_mk (st := s_Tally_init) l5 c5 k5
  have F6 := fun_mk (st := s_Tally_more) l6 c6 k6
  have F7 := fun_mk (st := s_Tally_less) l7 c7 k7
  have F8 := fun_mk (st := s_Tally_loosened) l8 c8 k8
  have F9 := fun_mk (st := s_WholePiles_init) l9 c9 k9
  have F10 := fun_mk (st := s_WholePiles_lay) l10 c10 k10
  have F11 := fun_mk (st := s_WholePiles_height) l11 c11 k11
  have F12 := fun_mk (st := s_WholePiles_pile) l12 c12 k12
  have F13 := fun_mk (st := s_WholePiles_put) l13 c13 k13
  have F14 := fun_mk (st := s_WholePiles_take) l14 c14 k14
  have F15 := fun_mk (st := s_WholePiles_keep) l15 c15 k15
  have F16 := fun_mk (st := s_WholePiles_release) l16 c16 k16
  have F17 := fun_mk (st := s_check_name) l17 c17 k17
  have F18 := fun_mk (st := s_check_place) l18 c18 k18
  have F19 := fun_mk (st := s_least_free) l19 c19 k19
  have F20 := fun_mk (st := s_Copies_init) l20 c20 k20
  have F21 := fun_mk (st := s_Copies_begin) l21 c21 k21
  have F22 := fun_mk (st := s_Copies_lay_piles) l22 c22 k22
  have F23 := fun_mk (st := s_Copies_has) l23 c23 k23
  have F24 := fun_mk (st := s_Copies_check_worth) l24 c24 k24
  have F25 := fun_mk (st := s_Copies_check_box) l25 c25 k25
  have F26 := fun_mk (st := s_Copies_check_peg) l26 c26 k26
  have F27 := fun_mk (st := s_Copies_drop) l27 c27 k27
  have F28 := fun_mk (st := s_Copies_settle) l28 c28 k28
  have F29 := fun_mk (st := s_Copies_put) l29 c29 k29
  have F30 : FunD K "take" "Copies.take" (defArgs s_Copies_take) (defBody s_Copies_take) (defScope s_Copies_take) [.int 0] [] f30 _ := ⟨⟨_, _, _, _, _, _, _, _, _, _, rfl, l30, c30, .inr ⟨by simp, T30, oT30, iT30, nT30, rfl, lT30, dT30, vT30⟩, .inl rfl⟩, k30⟩
  obtain ⟨dn30, vn30, bn30⟩ := F30.binds1 (ps := ["self", "k"]) 2 1 (by simp) rfl (fun _ _ _ _ _ _ _ us its h1 h2 => match us, h1, its, h2 with | [_, _], _, [_], _ => ⟨_, rfl, rfl⟩)
  cases vn30
  obtain ⟨ds30, bv30, bd30⟩ := F30.binds1 (ps := ["self", "k"]) 1 0 (by simp) rfl (fun _ _ _ _ _ _ _ us its h1 h2 => match us, h1, its, h2 with | [_], _, [_], _ => ⟨_, rfl, rfl⟩)
  have F31 := fun_mk (st := s_Copies_height) l31 c31 k31
  have F32 := fun_mk (st := s_Copies_pile) l32 c32 k32
  have F33 := fun_mk (st := s_Copies_keep) l33 c33 k33
  have F34 := fun_mk (st := s_Copies_box) l34 c34 k34
  have F35 := fun_mk (st := s_Copies_held) l35 c35 k35
  have F36 := fun_mk (st := s_Copies_peg) l36 c36 k36
  have F37 := fun_mk (st := s_Copies_pegged) l37 c37 k37
  have F38 := fun_mk (st := s_Copies_unpeg) l38 c38 k38
  have F39 := fun_mk (st := s_Copies_pegs) l39 c39 k39
  have F40 := fun_mk (st := s_cell_at) l40 c40 k40
  have F41 := fun_mk (st := s_bag) l41 c41 k41
  have F42 := fun_mk (st := s_draw) l42 c42 k42
  have F43 := fun_mk (st := s_plain) l43 c43 k43
  have F44 := fun_mk (st := s_whole) l44 c44 k44
  have F45 := fun_mk (st := s_same) l45 c45 k45
  have F46 := fun_mk (st := s_same_pile) l46 c46 k46
  have F47 := fun_mk (st := s_letters) l47 c47 k47
  have F48 := fun_mk (st := s_names) l48 c48 k48
  have F49 := fun_mk (st := s_deed) l49 c49 k49
  have F50 := fun_mk (st := s_looked) l50 c50 k50
  have F51 := fun_mk (st := s_law) l51 c51 k51
  let T : Txt l.prog w K mg := {
    f_is_number := f0,
    fd_is_number := _,
    F_is_number := F0,
    b_is_number := F0.binds (ps := ["thing"]) fun _ _ _ _ _ _ us hl => match us, hl with | [_], _ => rfl,
    g_is_number := PySem.W.mg_of X G a0,
    f_is_worth := f1,
    fd_is_worth := _,
    F_is_worth := F1,
    b_is_worth := F1.binds (ps := ["thing"]) fun _ _ _ _ _ _ us hl => match us, hl with | [_], _ => rfl,
    g_is_worth := PySem.W.mg_of X G a1,
    f_is_thing := f2,
    fd_is_thing := _,
    F_is_thing := F2,
    b_is_thing := F2.binds (ps := ["worth"]) fun _ _ _ _ _ _ us hl => match us, hl with | [_], _ => rfl,
    g_is_thing := PySem.W.mg_of X G a2,
    f_is_name := f3,
    fd_is_name := _,
    F_is_name := F3,
    b_is_name := F3.binds (ps := ["thing"]) fun _ _ _ _ _ _ us hl => match us, hl with | [_], _ => rfl,
    g_is_name := PySem.W.mg_of X G a3,
    f_is_count := f4,
    fd_is_count := _,
    F_is_count := F4,
    b_is_count := F4.binds (ps := ["thing"]) fun _ _ _ _ _ _ us hl => match us, hl with | [_], _ => rfl,
    g_is_count := PySem.W.mg_of X G a4,
    f_Tally_init := f5,
    fd_Tally_init := _,
    F_Tally_init := F5,
    b_Tally_init := F5.binds (ps := ["self"]) fun _ _ _ _ _ _ us hl => match us, hl with | [_], _ => rfl,
    mk_Tally := ⟨mk_Tally, a5, i5, kc_Tally⟩,
    f_Tally_more := f6,
    fd_Tally_more := _,
    F_Tally_more := F6,
    b_Tally_more := F6.binds (ps := ["self", "worths"]) fun _ _ _ _ _ _ us hl => match us, hl with | [_, _], _ => rfl,
    m_Tally_more := ⟨a6, i6, k6⟩,
    f_Tally_less := f7,
    fd_Tally_less := _,
    F_Tally_less := F7,
    b_Tally_less := F7.binds (ps := ["self", "worths"]) fun _ _ _ _ _ _ us hl => match us, hl with | [_, _], _ => rfl,
    m_Tally_less := ⟨a7, i7, k7⟩,
    f_Tally_loosened := f8,
    fd_Tally_loosened := _,
    F_Tally_loosened := F8,
    b_Tally_loosened := F8.binds (ps := ["self"]) fun _ _ _ _ _ _ us hl => match us, hl with | [_], _ => rfl,
    m_Tally_loosened := ⟨a8, i8, k8⟩,
    f_WholePiles_init := f9,
    fd_WholePiles_init := _,
    F_WholePiles_init := F9,
    b_WholePiles_init := F9.binds (ps := ["self"]) fun _ _ _ _ _ _ us hl => match us, hl with | [_], _ => rfl,
    mk_WholePiles := ⟨mk_WholePiles, a9, i9, kc_WholePiles⟩,
    f_WholePiles_lay := f10,
    fd_WholePiles_lay := _,
    F_WholePiles_lay := F10,
    b_WholePiles_lay := F10.binds (ps := ["self", "piles"]) fun _ _ _ _ _ _ us hl => match us, hl with | [_, _], _ => rfl,
    m_WholePiles_lay := ⟨a10, i10, k10⟩,
    f_WholePiles_height := f11,
    fd_WholePiles_height := _,
    F_WholePiles_height := F11,
    b_WholePiles_height := F11.binds (ps := ["self"]) fun _ _ _ _ _ _ us hl => match us, hl with | [_], _ => rfl,
    m_WholePiles_height := ⟨a11, i11, k11⟩,
    f_WholePiles_pile := f12,
    fd_WholePiles_pile := _,
    F_WholePiles_pile := F12,
    b_WholePiles_pile := F12.binds (ps := ["self"]) fun _ _ _ _ _ _ us hl => match us, hl with | [_], _ => rfl,
    m_WholePiles_pile := ⟨a12, i12, k12⟩,
    f_WholePiles_put := f13,
    fd_WholePiles_put := _,
    F_WholePiles_put := F13,
    b_WholePiles_put := F13.binds (ps := ["self", "worth"]) fun _ _ _ _ _ _ us hl => match us, hl with | [_, _], _ => rfl,
    m_WholePiles_put := ⟨a13, i13, k13⟩,
    f_WholePiles_take := f14,
    fd_WholePiles_take := _,
    F_WholePiles_take := F14,
    b_WholePiles_take := F14.binds (ps := ["self", "k"]) fun _ _ _ _ _ _ us hl => match us, hl with | [_, _], _ => rfl,
    m_WholePiles_take := ⟨a14, i14, k14⟩,
    f_WholePiles_keep := f15,
    fd_WholePiles_keep := _,
    F_WholePiles_keep := F15,
    b_WholePiles_keep := F15.binds (ps := ["self"]) fun _ _ _ _ _ _ us hl => match us, hl with | [_], _ => rfl,
    m_WholePiles_keep := ⟨a15, i15, k15⟩,
    f_WholePiles_release := f16,
    fd_WholePiles_release := _,
    F_WholePiles_release := F16,
    b_WholePiles_release := F16.binds (ps := ["self", "kept"]) fun _ _ _ _ _ _ us hl => match us, hl with | [_, _], _ => rfl,
    m_WholePiles_release := ⟨a16, i16, k16⟩,
    f_check_name := f17,
    fd_check_name := _,
    F_check_name := F17,
    b_check_name := F17.binds (ps := ["name"]) fun _ _ _ _ _ _ us hl => match us, hl with | [_], _ => rfl,
    g_check_name := PySem.W.mg_of X G a17,
    f_check_place := f18,
    fd_check_place := _,
    F_check_place := F18,
    b_check_place := F18.binds (ps := ["k", "many"]) fun _ _ _ _ _ _ us hl => match us, hl with | [_, _], _ => rfl,
    g_check_place := PySem.W.mg_of X G a18,
    f_least_free := f19,
    fd_least_free := _,
    F_least_free := F19,
    b_least_free := F19.binds (ps := ["table"]) fun _ _ _ _ _ _ us hl => match us, hl with | [_], _ => rfl,
    g_least_free := PySem.W.mg_of X G a19,
    f_Copies_init := f20,
    fd_Copies_init := _,
    F_Copies_init := F20,
    b_Copies_init := F20.binds (ps := ["self"]) fun _ _ _ _ _ _ us hl => match us, hl with | [_], _ => rfl,
    mk_Copies := ⟨mk_Copies, a20, i20, kc_Copies⟩,
    f_Copies_begin := f21,
    fd_Copies_begin := _,
    F_Copies_begin := F21,
    b_Copies_begin := F21.binds (ps := ["self", "piles", "picture"]) fun _ _ _ _ _ _ us hl => match us, hl with | [_, _, _], _ => rfl,
    m_Copies_begin := ⟨a21, i21, k21⟩,
    f_Copies_lay_piles := f22,
    fd_Copies_lay_piles := _,
    F_Copies_lay_piles := F22,
    b_Copies_lay_piles := F22.binds (ps := ["self", "pile", "goings"]) fun _ _ _ _ _ _ us hl => match us, hl with | [_, _, _], _ => rfl,
    m_Copies_lay_piles := ⟨a22, i22, k22⟩,
    f_Copies_has := f23,
    fd_Copies_has := _,
    F_Copies_has := F23,
    b_Copies_has := F23.binds (ps := ["self", "thing"]) fun _ _ _ _ _ _ us hl => match us, hl with | [_, _], _ => rfl,
    m_Copies_has := ⟨a23, i23, k23⟩,
    f_Copies_check_worth := f24,
    fd_Copies_check_worth := _,
    F_Copies_check_worth := F24,
    b_Copies_check_worth := F24.binds (ps := ["self", "worth"]) fun _ _ _ _ _ _ us hl => match us, hl with | [_, _], _ => rfl,
    m_Copies_check_worth := ⟨a24, i24, k24⟩,
    f_Copies_check_box := f25,
    fd_Copies_check_box := _,
    F_Copies_check_box := F25,
    b_Copies_check_box := F25.binds (ps := ["self", "b"]) fun _ _ _ _ _ _ us hl => match us, hl with | [_, _], _ => rfl,
    m_Copies_check_box := ⟨a25, i25, k25⟩,
    f_Copies_check_peg := f26,
    fd_Copies_check_peg := _,
    F_Copies_check_peg := F26,
    b_Copies_check_peg := F26.binds (ps := ["self", "name"]) fun _ _ _ _ _ _ us hl => match us, hl with | [_, _], _ => rfl,
    m_Copies_check_peg := ⟨a26, i26, k26⟩,
    f_Copies_drop := f27,
    fd_Copies_drop := _,
    F_Copies_drop := F27,
    b_Copies_drop := F27.binds (ps := ["self", "thing"]) fun _ _ _ _ _ _ us hl => match us, hl with | [_, _], _ => rfl,
    m_Copies_drop := ⟨a27, i27, k27⟩,
    f_Copies_settle := f28,
    fd_Copies_settle := _,
    F_Copies_settle := F28,
    b_Copies_settle := F28.binds (ps := ["self"]) fun _ _ _ _ _ _ us hl => match us, hl with | [_], _ => rfl,
    m_Copies_settle := ⟨a28, i28, k28⟩,
    f_Copies_put := f29,
    fd_Copies_put := _,
    F_Copies_put := F29,
    b_Copies_put := F29.binds (ps := ["self", "worth"]) fun _ _ _ _ _ _ us hl => match us, hl with | [_, _], _ => rfl,
    m_Copies_put := ⟨a29, i29, k29⟩,
    f_Copies_take := f30,
    fd_Copies_take := _,
    F_Copies_take := F30,
    b_Copies_take := bn30,
    ds_Copies_take := ds30,
    bd_Copies_take := bd30,
    bv_Copies_take := bv30,
    m_Copies_take := ⟨a30, i30, k30⟩,
    f_Copies_height := f31,
    fd_Copies_height := _,
    F_Copies_height := F31,
    b_Copies_height := F31.binds (ps := ["self"]) fun _ _ _ _ _ _ us hl => match us, hl with | [_], _ => rfl,
    m_Copies_height := ⟨a31, i31, k31⟩,
    f_Copies_pile := f32,
    fd_Copies_pile := _,
    F_Copies_pile := F32,
    b_Copies_pile := F32.binds (ps := ["self"]) fun _ _ _ _ _ _ us hl => match us, hl with | [_], _ => rfl,
    m_Copies_pile := ⟨a32, i32, k32⟩,
    f_Copies_keep := f33,
    fd_Copies_keep := _,
    F_Copies_keep := F33,
    b_Copies_keep := F33.binds (ps := ["self", "place"]) fun _ _ _ _ _ _ us hl => match us, hl with | [_, _], _ => rfl,
    m_Copies_keep := ⟨a33, i33, k33⟩,
    f_Copies_box := f34,
    fd_Copies_box := _,
    F_Copies_box := F34,
    b_Copies_box := F34.binds (ps := ["self"]) fun _ _ _ _ _ _ us hl => match us, hl with | [_], _ => rfl,
    m_Copies_box := ⟨a34, i34, k34⟩,
    f_Copies_held := f35,
    fd_Copies_held := _,
    F_Copies_held := F35,
    b_Copies_held := F35.binds (ps := ["self", "b"]) fun _ _ _ _ _ _ us hl => match us, hl with | [_, _], _ => rfl,
    m_Copies_held := ⟨a35, i35, k35⟩,
    f_Copies_peg := f36,
    fd_Copies_peg := _,
    F_Copies_peg := F36,
    b_Copies_peg := F36.binds (ps := ["self", "name", "worth"]) fun _ _ _ _ _ _ us hl => match us, hl with | [_, _, _], _ => rfl,
    m_Copies_peg := ⟨a36, i36, k36⟩,
    f_Copies_pegged := f37,
    fd_Copies_pegged := _,
    F_Copies_pegged := F37,
    b_Copies_pegged := F37.binds (ps := ["self", "name"]) fun _ _ _ _ _ _ us hl => match us, hl with | [_, _], _ => rfl,
    m_Copies_pegged := ⟨a37, i37, k37⟩,
    f_Copies_unpeg := f38,
    fd_Copies_unpeg := _,
    F_Copies_unpeg := F38,
    b_Copies_unpeg := F38.binds (ps := ["self", "name"]) fun _ _ _ _ _ _ us hl => match us, hl with | [_, _], _ => rfl,
    m_Copies_unpeg := ⟨a38, i38, k38⟩,
    f_Copies_pegs := f39,
    fd_Copies_pegs := _,
    F_Copies_pegs := F39,
    b_Copies_pegs := F39.binds (ps := ["self"]) fun _ _ _ _ _ _ us hl => match us, hl with | [_], _ => rfl,
    m_Copies_pegs := ⟨a39, i39, k39⟩,
    f_cell_at := f40,
    fd_cell_at := _,
    F_cell_at := F40,
    b_cell_at := F40.binds (ps := ["script", "k"]) fun _ _ _ _ _ _ us hl => match us, hl with | [_, _], _ => rfl,
    g_cell_at := PySem.W.mg_of X G a40,
    f_bag := f41,
    fd_bag := _,
    F_bag := F41,
    b_bag := F41.binds (ps := ["cell", "place"]) fun _ _ _ _ _ _ us hl => match us, hl with | [_, _], _ => rfl,
    g_bag := PySem.W.mg_of X G a41,
    f_draw := f42,
    fd_draw := _,
    F_draw := F42,
    b_draw := F42.binds (ps := ["bag", "many"]) fun _ _ _ _ _ _ us hl => match us, hl with | [_, _], _ => rfl,
    g_draw := PySem.W.mg_of X G a42,
    f_plain := f43,
    fd_plain := _,
    F_plain := F43,
    b_plain := F43.binds (ps := ["bag"]) fun _ _ _ _ _ _ us hl => match us, hl with | [_], _ => rfl,
    g_plain := PySem.W.mg_of X G a43,
    f_whole := f44,
    fd_whole := _,
    F_whole := F44,
    b_whole := F44.binds (ps := ["found"]) fun _ _ _ _ _ _ us hl => match us, hl with | [_], _ => rfl,
    g_whole := PySem.W.mg_of X G a44,
    f_same := f45,
    fd_same := _,
    F_same := F45,
    b_same := F45.binds (ps := ["found", "due"]) fun _ _ _ _ _ _ us hl => match us, hl with | [_, _], _ => rfl,
    g_same := PySem.W.mg_of X G a45,
    f_same_pile := f46,
    fd_same_pile := _,
    F_same_pile := F46,
    b_same_pile := F46.binds (ps := ["found", "due"]) fun _ _ _ _ _ _ us hl => match us, hl with | [_, _], _ => rfl,
    g_same_pile := PySem.W.mg_of X G a46,
    f_letters := f47,
    fd_letters := _,
    F_letters := F47,
    b_letters := F47.binds (ps := ["bag", "many"]) fun _ _ _ _ _ _ us hl => match us, hl with | [_, _], _ => rfl,
    g_letters := PySem.W.mg_of X G a47,
    f_names := f48,
    fd_names := _,
    F_names := F48,
    b_names := F48.binds (ps := ["bag"]) fun _ _ _ _ _ _ us hl => match us, hl with | [_], _ => rfl,
    g_names := PySem.W.mg_of X G a48,
    f_deed := f49,
    fd_deed := _,
    F_deed := F49,
    b_deed := F49.binds (ps := ["bag", "house", "names", "has"]) fun _ _ _ _ _ _ us hl => match us, hl with | [_, _, _, _], _ => rfl,
    g_deed := PySem.W.mg_of X G a49,
    f_looked := f50,
    fd_looked := _,
    F_looked := F50,
    b_looked := F50.binds (ps := ["bag", "house", "has"]) fun _ _ _ _ _ _ us hl => match us, hl with | [_, _, _], _ => rfl,
    g_looked := PySem.W.mg_of X G a50,
    f_law := fa,
    fd_law := _,
    F_law := F51,
    b_law := F51.binds (ps := ["script"]) fun _ _ _ _ _ _ us hl => match us, hl with | [_], _ => rfl,
    g_law := PySem.W.mg_of X G a51,
    o_Tally := O_Tally,
    cl_Tally := ⟨pg_Tally, hd_Tally, po_Tally, sa_Tally⟩,
    gC_Tally := PySem.W.mg_of X G aC_Tally,
    na_Tally_loose := nf_Tally_loose,
    na_Tally_places := nf_Tally_places,
    o_WholePiles := O_WholePiles,
    cl_WholePiles := ⟨pg_WholePiles, hd_WholePiles, po_WholePiles, sa_WholePiles⟩,
    gC_WholePiles := PySem.W.mg_of X G aC_WholePiles,
    na_WholePiles_tally := nf_WholePiles_tally,
    na_WholePiles_worths := nf_WholePiles_worths,
    o_Copies := O_Copies,
    cl_Copies := ⟨pg_Copies, hd_Copies, po_Copies, sa_Copies⟩,
    gC_Copies := PySem.W.mg_of X G aC_Copies,
    na_Copies_box_worths := nf_Copies_box_worths,
    na_Copies_kept_goings := nf_Copies_kept_goings,
    na_Copies_peg_worths := nf_Copies_peg_worths,
    na_Copies_piles := nf_Copies_piles,
    na_Copies_tally := nf_Copies_tally,
    n_all := PySem.W.mg_none_of X G z_all,
    n_bool := PySem.W.mg_none_of X G z_bool,
    n_int := PySem.W.mg_none_of X G z_int,
    n_isinstance := PySem.W.mg_none_of X G z_isinstance,
    n_len := PySem.W.mg_none_of X G z_len,
    n_list := PySem.W.mg_none_of X G z_list,
    n_max := PySem.W.mg_none_of X G z_max,
    n_min := PySem.W.mg_none_of X G z_min,
    n_range := PySem.W.mg_none_of X G z_range,
    n_sorted := PySem.W.mg_none_of X G z_sorted,
    n_str := PySem.W.mg_none_of X G z_str,
    n_tuple := PySem.W.mg_none_of X G z_tuple,
    n_type := PySem.W.mg_none_of X G z_type,
    n_zip := PySem.W.mg_none_of X G z_zip,
    d_SIGNS := d,
    es_SIGNS := es,
    no_SIGNS := no,
    c_SIGNS := PySem.W.mg_of X G sm,
    k_SIGNS := ⟨sl, st, sy⟩,
    i_SIGNS := signs_in sl sk,
    t_LETTERS := tLETTERS,
    c_LETTERS := PySem.W.mg_of X G sLETTERS,
    t_MOST_LETTERS := tMOST_LETTERS,
    c_MOST_LETTERS := PySem.W.mg_of X G sMOST_LETTERS }
  exact ⟨PySem.W.fnOf "law" "law" (defArgs s_law) (defBody s_law) (defScope s_law) .none kV51 dc51 pm51 an51 cd51 ct51, fun s v => .of_eq rfl, fun base _ _ => ok_law T⟩
end K28
open PySem PySem.W PyProof.Rows
set_option maxHeartbeats 0 in
theorem PySem.Challenge.cw_manygoings_k28_pegs_holds : PySem.Challenge.rw_manygoings_k28_pegs.Holds := by
  w_on; o_law; k_head; (case hw => w_witness2)
  k_fill
  refine L2.walk_of (l := PySem.Challenge.rw_manygoings_k28_pegs) (n := 63) (k := 18) (x := "script") (CX := fun _ => L2.CX0) (sp := fun w => K28.spLaw _) rfl (by decide) rfl ⟨rfl, by decide, by decide⟩ (fun w h Y => PySem.W.kIn_of Y) ?F (fun _ _ a ns hl _ hS => ⟨a, ns, rfl, hS, hl, fun _ => rfl⟩) (fun _ _ _ _ _ h => h)
  case F =>
    intro w mg fa h KX G hmg
    refine' K28.all_mk KX G hmg ?aC_Tally ?pg_Tally ?hd_Tally ?po_Tally ?sa_Tally ?mk_Tally ?kc_Tally ?nf_Tally_loose ?nf_Tally_places ?aC_WholePiles ?pg_WholePiles ?hd_WholePiles ?po_WholePiles ?sa_WholePiles ?mk_WholePiles ?kc_WholePiles ?nf_WholePiles_tally ?nf_WholePiles_worths ?aC_Copies ?pg_Copies ?hd_Copies ?po_Copies ?sa_Copies ?mk_Copies ?kc_Copies ?nf_Copies_box_worths ?nf_Copies_kept_goings ?nf_Copies_peg_worths ?nf_Copies_piles ?nf_Copies_tally ?a0 ?l0 ?c0 ?k0 ?a1 ?l1 ?c1 ?k1 ?a2 ?l2 ?c2 ?k2 ?a3 ?l3 ?c3 ?k3 ?a4 ?l4 ?c4 ?k4 ?a5 ?i5 ?l5 ?c5 ?k5 ?a6 ?i6 ?l6 ?c6 ?k6 ?a7 ?i7 ?l7 ?c7 ?k7 ?a8 ?i8 ?l8 ?c8 ?k8 ?a9 ?i9 ?l9 ?c9 ?k9 ?a10 ?i10 ?l10 ?c10 ?k10 ?a11 ?i11 ?l11 ?c11 ?k11 ?a12 ?i12 ?l12 ?c12 ?k12 ?a13 ?i13 ?l13 ?c13 ?k13 ?a14 ?i14 ?l14 ?c14 ?k14 ?a15 ?i15 ?l15 ?c15 ?k15 ?a16 ?i16 ?l16 ?c16 ?k16 ?a17 ?l17 ?c17 ?k17 ?a18 ?l18 ?c18 ?k18 ?a19 ?l19 ?c19 ?k19 ?a20 ?i20 ?l20 ?c20 ?k20 ?a21 ?i21 ?l21 ?c21 ?k21 ?a22 ?i22 ?l22 ?c22 ?k22 ?a23 ?i23 ?l23 ?c23 ?k23 ?a24 ?i24 ?l24 ?c24 ?k24 ?a25 ?i25 ?l25 ?c25 ?k25 ?a26 ?i26 ?l26 ?c26 ?k26 ?a27 ?i27 ?l27 ?c27 ?k27 ?a28 ?i28 ?l28 ?c28 ?k28 ?a29 ?i29 ?l29 ?c29 ?k29 ?a30 ?i30 ?l30 ?c30 ?k30 ?lT30 ?dT30 ?vT30 ?a31 ?i31 ?l31 ?c31 ?k31 ?a32 ?i32 ?l32 ?c32 ?k32 ?a33 ?i33 ?l33 ?c33 ?k33 ?a34 ?i34 ?l34 ?c34 ?k34 ?a35 ?i35 ?l35 ?c35 ?k35 ?a36 ?i36 ?l36 ?c36 ?k36 ?a37 ?i37 ?l37 ?c37 ?k37 ?a38 ?i38 ?l38 ?c38 ?k38 ?a39 ?i39 ?l39 ?c39 ?k39 ?a40 ?l40 ?c40 ?k40 ?a41 ?l41 ?c41 ?k41 ?a42 ?l42 ?c42 ?k42 ?a43 ?l43 ?c43 ?k43 ?a44 ?l44 ?c44 ?k44 ?a45 ?l45 ?c45 ?k45 ?a46 ?l46 ?c46 ?k46 ?a47 ?l47 ?c47 ?k47 ?a48 ?l48 ?c48 ?k48 ?a49 ?l49 ?c49 ?k49 ?a50 ?l50 ?c50 ?k50 ?a51 ?l51 ?c51 ?k51 ?z_all ?z_bool ?z_int ?z_isinstance ?z_len ?z_list ?z_max ?z_min ?z_range ?z_sorted ?z_str ?z_tuple ?z_type ?z_zip ?sm ?sl ?st ?sy ?sk ?sLETTERS ?sMOST_LETTERS
    (case aC_Tally => k_is); (case pg_Tally => k_is); (case hd_Tally => k_is); (case po_Tally => k_is); (case sa_Tally => k_is); (case mk_Tally => k_is); (case kc_Tally => k_is); (case nf_Tally_loose => k_is); (case nf_Tally_places => k_is); (case aC_WholePiles => k_is); (case pg_WholePiles => k_is); (case hd_WholePiles => k_is); (case po_WholePiles => k_is); (case sa_WholePiles => k_is); (case mk_WholePiles => k_is); (case kc_WholePiles => k_is); (case nf_WholePiles_tally => k_is); (case nf_WholePiles_worths => k_is); (case aC_Copies => k_is); (case pg_Copies => k_is); (case hd_Copies => k_is); (case po_Copies => k_is); (case sa_Copies => k_is); (case mk_Copies => k_is); (case kc_Copies => k_is); (case nf_Copies_box_worths => k_is); (case nf_Copies_kept_goings => k_is); (case nf_Copies_peg_worths => k_is); (case nf_Copies_piles => k_is); (case nf_Copies_tally => k_is); (case a0 => k_is); (case l0 => k_is); (case c0 => k_is); (case k0 => k_is); (case a1 => k_is); (case l1 => k_is); (case c1 => k_is); (case k1 => k_is); (case a2 => k_is); (case l2 => k_is); (case c2 => k_is); (case k2 => k_is); (case a3 => k_is); (case l3 => k_is); (case c3 => k_is); (case k3 => k_is); (case a4 => k_is); (case l4 => k_is); (case c4 => k_is); (case k4 => k_is); (case a5 => k_is); (case i5 => k_is); (case l5 => k_is); (case c5 => k_is); (case k5 => k_is); (case a6 => k_is); (case i6 => k_is); (case l6 => k_is); (case c6 => k_is); (case k6 => k_is); (case a7 => k_is); (case i7 => k_is); (case l7 => k_is); (case c7 => k_is); (case k7 => k_is); (case a8 => k_is); (case i8 => k_is); (case l8 => k_is); (case c8 => k_is); (case k8 => k_is); (case a9 => k_is); (case i9 => k_is); (case l9 => k_is); (case c9 => k_is); (case k9 => k_is); (case a10 => k_is); (case i10 => k_is); (case l10 => k_is); (case c10 => k_is); (case k10 => k_is); (case a11 => k_is); (case i11 => k_is); (case l11 => k_is); (case c11 => k_is); (case k11 => k_is); (case a12 => k_is); (case i12 => k_is); (case l12 => k_is); (case c12 => k_is); (case k12 => k_is); (case a13 => k_is); (case i13 => k_is); (case l13 => k_is); (case c13 => k_is); (case k13 => k_is); (case a14 => k_is); (case i14 => k_is); (case l14 => k_is); (case c14 => k_is); (case k14 => k_is); (case a15 => k_is); (case i15 => k_is); (case l15 => k_is); (case c15 => k_is); (case k15 => k_is); (case a16 => k_is); (case i16 => k_is); (case l16 => k_is); (case c16 => k_is); (case k16 => k_is); (case a17 => k_is); (case l17 => k_is); (case c17 => k_is); (case k17 => k_is); (case a18 => k_is); (case l18 => k_is); (case c18 => k_is); (case k18 => k_is); (case a19 => k_is); (case l19 => k_is); (case c19 => k_is); (case k19 => k_is); (case a20 => k_is); (case i20 => k_is); (case l20 => k_is); (case c20 => k_is); (case k20 => k_is); (case a21 => k_is); (case i21 => k_is); (case l21 => k_is); (case c21 => k_is); (case k21 => k_is); (case a22 => k_is); (case i22 => k_is); (case l22 => k_is); (case c22 => k_is); (case k22 => k_is); (case a23 => k_is); (case i23 => k_is); (case l23 => k_is); (case c23 => k_is); (case k23 => k_is); (case a24 => k_is); (case i24 => k_is); (case l24 => k_is); (case c24 => k_is); (case k24 => k_is); (case a25 => k_is); (case i25 => k_is); (case l25 => k_is); (case c25 => k_is); (case k25 => k_is); (case a26 => k_is); (case i26 => k_is); (case l26 => k_is); (case c26 => k_is); (case k26 => k_is); (case a27 => k_is); (case i27 => k_is); (case l27 => k_is); (case c27 => k_is); (case k27 => k_is); (case a28 => k_is); (case i28 => k_is); (case l28 => k_is); (case c28 => k_is); (case k28 => k_is); (case a29 => k_is); (case i29 => k_is); (case l29 => k_is); (case c29 => k_is); (case k29 => k_is); (case a30 => k_is); (case i30 => k_is); (case l30 => k_is); (case c30 => k_is); (case k30 => k_is); (case lT30 => k_is); (case dT30 => exact rfl); (case vT30 => exact .cons ⟨_, rfl⟩ .nil); (case a31 => k_is); (case i31 => k_is); (case l31 => k_is); (case c31 => k_is); (case k31 => k_is); (case a32 => k_is); (case i32 => k_is); (case l32 => k_is); (case c32 => k_is); (case k32 => k_is); (case a33 => k_is); (case i33 => k_is); (case l33 => k_is); (case c33 => k_is); (case k33 => k_is); (case a34 => k_is); (case i34 => k_is); (case l34 => k_is); (case c34 => k_is); (case k34 => k_is); (case a35 => k_is); (case i35 => k_is); (case l35 => k_is); (case c35 => k_is); (case k35 => k_is); (case a36 => k_is); (case i36 => k_is); (case l36 => k_is); (case c36 => k_is); (case k36 => k_is); (case a37 => k_is); (case i37 => k_is); (case l37 => k_is); (case c37 => k_is); (case k37 => k_is); (case a38 => k_is); (case i38 => k_is); (case l38 => k_is); (case c38 => k_is); (case k38 => k_is); (case a39 => k_is); (case i39 => k_is); (case l39 => k_is); (case c39 => k_is); (case k39 => k_is); (case a40 => k_is); (case l40 => k_is); (case c40 => k_is); (case k40 => k_is); (case a41 => k_is); (case l41 => k_is); (case c41 => k_is); (case k41 => k_is); (case a42 => k_is); (case l42 => k_is); (case c42 => k_is); (case k42 => k_is); (case a43 => k_is); (case l43 => k_is); (case c43 => k_is); (case k43 => k_is); (case a44 => k_is); (case l44 => k_is); (case c44 => k_is); (case k44 => k_is); (case a45 => k_is); (case l45 => k_is); (case c45 => k_is); (case k45 => k_is); (case a46 => k_is); (case l46 => k_is); (case c46 => k_is); (case k46 => k_is); (case a47 => k_is); (case l47 => k_is); (case c47 => k_is); (case k47 => k_is); (case a48 => k_is); (case l48 => k_is); (case c48 => k_is); (case k48 => k_is); (case a49 => k_is); (case l49 => k_is); (case c49 => k_is); (case k49 => k_is); (case a50 => k_is); (case l50 => k_is); (case c50 => k_is); (case k50 => k_is); (case a51 => k_is); (case l51 => k_is); (case c51 => k_is); (case k51 => k_is); (case z_all => k_is); (case z_bool => k_is); (case z_int => k_is); (case z_isinstance => k_is); (case z_len => k_is); (case z_list => k_is); (case z_max => k_is); (case z_min => k_is); (case z_range => k_is); (case z_sorted => k_is); (case z_str => k_is); (case z_tuple => k_is); (case z_type => k_is); (case z_zip => k_is)
    (case sm => k_is)
    (case sl => k_is)
    (case st => k_keys)
    (case sy => rfl)
    (case sk => exact ⟨⟨_, rfl⟩, ⟨_, rfl⟩, ⟨_, rfl⟩, ⟨_, rfl⟩, ⟨_, rfl⟩, ⟨_, rfl⟩, ⟨_, rfl⟩, ⟨_, rfl⟩, True.intro⟩)
    (case sLETTERS => k_is)
    (case sMOST_LETTERS => k_is)

