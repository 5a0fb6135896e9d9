import PyProof.Rows.All
import Wide.All
import OpenK.AllK
import Wide.FinOn
import HandS.ForMost
import HandS.IsInst
import HandS.Wide
import HandS.More
import PySem.Challenge.RW_manygoings_k01_what_is_a_worth
set_option Elab.async false
set_option linter.all false
set_option maxRecDepth 100000
set_option maxHeartbeats 4000000
/-! Steps over the readings of the hand layer: one lemma a form, and a walk by them. -/
namespace Wp
open PySem PySem.Spec PyProof.Rows L2
section
variable {σ : L2.St} {H : Hp} {Q : VK} {D : Ends} {te ta tb tc : TE} {t u v : TS} {c c2 : TT} {x y z : V} {i : Nat} {K : PySem.W.Frag}
theorem seq (h : t { D with nx := u D } σ H) : tSeq t u D σ H := h
theorem nx_mk {n : L2.St → Hp → Prop} {r : VK} {b k : L2.St → Hp → Prop} (h : n σ H) : (Ends.mk n r b k).nx σ H := h
theorem rt_mk {n : L2.St → Hp → Prop} {r : VK} {b k : L2.St → Hp → Prop} (h : r x H) : (Ends.mk n r b k).rt x H := h
theorem bk_mk {n : L2.St → Hp → Prop} {r : VK} {b k : L2.St → Hp → Prop} (h : b σ H) : (Ends.mk n r b k).bk σ H := h
theorem ct_mk {n : L2.St → Hp → Prop} {r : VK} {b k : L2.St → Hp → Prop} (h : k σ H) : (Ends.mk n r b k).ct σ H := h
theorem next (h : D.nx σ H) : tNext D σ H := h
theorem asg {g : TG} (h : te σ H fun x H1 => g x σ H1 D.nx) : tAsg te g D σ H := h
theorem gname {R : L2.St → Hp → Prop} {σ' : L2.St} (e : σ.set i (some x) = σ') (h : R σ' H) : gName i x σ H R := by subst e; exact h
theorem gsub {s : TSet} {R : L2.St → Hp → Prop} (h : ta σ H fun o H1 => tb σ H1 fun i H2 => s o i x H2 fun H3 => R σ H3) : gSub ta tb s x σ H R := h
theorem ret (h : te σ H D.rt) : tRet te D σ H := h
theorem retN (h : D.rt .non H) : tRetN D σ H := h
theorem drop (h : te σ H fun _ H1 => D.nx σ H1) : tDrop te D σ H := h
theorem ifs (h : c σ H fun b H1 => if b = true then t D σ H1 else u D σ H1) : tIfS c t u D σ H := h
theorem var (h : σ[i]? = some (some x)) (q : Q x H) : tVar i σ H Q := ⟨x, h, q⟩
theorem con (q : Q x H) : tC x σ H Q := q
theorem op {r : R2} (h : ta σ H fun x H1 => tb σ H1 fun y H2 => r x y H2 Q) : tOp r ta tb σ H Q := h
theorem un {r : V → Hp → VK → Prop} (h : ta σ H fun x H1 => r x H1 Q) : tUn r ta σ H Q := h
theorem cb {r : List V → Hp → VK → Prop} {t : TA} (h : t σ H fun vs H1 => r vs H1 Q) : tCB r t σ H Q := h
theorem anil {R : List V → Hp → Prop} (h : R [] H) : tNil σ H R := h
theorem acons {tr : TA} {R : List V → Hp → Prop} (h : te σ H fun x H1 => tr σ H1 fun xs H2 => R (x :: xs) H2) : tCons te tr σ H R := h
theorem call {sp : Sp} {dvs : List V} {E : XK} {t : TA} (h : t σ H fun vs H1 => sp (vs ++ dvs) H1 Q E) : tCall sp dvs E t σ H Q := h
theorem lst {t : TA} (h : t σ H fun xs H1 => xs.length ≤ sizeLine ∧ ∀ p, H1 p = none → Q (.ref p) (upd H1 p (.lst xs))) : tLst t σ H Q := h
theorem tup {t : TA} (h : t σ H fun xs H1 => xs.length ≤ sizeLine ∧ ∀ p, H1 p = none → Q (.ref p) (upd H1 p (.tup xs))) : tTup t σ H Q := h
theorem test {R : Bool → Hp → Prop} (h : te σ H fun x H1 => ∃ k, x = .bl k ∧ R k H1) : tTest te σ H R := h
theorem tb_ {R : Bool → Hp → Prop} (h : te σ H fun x H1 => ∃ k, x = .bl k ∧ R k H1) : tB te σ H R := h
theorem and_ {R : Bool → Hp → Prop} (h : c σ H fun b H1 => if b = true then c2 σ H1 R else R false H1) : tAnd c c2 σ H R := h
theorem or_ {R : Bool → Hp → Prop} (h : c σ H fun b H1 => if b = true then R true H1 else c2 σ H1 R) : tOr c c2 σ H R := h
theorem not_ {R : Bool → Hp → Prop} (h : c σ H fun b H1 => R (!b) H1) : tNot c σ H R := h
theorem andV (h : ta σ H fun x H1 => ∃ c, x = .bl c ∧ if c = true then tb σ H1 Q else Q (.bl false) H1) : tAndV ta tb σ H Q := h
theorem orV (h : ta σ H fun x H1 => ∃ c, x = .bl c ∧ if c = true then Q (.bl true) H1 else tb σ H1 Q) : tOrV ta tb σ H Q := h
theorem notV (h : ta σ H fun x H1 => ∃ c, x = .bl c ∧ Q (.bl (!c)) H1) : tNotV ta σ H Q := h
theorem rI0_ {g : Int → Int → V} {a b : Int} (q : Q (g a b) H) : rI0 g (.int a) (.int b) H Q := ⟨a, b, rfl, rfl, q⟩
theorem rI_ {C : Int → Int → Prop} {g : Int → Int → V} {a b : Int} (k : C a b) (q : Q (g a b) H) : rI C g (.int a) (.int b) H Q := ⟨a, b, rfl, rfl, k, q⟩
theorem rU_ {g : Int → V} {a : Int} (q : Q (g a) H) : rU g (.int a) H Q := ⟨a, rfl, q⟩
theorem rEq_ {x y : V} (k : scal x y = true) (q : Q (.bl (decide (x = y))) H) : rEq x y H Q := ⟨k, q⟩
theorem rNe_ {x y : V} (k : scal x y = true) (q : Q (.bl (!decide (x = y))) H) : rNe x y H Q := ⟨k, q⟩
theorem ixL {p : Addr} {xs : List V} {j : Int} (h : SqL K H p xs) (e : atI xs j = some x) (q : Q x H) : rIxL K (.ref p) (.int j) H Q := ⟨p, xs, j, x, rfl, rfl, h, e, q⟩
theorem ixT {p : Addr} {xs : List V} {j : Int} (h : SqT K H p xs) (e : atI xs j = some x) (q : Q x H) : rIxT K (.ref p) (.int j) H Q := ⟨p, xs, j, x, rfl, rfl, h, e, q⟩
theorem setL {p : Addr} {xs : List V} {j : Int} {n : Nat} {R : Hp → Prop} (h : H p = some (.lst xs)) (e : ixN xs.length j = some n) (q : R (upd H p (.lst (xs.set n x)))) : rSetL (.ref p) (.int j) x H R := ⟨p, xs, j, n, rfl, rfl, h, e, q⟩
/-- a test's two ways -/
theorem ite_ {p A B : Prop} [Decidable p] (h1 : p → A) (h2 : ¬ p → B) : if decide p = true then A else B := by
  by_cases h : p
  · rw [if_pos (decide_eq_true h)]; exact h1 h
  · rw [if_neg (by rw [decide_eq_false h]; exact Bool.false_ne_true)]; exact h2 h
theorem iteN {p A B : Prop} [Decidable p] (h1 : ¬ p → A) (h2 : p → B) : if (!decide p) = true then A else B := by
  by_cases h : p
  · rw [decide_eq_true h]; exact iteF (h2 h)
  · rw [decide_eq_false h]; exact iteT (h1 h)
theorem iteB {b : Bool} {A B : Prop} (h1 : b = true → A) (h2 : b = false → B) : if b = true then A else B := by
  cases b with
  | true => exact iteT (h1 rfl)
  | false => exact iteF (h2 rfl)
end
/-! ### the walk -/
/-- all but the object at b is kept -/
def Kp (b : Addr) (H H' : Hp) : Prop := ∀ a o, a ≠ b → H a = some o → H' a = some o
theorem Kp.refl (b : Addr) (H : Hp) : Kp b H H := fun _ _ _ h => h
theorem Kp.trans {b : Addr} {H H1 H2 : Hp} (x : Kp b H H1) (y : Kp b H1 H2) : Kp b H H2 := fun a o n h => y a o n (x a o n h)
theorem Kp.new {b p : Addr} {H : Hp} {o : HO} (h : H p = none) : Kp b H (upd H p o) := fun a u _ e => by rw [upd_ne (ne_of_none e h)]; exact e
theorem Kp.at {b : Addr} {H : Hp} {o : HO} : Kp b H (upd H b o) := fun a u n e => by rw [upd_ne n]; exact e
section
variable {σ : L2.St} {H H1 H2 : Hp} {Q : VK} {D : Ends} {te ta tb tc : TE} {t u v : TS} {c c2 : TT} {x y z : V} {i : Nat} {K : PySem.W.Frag} {a b p : Addr} {xs ys : List V}
theorem gtup {tt : TGs} {R : L2.St → Hp → Prop} {n : Nat} (h : SqT K H a xs) (e : xs.length = n) (q : tt xs σ H R) : gTup K n tt (.ref a) σ H R := ⟨a, xs, rfl, h, e, q⟩
theorem gcons {g : TG} {tt : TGs} {R : L2.St → Hp → Prop} {r : List V} (q : g x σ H fun σ' H' => tt r σ' H' R) : gCons g tt (x :: r) σ H R := ⟨x, r, rfl, q⟩
theorem gnil {R : L2.St → Hp → Prop} (q : R σ H) : gNil [] σ H R := ⟨rfl, q⟩
theorem sl {r : V → Option Int → Option Int → Hp → VK → Prop} {tl th : TO} (h : te σ H fun x H1 => tl σ H1 fun l H2 => th σ H2 fun u H3 => r x l u H3 Q) : tSl r te tl th σ H Q := h
theorem part {R : Option Int → Hp → Prop} (h : te σ H fun x H1 => ∃ i, x = .int i ∧ R (some i) H1) : tPart te σ H R := h
theorem nopart {R : Option Int → Hp → Prop} (h : R none H) : tNoPart σ H R := h
theorem slS {zs : Str} {lo hi : Option Int} (h : zs.length ≤ sizeLine) (q : Q (.str (cutS zs lo hi)) H) : rSlS (.str zs) lo hi H Q := ⟨zs, rfl, h, q⟩
theorem ifE (h : c σ H fun b H1 => if b = true then ta σ H1 Q else tb σ H1 Q) : tIf c ta tb σ H Q := h
theorem bm0 {T : String} {r : V → List V → Hp → VK → Prop} (h : te σ H fun x H1 => tyV K T x H1 ∧ r x [] H1 Q) : tBM0 K T r te σ H Q := h
theorem bm {T : String} {r : V → List V → Hp → VK → Prop} {tt : TA} (h : te σ H fun x H1 => tyV K T x H1 ∧ tt σ H1 fun xs H2 => r x xs H2 Q) : tBM K T r te tt σ H Q := h
theorem lcat {t u : List V} {R : Addr → Hp → Prop} (h : ∀ p, H p = none → R p (upd H p (.lst (t ++ u)))) : ∀ p, H p = none → R p (upd H p (.lst (t ++ u))) := h
theorem iteT' {A B : Prop} (h : A) : if (!false) = true then A else B := iteT h
theorem iteF' {A B : Prop} (h : B) : if (!true) = true then A else B := iteF h
theorem iteBt {b : Bool} {A B : Prop} (h : b = true) (q : A) : if b = true then A else B := by rw [h]; exact iteT q
theorem iteBf {b : Bool} {A B : Prop} (h : b = false) (q : B) : if b = true then A else B := by rw [h]; exact iteF q
theorem cutS_len (z : Str) (lo hi : Option Int) : (cutS z lo hi).length ≤ z.length := by
  show ((z.cps.toList.drop (HT.sIx z.length 0 lo)).take (HT.sIx z.length z.length hi - HT.sIx z.length 0 lo)).toArray.size ≤ z.cps.size
  rw [List.size_toArray, List.length_take, List.length_drop, Array.length_toList]
  omega
theorem app_len (x y : Str) : (x ++ y).length = x.length + y.length := by
  show (x.cps ++ y.cps).size = x.cps.size + y.cps.size
  exact Array.size_append
theorem str1_len (c : Nat) : (⟨#[c]⟩ : Str).length = 1 := rfl
theorem iteBnT {b : Bool} {A B : Prop} (h : b = false) (q : A) : if (!b) = true then A else B := by rw [h]; exact iteT q
theorem iteBnF {b : Bool} {A B : Prop} (h : b = true) (q : B) : if (!b) = true then A else B := by rw [h]; exact iteF q
theorem pcons {tk tv : TE} {r : List (TE × TE)} {R : List (V × V) → Hp → Prop} (h : tk σ H fun x H1 => tv σ H1 fun y H2 => tPairs r σ H2 fun ps H3 => R ((x, y) :: ps) H3) : tPairs ((tk, tv) :: r) σ H R := h
theorem pnil {R : List (V × V) → Hp → Prop} (h : R [] H) : tPairs [] σ H R := h
/-! ### a written dict with text keys -/
def keysAre : List DictEntry → List (Str × V) → Prop
  | [], [] => True
  | e :: r, (k, v) :: s => (∃ t, e.key = .str k t) ∧ RelV v e.val ∧ keysAre r s
  | _, _ => False
def seek (z : Str) : List (Str × V) → Option V
  | [] => none
  | (k, v) :: s => if k = z then some v else seek z s
theorem keys_find {z : Str} : ∀ {l : List DictEntry} {ks : List (Str × V)}, keysAre l ks →
    (l.any (·.refKey) = false) ∧ ((∃ v e, seek z ks = some v ∧ l.find? (·.key.isStr z) = some e ∧ RelV v e.val) ∨ (seek z ks = none ∧ l.find? (·.key.isStr z) = none))
  | [], [], _ => ⟨rfl, .inr ⟨rfl, rfl⟩⟩
  | [], _ :: _, h => h.elim
  | _ :: _, [], h => h.elim
  | e :: r, (k, v) :: s, ⟨⟨t, hk⟩, hv, h⟩ => by
    obtain ⟨h1, h2⟩ := keys_find (z := z) h
    refine ⟨?_, ?_⟩
    · rw [List.any_cons, h1, Bool.or_false]
      show DictEntry.refKey e = false
      unfold DictEntry.refKey
      rw [hk] <;> rfl
    · rw [List.find?_cons]
      have e1 : (e.key.isStr z) = decide (k = z) := by
        rw [hk, PySem.W.isStr_of]
        show (k == z) = decide (k = z)
        exact Bool.beq_eq_decide_eq k z
      show (∃ v' e', (if k = z then some v else seek z s) = some v' ∧ _) ∨ ((if k = z then some v else seek z s) = none ∧ _)
      by_cases c : k = z
      · rw [if_pos c, e1, decide_eq_true c]
        exact .inl ⟨v, e, rfl, rfl, hv⟩
      · rw [if_neg c, e1, decide_eq_false c]
        exact h2
theorem ns_seek {d : Addr} {es : Array DictEntry} {n : Nat} {ks : List (Str × V)} (hl : K.lookup d = some ⟨.type "dict", none, .dict es n, #[]⟩) (hk : keysAre es.toList ks) (z : Str) :
    (∃ v u, seek z ks = some v ∧ PySem.W.nsIn K d z = some (some u) ∧ RelV v u) ∨ (seek z ks = none ∧ PySem.W.nsIn K d z = some none) := by
  obtain ⟨h1, h2⟩ := keys_find (z := z) hk
  unfold PySem.W.nsIn
  rw [hl]
  dsimp only
  rcases h2 with ⟨v, e, e1, e2, r⟩ | ⟨e1, e2⟩
  · rw [e2]
    exact .inl ⟨v, e.val, e1, rfl, r⟩
  · rw [e2]
    dsimp only
    rw [h1]
    exact .inr ⟨e1, rfl⟩
theorem ixS_any {zs : Str} {j : Int} (hz : zs.length ≤ sizeLine) (h0 : 0 ≤ j) (h1 : j < zs.length) (q : ∀ c, Q (.str ⟨#[c]⟩) H) : rIxS (.str zs) (.int j) H Q := by
  have h2 : j.toNat < zs.cps.toList.length := by
    rw [Array.length_toList]
    show j.toNat < zs.length
    omega
  obtain ⟨c, hc⟩ : ∃ c, zs.cps.toList[j.toNat]? = some c := ⟨_, List.getElem?_eq_getElem h2⟩
  have e : ((j.toNat : Nat) : Int) = j := by omega
  have hc2 := atI_nat hc
  rw [e] at hc2
  exact ⟨zs, j, c, rfl, rfl, hz, hc2, q c⟩
/-! ### loops -/
/-- the loop over J -/
def Loop (J : It) (g : TG) (tb : TS) (D : Ends) (σ : L2.St) (H : Hp) : Prop := ∃ W : Nat → Nat → L2.St → Hp → Prop, (∃ m, W 0 m σ H) ∧ ∀ i m σ H, W i m σ H →
  (J.stop i H ∧ D.nx σ H) ∨ (J.go i H ∧ ∃ N : L2.St → Hp → Prop, (∀ σ' H', N σ' H' → ∃ m', m' < m ∧ W (i + 1) m' σ' H') ∧ ∀ x H', J.yld i H x H' → g x σ H' fun σ2 H2 => tb { D with nx := N, ct := N, bk := D.nx } σ2 H2)
theorem forR1 {ta : TA} {g : TG} {tb : TS} (h : ta σ H fun vs H1 => ∃ j : Int, vs = [.int j] ∧ -(2 ^ 62) ≤ j ∧ j < 2 ^ 62 ∧ Loop (Itr 0 j.toNat) g tb D σ H1) : tFor (iRng1 ta) g tb D σ H := h
theorem forR2 {ta : TA} {g : TG} {tb : TS} (h : ta σ H fun vs H1 => ∃ i j : Int, vs = [.int i, .int j] ∧ (-(2 ^ 62) ≤ i ∧ i < 2 ^ 62 ∧ -(2 ^ 62) ≤ j ∧ j < 2 ^ 62) ∧ Loop (Itr i (j - i).toNat) g tb D σ H1) : tFor (iRng2 ta) g tb D σ H := h
theorem forL {g : TG} {tb : TS} (h : te σ H fun x H1 => ∃ a, x = .ref a ∧ (∃ xs, SqL K H1 a xs) ∧ Loop (Itl K a) g tb D σ H1) : tFor (iList K te) g tb D σ H := h
theorem forT {g : TG} {tb : TS} (h : te σ H fun x H1 => ∃ a, x = .ref a ∧ (∃ xs, SqT K H1 a xs) ∧ Loop (Itt K a) g tb D σ H1) : tFor (iTup K te) g tb D σ H := h
theorem loopR {lo : Int} {n : Nat} {g : TG} {tb : TS} (Pv : Nat → L2.St → Hp → Prop) (h0 : Pv 0 σ H)
    (hs : ∀ i σ H, i < n → Pv i σ H → g (.int (lo + i)) σ H fun σ2 H2 => tb { D with nx := Pv (i + 1), ct := Pv (i + 1), bk := D.nx } σ2 H2) (hd : ∀ σ H, Pv n σ H → D.nx σ H) : Loop (Itr lo n) g tb D σ H := for_range Pv h0 hs hd
theorem loopL {g : TG} {tb : TS} {xs : List V} (Pv : Nat → L2.St → Hp → Prop) (h0 : Pv 0 σ H) (hl : ∀ i σ H, i ≤ xs.length → Pv i σ H → SqL K H a xs)
    (hs : ∀ i x σ H, xs[i]? = some x → Pv i σ H → g x σ H fun σ2 H2 => tb { D with nx := Pv (i + 1), ct := Pv (i + 1), bk := D.nx } σ2 H2) (hd : ∀ σ H, Pv xs.length σ H → D.nx σ H) : Loop (Itl K a) g tb D σ H := for_list Pv h0 hl hs hd
/-! ### kinds -/
/-- a value's built-in type, of what is known of it -/
inductive Kind (H : Hp) : V → String → Prop where
  | non : Kind H .non "NoneType"
  | bl (b : Bool) : Kind H (.bl b) "bool"
  | int (i : Int) : Kind H (.int i) "int"
  | str (x : Str) : Kind H (.str x) "str"
  | lst {a : Addr} {xs : List V} (h : H a = some (.lst xs)) : Kind H (.ref a) "list"
  | tup {a : Addr} {xs : List V} (h : H a = some (.tup xs)) : Kind H (.ref a) "tuple"
  | dK {a : Addr} {kvs : List (Key × V)} (h : H a = some (.dK kvs)) : Kind H (.ref a) "dict"
theorem Kind.tyB {T : String} (k : Kind H x T) : TyB K H x T := by
  cases k with
  | non => exact .non
  | bl b => exact .bl b
  | int i => exact .int i
  | str s => exact .str s
  | lst h => exact .lst (SqL.of h)
  | tup h => exact .tup (SqT.of h)
  | dK h => exact .dK h
theorem Kind.tyX {T : String} (k : Kind H x T) : TyX K H x (.type T) := by
  cases k with
  | non => exact .base .non
  | bl b => exact .base (.bl b)
  | int i => exact .base (.int i)
  | str s => exact .base (.str s)
  | lst h => exact .base (.lst h)
  | tup h => exact .base (.tup h)
  | dK h => exact .base (.dK h)
def isB (T C : String) : Bool := decide (T = C) || (decide (T = "bool") && decide (C = "int"))
theorem isB_eq {T C : String} (h : C ≠ "int") : isB T C = decide (T = C) := by
  unfold isB
  rw [decide_eq_false h, Bool.and_false, Bool.or_false]
theorem Kind.kit {T : String} (k : Kind H x T) {C : String} (hC : C = "int" ∨ C = "bool" ∨ C = "str" ∨ C = "tuple" ∨ C = "list") : PySem.W.kitOne K (.type T) (.type C) = some (isB T C) := by
  rcases hC with rfl | rfl | rfl | rfl | rfl <;> cases k <;> exact kit_ty (by decide +kernel)
theorem isi {T C : String} (k : Kind H x T) (hC : C = "int" ∨ C = "bool" ∨ C = "str" ∨ C = "tuple" ∨ C = "list") (q : Q (.bl (isB T C)) H) : rIsi K [x, .ty C] H Q :=
  ⟨x, .ty C, _, _, _, rfl, .ty C, k.tyX, k.kit hC, q⟩
theorem typ {T : String} (k : Kind H x T) (q : Q (.ty T) H) : rTyp K [x] H Q := ⟨x, T, rfl, k.tyB, q⟩
theorem rNT_ {s1 s2 : String} (q : Q (.bl (!decide (s1 = s2))) H) : rNT (.ty s1) (.ty s2) H Q := ⟨s1, s2, rfl, rfl, q⟩
/-! ### heaps -/
theorem Kp.same (h : H b = none) (k : Kp b H H1) : Same H H1 := fun a o e => k a o (ne_of_none e h) e
theorem Same.kp (k : Same H H1) : Kp b H H1 := fun a o _ e => k a o e
theorem same_new {o : HO} (h : H p = none) : Same H (upd H p o) := fun a u e => by rw [upd_ne (ne_of_none e h)]; exact e
theorem Kp.kind {T : String} {bs : List V} (k : Kp b H H1) (hb : H b = some (.lst bs)) (q : Kind H x T) (n : x ≠ .ref b) : Kind H1 x T := by
  cases q with
  | non => exact .non
  | bl b => exact .bl b
  | int i => exact .int i
  | str s => exact .str s
  | lst h => exact .lst (k _ _ (fun e => n (by rw [e])) h)
  | tup h => exact .tup (k _ _ (fun e => n (by rw [e])) h)
  | dK h => exact .dK (k _ _ (fun e => n (by rw [e])) h)
theorem Same.kind {T : String} (k : Same H H1) (q : Kind H x T) : Kind H1 x T := by
  cases q with
  | non => exact .non
  | bl b => exact .bl b
  | int i => exact .int i
  | str s => exact .str s
  | lst h => exact .lst (k _ _ h)
  | tup h => exact .tup (k _ _ h)
  | dK h => exact .dK (k _ _ h)
theorem atI_of {α : Type} {xs : List α} {x : α} {j : Int} {n : Nat} (e : j = n) (h : xs[n]? = some x) : atI xs j = some x := by rw [e]; exact atI_nat h
end
end Wp

namespace K01
open PySem PySem.Spec PyProof.Rows L2 Wp
/-! ### the text by places -/
def topS (i : Nat) : Stmt := PySem.Challenge.pw_manygoings_k01_what_is_a_worth.main.body.getD i (.Pass ⟨0, 0, 0, 0⟩)
abbrev s_is_number : Stmt := topS 2
abbrev s_is_worth : Stmt := topS 3
abbrev s_cell_at : Stmt := topS 5
abbrev s_bag : Stmt := topS 6
abbrev s_draw : Stmt := topS 7
abbrev s_number : Stmt := topS 8
abbrev s_whole : Stmt := topS 9
abbrev s_worth : Stmt := topS 10
abbrev s_sign : Stmt := topS 11
abbrev s_odd : Stmt := topS 12
abbrev s_word : Stmt := topS 13
abbrev s_thing : Stmt := topS 14
abbrev s_is : Stmt := topS 15
abbrev s_law : Stmt := topS 16
theorem sc_is_number : FnScope ["thing"] ["thing"] (defScope s_is_number) := ⟨rfl, rfl, rfl, by decide +kernel, rfl, by decide +kernel, by decide +kernel⟩
theorem sc_is_worth : FnScope ["thing", "word", "number"] ["thing"] (defScope s_is_worth) := ⟨rfl, rfl, rfl, by decide +kernel, rfl, by decide +kernel, by decide +kernel⟩
theorem sc_cell_at : FnScope ["script", "k"] ["script", "k"] (defScope s_cell_at) := ⟨rfl, rfl, rfl, by decide +kernel, rfl, by decide +kernel, by decide +kernel⟩
theorem sc_bag : FnScope ["cell", "place"] ["cell", "place"] (defScope s_bag) := ⟨rfl, rfl, rfl, by decide +kernel, rfl, by decide +kernel, by decide +kernel⟩
theorem sc_draw : FnScope ["bag", "many", "found", "mixed"] ["bag", "many"] (defScope s_draw) := ⟨rfl, rfl, rfl, by decide +kernel, rfl, by decide +kernel, by decide +kernel⟩
theorem sc_number : FnScope ["bag", "way", "bound", "found", "k"] ["bag"] (defScope s_number) := ⟨rfl, rfl, rfl, by decide +kernel, rfl, by decide +kernel, by decide +kernel⟩
theorem sc_whole : FnScope ["found"] ["found"] (defScope s_whole) := ⟨rfl, rfl, rfl, by decide +kernel, rfl, by decide +kernel, by decide +kernel⟩
theorem sc_worth : FnScope ["bag", "word", "below", "number"] ["bag"] (defScope s_worth) := ⟨rfl, rfl, rfl, by decide +kernel, rfl, by decide +kernel, by decide +kernel⟩
theorem sc_sign : FnScope ["bag", "some"] ["bag"] (defScope s_sign) := ⟨rfl, rfl, rfl, by decide +kernel, rfl, by decide +kernel, by decide +kernel⟩
theorem sc_odd : FnScope ["bag", "at"] ["bag"] (defScope s_odd) := ⟨rfl, rfl, rfl, by decide +kernel, rfl, by decide +kernel, by decide +kernel⟩
theorem sc_word : FnScope ["word", "way", "at", "sign"] ["word", "way", "at", "sign"] (defScope s_word) := ⟨rfl, rfl, rfl, by decide +kernel, rfl, by decide +kernel, by decide +kernel⟩
theorem sc_thing : FnScope ["bag", "way", "turn", "word", "number"] ["bag"] (defScope s_thing) := ⟨rfl, rfl, rfl, by decide +kernel, rfl, by decide +kernel, by decide +kernel⟩
theorem sc_is : FnScope ["thing"] ["thing"] (defScope s_is) := ⟨rfl, rfl, rfl, by decide +kernel, rfl, by decide +kernel, by decide +kernel⟩
theorem sc_law : FnScope ["script", "k", "thing", "found"] ["script"] (defScope s_law) := ⟨rfl, rfl, rfl, by decide +kernel, rfl, by decide +kernel, by decide +kernel⟩
/-! ### the facts of the top -/
structure Txt (P : Program) (w : World) (K : PySem.W.Frag) (mg : Str → Option Value) where
  f_is_number : Addr
  fd_is_number : FuncData
  F_is_number : Fun K "is_number" "is_number" s_is_number f_is_number fd_is_number
  b_is_number : Binds K fd_is_number ["thing"] []
  g_is_number : mg "is_number" = some (.ref f_is_number)
  f_is_worth : Addr
  fd_is_worth : FuncData
  F_is_worth : Fun K "is_worth" "is_worth" s_is_worth f_is_worth fd_is_worth
  b_is_worth : Binds K fd_is_worth ["thing"] []
  g_is_worth : mg "is_worth" = some (.ref f_is_worth)
  f_cell_at : Addr
  fd_cell_at : FuncData
  F_cell_at : Fun K "_law_cell_at" "_law_cell_at" s_cell_at f_cell_at fd_cell_at
  b_cell_at : Binds K fd_cell_at ["script", "k"] []
  g_cell_at : mg "_law_cell_at" = some (.ref f_cell_at)
  f_bag : Addr
  fd_bag : FuncData
  F_bag : Fun K "_law_bag" "_law_bag" s_bag f_bag fd_bag
  b_bag : Binds K fd_bag ["cell", "place"] []
  g_bag : mg "_law_bag" = some (.ref f_bag)
  f_draw : Addr
  fd_draw : FuncData
  F_draw : Fun K "_law_draw" "_law_draw" s_draw f_draw fd_draw
  b_draw : Binds K fd_draw ["bag", "many"] []
  g_draw : mg "_law_draw" = some (.ref f_draw)
  f_number : Addr
  fd_number : FuncData
  F_number : Fun K "_law_number" "_law_number" s_number f_number fd_number
  b_number : Binds K fd_number ["bag"] []
  g_number : mg "_law_number" = some (.ref f_number)
  f_whole : Addr
  fd_whole : FuncData
  F_whole : Fun K "_law_whole" "_law_whole" s_whole f_whole fd_whole
  b_whole : Binds K fd_whole ["found"] []
  g_whole : mg "_law_whole" = some (.ref f_whole)
  f_worth : Addr
  fd_worth : FuncData
  F_worth : Fun K "_law_worth" "_law_worth" s_worth f_worth fd_worth
  b_worth : Binds K fd_worth ["bag"] []
  g_worth : mg "_law_worth" = some (.ref f_worth)
  f_sign : Addr
  fd_sign : FuncData
  F_sign : Fun K "_law_sign" "_law_sign" s_sign f_sign fd_sign
  b_sign : Binds K fd_sign ["bag"] []
  g_sign : mg "_law_sign" = some (.ref f_sign)
  f_odd : Addr
  fd_odd : FuncData
  F_odd : Fun K "_law_odd" "_law_odd" s_odd f_odd fd_odd
  b_odd : Binds K fd_odd ["bag"] []
  g_odd : mg "_law_odd" = some (.ref f_odd)
  f_word : Addr
  fd_word : FuncData
  F_word : Fun K "_law_word" "_law_word" s_word f_word fd_word
  b_word : Binds K fd_word ["word", "way", "at", "sign"] []
  g_word : mg "_law_word" = some (.ref f_word)
  f_thing : Addr
  fd_thing : FuncData
  F_thing : Fun K "_law_thing" "_law_thing" s_thing f_thing fd_thing
  b_thing : Binds K fd_thing ["bag"] []
  g_thing : mg "_law_thing" = some (.ref f_thing)
  f_is : Addr
  fd_is : FuncData
  F_is : Fun K "_law_is" "_law_is" s_is f_is fd_is
  b_is : Binds K fd_is ["thing"] []
  g_is : mg "_law_is" = some (.ref f_is)
  f_law : Addr
  fd_law : FuncData
  F_law : Fun K "law" "law" s_law f_law fd_law
  b_law : Binds K fd_law ["script"] []
  g_law : mg "law" = some (.ref f_law)
  n_bool : mg "bool" = none
  n_int : mg "int" = none
  n_isinstance : mg "isinstance" = none
  n_len : mg "len" = none
  n_max : mg "max" = none
  n_min : mg "min" = none
  n_range : mg "range" = none
  n_str : mg "str" = none
  n_tuple : mg "tuple" = none
  n_type : mg "type" = none
  d_SIGNS : Addr
  es_SIGNS : Array DictEntry
  no_SIGNS : Nat
  c_SIGNS : mg "SIGNS" = some (.ref d_SIGNS)
  k_SIGNS : KDict K w d_SIGNS es_SIGNS no_SIGNS
  i_SIGNS : ∀ z : Str, ∃ r, PySem.W.nsIn K d_SIGNS z = some r ∧ r.isSome = (decide (z = "num") || decide (z = "at") || decide (z = "box") || decide (z = "go"))

local macro_rules | `(tactic| walk_at "ne") => `(tactic| first
  | assumption
  | (refine Ne.symm ?_; assumption)
  | exact ne_of_none (by assumption) (by assumption)
  | exact (ne_of_none (by assumption) (by assumption)).symm
  | exact ne_of (by assumption) (by assumption) (by intro q; cases q))
local macro_rules | `(tactic| walk_at "hp") => `(tactic| first
  | assumption
  | exact upd_same
  | (refine (upd_ne ?_).trans ?_; (walk_at "ne"); (walk_at "hp")))
local macro_rules | `(tactic| walk_at "sq") => `(tactic| first
  | assumption
  | exact SqL.of (by walk_at "hp")
  | exact SqT.of (by walk_at "hp"))
local macro_rules | `(tactic| walk_at "kind") => `(tactic| first
  | assumption
  | exact Kind.int _
  | exact Kind.str _
  | exact Kind.bl _
  | exact Kind.non
  | exact Kind.tup (by walk_at "hp")
  | exact Kind.lst (by walk_at "hp")
  | exact Kind.dK (by walk_at "hp"))
local macro_rules | `(tactic| walk_at "w1") => `(tactic| first
  | (with_reducible refine Wp.seq ?_)
  | (with_reducible refine Wp.nx_mk ?_)
  | (with_reducible refine Wp.rt_mk ?_)
  | (with_reducible refine Wp.bk_mk ?_)
  | (with_reducible refine Wp.ct_mk ?_)
  | (with_reducible refine Wp.next ?_)
  | (with_reducible refine Wp.asg ?_)
  | ((with_reducible refine' Wp.gname ?e ?_); (case e => (try dsimp only [List.set]); (try exact rfl)))
  | (with_reducible refine Wp.gsub ?_)
  | (with_reducible refine Wp.ret ?_)
  | (with_reducible refine Wp.retN ?_)
  | (with_reducible refine Wp.drop ?_)
  | (with_reducible refine Wp.ifs ?_)
  | ((with_reducible refine' Wp.var ?h ?_); (case h => exact rfl))
  | (with_reducible refine Wp.con ?_)
  | (with_reducible refine Wp.op ?_)
  | (with_reducible refine Wp.un ?_)
  | (with_reducible refine Wp.cb ?_)
  | (with_reducible refine Wp.anil ?_)
  | (with_reducible refine Wp.acons ?_)
  | (with_reducible refine Wp.call ?_)
  | (with_reducible refine Wp.test ?_)
  | (with_reducible refine Wp.tb_ ?_)
  | (with_reducible refine Wp.and_ ?_)
  | (with_reducible refine Wp.or_ ?_)
  | (with_reducible refine Wp.not_ ?_)
  | (with_reducible refine Wp.andV ?_)
  | (with_reducible refine Wp.orV ?_)
  | (with_reducible refine Wp.notV ?_)
  | (with_reducible refine Wp.rI0_ ?_)
  | (with_reducible refine Wp.rU_ ?_)
  | ((with_reducible refine Wp.rEq_ ?k ?_); (case k => exact rfl))
  | ((with_reducible refine Wp.rNe_ ?k ?_); (case k => exact rfl))
  | (with_reducible refine Wp.gcons ?_)
  | (with_reducible refine Wp.gnil ?_)
  | ((with_reducible refine' Wp.gtup ?h ?e ?_); (case h => walk_at "sq"); (case e => exact rfl))
  | (with_reducible refine Wp.sl ?_)
  | (with_reducible refine Wp.part ?_)
  | (with_reducible refine Wp.nopart ?_)
  | (with_reducible refine Wp.ifE ?_)
  | (with_reducible refine Wp.bm0 ?_)
  | (with_reducible refine Wp.bm ?_)
  | (with_reducible refine Wp.forR1 ?_)
  | (with_reducible refine Wp.forR2 ?_)
  | (with_reducible refine Wp.forL ?_)
  | (with_reducible refine Wp.forT ?_)
  | ((with_reducible refine' Wp.isi ?k ?h ?_); (case k => walk_at "kind"); (case h => decide))
  | ((with_reducible refine' Wp.typ ?k ?_); (case k => walk_at "kind"))
  | (with_reducible refine Wp.slS ?k ?_; (case k => assumption))
  | (with_reducible refine iteT ?_)
  | (with_reducible refine iteF ?_)
  | (with_reducible refine Wp.pcons ?_)
  | (with_reducible refine Wp.pnil ?_)
  | ((with_reducible refine' Wp.iteBnT ?h ?_); (case h => show isB _ _ = false; decide))
  | ((with_reducible refine' Wp.iteBnF ?h ?_); (case h => show isB _ _ = true; decide))
  | ((with_reducible refine' Wp.iteBt ?h ?_); (case h => show isB _ _ = true; decide))
  | ((with_reducible refine' Wp.iteBf ?h ?_); (case h => show isB _ _ = false; decide))
  | (with_reducible refine Wp.iteT' ?_)
  | (with_reducible refine Wp.iteF' ?_)
  | (with_reducible refine Wp.rNT_ ?_)
  | ((with_reducible refine Wp.lst ?_))
  | ((with_reducible refine Wp.tup ?_))
  | ((with_reducible refine' Wp.ixL ?h ?e ?_); (case h => walk_at "sq"); (case e => exact rfl))
  | ((with_reducible refine' Wp.ixT ?h ?e ?_); (case h => walk_at "sq"); (case e => exact rfl))
  | ((with_reducible refine' Wp.setL ?h ?e ?_); (case h => walk_at "hp"); (case e => exact rfl))
  | ((with_reducible refine Wp.rI_ ?k ?_); (case k => first | (show (0:Int) < _; omega) | (show CPow _ _; refine' ⟨?_, ?_, ?_⟩ <;> omega) | (show CDiv _ _; refine' ⟨?_, ?_⟩ <;> omega) | (show CMul _ _; refine' Or.inl ⟨?_, ?_⟩ <;> omega) | (show CMul _ _; refine' Or.inr ⟨?_, ?_⟩ <;> first | omega | decide) | (show CDivW _ _; refine' wide_div (b := 240) ?_ ?_ ?_ ?_ <;> first | omega | decide)))
  | ((with_reducible refine ⟨?k, ?_⟩); (case k => first | exact Nat.zero_le _ | (exact Nat.le_of_ble_eq_true rfl)); intro p hp)
  | ((with_reducible refine' ⟨_, _, rfl, .inl ?k, ?_⟩); (case k => walk_at "sq"))
  | ((with_reducible refine' ⟨_, _, rfl, .inr ?k, ?_⟩); (case k => walk_at "sq"))
  | (with_reducible refine ⟨_, rfl, ?_⟩)
  | (with_reducible refine ⟨_, _, rfl, rfl, ?_⟩)
  | (with_reducible refine ⟨_, _, rfl, ?_⟩))
local macro_rules | `(tactic| walk_at "wp") => `(tactic| repeat (walk_at "w1"))

section
variable {P : Program} {w : World} {K : PySem.W.Frag} {mg : Str → Option Value} {base : Heap}
/-- a bag: three ints, the second below 2 ^ 62, the third at most n -/
def Bag (H : Hp) (b : Addr) (n : Nat) : Prop := ∃ x y z : Int, H b = some (.lst [.int x, .int y, .int z]) ∧ 0 ≤ y ∧ y < 4611686018427387904 ∧ 0 ≤ z ∧ z ≤ n
theorem Bag.mono {H : Hp} {b : Addr} {n m : Nat} (h : Bag H b n) (k : n ≤ m) : Bag H b m := by
  obtain ⟨x, y, z, h1, h2, h3, h4, h5⟩ := h
  exact ⟨x, y, z, h1, h2, h3, h4, by omega⟩
theorem Bag.ne_new {H : Hp} {b p : Addr} {n : Nat} (h : Bag H b n) (k : H p = none) : p ≠ b := by
  obtain ⟨x, y, z, h1, h⟩ := h
  exact (ne_of_none h1 k).symm
theorem Bag.keep {H H' : Hp} {b : Addr} {n : Nat} (h : Bag H b n) (k : Same H H') : Bag H' b n := by
  obtain ⟨x, y, z, h1, h⟩ := h
  exact ⟨x, y, z, k _ _ h1, h⟩

def spCell (K : PySem.W.Frag) : Sp := fun vs H Q _ => ∃ (a : Addr) (ns : List Int) (k : Nat), vs = [.ref a, .int k] ∧ SqL K H a (ns.map V.int) ∧ ∀ v, Q (.int v) H
theorem ok_cell_at (T : Txt P w K mg) : FnOk P w K mg base CX0 1 T.f_cell_at T.fd_cell_at ["script", "k"] (spCell K) := by
  refine T.F_cell_at.ok sc_cell_at (fun vs H Q E h => ?_) (fun cdv A outer s H vs Q E hr h => ?_)
  · obtain ⟨a, ns, k, rfl, _⟩ := h
    rfl
  · obtain ⟨a, ns, k, rfl, hS, q⟩ := h
    refine ⟨_, (pss_cons (ps_if (pt_cmpR op_lt (pv 1) (pe_callB call_len_seq (by rfl) T.n_len (by decide +kernel) (pa_cons (pv 0) pa_nil)) (nomark _)) (pss_one (ps_ret (pe_ix ix_list (pv 0) (pv 1) (fun _ _ => rfl)))) pss_nil)
      (pss_one (ps_ret pe_int))), ?_⟩
    rw [show L2.start ["script", "k"] [.ref a, .int k] = [some (.ref a), some (.int k)] from rfl]
    try dsimp only [cxOf]
    walk_at "wp"
    refine ite_ (fun c => ?_) (fun c => ?_)
    · walk_at "wp"
      have hk : k < ns.length := by
        rw [List.length_map] at c
        omega
      refine ixL hS (atI_nat (v := .int ns[k]) ?_) ?_
      · rw [List.getElem?_map, List.getElem?_eq_getElem hk]
        rfl
      · exact q _
    · walk_at "wp"
      exact q _

def spBag : Sp := fun vs H Q _ => ∃ (c : Int) (p : Nat), vs = [.int c, .int p] ∧ p ≤ 100 ∧ ∀ b H', H b = none → Bag H' b 0 → Same H H' → Q (.ref b) H'
theorem ok_bag (T : Txt P w K mg) : FnOk P w K mg base CX0 1 T.f_bag T.fd_bag ["cell", "place"] spBag := by
  refine T.F_bag.ok sc_bag (fun vs H Q E h => ?_) (fun cdv A outer s H vs Q E hr h => ?_)
  · obtain ⟨c, p, rfl, _⟩ := h
    rfl
  · obtain ⟨c, p, rfl, hp, q⟩ := h
    refine ⟨_, (pss_one (ps_ret (pe_lst (pa_cons (pe_callB (call_max2 rfl) (by rfl) T.n_max (by decide +kernel) (pa_cons pe_int (pa_cons (pe_op op_sub (pv 0) (pe_op op_pow pe_int pe_int)) pa_nil))) (pa_cons (pe_op op_add (pe_op op_mod (pv 0) pe_int) (pe_op op_mul pe_int (pv 1))) (pa_cons pe_int pa_nil)))))), ?_⟩
    rw [show L2.start ["cell", "place"] [.int c, .int p] = [some (.int c), some (.int p)] from rfl]
    try dsimp only [cxOf]
    walk_at "wp"
    refine q _ _ ‹_› ⟨_, _, _, upd_same, ?_, ?_, by omega, by omega⟩ (same_new ‹_›)
    · have := Int.emod_nonneg c (show (2305843009213693951 : Int) ≠ 0 by decide)
      omega
    · have := Int.emod_lt_of_pos c (show (0 : Int) < 2305843009213693951 by decide)
      omega

def spDraw : Sp := fun vs H Q _ => ∃ (b : Addr) (n : Nat) (m : Int), vs = [.ref b, .int m] ∧ Bag H b n ∧ n < 1000 ∧ 0 < m ∧ m < 2 ^ 240 ∧ ∀ v H', 0 ≤ v → v < m → Bag H' b (n + 1) → Kp b H H' → Q (.int v) H'
theorem ok_draw (T : Txt P w K mg) : FnOk P w K mg base CX0 1 T.f_draw T.fd_draw ["bag", "many"] spDraw := by
  refine T.F_draw.ok sc_draw (fun vs H Q E h => ?_) (fun cdv A outer s H vs Q E hr h => ?_)
  · obtain ⟨b, n, m, rfl, _⟩ := h
    rfl
  · obtain ⟨b, n, m, rfl, ⟨x, y, z, hb, hy, hy2, hz, hz2⟩, hn, hm, hm2, k⟩ := h
    refine ⟨_, (pss_cons (ps_if (pt_cmpR op_gt (pe_ix ix_list (pv 0) pe_int (fun _ _ => rfl)) pe_int (nomark _)) (pss_cons (ps_set (i := 2) sc_draw.nd rfl (.inl rfl) (pe_op op_mod (pe_ix ix_list (pv 0) pe_int (fun _ _ => rfl)) (pv 1)))
      (pss_cons (ps_asg (pe_op op_fdivW (pe_ix ix_list (pv 0) pe_int (fun _ _ => rfl)) (pv 1)) (pg_sub (pv 0) pe_int set_list))
      (pss_one (ps_ret (pv 2))))) pss_nil)
      (pss_cons (ps_asg (pe_op op_add (pe_ix ix_list (pv 0) pe_int (fun _ _ => rfl)) pe_int) (pg_sub (pv 0) pe_int set_list))
      (pss_cons (ps_set (i := 3) sc_draw.nd rfl (.inl rfl) (pe_op op_mod (pe_op op_pow (pe_op op_add (pe_ix ix_list (pv 0) pe_int (fun _ _ => rfl)) (pe_op op_mul pe_int (pe_ix ix_list (pv 0) pe_int (fun _ _ => rfl)))) pe_int) pe_int))
      (pss_cons (ps_set (i := 3) sc_draw.nd rfl (.inl rfl) (pe_op op_mod (pe_op op_pow (pe_op op_add (pv 3) (pe_op op_mul pe_int (pe_ix ix_list (pv 0) pe_int (fun _ _ => rfl)))) pe_int) pe_int))
      (pss_one (ps_ret (pe_op op_mod (pe_op op_fdiv (pv 3) pe_int) (pv 1)))))))), ?_⟩
    rw [show L2.start ["bag", "many", "found", "mixed"] [.ref b, .int m] = [some (.ref b), some (.int m), none, none] from rfl]
    try dsimp only [cxOf]
    walk_at "wp"
    refine ite_ (fun c => ?_) (fun c => ?_)
    · walk_at "wp"
      refine k _ _ ?_ ?_ ⟨_, _, _, upd_same, hy, hy2, hz, by omega⟩ Kp.at
      · exact Int.emod_nonneg _ (by omega)
      · exact Int.emod_lt_of_pos _ hm
    · walk_at "wp"
      refine k _ _ ?_ ?_ ⟨_, _, _, upd_same, hy, hy2, by omega, by omega⟩ Kp.at
      · exact Int.emod_nonneg _ (by omega)
      · exact Int.emod_lt_of_pos _ hm

def spNumber : Sp := fun vs H Q _ => ∃ (b : Addr) (n : Nat), vs = [.ref b] ∧ Bag H b n ∧ n < 900 ∧ ∀ v H', 0 ≤ v → Bag H' b (n + 7) → Kp b H H' → Q (.int v) H'
theorem ok_number (T : Txt P w K mg) : FnOk P w K mg base CX0 2 T.f_number T.fd_number ["bag"] spNumber := by
  have G_draw := ok_draw (base := base) T
  refine T.F_number.ok sc_number (fun vs H Q E h => ?_) (fun cdv A outer s H vs Q E hr h => ?_)
  · obtain ⟨b, n, rfl, _⟩ := h
    rfl
  · obtain ⟨b, n, rfl, hb, hn, k⟩ := h
    refine ⟨_, (pss_cons (ps_set (i := 1) sc_number.nd rfl (.inl rfl) (pe_call G_draw (hr.mono (by decide)) (by rfl) T.g_draw T.F_draw.kp T.b_draw .nil pass0 (pa_cons (pv 0) (pa_cons pe_int pa_nil))))
      (pss_cons (ps_if (pt_cmpR op_lt (pv 1) pe_int (nomark _)) (pss_one (ps_ret (pe_call G_draw (hr.mono (by decide)) (by rfl) T.g_draw T.F_draw.kp T.b_draw .nil pass0 (pa_cons (pv 0) (pa_cons (pe_ix ix_list (pe_lst (pa_cons pe_int (pa_cons pe_int pa_nil))) (pv 1) (fun _ _ => rfl)) pa_nil))))) pss_nil)
      (pss_cons (ps_set (i := 2) sc_number.nd rfl (.inl rfl) (pe_ix ix_list (pe_lst (pa_cons pe_int (pa_cons pe_int (pa_cons (pe_op op_pow pe_int pe_int) (pa_cons (pe_op op_pow pe_int pe_int) (pa_cons (pe_op op_pow pe_int pe_int) (pa_cons (pe_op op_pow pe_int pe_int) (pa_cons (pe_op op_pow pe_int pe_int) pa_nil)))))))) (pe_call G_draw (hr.mono (by decide)) (by rfl) T.g_draw T.F_draw.kp T.b_draw .nil pass0 (pa_cons (pv 0) (pa_cons pe_int pa_nil))) (fun _ _ => rfl)))
      (pss_cons (ps_set (i := 3) sc_number.nd rfl (.inl rfl) pe_int)
      (pss_cons (ps_for PassesOwn.never rfl (pi_range1 (by rfl) T.n_range (pa_cons pe_int pa_nil)) (pg_name (i := 4) sc_number.nd rfl (.inl rfl)) (pss_one (ps_set (i := 3) sc_number.nd rfl (.inl rfl) (pe_op op_add (pe_op op_mul (pv 3) (pe_op op_pow pe_int pe_int)) (pe_call G_draw (hr.mono (by decide)) (by rfl) T.g_draw T.F_draw.kp T.b_draw .nil pass0 (pa_cons (pv 0) (pa_cons (pe_op op_pow pe_int pe_int) pa_nil)))))))
      (pss_one (ps_ret (pe_op op_mod (pv 3) (pv 2))))))))), ?_⟩
    rw [show L2.start ["bag", "way", "bound", "found", "k"] [.ref b] = [some (.ref b), none, none, none, none] from rfl]
    try dsimp only [cxOf]
    walk_at "wp"
    refine ⟨b, n, _, rfl, hb, by omega, by decide, by decide, fun way H1 w0 w1 hb1 k1 => ?_⟩
    walk_at "wp"
    refine ite_ (fun c => ?_) (fun c => ?_)
    · walk_at "wp"
      have cc : way = 0 ∨ way = 1 := by omega
      rcases cc with rfl | rfl
      · refine ixL (SqL.of upd_same) rfl ?_
        walk_at "wp"
        refine ⟨b, n + 1, _, rfl, hb1.keep (same_new ‹_›), by omega, by decide, by decide, fun v H2 v0 v1 hb2 k2 => ?_⟩
        walk_at "wp"
        exact k _ _ v0 (hb2.mono (by omega)) (Kp.trans k1 (Kp.trans (Kp.new ‹_›) k2))
      · refine ixL (SqL.of upd_same) rfl ?_
        walk_at "wp"
        refine ⟨b, n + 1, _, rfl, hb1.keep (same_new ‹_›), by omega, by decide, by decide, fun v H2 v0 v1 hb2 k2 => ?_⟩
        walk_at "wp"
        exact k _ _ v0 (hb2.mono (by omega)) (Kp.trans k1 (Kp.trans (Kp.new ‹_›) k2))
    · walk_at "wp"
      rename_i p hp
      refine ⟨b, n + 1, _, rfl, hb1.keep (same_new hp), by omega, by decide, by decide, fun at_ H2 v0 v1 hb2 k2 => ?_⟩
      have hpl : H2 p = _ := k2 _ _ (hb1.ne_new hp) upd_same
      obtain ⟨bd, hbd, bd0⟩ : ∃ bd : Int, atI [V.int 10, V.int 100, V.int (10 ^ Int.toNat 5), V.int (10 ^ Int.toNat 18), V.int (10 ^ Int.toNat 30), V.int (10 ^ Int.toNat 59), V.int (10 ^ Int.toNat 60)] at_ = some (V.int bd) ∧ 0 < bd := by
        have cc : at_ = 0 ∨ at_ = 1 ∨ at_ = 2 ∨ at_ = 3 ∨ at_ = 4 ∨ at_ = 5 ∨ at_ = 6 := by omega
        rcases cc with rfl | rfl | rfl | rfl | rfl | rfl | rfl <;> exact ⟨_, rfl, by decide⟩
      refine ixL (SqL.of hpl) hbd ?_
      walk_at "wp"
      refine ⟨by decide, by decide, loopR (fun i σ H' => ∃ (f : Int) (v : Option V), σ = [some (.ref b), some (.int way), some (.int bd), some (.int f), v] ∧ Bag H' b (n + 2 + i) ∧ Kp b H2 H') ⟨0, none, rfl, hb2, Kp.refl _ _⟩ ?_ ?_⟩
      · rintro i σ H3 hi ⟨f, v, rfl, hb3, k3⟩
        have hi5 : i < 5 := hi
        walk_at "wp"
        refine ⟨b, n + 2 + i, _, rfl, hb3, by omega, by decide, by decide, fun v4 H4 v0 v1 hb4 k4 => ?_⟩
        walk_at "wp"
        exact ⟨hb4, Kp.trans k3 k4⟩
      · rintro σ H3 ⟨f, v, rfl, hb3, k3⟩
        walk_at "wp"
        exact k _ _ (Int.emod_nonneg _ (by omega)) hb3 (Kp.trans k1 (Kp.trans (Kp.new hp) (Kp.trans k2 k3)))

/-! ### what is asked of a thing -/
def verd : V → V → Bool
  | .str s, .int n => decide (s = "num") || ((decide (s = "at") || decide (s = "box") || decide (s = "go")) && decide (0 ≤ n))
  | _, _ => false
def Th (H : Hp) (v : V) (r : Bool) : Prop := (∃ T, Kind H v T ∧ T ≠ "tuple" ∧ r = false) ∨ (∃ p xs, v = .ref p ∧ H p = some (.tup xs) ∧
  ((xs.length ≠ 2 ∧ r = false) ∨ ∃ x y T1 T2, xs = [x, y] ∧ Kind H x T1 ∧ Kind H y T2 ∧ r = verd x y))
theorem Kind.isStr {H : Hp} {x : V} {T : String} (k : Kind H x T) (e : T = "str") : ∃ s, x = .str s := by
  cases k <;> first | exact ⟨_, rfl⟩ | (exfalso; revert e; decide)
theorem Kind.isInt {H : Hp} {x : V} {T : String} (k : Kind H x T) (e : T = "int") : ∃ s, x = .int s := by
  cases k <;> first | exact ⟨_, rfl⟩ | (exfalso; revert e; decide)
theorem verd_noStr {H : Hp} {x y : V} {T : String} (k : Kind H x T) (e : T ≠ "str") : verd x y = false := by
  cases k <;> first | rfl | exact absurd rfl e
theorem verd_noInt {H : Hp} {x y : V} {T : String} (k : Kind H y T) (e : T ≠ "int") : verd x y = false := by
  cases k <;> first | (cases x <;> rfl) | exact absurd rfl e
def spIsNumber : Sp := fun vs H Q _ => ∃ (v : V) (T : String), vs = [v] ∧ Kind H v T ∧ Q (.bl (decide (T = "int"))) H
theorem ok_is_number (T : Txt P w K mg) : FnOk P w K mg base CX0 1 T.f_is_number T.fd_is_number ["thing"] spIsNumber := by
  refine T.F_is_number.ok sc_is_number (fun vs H Q E h => ?_) (fun cdv A outer s H vs Q E hr h => ?_)
  · obtain ⟨v, ty, rfl, _⟩ := h
    rfl
  · obtain ⟨v, ty, rfl, hk, q⟩ := h
    refine ⟨_, (pss_one (ps_ret (pe_cmpR op_isTyB (pe_callTy call_type1 (by rfl) T.n_type (by decide +kernel) (pa_cons (pv 0) pa_nil)) (pe_bltn (v := .ty "int") (by rfl) T.n_int (by decide +kernel) rfl) (nomark _)))), ?_⟩
    rw [show L2.start ["thing"] [v] = [some v] from rfl]
    try dsimp only [cxOf]
    walk_at "wp"
    exact q
def spIsWorth : Sp := fun vs H Q _ => ∃ (v : V) (r : Bool), vs = [v] ∧ Th H v r ∧ Q (.bl r) H
theorem ok_is_worth (T : Txt P w K mg) : FnOk P w K mg base CX0 2 T.f_is_worth T.fd_is_worth ["thing"] spIsWorth := by
  have G_is_number := ok_is_number (base := base) T
  refine T.F_is_worth.ok sc_is_worth (fun vs H Q E h => ?_) (fun cdv A outer s H vs Q E hr h => ?_)
  · obtain ⟨v, r, rfl, _⟩ := h
    rfl
  · obtain ⟨v, r, rfl, ht, q⟩ := h
    refine ⟨_, (pss_cons (ps_if (PW.pt (pw_or (pt_cmpR op_notTyB (pe_callTy call_type1 (by rfl) T.n_type (by decide +kernel) (pa_cons (pv 0) pa_nil)) (pe_bltn (v := .ty "tuple") (by rfl) T.n_tuple (by decide +kernel) rfl) (nomark _)) (pw_or1 (pt_cmpR op_ne (pe_callB call_len_seq (by rfl) T.n_len (by decide +kernel) (pa_cons (pv 0) pa_nil)) pe_int (nomark _))))) (pss_one (ps_ret pe_bl)) pss_nil)
      (pss_cons (ps_asg (pv 0) (pg_tup (by rfl) (pgs_cons (pg_name (i := 1) sc_is_worth.nd rfl (.inl rfl)) (pgs_cons (pg_name (i := 2) sc_is_worth.nd rfl (.inl rfl)) pgs_nil))))
      (pss_cons (ps_if (PW.pt (pw_or (pt_cmpR op_notTyB (pe_callTy call_type1 (by rfl) T.n_type (by decide +kernel) (pa_cons (pv 1) pa_nil)) (pe_bltn (v := .ty "str") (by rfl) T.n_str (by decide +kernel) rfl) (nomark _)) (pw_or (pt_cmpR (op_notIn_kd T.k_SIGNS) (pv 1) (pe_glob (v := .ref T.d_SIGNS) (by rfl) T.c_SIGNS rfl) (by rfl)) (pw_or1 (pt_not (pt_val (pe_call G_is_number (hr.mono (by decide)) (by rfl) T.g_is_number T.F_is_number.kp T.b_is_number .nil pass0 (pa_cons (pv 2) pa_nil)))))))) (pss_one (ps_ret pe_bl)) pss_nil)
      (pss_one (ps_ret (pe_or (pe_cmpR op_eq (pv 1) pe_str (nomark _)) (pe_one (pe_cmpR op_ge (pv 2) pe_int (nomark _))))))))), ?_⟩
    rw [show L2.start ["thing", "word", "number"] [v] = [some v, none, none] from rfl]
    try dsimp only [cxOf]
    rcases ht with ⟨ty, hk, hn, rfl⟩ | ⟨p, xs, rfl, hp, ht⟩
    · walk_at "wp"
      refine iteN (fun _ => ?_) (fun e => absurd e hn)
      walk_at "wp"
      exact q
    · have hk : Kind H (.ref p) "tuple" := .tup hp
      walk_at "wp"
      refine iteN (fun e => absurd rfl e) (fun _ => ?_)
      walk_at "wp"
      rcases ht with ⟨hl, rfl⟩ | ⟨x, y, T1, T2, rfl, h1, h2, rfl⟩
      · refine iteN (fun _ => ?_) (fun e => ?_)
        · walk_at "wp"
          exact q
        · exact absurd (by have := V.int.inj e; omega) hl
      · refine iteN (fun e => absurd rfl e) (fun _ => ?_)
        walk_at "wp"
        refine iteN (fun e => ?_) (fun e => ?_)
        · walk_at "wp"
          rw [verd_noStr h1 e] at q
          exact q
        · obtain ⟨z, rfl⟩ := Kind.isStr h1 e
          walk_at "wp"
          obtain ⟨r, hr1, hr2⟩ := T.i_SIGNS z
          refine ⟨z, r, rfl, rfl, hr1, ?_⟩
          walk_at "wp"
          cases hs : r.isSome with
          | false =>
            walk_at "wp"
            have hv : verd (.str z) y = false := by
              rw [hs] at hr2
              cases y <;> try rfl
              show (decide (z = "num") || ((decide (z = "at") || decide (z = "box") || decide (z = "go")) && decide (0 ≤ _))) = false
              cases d1 : decide (z = "num") <;> cases d2 : decide (z = "at") <;> cases d3 : decide (z = "box") <;> cases d4 : decide (z = "go") <;> simp [d1, d2, d3, d4] at hr2 ⊢
            rw [hv] at q
            exact q
          | true =>
            walk_at "wp"
            refine ⟨y, T2, rfl, h2, ?_⟩
            walk_at "wp"
            refine iteN (fun e2 => ?_) (fun e2 => ?_)
            · walk_at "wp"
              rw [verd_noInt h2 e2] at q
              exact q
            · obtain ⟨n, rfl⟩ := Kind.isInt h2 e2
              walk_at "wp"
              have hv : verd (.str z) (.int n) = (decide (z = "num") || decide (0 ≤ n)) := by
                rw [hs] at hr2
                show (decide (z = "num") || ((decide (z = "at") || decide (z = "box") || decide (z = "go")) && decide (0 ≤ n))) = _
                cases d1 : decide (z = "num") <;> cases d2 : decide (z = "at") <;> cases d3 : decide (z = "box") <;> cases d4 : decide (z = "go") <;> simp [d1, d2, d3, d4] at hr2 ⊢
              rw [hv] at q
              refine ite_ (fun e3 => ?_) (fun e3 => ?_)
              · walk_at "wp"
                have e4 : z = "num" := V.str.inj e3
                rw [decide_eq_true e4] at q
                exact q
              · walk_at "wp"
                have e4 : ¬ z = "num" := fun h => e3 (by rw [h])
                rw [decide_eq_false e4] at q
                exact q

end
end K01

namespace K01
open PySem PySem.Spec PyProof.Rows L2 Wp
local macro_rules | `(tactic| walk_at "ne") => `(tactic| first
  | assumption
  | (refine Ne.symm ?_; assumption)
  | exact ne_of_none (by assumption) (by assumption)
  | exact (ne_of_none (by assumption) (by assumption)).symm
  | exact ne_of (by assumption) (by assumption) (by intro q; cases q))
local macro_rules | `(tactic| walk_at "hp") => `(tactic| first
  | assumption
  | exact upd_same
  | (refine (upd_ne ?_).trans ?_; (walk_at "ne"); (walk_at "hp")))
local macro_rules | `(tactic| walk_at "sq") => `(tactic| first
  | assumption
  | exact SqL.of (by walk_at "hp")
  | exact SqT.of (by walk_at "hp"))
local macro_rules | `(tactic| walk_at "kind") => `(tactic| first
  | assumption
  | exact Kind.int _
  | exact Kind.str _
  | exact Kind.bl _
  | exact Kind.non
  | exact Kind.tup (by walk_at "hp")
  | exact Kind.lst (by walk_at "hp")
  | exact Kind.dK (by walk_at "hp"))
local macro_rules | `(tactic| walk_at "w1") => `(tactic| first
  | (with_reducible refine Wp.seq ?_)
  | (with_reducible refine Wp.nx_mk ?_)
  | (with_reducible refine Wp.rt_mk ?_)
  | (with_reducible refine Wp.bk_mk ?_)
  | (with_reducible refine Wp.ct_mk ?_)
  | (with_reducible refine Wp.next ?_)
  | (with_reducible refine Wp.asg ?_)
  | ((with_reducible refine' Wp.gname ?e ?_); (case e => (try dsimp only [List.set]); (try exact rfl)))
  | (with_reducible refine Wp.gsub ?_)
  | (with_reducible refine Wp.ret ?_)
  | (with_reducible refine Wp.retN ?_)
  | (with_reducible refine Wp.drop ?_)
  | (with_reducible refine Wp.ifs ?_)
  | ((with_reducible refine' Wp.var ?h ?_); (case h => exact rfl))
  | (with_reducible refine Wp.con ?_)
  | (with_reducible refine Wp.op ?_)
  | (with_reducible refine Wp.un ?_)
  | (with_reducible refine Wp.cb ?_)
  | (with_reducible refine Wp.anil ?_)
  | (with_reducible refine Wp.acons ?_)
  | (with_reducible refine Wp.call ?_)
  | (with_reducible refine Wp.test ?_)
  | (with_reducible refine Wp.tb_ ?_)
  | (with_reducible refine Wp.and_ ?_)
  | (with_reducible refine Wp.or_ ?_)
  | (with_reducible refine Wp.not_ ?_)
  | (with_reducible refine Wp.andV ?_)
  | (with_reducible refine Wp.orV ?_)
  | (with_reducible refine Wp.notV ?_)
  | (with_reducible refine Wp.rI0_ ?_)
  | (with_reducible refine Wp.rU_ ?_)
  | ((with_reducible refine Wp.rEq_ ?k ?_); (case k => exact rfl))
  | ((with_reducible refine Wp.rNe_ ?k ?_); (case k => exact rfl))
  | (with_reducible refine Wp.gcons ?_)
  | (with_reducible refine Wp.gnil ?_)
  | ((with_reducible refine' Wp.gtup ?h ?e ?_); (case h => walk_at "sq"); (case e => exact rfl))
  | (with_reducible refine Wp.sl ?_)
  | (with_reducible refine Wp.part ?_)
  | (with_reducible refine Wp.nopart ?_)
  | (with_reducible refine Wp.ifE ?_)
  | (with_reducible refine Wp.bm0 ?_)
  | (with_reducible refine Wp.bm ?_)
  | (with_reducible refine Wp.forR1 ?_)
  | (with_reducible refine Wp.forR2 ?_)
  | (with_reducible refine Wp.forL ?_)
  | (with_reducible refine Wp.forT ?_)
  | ((with_reducible refine' Wp.isi ?k ?h ?_); (case k => walk_at "kind"); (case h => decide))
  | ((with_reducible refine' Wp.typ ?k ?_); (case k => walk_at "kind"))
  | (with_reducible refine Wp.slS ?k ?_; (case k => assumption))
  | (with_reducible refine iteT ?_)
  | (with_reducible refine iteF ?_)
  | (with_reducible refine Wp.pcons ?_)
  | (with_reducible refine Wp.pnil ?_)
  | ((with_reducible refine' Wp.iteBnT ?h ?_); (case h => show isB _ _ = false; decide))
  | ((with_reducible refine' Wp.iteBnF ?h ?_); (case h => show isB _ _ = true; decide))
  | ((with_reducible refine' Wp.iteBt ?h ?_); (case h => show isB _ _ = true; decide))
  | ((with_reducible refine' Wp.iteBf ?h ?_); (case h => show isB _ _ = false; decide))
  | (with_reducible refine Wp.iteT' ?_)
  | (with_reducible refine Wp.iteF' ?_)
  | (with_reducible refine Wp.rNT_ ?_)
  | ((with_reducible refine Wp.lst ?_))
  | ((with_reducible refine Wp.tup ?_))
  | ((with_reducible refine' Wp.ixL ?h ?e ?_); (case h => walk_at "sq"); (case e => exact rfl))
  | ((with_reducible refine' Wp.ixT ?h ?e ?_); (case h => walk_at "sq"); (case e => exact rfl))
  | ((with_reducible refine' Wp.setL ?h ?e ?_); (case h => walk_at "hp"); (case e => exact rfl))
  | ((with_reducible refine Wp.rI_ ?k ?_); (case k => first | (show (0:Int) < _; omega) | (show CPow _ _; refine' ⟨?_, ?_, ?_⟩ <;> omega) | (show CDiv _ _; refine' ⟨?_, ?_⟩ <;> omega) | (show CMul _ _; refine' Or.inl ⟨?_, ?_⟩ <;> omega) | (show CMul _ _; refine' Or.inr ⟨?_, ?_⟩ <;> first | omega | decide) | (show CDivW _ _; refine' wide_div (b := 240) ?_ ?_ ?_ ?_ <;> first | omega | decide)))
  | ((with_reducible refine ⟨?k, ?_⟩); (case k => first | exact Nat.zero_le _ | (exact Nat.le_of_ble_eq_true rfl)); intro p hp)
  | ((with_reducible refine' ⟨_, _, rfl, .inl ?k, ?_⟩); (case k => walk_at "sq"))
  | ((with_reducible refine' ⟨_, _, rfl, .inr ?k, ?_⟩); (case k => walk_at "sq"))
  | (with_reducible refine ⟨_, rfl, ?_⟩)
  | (with_reducible refine ⟨_, _, rfl, rfl, ?_⟩)
  | (with_reducible refine ⟨_, _, rfl, ?_⟩))
local macro_rules | `(tactic| walk_at "wp") => `(tactic| repeat (walk_at "w1"))

section
variable {P : Program} {w : World} {K : PySem.W.Frag} {mg : Str → Option Value} {base : Heap}
def spWhole : Sp := fun vs H Q _ => ∃ (v : V) (T : String), vs = [v] ∧ Kind H v T ∧ Q (.bl (decide (T = "int"))) H
theorem ok_whole (T : Txt P w K mg) : FnOk P w K mg base CX0 1 T.f_whole T.fd_whole ["found"] spWhole := by
  refine T.F_whole.ok sc_whole (fun vs H Q E h => ?_) (fun cdv A outer s H vs Q E hr h => ?_)
  · obtain ⟨v, ty, rfl, _⟩ := h
    rfl
  · obtain ⟨v, ty, rfl, hk, q⟩ := h
    refine ⟨_, (pss_one (ps_ret (pe_and (pe_callB call_isi (by rfl) T.n_isinstance (by decide +kernel) (pa_cons (pv 0) (pa_cons (pe_bltn (v := .ty "int") (by rfl) T.n_int (by decide +kernel) rfl) pa_nil))) (pe_one (pe_not (pe_callB call_isi (by rfl) T.n_isinstance (by decide +kernel) (pa_cons (pv 0) (pa_cons (pe_bltn (v := .ty "bool") (by rfl) T.n_bool (by decide +kernel) rfl) pa_nil)))))))), ?_⟩
    rw [show L2.start ["found"] [v] = [some v] from rfl]
    try dsimp only [cxOf]
    walk_at "wp"
    by_cases e1 : ty = "int"
    · subst e1
      walk_at "wp"
      exact q
    · rw [decide_eq_false e1] at q
      by_cases e2 : ty = "bool"
      · subst e2
        walk_at "wp"
        exact q
      · rw [show isB ty "int" = false by unfold isB; rw [decide_eq_false e1, decide_eq_false e2] <;> rfl]
        walk_at "wp"
        exact q
def spWorth : Sp := fun vs H Q _ => ∃ (b : Addr) (n : Nat), vs = [.ref b] ∧ Bag H b n ∧ n < 800 ∧ ∀ (t : Addr) (wd : Str) (v : Int) (H' : Hp), H' t = some (.tup [.str wd, .int v]) → (wd = "num" ∨ ((wd = "at" ∨ wd = "box" ∨ wd = "go") ∧ 0 ≤ v)) → Bag H' b (n + 9) → Kp b H H' → Q (.ref t) H'
theorem ok_worth (T : Txt P w K mg) : FnOk P w K mg base CX0 3 T.f_worth T.fd_worth ["bag"] spWorth := by
  have G_draw := ok_draw (base := base) T
  have G_number := ok_number (base := base) T
  refine T.F_worth.ok sc_worth (fun vs H Q E h => ?_) (fun cdv A outer s H vs Q E hr h => ?_)
  · obtain ⟨b, n, rfl, _⟩ := h
    rfl
  · obtain ⟨b, n, rfl, hb, hn, k⟩ := h
    refine ⟨_, (pss_cons (ps_set (i := 1) sc_worth.nd rfl (.inl rfl) (pe_ix ix_list (pe_lst (pa_cons pe_str (pa_cons pe_str (pa_cons pe_str (pa_cons pe_str pa_nil))))) (pe_call G_draw (hr.mono (by decide)) (by rfl) T.g_draw T.F_draw.kp T.b_draw .nil pass0 (pa_cons (pv 0) (pa_cons pe_int pa_nil))) (fun _ _ => rfl)))
      (pss_cons (ps_set (i := 2) sc_worth.nd rfl (.inl rfl) (pe_call G_draw (hr.mono (by decide)) (by rfl) T.g_draw T.F_draw.kp T.b_draw .nil pass0 (pa_cons (pv 0) (pa_cons pe_int pa_nil))))
      (pss_cons (ps_set (i := 3) sc_worth.nd rfl (.inl rfl) (pe_call G_number (hr.mono (by decide)) (by rfl) T.g_number T.F_number.kp T.b_number .nil pass0 (pa_cons (pv 0) pa_nil)))
      (pss_cons (ps_if (PW.pt (pw_and (pt_cmpR op_eq (pv 1) pe_str (nomark _)) (pw_and1 (pt_cmpR op_eq (pv 2) pe_int (nomark _))))) (pss_one (ps_set (i := 3) sc_worth.nd rfl (.inl rfl) (pe_un un_neg (pv 3)))) pss_nil)
      (pss_one (ps_ret (pe_tup (pa_cons (pv 1) (pa_cons (pv 3) pa_nil))))))))), ?_⟩
    rw [show L2.start ["bag", "word", "below", "number"] [.ref b] = [some (.ref b), none, none, none] from rfl]
    try dsimp only [cxOf]
    walk_at "wp"
    rename_i p hp
    refine ⟨b, n, _, rfl, hb.keep (same_new hp), by omega, by decide, by decide, fun i1 H1 w0 w1 hb1 k1 => ?_⟩
    have hpl : H1 p = _ := k1 _ _ (hb.ne_new hp) upd_same
    obtain ⟨wd, hwd, hw⟩ : ∃ wd : Str, atI [V.str "num", V.str "at", V.str "box", V.str "go"] i1 = some (V.str wd) ∧ (wd = "num" ∨ wd = "at" ∨ wd = "box" ∨ wd = "go") := by
      have cc : i1 = 0 ∨ i1 = 1 ∨ i1 = 2 ∨ i1 = 3 := by omega
      rcases cc with rfl | rfl | rfl | rfl
      · exact ⟨_, rfl, .inl rfl⟩
      · exact ⟨_, rfl, .inr (.inl rfl)⟩
      · exact ⟨_, rfl, .inr (.inr (.inl rfl))⟩
      · exact ⟨_, rfl, .inr (.inr (.inr rfl))⟩
    refine ixL (SqL.of hpl) hwd ?_
    walk_at "wp"
    refine ⟨b, n + 1, _, rfl, hb1, by omega, by decide, by decide, fun i2 H2 v0 v1 hb2 k2 => ?_⟩
    walk_at "wp"
    refine ⟨b, n + 2, rfl, hb2, by omega, fun v H3 vn hb3 k3 => ?_⟩
    have kk : Kp b H H3 := Kp.trans (Kp.new hp) (Kp.trans k1 (Kp.trans k2 k3))
    walk_at "wp"
    refine ite_ (fun c1 => ?_) (fun c1 => ?_)
    · have e1 : wd = "num" := V.str.inj c1
      walk_at "wp"
      refine ite_ (fun c2 => ?_) (fun c2 => ?_)
      · walk_at "wp"
        rename_i t ht
        exact k t wd _ _ upd_same (.inl e1) (hb3.keep (same_new ht)) (Kp.trans kk (Kp.new ht))
      · walk_at "wp"
        rename_i t ht
        exact k t wd _ _ upd_same (.inl e1) (hb3.keep (same_new ht)) (Kp.trans kk (Kp.new ht))
    · walk_at "wp"
      rename_i t ht
      refine k t wd _ _ upd_same ?_ (hb3.keep (same_new ht)) (Kp.trans kk (Kp.new ht))
      rcases hw with h | h
      · exact .inl h
      · exact .inr ⟨h, vn⟩
def spSign : Sp := fun vs H Q _ => ∃ (b : Addr) (n : Nat), vs = [.ref b] ∧ Bag H b n ∧ n < 900 ∧ ∀ c H', Bag H' b (n + 1) → Kp b H H' → Q (.str ⟨#[c]⟩) H'
theorem ok_sign (T : Txt P w K mg) : FnOk P w K mg base CX0 2 T.f_sign T.fd_sign ["bag"] spSign := by
  have G_draw := ok_draw (base := base) T
  refine T.F_sign.ok sc_sign (fun vs H Q E h => ?_) (fun cdv A outer s H vs Q E hr h => ?_)
  · obtain ⟨b, n, rfl, _⟩ := h
    rfl
  · obtain ⟨b, n, rfl, hb, hn, k⟩ := h
    refine ⟨_, (pss_cons (ps_set (i := 1) sc_sign.nd rfl (.inl rfl) pe_str)
      (pss_cons (ps_set (i := 1) sc_sign.nd rfl (.inl rfl) (pe_op op_add_str (pv 1) pe_str))
      (pss_one (ps_ret (pe_ix ix_str (pv 1) (pe_call G_draw (hr.mono (by decide)) (by rfl) T.g_draw T.F_draw.kp T.b_draw .nil pass0 (pa_cons (pv 0) (pa_cons pe_int pa_nil))) (fun _ _ => rfl)))))), ?_⟩
    rw [show L2.start ["bag", "some"] [.ref b] = [some (.ref b), none] from rfl]
    try dsimp only [cxOf]
    walk_at "wp"
    refine ⟨by decide +kernel, ?_⟩
    walk_at "wp"
    refine ⟨b, n, _, rfl, hb, by omega, by decide, by decide, fun i H1 w0 w1 hb1 k1 => ?_⟩
    refine Wp.ixS_any (by decide +kernel) w0 (Int.lt_of_lt_of_le w1 (by decide +kernel)) (fun c => ?_)
    walk_at "wp"
    exact k _ _ hb1 k1
def spWord : Sp := fun vs H Q _ => ∃ (w g : Str) (y a : Int), vs = [.str w, .int y, .int a, .str g] ∧ w.length ≤ 100 ∧ g.length ≤ 100 ∧ ∀ z, Q (.str z) H
theorem ok_word (T : Txt P w K mg) : FnOk P w K mg base CX0 1 T.f_word T.fd_word ["word", "way", "at", "sign"] spWord := by
  refine T.F_word.ok sc_word (fun vs H Q E h => ?_) (fun cdv A outer s H vs Q E hr h => ?_)
  · obtain ⟨w, g, y, a, rfl, _⟩ := h
    rfl
  · obtain ⟨wd, g, y, a, rfl, hw, hg, k⟩ := h
    refine ⟨_, (pss_cons (ps_if (pt_cmpR op_eq (pv 1) pe_int (nomark _)) (pss_one (ps_ret (pe_op op_add_str (pe_op op_add_str (pe_slice sl_str (pv 0) po_none (po_some (pv 2))) (pv 3)) (pe_slice sl_str (pv 0) (po_some (pv 2)) po_none)))) pss_nil)
      (pss_cons (ps_if (pt_cmpR op_eq (pv 1) pe_int (nomark _)) (pss_one (ps_ret (pe_op op_add_str (pe_slice sl_str (pv 0) po_none (po_some (pv 2))) (pe_slice sl_str (pv 0) (po_some (pe_op op_add (pv 2) pe_int)) po_none)))) pss_nil)
      (pss_one (ps_ret (pe_op op_add_str (pe_op op_add_str (pe_slice sl_str (pv 0) po_none (po_some (pv 2))) (pv 3)) (pe_slice sl_str (pv 0) (po_some (pe_op op_add (pv 2) pe_int)) po_none)))))), ?_⟩
    rw [show L2.start ["word", "way", "at", "sign"] [.str wd, .int y, .int a, .str g] = [some (.str wd), some (.int y), some (.int a), some (.str g)] from rfl]
    try dsimp only [cxOf]
    have hz : wd.length ≤ sizeLine := Nat.le_trans hw (by decide)
    walk_at "wp"
    have l1 := fun lo hi => cutS_len wd lo hi
    have big : (100000 : Nat) ≤ sizeLine := by decide
    refine ite_ (fun c1 => ?_) (fun c1 => ?_)
    · walk_at "wp"
      refine ⟨Nat.le_trans (Nat.add_le_add (l1 _ _) hg) (by omega), ?_⟩
      walk_at "wp"
      refine ⟨?_, ?_⟩
      · have := l1 none (some a)
        have := l1 (some a) none
        rw [app_len]
        omega
      · walk_at "wp"
        exact k _
    · walk_at "wp"
      refine ite_ (fun c1 => ?_) (fun c1 => ?_)
      · walk_at "wp"
        refine ⟨?_, ?_⟩
        · have := l1 none (some a)
          have := l1 (some (a + 1)) none
          omega
        · walk_at "wp"
          exact k _
      · walk_at "wp"
        refine ⟨Nat.le_trans (Nat.add_le_add (l1 _ _) hg) (by omega), ?_⟩
        walk_at "wp"
        refine ⟨?_, ?_⟩
        · have := l1 none (some a)
          have := l1 (some (a + 1)) none
          rw [app_len]
          omega
        · walk_at "wp"
          exact k _
end
end K01

namespace K01
open PySem PySem.Spec PyProof.Rows L2 Wp
local macro_rules | `(tactic| walk_at "ne") => `(tactic| first
  | assumption
  | (refine Ne.symm ?_; assumption)
  | exact ne_of_none (by assumption) (by assumption)
  | exact (ne_of_none (by assumption) (by assumption)).symm
  | exact ne_of (by assumption) (by assumption) (by intro q; cases q))
local macro_rules | `(tactic| walk_at "hp") => `(tactic| first
  | assumption
  | exact upd_same
  | (refine (upd_ne ?_).trans ?_; (walk_at "ne"); (walk_at "hp")))
local macro_rules | `(tactic| walk_at "sq") => `(tactic| first
  | assumption
  | exact SqL.of (by walk_at "hp")
  | exact SqT.of (by walk_at "hp"))
local macro_rules | `(tactic| walk_at "kind") => `(tactic| first
  | assumption
  | exact Kind.int _
  | exact Kind.str _
  | exact Kind.bl _
  | exact Kind.non
  | exact Kind.tup (by walk_at "hp")
  | exact Kind.lst (by walk_at "hp")
  | exact Kind.dK (by walk_at "hp"))
local macro_rules | `(tactic| walk_at "w1") => `(tactic| first
  | (with_reducible refine Wp.seq ?_)
  | (with_reducible refine Wp.nx_mk ?_)
  | (with_reducible refine Wp.rt_mk ?_)
  | (with_reducible refine Wp.bk_mk ?_)
  | (with_reducible refine Wp.ct_mk ?_)
  | (with_reducible refine Wp.next ?_)
  | (with_reducible refine Wp.asg ?_)
  | ((with_reducible refine' Wp.gname ?e ?_); (case e => (try dsimp only [List.set]); (try exact rfl)))
  | (with_reducible refine Wp.gsub ?_)
  | (with_reducible refine Wp.ret ?_)
  | (with_reducible refine Wp.retN ?_)
  | (with_reducible refine Wp.drop ?_)
  | (with_reducible refine Wp.ifs ?_)
  | ((with_reducible refine' Wp.var ?h ?_); (case h => exact rfl))
  | (with_reducible refine Wp.con ?_)
  | (with_reducible refine Wp.op ?_)
  | (with_reducible refine Wp.un ?_)
  | (with_reducible refine Wp.cb ?_)
  | (with_reducible refine Wp.anil ?_)
  | (with_reducible refine Wp.acons ?_)
  | (with_reducible refine Wp.call ?_)
  | (with_reducible refine Wp.test ?_)
  | (with_reducible refine Wp.tb_ ?_)
  | (with_reducible refine Wp.and_ ?_)
  | (with_reducible refine Wp.or_ ?_)
  | (with_reducible refine Wp.not_ ?_)
  | (with_reducible refine Wp.andV ?_)
  | (with_reducible refine Wp.orV ?_)
  | (with_reducible refine Wp.notV ?_)
  | (with_reducible refine Wp.rI0_ ?_)
  | (with_reducible refine Wp.rU_ ?_)
  | ((with_reducible refine Wp.rEq_ ?k ?_); (case k => exact rfl))
  | ((with_reducible refine Wp.rNe_ ?k ?_); (case k => exact rfl))
  | (with_reducible refine Wp.gcons ?_)
  | (with_reducible refine Wp.gnil ?_)
  | ((with_reducible refine' Wp.gtup ?h ?e ?_); (case h => walk_at "sq"); (case e => exact rfl))
  | (with_reducible refine Wp.sl ?_)
  | (with_reducible refine Wp.part ?_)
  | (with_reducible refine Wp.nopart ?_)
  | (with_reducible refine Wp.ifE ?_)
  | (with_reducible refine Wp.bm0 ?_)
  | (with_reducible refine Wp.bm ?_)
  | (with_reducible refine Wp.forR1 ?_)
  | (with_reducible refine Wp.forR2 ?_)
  | (with_reducible refine Wp.forL ?_)
  | (with_reducible refine Wp.forT ?_)
  | ((with_reducible refine' Wp.isi ?k ?h ?_); (case k => walk_at "kind"); (case h => decide))
  | ((with_reducible refine' Wp.typ ?k ?_); (case k => walk_at "kind"))
  | (with_reducible refine Wp.slS ?k ?_; (case k => assumption))
  | (with_reducible refine iteT ?_)
  | (with_reducible refine iteF ?_)
  | (with_reducible refine Wp.pcons ?_)
  | (with_reducible refine Wp.pnil ?_)
  | ((with_reducible refine' Wp.iteBnT ?h ?_); (case h => show isB _ _ = false; decide))
  | ((with_reducible refine' Wp.iteBnF ?h ?_); (case h => show isB _ _ = true; decide))
  | ((with_reducible refine' Wp.iteBt ?h ?_); (case h => show isB _ _ = true; decide))
  | ((with_reducible refine' Wp.iteBf ?h ?_); (case h => show isB _ _ = false; decide))
  | (with_reducible refine Wp.iteT' ?_)
  | (with_reducible refine Wp.iteF' ?_)
  | (with_reducible refine Wp.rNT_ ?_)
  | ((with_reducible refine Wp.lst ?_))
  | ((with_reducible refine Wp.tup ?_))
  | ((with_reducible refine' Wp.ixL ?h ?e ?_); (case h => walk_at "sq"); (case e => exact rfl))
  | ((with_reducible refine' Wp.ixT ?h ?e ?_); (case h => walk_at "sq"); (case e => exact rfl))
  | ((with_reducible refine' Wp.setL ?h ?e ?_); (case h => walk_at "hp"); (case e => exact rfl))
  | ((with_reducible refine Wp.rI_ ?k ?_); (case k => first | (show (0:Int) < _; omega) | (show CPow _ _; refine' ⟨?_, ?_, ?_⟩ <;> omega) | (show CDiv _ _; refine' ⟨?_, ?_⟩ <;> omega) | (show CMul _ _; refine' Or.inl ⟨?_, ?_⟩ <;> omega) | (show CMul _ _; refine' Or.inr ⟨?_, ?_⟩ <;> first | omega | decide) | (show CDivW _ _; refine' wide_div (b := 240) ?_ ?_ ?_ ?_ <;> first | omega | decide)))
  | ((with_reducible refine ⟨?k, ?_⟩); (case k => first | exact Nat.zero_le _ | (exact Nat.le_of_ble_eq_true rfl)); intro p hp)
  | ((with_reducible refine' ⟨_, _, rfl, .inl ?k, ?_⟩); (case k => walk_at "sq"))
  | ((with_reducible refine' ⟨_, _, rfl, .inr ?k, ?_⟩); (case k => walk_at "sq"))
  | (with_reducible refine ⟨_, rfl, ?_⟩)
  | (with_reducible refine ⟨_, _, rfl, rfl, ?_⟩)
  | (with_reducible refine ⟨_, _, rfl, ?_⟩))
local macro_rules | `(tactic| walk_at "wp") => `(tactic| repeat (walk_at "w1"))

section
variable {P : Program} {w : World} {K : PySem.W.Frag} {mg : Str → Option Value} {base : Heap}
def spOdd : Sp := fun vs H Q _ => ∃ (b : Addr) (n : Nat), vs = [.ref b] ∧ Bag H b n ∧ n < 900 ∧ ∀ v T H', Kind H' v T → v ≠ .ref b → (∀ p xs, v = .ref p → H' p = some (.tup xs) → xs.length ≠ 2 ∨ ∃ i, xs = [.str "num", .int i]) → Bag H' b (n + 1) → Kp b H H' → Q v H'
theorem ok_odd (T : Txt P w K mg) : FnOk P w K mg base CX0 2 T.f_odd T.fd_odd ["bag"] spOdd := by
  have G_draw := ok_draw (base := base) T
  refine T.F_odd.ok sc_odd (fun vs H Q E h => ?_) (fun cdv A outer s H vs Q E hr h => ?_)
  · obtain ⟨b, n, rfl, _⟩ := h
    rfl
  · obtain ⟨b, n, rfl, hb, hn, k⟩ := h
    refine ⟨_, (pss_cons (ps_set (i := 1) sc_odd.nd rfl (.inl rfl) (pe_call G_draw (hr.mono (by decide)) (by rfl) T.g_draw T.F_draw.kp T.b_draw .nil pass0 (pa_cons (pv 0) (pa_cons pe_int pa_nil))))
      (pss_one (ps_ret (pe_ix ix_list (pe_lst (pa_cons pe_non (pa_cons pe_bl (pa_cons pe_bl (pa_cons pe_str (pa_cons pe_str (pa_cons pe_str (pa_cons (pe_tup pa_nil) (pa_cons (pe_tup (pa_cons pe_str (pa_cons pe_int pa_nil))) (pa_cons (pe_lst (pa_cons pe_str (pa_cons pe_int pa_nil))) (pa_cons (pe_disp (pps_cons pe_str pe_int pps_nil) (by rfl) (by rfl) (fun z => by cases z) (by decide)) pa_nil))))))))))) (pv 1) (fun _ _ => rfl))))), ?_⟩
    rw [show L2.start ["bag", "at"] [.ref b] = [some (.ref b), none] from rfl]
    try dsimp only [cxOf]
    walk_at "wp"
    refine ⟨b, n, _, rfl, hb, by omega, by decide, by decide, fun i H1 w0 w1 hb1 k1 => ?_⟩
    walk_at "wp"
    rename_i p0 h0 p1 h1 p2 h2
    have s0 := same_new (o := .tup []) h0
    have s1 := s0.trans (same_new (o := .tup [.str "num", .int 1]) h1)
    have s2 := s1.trans (same_new (o := .lst [.str "go", .int 0]) h2)
    have n0 := hb1.ne_new h0
    have n1 := (hb1.keep s0).ne_new h1
    have n2 := (hb1.keep s1).ne_new h2
    intro d hd
    have n3 := (hb1.keep s2).ne_new hd
    refine ⟨upd_same, [(.inr "at", .int 0)], rfl, by decide, ?_⟩
    rw [upd_upd]
    have s3 := s2.trans (same_new (o := .dK (mergeK [] [(.inr "at", .int 0)])) hd)
    walk_at "wp"
    rename_i l hl
    have t4 := same_new (o := .lst [.non, .bl true, .bl false, .str "0", .str "", .str "num", .ref p0, .ref p1, .ref p2, .ref d]) hl
    have s4 := s3.trans t4
    have e0 : upd H1 p0 (.tup []) p0 = some (.tup []) := upd_same
    have e1 : upd (upd H1 p0 (.tup [])) p1 (.tup [.str "num", .int 1]) p1 = some (.tup [.str "num", .int 1]) := upd_same
    have e0' := t4 _ _ ((same_new (o := .dK (mergeK [] [(.inr "at", .int 0)])) hd) _ _ ((same_new (o := .lst [.str "go", .int 0]) h2) _ _ ((same_new (o := .tup [.str "num", .int 1]) h1) _ _ e0)))
    have e1' := t4 _ _ ((same_new (o := .dK (mergeK [] [(.inr "at", .int 0)])) hd) _ _ ((same_new (o := .lst [.str "go", .int 0]) h2) _ _ e1))
    have e2' := t4 _ _ ((same_new (o := .dK (mergeK [] [(.inr "at", .int 0)])) hd) _ _ (upd_same (H := upd (upd H1 p0 (.tup [])) p1 (.tup [.str "num", .int 1])) (a := p2) (o := .lst [.str "go", .int 0])))
    have e3' := t4 _ _ (upd_same (H := upd (upd (upd H1 p0 (.tup [])) p1 (.tup [.str "num", .int 1])) p2 (.lst [.str "go", .int 0])) (a := d) (o := .dK (mergeK [] [(.inr "at", .int 0)])))
    have kk := Kp.trans k1 (Same.kp (b := b) s4)
    have bb := hb1.keep s4
    have cc : i = 0 ∨ i = 1 ∨ i = 2 ∨ i = 3 ∨ i = 4 ∨ i = 5 ∨ i = 6 ∨ i = 7 ∨ i = 8 ∨ i = 9 := by omega
    have nt : ∀ {x : V}, (∀ p, x ≠ .ref p) → ∀ {HH : Hp} (p : Addr) (xs : List V), x = .ref p → HH p = some (.tup xs) → xs.length ≠ 2 ∨ ∃ i, xs = [V.str "num", V.int i] := fun h _ p _ e _ => absurd e (h p)
    rcases cc with rfl | rfl | rfl | rfl | rfl | rfl | rfl | rfl | rfl | rfl <;> refine ixL (SqL.of upd_same) rfl ?_ <;> walk_at "wp"
    · exact k _ _ _ .non (by intro q; cases q) (nt (fun p q => by cases q)) bb kk
    · exact k _ _ _ (.bl _) (by intro q; cases q) (nt (fun p q => by cases q)) bb kk
    · exact k _ _ _ (.bl _) (by intro q; cases q) (nt (fun p q => by cases q)) bb kk
    · exact k _ _ _ (.str _) (by intro q; cases q) (nt (fun p q => by cases q)) bb kk
    · exact k _ _ _ (.str _) (by intro q; cases q) (nt (fun p q => by cases q)) bb kk
    · exact k _ _ _ (.str _) (by intro q; cases q) (nt (fun p q => by cases q)) bb kk
    · exact k _ _ _ (.tup e0') (by intro q; cases q; exact n0 rfl) (fun p xs e h => by cases e; rw [e0'] at h; cases h; exact .inl (by decide)) bb kk
    · exact k _ _ _ (.tup e1') (by intro q; cases q; exact n1 rfl) (fun p xs e h => by cases e; rw [e1'] at h; cases h; exact .inr ⟨_, rfl⟩) bb kk
    · exact k _ _ _ (.lst e2') (by intro q; cases q; exact n2 rfl) (fun p xs e h => by cases e; rw [e2'] at h; cases h) bb kk
    · exact k _ _ _ (.dK e3') (by intro q; cases q; exact n3 rfl) (fun p xs e h => by cases e; rw [e3'] at h; cases h) bb kk
end
end K01

namespace K01
open PySem PySem.Spec PyProof.Rows L2 Wp
local macro_rules | `(tactic| walk_at "ne") => `(tactic| first
  | assumption
  | (refine Ne.symm ?_; assumption)
  | exact ne_of_none (by assumption) (by assumption)
  | exact (ne_of_none (by assumption) (by assumption)).symm
  | exact ne_of (by assumption) (by assumption) (by intro q; cases q))
local macro_rules | `(tactic| walk_at "hp") => `(tactic| first
  | assumption
  | exact upd_same
  | (refine (upd_ne ?_).trans ?_; (walk_at "ne"); (walk_at "hp")))
local macro_rules | `(tactic| walk_at "sq") => `(tactic| first
  | assumption
  | exact SqL.of (by walk_at "hp")
  | exact SqT.of (by walk_at "hp"))
local macro_rules | `(tactic| walk_at "kind") => `(tactic| first
  | assumption
  | exact Kind.int _
  | exact Kind.str _
  | exact Kind.bl _
  | exact Kind.non
  | exact Kind.tup (by walk_at "hp")
  | exact Kind.lst (by walk_at "hp")
  | exact Kind.dK (by walk_at "hp"))
local macro_rules | `(tactic| walk_at "w1") => `(tactic| first
  | (with_reducible refine Wp.seq ?_)
  | (with_reducible refine Wp.nx_mk ?_)
  | (with_reducible refine Wp.rt_mk ?_)
  | (with_reducible refine Wp.bk_mk ?_)
  | (with_reducible refine Wp.ct_mk ?_)
  | (with_reducible refine Wp.next ?_)
  | (with_reducible refine Wp.asg ?_)
  | ((with_reducible refine' Wp.gname ?e ?_); (case e => (try dsimp only [List.set]); (try exact rfl)))
  | (with_reducible refine Wp.gsub ?_)
  | (with_reducible refine Wp.ret ?_)
  | (with_reducible refine Wp.retN ?_)
  | (with_reducible refine Wp.drop ?_)
  | (with_reducible refine Wp.ifs ?_)
  | ((with_reducible refine' Wp.var ?h ?_); (case h => exact rfl))
  | (with_reducible refine Wp.con ?_)
  | (with_reducible refine Wp.op ?_)
  | (with_reducible refine Wp.un ?_)
  | (with_reducible refine Wp.cb ?_)
  | (with_reducible refine Wp.anil ?_)
  | (with_reducible refine Wp.acons ?_)
  | (with_reducible refine Wp.call ?_)
  | (with_reducible refine Wp.test ?_)
  | (with_reducible refine Wp.tb_ ?_)
  | (with_reducible refine Wp.and_ ?_)
  | (with_reducible refine Wp.or_ ?_)
  | (with_reducible refine Wp.not_ ?_)
  | (with_reducible refine Wp.andV ?_)
  | (with_reducible refine Wp.orV ?_)
  | (with_reducible refine Wp.notV ?_)
  | (with_reducible refine Wp.rI0_ ?_)
  | (with_reducible refine Wp.rU_ ?_)
  | ((with_reducible refine Wp.rEq_ ?k ?_); (case k => exact rfl))
  | ((with_reducible refine Wp.rNe_ ?k ?_); (case k => exact rfl))
  | (with_reducible refine Wp.gcons ?_)
  | (with_reducible refine Wp.gnil ?_)
  | ((with_reducible refine' Wp.gtup ?h ?e ?_); (case h => walk_at "sq"); (case e => exact rfl))
  | (with_reducible refine Wp.sl ?_)
  | (with_reducible refine Wp.part ?_)
  | (with_reducible refine Wp.nopart ?_)
  | (with_reducible refine Wp.ifE ?_)
  | (with_reducible refine Wp.bm0 ?_)
  | (with_reducible refine Wp.bm ?_)
  | (with_reducible refine Wp.forR1 ?_)
  | (with_reducible refine Wp.forR2 ?_)
  | (with_reducible refine Wp.forL ?_)
  | (with_reducible refine Wp.forT ?_)
  | ((with_reducible refine' Wp.isi ?k ?h ?_); (case k => walk_at "kind"); (case h => decide))
  | ((with_reducible refine' Wp.typ ?k ?_); (case k => walk_at "kind"))
  | (with_reducible refine Wp.slS ?k ?_; (case k => assumption))
  | (with_reducible refine iteT ?_)
  | (with_reducible refine iteF ?_)
  | (with_reducible refine Wp.pcons ?_)
  | (with_reducible refine Wp.pnil ?_)
  | ((with_reducible refine' Wp.iteBnT ?h ?_); (case h => show isB _ _ = false; decide))
  | ((with_reducible refine' Wp.iteBnF ?h ?_); (case h => show isB _ _ = true; decide))
  | ((with_reducible refine' Wp.iteBt ?h ?_); (case h => show isB _ _ = true; decide))
  | ((with_reducible refine' Wp.iteBf ?h ?_); (case h => show isB _ _ = false; decide))
  | (with_reducible refine Wp.iteT' ?_)
  | (with_reducible refine Wp.iteF' ?_)
  | (with_reducible refine Wp.rNT_ ?_)
  | ((with_reducible refine Wp.lst ?_))
  | ((with_reducible refine Wp.tup ?_))
  | ((with_reducible refine' Wp.ixL ?h ?e ?_); (case h => walk_at "sq"); (case e => exact rfl))
  | ((with_reducible refine' Wp.ixT ?h ?e ?_); (case h => walk_at "sq"); (case e => exact rfl))
  | ((with_reducible refine' Wp.setL ?h ?e ?_); (case h => walk_at "hp"); (case e => exact rfl))
  | ((with_reducible refine Wp.rI_ ?k ?_); (case k => first | (show (0:Int) < _; omega) | (show CPow _ _; refine' ⟨?_, ?_, ?_⟩ <;> omega) | (show CDiv _ _; refine' ⟨?_, ?_⟩ <;> omega) | (show CMul _ _; refine' Or.inl ⟨?_, ?_⟩ <;> omega) | (show CMul _ _; refine' Or.inr ⟨?_, ?_⟩ <;> first | omega | decide) | (show CDivW _ _; refine' wide_div (b := 240) ?_ ?_ ?_ ?_ <;> first | omega | decide)))
  | ((with_reducible refine ⟨?k, ?_⟩); (case k => first | exact Nat.zero_le _ | (exact Nat.le_of_ble_eq_true rfl)); intro p hp)
  | ((with_reducible refine' ⟨_, _, rfl, .inl ?k, ?_⟩); (case k => walk_at "sq"))
  | ((with_reducible refine' ⟨_, _, rfl, .inr ?k, ?_⟩); (case k => walk_at "sq"))
  | (with_reducible refine ⟨_, rfl, ?_⟩)
  | (with_reducible refine ⟨_, _, rfl, rfl, ?_⟩)
  | (with_reducible refine ⟨_, _, rfl, ?_⟩))
local macro_rules | `(tactic| walk_at "wp") => `(tactic| repeat (walk_at "w1"))

section
variable {P : Program} {w : World} {K : PySem.W.Frag} {mg : Str → Option Value} {base : Heap}
theorem wd_len {wd : Str} {v : Int} (h : wd = "num" ∨ ((wd = "at" ∨ wd = "box" ∨ wd = "go") ∧ 0 ≤ v)) : wd.length ≤ 3 := by
  rcases h with rfl | ⟨rfl | rfl | rfl, _⟩ <;> decide
theorem th_two {H : Hp} {t : Addr} {x y : V} {T1 T2 : String} (ht : H t = some (.tup [x, y])) (h1 : Kind H x T1) (h2 : Kind H y T2) : Th H (.ref t) (verd x y) :=
  .inr ⟨t, _, rfl, ht, .inr ⟨x, y, T1, T2, rfl, h1, h2, rfl⟩⟩
theorem th_not {H : Hp} {t : Addr} {xs : List V} (ht : H t = some (.tup xs)) (h : xs.length ≠ 2) : Th H (.ref t) false := .inr ⟨t, xs, rfl, ht, .inl ⟨h, rfl⟩⟩
theorem th_kind {H : Hp} {v : V} {T : String} (h : Kind H v T) (n : T ≠ "tuple") : Th H v false := .inl ⟨T, h, n, rfl⟩
theorem Th.keep {H H' : Hp} {v : V} {r : Bool} (h : Th H v r) (s : Same H H') : Th H' v r := by
  rcases h with ⟨T, hk, n, e⟩ | ⟨p, xs, e, hp, h⟩
  · exact .inl ⟨T, Same.kind s hk, n, e⟩
  · refine .inr ⟨p, xs, e, s _ _ hp, ?_⟩
    rcases h with h | ⟨x, y, T1, T2, e1, h1, h2, e2⟩
    · exact .inl h
    · exact .inr ⟨x, y, T1, T2, e1, Same.kind s h1, Same.kind s h2, e2⟩
theorem th_odd {H : Hp} {v : V} {T : String} (h : Kind H v T) (g : ∀ p xs, v = .ref p → H p = some (.tup xs) → xs.length ≠ 2 ∨ ∃ i, xs = [.str "num", .int i]) : ∃ r, Th H v r := by
  cases h with
  | non => exact ⟨_, th_kind .non (by decide)⟩
  | bl b => exact ⟨_, th_kind (.bl b) (by decide)⟩
  | int i => exact ⟨_, th_kind (.int i) (by decide)⟩
  | str s => exact ⟨_, th_kind (.str s) (by decide)⟩
  | lst h => exact ⟨_, th_kind (.lst h) (by decide)⟩
  | dK h => exact ⟨_, th_kind (.dK h) (by decide)⟩
  | @tup a xs h =>
    rcases g a xs rfl h with q | ⟨i, rfl⟩
    · exact ⟨_, th_not h q⟩
    · exact ⟨_, th_two h (.str _) (.int _)⟩
def spThing : Sp := fun vs H Q _ => ∃ (b : Addr) (n : Nat), vs = [.ref b] ∧ Bag H b n ∧ n < 700 ∧ ∀ v r H', Th H' v r → Bag H' b (n + 20) → Kp b H H' → Q v H'
theorem ok_thing (T : Txt P w K mg) : FnOk P w K mg base CX0 4 T.f_thing T.fd_thing ["bag"] spThing := by
  have G_draw := ok_draw (base := base) T
  have G_worth := ok_worth (base := base) T
  have G_sign := ok_sign (base := base) T
  have G_word := ok_word (base := base) T
  have G_odd := ok_odd (base := base) T
  refine T.F_thing.ok sc_thing (fun vs H Q E h => ?_) (fun cdv A outer s H vs Q E hr h => ?_)
  · obtain ⟨b, n, rfl, _⟩ := h
    rfl
  · obtain ⟨b, n, rfl, hb, hn, k⟩ := h
    refine ⟨_, (pss_cons (ps_set (i := 1) sc_thing.nd rfl (.inl rfl) (pe_call G_draw (hr.mono (by decide)) (by rfl) T.g_draw T.F_draw.kp T.b_draw .nil pass0 (pa_cons (pv 0) (pa_cons pe_int pa_nil))))
      (pss_cons (ps_set (i := 2) sc_thing.nd rfl (.inl rfl) (pe_call G_draw (hr.mono (by decide)) (by rfl) T.g_draw T.F_draw.kp T.b_draw .nil pass0 (pa_cons (pv 0) (pa_cons pe_int pa_nil))))
      (pss_cons (ps_asg (pe_call G_worth (hr.mono (by decide)) (by rfl) T.g_worth T.F_worth.kp T.b_worth .nil pass0 (pa_cons (pv 0) pa_nil)) (pg_tup (by rfl) (pgs_cons (pg_name (i := 3) sc_thing.nd rfl (.inl rfl)) (pgs_cons (pg_name (i := 4) sc_thing.nd rfl (.inl rfl)) pgs_nil))))
      (pss_cons (ps_if (pt_cmpR op_eq (pv 1) pe_int (nomark _)) (pss_one (ps_ret (pe_tup (pa_cons (pe_call G_word (hr.mono (by decide)) (by rfl) T.g_word T.F_word.kp T.b_word .nil pass0 (pa_cons (pv 3) (pa_cons (pv 2) (pa_cons (pe_call G_draw (hr.mono (by decide)) (by rfl) T.g_draw T.F_draw.kp T.b_draw .nil pass0 (pa_cons (pv 0) (pa_cons (pe_op op_add (pe_callB call_len_str (by rfl) T.n_len (by decide +kernel) (pa_cons (pv 3) pa_nil)) pe_int) pa_nil))) (pa_cons (pe_call G_sign (hr.mono (by decide)) (by rfl) T.g_sign T.F_sign.kp T.b_sign .nil pass0 (pa_cons (pv 0) pa_nil)) pa_nil))))) (pa_cons (pv 4) pa_nil))))) pss_nil)
      (pss_cons (ps_if (pt_cmpR op_eq (pv 1) pe_int (nomark _)) (pss_one (ps_ret (pe_tup (pa_cons (pe_call G_odd (hr.mono (by decide)) (by rfl) T.g_odd T.F_odd.kp T.b_odd .nil pass0 (pa_cons (pv 0) pa_nil)) (pa_cons (pv 4) pa_nil))))) pss_nil)
      (pss_cons (ps_if (PW.pt (pw_or (pt_cmpR op_eq (pv 1) pe_int (nomark _)) (pw_or1 (pt_cmpR op_eq (pv 1) pe_int (nomark _))))) (pss_one (ps_ret (pe_tup (pa_cons (pv 3) (pa_cons (pe_call G_odd (hr.mono (by decide)) (by rfl) T.g_odd T.F_odd.kp T.b_odd .nil pass0 (pa_cons (pv 0) pa_nil)) pa_nil))))) pss_nil)
      (pss_cons (ps_if (pt_cmpR op_eq (pv 1) pe_int (nomark _)) (pss_one (ps_ret (pe_tup (pa_cons (pv 3) (pa_cons (pe_un un_neg (pe_callB (call_max2 rfl) (by rfl) T.n_max (by decide +kernel) (pa_cons pe_int (pa_cons (pv 4) pa_nil)))) pa_nil))))) pss_nil)
      (pss_cons (ps_if (pt_cmpR op_eq (pv 1) pe_int (nomark _)) (pss_one (ps_ret (pe_ix ix_list (pe_lst (pa_cons (pe_tup (pa_cons (pv 3) pa_nil)) (pa_cons (pe_tup (pa_cons (pv 3) (pa_cons (pv 4) (pa_cons (pv 2) pa_nil)))) (pa_cons (pe_tup (pa_cons (pv 4) (pa_cons (pv 3) pa_nil))) pa_nil)))) (pv 2) (fun _ _ => rfl)))) pss_nil)
      (pss_cons (ps_if (pt_cmpR op_eq (pv 1) pe_int (nomark _)) (pss_one (ps_ret (pe_ix ix_list (pe_lst (pa_cons (pe_lst (pa_cons (pv 3) (pa_cons (pv 4) pa_nil))) (pa_cons (pe_tup (pa_cons (pe_tup (pa_cons (pv 3) (pa_cons (pv 4) pa_nil))) pa_nil)) (pa_cons (pe_disp (pps_cons (pv 3) (pv 4) pps_nil) (by rfl) (by rfl) (fun z => by cases z) (by decide)) pa_nil)))) (pv 2) (fun _ _ => rfl)))) pss_nil)
      (pss_cons (ps_if (pt_cmpR op_eq (pv 1) pe_int (nomark _)) (pss_one (ps_ret (pe_ix ix_list (pe_lst (pa_cons (pe_call G_odd (hr.mono (by decide)) (by rfl) T.g_odd T.F_odd.kp T.b_odd .nil pass0 (pa_cons (pv 0) pa_nil)) (pa_cons (pv 4) (pa_cons (pv 3) pa_nil)))) (pv 2) (fun _ _ => rfl)))) pss_nil)
      (pss_one (ps_ret (pe_tup (pa_cons (pv 3) (pa_cons (pv 4) pa_nil))))))))))))))), ?_⟩
    rw [show L2.start ["bag", "way", "turn", "word", "number"] [.ref b] = [some (.ref b), none, none, none, none] from rfl]
    try dsimp only [cxOf]
    walk_at "wp"
    refine ⟨b, n, _, rfl, hb, by omega, by decide, by decide, fun way H1 w0 w1 hb1 k1 => ?_⟩
    walk_at "wp"
    refine ⟨b, n + 1, _, rfl, hb1, by omega, by decide, by decide, fun turn H2 tn0 tn1 hb2 k2 => ?_⟩
    walk_at "wp"
    refine ⟨b, n + 2, rfl, hb2, by omega, fun t wd v H3 ht hw hb3 k3 => ?_⟩
    have kk : Kp b H H3 := Kp.trans k1 (Kp.trans k2 k3)
    have hl := wd_len hw
    have big : (100000 : Nat) ≤ sizeLine := by decide
    walk_at "wp"
    refine ite_ (fun c => ?_) (fun c => ?_)
    · -- 8
      walk_at "wp"
      refine ⟨by omega, ?_⟩
      walk_at "wp"
      refine ⟨b, n + 11, _, rfl, hb3, by omega, by omega, by omega, fun at_ H4 a0 a1 hb4 k4 => ?_⟩
      walk_at "wp"
      refine ⟨b, n + 12, rfl, hb4, by omega, fun c5 H5 hb5 k5 => ?_⟩
      walk_at "wp"
      refine ⟨wd, ⟨#[c5]⟩, turn, at_, rfl, by omega, by rw [str1_len]; omega, fun z => ?_⟩
      walk_at "wp"
      rename_i p hp
      exact k _ _ _ (th_two upd_same (.str _) (.int _)) ((hb5.keep (same_new hp)).mono (by omega)) (Kp.trans kk (Kp.trans k4 (Kp.trans k5 (Kp.new hp))))
    walk_at "wp"
    refine ite_ (fun c => ?_) (fun c => ?_)
    · -- 9
      walk_at "wp"
      refine ⟨b, n + 11, rfl, hb3, by omega, fun x ty H4 hx nx _ hb4 k4 => ?_⟩
      walk_at "wp"
      rename_i p hp
      exact k _ _ _ (th_two upd_same (Same.kind (same_new hp) hx) (.int _)) ((hb4.keep (same_new hp)).mono (by omega)) (Kp.trans kk (Kp.trans k4 (Kp.new hp)))
    walk_at "wp"
    refine ite_ (fun c => ?_) (fun c => ?_)
    · -- 10
      walk_at "wp"
      refine ⟨b, n + 11, rfl, hb3, by omega, fun x ty H4 hx nx _ hb4 k4 => ?_⟩
      walk_at "wp"
      rename_i p hp
      exact k _ _ _ (th_two upd_same (.str _) (Same.kind (same_new hp) hx)) ((hb4.keep (same_new hp)).mono (by omega)) (Kp.trans kk (Kp.trans k4 (Kp.new hp)))
    walk_at "wp"
    refine ite_ (fun c => ?_) (fun c => ?_)
    · -- 11
      walk_at "wp"
      refine ⟨b, n + 11, rfl, hb3, by omega, fun x ty H4 hx nx _ hb4 k4 => ?_⟩
      walk_at "wp"
      rename_i p hp
      exact k _ _ _ (th_two upd_same (.str _) (Same.kind (same_new hp) hx)) ((hb4.keep (same_new hp)).mono (by omega)) (Kp.trans kk (Kp.trans k4 (Kp.new hp)))
    walk_at "wp"
    refine ite_ (fun c => ?_) (fun c => ?_)
    · -- 12
      walk_at "wp"
      rename_i p hp
      exact k _ _ _ (th_two upd_same (.str _) (.int _)) ((hb3.keep (same_new hp)).mono (by omega)) (Kp.trans kk (Kp.new hp))
    walk_at "wp"
    have cc : turn = 0 ∨ turn = 1 ∨ turn = 2 := by omega
    refine ite_ (fun c => ?_) (fun c => ?_)
    · -- 13
      walk_at "wp"
      rename_i p0 h0 p1 h1 p2 h2 l hl
      have t0 := same_new (o := .tup [.str wd]) h0
      have t1 := same_new (o := .tup [.str wd, .int v, .int turn]) h1
      have t2 := same_new (o := .tup [.int v, .str wd]) h2
      have t3 := same_new (o := .lst [.ref p0, .ref p1, .ref p2]) hl
      have ss := t0.trans (t1.trans (t2.trans t3))
      have bb := (hb3.keep ss).mono (show n + 2 + 9 ≤ n + 20 by omega)
      have kz := Kp.trans kk (Same.kp (b := b) ss)
      rcases cc with rfl | rfl | rfl <;> refine ixL (SqL.of upd_same) rfl ?_ <;> walk_at "wp"
      · exact k _ _ _ (th_not (t3 _ _ (t2 _ _ (t1 _ _ upd_same))) (by simp)) bb kz
      · exact k _ _ _ (th_not (t3 _ _ (t2 _ _ upd_same)) (by simp)) bb kz
      · exact k _ _ _ (th_two (t3 _ _ upd_same) (.int _) (.str _)) bb kz
    walk_at "wp"
    refine ite_ (fun c => ?_) (fun c => ?_)
    · -- 14
      walk_at "wp"
      rename_i p0 h0 p1 h1 p2 h2
      intro d hd
      walk_at "wp"
      refine ⟨upd_same, [(.inr wd, .int v)], rfl, Nat.le_of_ble_eq_true rfl, ?_⟩
      rw [upd_upd]
      walk_at "wp"
      rename_i l hl
      have t0 := same_new (o := .lst [.str wd, .int v]) h0
      have t1 := same_new (o := .tup [.str wd, .int v]) h1
      have t2 := same_new (o := .tup [.ref p1]) h2
      have t3 := same_new (o := .dK (mergeK [] [(.inr wd, .int v)])) hd
      have t4 := same_new (o := .lst [.ref p0, .ref p2, .ref d]) hl
      have ss := t0.trans (t1.trans (t2.trans (t3.trans t4)))
      have bb := (hb3.keep ss).mono (show n + 2 + 9 ≤ n + 20 by omega)
      have kz := Kp.trans kk (Same.kp (b := b) ss)
      rcases cc with rfl | rfl | rfl <;> refine ixL (SqL.of upd_same) rfl ?_ <;> walk_at "wp"
      · exact k _ _ _ (th_kind (.lst (t4 _ _ (t3 _ _ (t2 _ _ (t1 _ _ upd_same))))) (by decide)) bb kz
      · exact k _ _ _ (th_not (t4 _ _ (t3 _ _ upd_same)) (by simp)) bb kz
      · exact k _ _ _ (th_kind (.dK (t4 _ _ upd_same)) (by decide)) bb kz
    walk_at "wp"
    refine ite_ (fun c => ?_) (fun c => ?_)
    · -- 15
      walk_at "wp"
      refine ⟨b, n + 11, rfl, hb3, by omega, fun x ty H4 hx nx hg hb4 k4 => ?_⟩
      obtain ⟨r, hr4⟩ := th_odd hx hg
      walk_at "wp"
      rename_i l hl
      have t4 := same_new (o := .lst [x, .int v, .str wd]) hl
      have bb := (hb4.keep t4).mono (show n + 11 + 1 ≤ n + 20 by omega)
      have kz := Kp.trans kk (Kp.trans k4 (Same.kp (b := b) t4))
      rcases cc with rfl | rfl | rfl <;> refine ixL (SqL.of upd_same) rfl ?_ <;> walk_at "wp"
      · exact k _ _ _ (hr4.keep t4) bb kz
      · exact k _ _ _ (th_kind (.int _) (by decide)) bb kz
      · exact k _ _ _ (th_kind (.str _) (by decide)) bb kz
    walk_at "wp"
    rename_i p hp
    exact k _ _ _ (th_two upd_same (.str _) (.int _)) ((hb3.keep (same_new hp)).mono (by omega)) (Kp.trans kk (Kp.new hp))
def spIs : Sp := fun vs H Q _ => ∃ (v : V) (r : Bool), vs = [v] ∧ Th H v r ∧ Q (.bl r) H
theorem ok_is (T : Txt P w K mg) : FnOk P w K mg base CX0 2 T.f_is T.fd_is ["thing"] spIs := by
  have G_whole := ok_whole (base := base) T
  refine T.F_is.ok sc_is (fun vs H Q E h => ?_) (fun cdv A outer s H vs Q E hr h => ?_)
  · obtain ⟨v, r, rfl, _⟩ := h
    rfl
  · obtain ⟨v, r, rfl, ht, q⟩ := h
    refine ⟨_, (pss_cons (ps_if (PW.pt (pw_or (pt_not (pt_val (pe_callB call_isi (by rfl) T.n_isinstance (by decide +kernel) (pa_cons (pv 0) (pa_cons (pe_bltn (v := .ty "tuple") (by rfl) T.n_tuple (by decide +kernel) rfl) pa_nil))))) (pw_or1 (pt_cmpR op_ne (pe_callB call_len_seq (by rfl) T.n_len (by decide +kernel) (pa_cons (pv 0) pa_nil)) pe_int (nomark _))))) (pss_one (ps_ret pe_bl)) pss_nil)
      (pss_cons (ps_if (PW.pt (pw_or (pt_not (pt_val (pe_callB call_isi (by rfl) T.n_isinstance (by decide +kernel) (pa_cons (pe_ix ix_tup (pv 0) pe_int (fun _ _ => rfl)) (pa_cons (pe_bltn (v := .ty "str") (by rfl) T.n_str (by decide +kernel) rfl) pa_nil))))) (pw_or1 (pt_not (pt_val (pe_call G_whole (hr.mono (by decide)) (by rfl) T.g_whole T.F_whole.kp T.b_whole .nil pass0 (pa_cons (pe_ix ix_tup (pv 0) pe_int (fun _ _ => rfl)) pa_nil))))))) (pss_one (ps_ret pe_bl)) pss_nil)
      (pss_cons (ps_if (pt_cmpR op_eq (pe_ix ix_tup (pv 0) pe_int (fun _ _ => rfl)) pe_str (nomark _)) (pss_one (ps_ret pe_bl)) pss_nil)
      (pss_one (ps_ret (pe_and (pe_cmpR op_ge (pe_ix ix_tup (pv 0) pe_int (fun _ _ => rfl)) pe_int (nomark _)) (pe_one (pe_or (pe_cmpR op_eq (pe_ix ix_tup (pv 0) pe_int (fun _ _ => rfl)) pe_str (nomark _)) (pe_or (pe_cmpR op_eq (pe_ix ix_tup (pv 0) pe_int (fun _ _ => rfl)) pe_str (nomark _)) (pe_one (pe_cmpR op_eq (pe_ix ix_tup (pv 0) pe_int (fun _ _ => rfl)) pe_str (nomark _)))))))))))), ?_⟩
    rw [show L2.start ["thing"] [v] = [some v] from rfl]
    try dsimp only [cxOf]
    rcases ht with ⟨ty, hk, hn, rfl⟩ | ⟨p, xs, rfl, hp, ht⟩
    · walk_at "wp"
      rw [show isB ty "tuple" = false by unfold isB; rw [decide_eq_false hn]; cases decide (ty = "bool") <;> rfl]
      walk_at "wp"
      exact q
    · have hk : Kind H (.ref p) "tuple" := .tup hp
      walk_at "wp"
      rcases ht with ⟨hl, rfl⟩ | ⟨x, y, T1, T2, rfl, h1, h2, rfl⟩
      · refine iteN (fun _ => ?_) (fun e => ?_)
        · walk_at "wp"
          exact q
        · exact absurd (by have := V.int.inj e; omega) hl
      · refine iteN (fun e => absurd rfl e) (fun _ => ?_)
        walk_at "wp"
        rw [isB_eq (show "str" ≠ "int" by decide)]
        refine iteN (fun e => ?_) (fun e => ?_)
        · walk_at "wp"
          rw [verd_noStr h1 e] at q
          exact q
        · obtain ⟨z, rfl⟩ := Kind.isStr h1 e
          walk_at "wp"
          refine ⟨y, T2, rfl, h2, ?_⟩
          walk_at "wp"
          refine iteN (fun e2 => ?_) (fun e2 => ?_)
          · walk_at "wp"
            rw [verd_noInt h2 e2] at q
            exact q
          · obtain ⟨m, rfl⟩ := Kind.isInt h2 e2
            walk_at "wp"
            have nd : ∀ {a : Str}, ¬ V.str z = V.str a → decide (z = a) = false := fun h => decide_eq_false fun e => h (by rw [e])
            have yd : ∀ {a : Str}, V.str z = V.str a → decide (z = a) = true := fun h => decide_eq_true (V.str.inj h)
            have hv : verd (.str z) (.int m) = (decide (z = "num") || ((decide (z = "at") || decide (z = "box") || decide (z = "go")) && decide (0 ≤ m))) := rfl
            rw [hv] at q
            refine ite_ (fun c1 => ?_) (fun c1 => ?_)
            · walk_at "wp"
              rw [yd c1, Bool.true_or] at q
              exact q
            walk_at "wp"
            rw [nd c1, Bool.false_or] at q
            refine ite_ (fun c2 => ?_) (fun c2 => ?_)
            · rw [decide_eq_true c2, Bool.and_true] at q
              walk_at "wp"
              refine ite_ (fun c3 => ?_) (fun c3 => ?_)
              · rw [yd c3, Bool.true_or, Bool.true_or] at q
                exact q
              rw [nd c3, Bool.false_or] at q
              walk_at "wp"
              refine ite_ (fun c4 => ?_) (fun c4 => ?_)
              · rw [yd c4, Bool.true_or] at q
                exact q
              rw [nd c4, Bool.false_or] at q
              walk_at "wp"
              by_cases c5 : V.str z = V.str "go"
              · rw [yd c5] at q
                rw [decide_eq_true c5]
                exact q
              · rw [nd c5] at q
                rw [decide_eq_false c5]
                exact q
            · rw [decide_eq_false c2, Bool.and_false] at q
              exact q
def spLaw (K : PySem.W.Frag) : Sp := fun vs H Q _ => ∃ (a : Addr) (ns : List Int), vs = [.ref a] ∧ SqL K H a (ns.map V.int) ∧ ns.length ≤ 63 ∧ ∀ H', Q (.bl true) H'
theorem ok_law (T : Txt P w K mg) : FnOk P w K mg base CX0 5 T.f_law T.fd_law ["script"] (spLaw K) := by
  have G_cell_at := ok_cell_at (base := base) T
  have G_bag := ok_bag (base := base) T
  have G_thing := ok_thing (base := base) T
  have G_is_worth := ok_is_worth (base := base) T
  have G_is := ok_is (base := base) T
  refine T.F_law.ok sc_law (fun vs H Q E h => ?_) (fun cdv A outer s H vs Q E hr h => ?_)
  · obtain ⟨a, ns, rfl, _⟩ := h
    rfl
  · obtain ⟨a, ns, rfl, hS, hl, q⟩ := h
    refine ⟨_, (pss_cons (ps_for PassesOwn.never rfl (pi_range1 (by rfl) T.n_range (pa_cons (pe_callB (call_max2 rfl) (by rfl) T.n_max (by decide +kernel) (pa_cons pe_int (pa_cons (pe_callB (call_min2 rfl) (by rfl) T.n_min (by decide +kernel) (pa_cons pe_int (pa_cons (pe_callB call_len_seq (by rfl) T.n_len (by decide +kernel) (pa_cons (pv 0) pa_nil)) pa_nil))) pa_nil))) pa_nil)) (pg_name (i := 1) sc_law.nd rfl (.inl rfl)) (pss_cons (ps_set (i := 2) sc_law.nd rfl (.inl rfl) (pe_call G_thing (hr.mono (by decide)) (by rfl) T.g_thing T.F_thing.kp T.b_thing .nil pass0 (pa_cons (pe_call G_bag (hr.mono (by decide)) (by rfl) T.g_bag T.F_bag.kp T.b_bag .nil pass0 (pa_cons (pe_call G_cell_at (hr.mono (by decide)) (by rfl) T.g_cell_at T.F_cell_at.kp T.b_cell_at .nil pass0 (pa_cons (pv 0) (pa_cons (pv 1) pa_nil))) (pa_cons (pv 1) pa_nil))) pa_nil)))
      (pss_cons (ps_set (i := 3) sc_law.nd rfl (.inl rfl) (pe_call G_is_worth (hr.mono (by decide)) (by rfl) T.g_is_worth T.F_is_worth.kp T.b_is_worth .nil pass0 (pa_cons (pv 2) pa_nil)))
      (pss_one (ps_if (PW.pt (pw_or (pt_not (pt_val (pe_callB call_isi (by rfl) T.n_isinstance (by decide +kernel) (pa_cons (pv 3) (pa_cons (pe_bltn (v := .ty "bool") (by rfl) T.n_bool (by decide +kernel) rfl) pa_nil))))) (pw_or1 (pt_cmpR op_ne (pv 3) (pe_call G_is (hr.mono (by decide)) (by rfl) T.g_is T.F_is.kp T.b_is .nil pass0 (pa_cons (pv 2) pa_nil)) (nomark _))))) (pss_one (ps_ret pe_bl)) pss_nil)))))
      (pss_one (ps_ret pe_bl))), ?_⟩
    rw [show L2.start ["script", "k", "thing", "found"] [.ref a] = [some (.ref a), none, none, none] from rfl]
    try dsimp only [cxOf]
    walk_at "wp"
    generalize hN : (if (if ((ns.map V.int).length : Int) < 40 then ((ns.map V.int).length : Int) else 40) > 1 then (if ((ns.map V.int).length : Int) < 40 then ((ns.map V.int).length : Int) else 40) else 1) = N
    have hN1 : N ≤ 40 := by
      rw [← hN]
      split <;> (try split) <;> omega
    have hN0 : 0 ≤ N := by
      rw [← hN]
      split <;> (try split) <;> omega
    refine ⟨by omega, by omega, loopR (fun i σ H' => ∃ y1 y2 y3, σ = [some (.ref a), y1, y2, y3] ∧ SqL K H' a (ns.map V.int)) ⟨_, _, _, rfl, hS⟩ ?_ ?_⟩
    · rintro i σ H1 hi ⟨y1, y2, y3, rfl, hS1⟩
      rw [Int.zero_add]
      walk_at "wp"
      refine ⟨a, ns, i, rfl, hS1, fun c => ?_⟩
      walk_at "wp"
      refine ⟨c, i, rfl, by omega, fun b H2 nb hb2 s2 => ?_⟩
      walk_at "wp"
      refine ⟨b, 0, rfl, hb2, by omega, fun v r H3 ht hb3 k3 => ?_⟩
      have hS3 : SqL K H3 a (ns.map V.int) := by
        have hS2 := s2.seq hS1
        rcases hS1 with (h | ⟨o, h⟩) | h
        · exact .inl (.inl (k3 _ _ (ne_of_none h nb) (s2 _ _ h)))
        · exact .inl (.inr ⟨o, k3 _ _ (ne_of_none h nb) (s2 _ _ h)⟩)
        · exact .inr h
      walk_at "wp"
      refine ⟨v, r, rfl, ht, ?_⟩
      walk_at "wp"
      refine ⟨v, r, rfl, ht, ?_⟩
      walk_at "wp"
      refine iteN (fun e => absurd rfl e) (fun _ => ?_)
      walk_at "wp"
      exact ⟨_, _, _, rfl, hS3⟩
    · rintro σ H1 ⟨y1, y2, y3, rfl, hS1⟩
      walk_at "wp"
      exact q _
end
end K01

namespace K01
open PySem PySem.Spec PyProof.Rows L2 Wp
theorem signs_in {K : PySem.W.Frag} {d : Addr} {es : Array DictEntry} {n : Nat} (hl : K.lookup d = some ⟨.type "dict", none, .dict es n, #[]⟩) (hk : keysAre es.toList [("num", .str ""), ("at", .str "@"), ("box", .str "b"), ("go", .str "g")]) (z : Str) :
    ∃ r, PySem.W.nsIn K d z = some r ∧ r.isSome = (decide (z = "num") || decide (z = "at") || decide (z = "box") || decide (z = "go")) := by
  have hs : (seek z [("num", .str ""), ("at", .str "@"), ("box", .str "b"), ("go", .str "g")]).isSome = (decide (z = "num") || decide (z = "at") || decide (z = "box") || decide (z = "go")) := by
    unfold seek seek seek seek seek
    by_cases c1 : (Str.ofString "num") = z
    · rw [if_pos c1, decide_eq_true c1.symm] <;> rfl
    rw [if_neg c1, decide_eq_false (fun h => c1 h.symm), Bool.false_or]
    by_cases c2 : (Str.ofString "at") = z
    · rw [if_pos c2, decide_eq_true c2.symm] <;> rfl
    rw [if_neg c2, decide_eq_false (fun h => c2 h.symm), Bool.false_or]
    by_cases c3 : (Str.ofString "box") = z
    · rw [if_pos c3, decide_eq_true c3.symm] <;> rfl
    rw [if_neg c3, decide_eq_false (fun h => c3 h.symm), Bool.false_or]
    by_cases c4 : (Str.ofString "go") = z
    · rw [if_pos c4, decide_eq_true c4.symm] <;> rfl
    rw [if_neg c4, decide_eq_false (fun h => c4 h.symm)] <;> rfl
  rcases ns_seek hl hk z with ⟨v, u, e1, e2, _⟩ | ⟨e1, e2⟩
  · rw [e1] at hs
    exact ⟨_, e2, hs⟩
  · rw [e1] at hs
    exact ⟨_, e2, hs⟩
/-! ### what the top has written; the law's own head -/
theorem all_mk {l : PySem.W.OpenLaw} {w : World} {K : PySem.W.Frag} {h : Heap} {mg : Str → Option Value} {fa : Addr} (X : K.In h) (G : h.Ns mainGlobals mg) (hfa : mg "law" = some (.ref fa))
    {f0 : Addr} {od0 an0 : Option Addr} {sl0 : Array (Option Value)} {oc0 kV0 dc0 pm0 cd0 ct0 : Value}
    (a0 : PySem.W.nsIn K mainGlobals "is_number" = some (some (.ref f0))) (l0 : K.lookup f0 = some ⟨oc0, od0, .func (PySem.W.fnOf "is_number" "is_number" (defArgs s_is_number) (defBody s_is_number) (defScope s_is_number) .none kV0 dc0 pm0 an0 cd0 ct0), sl0⟩) (c0 : PySem.W.codeIn K cd0 "is_number" = true) (k0 : PySem.W.keepIn K (.ref f0) = true)
    {f1 : Addr} {od1 an1 : Option Addr} {sl1 : Array (Option Value)} {oc1 kV1 dc1 pm1 cd1 ct1 : Value}
    (a1 : PySem.W.nsIn K mainGlobals "is_worth" = some (some (.ref f1))) (l1 : K.lookup f1 = some ⟨oc1, od1, .func (PySem.W.fnOf "is_worth" "is_worth" (defArgs s_is_worth) (defBody s_is_worth) (defScope s_is_worth) .none kV1 dc1 pm1 an1 cd1 ct1), sl1⟩) (c1 : PySem.W.codeIn K cd1 "is_worth" = true) (k1 : PySem.W.keepIn K (.ref f1) = true)
    {f2 : Addr} {od2 an2 : Option Addr} {sl2 : Array (Option Value)} {oc2 kV2 dc2 pm2 cd2 ct2 : Value}
    (a2 : PySem.W.nsIn K mainGlobals "_law_cell_at" = some (some (.ref f2))) (l2 : K.lookup f2 = some ⟨oc2, od2, .func (PySem.W.fnOf "_law_cell_at" "_law_cell_at" (defArgs s_cell_at) (defBody s_cell_at) (defScope s_cell_at) .none kV2 dc2 pm2 an2 cd2 ct2), sl2⟩) (c2 : PySem.W.codeIn K cd2 "_law_cell_at" = true) (k2 : PySem.W.keepIn K (.ref f2) = true)
    {f3 : Addr} {od3 an3 : Option Addr} {sl3 : Array (Option Value)} {oc3 kV3 dc3 pm3 cd3 ct3 : Value}
    (a3 : PySem.W.nsIn K mainGlobals "_law_bag" = some (some (.ref f3))) (l3 : K.lookup f3 = some ⟨oc3, od3, .func (PySem.W.fnOf "_law_bag" "_law_bag" (defArgs s_bag) (defBody s_bag) (defScope s_bag) .none kV3 dc3 pm3 an3 cd3 ct3), sl3⟩) (c3 : PySem.W.codeIn K cd3 "_law_bag" = true) (k3 : PySem.W.keepIn K (.ref f3) = true)
    {f4 : Addr} {od4 an4 : Option Addr} {sl4 : Array (Option Value)} {oc4 kV4 dc4 pm4 cd4 ct4 : Value}
    (a4 : PySem.W.nsIn K mainGlobals "_law_draw" = some (some (.ref f4))) (l4 : K.lookup f4 = some ⟨oc4, od4, .func (PySem.W.fnOf "_law_draw" "_law_draw" (defArgs s_draw) (defBody s_draw) (defScope s_draw) .none kV4 dc4 pm4 an4 cd4 ct4), sl4⟩) (c4 : PySem.W.codeIn K cd4 "_law_draw" = true) (k4 : PySem.W.keepIn K (.ref f4) = true)
    {f5 : Addr} {od5 an5 : Option Addr} {sl5 : Array (Option Value)} {oc5 kV5 dc5 pm5 cd5 ct5 : Value}
    (a5 : PySem.W.nsIn K mainGlobals "_law_number" = some (some (.ref f5))) (l5 : K.lookup f5 = some ⟨oc5, od5, .func (PySem.W.fnOf "_law_number" "_law_number" (defArgs s_number) (defBody s_number) (defScope s_number) .none kV5 dc5 pm5 an5 cd5 ct5), sl5⟩) (c5 : PySem.W.codeIn K cd5 "_law_number" = true) (k5 : PySem.W.keepIn K (.ref f5) = true)
    {f6 : Addr} {od6 an6 : Option Addr} {sl6 : Array (Option Value)} {oc6 kV6 dc6 pm6 cd6 ct6 : Value}
    (a6 : PySem.W.nsIn K mainGlobals "_law_whole" = some (some (.ref f6))) (l6 : K.lookup f6 = some ⟨oc6, od6, .func (PySem.W.fnOf "_law_whole" "_law_whole" (defArgs s_whole) (defBody s_whole) (defScope s_whole) .none kV6 dc6 pm6 an6 cd6 ct6), sl6⟩) (c6 : PySem.W.codeIn K cd6 "_law_whole" = true) (k6 : PySem.W.keepIn K (.ref f6) = true)
    {f7 : Addr} {od7 an7 : Option Addr} {sl7 : Array (Option Value)} {oc7 kV7 dc7 pm7 cd7 ct7 : Value}
    (a7 : PySem.W.nsIn K mainGlobals "_law_worth" = some (some (.ref f7))) (l7 : K.lookup f7 = some ⟨oc7, od7, .func (PySem.W.fnOf "_law_worth" "_law_worth" (defArgs s_worth) (defBody s_worth) (defScope s_worth) .none kV7 dc7 pm7 an7 cd7 ct7), sl7⟩) (c7 : PySem.W.codeIn K cd7 "_law_worth" = true) (k7 : PySem.W.keepIn K (.ref f7) = true)
    {f8 : Addr} {od8 an8 : Option Addr} {sl8 : Array (Option Value)} {oc8 kV8 dc8 pm8 cd8 ct8 : Value}
    (a8 : PySem.W.nsIn K mainGlobals "_law_sign" = some (some (.ref f8))) (l8 : K.lookup f8 = some ⟨oc8, od8, .func (PySem.W.fnOf "_law_sign" "_law_sign" (defArgs s_sign) (defBody s_sign) (defScope s_sign) .none kV8 dc8 pm8 an8 cd8 ct8), sl8⟩) (c8 : PySem.W.codeIn K cd8 "_law_sign" = true) (k8 : PySem.W.keepIn K (.ref f8) = true)
    {f9 : Addr} {od9 an9 : Option Addr} {sl9 : Array (Option Value)} {oc9 kV9 dc9 pm9 cd9 ct9 : Value}
    (a9 : PySem.W.nsIn K mainGlobals "_law_odd" = some (some (.ref f9))) (l9 : K.lookup f9 = some ⟨oc9, od9, .func (PySem.W.fnOf "_law_odd" "_law_odd" (defArgs s_odd) (defBody s_odd) (defScope s_odd) .none kV9 dc9 pm9 an9 cd9 ct9), sl9⟩) (c9 : PySem.W.codeIn K cd9 "_law_odd" = true) (k9 : PySem.W.keepIn K (.ref f9) = true)
    {f10 : Addr} {od10 an10 : Option Addr} {sl10 : Array (Option Value)} {oc10 kV10 dc10 pm10 cd10 ct10 : Value}
    (a10 : PySem.W.nsIn K mainGlobals "_law_word" = some (some (.ref f10))) (l10 : K.lookup f10 = some ⟨oc10, od10, .func (PySem.W.fnOf "_law_word" "_law_word" (defArgs s_word) (defBody s_word) (defScope s_word) .none kV10 dc10 pm10 an10 cd10 ct10), sl10⟩) (c10 : PySem.W.codeIn K cd10 "_law_word" = true) (k10 : PySem.W.keepIn K (.ref f10) = true)
    {f11 : Addr} {od11 an11 : Option Addr} {sl11 : Array (Option Value)} {oc11 kV11 dc11 pm11 cd11 ct11 : Value}
    (a11 : PySem.W.nsIn K mainGlobals "_law_thing" = some (some (.ref f11))) (l11 : K.lookup f11 = some ⟨oc11, od11, .func (PySem.W.fnOf "_law_thing" "_law_thing" (defArgs s_thing) (defBody s_thing) (defScope s_thing) .none kV11 dc11 pm11 an11 cd11 ct11), sl11⟩) (c11 : PySem.W.codeIn K cd11 "_law_thing" = true) (k11 : PySem.W.keepIn K (.ref f11) = true)
    {f12 : Addr} {od12 an12 : Option Addr} {sl12 : Array (Option Value)} {oc12 kV12 dc12 pm12 cd12 ct12 : Value}
    (a12 : PySem.W.nsIn K mainGlobals "_law_is" = some (some (.ref f12))) (l12 : K.lookup f12 = some ⟨oc12, od12, .func (PySem.W.fnOf "_law_is" "_law_is" (defArgs s_is) (defBody s_is) (defScope s_is) .none kV12 dc12 pm12 an12 cd12 ct12), sl12⟩) (c12 : PySem.W.codeIn K cd12 "_law_is" = true) (k12 : PySem.W.keepIn K (.ref f12) = true)
    {f13 : Addr} {od13 an13 : Option Addr} {sl13 : Array (Option Value)} {oc13 kV13 dc13 pm13 cd13 ct13 : Value}
    (a13 : PySem.W.nsIn K mainGlobals "law" = some (some (.ref f13))) (l13 : K.lookup f13 = some ⟨oc13, od13, .func (PySem.W.fnOf "law" "law" (defArgs s_law) (defBody s_law) (defScope s_law) .none kV13 dc13 pm13 an13 cd13 ct13), sl13⟩) (c13 : PySem.W.codeIn K cd13 "law" = true) (k13 : PySem.W.keepIn K (.ref f13) = true)
    (z_bool : PySem.W.nsIn K mainGlobals "bool" = some none)
    (z_int : PySem.W.nsIn K mainGlobals "int" = some none)
    (z_isinstance : PySem.W.nsIn K mainGlobals "isinstance" = some none)
    (z_len : PySem.W.nsIn K mainGlobals "len" = some none)
    (z_max : PySem.W.nsIn K mainGlobals "max" = some none)
    (z_min : PySem.W.nsIn K mainGlobals "min" = some none)
    (z_range : PySem.W.nsIn K mainGlobals "range" = some none)
    (z_str : PySem.W.nsIn K mainGlobals "str" = some none)
    (z_tuple : PySem.W.nsIn K mainGlobals "tuple" = some none)
    (z_type : PySem.W.nsIn K mainGlobals "type" = some none)
    {d : Addr} {es : Array DictEntry} {no : Nat} (sm : PySem.W.nsIn K mainGlobals "SIGNS" = some (some (.ref d))) (sl : K.lookup d = some ⟨.type "dict", none, .dict es no, #[]⟩) (st : PySem.W.KeysLit w.params es.toList) (sy : (d == sysModules) = false) (sk : keysAre es.toList [("num", .str ""), ("at", .str "@"), ("box", .str "b"), ("go", .str "g")])
    : ∃ fd : FuncData, (∀ (s : Shared) (v : Value), BindsTo s fd ⟨[v], []⟩ [("script", v)]) ∧ ∀ base : Heap, K.In base → base.Ns mainGlobals mg → FnOk l.prog w K mg base CX0 5 fa fd ["script"] (spLaw K) := by
  have e := hfa.symm.trans (PySem.W.mg_of X G a13)
  cases e
  have F0 := fun_mk (st := s_is_number) l0 c0 k0
  have F1 := fun_mk (st := s_is_worth) l1 c1 k1
  have F2 := fun_mk (st := s_cell_at) l2 c2 k2
  have F3 := fun_mk (st := s_bag) l3 c3 k3
  have F4 := fun_mk (st := s_draw) l4 c4 k4
  have F5 := fun_mk (st := s_number) l5 c5 k5
  have F6 := fun_mk (st := s_whole) l6 c6 k6
  have F7 := fun_mk (st := s_worth) l7 c7 k7
  have F8 := fun_mk (st := s_sign) l8 c8 k8
  have F9 := fun_mk (st := s_odd) l9 c9 k9
  have F10 := fun_mk (st := s_word) l10 c10 k10
  have F11 := fun_mk (st := s_thing) l11 c11 k11
  have F12 := fun_mk (st := s_is) l12 c12 k12
  have F13 := fun_mk (st := s_law) l13 c13 k13
  let T : Txt l.prog w K mg := {
    f_is_number := f0,
    fd_is_number := _,
    F_is_number := F0,
    b_is_number := F0.binds (ps := ["thing"]) fun _ _ _ _ _ _ us hl => match us, hl with | [_], _ => rfl,
    g_is_number := PySem.W.mg_of X G a0,
    f_is_worth := f1,
    fd_is_worth := _,
    F_is_worth := F1,
    b_is_worth := F1.binds (ps := ["thing"]) fun _ _ _ _ _ _ us hl => match us, hl with | [_], _ => rfl,
    g_is_worth := PySem.W.mg_of X G a1,
    f_cell_at := f2,
    fd_cell_at := _,
    F_cell_at := F2,
    b_cell_at := F2.binds (ps := ["script", "k"]) fun _ _ _ _ _ _ us hl => match us, hl with | [_, _], _ => rfl,
    g_cell_at := PySem.W.mg_of X G a2,
    f_bag := f3,
    fd_bag := _,
    F_bag := F3,
    b_bag := F3.binds (ps := ["cell", "place"]) fun _ _ _ _ _ _ us hl => match us, hl with | [_, _], _ => rfl,
    g_bag := PySem.W.mg_of X G a3,
    f_draw := f4,
    fd_draw := _,
    F_draw := F4,
    b_draw := F4.binds (ps := ["bag", "many"]) fun _ _ _ _ _ _ us hl => match us, hl with | [_, _], _ => rfl,
    g_draw := PySem.W.mg_of X G a4,
    f_number := f5,
    fd_number := _,
    F_number := F5,
    b_number := F5.binds (ps := ["bag"]) fun _ _ _ _ _ _ us hl => match us, hl with | [_], _ => rfl,
    g_number := PySem.W.mg_of X G a5,
    f_whole := f6,
    fd_whole := _,
    F_whole := F6,
    b_whole := F6.binds (ps := ["found"]) fun _ _ _ _ _ _ us hl => match us, hl with | [_], _ => rfl,
    g_whole := PySem.W.mg_of X G a6,
    f_worth := f7,
    fd_worth := _,
    F_worth := F7,
    b_worth := F7.binds (ps := ["bag"]) fun _ _ _ _ _ _ us hl => match us, hl with | [_], _ => rfl,
    g_worth := PySem.W.mg_of X G a7,
    f_sign := f8,
    fd_sign := _,
    F_sign := F8,
    b_sign := F8.binds (ps := ["bag"]) fun _ _ _ _ _ _ us hl => match us, hl with | [_], _ => rfl,
    g_sign := PySem.W.mg_of X G a8,
    f_odd := f9,
    fd_odd := _,
    F_odd := F9,
    b_odd := F9.binds (ps := ["bag"]) fun _ _ _ _ _ _ us hl => match us, hl with | [_], _ => rfl,
    g_odd := PySem.W.mg_of X G a9,
    f_word := f10,
    fd_word := _,
    F_word := F10,
    b_word := F10.binds (ps := ["word", "way", "at", "sign"]) fun _ _ _ _ _ _ us hl => match us, hl with | [_, _, _, _], _ => rfl,
    g_word := PySem.W.mg_of X G a10,
    f_thing := f11,
    fd_thing := _,
    F_thing := F11,
    b_thing := F11.binds (ps := ["bag"]) fun _ _ _ _ _ _ us hl => match us, hl with | [_], _ => rfl,
    g_thing := PySem.W.mg_of X G a11,
    f_is := f12,
    fd_is := _,
    F_is := F12,
    b_is := F12.binds (ps := ["thing"]) fun _ _ _ _ _ _ us hl => match us, hl with | [_], _ => rfl,
    g_is := PySem.W.mg_of X G a12,
    f_law := fa,
    fd_law := _,
    F_law := F13,
    b_law := F13.binds (ps := ["script"]) fun _ _ _ _ _ _ us hl => match us, hl with | [_], _ => rfl,
    g_law := PySem.W.mg_of X G a13,
    n_bool := PySem.W.mg_none_of X G z_bool,
    n_int := PySem.W.mg_none_of X G z_int,
    n_isinstance := PySem.W.mg_none_of X G z_isinstance,
    n_len := PySem.W.mg_none_of X G z_len,
    n_max := PySem.W.mg_none_of X G z_max,
    n_min := PySem.W.mg_none_of X G z_min,
    n_range := PySem.W.mg_none_of X G z_range,
    n_str := PySem.W.mg_none_of X G z_str,
    n_tuple := PySem.W.mg_none_of X G z_tuple,
    n_type := PySem.W.mg_none_of X G z_type,
    d_SIGNS := d,
    es_SIGNS := es,
    no_SIGNS := no,
    c_SIGNS := PySem.W.mg_of X G sm,
    k_SIGNS := ⟨sl, st, sy⟩,
    i_SIGNS := signs_in sl sk }
  exact ⟨PySem.W.fnOf "law" "law" (defArgs s_law) (defBody s_law) (defScope s_law) .none kV13 dc13 pm13 an13 cd13 ct13, fun s v => .of_eq rfl, fun base _ _ => ok_law T⟩
end K01
open PySem PySem.W PyProof.Rows
set_option maxHeartbeats 0 in
theorem PySem.Challenge.cw_manygoings_k01_what_is_a_worth_holds : PySem.Challenge.rw_manygoings_k01_what_is_a_worth.Holds := by
  w_on; o_law; k_head; (case hw => w_witness2)
  k_fill
  refine L2.walk_of (l := PySem.Challenge.rw_manygoings_k01_what_is_a_worth) (n := 63) (k := 5) (x := "script") (CX := fun _ => L2.CX0) (sp := fun w => K01.spLaw _) rfl (by decide) rfl ⟨rfl, by decide, by decide⟩ (fun w h Y => PySem.W.kIn_of Y) ?F (fun _ _ a ns hl _ hS => ⟨a, ns, rfl, hS, hl, fun _ => rfl⟩) (fun _ _ _ _ _ h => h)
  case F =>
    intro w mg fa h KX G hmg
    refine' K01.all_mk KX G hmg ?a0 ?l0 ?c0 ?k0 ?a1 ?l1 ?c1 ?k1 ?a2 ?l2 ?c2 ?k2 ?a3 ?l3 ?c3 ?k3 ?a4 ?l4 ?c4 ?k4 ?a5 ?l5 ?c5 ?k5 ?a6 ?l6 ?c6 ?k6 ?a7 ?l7 ?c7 ?k7 ?a8 ?l8 ?c8 ?k8 ?a9 ?l9 ?c9 ?k9 ?a10 ?l10 ?c10 ?k10 ?a11 ?l11 ?c11 ?k11 ?a12 ?l12 ?c12 ?k12 ?a13 ?l13 ?c13 ?k13 ?z_bool ?z_int ?z_isinstance ?z_len ?z_max ?z_min ?z_range ?z_str ?z_tuple ?z_type ?sm ?sl ?st ?sy ?sk
    (case a0 => k_is); (case l0 => k_is); (case c0 => k_is); (case k0 => k_is); (case a1 => k_is); (case l1 => k_is); (case c1 => k_is); (case k1 => k_is); (case a2 => k_is); (case l2 => k_is); (case c2 => k_is); (case k2 => k_is); (case a3 => k_is); (case l3 => k_is); (case c3 => k_is); (case k3 => k_is); (case a4 => k_is); (case l4 => k_is); (case c4 => k_is); (case k4 => k_is); (case a5 => k_is); (case l5 => k_is); (case c5 => k_is); (case k5 => k_is); (case a6 => k_is); (case l6 => k_is); (case c6 => k_is); (case k6 => k_is); (case a7 => k_is); (case l7 => k_is); (case c7 => k_is); (case k7 => k_is); (case a8 => k_is); (case l8 => k_is); (case c8 => k_is); (case k8 => k_is); (case a9 => k_is); (case l9 => k_is); (case c9 => k_is); (case k9 => k_is); (case a10 => k_is); (case l10 => k_is); (case c10 => k_is); (case k10 => k_is); (case a11 => k_is); (case l11 => k_is); (case c11 => k_is); (case k11 => k_is); (case a12 => k_is); (case l12 => k_is); (case c12 => k_is); (case k12 => k_is); (case a13 => k_is); (case l13 => k_is); (case c13 => k_is); (case k13 => k_is); (case z_bool => k_is); (case z_int => k_is); (case z_isinstance => k_is); (case z_len => k_is); (case z_max => k_is); (case z_min => k_is); (case z_range => k_is); (case z_str => k_is); (case z_tuple => k_is); (case z_type => k_is)
    (case sm => k_is)
    (case sl => k_is)
    (case st => k_keys)
    (case sy => rfl)
    (case sk => exact ⟨⟨_, rfl⟩, ⟨_, rfl⟩, ⟨_, rfl⟩, ⟨_, rfl⟩, ⟨_, rfl⟩, ⟨_, rfl⟩, ⟨_, rfl⟩, ⟨_, rfl⟩, True.intro⟩)

